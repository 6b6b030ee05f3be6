import PyProof.Rows.All
import Wide.All
import OpenK.AllK
import Wide.FinOn
import PyProof.ReprRoads
import PyProof.ReprReads
import PyProof.CallFns
import HandS.ForMost
import HandS.Ends
import HandS.Rev
import HandS.Wide
import PySem.Challenge.RW_lowsure_k24_tables_that_are_equal
import PyProof.InstNe
import HandS.More
import HandS.OwnEq
import HandS.IsInst
import HandS.Exc
import HandS.ExcOwn
import HandS.Walk
import PyProof.ListMulRoad
import PyProof.FactsAll.tuple_2
import HandS.TupMul
import KE.GoesMore
import KE.GoesEnum
import KE.GoesZip
import HandS.WideBits
import HandS.RevRange
import HandS.Conv
import HandS.TupAny
import HandS.Defaults
import HandS.Style
import HandS.Star
import KE.KEqDeep
import HandS.ClsMeth
import HandS.Dict
import KE.KDictPairs
import KE.KDictCopyH
import HandS.Small
import HandS.ExcInit
import HandS.WordsExc
import HandS.ExcField
import PyProof.ReprBulk
import HandS.ExcIs
set_option Elab.async false
set_option linter.all false
set_option maxRecDepth 100000
set_option maxHeartbeats 1000000
namespace MyR
open PySem PySem.Spec PyProof.Rows L2
/-! ### promises kept where no repr is on its way -/
section
variable {P : Program} {w : World} {K : PySem.W.Frag} {mg : Str → Option Value} {base : Heap} {CX : CXT} {k : Nat} {f : Addr} {fd : FuncData} {ps : List Str} {sp : Sp}
structure FnOkG (P : Program) (w : World) (K : PySem.W.Frag) (mg : Str → Option Value) (base : Heap) (CX : CXT) (k : Nat) (f : Addr) (fd : FuncData) (ps : List Str) (sp : Sp) : Prop where
  len : ∀ vs H Q E, sp vs H Q E → vs.length = ps.length
  run : ∀ (A : Around), A.guards = some [] → ∀ (outer : List Env) (s : Shared) (H : Hp) (args : Args) (us : List Value) (vs : List V) (Q : VK) (E : XK), Room k A → Env0 P w K mg base A outer s H → BindsTo s fd args (ps.zip us) → Vals vs us → sp vs H Q E →
    codeAny (model P w) A (.call (.ref f) args) (CR CX outer P w H s Q E) s
theorem FnOkG.of (F : FnOk P w K mg base CX k f fd ps sp) : FnOkG P w K mg base CX k f fd ps sp := ⟨F.len, fun A _ => F.run A⟩
theorem deeper_guards {A : Around} {env : Env} (h : A.guards = some []) : (A.deeper env).guards = some [] := h
/-- a def by its body, as Fun.ok; the body knows that no repr is on its way -/
theorem okG {x qual : Str} {st : Stmt} {N : List Str} (F : Fun K x qual st f fd) (S : FnScope N ps (defScope st)) (len : ∀ vs H Q E, sp vs H Q E → vs.length = ps.length)
    (body : ∀ (cdv : Value) (A : Around), A.guards = some [] → ∀ (outer : List Env) (s : Shared) (H : Hp) (vs : List V) (Q : VK) (E : XK), Room k (A.deeper (envOfC qual (defScope st) s.heap.objs.size f cdv)) → sp vs H Q E →
      ∃ t, PSs (cxOf CX0 P w K mg base N qual (defScope st) f cdv A outer s H E).nox (defBody st) t ∧ t { nx := fun _ H' => Q .non H', rt := Q } (start N vs) H) : FnOkG P w K mg base CX0 (k + 1) f fd ps sp where
  len := len
  run A hg outer s H args us vs Q E room env bind vals want := by
    obtain ⟨oc, od, kV, doc, pm, an, cdv, ct, osl, rfl, at_, code⟩ := F.ex
    obtain ⟨t, derived, reading⟩ := body cdv A hg outer s H vs Q E (room.deeper _) want
    have held : ∀ b o, base.get? b = some o → s.heap.get? b = some o := fun b o e => (env.bs b o e).1
    have written : K.In s.heap := env.mod.kin.keeps held
    have local_ : ∀ y ∈ ps.zip us, (defScope st).names.lookup y.1 = some .local ∨ ((defScope st).names.lookup y.1 = some .cell ∧ ((cellsFrom (s.heap.objs.size + 1) (defScope st).names []).lookup y.1).isSome = true) := by
      rintro ⟨n, v⟩ hy
      exact (S.par n (List.of_mem_zip hy).1).imp id fun q => ⟨q, PySem.W.cellsFrom_some _ _ _ (.inl q)⟩
    refine codeAny_call_function room.depth (written _ _ at_) rfl S.co S.gen rfl (PySem.W.codeRec_of written code) (bind _ _ _ _ ?_)
    refine wpAny_newFunctionEnv_cells S.kind local_ fun e he s1 entered => ?_
    subst he
    refine ⟨(env.mod.nolimit.keeps held).keeps entered.toInCall.keep, codeAny_func ?_⟩
    refine wpAny_mono (derived.nox.run [] s1 (start N vs) H _ (inv_start S room.hd env (len _ _ _ _ want) vals entered) reading) (fun fl s' hs => ?_) fun e s' hs => hs
    cases fl with
    | brk => exact (let ⟨_, _, _, z⟩ := hs; z).elim
    | cont => exact (let ⟨_, _, _, z⟩ := hs; z).elim
    | ret u =>
      obtain ⟨v, _, H', J, rv, q⟩ := hs
      exact ⟨v, H', J.os, J.bare, J.base, J.hok, rv, q⟩
    | next =>
      obtain ⟨_, H', J, q⟩ := hs
      exact ⟨.non, H', J.os, J.bare, J.base, J.hok, rfl, q⟩
end
section
variable {X : Cx} {CX : CXT} {k : Nat} {f : Addr} {fd : FuncData} {ps : List Str} {sp : Sp} {ds : List Value} {dvs : List V} {E : XK} {x : Str} {p pos : Pos} {e : Expr} {es : List Expr} {t : TA}
/-- f(e, ..) of such a def -/
theorem pe_callG (F : FnOkG X.prog X.w X.K X.mg X.base CX k f fd ps sp) (hgd : X.A.guards = some []) (hr : Room k X.A) (hg : Gl X x) (hm : X.mg x = some (.ref f)) (hk : PySem.W.keepIn X.K (.ref f) = true) (hb : Binds X.K fd ps ds) (hd : Vals dvs ds) (hx : Passes CX X E)
    (ha : PA X (e :: es) t) (hdb : (x == ("__debug__" : Str)) = false := by decide) (he : starEach (e :: es) X.env = (false, eval e X.env) :: starEach es X.env := by rfl) (hpl : (backTo pos (starEach es X.env)).any (·.1) = false := by rfl) :
    PE X (.Call (.Name x p) (e :: es) [] pos) (tCall sp dvs E t) where
  run pins s σ H Q I h := by
    refine wpAny_Call_Name_kw (ld_glob I hg hm (PySem.W.callWith_K (h₀ := X.base) I.ok.mod.kin hk (thn (ha.run pos pins s σ H _ I h) fun us s1 got => ?_) he hpl) hdb)
    obtain ⟨vs, H1, I1, r, q⟩ := got
    refine ⟨I1.kIn, wpAny_call ?_⟩
    have long : (us ++ ds).length = ps.length := by rw [← (r.append hd).length]; exact F.len _ _ _ _ q
    refine codeAny_mono (F.run X.A hgd X.stack s1 H1 ⟨us, []⟩ (us ++ ds) (vs ++ dvs) Q E hr I1.env0 (hb s1 us I1.kIn long) (r.append hd) q) fun res s' hq => ?_
    match res, hq with
    | .error e, hq => exact hx pins σ H1 s1 e s' I1 hq
    | .ok (.ret u), hq => exact I1.after hq
/-- repr of None, and of lists and tuples of data at any depth -/
def rReprD (K : PySem.W.Frag) : List V → Hp → VK → Prop := fun xs H Q => (xs = [.non] ∧ Q (.str "None") H) ∨
  ∃ (a : Addr) (d : PyData), xs = [.ref a] ∧ Dp K H (.ref a) d ∧ d.showable = true ∧ d.hasDict = false ∧ d.depth ≤ 60 ∧ d.shown.length ≤ sizeLine ∧ Q (.str d.shown) H
theorem call_reprD (hgd : X.A.guards = some []) (hu : X.A.units + 64 < cLine) : CallR X (.builtin "repr") (rReprD X.K) := by
  intro pins s σ H xs us Q I r h
  rcases h with ⟨rfl, q⟩ | ⟨a, d, rfl, hd, sh, nd, deep, long, q⟩
  · obtain ⟨u, rfl, ru⟩ := vals1 r
    obtain rfl : u = Value.none := ru
    exact PySem.P.repr_of_none ⟨.str "None", H, I.tok _, ⟨_, rfl⟩, q⟩
  · obtain ⟨u, rfl, ru⟩ := vals1 r
    obtain rfl : u = Value.ref a := ru
    obtain ⟨as, rd⟩ := Dp.reads I d _ _ hd rfl
    exact repr_of_reads' rd sh (fun e => by rw [nd] at e; cases e) hgd (by omega) (fun _ _ e => e) (fun h' u tk keep => ⟨.str d.shown, H, I.kept (t' := tk) keep, ⟨u, rfl⟩, q⟩) long
end
end MyR

set_option Elab.async false
set_option linter.all false
set_option maxRecDepth 100000
set_option maxHeartbeats 1000000
namespace MyR
open PySem PySem.Spec PyProof.Rows L2
/-! ### the end of a law whose def knows that no repr is on its way -/
section
variable {P : Program} {w : World} {K : PySem.W.Frag} {mg mb : Str → Option Value} {a : Addr} {s : Shared} {vs : List Value} {ns : List Int}
/-- the heap that the law begins with: the script alone, or nothing where the script is the module's own -/
theorem first_heap (written : K.In s.heap) (script : s.heap.get? a = some { cls := .type "list", data := .seq vs.toArray }) (whole : IntsAre vs ns) (fits : ns.length ≤ sizeLine) :
    ∃ H : Hp, Only H ∧ SqL K H a (ns.map V.int) ∧ HOk P w H s.heap ∧ ∀ b u, H b = some u → b = a ∧ K.lookup a = none ∧ u = .frz { cls := .type "list", data := .seq vs.toArray } (.lst (ns.map V.int)) := by
  have rv := vals_ints whole
  cases found : K.lookup a with
  | some o =>
    have same := written a o found
    rw [script] at same
    obtain rfl := Option.some.inj same
    refine ⟨fun _ => none, fun _ => .inl rfl, .inr ⟨_, vs.toArray, _, found, rfl, rfl, rfl, by rw [List.size_toArray, whole.length]; exact fits, by simpa using rv⟩, fun b u e => ?_, fun b u e => ?_⟩
    · exact absurd (show (none : Option HO) = some u from e) (by simp)
    · exact absurd (show (none : Option HO) = some u from e) (by simp)
  | none =>
    let o : Obj := { cls := .type "list", data := .seq vs.toArray }
    let one : HO := .frz o (.lst (ns.map V.int))
    have only : ∀ b u, (if b = a then some one else none : Option HO) = some u → b = a ∧ u = one := fun b u e => by
      split at e
      · exact ⟨by assumption, (Option.some.inj e).symm⟩
      · cases e
    refine ⟨fun b => if b = a then some one else none, fun b => ?_, .inl (.inr ⟨o, if_pos rfl⟩), fun b u e => ?_, fun b u e => ⟨(only b u e).1, rfl, (only b u e).2⟩⟩
    · by_cases hb : b = a
      · exact .inr ⟨_, _, if_pos hb⟩
      · exact .inl (if_neg hb)
    · obtain ⟨rfl, rfl⟩ := only b u e
      exact ⟨script, by rw [List.length_map]; exact fits, vs, _, rv, script⟩
variable {CX : CXT} {k : Nat} {fa : Addr} {fd : FuncData} {x : Str} {sp : Sp}
theorem law_callG (written : K.In s.heap) (names : s.heap.Ns mainGlobals mg) (blt : s.heap.Ns builtinsNs mb) (bltIs : ∀ x : Str, x ≠ "__name__" → mb x = bootBuiltins x) (free : s.heap.NoLimit) (noGens : s.gens = #[])
    (script : s.heap.get? a = some { cls := .type "list", data := .seq vs.toArray }) (whole : IntsAre vs ns) (fits : ns.length ≤ sizeLine) (room : Room k callerA)
    (F : ∀ base : Heap, K.In base → base.Ns mainGlobals mg → FnOkG P w K mg base CX k fa fd [x] sp) (bind : ∀ (s : Shared) (u : Value), BindsTo s fd ⟨[u], []⟩ [(x, u)])
    (want : ∀ H : Hp, Only H → SqL K H a (ns.map V.int) → sp [.ref a] H (fun v _ => v = .bl true) fun _ _ _ => False) (quiet : ∀ H e s', CX [] H s (fun _ _ _ => False) e s' → False) :
    codeAny (model P w) callerA (.call (.ref fa) ⟨[.ref a], []⟩) (fun r s' => r = .ok (.ret (.bool true)) ∧ OldK s.heap s'.heap ∧ s'.os = s.os ∧ AllBare s'.gens) s := by
  obtain ⟨H, only, sq, hok, known⟩ := first_heap (P := P) (w := w) written script whole fits
  -- what is no dict's or the written part's stands with the script hidden
  have hid : ∀ {b : Addr} {o : Obj}, s.heap.get? b = some o → (b = a → False) → (hidT s.heap H).get? b = some o := fun {b o} e nb => hidT_get e (by
    cases q : H b with
    | none => rfl
    | some u => exact (nb (known b u q).1).elim)
  have dicts : ∀ {b : Addr} {m : Str → Option Value}, s.heap.Ns b m → (hidT s.heap H).Ns b m := fun {b m} n => by
    obtain ⟨o, es, ep, e, d, r⟩ := n
    refine ⟨o, es, ep, hid e (fun z => ?_), d, r⟩
    subst z
    rw [script] at e
    obtain rfl := Option.some.inj e
    exact absurd (show Data.seq vs.toArray _ = Data.dict es ep from d) (by simp)
  have kin : K.In (hidT s.heap H) := fun b o e => hidT_get (written b o e) (by
    cases q : H b with
    | none => rfl
    | some u =>
      obtain ⟨rfl, no, _⟩ := known b u q
      rw [no] at e
      cases e)
  have mod : Mod K mg (hidT s.heap H) := ⟨kin, dicts names, ⟨mb, dicts blt, bltIs⟩, let ⟨mc, h1, h2⟩ := free; ⟨mc, dicts h1, h2⟩⟩
  have env : Env0 P w K mg (hidT s.heap H) callerA [] s H := ⟨rfl, mod, fun b o e => of_hidT e, Nat.le_of_eq (hidT_size _ _), trivial, fun b hb => (List.not_mem_nil (show b ∈ ([] : List Addr) from hb)).elim, hok, .of_eq noGens⟩
  refine codeAny_mono ((F _ kin (dicts names)).run callerA rfl [] s H ⟨[.ref a], []⟩ [.ref a] [.ref a] _ _ room env (bind s (.ref a)) (.cons rfl .nil) (want H only sq)) fun r s' h => ?_
  match r, h with
  | .error e, h => exact (quiet H e s' h).elim
  | .ok (.ret u), h =>
    obtain ⟨v, H', os, bare, un, hok', r', q⟩ := h
    obtain rfl : v = .bl true := q
    obtain rfl : u = Value.bool true := r'
    refine ⟨rfl, OldK.of_keep fun b o e => ?_, os, bare⟩
    cases q : H b with
    | none => exact un.keep b o e q (fun z => nomatch z) (by simp)
    | some u =>
      obtain ⟨rfl, _, rfl⟩ := known b u q
      have e2 := (hok' _ _ (un.frzs _ _ _ q)).1
      rw [script] at e
      rw [← Option.some.inj e]
      exact e2
end
theorem walk_ofG {l : PySem.W.OpenLaw} {n k : Nat} {q : Program} {loose : List Str} {XP : (Str → Option Value) → Heap → Prop} {YP : World → Heap → Prop} {d : DefRec} {K : Params → PySem.W.Frag} {CX : World → CXT} {sp : World → Sp} {x : Str}
    (most : l.most = some n) (line : n ≤ sizeLine) (plain : d.params.defaults = []) (room : Room k callerA) (top : ∀ (w : World) (h : Heap), YP w h → (K w.params).In h)
    (F : ∀ (w : World) (mg : Str → Option Value) (fa : Addr) (h : Heap), (K w.params).In h → h.Ns mainGlobals mg → mg d.name = some (.ref fa) →
      ∃ fd : FuncData, (∀ (s : Shared) (u : Value), BindsTo s fd ⟨[u], []⟩ [(x, u)]) ∧ ∀ base : Heap, (K w.params).In base → base.Ns mainGlobals mg → FnOkG l.prog w (K w.params) mg base (CX w) k fa fd [x] (sp w))
    (want : ∀ (w : World) (H : Hp) (a : Addr) (ns : List Int), ns.length ≤ n → Only H → SqL (K w.params) H a (ns.map V.int) → sp w [.ref a] H (fun v _ => v = .bl true) fun _ _ _ => False)
    (quiet : ∀ (w : World) (H : Hp) (s : Shared) (e : Value) (s' : Shared), CX w [] H s (fun _ _ _ => False) e s' → False) : PySem.W.WalkO q loose XP YP l.row.toRowW d [] (fun f vs => PySem.call f vs) :=
  Att.attach_call most plain fun w s₀ s₁ mg mb fa o pm cd doc a vs ns G Y _ _ _ hmg hobj hints hlen hgen => by
    obtain ⟨fd, bind, hF⟩ := F w mg fa _ (top w _ Y) G.T.g hmg
    exact law_callG (top w _ Y) G.T.g G.T.b G.T.builtins G.T.nolimit hgen hobj hints (Nat.le_trans hlen line) room hF bind (fun H only sq => want w H a ns hlen only sq) fun H e s' => quiet w H s₁ e s'
end MyR

set_option Elab.async false
set_option linter.all false
set_option maxRecDepth 100000
set_option maxHeartbeats 1000000
namespace MyR
open PySem PySem.Spec PyProof.Rows L2 RT
section
variable {prog : Program} {w : World} {A : Around} {E : Value → Shared → Prop} {s : Shared}
theorem extend_rev {R : Result → Shared → Prop} {S it l : Addr} {items : Array Value} {res : Value} {c0 : Nat} (hh : A.handled = none) (hit : s.heap.IsRevIter it l ((items.size : Int) - 1)) (hl : s.heap.IsList l items) (hne : l ≠ it) (hSi : S ≠ it) (hSl : S ≠ l) (hn : items.size ≤ sizeLine)
    (hS : s.heap.get? S = some { cls := .type "list", data := .seq #[] c0 })
    (hR : ∀ (s' : Shared) (acc : Array Value) (c' : Nat), (∀ b o, b ≠ it → b ≠ S → s.heap.get? b = some o → s'.heap.get? b = some o) → s' = { s with heap := s'.heap, toks := s'.toks } → s'.heap.get? S = some { cls := .type "list", dict := none, data := .seq acc c', slots := #[] } →
      ItemsOf (fun i v => items[items.size - 1 - i]? = some v) acc items.size → R (.ok (.ret res)) s') :
    wpAny (model prog w) A.in1 (Builtin.List.listExtendWith (.ref S) (.ref it) res)
      (fun fin s' => match fin with | .done f => R (.ok f) s' | .again c' => c'.quiet = true ∧ codeAny (model prog w) A c' R s') (fun e s' => R (.error e) s') s := by
  have W := (Walks.listRev (prog := prog) (w := w) (A := A.in1) hh it l hne items).toS
  have hSf : S ∉ [it, l] := by simp only [List.mem_cons, List.not_mem_nil, or_false, not_or]; exact ⟨hSi, hSl⟩
  have hT : s.TypeIs (.ref it) "list_reverseiterator" := hit.typeIs
  have h1 : Builtin.List.listSameRef (.ref S) (.ref it) = false := by simp [Builtin.List.listSameRef, hSi]
  unfold Builtin.List.listExtendWith
  refine wpAny_bind (wpAny_typeOf hT ?_)
  rw [if_neg (by rw [h1]; decide)]
  refine wpAny_bind (wpAny_pyIter_revIter hit ?_)
  refine wpAny_bind (wpAny_holding ?_)
  unfold Builtin.List.listLengthHint
  refine wpAny_bind (wpAny_specialOf hT nolen_lri ?_)
  show wpAny _ A.in1 (specialOf (Value.ref it) (Str.ofString "__length_hint__") >>= _) _ _ _
  refine wpAny_bind (wpAny_specialOf hT hint_lri ?_)
  generalize hid : ("list_reverseiterator.__length_hint__" : String) = id0
  wp_delta
  rw [show splitId id0 = some ("list_reverseiterator", "__length_hint__") from by subst hid; decide +kernel]
  subst hid
  refine wpAny_bind (wpAny_isInstance (b := true) hT (by rw [isSubtype_type]; kernel_rfl) ?_)
  refine wpAny_pure ?_
  rw [if_neg (by decide)]
  have e0 : ((items.size : Nat) : Int) - 1 - ((0 : Nat) : Int) = (items.size : Int) - 1 := by omega
  refine wpAny_pure ⟨plainId_quiet F.plain_extend_loop _, codeAny_extend_loopS W hn _ hSf _ items.size 0 _ _ _ rfl (Nat.zero_le _) ⟨Nat.zero_le _, by rw [e0]; exact hit, hl⟩ hS (ItemsOf.nil _) fun s' acc' c' hm hS' hacc => ?_⟩
  refine hR s' acc' c' (fun b o hb hb2 e => hm.heap b o (fun hmem => ?_) e) (Moved.eq_with hm) hS' hacc
  rcases List.mem_cons.mp hmem with e' | hmem
  · exact hb2 e'
  · exact hb (List.mem_singleton.mp hmem)
theorem list_init_rev {R : Result → Shared → Prop} {S it l : Addr} {items : Array Value} (hh : A.handled = none) (hit : s.heap.IsRevIter it l ((items.size : Int) - 1)) (hl : s.heap.IsList l items) (hne : l ≠ it) (hSi : S ≠ it) (hSl : S ≠ l) (hn : items.size ≤ sizeLine)
    (hS : s.heap.get? S = some { cls := .type "list", data := .seq #[] })
    (hR : ∀ (s' : Shared) (acc : Array Value) (c' : Nat), (∀ b o, b ≠ it → b ≠ S → s.heap.get? b = some o → s'.heap.get? b = some o) → s' = { s with heap := s'.heap, toks := s'.toks } → s'.heap.get? S = some { cls := .type "list", dict := none, data := .seq acc c', slots := #[] } →
      ItemsOf (fun i v => items[items.size - 1 - i]? = some v) acc items.size → R (.ok (.ret .none)) s') :
    wpAny (model prog w) A.in1 (Builtin.«list.__init__» ⟨[.ref S, .ref it], []⟩)
      (fun fin s' => match fin with | .done f => R (.ok f) s' | .again c' => c'.quiet = true ∧ codeAny (model prog w) A c' R s') (fun e s' => R (.error e) s') s := by
  show wpAny _ A.in1 (do let old ← Builtin.List.listItems (.ref S); Builtin.List.listUpdate (.ref S) (fun _ => #[]); letGo old.toList.reverse; Builtin.List.listExtendWith (.ref S) (.ref it) .none) _ _ s
  refine wpAny_bind ?_
  unfold Builtin.List.listItems
  refine wpAny_bind (wpAny_seqItems hS rfl (wpAny_pure ?_))
  show wpAny _ A.in1 (updateSeq S (fun _ => #[]) >>= fun _ => letGo (#[] : Array Value).toList.reverse >>= fun _ => Builtin.List.listExtendWith (.ref S) (.ref it) .none) _ _ s
  refine wpAny_bind (wpAny_updateSeq hS rfl ?_)
  have hS2 := Heap.get?_update_self (Obj.mapSeq (fun _ => (#[] : Array Value))) hS rfl
  have oth : ∀ b o, b ≠ S → s.heap.get? b = some o → (s.heap.update S (Obj.mapSeq (fun _ => (#[] : Array Value)))).get? b = some o :=
    fun b o hb e => (Heap.get?_update_other _ _ (Ne.symm hb)).trans e
  refine wpAny_bind (wpAny_letGo ?_)
  refine extend_rev hh (hit.at fun o e => oth it o (Ne.symm hSi) e) (hl.at fun o e => oth l o (Ne.symm hSl) e) hne hSi hSl hn hS2 fun s' acc c' hk hs hS' hi => ?_
  refine hR s' acc c' (fun b o h1 h2 e => hk b o h1 h2 (oth b o h2 e)) ?_ hS' hi
  exact hs
theorem call_list_rev {it l : Addr} {items : Array Value} {Q : Value → Shared → Prop} (hh : A.handled = none) (hit : s.heap.IsRevIter it l ((items.size : Int) - 1)) (hl : s.heap.IsList l items) (hne : l ≠ it) (hn : items.size ≤ sizeLine)
    (hQ : ∀ (s' : Shared) (acc : Array Value) (c' : Nat), (∀ b o, b ≠ it → s.heap.get? b = some o → s'.heap.get? b = some o) → s' = { s with heap := s'.heap, toks := s'.toks } → s'.heap.get? s.heap.objs.size = some { cls := .type "list", dict := none, data := .seq acc c', slots := #[] } →
      ItemsOf (fun i v => items[items.size - 1 - i]? = some v) acc items.size → Q (.ref s.heap.objs.size) s') :
    wpAny (model prog w) A (call (.type "list") [.ref it]) Q E s := by
  obtain ⟨oi, hoi, _⟩ := id hit
  obtain ⟨ol, hol, _⟩ := id hl
  have hSi : s.heap.objs.size ≠ it := Nat.ne_of_gt (Heap.lt_size hoi)
  have hSl : s.heap.objs.size ≠ l := Nat.ne_of_gt (Heap.lt_size hol)
  refine callType_codes (Q₁ := fun obj s₁ => obj = .ref s.heap.objs.size ∧ s₁ = { s with heap := s.heap.push { cls := .type "list", data := .seq #[] } }) F.called_list (F.typeCall_list_1 _) F.entry_list_init
    (code_list_new _ ⟨rfl, rfl⟩) fun obj s₁ h₁ => ?_
  obtain ⟨rfl, rfl⟩ := h₁
  have hS : (s.heap.push { cls := .type "list", data := .seq #[] }).get? s.heap.objs.size = some { cls := .type "list", data := .seq #[] } := Heap.get?_push_size _ rfl
  refine ⟨⟨_, hS, rfl⟩, F.args_list_init_2 _ _, list_init_rev (A := A.in1) hh (hit.at fun o e => Heap.get?_push_of_some _ e) (hl.push _) hne hSi hSl hn hS fun s' acc c' hk hs hS' hi => ?_⟩
  exact ⟨rfl, hQ s' acc c' (fun b o hb e => hk b o hb (Nat.ne_of_lt (Heap.lt_size e)) (Heap.get?_push_of_some _ e)) hs hS' hi⟩
end
/-- list(reversed(x)), x a list: a new list -/
def tLstRev (K : PySem.W.Frag) (te : TE) : TE := fun σ H Q => te σ H fun v H1 => ∃ (a : Addr) (xs : List V), v = .ref a ∧ SqL K H1 a xs ∧ ∀ q, H1 q = none → Q (.ref q) (upd H1 q (.lst xs.reverse))
section
variable {X : Cx}
theorem pe_lstRev {e : Expr} {te : TE} {p p2 pos pos2 : Pos} (hc : X.calm = true) (hg : Gl X "list") (hm : X.mg "list" = none) (hg2 : Gl X "reversed") (hm2 : X.mg "reversed" = none) (he : PE X e te)
    (hs : starEach [e] X.env = (false, eval e X.env) :: starEach [] X.env := by rfl)
    (hs2 : starEach [.Call (.Name "reversed" p2) [e] [] pos2] X.env = (false, eval (.Call (.Name "reversed" p2) [e] [] pos2) X.env) :: starEach [] X.env := by rfl) :
    PE X (.Call (.Name "list" p) [.Call (.Name "reversed" p2) [e] [] pos2] [] pos) (tLstRev X.K te) := by
  refine ⟨fun pins s σ H Q I h => ?_⟩
  refine Call_ (ld_blt I hg hm (show bootBuiltins "list" = some (.type "list") by decide +kernel) (PyProof.Rows.callWith_type1 (args_cons (Call_ (ld_blt I hg2 hm2 PyProof.Rows.boot_reversed (PyProof.Rows.callWith_type1 (args_cons (thn (he.run pins s σ H _ I h) fun u s1 ⟨v, H1, I1, r1, q1⟩ => args_nil ?_) hs) hs rfl))) hs2) hs2 rfl))
  obtain ⟨a, xs, ev, hq, q⟩ := q1
  subst ev
  obtain rfl : u = Value.ref a := r1
  obtain ⟨its, rv, p', hz⟩ := I1.list hq
  refine call_reversed_list p'.isList (args_nil ?_)
  have k0 : ∀ b o, s1.heap.get? b = some o → (s1.heap.push (revObj a ((its.toArray.size : Int) - 1))).get? b = some o := fun b o e => Heap.get?_push_of_some _ e
  have hl := p'.isList
  obtain ⟨ol, hol, _⟩ := id hl
  have hne : a ≠ s1.heap.objs.size := Nat.ne_of_lt (Heap.lt_size hol)
  have hn : its.toArray.size ≤ sizeLine := by rw [List.size_toArray, ← rv.length]; exact hz
  refine call_list_rev (s := { s1 with heap := s1.heap.push (revObj a ((its.toArray.size : Int) - 1)) }) (I1.ok.hd hc) ⟨_, Heap.get?_push_size _ rfl, rfl, rfl⟩ (hl.push _) hne hn fun s' acc c' hk hs' hS' hi => ?_
  have kk : ∀ b o, s1.heap.get? b = some o → s'.heap.get? b = some o := fun b o e => hk b o (Nat.ne_of_lt (Heap.lt_size e)) (k0 b o e)
  have hsz : s1.heap.objs.size ≤ (s1.heap.push (revObj a ((its.toArray.size : Int) - 1))).objs.size := by rw [Heap.size_push]; exact Nat.le_succ _
  have J := I1.laid (a := (s1.heap.push (revObj a ((its.toArray.size : Int) - 1))).objs.size) (o := .lst xs.reverse) (h' := s'.heap) (t' := s'.toks) kk hsz
    (show ObjOk X.prog X.w _ _ _ (.lst xs.reverse) from ⟨by rw [List.length_reverse]; exact hz, acc.toList, c', vals_rev rv hi, by rw [Array.toArray_toList]; exact hS'⟩)
  rw [hs']
  exact ⟨.ref _, _, J, rfl, q _ (I1.hok.fresh hsz)⟩
end
end MyR

set_option Elab.async false
set_option linter.all false
set_option maxRecDepth 100000
set_option maxHeartbeats 1000000
namespace My
open PySem L2 MyR
def top (i : Nat) : Stmt := PySem.Challenge.pw_lowsure_k24_tables_that_are_equal.main.body.getD i (.Pass ⟨0, 0, 0, 0⟩)
/-- what the module's names hold -/
structure Glob (mg : Str → Option Value) : Prop where
  g_len : mg "len" = none
  g_max : mg "max" = none
  g_list : mg "list" = none
  g_tuple : mg "tuple" = none
  g_reversed : mg "reversed" = none
  g_range : mg "range" = none
  g_int : mg "int" = none
  g_str : mg "str" = none
  g_bool : mg "bool" = none
  g_isinstance : mg "isinstance" = none
  g_all : mg "all" = none
  g_enumerate : mg "enumerate" = none
  g_zip : mg "zip" = none
/-! ### the source of draws -/
def dKV (s n : Int) (l : Addr) : List (Key × V) := [(.inr "seed", .int s), (.inr "number", .int n), (.inr "left", .ref l)]
theorem k_sn : ¬ ((.inr "seed" : Key) = .inr "number") := fun h => absurd (Sum.inr.inj h) (by decide +kernel)
theorem k_sl : ¬ ((.inr "seed" : Key) = .inr "left") := fun h => absurd (Sum.inr.inj h) (by decide +kernel)
theorem k_nl : ¬ ((.inr "number" : Key) = .inr "left") := fun h => absurd (Sum.inr.inj h) (by decide +kernel)
theorem d_seed {s n : Int} {l : Addr} : valV (dKV s n l) (.inr "seed") = some (.int s) := valV_pos rfl
theorem d_number {s n : Int} {l : Addr} : valV (dKV s n l) (.inr "number") = some (.int n) := by
  unfold dKV; rw [valV_neg k_sn, valV_pos rfl]
theorem d_left {s n : Int} {l : Addr} : valV (dKV s n l) (.inr "left") = some (.ref l) := by
  unfold dKV; rw [valV_neg k_sl, valV_neg k_nl, valV_pos rfl]
theorem d_put_seed {s n z : Int} {l : Addr} : putK (dKV s n l) (.inr "seed") (.int z) = dKV z n l := by
  unfold putK
  rw [valV_any, d_seed]
  rw [if_pos (show (some (V.int s)).isSome = true from rfl)]
  unfold dKV
  simp only [List.map_cons, List.map_nil, if_true, if_neg (Ne.symm k_sn), if_neg (Ne.symm k_sl)]
theorem d_put_number {s n z : Int} {l : Addr} : putK (dKV s n l) (.inr "number") (.int z) = dKV s z l := by
  unfold putK
  rw [valV_any, d_number]
  rw [if_pos (show (some (V.int n)).isSome = true from rfl)]
  unfold dKV
  simp only [List.map_cons, List.map_nil, if_true, if_neg k_sn, if_neg (Ne.symm k_nl)]
theorem d_merge {s n : Int} {l : Addr} : mergeK [] (dKV s n l) = dKV s n l := by
  unfold mergeK dKV
  simp only [List.foldl_cons, List.foldl_nil]
  have e1 : putK ([] : List (Key × V)) (.inr "seed") (.int s) = [(.inr "seed", .int s)] := putK_new _ valV_nil
  have e2 : putK ([(.inr "seed", .int s)] : List (Key × V)) (.inr "number") (.int n) = [(.inr "seed", .int s), (.inr "number", .int n)] := putK_new _ (by rw [valV_neg k_sn]; rfl)
  have e3 : putK ([(.inr "seed", .int s), (.inr "number", .int n)] : List (Key × V)) (.inr "left") (.ref l) = [(.inr "seed", .int s), (.inr "number", .int n), (.inr "left", .ref l)] := putK_new _ (by rw [valV_neg k_sl, valV_neg k_nl]; rfl)
  rw [e1, e2, e3]
theorem g_seed {H : Hp} {d l : Addr} {s n : Int} (h : H d = some (.dK (dKV s n l))) : DGet H d (.str "seed") (some (.int s)) := by
  have q := DGet.k (k := .inr "seed") h
  rw [d_seed] at q
  exact q
theorem g_number {H : Hp} {d l : Addr} {s n : Int} (h : H d = some (.dK (dKV s n l))) : DGet H d (.str "number") (some (.int n)) := by
  have q := DGet.k (k := .inr "number") h
  rw [d_number] at q
  exact q
theorem g_left {H : Hp} {d l : Addr} {s n : Int} (h : H d = some (.dK (dKV s n l))) : DGet H d (.str "left") (some (.ref l)) := by
  have q := DGet.k (k := .inr "left") h
  rw [d_left] at q
  exact q
theorem p_seed {H : Hp} {d l : Addr} {s n z : Int} (h : H d = some (.dK (dKV s n l))) : DPut H d (.str "seed") (.int z) (upd H d (.dK (dKV z n l))) := by
  have q := DPut.k (k := .inr "seed") (v := .int z) h (by show 3 < sizeLine; decide)
  rw [d_put_seed] at q
  exact q
theorem p_number {H : Hp} {d l : Addr} {s n z : Int} (h : H d = some (.dK (dKV s n l))) : DPut H d (.str "number") (.int z) (upd H d (.dK (dKV s z l))) := by
  have q := DPut.k (k := .inr "number") (v := .int z) h (by show 3 < sizeLine; decide)
  rw [d_put_number] at q
  exact q
/-- what holds between a statement and the rest -/
theorem seq_by {t u : TS} {D : Ends} {σ : St} {H : Hp} (Pv : St → Hp → Prop) (h1 : ∀ D' : Ends, (∀ σ H, Pv σ H → D'.nx σ H) → t D' σ H) (h2 : ∀ σ H, Pv σ H → u D σ H) : tSeq t u D σ H := h1 { D with nx := u D } h2
structure Deal (H : Hp) (d l : Addr) : Prop where
  ex : ∃ (s n : Int) (ns : List Int), H d = some (.dK (dKV s n l)) ∧ H l = some (.lst (ns.map V.int)) ∧ 0 ≤ s ∧ s < 2147483648
/-- what stood but at d and l stands as it was -/
def Kept (d l : Addr) (H H' : Hp) : Prop := ∀ b o, H b = some o → b ≠ d → b ≠ l → H' b = some o
theorem Kept.refl {d l : Addr} {H : Hp} : Kept d l H H := fun _ _ e _ _ => e
theorem Kept.trans {d l : Addr} {H H1 H2 : Hp} (a : Kept d l H H1) (b : Kept d l H1 H2) : Kept d l H H2 := fun c o e h1 h2 => b c o (a c o e h1 h2) h1 h2
theorem Kept.d {d l : Addr} {H H1 : Hp} {o : HO} (a : Kept d l H H1) : Kept d l H (upd H1 d o) := fun c o e h1 h2 => by rw [upd_ne h1]; exact a c o e h1 h2
theorem Kept.l {d l : Addr} {H H1 : Hp} {o : HO} (a : Kept d l H H1) : Kept d l H (upd H1 l o) := fun c o e h1 h2 => by rw [upd_ne h2]; exact a c o e h1 h2
def spDraw : Sp := fun vs H Q _ => ∃ (d l : Addr) (m : Int), vs = [.ref d, .int m] ∧ Deal H d l ∧ 0 < m ∧ m.natAbs < 2 ^ 110 ∧
  ∀ (r : Int) (H' : Hp), 0 ≤ r → r < m → Deal H' d l → Kept d l H H' → Q (.int r) H'
section
variable {P : Program} {w : World} {K : PySem.W.Frag} {mg : Str → Option Value} {base : Heap}
abbrev s_law_draw : Stmt := top 32
abbrev N_law_draw : List Str := ["_law_deal_here", "_law_many", "_law_number", "_law_one", "_law_other"]
theorem sc_law_draw : FnScope N_law_draw ["_law_deal_here", "_law_many"] (defScope s_law_draw) := ⟨rfl, rfl, rfl, by decide +kernel, rfl, by decide +kernel, by decide +kernel⟩
theorem ok_law_draw {f : Addr} {fd : FuncData} (F : Fun K "_law_draw" "_law_draw" s_law_draw f fd) (T : Glob mg) : FnOk P w K mg base CX0 1 f fd ["_law_deal_here", "_law_many"] spDraw := by
  refine F.ok sc_law_draw (fun vs H Q E h => ?_) (fun cdv A outer s H vs Q E hr h => ?_)
  · obtain ⟨d, l, m, rfl, _⟩ := h
    rfl
  · obtain ⟨d, l, m, rfl, D, hm, hb, k⟩ := h
    have hu := hu_of hr
    have nd := sc_law_draw.nd
    refine ⟨_, (pss_cons (ps_while PassesOwn.never (PW.pt (pw_and (pt_cmpR op_eq (pe_dget hu (pv 0) pe_str (fun _ _ => rfl)) pe_int (nomark _)) (pw_and1 (pt_cmpR op_gt (pe_callB call_len_seq (by rfl) T.g_len PySem.boot_len (pa_cons (pe_dget hu (pv 0) pe_str (fun _ _ => rfl)) pa_nil)) pe_int (nomark _)))))
      (pss_one (ps_dput hu (pv 0) pe_str (pe_bm0 PySem.F.plainAttrs_list PySem.F.slot_list_pop PySem.F.type_list_pop mt_pop (pe_dget hu (pv 0) pe_str (fun _ _ => rfl))) rfl)))
    (pss_cons (ps_set (i := 2) nd rfl (Or.inl rfl) (pe_dget hu (pv 0) pe_str (fun _ _ => rfl)))
    (pss_cons (ps_if (pt_cmpR op_gt (pv 2) pe_int (nomark _))
    (pss_cons (ps_dput hu (pv 0) pe_str (pe_op op_fdivW (pv 2) (pv 1)) rfl)
    (pss_one (ps_ret (pe_op op_mod (pv 2) (pv 1)))))
    pss_nil)
    (pss_cons (ps_set (i := 3) nd rfl (Or.inl rfl) (pe_op op_mod (pe_op op_add (pe_op op_mul (pe_dget hu (pv 0) pe_str (fun _ _ => rfl)) pe_int) pe_int) pe_int))
    (pss_cons (ps_dput hu (pv 0) pe_str (pe_op op_mod (pe_op op_add (pe_op op_mul (pv 3) pe_int) pe_int) pe_int) rfl)
    (pss_cons (ps_set (i := 4) nd rfl (Or.inl rfl) (pe_op op_mod (pe_op op_mul (pe_dget hu (pv 0) pe_str (fun _ _ => rfl)) (pe_dget hu (pv 0) pe_str (fun _ _ => rfl))) pe_int))
    (pss_one (ps_ret (pe_op op_mod (pe_op op_add (pe_op op_mul (pe_op op_mod (pe_op op_mul (pv 3) (pv 3)) pe_int) pe_int) (pv 4)) (pv 1)))))))))), ?_⟩
    refine seq_by (fun σ H1 => σ = [some (.ref d), some (.int m), none, none, none] ∧ Deal H1 d l ∧ Kept d l H H1) (fun D' hD' => ?_) ?_
    · refine while_by (fun σ H1 => σ = [some (.ref d), some (.int m), none, none, none] ∧ Deal H1 d l ∧ Kept d l H H1)
        (fun _ H1 => match H1 l with | some (.lst xs) => xs.length | _ => 0) ⟨rfl, D, Kept.refl⟩ ?_ ?_
      · rintro σ H1 ⟨rfl, D1, kp⟩
        obtain ⟨s0, n, ns, hd, hl, hs0, hs1⟩ := id D1
        have ndl : d ≠ l := ne_of hd hl (by intro z; cases z)
        refine ⟨_, rfl, d, _, rfl, g_number hd, rfl, _, rfl, ?_⟩
        refine ite2 (fun hz => ?_) (fun hz => ?_)
        · refine ⟨_, rfl, d, _, rfl, g_left hd, l, _, rfl, .inl (SqL.of hl), _, _, rfl, rfl, _, rfl, ?_⟩
          refine ite2 (fun hz2 => ?_) (fun hz2 => ?_)
          · have hp : 0 < ns.length := by
              have := of_decide_eq_true hz2
              rw [List.length_map] at this
              omega
            have hg : (ns.map V.int)[(ns.map V.int).length - 1]? = some (.int (ns[ns.length - 1])) := by
              rw [List.length_map, List.getElem?_map, List.getElem?_eq_getElem (by omega)]
              rfl
            refine ⟨_, rfl, d, _, rfl, g_left hd, .inl ⟨rfl, _, SqL.of hl⟩, l, _, _, rfl, rfl, hl, hg, _, rfl, d, _, rfl, p_number (by rw [upd_ne ndl]; exact hd), ?_⟩
            have e2 : (ns.map V.int).dropLast = ns.dropLast.map V.int := by rw [List.map_dropLast]
            refine ⟨⟨rfl, ⟨⟨s0, _, ns.dropLast, upd_same, by rw [upd_ne ndl.symm, upd_same, e2], hs0, hs1⟩⟩, kp.l.d⟩, ?_⟩
            rw [upd_ne ndl.symm, upd_same, hl]
            show (ns.map V.int).dropLast.length < (ns.map V.int).length
            rw [List.length_dropLast, List.length_map]
            omega
          · exact hD' _ _ ⟨rfl, D1, kp⟩
        · refine iteF ?_
          exact hD' _ _ ⟨rfl, D1, kp⟩
      · intro σ H1 Q1 Q2 hq hc
        obtain ⟨x, e1, a, v, e2, hg, sc, b1, eb, hc⟩ := hc
        refine ⟨x, e1, a, v, e2, hg, sc, b1, eb, ?_⟩
        revert hc
        cases b1 with
        | false => exact fun hc => hq _ _ hc
        | true =>
          intro hc
          obtain ⟨x2, e3, a2, v2, e4, hg2, p, ys, e5, sq, i1, j1, e6, e7, k1, e8, hc⟩ := hc
          exact ⟨x2, e3, a2, v2, e4, hg2, p, ys, e5, sq, i1, j1, e6, e7, k1, e8, hq _ _ hc⟩
    · rintro σ H1 ⟨rfl, D1, kp⟩
      obtain ⟨s0, n, ns, hd, hl, hs0, hs1⟩ := id D1
      have ndl : d ≠ l := ne_of hd hl (by intro z; cases z)
      refine ⟨_, rfl, d, _, rfl, g_number hd, _, rfl, _, _, rfl, rfl, _, rfl, ?_⟩
      refine ite2 (fun hz => ?_) (fun hz => ?_)
      · have h63 : 0 < m := hm
        refine ⟨_, rfl, _, rfl, _, _, rfl, rfl, wide_div hm hb (by decide) (by decide), _, rfl, d, _, rfl, p_number hd, ?_⟩
        refine ⟨_, rfl, _, rfl, _, _, rfl, rfl, hm, ?_⟩
        exact k _ _ (Int.emod_nonneg _ (by omega)) (Int.emod_lt_of_pos _ hm) ⟨⟨s0, _, ns, upd_same, by rw [upd_ne ndl.symm]; exact hl, hs0, hs1⟩⟩ kp.d
      · -- the seed turns
        have r1 : ∀ (x y : Int), 0 < y → 0 ≤ x % y ∧ x % y < y := fun x y hy => ⟨Int.emod_nonneg _ (by omega), Int.emod_lt_of_pos _ hy⟩
        have ha1 := r1 (s0 * 48271 + 7919) 2147483647 (by decide)
        have hb1 := r1 ((s0 * 48271 + 7919) % 2147483647 * 40692 + 104729) 2147483399 (by decide)
        have q := r1 ((s0 * 48271 + 7919) % 2147483647 * ((s0 * 48271 + 7919) % 2147483647)) 2147483629 (by decide)
        refine ⟨_, rfl, d, _, rfl, g_seed hd, _, _, rfl, rfl, .inl ⟨by omega, by omega⟩, _, _, rfl, rfl, _, _, rfl, rfl, (by show (0 : Int) < 2147483647; decide), ?_⟩
        refine ⟨_, rfl, _, _, rfl, rfl, .inl ⟨by omega, by omega⟩, _, _, rfl, rfl, _, _, rfl, rfl, (by show (0 : Int) < 2147483399; decide), ?_⟩
        refine ⟨_, rfl, d, _, rfl, p_seed hd, ?_⟩
        refine ⟨_, rfl, d, _, rfl, g_seed upd_same, _, rfl, d, _, rfl, g_seed upd_same, _, _, rfl, rfl, .inl ⟨by omega, by omega⟩, _, _, rfl, rfl, (by show (0 : Int) < 2147483563; decide), ?_⟩
        refine ⟨_, rfl, _, rfl, _, _, rfl, rfl, .inl ⟨by omega, by omega⟩, _, _, rfl, rfl, (by show (0 : Int) < 2147483629; decide), _, _, rfl, rfl, .inl ⟨by omega, by omega⟩, _, rfl, _, _, rfl, rfl, _, rfl, _, _, rfl, rfl, hm, ?_⟩
        exact k _ _ (Int.emod_nonneg _ (by omega)) (Int.emod_lt_of_pos _ hm) ⟨⟨_, n, ns, upd_same, by rw [upd_ne ndl.symm]; exact hl, hb1.1, by omega⟩⟩ kp.d
end
end My

set_option Elab.async false
set_option linter.all false
set_option maxRecDepth 100000
set_option maxHeartbeats 1000000
namespace My
open PySem L2 MyR
/-- a new source of draws from the script -/
def spDeal (K : PySem.W.Frag) : Sp := fun vs H Q _ => ∃ (a : Addr) (ns : List Int), vs = [.ref a, .int 0] ∧ SqL K H a (ns.map V.int) ∧ ns.length ≤ 63 ∧
  ∀ (d l : Addr) (H' : Hp), H d = none → H l = none → Same H H' → Deal H' d l → Q (.ref d) H'
theorem cut_ints (ns : List Int) (lo hi : Option Int) : ∃ ms : List Int, cutV (ns.map V.int) lo hi = ms.map V.int ∧ ms.length ≤ ns.length := by
  unfold cutV
  rw [← List.map_drop, ← List.map_take]
  refine ⟨_, rfl, ?_⟩
  rw [List.length_take, List.length_drop]
  omega
theorem get_int {ms : List Int} {i : Nat} {x : V} (h : (ms.map V.int)[i]? = some x) : ∃ z, x = V.int z ∧ i < ms.length := by
  rw [List.getElem?_map] at h
  cases e : ms[i]? with
  | none => rw [e] at h; cases h
  | some z =>
    rw [e] at h
    exact ⟨z, (Option.some.inj h).symm, (List.getElem?_eq_some_iff.mp e).1⟩
theorem small63 {n : Nat} (h : n ≤ 63) : n < sizeLine := small1000 (by omega)
section
variable {P : Program} {w : World} {K : PySem.W.Frag} {mg : Str → Option Value} {base : Heap}
abbrev s_law_deal : Stmt := top 31
abbrev N_law_deal : List Str := ["_law_script", "_law_base", "_law_cells", "_law_cell", "_law_number"]
theorem sc_law_deal : FnScope N_law_deal ["_law_script", "_law_base"] (defScope s_law_deal) := ⟨rfl, rfl, rfl, by decide +kernel, rfl, by decide +kernel, by decide +kernel⟩
theorem ok_law_deal {f : Addr} {fd : FuncData} (F : Fun K "_law_deal" "_law_deal" s_law_deal f fd) (T : Glob mg) : FnOk P w K mg base CX0 1 f fd ["_law_script", "_law_base"] (spDeal K) := by
  refine F.ok sc_law_deal (fun vs H Q E h => ?_) (fun cdv A outer s H vs Q E hr h => ?_)
  · obtain ⟨a, ns, rfl, _⟩ := h
    rfl
  · obtain ⟨a, ns, rfl, hS, hlen, k⟩ := h
    have hu := hu_of hr
    have nd := sc_law_deal.nd
    refine ⟨_, (pss_cons (ps_setLc (i := 2) (own := [("_law_cell", 3)]) (g := gName 3) (tt := tYes) rfl nd rfl rfl (sw_true rfl rfl rfl (by decide +kernel)) (pi_list (pe_slice sl_list (pv 0) (po_some (pv 1)) (po_some pe_int))) (blkOk_by (N := N_law_deal) (sc := defScope s_law_deal) (by decide +kernel)) (fun _ _ _ _ _ => pg_name (i := 3) nd rfl (Or.inl rfl)) (fun _ _ _ _ _ => pts_nil) (fun _ _ _ _ _ => (pe_callB (call_max2 rfl) (by rfl) T.g_max (by decide +kernel) (pa_cons (pv 3) (pa_cons (pe_op op_sub pe_int (pv 3)) pa_nil)))))
    (pss_cons (ps_set (i := 4) nd rfl (Or.inl rfl) (pe_op op_add pe_int (pv 1)))
    (pss_cons (ps_for PassesOwn.never rfl (pi_list (pv 2)) (pg_name (i := 3) nd rfl (Or.inl rfl))
    (pss_one (ps_set (i := 4) nd rfl (Or.inl rfl) (pe_op op_mod (pe_op op_add (pe_op op_mul (pv 4) pe_int) (pe_op op_mod (pv 3) pe_int)) pe_int))))
    (pss_one (ps_ret (pe_disp (pps_cons pe_str (pv 4) (pps_cons pe_str pe_int (pps_cons pe_str (pe_lstRev rfl (by rfl) T.g_list (by rfl) T.g_reversed (pe_lc (own := [("_law_cell", 3)]) (g := gName 3) rfl nd (pi_list (pv 2)) (blkOk_by (N := N_law_deal) (sc := defScope s_law_deal) (by decide +kernel)) (fun _ _ _ _ _ => pg_name (i := 3) nd rfl (Or.inl rfl)) (fun _ _ _ _ _ => pts_one (pt_cmpR op_ge (pv 3) (pe_op op_pow pe_int pe_int) (nomark _))) (fun _ _ _ _ _ => (pv 3)))) pps_nil))) (by rfl) (by rfl) (fun z => by cases z) (by decide))))))), ?_⟩
    -- the cells
    refine ⟨_, rfl, _, rfl, _, rfl, _, rfl, a, _, rfl, hS, fun sl hsl => ?_⟩
    obtain ⟨ms, em, hml⟩ := cut_ints ns (some 0) (some 63)
    rw [em]
    refine ⟨sl, rfl, ⟨_, SqL.of upd_same⟩, fun D hD => ?_⟩
    have nDs : sl ≠ D := fun e => by rw [e, upd_same] at hD; cases hD
    have hD0 : H D = none := by rw [← upd_ne (H := H) (Ne.symm nDs)]; exact hD
    refine lc_list (K := K) (a := sl) (xs := ms.map V.int) (fun i H1 => Same H H1 ∧ H1 sl = some (.lst (ms.map V.int)) ∧ ∃ acc : List Int, H1 D = some (.lst (acc.map V.int)) ∧ acc.length = i)
      ⟨fun b o e => by rw [upd_ne (ne_of_none e hD0), upd_ne (ne_of_none e hsl)]; exact e, by rw [upd_ne nDs, upd_same], [], upd_same, rfl⟩ (fun i H1 _ ⟨_, h1, _⟩ => SqL.of h1) ?_ ?_
    · rintro i x H1 hx ⟨sm, h1, acc, h2, hl⟩
      obtain ⟨z, rfl, hi⟩ := get_int hx
      refine ⟨rfl, ?_⟩
      refine ⟨_, rfl, _, rfl, _, _, rfl, rfl, ?_⟩
      refine ⟨_, _, rfl, ?_⟩
      refine ⟨acc.map V.int, h2, by rw [List.length_map]; exact small63 (by omega), fun b o e => ?_, ?_, ?_⟩
      · rw [upd_ne (ne_of_none e hD0)]; exact sm b o e
      · rw [upd_ne nDs]; exact h1
      · refine ⟨acc ++ [if 0 - z > z then 0 - z else z], ?_, by rw [List.length_append, hl]; rfl⟩
        rw [upd_same, List.map_append]
        rfl
    · rintro H1 ⟨sm, h1, cs, h2, hl⟩
      rw [List.length_map] at hl
      refine ⟨_, rfl, _, _, rfl, rfl, ?_⟩
      refine ⟨_, rfl, D, rfl, ⟨_, SqL.of h2⟩, ?_⟩
      refine for_list (K := K) (a := D) (xs := cs.map V.int) (fun i σ H2 => ∃ (v : Option V) (t : Int), σ = [some (.ref a), some (.int 0), some (.ref D), v, some (.int t)] ∧ 0 ≤ t ∧ t < 2147483648 ∧ H2 = H1)
        ⟨none, 6143, rfl, by decide, by decide, rfl⟩ (fun i σ H2 _ ⟨_, _, _, _, _, e⟩ => by rw [e]; exact SqL.of h2) ?_ ?_
      · rintro i x σ H2 hx ⟨v, t, rfl, t0, t1, rfl⟩
        obtain ⟨z, rfl, hi⟩ := get_int hx
        refine ⟨_, rfl, _, _, rfl, rfl, .inl ⟨by omega, by omega⟩, _, rfl, _, _, rfl, rfl, (by show (0 : Int) < 2147483629; decide), _, _, rfl, rfl, _, _, rfl, rfl, (by show (0 : Int) < 2147483647; decide), ?_⟩
        refine ⟨_, _, rfl, Int.emod_nonneg _ (by decide), ?_, rfl⟩
        have := Int.emod_lt_of_pos (t * 69621 + z % 2147483629) (show (0 : Int) < 2147483647 by decide)
        omega
      · rintro σ H2 ⟨v, t, rfl, t0, t1, rfl⟩
        -- the dict
        intro d hd
        have nDd : D ≠ d := ne_of_none h2 hd
        refine ⟨_, rfl, ?_⟩
        refine ⟨_, rfl, D, rfl, ⟨_, SqL.of (by rw [upd_ne nDd]; exact h2)⟩, fun L hL => ?_⟩
        have nLd : d ≠ L := fun e => by rw [e, upd_same] at hL; cases hL
        have hL0 : H2 L = none := by rw [← upd_ne (H := H2) (Ne.symm nLd)]; exact hL
        have nDL : D ≠ L := ne_of_none h2 hL0
        refine lc_list (K := K) (a := D) (xs := cs.map V.int) (fun i H3 => Same H2 H3 ∧ H3 d = some (.dK []) ∧ ∃ acc : List Int, H3 L = some (.lst (acc.map V.int)) ∧ acc.length ≤ i)
          ⟨fun b o e => by rw [upd_ne (ne_of_none e hL0), upd_ne (ne_of_none e hd)]; exact e, by rw [upd_ne nLd, upd_same], [], upd_same, Nat.le_refl _⟩ (fun i H3 _ ⟨sm3, _, _⟩ => SqL.of (sm3 _ _ h2)) ?_ ?_
        · rintro i x H3 hx ⟨sm3, hd3, acc, h3, hl3⟩
          obtain ⟨z, rfl, hi⟩ := get_int hx
          refine ⟨rfl, ?_⟩
          refine ⟨_, rfl, _, _, rfl, rfl, ⟨by decide, by decide, by decide⟩, _, _, rfl, rfl, _, rfl, ?_⟩
          have go : ∀ (zs : List Int), zs.length ≤ i + 1 → ∀ H4, H4 = upd H3 L (.lst (zs.map V.int)) → Same H2 H4 ∧ H4 d = some (.dK []) ∧ ∃ acc : List Int, H4 L = some (.lst (acc.map V.int)) ∧ acc.length ≤ i + 1 := fun zs hz H4 e4 => by
            subst e4
            refine ⟨fun b o e => ?_, by rw [upd_ne nLd]; exact hd3, zs, upd_same, hz⟩
            rw [upd_ne (ne_of_none e hL0)]
            exact sm3 b o e
          refine ite2 (fun _ => ?_) (fun _ => ?_)
          · refine ⟨_, rfl, acc.map V.int, h3, by rw [List.length_map]; exact small63 (by omega), ?_⟩
            refine go (acc ++ [z]) (by rw [List.length_append]; exact Nat.succ_le_succ hl3) _ ?_
            rw [List.map_append]
            rfl
          · exact ⟨sm3, hd3, acc, h3, Nat.le_succ_of_le hl3⟩
        · rintro H3 ⟨sm3, hd3, acc, h3, hl3⟩
          refine ⟨L, _, rfl, SqL.of h3, fun R hR => ?_⟩
          have nRd : d ≠ R := ne_of_none hd3 hR
          refine ⟨by rw [upd_ne nRd]; exact hd3, dKV t 0 R, rfl, (by show 3 ≤ 15; decide), ?_⟩
          rw [d_merge]
          have hR2 : H2 R = none := sm3.free hR
          refine k d R _ (sm.free hd) (sm.free hR2) (fun b o e => ?_) ⟨⟨t, 0, acc.reverse, upd_same, ?_, t0, t1⟩⟩
          · have e2 := sm b o e
            rw [upd_ne (ne_of_none e2 hd), upd_ne (ne_of_none e2 hR2)]
            exact sm3 b o e2
          · rw [upd_ne (Ne.symm nRd), upd_same, List.map_reverse]
end
end My

set_option Elab.async false
set_option linter.all false
set_option maxRecDepth 100000
set_option maxHeartbeats 1000000
namespace My
open PySem L2 MyR
/-- a new source of draws from the script, of any base -/
def spDealB (K : PySem.W.Frag) : Sp := fun vs H Q _ => ∃ (a : Addr) (ns : List Int) (i0 : Int), vs = [.ref a, .int i0] ∧ 0 ≤ i0 ∧ i0 ≤ 100 ∧ SqL K H a (ns.map V.int) ∧ ns.length ≤ 63 ∧
  ∀ (d l : Addr) (H' : Hp), H d = none → H l = none → Same H H' → Deal H' d l → Q (.ref d) H'
section
variable {P : Program} {w : World} {K : PySem.W.Frag} {mg : Str → Option Value} {base : Heap}
theorem ok_law_dealB {f : Addr} {fd : FuncData} (F : Fun K "_law_deal" "_law_deal" s_law_deal f fd) (T : Glob mg) : FnOk P w K mg base CX0 1 f fd ["_law_script", "_law_base"] (spDealB K) := by
  refine F.ok sc_law_deal (fun vs H Q E h => ?_) (fun cdv A outer s H vs Q E hr h => ?_)
  · obtain ⟨a, ns, i0, rfl, _⟩ := h
    rfl
  · obtain ⟨a, ns, i0, rfl, hi0, hi1, hS, hlen, k⟩ := h
    have hu := hu_of hr
    have nd := sc_law_deal.nd
    refine ⟨_, (pss_cons (ps_setLc (i := 2) (own := [("_law_cell", 3)]) (g := gName 3) (tt := tYes) rfl nd rfl rfl (sw_true rfl rfl rfl (by decide +kernel)) (pi_list (pe_slice sl_list (pv 0) (po_some (pv 1)) (po_some pe_int))) (blkOk_by (N := N_law_deal) (sc := defScope s_law_deal) (by decide +kernel)) (fun _ _ _ _ _ => pg_name (i := 3) nd rfl (Or.inl rfl)) (fun _ _ _ _ _ => pts_nil) (fun _ _ _ _ _ => (pe_callB (call_max2 rfl) (by rfl) T.g_max (by decide +kernel) (pa_cons (pv 3) (pa_cons (pe_op op_sub pe_int (pv 3)) pa_nil)))))
    (pss_cons (ps_set (i := 4) nd rfl (Or.inl rfl) (pe_op op_add pe_int (pv 1)))
    (pss_cons (ps_for PassesOwn.never rfl (pi_list (pv 2)) (pg_name (i := 3) nd rfl (Or.inl rfl))
    (pss_one (ps_set (i := 4) nd rfl (Or.inl rfl) (pe_op op_mod (pe_op op_add (pe_op op_mul (pv 4) pe_int) (pe_op op_mod (pv 3) pe_int)) pe_int))))
    (pss_one (ps_ret (pe_disp (pps_cons pe_str (pv 4) (pps_cons pe_str pe_int (pps_cons pe_str (pe_lstRev rfl (by rfl) T.g_list (by rfl) T.g_reversed (pe_lc (own := [("_law_cell", 3)]) (g := gName 3) rfl nd (pi_list (pv 2)) (blkOk_by (N := N_law_deal) (sc := defScope s_law_deal) (by decide +kernel)) (fun _ _ _ _ _ => pg_name (i := 3) nd rfl (Or.inl rfl)) (fun _ _ _ _ _ => pts_one (pt_cmpR op_ge (pv 3) (pe_op op_pow pe_int pe_int) (nomark _))) (fun _ _ _ _ _ => (pv 3)))) pps_nil))) (by rfl) (by rfl) (fun z => by cases z) (by decide))))))), ?_⟩
    -- the cells
    refine ⟨_, rfl, _, rfl, _, rfl, _, rfl, a, _, rfl, hS, fun sl hsl => ?_⟩
    obtain ⟨ms, em, hml⟩ := cut_ints ns (some i0) (some 63)
    rw [em]
    refine ⟨sl, rfl, ⟨_, SqL.of upd_same⟩, fun D hD => ?_⟩
    have nDs : sl ≠ D := fun e => by rw [e, upd_same] at hD; cases hD
    have hD0 : H D = none := by rw [← upd_ne (H := H) (Ne.symm nDs)]; exact hD
    refine lc_list (K := K) (a := sl) (xs := ms.map V.int) (fun i H1 => Same H H1 ∧ H1 sl = some (.lst (ms.map V.int)) ∧ ∃ acc : List Int, H1 D = some (.lst (acc.map V.int)) ∧ acc.length = i)
      ⟨fun b o e => by rw [upd_ne (ne_of_none e hD0), upd_ne (ne_of_none e hsl)]; exact e, by rw [upd_ne nDs, upd_same], [], upd_same, rfl⟩ (fun i H1 _ ⟨_, h1, _⟩ => SqL.of h1) ?_ ?_
    · rintro i x H1 hx ⟨sm, h1, acc, h2, hl⟩
      obtain ⟨z, rfl, hi⟩ := get_int hx
      refine ⟨rfl, ?_⟩
      refine ⟨_, rfl, _, rfl, _, _, rfl, rfl, ?_⟩
      refine ⟨_, _, rfl, ?_⟩
      refine ⟨acc.map V.int, h2, by rw [List.length_map]; exact small63 (by omega), fun b o e => ?_, ?_, ?_⟩
      · rw [upd_ne (ne_of_none e hD0)]; exact sm b o e
      · rw [upd_ne nDs]; exact h1
      · refine ⟨acc ++ [if 0 - z > z then 0 - z else z], ?_, by rw [List.length_append, hl]; rfl⟩
        rw [upd_same, List.map_append]
        rfl
    · rintro H1 ⟨sm, h1, cs, h2, hl⟩
      rw [List.length_map] at hl
      refine ⟨_, rfl, _, _, rfl, rfl, ?_⟩
      refine ⟨_, rfl, D, rfl, ⟨_, SqL.of h2⟩, ?_⟩
      refine for_list (K := K) (a := D) (xs := cs.map V.int) (fun i σ H2 => ∃ (v : Option V) (t : Int), σ = [some (.ref a), some (.int i0), some (.ref D), v, some (.int t)] ∧ 0 ≤ t ∧ t < 2147483648 ∧ H2 = H1)
        ⟨none, 6143 + i0, rfl, by omega, by omega, rfl⟩ (fun i σ H2 _ ⟨_, _, _, _, _, e⟩ => by rw [e]; exact SqL.of h2) ?_ ?_
      · rintro i x σ H2 hx ⟨v, t, rfl, t0, t1, rfl⟩
        obtain ⟨z, rfl, hi⟩ := get_int hx
        refine ⟨_, rfl, _, _, rfl, rfl, .inl ⟨by omega, by omega⟩, _, rfl, _, _, rfl, rfl, (by show (0 : Int) < 2147483629; decide), _, _, rfl, rfl, _, _, rfl, rfl, (by show (0 : Int) < 2147483647; decide), ?_⟩
        refine ⟨_, _, rfl, Int.emod_nonneg _ (by decide), ?_, rfl⟩
        have := Int.emod_lt_of_pos (t * 69621 + z % 2147483629) (show (0 : Int) < 2147483647 by decide)
        omega
      · rintro σ H2 ⟨v, t, rfl, t0, t1, rfl⟩
        -- the dict
        intro d hd
        have nDd : D ≠ d := ne_of_none h2 hd
        refine ⟨_, rfl, ?_⟩
        refine ⟨_, rfl, D, rfl, ⟨_, SqL.of (by rw [upd_ne nDd]; exact h2)⟩, fun L hL => ?_⟩
        have nLd : d ≠ L := fun e => by rw [e, upd_same] at hL; cases hL
        have hL0 : H2 L = none := by rw [← upd_ne (H := H2) (Ne.symm nLd)]; exact hL
        have nDL : D ≠ L := ne_of_none h2 hL0
        refine lc_list (K := K) (a := D) (xs := cs.map V.int) (fun i H3 => Same H2 H3 ∧ H3 d = some (.dK []) ∧ ∃ acc : List Int, H3 L = some (.lst (acc.map V.int)) ∧ acc.length ≤ i)
          ⟨fun b o e => by rw [upd_ne (ne_of_none e hL0), upd_ne (ne_of_none e hd)]; exact e, by rw [upd_ne nLd, upd_same], [], upd_same, Nat.le_refl _⟩ (fun i H3 _ ⟨sm3, _, _⟩ => SqL.of (sm3 _ _ h2)) ?_ ?_
        · rintro i x H3 hx ⟨sm3, hd3, acc, h3, hl3⟩
          obtain ⟨z, rfl, hi⟩ := get_int hx
          refine ⟨rfl, ?_⟩
          refine ⟨_, rfl, _, _, rfl, rfl, ⟨by decide, by decide, by decide⟩, _, _, rfl, rfl, _, rfl, ?_⟩
          have go : ∀ (zs : List Int), zs.length ≤ i + 1 → ∀ H4, H4 = upd H3 L (.lst (zs.map V.int)) → Same H2 H4 ∧ H4 d = some (.dK []) ∧ ∃ acc : List Int, H4 L = some (.lst (acc.map V.int)) ∧ acc.length ≤ i + 1 := fun zs hz H4 e4 => by
            subst e4
            refine ⟨fun b o e => ?_, by rw [upd_ne nLd]; exact hd3, zs, upd_same, hz⟩
            rw [upd_ne (ne_of_none e hL0)]
            exact sm3 b o e
          refine ite2 (fun _ => ?_) (fun _ => ?_)
          · refine ⟨_, rfl, acc.map V.int, h3, by rw [List.length_map]; exact small63 (by omega), ?_⟩
            refine go (acc ++ [z]) (by rw [List.length_append]; exact Nat.succ_le_succ hl3) _ ?_
            rw [List.map_append]
            rfl
          · exact ⟨sm3, hd3, acc, h3, Nat.le_succ_of_le hl3⟩
        · rintro H3 ⟨sm3, hd3, acc, h3, hl3⟩
          refine ⟨L, _, rfl, SqL.of h3, fun R hR => ?_⟩
          have nRd : d ≠ R := ne_of_none hd3 hR
          refine ⟨by rw [upd_ne nRd]; exact hd3, dKV t 0 R, rfl, (by show 3 ≤ 15; decide), ?_⟩
          rw [d_merge]
          have hR2 : H2 R = none := sm3.free hR
          refine k d R _ (sm.free hd) (sm.free hR2) (fun b o e => ?_) ⟨⟨t, 0, acc.reverse, upd_same, ?_, t0, t1⟩⟩
          · have e2 := sm b o e
            rw [upd_ne (ne_of_none e2 hd), upd_ne (ne_of_none e2 hR2)]
            exact sm3 b o e2
          · rw [upd_ne (Ne.symm nRd), upd_same, List.map_reverse]
end
end My

set_option Elab.async false
set_option linter.all false
set_option maxRecDepth 100000
set_option maxHeartbeats 1000000
namespace MyN
open PySem PySem.Spec PyProof.Rows PySem.SeqAt
open Builtin
section
variable {M : Model} {prog : Program} {w : World} {A : Around} {E : Value → Shared → Prop} {s : Shared} {K : PySem.W.Frag} {x y C D f L : Addr} {ox : Obj} {od : Option Obj} {tb : Value} {h₀ : Heap} {m : Str → Option Value}
theorem ifBound_objNe {args : List Value} {Q : Option Value → Shared → Prop} (X : K.In s.heap) (I : PySem.W.InstAt s.heap x ox C od) (hs : PySem.W.findIn K (.ref C) "__ne__" = some (some (.builtin "object.__ne__")))
    (h : wpAny M A (call (.builtin "object.__ne__") (.ref x :: args)) (fun v => Q (some v)) E s) : wpAny M A (callSpecialIfBound? (.ref x) "__ne__" args) Q E s := by
  simp only [callSpecialIfBound?, bindSpecialIfBound?]
  refine wpAny_holding (wpAny_bind (wpAny_bind (wpAny_bind (I.type.here ((PySem.W.looks_findIn X hs).here ?_)))))
  refine wpAny_bind (wpAny_askSetting (wpAny_ite ?_))
  have fin : wpAny M A (call (.builtin "object.__ne__") ([.ref x] ++ args) >>= fun v => pure (some v)) Q E s := wpAny_bind (wpAny_mono h (fun v s' h' => wpAny_pure h') fun _ _ h' => h')
  split
  · exact wpAny_bind (wpAny_of_eq (F.cmp_object.ne.bind _) (wpAny_pure (by exact fin)))
  · exact wpAny_tryCatch (wpAny_bind (wpAny_of_eq (F.cmp_object.ne.bind _) (wpAny_pure (by exact fin))))
theorem objNe_entry {Q : Fin → Shared → Prop} (hu : A.units < cLine) (X : K.In s.heap) (I : PySem.W.InstAt s.heap x ox C od) (hs : PySem.W.findIn K (.ref C) "__eq__" = some (some (.ref f))) (hf : PySem.W.isFn K (.ref f) = true)
    (hcall : wpAny (model prog w) A (call (.ref f) [.ref x, .ref y]) (fun v s' => ∃ b, v = .bool b ∧ Q (.done (.ret (.bool (!b)))) s') E s) :
    wpAny (model prog w) A (Builtin.«object.__ne__» ⟨[.ref x, .ref y], []⟩) Q E s := by
  obtain ⟨h, g, d, t, os⟩ := s
  unfold Builtin.«object.__ne__»
  repeat (first
    | with_reducible refine wpAny_cRoomFor hu ?_
    | (refine wpAny_bind (m := callSpecialIfBound? (.ref x) (Str.ofString "__eq__") [.ref y])
        (PySem.W.ifBound_K X I hs hf (wpAny_mono hcall (fun r s' hr => by
          obtain ⟨b, rfl, hq⟩ := hr
          repeat (first | exact hq | exact wpAny_pure hq | exact wpAny_truthy_bool hq | (refine wpAny_bind (m := truthy (.bool _)) (wpAny_truthy_bool ?_)) | wp_step)) fun _ _ e => e)))
    | wp_step)
theorem call_objNe {Q : Value → Shared → Prop} (hu : A.units + 1 < cLine) (X : K.In s.heap) (I : PySem.W.InstAt s.heap x ox C od) (hm : PySem.W.mroIn K C (.type "object") = some true) (hs : PySem.W.findIn K (.ref C) "__eq__" = some (some (.ref f))) (hf : PySem.W.isFn K (.ref f) = true)
    (hcall : wpAny (model prog w) A.in1 (call (.ref f) [.ref x, .ref y]) (fun v s' => ∃ b, v = .bool b ∧ Q (.bool (!b)) s') E s) :
    wpAny (model prog w) A (call (.builtin "object.__ne__") [.ref x, .ref y]) Q E s :=
  wpAny_call (codeAny_call_builtin F.cmp_object.ne.plain F.cmpEntry_ne (PySem.W.check_slot F.cmpKind_ne F.cmpSplit_ne (I.type.andThen (PySem.W.looks_mroIn X hm)) (F.cmpArgs_ne _ _)
    (objNe_entry (A := A.in1) hu X I hs hf hcall)))
theorem ne_K {Q : Value → Shared → Prop} (hu : A.units + 1 < cLine) (X : K.In s.heap) (I : PySem.W.InstAt s.heap x ox C od) (hb : PySem.W.Looks (model prog w) s.heap (typeOf (.ref y)) tb) (hn : PySem.W.notFirst K C tb = true)
    (hne : PySem.W.findIn K (.ref C) "__ne__" = some (some (.builtin "object.__ne__"))) (hm : PySem.W.mroIn K C (.type "object") = some true) (hs : PySem.W.findIn K (.ref C) "__eq__" = some (some (.ref f))) (hf : PySem.W.isFn K (.ref f) = true)
    (hcall : wpAny (model prog w) A.in1 (call (.ref f) [.ref x, .ref y]) (fun v s' => ∃ b, v = .bool b ∧ Q (.bool (!b)) s') E s) :
    wpAny (model prog w) A (richCompare .NotEq (.ref x) (.ref y)) Q E s := by
  have one : wpAny (model prog w) A (tryCompare (.ref x) (cmpInfo .NotEq).2.1 (.ref y)) (fun r s' => ∃ v, r = some v ∧ Q v s') E s := by
    unfold tryCompare
    refine wpAny_bind (ifBound_objNe X I hne (call_objNe hu X I hm hs hf (wpAny_mono hcall (fun v s' hv => ?_) fun _ _ e => e)))
    obtain ⟨b, rfl, hq⟩ := hv
    exact ⟨b, rfl, wpAny_pure ⟨_, rfl, hq⟩⟩
  unfold richCompare
  simp only [oneThing_ref]
  refine wpAny_holding (wpAny_bind (wpAny_cRoomFor (Nat.lt_of_succ_lt hu) ?_))
  refine wpAny_bind (I.type.here (wpAny_bind (hb.here ?_)))
  split
  · rename_i q
    have e : PySem.W.subIn K tb (.ref C) = some false := by
      rcases Bool.or_eq_true_iff.mp hn with e | e
      · rw [beq_iff_eq.mp e] at q; simp at q
      · exact beq_iff_eq.mp e
    refine wpAny_bind ((PySem.W.looks_subIn X e).here ?_)
    simp only [Bool.false_eq_true, if_false]
    refine wpAny_bind (wpAny_mono one (fun r s' z => ?_) fun _ _ e => e)
    obtain ⟨v, rfl, hq⟩ := z
    exact wpAny_pure hq
  · refine wpAny_bind (wpAny_pure ?_)
    simp only [Bool.false_eq_true, if_false]
    refine wpAny_bind (wpAny_mono one (fun r s' z => ?_) fun _ _ e => e)
    obtain ⟨v, rfl, hq⟩ := z
    exact wpAny_pure hq
end
end MyN

set_option Elab.async false
set_option linter.all false
set_option maxRecDepth 100000
set_option maxHeartbeats 1000000
namespace MyR
open PySem PySem.Spec PyProof.Rows L2
/-- the class at C has its == at f, and no != of its own -/
structure EqC (K : PySem.W.Frag) (C f : Addr) : Prop where
  eq : PySem.W.findIn K (.ref C) "__eq__" = some (some (.ref f))
  ne : PySem.W.findIn K (.ref C) "__ne__" = some (some (.builtin "object.__ne__"))
  fn : PySem.W.isFn K (.ref f) = true
  mo : PySem.W.mroIn K C (.type "object") = some true
def rEqF (X : Cx) (neg : Bool) : R2 := fun x y H Q => ∃ (a b C dx dy : Addr) (fs gs : List (Str × V)) (f : Addr) (fd : FuncData) (ps : List Str) (sp : Sp) (k : Nat) (CX : CXT) (E : XK), x = .ref a ∧ y = .ref b ∧ H a = some (.ins C dx fs) ∧ H b = some (.ins C dy gs) ∧ EqC X.K C f ∧
  FnOk X.prog X.w X.K X.mg X.base CX k f fd ps sp ∧ Room (k + 1) X.A ∧ Binds X.K fd ps [] ∧ Passes CX X E ∧ sp [.ref a, .ref b] H (fun v H' => ∃ t : Bool, v = .bl t ∧ Q (.bl (if neg = true then !t else t)) H') E
section
variable {X : Cx}
theorem op_eqF : OpR X (compareOp .Eq) (rEqF X false) := by
  intro pins s σ H x y u v Q I rx ry h
  obtain ⟨a, b, C, dx, dy, fs, gs, f, fd, ps, sp, k, CX, E, rfl, rfl, ha, hb', c, F, hr, hb, hx, hsp⟩ := h
  cases rx
  cases ry
  obtain ⟨mA, J, _⟩ := ins_get I.hok ha
  obtain ⟨mB, J', _⟩ := ins_get I.hok hb'
  obtain ⟨od, J, _⟩ := J.look
  obtain ⟨od', J', _⟩ := J'.look
  obtain ⟨m, hF⟩ := I.fr
  show wpAny (model X.prog X.w) X.A (richCompare .Eq (.ref a) (.ref b)) (EP X pins σ Q) X.xe s
  refine PySem.W.cmp_K (op := .Eq) (tb := .ref C) hr.units0 hF I.ok.mod.kin J J'.type (by simp [PySem.W.notFirst]) c.eq c.fn ?_
  have e0 := I.env0
  have hl := F.len _ _ _ _ hsp
  have r2 : Vals [V.ref a, V.ref b] [Value.ref a, Value.ref b] := .cons rfl (.cons rfl .nil)
  refine wpAny_call (codeAny_mono (F.run X.A X.stack s H ⟨[.ref a, .ref b], []⟩ [.ref a, .ref b] [.ref a, .ref b] _ E (hr.mono (Nat.le_succ _)) e0 (by
    have := hb s [.ref a, .ref b] I.kIn (by simpa using hl)
    simpa using this) r2 hsp) fun r s' hq => ?_)
  cases r with
  | error e => exact hx pins σ H s e s' I hq
  | ok fl =>
    cases fl with
    | ret w =>
      obtain ⟨z, H', I', rz, t, ez, q⟩ := I.after hq
      subst ez
      cases rz
      exact ⟨.bl t, H', I', rfl, q⟩
    | next => exact False.elim hq
    | brk => exact False.elim hq
    | cont => exact False.elim hq
theorem op_neF : OpR X (compareOp .NotEq) (rEqF X true) := by
  intro pins s σ H x y u v Q I rx ry h
  obtain ⟨a, b, C, dx, dy, fs, gs, f, fd, ps, sp, k, CX, E, rfl, rfl, ha, hb', c, F, hr, hb, hx, hsp⟩ := h
  cases rx
  cases ry
  obtain ⟨mA, J, _⟩ := ins_get I.hok ha
  obtain ⟨mB, J', _⟩ := ins_get I.hok hb'
  obtain ⟨od, J, _⟩ := J.look
  obtain ⟨od', J', _⟩ := J'.look
  show wpAny (model X.prog X.w) X.A (richCompare .NotEq (.ref a) (.ref b)) (EP X pins σ Q) X.xe s
  refine MyN.ne_K (tb := .ref C) (hu_of hr) I.kIn J J'.type (by simp [PySem.W.notFirst]) c.ne c.mo c.eq c.fn ?_
  have e0 := I.env0
  have hl := F.len _ _ _ _ hsp
  have r2 : Vals [V.ref a, V.ref b] [Value.ref a, Value.ref b] := .cons rfl (.cons rfl .nil)
  refine wpAny_call (codeAny_mono (F.run X.A.in1 X.stack s H ⟨[.ref a, .ref b], []⟩ [.ref a, .ref b] [.ref a, .ref b] _ E hr.in1 e0.in1 (by
    have := hb s [.ref a, .ref b] I.kIn (by simpa using hl)
    simpa using this) r2 hsp) fun r s' hq => ?_)
  cases r with
  | error e => exact hx pins σ H s e s' I hq
  | ok fl =>
    cases fl with
    | ret w =>
      obtain ⟨z, H', I', rz, t, ez, q⟩ := I.after hq
      subst ez
      cases rz
      exact ⟨t, rfl, .bl (!t), H', I', rfl, q⟩
    | next => exact False.elim hq
    | brk => exact False.elim hq
    | cont => exact False.elim hq
end
end MyR

set_option Elab.async false
set_option linter.all false
set_option maxRecDepth 100000
set_option maxHeartbeats 1000000
namespace MyR
open PySem PySem.Spec PyProof.Rows L2
/-! ### == of an object whose class has its own, with anything -/
def rEqA (X : Cx) : R2 := fun x y H Q => ∃ (a C dx : Addr) (fs : List (Str × V)) (f : Addr) (fd : FuncData) (ps : List Str) (sp : Sp) (k : Nat) (CX : CXT) (E : XK) (t : Value), x = .ref a ∧ H a = some (.ins C dx fs) ∧ TyX X.K H y t ∧ PySem.W.notFirst X.K C t = true ∧ EqC X.K C f ∧
  FnOk X.prog X.w X.K X.mg X.base CX k f fd ps sp ∧ Room (k + 1) X.A ∧ Binds X.K fd ps [] ∧ Passes CX X E ∧ sp [.ref a, y] H (fun v H' => ∃ t : Bool, v = .bl t ∧ Q (.bl t) H') E
theorem op_eqA {X : Cx} : OpR X (compareOp .Eq) (rEqA X) := by
  intro pins s σ H x y u v Q I rx ry h
  obtain ⟨a, C, dx, fs, f, fd, ps, sp, k, CX, E, t, rfl, ha, ty, nf, c, F, hr, hb, hx, hsp⟩ := h
  cases rx
  obtain ⟨mA, J, _⟩ := ins_get I.hok ha
  obtain ⟨od, J, _⟩ := J.look
  obtain ⟨m, hF⟩ := I.fr
  obtain ⟨PP, kit, pp, _⟩ := kit_of I ry ty
  show wpAny (model X.prog X.w) X.A (richCompare .Eq (.ref a) v) (EP X pins σ Q) X.xe s
  refine PySem.W.cmp_K (op := .Eq) (tb := t) hr.units0 hF I.ok.mod.kin J (kit.ty _ _ I.kIn pp) nf c.eq c.fn ?_
  have e0 := I.env0
  have hl := F.len _ _ _ _ hsp
  have r2 : Vals [V.ref a, y] [Value.ref a, v] := .cons rfl (.cons ry .nil)
  refine wpAny_call (codeAny_mono (F.run X.A X.stack s H ⟨[.ref a, v], []⟩ [.ref a, v] [.ref a, y] _ E (hr.mono (Nat.le_succ _)) e0 (by
    have := hb s [.ref a, v] I.kIn (by simpa using hl)
    simpa using this) r2 hsp) fun r s' hq => ?_)
  cases r with
  | error e => exact hx pins σ H s e s' I hq
  | ok fl =>
    cases fl with
    | ret w =>
      obtain ⟨z, H', I', rz, t, ez, q⟩ := I.after hq
      subst ez
      cases rz
      exact ⟨.bl t, H', I', rfl, q⟩
    | next => exact False.elim hq
    | brk => exact False.elim hq
    | cont => exact False.elim hq
end MyR

set_option Elab.async false
set_option linter.all false
set_option maxRecDepth 100000
set_option maxHeartbeats 1000000
namespace MyNA
open PySem PySem.Spec PyProof.Rows PySem.SeqAt
open Builtin
section
variable {M : Model} {prog : Program} {w : World} {A : Around} {E : Value → Shared → Prop} {s : Shared} {K : PySem.W.Frag} {x C D f L : Addr} {b : Value} {ox : Obj} {od : Option Obj} {tb : Value} {h₀ : Heap} {m : Str → Option Value}
theorem objNe_entry {Q : Fin → Shared → Prop} (hu : A.units < cLine) (X : K.In s.heap) (I : PySem.W.InstAt s.heap x ox C od) (hs : PySem.W.findIn K (.ref C) "__eq__" = some (some (.ref f))) (hf : PySem.W.isFn K (.ref f) = true)
    (hcall : wpAny (model prog w) A (call (.ref f) [.ref x, b]) (fun v s' => ∃ c, v = .bool c ∧ Q (.done (.ret (.bool (!c)))) s') E s) :
    wpAny (model prog w) A (Builtin.«object.__ne__» ⟨[.ref x, b], []⟩) Q E s := by
  obtain ⟨h, g, d, t, os⟩ := s
  unfold Builtin.«object.__ne__»
  repeat (first
    | with_reducible refine wpAny_cRoomFor hu ?_
    | (refine wpAny_bind (m := callSpecialIfBound? (.ref x) (Str.ofString "__eq__") [b])
        (PySem.W.ifBound_K X I hs hf (wpAny_mono hcall (fun r s' hr => by
          obtain ⟨b, rfl, hq⟩ := hr
          repeat (first | exact hq | exact wpAny_pure hq | exact wpAny_truthy_bool hq | (refine wpAny_bind (m := truthy (.bool _)) (wpAny_truthy_bool ?_)) | wp_step)) fun _ _ e => e)))
    | wp_step)
theorem call_objNe {Q : Value → Shared → Prop} (hu : A.units + 1 < cLine) (X : K.In s.heap) (I : PySem.W.InstAt s.heap x ox C od) (hm : PySem.W.mroIn K C (.type "object") = some true) (hs : PySem.W.findIn K (.ref C) "__eq__" = some (some (.ref f))) (hf : PySem.W.isFn K (.ref f) = true)
    (hcall : wpAny (model prog w) A.in1 (call (.ref f) [.ref x, b]) (fun v s' => ∃ c, v = .bool c ∧ Q (.bool (!c)) s') E s) :
    wpAny (model prog w) A (call (.builtin "object.__ne__") [.ref x, b]) Q E s :=
  wpAny_call (codeAny_call_builtin F.cmp_object.ne.plain F.cmpEntry_ne (PySem.W.check_slot F.cmpKind_ne F.cmpSplit_ne (I.type.andThen (PySem.W.looks_mroIn X hm)) (F.cmpArgs_ne _ _)
    (objNe_entry (A := A.in1) hu X I hs hf hcall)))
theorem ne_K {Q : Value → Shared → Prop} (hu : A.units + 1 < cLine) (X : K.In s.heap) (I : PySem.W.InstAt s.heap x ox C od) (hb : PySem.W.Looks (model prog w) s.heap (typeOf b) tb) (hn : PySem.W.notFirst K C tb = true)
    (hne : PySem.W.findIn K (.ref C) "__ne__" = some (some (.builtin "object.__ne__"))) (hm : PySem.W.mroIn K C (.type "object") = some true) (hs : PySem.W.findIn K (.ref C) "__eq__" = some (some (.ref f))) (hf : PySem.W.isFn K (.ref f) = true)
    (hcall : wpAny (model prog w) A.in1 (call (.ref f) [.ref x, b]) (fun v s' => ∃ c, v = .bool c ∧ Q (.bool (!c)) s') E s) :
    wpAny (model prog w) A (richCompare .NotEq (.ref x) b) Q E s := by
  have one : wpAny (model prog w) A (tryCompare (.ref x) (cmpInfo .NotEq).2.1 b) (fun r s' => ∃ v, r = some v ∧ Q v s') E s := by
    unfold tryCompare
    refine wpAny_bind (MyN.ifBound_objNe X I hne (call_objNe hu X I hm hs hf (wpAny_mono hcall (fun v s' hv => ?_) fun _ _ e => e)))
    obtain ⟨b, rfl, hq⟩ := hv
    exact ⟨b, rfl, wpAny_pure ⟨_, rfl, hq⟩⟩
  unfold richCompare
  simp only [oneThing_ref]
  refine wpAny_holding (wpAny_bind (wpAny_cRoomFor (Nat.lt_of_succ_lt hu) ?_))
  refine wpAny_bind (I.type.here (wpAny_bind (hb.here ?_)))
  split
  · rename_i q
    have e : PySem.W.subIn K tb (.ref C) = some false := by
      rcases Bool.or_eq_true_iff.mp hn with e | e
      · rw [beq_iff_eq.mp e] at q; simp at q
      · exact beq_iff_eq.mp e
    refine wpAny_bind ((PySem.W.looks_subIn X e).here ?_)
    simp only [Bool.false_eq_true, if_false]
    refine wpAny_bind (wpAny_mono one (fun r s' z => ?_) fun _ _ e => e)
    obtain ⟨v, rfl, hq⟩ := z
    exact wpAny_pure hq
  · refine wpAny_bind (wpAny_pure ?_)
    simp only [Bool.false_eq_true, if_false]
    refine wpAny_bind (wpAny_mono one (fun r s' z => ?_) fun _ _ e => e)
    obtain ⟨v, rfl, hq⟩ := z
    exact wpAny_pure hq
end
end MyNA

namespace MyR
open PySem PySem.Spec PyProof.Rows L2
/-! ### != of an object whose class has its own == and no != of its own, with anything -/
theorem op_neA {X : Cx} : OpR X (compareOp .NotEq) (fun x y H Q => rEqA X x y H fun v H' => ∃ t : Bool, v = .bl t ∧ Q (.bl (!t)) H') := by
  intro pins s σ H x y u v Q I rx ry h
  obtain ⟨a, C, dx, fs, f, fd, ps, sp, k, CX, E, t, rfl, ha, ty, nf, c, F, hr, hb, hx, hsp⟩ := h
  cases rx
  obtain ⟨mA, J, _⟩ := ins_get I.hok ha
  obtain ⟨od, J, _⟩ := J.look
  obtain ⟨PP, kit, pp, _⟩ := kit_of I ry ty
  show wpAny (model X.prog X.w) X.A (richCompare .NotEq (.ref a) v) (EP X pins σ Q) X.xe s
  refine MyNA.ne_K (hu_of hr) I.kIn J (kit.ty _ _ I.kIn pp) nf c.ne c.mo c.eq c.fn ?_
  have e0 := I.env0
  have hl := F.len _ _ _ _ hsp
  have r2 : Vals [V.ref a, y] [Value.ref a, v] := .cons rfl (.cons ry .nil)
  refine wpAny_call (codeAny_mono (F.run X.A.in1 X.stack s H ⟨[.ref a, v], []⟩ [.ref a, v] [.ref a, y] _ E hr.in1 e0.in1 (by
    have := hb s [.ref a, v] I.kIn (by simpa using hl)
    simpa using this) r2 hsp) fun r s' hq => ?_)
  cases r with
  | error e => exact hx pins σ H s e s' I hq
  | ok fl =>
    cases fl with
    | ret w =>
      obtain ⟨z, H', I', rz, t, ez, t', ez', q⟩ := I.after hq
      subst ez
      cases rz
      cases ez'
      exact ⟨t, rfl, .bl (!t), H', I', rfl, q⟩
    | next => exact False.elim hq
    | brk => exact False.elim hq
    | cont => exact False.elim hq
end MyR

set_option Elab.async false
set_option linter.all false
set_option maxRecDepth 100000
set_option maxHeartbeats 1000000
namespace MyR
open PySem PySem.Spec PyProof.Rows L2
/-! ### C(e, ..) where C may raise; suites by a weaker reading -/
def tMakeS (C : Addr) (sp : Sp) (E : L2.St → XK) (t : TA) : TE := fun σ H Q => t σ H fun vs H1 => ∀ x dx, H1 x = none → H1 dx = none → dx ≠ x →
  sp (.ref x :: vs) (upd (upd H1 dx (.own x)) x (.ins C dx [])) (fun v H2 => v = .non ∧ Q (.ref x) H2) (E σ)
section
variable {X : Cx} {CX : CXT} {k : Nat} {f C : Addr} {fd : FuncData} {ps : List Str} {sp : Sp} {E : L2.St → XK} {x : Str} {p pos : Pos} {e : Expr} {es : List Expr} {t : TA}
theorem run_makeS {pins : List (Addr × Obj)} {σ : L2.St} {H : Hp} {s : Shared} {Q : VK} {us : List Value} {vs : List V} (M : Mk X.K C f) (F : FnOk X.prog X.w X.K X.mg X.base CX k f fd ps sp) (hr : Room (k + 1) X.A) (hb : Binds X.K fd ps [])
    (hx : PassesAt CX X σ (E σ)) (I : Inv X pins σ H s) (r : Vals vs us)
    (h : ∀ x dx, H x = none → H dx = none → dx ≠ x → sp (.ref x :: vs) (upd (upd H dx (.own x)) x (.ins C dx [])) (fun v H2 => v = .non ∧ Q (.ref x) H2) (E σ)) :
    wpAny (model X.prog X.w) X.A (call (.ref C) us) (EP X pins σ Q) X.xe s := by
  have hq := h (s.heap.objs.size + 1) s.heap.objs.size (I.hok.fresh (Nat.le_succ _)) (I.hok.fresh (Nat.le_refl _)) (Nat.ne_of_lt (Nat.lt_succ_self _))
  have I2 := Inv.made (C := C) I
  have r2 : Vals (V.ref (s.heap.objs.size + 1) :: vs) (Value.ref (s.heap.objs.size + 1) :: us) := .cons rfl r
  have hl : (Value.ref (s.heap.objs.size + 1) :: us).length = ps.length := by
    have e := r2.length
    rw [F.len _ _ _ _ hq] at e
    exact e.symm
  have b := hb _ (Value.ref (s.heap.objs.size + 1) :: us) I2.kIn (by rw [List.append_nil]; exact hl)
  rw [List.append_nil] at b
  refine wpAny_call (make_map (f := f) I.kIn M.makes M.init (beq_iff_eq.mp M.fn) (codeAny_mono (F.run _ X.stack _ _ ⟨Value.ref (s.heap.objs.size + 1) :: us, []⟩ (Value.ref (s.heap.objs.size + 1) :: us) _ _ (E σ) (hr.make C us [])
    (I2.env0.make C us []) b r2 hq) fun r s' hq' => ?_))
  cases r with
  | error e => exact hx pins _ _ e s' I2 hq'
  | ok fl =>
    cases fl with
    | ret u =>
      obtain ⟨v, H', I3, rv, ev, q3⟩ := I2.after hq'
      subst ev
      exact ⟨rv, ⟨V.ref (s.heap.objs.size + 1), H', I3, rfl, q3⟩⟩
    | next => exact False.elim hq'
    | brk => exact False.elim hq'
    | cont => exact False.elim hq'
theorem pe_makeS (M : Mk X.K C f) (F : FnOk X.prog X.w X.K X.mg X.base CX k f fd ps sp) (hr : Room (k + 1) X.A) (hg : Gl X x) (hm : X.mg x = some (.ref C)) (hb : Binds X.K fd ps []) (hx : ∀ σ, PassesAt CX X σ (E σ))
    (ha : PA X (e :: es) t) (hdb : (x == ("__debug__" : Str)) = false := by decide) (he : starEach (e :: es) X.env = (false, eval e X.env) :: starEach es X.env := by rfl) (hpl : (backTo pos (starEach es X.env)).any (·.1) = false := by rfl) :
    PE X (.Call (.Name x p) (e :: es) [] pos) (tMakeS C sp E t) := by
  refine ⟨fun pins s σ H Q I h => ?_⟩
  refine wpAny_Call_Name_kw (ld_glob I hg hm ?_ hdb)
  refine PySem.W.callWith_K (h₀ := X.base) I.ok.mod.kin M.kp (thn (ha.run pos pins s σ H _ I h) fun us s1 ⟨vs, H1, I1, r, q⟩ => ⟨I1.kIn, ?_⟩) he hpl
  exact run_makeS M F hr hb (hx σ) I1 r q
theorem pss_when {ss : List Stmt} {p : Prop} {ts : TS} (h : p → PSs X ss ts) : PSs X ss (fun D σ H => p ∧ ts D σ H) := ⟨fun pins s σ H D I q => (h q.1).run pins s σ H D I q.2⟩
end
theorem pss_weak {X : Cx} {ss : List Stmt} {t u : TS} (h : PSs X ss t) (f : ∀ D σ H, u D σ H → t D σ H) : PSs X ss u := ⟨fun pins s σ H D I q => h.run pins s σ H D I (f D σ H q)⟩
end MyR

set_option pp.maxSteps 400
set_option Elab.async false
set_option linter.all false
set_option maxRecDepth 100000
set_option maxHeartbeats 1000000
namespace MyR
open PySem PySem.Spec PyProof.Rows L2
/-! ### c(e, ..), c a local name that holds the class at C; C may raise -/
def tMakeLS (i : Nat) (C : Addr) (sp : Sp) (E : L2.St → XK) (t : TA) : TE := fun σ H Q => σ[i]? = some (some (.ref C)) ∧ tMakeS C sp E t σ H Q
section
variable {X : Cx} {CX : CXT} {k i : Nat} {f C : Addr} {fd : FuncData} {ps : List Str} {sp : Sp} {E : L2.St → XK} {x : Str} {p pos : Pos} {e : Expr} {es : List Expr} {t : TA}
theorem pe_makeLS (M : Mk X.K C f) (F : FnOk X.prog X.w X.K X.mg X.base CX k f fd ps sp) (hr : Room (k + 1) X.A) (slot : X.N[i]? = some x) (vis : Vis X.env.scope x) (hb : Binds X.K fd ps []) (hx : ∀ σ, PassesAt CX X σ (E σ)) (ha : PA X (e :: es) t)
    (d1 : (x == ("__debug__" : Str)) = false := by decide) (d2 : (x == ("__classdict__" : Str)) = false := by decide) (pl : (backTo pos (starEach es X.env)).any (·.1) = false := by rfl)
    (st : starEach (e :: es) X.env = (false, eval e X.env) :: starEach es X.env := by rfl) : PE X (.Call (.Name x p) (e :: es) [] pos) (tMakeLS i C sp E t) := by
  refine ⟨fun pins s σ H Q I ⟨hs, ht⟩ => wpAny_Call_Name_kw (thn ((pe_var (pos := p) slot vis d1 d2).run pins s σ H (fun v G => v = .ref C ∧ G = H) I ⟨.ref C, hs, rfl, rfl⟩) fun u s1 ⟨v, G, I1, rv, both⟩ => ?_)⟩
  obtain ⟨rfl, rfl⟩ := both
  obtain rfl : u = Value.ref C := rv
  exact PySem.W.callWith_K (h₀ := X.base) I1.ok.mod.kin M.kp (thn (ha.run pos pins s1 σ _ _ I1 ht) fun us s2 ⟨vs, G2, I2, r, q⟩ => ⟨I2.kIn, run_makeS M F hr hb (hx σ) I2 r q⟩) st pl
end
end MyR

set_option Elab.async false
set_option linter.all false
set_option maxRecDepth 100000
set_option maxHeartbeats 4000000
namespace MyR
open PySem PySem.Spec PyProof.Rows L2
/-! ### t * k, k from 1 on (t * 1 is t itself) -/
theorem tuple_mulW1 (l : Addr) (items : Array Value) (n : Nat) (dd : Option Addr) (sl : Array (Option Value)) (u : Tok) :
    Meets (Builtin.«tuple.__mul__» ⟨[.ref l, .int 1 u], []⟩) (fun _ R s => s.heap.get? l = some { cls := .type "tuple", dict := dd, data := .seq items n, slots := sl } ∧ R (.ok (.ret (Value.ref l))) s) :=
  .of_wp fun prog w A R s h => by
    obtain ⟨hp, g, d, tk, os⟩ := s
    obtain ⟨hl, h⟩ := h
    have f1 := AutoSeq1.idx_int
    have c0 : (decide ((1 : Int) < -(2 ^ 63)) || decide ((1 : Int) ≥ 2 ^ 63)) = false := by decide
    have c1 : (items.isEmpty || (1 : Int) == 1) = true := by rw [show ((1 : Int) == 1) = true from rfl, Bool.or_true]
    wp_walk using wpAny_loadPart' hl
    repeat (first
      | (refine wpAny_ite_false (decide_eq_false (by rw [c0]; exact Bool.false_ne_true)) ?_; wp_walk using wpAny_loadPart' hl)
      | (refine wpAny_ite_true (decide_eq_true (by rw [c1])) ?_; wp_walk using wpAny_loadPart' hl))
    exact ⟨_, rfl, h⟩
def rRepTB (K : PySem.W.Frag) : R2 := fun x y H Q => ∃ l k xs, x = .ref l ∧ y = .int k ∧ SqT K H l xs ∧ xs ≠ [] ∧ ((k = 1 ∧ Q (.ref l) H) ∨ (2 ≤ k ∧ k ≤ 1000 ∧ xs.length ≤ 1000 ∧ ∀ p, H p = none → Q (.ref p) (upd H p (.tup (List.replicate k.toNat xs).flatten))))
section
variable {X : Cx}
theorem op_repTB : OpR X (binaryOp .Mult) (rRepTB X.K) := by
  intro pins s σ H x y v u Q I rx ry h
  obtain ⟨l, k, xs, rfl, rfl, hT, hne, ⟨rfl, q⟩ | ⟨h1, h2, h3, q⟩⟩ := h
  · cases rx
    obtain ⟨t, rfl⟩ := ry
    obtain ⟨its, r, ⟨⟨cls, dd, data, sl⟩, ho, hc, n, hd⟩, hs⟩ := I.tuple hT
    simp only at hc hd
    subst hc hd
    refine wpAny_binaryOp_repeat_ref (T := "tuple") (U := "int") (by decide) ⟨_, ho, rfl⟩ (fun s' => typeIs_int s' 1 t) noFill_tuple_mul F.fills_int_mul F.slot_int_rmul repeat_tuple F.slot_int_index.lookup
      (call_meets F.slot_int_rmul (typeIs_int s 1 t) F.entry_int_rmul (F.args_int_rmul_2 _ _) (int_rmul_tuple 1 t l its.toArray n dd sl)
        ⟨ho, rfl, ⟨_, ho, rfl⟩, call_meets F.slot_tuple_mul ⟨_, ho, rfl⟩ F.entry_tuple_mul (F.args_tuple_mul_2 _ _) (tuple_mulW1 l its.toArray n dd sl t) ⟨ho, ?_⟩⟩)
    exact ⟨.ref l, H, I, rfl, q⟩
  · exact op_repT pins s σ H _ _ v u Q I rx ry ⟨l, k, xs, rfl, rfl, hT, hne, h1, h2, h3, q⟩
end
end MyR

set_option Elab.async false
set_option linter.all false
set_option maxRecDepth 100000
set_option maxHeartbeats 1000000
namespace My
/-! ### the twos in n!, and how many numbers have fewer than b -/
def twF : Nat → Nat → Nat
  | 0, _ => 0
  | k + 1, n => if n = 0 then 0 else n / 2 + twF k (n / 2)
def tw (n : Nat) : Nat := twF n n
theorem twF_more : ∀ (k l n : Nat), n ≤ k → n ≤ l → twF k n = twF l n
  | 0, l, n, h, _ => by
    have : n = 0 := by omega
    subst this
    cases l with
    | zero => rfl
    | succ l => show 0 = if (0 : Nat) = 0 then 0 else _; rw [if_pos rfl]
  | k + 1, 0, n, _, h => by
    have : n = 0 := by omega
    subst this
    show (if (0 : Nat) = 0 then 0 else _) = 0
    rw [if_pos rfl]
  | k + 1, l + 1, n, h, g => by
    show (if n = 0 then 0 else n / 2 + twF k (n / 2)) = if n = 0 then 0 else n / 2 + twF l (n / 2)
    split
    · rfl
    · rw [twF_more k l (n / 2) (by omega) (by omega)]
theorem tw_zero : tw 0 = 0 := rfl
theorem tw_pos {n : Nat} (h : n ≠ 0) : tw n = n / 2 + tw (n / 2) := by
  obtain ⟨k, rfl⟩ : ∃ k, n = k + 1 := ⟨n - 1, by omega⟩
  show (if k + 1 = 0 then 0 else (k + 1) / 2 + twF k ((k + 1) / 2)) = (k + 1) / 2 + twF ((k + 1) / 2) ((k + 1) / 2)
  rw [if_neg h, twF_more k ((k + 1) / 2) _ (by omega) (Nat.le_refl _)]
theorem tw_half (n : Nat) : n / 2 ≤ tw n := by
  by_cases h : n = 0
  · subst h
    exact Nat.le_refl _
  · rw [tw_pos h]
    omega
theorem tw_le : ∀ (n : Nat), tw n ≤ n := by
  intro n
  induction n using Nat.strongRecOn with
  | ind n ih =>
    by_cases h : n = 0
    · subst h
      exact Nat.le_refl _
    · rw [tw_pos h]
      have := ih (n / 2) (by omega)
      omega
theorem tw_mono : ∀ (b a : Nat), a ≤ b → tw a ≤ tw b := by
  intro b
  induction b using Nat.strongRecOn with
  | ind b ih =>
    intro a h
    by_cases hb : b = 0
    · have : a = 0 := by omega
      rw [this, hb]
      exact Nat.le_refl _
    · by_cases ha : a = 0
      · rw [ha]
        exact Nat.zero_le _
      · rw [tw_pos ha, tw_pos hb]
        have := ih (b / 2) (by omega) (a / 2) (by omega)
        omega
theorem filter_down (p : Nat → Bool) (hp : ∀ i j, i ≤ j → p j = true → p i = true) : ∀ n, (List.range n).filter p = List.range ((List.range n).filter p).length
  | 0 => rfl
  | n + 1 => by
    have ih := filter_down p hp n
    rw [List.range_succ, List.filter_append]
    by_cases h : p n = true
    · have h1 : (List.range n).filter p = List.range n := List.filter_eq_self.mpr fun i hi => hp i n (Nat.le_of_lt (List.mem_range.mp hi)) h
      have h2 : [n].filter p = [n] := by rw [List.filter_cons, if_pos h]; rfl
      rw [h1, h2, List.length_append, List.length_range]
      show _ = List.range (n + 1)
      rw [List.range_succ]
    · have h2 : [n].filter p = [] := by rw [List.filter_cons, if_neg h]; rfl
      rw [h2, List.append_nil]
      exact ih
/-- how many numbers have fewer than b twos -/
def W (b : Nat) : Nat := ((List.range (2 * b + 2)).filter fun j => decide (tw j < b)).length
theorem W_filter (b : Nat) : ((List.range (2 * b + 2)).filter fun j => decide (tw j < b)) = List.range (W b) :=
  filter_down _ (fun i j h hj => decide_eq_true (Nat.lt_of_le_of_lt (tw_mono j i h) (of_decide_eq_true hj))) _
theorem W_iff {b j : Nat} : tw j < b ↔ j < W b := by
  constructor
  · intro h
    have h1 := tw_half j
    have : j ∈ (List.range (2 * b + 2)).filter fun j => decide (tw j < b) := List.mem_filter.mpr ⟨List.mem_range.mpr (by omega), decide_eq_true h⟩
    rw [W_filter] at this
    exact List.mem_range.mp this
  · intro h
    have : j ∈ (List.range (2 * b + 2)).filter fun j => decide (tw j < b) := by rw [W_filter]; exact List.mem_range.mpr h
    exact of_decide_eq_true (List.mem_filter.mp this).2
theorem W_le (b : Nat) : W b ≤ 2 * b + 2 := by
  have := List.length_filter_le (fun j => decide (tw j < b)) (List.range (2 * b + 2))
  rw [List.length_range] at this
  exact this
theorem W_pos {b : Nat} (h : 1 ≤ b) : 1 ≤ W b := W_iff.mp (show tw 0 < b from h)
theorem W_two {b : Nat} (h : 1 ≤ b) : 2 ≤ W b := W_iff.mp (show tw 1 < b from h)
theorem W_mono {a b : Nat} (h : a ≤ b) : W a ≤ W b := by
  by_cases hz : W a = 0
  · omega
  · have h1 : tw (W a - 1) < a := W_iff.mpr (by omega)
    have h2 : W a - 1 < W b := W_iff.mp (by omega)
    omega
theorem W_66 {b : Nat} (h : b ≤ 64) : W b ≤ 66 := by
  have h1 := W_mono h
  have h2 : ¬ (66 < W 64) := fun z => absurd (W_iff.mpr z) (by decide)
  omega
theorem W_end (b : Nat) : ¬ tw (W b) < b := fun h => Nat.lt_irrefl _ (W_iff.mp h)
theorem W_zero : W 0 = 0 := by decide
/-- vectors of numbers with together fewer than b twos -/
def vecs : Nat → Nat → List (List Nat)
  | 0, _ => [[]]
  | m + 1, b => (List.range (W b)).flatMap fun j => (vecs m (b - tw j)).map (j :: ·)
/-! ### sums -/
def smN : Nat → (Nat → Nat) → Nat
  | 0, _ => 0
  | n + 1, f => smN n f + f n
theorem smN_congr : ∀ {n : Nat} {f g : Nat → Nat}, (∀ i, i < n → f i = g i) → smN n f = smN n g
  | 0, _, _, _ => rfl
  | n + 1, f, g, h => by
    show smN n f + f n = smN n g + g n
    rw [smN_congr fun i hi => h i (by omega), h n (by omega)]
theorem smN_add (n : Nat) (f g : Nat → Nat) : smN n (fun i => f i + g i) = smN n f + smN n g := by
  induction n with
  | zero => rfl
  | succ n ih =>
    show smN n (fun i => f i + g i) + (f n + g n) = smN n f + f n + (smN n g + g n)
    omega
theorem smN_zero (n : Nat) : smN n (fun _ => 0) = 0 := by
  induction n with
  | zero => rfl
  | succ n ih =>
    show smN n (fun _ => 0) + 0 = 0
    omega
theorem smN_swap (n m : Nat) (f : Nat → Nat → Nat) : smN n (fun i => smN m fun j => f i j) = smN m fun j => smN n fun i => f i j := by
  induction n with
  | zero =>
    show 0 = smN m fun _ => 0
    rw [smN_zero]
  | succ n ih =>
    show smN n (fun i => smN m fun j => f i j) + smN m (fun j => f n j) = smN m fun j => smN n (fun i => f i j) + f n j
    rw [ih, smN_add]
theorem smN_cut {n m : Nat} (f : Nat → Nat) (h : n ≤ m) (hz : ∀ i, n ≤ i → i < m → f i = 0) : smN m f = smN n f := by
  induction m with
  | zero =>
    have : n = 0 := by omega
    rw [this]
  | succ m ih =>
    by_cases e : n = m + 1
    · rw [e]
    · show smN m f + f m = _
      rw [ih (by omega) (fun i a b => hz i a (by omega)), hz m (by omega) (by omega)]
      rfl
/-- moved up by t, below b -/
theorem smN_shift (t : Nat) (g : Nat → Nat) : ∀ b, smN b (fun u => if t ≤ u then g (u - t) else 0) = smN (b - t) g
  | 0 => by rw [show 0 - t = 0 from Nat.zero_sub t]; rfl
  | b + 1 => by
    have ih := smN_shift t g b
    show smN b (fun u => if t ≤ u then g (u - t) else 0) + (if t ≤ b then g (b - t) else 0) = _
    rw [ih]
    by_cases h : t ≤ b
    · rw [if_pos h, show b + 1 - t = (b - t) + 1 by omega]
      rfl
    · rw [if_neg h, show b + 1 - t = b - t by omega]
      rfl
/-- vectors by their twos -/
def cn (b : Nat) : Nat → Nat → Nat
  | 0, u => if u = 0 then 1 else 0
  | c + 1, u => smN (W b) fun j => if tw j ≤ u then cn b c (u - tw j) else 0
theorem flat_len {α β : Type} (f : α → List β) (xs : List α) : (xs.flatMap f).length = (xs.map fun x => (f x).length).sum := by
  induction xs with
  | nil => rfl
  | cons x xs ih => simp [List.flatMap_cons, ih]
theorem sum_range (g : Nat → Nat) : ∀ n, ((List.range n).map g).sum = smN n g
  | 0 => rfl
  | n + 1 => by
    rw [List.range_succ, List.map_append, List.sum_append, sum_range g n]
    show smN n g + (g n + 0) = smN n g + g n
    omega
theorem vecs_len (m b : Nat) : (vecs (m + 1) b).length = smN (W b) fun j => (vecs m (b - tw j)).length := by
  show ((List.range (W b)).flatMap fun j => (vecs m (b - tw j)).map (j :: ·)).length = _
  rw [flat_len, sum_range]
  exact smN_congr fun j _ => List.length_map ..
theorem cn_sum (b : Nat) : ∀ (c b' : Nat), 1 ≤ b' → b' ≤ b → smN b' (cn b c) = (vecs c b').length
  | 0, b', h1, h2 => by
    show _ = 1
    have : smN b' (cn b 0) = smN 1 (cn b 0) := smN_cut _ h1 fun i a _ => by
      show (if i = 0 then 1 else 0) = 0
      rw [if_neg (by omega)]
    rw [this]
    rfl
  | c + 1, b', h1, h2 => by
    rw [vecs_len]
    show smN b' (fun u => smN (W b) fun j => if tw j ≤ u then cn b c (u - tw j) else 0) = _
    rw [smN_swap]
    have e : smN (W b) (fun j => smN b' fun u => if tw j ≤ u then cn b c (u - tw j) else 0) = smN (W b) fun j => smN (b' - tw j) (cn b c) := smN_congr fun j _ => smN_shift (tw j) (cn b c) b'
    rw [e, smN_cut (fun j => smN (b' - tw j) (cn b c)) (W_mono h2) (fun j a _ => by
      have : ¬ tw j < b' := fun z => by have := W_iff.mp z; omega
      rw [show b' - tw j = 0 by omega]
      rfl)]
    refine smN_congr fun j hj => ?_
    have : tw j < b' := W_iff.mpr hj
    exact cn_sum b c (b' - tw j) (by omega) (by omega)
end My

set_option Elab.async false
set_option linter.all false
set_option maxRecDepth 100000
set_option maxHeartbeats 1000000
namespace My
/-! ### binomials and falling products -/
def fall (z : Int) : Nat → Int
  | 0 => 1
  | k + 1 => fall z k * (z - (k : Int))
def fac : Nat → Int
  | 0 => 1
  | k + 1 => ((k : Int) + 1) * fac k
def bn (z : Int) : Nat → Int
  | 0 => 1
  | k + 1 => bn z k * (z - (k : Int)) / ((k : Int) + 1)
theorem fac_pos : ∀ k, 0 < fac k
  | 0 => by decide
  | k + 1 => Int.mul_pos (by omega) (fac_pos k)
theorem fall_shift (z : Int) : ∀ k, fall (z + 1) (k + 1) = (z + 1) * fall z k
  | 0 => by
    show 1 * (z + 1 - ((0 : Nat) : Int)) = (z + 1) * 1
    omega
  | k + 1 => by
    show fall (z + 1) (k + 1) * (z + 1 - ((k + 1 : Nat) : Int)) = (z + 1) * (fall z k * (z - (k : Int)))
    rw [fall_shift z k, show z + 1 - ((k + 1 : Nat) : Int) = z - (k : Int) by omega, Int.mul_assoc]
theorem fall_step (z : Int) (k : Nat) : fall (z + 1) (k + 1) = fall z (k + 1) + ((k : Int) + 1) * fall z k := by
  rw [fall_shift]
  show (z + 1) * fall z k = fall z k * (z - (k : Int)) + ((k : Int) + 1) * fall z k
  rw [Int.mul_comm (fall z k), ← Int.add_mul]
  congr 1
  omega
theorem fall_zero : ∀ k, fall 0 (k + 1) = 0
  | 0 => rfl
  | k + 1 => by
    show fall 0 (k + 1) * _ = 0
    rw [fall_zero k, Int.zero_mul]
theorem fac_dvd : ∀ (k : Nat) (z : Int), fac k ∣ fall z k
  | 0, z => ⟨fall z 0, by rw [show fac 0 = 1 from rfl, Int.one_mul]⟩
  | k + 1, z => by
    have st : ∀ z : Int, fac (k + 1) ∣ ((k : Int) + 1) * fall z k := fun z => by
      obtain ⟨q, e⟩ := fac_dvd k z
      exact ⟨q, by rw [e, ← Int.mul_assoc]; rfl⟩
    have up : ∀ n : Nat, fac (k + 1) ∣ fall (n : Int) (k + 1) := by
      intro n
      induction n with
      | zero => exact ⟨0, by rw [Int.mul_zero]; exact fall_zero k⟩
      | succ n ih =>
        rw [show ((n + 1 : Nat) : Int) = (n : Int) + 1 from rfl, fall_step]
        exact Int.dvd_add ih (st _)
    have down : ∀ n : Nat, fac (k + 1) ∣ fall (-(n : Int)) (k + 1) := by
      intro n
      induction n with
      | zero => exact up 0
      | succ n ih =>
        have e := fall_step (-((n + 1 : Nat) : Int)) k
        rw [show -((n + 1 : Nat) : Int) + 1 = -(n : Int) by omega] at e
        have h := Int.dvd_sub ih (st (-((n + 1 : Nat) : Int)))
        rw [e, Int.add_sub_cancel] at h
        exact h
    by_cases hz : 0 ≤ z
    · have := up z.toNat
      rwa [Int.toNat_of_nonneg hz] at this
    · have := down (-z).toNat
      rwa [Int.toNat_of_nonneg (by omega), Int.neg_neg] at this
theorem fac_bn : ∀ (k : Nat) (z : Int), fac k * bn z k = fall z k
  | 0, _ => rfl
  | k + 1, z => by
    have ih := fac_bn k z
    obtain ⟨q, e⟩ := fac_dvd (k + 1) z
    have h1 : fac k * (bn z k * (z - (k : Int))) = fac k * (((k : Int) + 1) * q) := by
      rw [← Int.mul_assoc, ih]
      show fall z (k + 1) = _
      rw [e]
      show ((k : Int) + 1) * fac k * q = _
      rw [Int.mul_comm ((k : Int) + 1), Int.mul_assoc]
    have h2 : bn z k * (z - (k : Int)) = ((k : Int) + 1) * q := Int.eq_of_mul_eq_mul_left (by have := fac_pos k; omega) h1
    have h3 : bn z (k + 1) = q := by
      show bn z k * (z - (k : Int)) / ((k : Int) + 1) = q
      rw [h2]
      exact Int.mul_ediv_cancel_left _ (by omega)
    rw [h3, e]
theorem bn_pascal (z : Int) (k : Nat) : bn (z + 1) (k + 1) = bn z (k + 1) + bn z k := by
  have h1 := fac_bn (k + 1) (z + 1)
  have h2 := fac_bn (k + 1) z
  have h3 := fac_bn k z
  refine Int.eq_of_mul_eq_mul_left (a := fac (k + 1)) (by have := fac_pos (k + 1); omega) ?_
  rw [h1, fall_step, Int.mul_add, h2]
  show _ = _ + ((k : Int) + 1) * fac k * bn z k
  rw [Int.mul_assoc, h3]
theorem bn_zero : ∀ k, bn 0 (k + 1) = 0
  | 0 => by decide
  | k + 1 => by
    show bn 0 (k + 1) * _ / _ = 0
    rw [bn_zero k, Int.zero_mul, Int.zero_ediv]
/-! ### Newton's form -/
def nw (e : Nat → Int) : Nat → Int
  | 0 => e 0
  | j + 1 => nw e j + nw (fun q => e (q + 1)) j
theorem nw_add (e f : Nat → Int) : ∀ j, nw (fun q => e q + f q) j = nw e j + nw f j := by
  intro j
  induction j generalizing e f with
  | zero => rfl
  | succ j ih =>
    show nw (fun q => e q + f q) j + nw (fun q => e (q + 1) + f (q + 1)) j = (nw e j + nw (fun q => e (q + 1)) j) + (nw f j + nw (fun q => f (q + 1)) j)
    rw [ih, ih]
    omega
theorem nw_congr : ∀ (j : Nat) {e f : Nat → Int}, (∀ q, q ≤ j → e q = f q) → nw e j = nw f j
  | 0, e, f, h => h 0 (Nat.le_refl _)
  | j + 1, e, f, h => by
    show nw e j + nw (fun q => e (q + 1)) j = nw f j + nw (fun q => f (q + 1)) j
    rw [nw_congr j fun q hq => h q (by omega), nw_congr j fun q hq => h (q + 1) (by omega)]
theorem nw_zero : ∀ j, nw (fun _ => 0) j = 0
  | 0 => rfl
  | j + 1 => by
    show nw (fun _ => 0) j + nw (fun _ => 0) j = 0
    rw [nw_zero j]
    rfl
/-- two axes in either order -/
theorem nw_swap : ∀ (i : Nat) (c : Nat → Nat → Int) (j : Nat), nw (fun p => nw (c p) j) i = nw (fun q => nw (fun p => c p q) i) j
  | 0, c, j => rfl
  | i + 1, c, j => by
    show nw (fun p => nw (c p) j) i + nw (fun p => nw (c (p + 1)) j) i = nw (fun q => nw (fun p => c p q) i + nw (fun p => c (p + 1) q) i) j
    rw [nw_add, nw_swap i c j, nw_swap i (fun p => c (p + 1)) j]
def smI : Nat → (Nat → Int) → Int
  | 0, _ => 0
  | n + 1, f => smI n f + f n
theorem smI_congr : ∀ {n : Nat} {f g : Nat → Int}, (∀ i, i < n → f i = g i) → smI n f = smI n g
  | 0, _, _, _ => rfl
  | n + 1, f, g, h => by
    show smI n f + f n = smI n g + g n
    rw [smI_congr fun i hi => h i (by omega), h n (by omega)]
theorem smI_add (n : Nat) (f g : Nat → Int) : smI n (fun i => f i + g i) = smI n f + smI n g := by
  induction n with
  | zero => rfl
  | succ n ih =>
    show smI n (fun i => f i + g i) + (f n + g n) = smI n f + f n + (smI n g + g n)
    omega
theorem smI_front (n : Nat) (f : Nat → Int) : smI (n + 1) f = f 0 + smI n fun i => f (i + 1) := by
  induction n with
  | zero =>
    show 0 + f 0 = f 0 + 0
    omega
  | succ n ih =>
    show smI (n + 1) f + f (n + 1) = f 0 + (smI n (fun i => f (i + 1)) + f (n + 1))
    rw [ih]
    omega
theorem smI_zero (n : Nat) : smI n (fun _ => 0) = 0 := by
  induction n with
  | zero => rfl
  | succ n ih =>
    show smI n (fun _ => 0) + 0 = 0
    omega
/-- the sum over binomials is Newton's form -/
theorem smI_nw : ∀ (j n : Nat) (c : Nat → Int), (∀ k, n ≤ k → c k = 0) → smI n (fun k => c k * bn (j : Int) k) = nw c j
  | j, 0, c, h => by
    have : nw c j = nw (fun _ => 0) j := nw_congr j fun q _ => h q (Nat.zero_le _)
    rw [this, nw_zero]
    rfl
  | 0, n + 1, c, h => by
    rw [smI_front]
    have : smI n (fun i => c (i + 1) * bn ((0 : Nat) : Int) (i + 1)) = smI n fun _ => 0 := smI_congr fun i _ => by
      show c (i + 1) * bn 0 (i + 1) = 0
      rw [bn_zero, Int.mul_zero]
    rw [this, smI_zero]
    show c 0 * 1 + 0 = c 0
    omega
  | j + 1, n + 1, c, h => by
    show _ = nw c j + nw (fun q => c (q + 1)) j
    rw [← smI_nw j (n + 1) c h, ← smI_nw j n (fun q => c (q + 1)) (fun k hk => h (k + 1) (by omega)), smI_front, smI_front]
    have e : smI n (fun i => c (i + 1) * bn ((j + 1 : Nat) : Int) (i + 1)) = smI n (fun i => c (i + 1) * bn (j : Int) (i + 1) + c (i + 1) * bn (j : Int) i) := smI_congr fun i _ => by
      rw [show ((j + 1 : Nat) : Int) = (j : Int) + 1 from rfl, bn_pascal, Int.mul_add]
    rw [e, smI_add]
    show c 0 * 1 + _ = c 0 * 1 + _ + _
    omega
/-! ### differences -/
def dfs (M : Int) : List Int → List Int
  | [] => []
  | [_] => []
  | a :: b :: r => (b - a) % M :: dfs M (b :: r)
theorem dfs_len (M : Int) : ∀ xs : List Int, (dfs M xs).length = xs.length - 1
  | [] => rfl
  | [_] => rfl
  | a :: b :: r => by
    show (dfs M (b :: r)).length + 1 = _
    rw [dfs_len M (b :: r)]
    show r.length + 1 - 1 + 1 = r.length + 1 + 1 - 1
    omega
/-- what `differences` gives -/
def diff (M : Int) : Nat → List Int → List Int
  | 0, _ => []
  | _ + 1, [] => []
  | k + 1, a :: r => a :: diff M k (dfs M (a :: r))
theorem mod_sub (a b M : Int) : (a % M - b % M) % M = (a - b) % M := by rw [← Int.sub_emod]
theorem dfs_nw (M : Int) (e : Nat → Int) : ∀ n s, dfs M ((List.range n).map fun j => nw e (s + j) % M) = (List.range (n - 1)).map fun j => nw (fun q => e (q + 1)) (s + j) % M
  | 0, _ => rfl
  | 1, _ => rfl
  | n + 2, s => by
    have ih := dfs_nw M e (n + 1) (s + 1)
    have e1 : ∀ (m : Nat) (f : Nat → Int), (List.range (m + 1)).map f = f 0 :: (List.range m).map fun j => f (j + 1) := fun m f => by
      rw [List.range_succ_eq_map, List.map_cons, List.map_map]
      rfl
    rw [e1 (n + 1), e1 n]
    show (nw e (s + (0 + 1)) % M - nw e (s + 0) % M) % M :: dfs M _ = _
    rw [show n + 2 - 1 = n + 1 from rfl, e1 n, mod_sub]
    have h0 : nw e (s + (0 + 1)) - nw e (s + 0) = nw (fun q => e (q + 1)) (s + 0) := by
      show nw e (s + 0) + nw (fun q => e (q + 1)) (s + 0) - nw e (s + 0) = _
      omega
    rw [h0]
    congr 1
    rw [← e1 n fun j => nw e (s + (j + 1)) % M]
    have h1 : (fun j => nw e (s + 1 + j) % M) = fun j => nw e (s + (j + 1)) % M := funext fun j => by rw [show s + 1 + j = s + (j + 1) by omega]
    rw [h1] at ih
    rw [ih, show n + 1 - 1 = n from rfl]
    refine List.map_congr_left fun j _ => ?_
    rw [show s + 1 + j = s + (j + 1) by omega]
theorem diff_nw (M : Int) : ∀ (n : Nat) (e : Nat → Int), diff M n ((List.range n).map fun j => nw e j % M) = (List.range n).map fun q => e q % M
  | 0, _ => rfl
  | n + 1, e => by
    have e1 : ∀ (m : Nat) (f : Nat → Int), (List.range (m + 1)).map f = f 0 :: (List.range m).map fun j => f (j + 1) := fun m f => by
      rw [List.range_succ_eq_map, List.map_cons, List.map_map]
      rfl
    have d := dfs_nw M e (n + 1) 0
    simp only [Nat.zero_add] at d
    rw [show n + 1 - 1 = n from rfl] at d
    have key : diff M (n + 1) ((List.range (n + 1)).map fun j => nw e j % M) = nw e 0 % M :: diff M n (dfs M ((List.range (n + 1)).map fun j => nw e j % M)) := by
      rw [e1 n]
      rfl
    rw [key, d, diff_nw M n fun q => e (q + 1), e1 n]
    rfl
end My

set_option Elab.async false
set_option linter.all false
set_option maxRecDepth 100000
set_option maxHeartbeats 1000000
namespace MyR
open PySem PySem.Spec PyProof.Rows L2

/-! ### what gives new pairs over things that stand: enumerate(tuple), zip(text, tuple), told once -/
/-- at turn i a walk of n turns is at hand whose next pair is of x and y -/
def PairAt (P : Program) (w : World) (A : Around) (I : Addr) (cs : List Addr) (own : Nat → Heap → Prop) (h : Heap) (i : Nat) (x y : V) (more : Prop) : Prop :=
  ∃ (n : Nat) (wr fp : List Addr) (Pt : Nat → Array Value → Prop) (St : Nat → Heap → Prop) (Mid : Nat → Addr → Heap → Prop), WalksT P w A I fp wr n Pt St Mid ∧ (∀ b ∈ wr, b ∈ cs) ∧ St i h ∧ (∀ j g, St j g → own j g) ∧
    ((more → i < n ∧ ∀ vals, Pt i vals → ∃ u v, vals = #[u, v] ∧ RelV x u ∧ RelV y v) ∧ (¬ more → i = n))
theorem turn_pairs {P : Program} {w : World} {K : PySem.W.Frag} {elts : List Expr} {kk : Nat} {tpos : Pos} {I : Addr} {cs : List Addr} {J : It} {own : Nat → Heap → Prop} (hI : I ∈ cs)
    (cells : ∀ i h, own i h → ∀ b ∈ cs, ∃ o, h.get? b = some o ∧ ∀ v, o.data ≠ .cell v)
    (stays : ∀ i g g', own i g → (∀ b ∈ cs, ∀ o, g.get? b = some o → g'.get? b = some o) → own i g')
    (again : ∀ (A : Around) (i : Nat) (s : Shared) (Q E : Value → Shared → Prop), own i s.heap → Q (.ref I) s → wpAny (model P w) A (pyIter (.ref I)) Q E s)
    (goes : ∀ (X : Cx) (pins : List (Addr × Obj)) (s : Shared) (σ : L2.St) (H : Hp) (i : Nat), X.prog = P → X.w = w → X.K = K → X.A.handled = none → Inv X pins σ H s → own i s.heap → J.go i H →
      ∃ x y, PairAt P w X.A I cs own s.heap i x y True ∧ ∀ T, H T = none → J.yld i H (.ref T) (upd H T (.tup [x, y])))
    (ends : ∀ (X : Cx) (pins : List (Addr × Obj)) (s : Shared) (σ : L2.St) (H : Hp) (i : Nat), X.prog = P → X.w = w → X.K = K → X.A.handled = none → Inv X pins σ H s → own i s.heap → J.stop i H → PairAt P w X.A I cs own s.heap i .non .non False) :
    Turn P w K (.Tuple elts kk tpos) J cs I own where
  mem := hI
  obj := cells
  keep := stays
  self := again
  item := by
    intro X eP ew eK calm i pins s σ H E inv free st more
    obtain ⟨x, y, ⟨n, wr, fp, Pt, St, Mid, W, sub, hst, hown, hmore, _⟩, hyld⟩ := goes X pins s σ H i eP ew eK (inv.ok.hd calm) inv st more
    obtain ⟨hin, hvals⟩ := hmore trivial
    subst eP ew eK
    refine W.item i s _ _ hin hst fun T vals h1 tk hP hT hTup hMid k1 => ?_
    obtain ⟨u, v, rfl, ru, rv⟩ := hvals vals hP
    refine ⟨.ref T, rfl, W.go elts kk tpos i T _ _ _ hMid fun h2 st2 k2 => ?_⟩
    have tup2 : h2.IsTuple T #[u, v] := hTup.at fun o e => k2 T o (W.apart i T h1 hMid) e
    have fresh : H T = none := inv.hok.fresh hT
    have inv2 : Inv X pins σ (upd H T (.tup [x, y])) { s with heap := h2, toks := tk } :=
      inv.turnedNew (ch := cs) (fun b o nb e => k2 b o (fun m => nb (sub b m)) (k1 b o (fun m => nb (sub b m)) e)) free hT ⟨(by show 2 ≤ sizeLine; decide), [u, v], .cons ru (.cons rv .nil), tup2⟩
    refine ⟨.ref T, _, inv2, rfl, hyld T fresh, hown _ _ st2, fun b hb => ?_⟩
    obtain ⟨o, ho, _⟩ := cells i _ st b hb
    rw [upd_ne (Nat.ne_of_lt (Nat.lt_of_lt_of_le (Heap.lt_size ho) hT))]
    exact (free b hb).1
  done := by
    intro X eP ew eK calm i pins s σ H E inv free st stop
    obtain ⟨n, wr, fp, Pt, St, Mid, W, sub, hst, _, _, hend⟩ := ends X pins s σ H i eP ew eK (inv.ok.hd calm) inv st stop
    obtain rfl := hend (fun f => f)
    subst eP ew eK
    exact W.done s _ _ hst fun h1 tk k1 => ⟨rfl, inv.turnedL (t' := tk) (ch := cs) (fun b o nb e => k1 b o (fun m => nb (sub b m)) e) free⟩

/-! ### enumerate(tuple) -/
/-- the tuple at a, each item in a new pair -/
def IteT (K : PySem.W.Frag) (a : Addr) : It where
  go i H := ∃ (xs : List V) (x : V), SqT K H a xs ∧ xs[i]? = some x
  yld i H v H' := ∃ T x, v = .ref T ∧ H T = none ∧ H' = upd H T (.tup [.int (i : Nat), x]) ∧ ∀ xs, SqT K H a xs → xs[i]? = some x
  stop i H := ∃ xs : List V, SqT K H a xs ∧ xs.length = i
/-- the two cells of an enumerate over the tuple at a, i items taken -/
def EnumT (a e it : Addr) (i : Nat) (h : Heap) : Prop := (∃ old, IsEnum h e it (0 + (i : Int)) old) ∧ h.IsTupleIter it a i
theorem turn_enumT {P : Program} {w : World} {K : PySem.W.Frag} {elts : List Expr} {kk : Nat} {tpos : Pos} {a e it : Addr} (hei : e ≠ it) (hai : a ≠ it) (hae : a ≠ e) : Turn P w K (.Tuple elts kk tpos) (IteT K a) [e, it] e (EnumT a e it) := by
  have W : ∀ (A : Around), A.handled = none → ∀ items : Array Value, _ := fun A hh items =>
    WalksT.enumFrom (prog := P) (w := w) (A := A) 0 (Draws.tuple (A := A.in1) hh it a hai items) e hei (by simp only [List.mem_cons, List.not_mem_nil, or_false, not_or]; exact ⟨hei, Ne.symm hae⟩) (List.mem_cons_self ..)
  refine turn_pairs (List.mem_cons_self ..) (fun i h st b hb => ?_) (fun i g g' st k => ?_) (fun A i s Q E st q => ?_) (fun X pins s σ H i eP ew eK hh inv st go => ?_) (fun X pins s σ H i eP ew eK hh inv st stop => ?_)
  · obtain ⟨⟨old, he⟩, o, ho, _, hd⟩ := st
    rcases List.mem_cons.mp hb with z | z
    · subst z
      exact ⟨_, he, fun v q => nomatch q⟩
    · exact ⟨o, by rw [List.mem_singleton.mp z]; exact ho, fun v q => by rw [hd] at q; cases q⟩
  · obtain ⟨⟨old, he⟩, hi⟩ := st
    exact ⟨⟨old, k e (List.mem_cons_self ..) _ he⟩, hi.at fun o q => k it (List.mem_cons_of_mem _ (List.mem_cons_self ..)) o q⟩
  · obtain ⟨⟨_, he⟩, _⟩ := st
    exact wpAny_pyIter_enum he q
  · obtain ⟨xs, x, hq, hx⟩ := go
    subst eK
    obtain ⟨its, rv, tup, _⟩ := inv.tuple hq
    obtain ⟨u, hu, ru⟩ := rv.get hx
    have hu' : its.toArray[i]? = some u := by simpa using hu
    have hin : i < its.toArray.size := (Array.getElem?_eq_some_iff.mp hu').1
    refine ⟨.int (i : Nat), x, ⟨_, _, _, _, _, _, W X.A hh its.toArray, fun b hb => hb, ⟨st.1, st.2, tup⟩, fun j g z => ⟨z.1, z.2.1⟩, fun _ => ⟨hin, fun vals hP => ?_⟩, fun f => absurd trivial f⟩, fun T hT => ⟨T, x, rfl, hT, rfl, fun ys hy => by rw [inv.tuple_inj hy hq]; exact hx⟩⟩
    obtain ⟨t, v, hv, rfl⟩ := hP
    refine ⟨_, v, rfl, ⟨t, by rw [Int.zero_add]⟩, ?_⟩
    have e1 : its.toArray[i]? = some v := hv
    rw [e1] at hu'
    rw [Option.some.inj hu']
    exact ru
  · obtain ⟨xs, hq, hx⟩ := stop
    subst eK
    obtain ⟨its, rv, tup, _⟩ := inv.tuple hq
    have hl := rv.length
    exact ⟨_, _, _, _, _, _, W X.A hh its.toArray, fun b hb => hb, ⟨st.1, st.2, tup⟩, fun j g z => ⟨z.1, z.2.1⟩, fun f => f.elim, fun _ => by rw [List.size_toArray]; omega⟩
set_option maxHeartbeats 1000000 in
/-- enumerate(v): an iterator over v, and the object itself -/
theorem meets_enum1 {v : Value} {o : Obj} {There : Heap → Prop} (B : Begins v o There) :
    Meets (Builtin.«enumerate.__new__» ⟨[.type "enumerate", v], []⟩) fun _ R s => There s.heap ∧
      R (.ok (.ret (.ref (s.heap.push o).objs.size))) { s with heap := (s.heap.push o).push { cls := .type "enumerate", data := .fields #[.none, .bool false, .ref s.heap.objs.size, rawInt 0, .none, .none] } } :=
  .of_wp fun prog w A R s there => by
    obtain ⟨there, after⟩ := there
    obtain ⟨hp, gens, drawn, toks, os⟩ := s
    have sub := sub_enumerate
    have begin_ : ∀ {A' : Around} {E Q : Value → Shared → Prop}, Q (.ref hp.objs.size) ⟨hp.push o, gens, drawn, toks, os⟩ → wpAny (model prog w) A' (pyIter v) Q E ⟨hp, gens, drawn, toks, os⟩ := fun q => B.iter prog w _ _ _ _ there q
    wp_walk using begin_
    refine wpAny_stack_any fun frames => wpAny_pure ?_
    split <;> (try (rename_i c _ _ _ _ _; cases (c == Value.type "enumerate"))) <;> (wp_walk using begin_; exact ⟨_, rfl, after⟩)
theorem enum_over {prog : Program} {w : World} {A : Around} {E : Value → Shared → Prop} {s : Shared} {a : Addr} {items : Array Value} {Q : Value → Shared → Prop} (tup : s.heap.IsTuple a items)
    (next : ∀ g, EnumT a (s.heap.objs.size + 1) s.heap.objs.size 0 g → (∀ b o, s.heap.get? b = some o → g.get? b = some o) → Q (.ref (s.heap.objs.size + 1)) { s with heap := g }) :
    wpAny (model prog w) A (call (.type "enumerate") [.ref a]) Q E s := by
  refine callType_new F.called_enumerate (by decide) (F.typeCall_enumerate_1 _) (F.newCall_enumerate_1 _) (fun obj => F.args_object_init_2 obj _) F.entry_enumerate_new (meets_enum1 (begins_tuple a items)) ⟨tup, ?_⟩
  generalize ho1 : ({ cls := .type "tuple_iterator", data := .fields #[.ref a, .int 0 0] } : Obj) = o1
  have n1 : (s.heap.push o1).objs.size = s.heap.objs.size + 1 := Heap.size_push ..
  have g2 := Heap.get?_push_size (s.heap.push o1) (o := { cls := .type "enumerate", data := .fields #[.none, .bool false, .ref s.heap.objs.size, rawInt 0, .none, .none] }) rfl
  have g1 := Heap.get?_push_of_some { cls := .type "enumerate", data := .fields #[.none, .bool false, .ref s.heap.objs.size, rawInt 0, .none, .none] } (Heap.get?_push_size s.heap (o := o1) (by subst ho1; rfl))
  show _ ∧ _
  rw [n1] at g2 ⊢
  subst ho1
  exact ⟨⟨_, g2, rfl⟩, next _ ⟨⟨_, g2⟩, _, g1, rfl, rfl⟩ fun b o e => Heap.get?_push_of_some _ (Heap.get?_push_of_some _ e)⟩
def iEnumT (K : PySem.W.Frag) (ta : TA) : TI := fun σ H R => ta σ H fun vs H1 => ∃ a xs, vs = [.ref a] ∧ SqT K H1 a xs ∧ R (IteT K a) H1
theorem pi_enumT {X : Cx} {e : Expr} {ta : TA} {p pos tpos : Pos} {elts : List Expr} {kk : Nat} (hg : Gl X "enumerate") (hm : X.mg "enumerate" = none) (ha : PA X [e] ta) (one : starEach [e] X.env = [(false, eval e X.env)] := by rfl) :
    PI X (.Tuple elts kk tpos) (.Call (.Name "enumerate" p) [e] [] pos) (iEnumT X.K ta) where
  run pins s σ H R inv h := by
    refine Call_ (ld_blt inv hg hm boot_enumerate (PyProof.Rows.callWith_type1 (thn (ha.run pos pins s σ H _ inv h) fun us s1 after => ?_) one rfl))
    obtain ⟨vs, H1, inv1, rel, a, xs, rfl, hq, q⟩ := after
    obtain ⟨u, rfl, ru⟩ := vals1 rel
    obtain rfl : u = Value.ref a := ru
    obtain ⟨its, _, tup, _⟩ := inv1.tuple hq
    have la : a < s1.heap.objs.size := by obtain ⟨oa, hoa, _⟩ := id tup; exact Heap.lt_size hoa
    refine enum_over tup fun g en k => ?_
    obtain ⟨⟨old, he⟩, _⟩ := id en
    refine wpAny_pyIter_enum he ?_
    refine ⟨s1.heap.objs.size + 1, [s1.heap.objs.size + 1, s1.heap.objs.size], EnumT a _ _, IteT X.K a, H1, rfl, inv1.kept (t' := s1.toks) k, turn_enumT (Nat.succ_ne_self _) (Nat.ne_of_lt la) (Nat.ne_of_lt (Nat.lt_succ_of_lt la)), en, fun b hb => ?_, q⟩
    have up : s1.heap.objs.size ≤ b := by
      rcases List.mem_cons.mp hb with z | z
      · exact z ▸ Nat.le_succ _
      · exact Nat.le_of_eq (List.mem_singleton.mp z).symm
    exact inv1.fpOk up (inv1.hok.fresh up)
theorem walk_enumT {K : PySem.W.Frag} {a : Addr} {xs : List V} : Walk (IteT K a) xs.length (fun H => SqT K H a xs) (YPair (fun i => some (.int (i : Nat))) (fun i => xs[i]?)) where
  goes i H hi q := ⟨xs, xs[i], q, List.getElem?_eq_getElem hi⟩
  stops H q := ⟨xs, q, rfl⟩
  yields i H v H' _ q y := let ⟨T, x, h1, h2, h3, h4⟩ := y; ⟨T, .int (i : Nat), x, h1, h2, h3, rfl, h4 xs q⟩

/-! ### zip(text, tuple) -/
def IzST (K : PySem.W.Frag) (z : Str) (b : Addr) : It where
  go i H := ∃ (ys : List V) (y : V), SqT K H b ys ∧ i < z.cps.size ∧ ys[i]? = some y
  yld i H v H' := ∃ T c y, v = .ref T ∧ H T = none ∧ H' = upd H T (.tup [.str ⟨#[c]⟩, y]) ∧ z.cps[i]? = some c ∧ ∀ ys, SqT K H b ys → ys[i]? = some y
  stop i H := ∃ ys : List V, SqT K H b ys ∧ i = min z.cps.size ys.length
/-- the five cells of a zip over the text x and the tuple at b, i pairs taken -/
def ZipST (x : Str) (t : Tok) (b z TI TO i1 i2 : Addr) (i : Nat) (h : Heap) : Prop := IsZip h z TI TO .none ∧ IsTupOf2 h TI (.ref i1) (.ref i2) ∧ (∃ a1 a2, IsTupOf2 h TO a1 a2) ∧ h.IsStrIter i1 (strIterType x) x t i ∧ h.IsTupleIter i2 b i
theorem turn_zipST {P : Program} {w : World} {K : PySem.W.Frag} {elts : List Expr} {kk : Nat} {tpos : Pos} {b z TI TO i1 i2 : Addr} {x : Str} {t : Tok} (S : ZipSep2 z TI TO i1 i2 [i1] [i2, b]) (hb : b ≠ i2) :
    Turn P w K (.Tuple elts kk tpos) (IzST K x b) [z, TO, i1, i2, TI] z (ZipST x t b z TI TO i1 i2) := by
  have W : ∀ (A : Around), A.handled = none → ∀ items : Array Value, _ := fun A hh items =>
    WalksT.zipD2 (prog := P) (w := w) (A := A) S (Draws.text (A := A.in1) hh i1 x t) (Draws.tuple (A := A.in1) hh i2 b hb items)
  have sub : ∀ c ∈ [z, TO, i1, i2], c ∈ [z, TO, i1, i2, TI] := fun c hc => List.mem_append_left [TI] hc
  have down : ∀ {items : Array Value} (j : Nat) (g : Heap), (IsZip g z TI TO .none ∧ IsTupOf2 g TI (.ref i1) (.ref i2) ∧ (∃ a1 a2, IsTupOf2 g TO a1 a2) ∧ g.IsStrIter i1 (strIterType x) x t j ∧ g.IsTupleIter i2 b j ∧ g.IsTuple b items) → ZipST x t b z TI TO i1 i2 j g := fun j g st => ⟨st.1, st.2.1, st.2.2.1, st.2.2.2.1, st.2.2.2.2.1⟩
  refine turn_pairs (List.mem_cons_self ..) (fun i h st c hc => ?_) (fun i g g' st k => ?_) (fun A i s Q E st q => wpAny_pyIter_zip st.1 q) (fun X pins s σ H i eP ew eK hh inv st go => ?_) (fun X pins s σ H i eP ew eK hh inv st stop => ?_)
  · obtain ⟨s1, s2, ⟨u1, u2, s3⟩, ⟨o1, p1, _, d1⟩, ⟨o2, p2, _, d2⟩⟩ := st
    simp only [List.mem_cons, List.not_mem_nil, or_false] at hc
    rcases hc with rfl | rfl | rfl | rfl | rfl
    · exact ⟨_, s1, fun v q => nomatch q⟩
    · exact ⟨_, s3, fun v q => nomatch q⟩
    · exact ⟨o1, p1, fun v q => by rw [d1] at q; cases q⟩
    · exact ⟨o2, p2, fun v q => by rw [d2] at q; cases q⟩
    · exact ⟨_, s2, fun v q => nomatch q⟩
  · obtain ⟨s1, s2, ⟨u1, u2, s3⟩, ⟨o1, p1, r1⟩, s5⟩ := st
    have kk : ∀ c, c ∈ [z, TO, i1, i2, TI] → ∀ o, g.get? c = some o → g'.get? c = some o := k
    simp only [List.mem_cons, List.not_mem_nil, or_false, forall_eq_or_imp, forall_eq] at kk
    obtain ⟨k1, k2, k3, k4, k5⟩ := kk
    exact ⟨k1 _ s1, k5 _ s2, ⟨u1, u2, k2 _ s3⟩, ⟨o1, k3 _ p1, r1⟩, s5.at fun o q => k4 o q⟩
  · obtain ⟨ys, y, hq, hx, hy⟩ := go
    subst eK
    obtain ⟨its, rv, tup, _⟩ := inv.tuple hq
    obtain ⟨u, hu, ru⟩ := rv.get hy
    have hu' : its.toArray[i]? = some u := by simpa using hu
    have hin : i < its.toArray.size := (Array.getElem?_eq_some_iff.mp hu').1
    have hc : x.cps[i]? = some x.cps[i] := Array.getElem?_eq_getElem hx
    refine ⟨.str ⟨#[x.cps[i]]⟩, y, ⟨_, _, _, _, _, _, W X.A hh its.toArray, sub, ⟨st.1, st.2.1, st.2.2.1, st.2.2.2.1, st.2.2.2.2, tup⟩, fun j g q => down j g q, fun _ => ⟨by omega, fun vals hP => ?_⟩, fun f => absurd trivial f⟩, fun T hT => ⟨T, x.cps[i], y, rfl, hT, rfl, hc, fun l hl => by rw [inv.tuple_inj hl hq]; exact hy⟩⟩
    obtain ⟨x1, x2, ⟨c, tc, e1, rfl⟩, e2, rfl⟩ := hP
    rw [hc] at e1
    have e2 : its.toArray[i]? = some x2 := e2
    rw [hu'] at e2
    refine ⟨_, x2, rfl, ⟨tc, by rw [Option.some.inj e1]⟩, by rw [← Option.some.inj e2]; exact ru⟩
  · obtain ⟨ys, hq, hi⟩ := stop
    subst eK
    obtain ⟨its, rv, tup, _⟩ := inv.tuple hq
    have hl := rv.length
    exact ⟨_, _, _, _, _, _, W X.A hh its.toArray, sub, ⟨st.1, st.2.1, st.2.2.1, st.2.2.2.1, st.2.2.2.2, tup⟩, fun j g q => down j g q, fun f => f.elim, fun _ => (show i = min x.cps.size its.toArray.size from by
      have e : its.toArray.size = ys.length := by simpa using hl.symm
      rw [e]
      exact hi)⟩
def iZipST (K : PySem.W.Frag) (ta : TA) : TI := fun σ H R => ta σ H fun vs H1 => ∃ z b ys, vs = [.str z, .ref b] ∧ SqT K H1 b ys ∧ R (IzST K z b) H1
theorem pi_zipST {X : Cx} {e e2 : Expr} {ta : TA} {p pos tpos : Pos} {elts : List Expr} {kk : Nat} (hg : Gl X "zip") (hm : X.mg "zip" = none) (ha : PA X [e, e2] ta)
    (s1 : starEach [e, e2] X.env = (false, eval e X.env) :: starEach [e2] X.env := by rfl) (s2 : (backTo pos (starEach [e2] X.env)).any (·.1) = false := by rfl) : PI X (.Tuple elts kk tpos) (.Call (.Name "zip" p) [e, e2] [] pos) (iZipST X.K ta) where
  run pins s σ H R inv h := by
    refine Call_ (ld_blt inv hg hm PyProof.Rows.boot_zip (PyProof.Rows.callWith_type1 (thn (ha.run pos pins s σ H _ inv h) fun us s1 after => ?_) s1 s2))
    obtain ⟨vs, H1, inv1, rel, z, b, ys, rfl, hq, q⟩ := after
    obtain ⟨n, hn⟩ : ∃ n, n = s1.heap.objs.size := ⟨_, rfl⟩
    match us, rel with
    | [_, _], .cons r1 (.cons r2 .nil) =>
      obtain ⟨t, rfl⟩ := r1
      cases r2
      obtain ⟨its, _, tup, _⟩ := inv1.tuple hq
      have lb : b < s1.heap.objs.size := by obtain ⟨ob, hob, _⟩ := id tup; exact Heap.lt_size hob
      refine zip_begins2 (begins_text z t) (begins_tuple b its.toArray) trivial tup fun g c1 c2 c3 c4 c5 _ k => wpAny_pyIter_zip c1 ?_
      have S : ZipSep2 (s1.heap.objs.size + 4) (s1.heap.objs.size + 2) (s1.heap.objs.size + 3) s1.heap.objs.size (s1.heap.objs.size + 1) [s1.heap.objs.size] [s1.heap.objs.size + 1, b] :=
        zip_sep2 (fp1 := []) (fp2 := [b]) (fun c hc => by cases hc) (fun c hc => by rw [List.mem_singleton.mp hc]; exact lb)
      refine ⟨_, [s1.heap.objs.size + 4, s1.heap.objs.size + 3, s1.heap.objs.size, s1.heap.objs.size + 1, s1.heap.objs.size + 2], ZipST z t b _ _ _ _ _, IzST X.K z b, H1, rfl, inv1.kept (t' := s1.toks) k, turn_zipST S (Nat.ne_of_lt (Nat.lt_succ_of_lt lb)), ⟨c1, c2, ⟨_, _, c3⟩, ⟨_, c4, rfl, rfl⟩, ⟨_, c5, rfl, rfl⟩⟩, fun c hc => ?_, q⟩
      have up : s1.heap.objs.size ≤ c := by
        simp only [List.mem_cons, List.not_mem_nil, or_false] at hc
        rcases hc with rfl | rfl | rfl | rfl | rfl <;> first | exact Nat.le_refl _ | exact Nat.le_add_right _ _
      exact inv1.fpOk up (inv1.hok.fresh up)
theorem walk_zipST {K : PySem.W.Frag} {z : Str} {b : Addr} {ys : List V} (hl : z.cps.size = ys.length) : Walk (IzST K z b) ys.length (fun H => SqT K H b ys) (YPair (fun i => (z.cps[i]?).map fun c => V.str ⟨#[c]⟩) (fun i => ys[i]?)) where
  goes i H hi q := ⟨ys, ys[i], q, by omega, List.getElem?_eq_getElem hi⟩
  stops H q := ⟨ys, q, by omega⟩
  yields i H v H' _ q y := let ⟨T, c, y, h1, h2, h3, h4, h5⟩ := y; ⟨T, .str ⟨#[c]⟩, y, h1, h2, h3, by show Option.map _ z.cps[i]? = _; rw [h4]; rfl, h5 ys q⟩
end MyR

set_option pp.maxSteps 400
set_option Elab.async false
set_option linter.all false
set_option maxRecDepth 100000
set_option maxHeartbeats 1000000
namespace MyR
open PySem PySem.Spec PyProof.Rows L2
/-! ### zip(text, list) -/
theorem plain_isL {h : Heap} {a : Addr} {its : Array Value} (x : PlainL h a its) : h.IsList a its := by
  obtain ⟨o, n, e, c, _, d⟩ := x
  exact ⟨o, e, c, n, d⟩
def IzSL (K : PySem.W.Frag) (z : Str) (b : Addr) : It where
  go i H := ∃ (ys : List V) (y : V), SqL K H b ys ∧ i < z.cps.size ∧ ys[i]? = some y
  yld i H v H' := ∃ T c y, v = .ref T ∧ H T = none ∧ H' = upd H T (.tup [.str ⟨#[c]⟩, y]) ∧ z.cps[i]? = some c ∧ ∀ ys, SqL K H b ys → ys[i]? = some y
  stop i H := ∃ ys : List V, SqL K H b ys ∧ i = min z.cps.size ys.length
/-- the five cells of a zip over the text x and the tuple at b, i pairs taken -/
def ZipSL (x : Str) (t : Tok) (b z TI TO i1 i2 : Addr) (i : Nat) (h : Heap) : Prop := IsZip h z TI TO .none ∧ IsTupOf2 h TI (.ref i1) (.ref i2) ∧ (∃ a1 a2, IsTupOf2 h TO a1 a2) ∧ h.IsStrIter i1 (strIterType x) x t i ∧ h.IsListIter i2 b i
theorem turn_zipSL {P : Program} {w : World} {K : PySem.W.Frag} {elts : List Expr} {kk : Nat} {tpos : Pos} {b z TI TO i1 i2 : Addr} {x : Str} {t : Tok} (S : ZipSep2 z TI TO i1 i2 [i1] [i2, b]) (hb : b ≠ i2) :
    Turn P w K (.Tuple elts kk tpos) (IzSL K x b) [z, TO, i1, i2, TI] z (ZipSL x t b z TI TO i1 i2) := by
  have W : ∀ (A : Around), A.handled = none → ∀ items : Array Value, _ := fun A hh items =>
    WalksT.zipD2 (prog := P) (w := w) (A := A) S (Draws.text (A := A.in1) hh i1 x t) (Draws.list (A := A.in1) hh i2 b hb items)
  have sub : ∀ c ∈ [z, TO, i1, i2], c ∈ [z, TO, i1, i2, TI] := fun c hc => List.mem_append_left [TI] hc
  have down : ∀ {items : Array Value} (j : Nat) (g : Heap), (IsZip g z TI TO .none ∧ IsTupOf2 g TI (.ref i1) (.ref i2) ∧ (∃ a1 a2, IsTupOf2 g TO a1 a2) ∧ g.IsStrIter i1 (strIterType x) x t j ∧ g.IsListIter i2 b j ∧ g.IsList b items) → ZipSL x t b z TI TO i1 i2 j g := fun j g st => ⟨st.1, st.2.1, st.2.2.1, st.2.2.2.1, st.2.2.2.2.1⟩
  refine turn_pairs (List.mem_cons_self ..) (fun i h st c hc => ?_) (fun i g g' st k => ?_) (fun A i s Q E st q => wpAny_pyIter_zip st.1 q) (fun X pins s σ H i eP ew eK hh inv st go => ?_) (fun X pins s σ H i eP ew eK hh inv st stop => ?_)
  · obtain ⟨s1, s2, ⟨u1, u2, s3⟩, ⟨o1, p1, _, d1⟩, ⟨o2, p2, _, d2⟩⟩ := st
    simp only [List.mem_cons, List.not_mem_nil, or_false] at hc
    rcases hc with rfl | rfl | rfl | rfl | rfl
    · exact ⟨_, s1, fun v q => nomatch q⟩
    · exact ⟨_, s3, fun v q => nomatch q⟩
    · exact ⟨o1, p1, fun v q => by rw [d1] at q; cases q⟩
    · exact ⟨o2, p2, fun v q => by rw [d2] at q; cases q⟩
    · exact ⟨_, s2, fun v q => nomatch q⟩
  · obtain ⟨s1, s2, ⟨u1, u2, s3⟩, ⟨o1, p1, r1⟩, s5⟩ := st
    have kk : ∀ c, c ∈ [z, TO, i1, i2, TI] → ∀ o, g.get? c = some o → g'.get? c = some o := k
    simp only [List.mem_cons, List.not_mem_nil, or_false, forall_eq_or_imp, forall_eq] at kk
    obtain ⟨k1, k2, k3, k4, k5⟩ := kk
    exact ⟨k1 _ s1, k5 _ s2, ⟨u1, u2, k2 _ s3⟩, ⟨o1, k3 _ p1, r1⟩, s5.at fun o q => k4 o q⟩
  · obtain ⟨ys, y, hq, hx, hy⟩ := go
    subst eK
    obtain ⟨its, rv, tup0, _⟩ := inv.list hq
    have tup := plain_isL tup0
    obtain ⟨u, hu, ru⟩ := rv.get hy
    have hu' : its.toArray[i]? = some u := by simpa using hu
    have hin : i < its.toArray.size := (Array.getElem?_eq_some_iff.mp hu').1
    have hc : x.cps[i]? = some x.cps[i] := Array.getElem?_eq_getElem hx
    refine ⟨.str ⟨#[x.cps[i]]⟩, y, ⟨_, _, _, _, _, _, W X.A hh its.toArray, sub, ⟨st.1, st.2.1, st.2.2.1, st.2.2.2.1, st.2.2.2.2, tup⟩, fun j g q => down j g q, fun _ => ⟨by omega, fun vals hP => ?_⟩, fun f => absurd trivial f⟩, fun T hT => ⟨T, x.cps[i], y, rfl, hT, rfl, hc, fun l hl => by rw [inv.list_inj hl hq]; exact hy⟩⟩
    obtain ⟨x1, x2, ⟨c, tc, e1, rfl⟩, e2, rfl⟩ := hP
    rw [hc] at e1
    have e2 : its.toArray[i]? = some x2 := e2
    rw [hu'] at e2
    refine ⟨_, x2, rfl, ⟨tc, by rw [Option.some.inj e1]⟩, by rw [← Option.some.inj e2]; exact ru⟩
  · obtain ⟨ys, hq, hi⟩ := stop
    subst eK
    obtain ⟨its, rv, tup0, _⟩ := inv.list hq
    have tup := plain_isL tup0
    have hl := rv.length
    exact ⟨_, _, _, _, _, _, W X.A hh its.toArray, sub, ⟨st.1, st.2.1, st.2.2.1, st.2.2.2.1, st.2.2.2.2, tup⟩, fun j g q => down j g q, fun f => f.elim, fun _ => (show i = min x.cps.size its.toArray.size from by
      have e : its.toArray.size = ys.length := by simpa using hl.symm
      rw [e]
      exact hi)⟩
def iZipSL (K : PySem.W.Frag) (ta : TA) : TI := fun σ H R => ta σ H fun vs H1 => ∃ z b ys, vs = [.str z, .ref b] ∧ SqL K H1 b ys ∧ R (IzSL K z b) H1
theorem pi_zipSL {X : Cx} {e e2 : Expr} {ta : TA} {p pos tpos : Pos} {elts : List Expr} {kk : Nat} (hg : Gl X "zip") (hm : X.mg "zip" = none) (ha : PA X [e, e2] ta)
    (s1 : starEach [e, e2] X.env = (false, eval e X.env) :: starEach [e2] X.env := by rfl) (s2 : (backTo pos (starEach [e2] X.env)).any (·.1) = false := by rfl) : PI X (.Tuple elts kk tpos) (.Call (.Name "zip" p) [e, e2] [] pos) (iZipSL X.K ta) where
  run pins s σ H R inv h := by
    refine Call_ (ld_blt inv hg hm PyProof.Rows.boot_zip (PyProof.Rows.callWith_type1 (thn (ha.run pos pins s σ H _ inv h) fun us s1 after => ?_) s1 s2))
    obtain ⟨vs, H1, inv1, rel, z, b, ys, rfl, hq, q⟩ := after
    obtain ⟨n, hn⟩ : ∃ n, n = s1.heap.objs.size := ⟨_, rfl⟩
    match us, rel with
    | [_, _], .cons r1 (.cons r2 .nil) =>
      obtain ⟨t, rfl⟩ := r1
      cases r2
      obtain ⟨its, _, tup0, _⟩ := inv1.list hq
      have tup := plain_isL tup0
      have lb : b < s1.heap.objs.size := by obtain ⟨ob, hob, _⟩ := id tup; exact Heap.lt_size hob
      refine zip_begins2 (begins_text z t) (begins_list b its.toArray) trivial tup fun g c1 c2 c3 c4 c5 _ k => wpAny_pyIter_zip c1 ?_
      have S : ZipSep2 (s1.heap.objs.size + 4) (s1.heap.objs.size + 2) (s1.heap.objs.size + 3) s1.heap.objs.size (s1.heap.objs.size + 1) [s1.heap.objs.size] [s1.heap.objs.size + 1, b] :=
        zip_sep2 (fp1 := []) (fp2 := [b]) (fun c hc => by cases hc) (fun c hc => by rw [List.mem_singleton.mp hc]; exact lb)
      refine ⟨_, [s1.heap.objs.size + 4, s1.heap.objs.size + 3, s1.heap.objs.size, s1.heap.objs.size + 1, s1.heap.objs.size + 2], ZipSL z t b _ _ _ _ _, IzSL X.K z b, H1, rfl, inv1.kept (t' := s1.toks) k, turn_zipSL S (Nat.ne_of_lt (Nat.lt_succ_of_lt lb)), ⟨c1, c2, ⟨_, _, c3⟩, ⟨_, c4, rfl, rfl⟩, ⟨_, c5, rfl, rfl⟩⟩, fun c hc => ?_, q⟩
      have up : s1.heap.objs.size ≤ c := by
        simp only [List.mem_cons, List.not_mem_nil, or_false] at hc
        rcases hc with rfl | rfl | rfl | rfl | rfl <;> first | exact Nat.le_refl _ | exact Nat.le_add_right _ _
      exact inv1.fpOk up (inv1.hok.fresh up)
theorem walk_zipSL {K : PySem.W.Frag} {z : Str} {b : Addr} {ys : List V} (hl : z.cps.size = ys.length) : Walk (IzSL K z b) ys.length (fun H => SqL K H b ys) (YPair (fun i => (z.cps[i]?).map fun c => V.str ⟨#[c]⟩) (fun i => ys[i]?)) where
  goes i H hi q := ⟨ys, ys[i], q, by omega, List.getElem?_eq_getElem hi⟩
  stops H q := ⟨ys, q, by omega⟩
  yields i H v H' _ q y := let ⟨T, c, y, h1, h2, h3, h4, h5⟩ := y; ⟨T, .str ⟨#[c]⟩, y, h1, h2, h3, by show Option.map _ z.cps[i]? = _; rw [h4]; rfl, h5 ys q⟩
end MyR

set_option Elab.async false
set_option linter.all false
set_option maxRecDepth 100000
set_option maxHeartbeats 1000000
namespace MyR
open PySem PySem.Spec PyProof.Rows L2
/-! ### zip over two or three sequences, each a list or a tuple, the target of any form -/
def TupAt (P : Program) (w : World) (A : Around) (I : Addr) (cs : List Addr) (own : Nat → Heap → Prop) (h : Heap) (i : Nat) (xs : List V) (more : Prop) : Prop :=
  ∃ (n : Nat) (wr fp : List Addr) (Pt : Nat → Array Value → Prop) (St : Nat → Heap → Prop) (Mid : Nat → Addr → Heap → Prop), WalksT P w A I fp wr n Pt St Mid ∧ (∀ b ∈ wr, b ∈ cs) ∧ St i h ∧ (∀ j g, St j g → own j g) ∧
    ((more → i < n ∧ ∀ vals, Pt i vals → ∃ us : List Value, vals = us.toArray ∧ Vals xs us) ∧ (¬ more → i = n))
theorem turn_tups {P : Program} {w : World} {K : PySem.W.Frag} {elts : List Expr} {kk : Nat} {tpos : Pos} {I : Addr} {cs : List Addr} {J : It} {own : Nat → Heap → Prop} (hI : I ∈ cs)
    (cells : ∀ i h, own i h → ∀ b ∈ cs, ∃ o, h.get? b = some o ∧ ∀ v, o.data ≠ .cell v)
    (stays : ∀ i g g', own i g → (∀ b ∈ cs, ∀ o, g.get? b = some o → g'.get? b = some o) → own i g')
    (again : ∀ (A : Around) (i : Nat) (s : Shared) (Q E : Value → Shared → Prop), own i s.heap → Q (.ref I) s → wpAny (model P w) A (pyIter (.ref I)) Q E s)
    (goes : ∀ (X : Cx) (pins : List (Addr × Obj)) (s : Shared) (σ : L2.St) (H : Hp) (i : Nat), X.prog = P → X.w = w → X.K = K → X.A.handled = none → Inv X pins σ H s → own i s.heap → J.go i H →
      ∃ xs : List V, xs.length ≤ 3 ∧ TupAt P w X.A I cs own s.heap i xs True ∧ ∀ T, H T = none → J.yld i H (.ref T) (upd H T (.tup xs)))
    (ends : ∀ (X : Cx) (pins : List (Addr × Obj)) (s : Shared) (σ : L2.St) (H : Hp) (i : Nat), X.prog = P → X.w = w → X.K = K → X.A.handled = none → Inv X pins σ H s → own i s.heap → J.stop i H → TupAt P w X.A I cs own s.heap i [] False) :
    Turn P w K (.Tuple elts kk tpos) J cs I own where
  mem := hI
  obj := cells
  keep := stays
  self := again
  item := by
    intro X eP ew eK calm i pins s σ H E inv free st more
    obtain ⟨xs, hx3, ⟨n, wr, fp, Pt, St, Mid, W, sub, hst, hown, hmore, _⟩, hyld⟩ := goes X pins s σ H i eP ew eK (inv.ok.hd calm) inv st more
    obtain ⟨hin, hvals⟩ := hmore trivial
    subst eP ew eK
    refine W.item i s _ _ hin hst fun T vals h1 tk hP hT hTup hMid k1 => ?_
    obtain ⟨us, rfl, rv⟩ := hvals vals hP
    refine ⟨.ref T, rfl, W.go elts kk tpos i T _ _ _ hMid fun h2 st2 k2 => ?_⟩
    have tup2 : h2.IsTuple T us.toArray := hTup.at fun o e => k2 T o (W.apart i T h1 hMid) e
    have fresh : H T = none := inv.hok.fresh hT
    have inv2 : Inv X pins σ (upd H T (.tup xs)) { s with heap := h2, toks := tk } :=
      inv.turnedNew (ch := cs) (fun b o nb e => k2 b o (fun m => nb (sub b m)) (k1 b o (fun m => nb (sub b m)) e)) free hT ⟨(by show xs.length ≤ sizeLine; rw [sizeLine_eq]; omega), us, rv, tup2⟩
    refine ⟨.ref T, _, inv2, rfl, hyld T fresh, hown _ _ st2, fun b hb => ?_⟩
    obtain ⟨o, ho, _⟩ := cells i _ st b hb
    rw [upd_ne (Nat.ne_of_lt (Nat.lt_of_lt_of_le (Heap.lt_size ho) hT))]
    exact (free b hb).1
  done := by
    intro X eP ew eK calm i pins s σ H E inv free st stop
    obtain ⟨n, wr, fp, Pt, St, Mid, W, sub, hst, _, _, hend⟩ := ends X pins s σ H i eP ew eK (inv.ok.hd calm) inv st stop
    obtain rfl := hend (fun f => f)
    subst eP ew eK
    exact W.done s _ _ hst fun h1 tk k1 => ⟨rfl, inv.turnedL (t' := tk) (ch := cs) (fun b o nb e => k1 b o (fun m => nb (sub b m)) e) free⟩
/-- a list (false) or a tuple (true) -/
def SqK (k : Bool) (K : PySem.W.Frag) (H : Hp) (a : Addr) (xs : List V) : Prop := if k = true then SqT K H a xs else SqL K H a xs
def IsK (k : Bool) (h : Heap) (a : Addr) (items : Array Value) : Prop := if k = true then h.IsTuple a items else h.IsList a items
def IterK (k : Bool) (h : Heap) (it a : Addr) (i : Nat) : Prop := if k = true then h.IsTupleIter it a i else h.IsListIter it a i
def oK (k : Bool) (a : Addr) : Obj := { cls := .type (if k = true then "tuple_iterator" else "list_iterator"), data := .fields #[.ref a, .int 0 0] }
theorem draws_k {prog : Program} {w : World} {A : Around} (k : Bool) (hh : A.handled = none) (it a : Addr) (hne : a ≠ it) (items : Array Value) :
    Draws prog w A it [it, a] items.size (fun i v => items[i]? = some v) (fun i h => IterK k h it a i ∧ IsK k h a items) := by
  cases k
  · exact Draws.list hh it a hne items
  · exact Draws.tuple hh it a hne items
theorem begins_k (k : Bool) (a : Addr) (items : Array Value) : Begins (.ref a) (oK k a) fun h => IsK k h a items := by
  cases k
  · exact begins_list a items
  · exact begins_tuple a items
theorem IterK.first {k : Bool} {h : Heap} {it a : Addr} (e : h.get? it = some (oK k a)) : IterK k h it a 0 := by
  cases k
  · exact ⟨_, e, rfl, rfl⟩
  · exact ⟨_, e, rfl, rfl⟩
theorem IterK.at {k : Bool} {h h' : Heap} {it a : Addr} {i : Nat} (x : IterK k h it a i) (f : ∀ o, h.get? it = some o → h'.get? it = some o) : IterK k h' it a i := by
  cases k
  · exact Heap.IsListIter.at x f
  · exact Heap.IsTupleIter.at x f
theorem IterK.cell {k : Bool} {h : Heap} {it a : Addr} {i : Nat} (x : IterK k h it a i) : ∃ o, h.get? it = some o ∧ ∀ v, o.data ≠ .cell v := by
  cases k
  · obtain ⟨o, e, _, d⟩ := x
    exact ⟨o, e, fun v q => by rw [d] at q; cases q⟩
  · obtain ⟨o, e, _, d⟩ := x
    exact ⟨o, e, fun v q => by rw [d] at q; cases q⟩
theorem SqK.is {X : Cx} {pins : List (Addr × Obj)} {σ : L2.St} {H : Hp} {s : Shared} {k : Bool} {a : Addr} {xs : List V} (I : Inv X pins σ H s) (h : SqK k X.K H a xs) : ∃ its : List Value, Vals xs its ∧ IsK k s.heap a its.toArray := by
  cases k
  · obtain ⟨its, rv, t0, _⟩ := I.list h
    exact ⟨its, rv, plain_isL t0⟩
  · obtain ⟨its, rv, t0, _⟩ := I.tuple h
    exact ⟨its, rv, t0⟩
theorem SqK.inj {X : Cx} {pins : List (Addr × Obj)} {σ : L2.St} {H : Hp} {s : Shared} {k : Bool} {a : Addr} {xs ys : List V} (I : Inv X pins σ H s) (h : SqK k X.K H a xs) (g : SqK k X.K H a ys) : xs = ys := by
  cases k
  · exact I.list_inj h g
  · exact I.tuple_inj h g
theorem IsK.lt {k : Bool} {h : Heap} {a : Addr} {its : Array Value} (x : IsK k h a its) : a < h.objs.size := by
  cases k
  · obtain ⟨o, e, _⟩ := x
    exact Heap.lt_size e
  · obtain ⟨o, e, _⟩ := x
    exact Heap.lt_size e
/-! two -/
def ItzK (k1 k2 : Bool) (K : PySem.W.Frag) (a b : Addr) : It where
  go i H := ∃ (xs ys : List V) (x y : V), SqK k1 K H a xs ∧ SqK k2 K H b ys ∧ xs[i]? = some x ∧ ys[i]? = some y
  yld i H v H' := ∃ T x y, v = .ref T ∧ H T = none ∧ H' = upd H T (.tup [x, y]) ∧ (∀ xs, SqK k1 K H a xs → xs[i]? = some x) ∧ ∀ ys, SqK k2 K H b ys → ys[i]? = some y
  stop i H := ∃ xs ys : List V, SqK k1 K H a xs ∧ SqK k2 K H b ys ∧ i = min xs.length ys.length
def ZipK2 (k1 k2 : Bool) (a b z TI TO i1 i2 : Addr) (i : Nat) (h : Heap) : Prop := IsZip h z TI TO .none ∧ IsTupOf2 h TI (.ref i1) (.ref i2) ∧ (∃ a1 a2, IsTupOf2 h TO a1 a2) ∧ IterK k1 h i1 a i ∧ IterK k2 h i2 b i
theorem turn_zipK {P : Program} {w : World} {K : PySem.W.Frag} {k1 k2 : Bool} {elts : List Expr} {kk : Nat} {tpos : Pos} {a b z TI TO i1 i2 : Addr} (S : ZipSep2 z TI TO i1 i2 [i1, a] [i2, b]) (ha : a ≠ i1) (hb : b ≠ i2) :
    Turn P w K (.Tuple elts kk tpos) (ItzK k1 k2 K a b) [z, TO, i1, i2, TI] z (ZipK2 k1 k2 a b z TI TO i1 i2) := by
  have W : ∀ (A : Around), A.handled = none → ∀ it1 it2 : Array Value, _ := fun A hh it1 it2 =>
    WalksT.zipD2 (prog := P) (w := w) (A := A) S (draws_k (A := A.in1) k1 hh i1 a ha it1) (draws_k (A := A.in1) k2 hh i2 b hb it2)
  have sub : ∀ c ∈ [z, TO, i1, i2], c ∈ [z, TO, i1, i2, TI] := fun c hc => List.mem_append_left [TI] hc
  have down : ∀ {it1 it2 : Array Value} (j : Nat) (g : Heap), (IsZip g z TI TO .none ∧ IsTupOf2 g TI (.ref i1) (.ref i2) ∧ (∃ a1 a2, IsTupOf2 g TO a1 a2) ∧ (IterK k1 g i1 a j ∧ IsK k1 g a it1) ∧ (IterK k2 g i2 b j ∧ IsK k2 g b it2)) → ZipK2 k1 k2 a b z TI TO i1 i2 j g := fun j g st => ⟨st.1, st.2.1, st.2.2.1, st.2.2.2.1.1, st.2.2.2.2.1⟩
  refine turn_tups (List.mem_cons_self ..) (fun i h st c hc => ?_) (fun i g g' st k => ?_) (fun A i s Q E st q => wpAny_pyIter_zip st.1 q) (fun X pins s σ H i eP ew eK hh inv st go => ?_) (fun X pins s σ H i eP ew eK hh inv st stop => ?_)
  · obtain ⟨s1, s2, ⟨u1, u2, s3⟩, s4, s5⟩ := st
    simp only [List.mem_cons, List.not_mem_nil, or_false] at hc
    rcases hc with rfl | rfl | rfl | rfl | rfl
    · exact ⟨_, s1, fun v q => nomatch q⟩
    · exact ⟨_, s3, fun v q => nomatch q⟩
    · exact s4.cell
    · exact s5.cell
    · exact ⟨_, s2, fun v q => nomatch q⟩
  · obtain ⟨s1, s2, ⟨u1, u2, s3⟩, s4, s5⟩ := st
    have kk : ∀ c, c ∈ [z, TO, i1, i2, TI] → ∀ o, g.get? c = some o → g'.get? c = some o := k
    simp only [List.mem_cons, List.not_mem_nil, or_false, forall_eq_or_imp, forall_eq] at kk
    obtain ⟨q1, q2, q3, q4, q5⟩ := kk
    exact ⟨q1 _ s1, q5 _ s2, ⟨u1, u2, q2 _ s3⟩, s4.at fun o q => q3 o q, s5.at fun o q => q4 o q⟩
  · obtain ⟨xs, ys, x, y, hq1, hq2, hx, hy⟩ := go
    subst eK
    obtain ⟨it1, rv1, t1⟩ := hq1.is inv
    obtain ⟨it2, rv2, t2⟩ := hq2.is inv
    obtain ⟨u1, hu1, ru1⟩ := rv1.get hx
    obtain ⟨u2, hu2, ru2⟩ := rv2.get hy
    have hu1' : it1.toArray[i]? = some u1 := by simpa using hu1
    have hu2' : it2.toArray[i]? = some u2 := by simpa using hu2
    have hin1 : i < it1.toArray.size := (Array.getElem?_eq_some_iff.mp hu1').1
    have hin2 : i < it2.toArray.size := (Array.getElem?_eq_some_iff.mp hu2').1
    refine ⟨[x, y], by show 2 ≤ 3; decide, ⟨_, _, _, _, _, _, W X.A hh it1.toArray it2.toArray, sub, ⟨st.1, st.2.1, st.2.2.1, ⟨st.2.2.2.1, t1⟩, ⟨st.2.2.2.2, t2⟩⟩, fun j g q => down j g q, fun _ => ⟨by omega, fun vals hP => ?_⟩, fun f => absurd trivial f⟩, fun T hT => ⟨T, x, y, rfl, hT, rfl, fun l hl => by rw [hl.inj inv hq1]; exact hx, fun l hl => by rw [hl.inj inv hq2]; exact hy⟩⟩
    obtain ⟨x1, x2, e1, e2, rfl⟩ := hP
    have e1 : it1.toArray[i]? = some x1 := e1
    have e2 : it2.toArray[i]? = some x2 := e2
    rw [hu1'] at e1
    rw [hu2'] at e2
    exact ⟨[x1, x2], rfl, .cons (by rw [← Option.some.inj e1]; exact ru1) (.cons (by rw [← Option.some.inj e2]; exact ru2) .nil)⟩
  · obtain ⟨xs, ys, hq1, hq2, hi⟩ := stop
    subst eK
    obtain ⟨it1, rv1, t1⟩ := hq1.is inv
    obtain ⟨it2, rv2, t2⟩ := hq2.is inv
    have l1 := rv1.length
    have l2 := rv2.length
    exact ⟨_, _, _, _, _, _, W X.A hh it1.toArray it2.toArray, sub, ⟨st.1, st.2.1, st.2.2.1, ⟨st.2.2.2.1, t1⟩, ⟨st.2.2.2.2, t2⟩⟩, fun j g q => down j g q, fun f => f.elim, fun _ => (show i = min it1.toArray.size it2.toArray.size from by
      rw [List.size_toArray, List.size_toArray, ← l1, ← l2]
      exact hi)⟩
def iZipK (K : PySem.W.Frag) (ta : TA) : TI := fun σ H R => ta σ H fun vs H1 => ∃ k1 k2 a b xs ys, vs = [.ref a, .ref b] ∧ SqK k1 K H1 a xs ∧ SqK k2 K H1 b ys ∧ R (ItzK k1 k2 K a b) H1
theorem pi_zipK {X : Cx} {e e2 : Expr} {ta : TA} {p pos tpos : Pos} {elts : List Expr} {kk : Nat} (hg : Gl X "zip") (hm : X.mg "zip" = none) (ha : PA X [e, e2] ta)
    (s1 : starEach [e, e2] X.env = (false, eval e X.env) :: starEach [e2] X.env := by rfl) (s2 : (backTo pos (starEach [e2] X.env)).any (·.1) = false := by rfl) : PI X (.Tuple elts kk tpos) (.Call (.Name "zip" p) [e, e2] [] pos) (iZipK X.K ta) where
  run pins s σ H R inv h := by
    refine Call_ (ld_blt inv hg hm PyProof.Rows.boot_zip (PyProof.Rows.callWith_type1 (thn (ha.run pos pins s σ H _ inv h) fun us s1 after => ?_) s1 s2))
    obtain ⟨vs, H1, inv1, rel, k1, k2, a, b, xs, ys, rfl, hq1, hq2, q⟩ := after
    match us, rel with
    | [_, _], .cons r1 (.cons r2 .nil) =>
      cases r1
      cases r2
      obtain ⟨it1, _, t1⟩ := hq1.is inv1
      obtain ⟨it2, _, t2⟩ := hq2.is inv1
      have la := t1.lt
      have lb := t2.lt
      refine zip_begins2 (begins_k k1 a it1.toArray) (begins_k k2 b it2.toArray) t1 t2 fun g c1 c2 c3 c4 c5 _ k => wpAny_pyIter_zip c1 ?_
      have S : ZipSep2 (s1.heap.objs.size + 4) (s1.heap.objs.size + 2) (s1.heap.objs.size + 3) s1.heap.objs.size (s1.heap.objs.size + 1) [s1.heap.objs.size, a] [s1.heap.objs.size + 1, b] :=
        zip_sep2 (fp1 := [a]) (fp2 := [b]) (fun c hc => by rw [List.mem_singleton.mp hc]; exact la) (fun c hc => by rw [List.mem_singleton.mp hc]; exact lb)
      refine ⟨_, [s1.heap.objs.size + 4, s1.heap.objs.size + 3, s1.heap.objs.size, s1.heap.objs.size + 1, s1.heap.objs.size + 2], ZipK2 k1 k2 a b _ _ _ _ _, ItzK k1 k2 X.K a b, H1, rfl, inv1.kept (t' := s1.toks) k, turn_zipK S (Nat.ne_of_lt la) (Nat.ne_of_lt (Nat.lt_succ_of_lt lb)), ⟨c1, c2, ⟨_, _, c3⟩, .first c4, .first c5⟩, fun c hc => ?_, q⟩
      have up : s1.heap.objs.size ≤ c := by
        simp only [List.mem_cons, List.not_mem_nil, or_false] at hc
        rcases hc with rfl | rfl | rfl | rfl | rfl <;> first | exact Nat.le_refl _ | exact Nat.le_add_right _ _
      exact inv1.fpOk up (inv1.hok.fresh up)
theorem walk_zipK {K : PySem.W.Frag} {k1 k2 : Bool} {a b : Addr} {xs ys : List V} (hl : xs.length = ys.length) : Walk (ItzK k1 k2 K a b) xs.length (fun H => SqK k1 K H a xs ∧ SqK k2 K H b ys) (YPair (fun i => xs[i]?) (fun i => ys[i]?)) where
  goes i H hi q := ⟨xs, ys, xs[i], ys[i], q.1, q.2, List.getElem?_eq_getElem hi, List.getElem?_eq_getElem (by omega)⟩
  stops H q := ⟨xs, ys, q.1, q.2, by omega⟩
  yields i H v H' _ q y := let ⟨T, x, y, h1, h2, h3, h4, h5⟩ := y; ⟨T, x, y, h1, h2, h3, h4 xs q.1, h5 ys q.2⟩
/-! three -/
def ItzK3 (k1 k2 k3 : Bool) (K : PySem.W.Frag) (a b c : Addr) : It where
  go i H := ∃ (xs ys zs : List V) (x y z : V), SqK k1 K H a xs ∧ SqK k2 K H b ys ∧ SqK k3 K H c zs ∧ xs[i]? = some x ∧ ys[i]? = some y ∧ zs[i]? = some z
  yld i H v H' := ∃ T x y z, v = .ref T ∧ H T = none ∧ H' = upd H T (.tup [x, y, z]) ∧ (∀ xs, SqK k1 K H a xs → xs[i]? = some x) ∧ (∀ ys, SqK k2 K H b ys → ys[i]? = some y) ∧ ∀ zs, SqK k3 K H c zs → zs[i]? = some z
  stop i H := ∃ xs ys zs : List V, SqK k1 K H a xs ∧ SqK k2 K H b ys ∧ SqK k3 K H c zs ∧ i = min (min xs.length ys.length) zs.length
def ZipK3 (k1 k2 k3 : Bool) (a b c z TI TO i1 i2 i3 : Addr) (i : Nat) (h : Heap) : Prop := IsZip h z TI TO .none ∧ IsTupOf3 h TI (.ref i1) (.ref i2) (.ref i3) ∧ (∃ a1 a2 a3, IsTupOf3 h TO a1 a2 a3) ∧ IterK k1 h i1 a i ∧ IterK k2 h i2 b i ∧ IterK k3 h i3 c i
theorem turn_zipK3 {P : Program} {w : World} {K : PySem.W.Frag} {k1 k2 k3 : Bool} {elts : List Expr} {kk : Nat} {tpos : Pos} {a b c z TI TO i1 i2 i3 : Addr} (S : ZipSep3 z TI TO i1 i2 i3 [i1, a] [i2, b] [i3, c]) (ha : a ≠ i1) (hb : b ≠ i2) (hc : c ≠ i3) :
    Turn P w K (.Tuple elts kk tpos) (ItzK3 k1 k2 k3 K a b c) [z, TO, i1, i2, i3, TI] z (ZipK3 k1 k2 k3 a b c z TI TO i1 i2 i3) := by
  have W : ∀ (A : Around), A.handled = none → ∀ it1 it2 it3 : Array Value, _ := fun A hh it1 it2 it3 =>
    WalksT.zipD3 (prog := P) (w := w) (A := A) S (draws_k (A := A.in1) k1 hh i1 a ha it1) (draws_k (A := A.in1) k2 hh i2 b hb it2) (draws_k (A := A.in1) k3 hh i3 c hc it3)
  have sub : ∀ c ∈ [z, TO, i1, i2, i3], c ∈ [z, TO, i1, i2, i3, TI] := fun c hc => List.mem_append_left [TI] hc
  have down : ∀ {it1 it2 it3 : Array Value} (j : Nat) (g : Heap), (IsZip g z TI TO .none ∧ IsTupOf3 g TI (.ref i1) (.ref i2) (.ref i3) ∧ (∃ a1 a2 a3, IsTupOf3 g TO a1 a2 a3) ∧ (IterK k1 g i1 a j ∧ IsK k1 g a it1) ∧ (IterK k2 g i2 b j ∧ IsK k2 g b it2) ∧ (IterK k3 g i3 c j ∧ IsK k3 g c it3)) → ZipK3 k1 k2 k3 a b c z TI TO i1 i2 i3 j g := fun j g st => ⟨st.1, st.2.1, st.2.2.1, st.2.2.2.1.1, st.2.2.2.2.1.1, st.2.2.2.2.2.1⟩
  refine turn_tups (List.mem_cons_self ..) (fun i h st c hc => ?_) (fun i g g' st k => ?_) (fun A i s Q E st q => wpAny_pyIter_zip st.1 q) (fun X pins s σ H i eP ew eK hh inv st go => ?_) (fun X pins s σ H i eP ew eK hh inv st stop => ?_)
  · obtain ⟨s1, s2, ⟨u1, u2, u3, s3⟩, s4, s5, s6⟩ := st
    simp only [List.mem_cons, List.not_mem_nil, or_false] at hc
    rcases hc with rfl | rfl | rfl | rfl | rfl | rfl
    · exact ⟨_, s1, fun v q => nomatch q⟩
    · exact ⟨_, s3, fun v q => nomatch q⟩
    · exact s4.cell
    · exact s5.cell
    · exact s6.cell
    · exact ⟨_, s2, fun v q => nomatch q⟩
  · obtain ⟨s1, s2, ⟨u1, u2, u3, s3⟩, s4, s5, s6⟩ := st
    have kk : ∀ c, c ∈ [z, TO, i1, i2, i3, TI] → ∀ o, g.get? c = some o → g'.get? c = some o := k
    simp only [List.mem_cons, List.not_mem_nil, or_false, forall_eq_or_imp, forall_eq] at kk
    obtain ⟨q1, q2, q3, q4, q5, q6⟩ := kk
    exact ⟨q1 _ s1, q6 _ s2, ⟨u1, u2, u3, q2 _ s3⟩, s4.at fun o q => q3 o q, s5.at fun o q => q4 o q, s6.at fun o q => q5 o q⟩
  · obtain ⟨xs, ys, zs, x, y, v, hq1, hq2, hq3, hx, hy, hv⟩ := go
    subst eK
    obtain ⟨it1, rv1, t1⟩ := hq1.is inv
    obtain ⟨it2, rv2, t2⟩ := hq2.is inv
    obtain ⟨it3, rv3, t3⟩ := hq3.is inv
    obtain ⟨u1, hu1, ru1⟩ := rv1.get hx
    obtain ⟨u2, hu2, ru2⟩ := rv2.get hy
    obtain ⟨u3, hu3, ru3⟩ := rv3.get hv
    have hu1' : it1.toArray[i]? = some u1 := by simpa using hu1
    have hu2' : it2.toArray[i]? = some u2 := by simpa using hu2
    have hu3' : it3.toArray[i]? = some u3 := by simpa using hu3
    have hin1 : i < it1.toArray.size := (Array.getElem?_eq_some_iff.mp hu1').1
    have hin2 : i < it2.toArray.size := (Array.getElem?_eq_some_iff.mp hu2').1
    have hin3 : i < it3.toArray.size := (Array.getElem?_eq_some_iff.mp hu3').1
    refine ⟨[x, y, v], by show 3 ≤ 3; decide, ⟨_, _, _, _, _, _, W X.A hh it1.toArray it2.toArray it3.toArray, sub, ⟨st.1, st.2.1, st.2.2.1, ⟨st.2.2.2.1, t1⟩, ⟨st.2.2.2.2.1, t2⟩, ⟨st.2.2.2.2.2, t3⟩⟩, fun j g q => down j g q, fun _ => ⟨by omega, fun vals hP => ?_⟩, fun f => absurd trivial f⟩, fun T hT => ⟨T, x, y, v, rfl, hT, rfl, fun l hl => by rw [hl.inj inv hq1]; exact hx, fun l hl => by rw [hl.inj inv hq2]; exact hy, fun l hl => by rw [hl.inj inv hq3]; exact hv⟩⟩
    obtain ⟨x1, x2, x3, e1, e2, e3, rfl⟩ := hP
    have e1 : it1.toArray[i]? = some x1 := e1
    have e2 : it2.toArray[i]? = some x2 := e2
    have e3 : it3.toArray[i]? = some x3 := e3
    rw [hu1'] at e1
    rw [hu2'] at e2
    rw [hu3'] at e3
    exact ⟨[x1, x2, x3], rfl, .cons (by rw [← Option.some.inj e1]; exact ru1) (.cons (by rw [← Option.some.inj e2]; exact ru2) (.cons (by rw [← Option.some.inj e3]; exact ru3) .nil))⟩
  · obtain ⟨xs, ys, zs, hq1, hq2, hq3, hi⟩ := stop
    subst eK
    obtain ⟨it1, rv1, t1⟩ := hq1.is inv
    obtain ⟨it2, rv2, t2⟩ := hq2.is inv
    obtain ⟨it3, rv3, t3⟩ := hq3.is inv
    have l1 := rv1.length
    have l2 := rv2.length
    have l3 := rv3.length
    exact ⟨_, _, _, _, _, _, W X.A hh it1.toArray it2.toArray it3.toArray, sub, ⟨st.1, st.2.1, st.2.2.1, ⟨st.2.2.2.1, t1⟩, ⟨st.2.2.2.2.1, t2⟩, ⟨st.2.2.2.2.2, t3⟩⟩, fun j g q => down j g q, fun f => f.elim, fun _ => (show i = min (min it1.toArray.size it2.toArray.size) it3.toArray.size from by
      rw [List.size_toArray, List.size_toArray, List.size_toArray, ← l1, ← l2, ← l3]
      exact hi)⟩
def iZipK3 (K : PySem.W.Frag) (ta : TA) : TI := fun σ H R => ta σ H fun vs H1 => ∃ k1 k2 k3 a b c xs ys zs, vs = [.ref a, .ref b, .ref c] ∧ SqK k1 K H1 a xs ∧ SqK k2 K H1 b ys ∧ SqK k3 K H1 c zs ∧ R (ItzK3 k1 k2 k3 K a b c) H1
theorem pi_zipK3 {X : Cx} {e e2 e3 : Expr} {ta : TA} {p pos tpos : Pos} {elts : List Expr} {kk : Nat} (hg : Gl X "zip") (hm : X.mg "zip" = none) (ha : PA X [e, e2, e3] ta)
    (s1 : starEach [e, e2, e3] X.env = (false, eval e X.env) :: starEach [e2, e3] X.env := by rfl) (s2 : (backTo pos (starEach [e2, e3] X.env)).any (·.1) = false := by rfl) : PI X (.Tuple elts kk tpos) (.Call (.Name "zip" p) [e, e2, e3] [] pos) (iZipK3 X.K ta) where
  run pins s σ H R inv h := by
    refine Call_ (ld_blt inv hg hm PyProof.Rows.boot_zip (PyProof.Rows.callWith_type1 (thn (ha.run pos pins s σ H _ inv h) fun us s1 after => ?_) s1 s2))
    obtain ⟨vs, H1, inv1, rel, k1, k2, k3, a, b, c, xs, ys, zs, rfl, hq1, hq2, hq3, q⟩ := after
    match us, rel with
    | [_, _, _], .cons r1 (.cons r2 (.cons r3 .nil)) =>
      cases r1
      cases r2
      cases r3
      obtain ⟨it1, _, t1⟩ := hq1.is inv1
      obtain ⟨it2, _, t2⟩ := hq2.is inv1
      obtain ⟨it3, _, t3⟩ := hq3.is inv1
      have la := t1.lt
      have lb := t2.lt
      have lc := t3.lt
      refine zip_begins3 (begins_k k1 a it1.toArray) (begins_k k2 b it2.toArray) (begins_k k3 c it3.toArray) t1 t2 t3 fun g c1 c2 c3 c4 c5 c6 _ k => wpAny_pyIter_zip c1 ?_
      have S : ZipSep3 (s1.heap.objs.size + 5) (s1.heap.objs.size + 3) (s1.heap.objs.size + 4) s1.heap.objs.size (s1.heap.objs.size + 1) (s1.heap.objs.size + 2) [s1.heap.objs.size, a] [s1.heap.objs.size + 1, b] [s1.heap.objs.size + 2, c] :=
        zip_sep3 (fp1 := [a]) (fp2 := [b]) (fp3 := [c]) (fun c hc => by rw [List.mem_singleton.mp hc]; exact la) (fun c hc => by rw [List.mem_singleton.mp hc]; exact lb) (fun c hc => by rw [List.mem_singleton.mp hc]; exact lc)
      refine ⟨_, [s1.heap.objs.size + 5, s1.heap.objs.size + 4, s1.heap.objs.size, s1.heap.objs.size + 1, s1.heap.objs.size + 2, s1.heap.objs.size + 3], ZipK3 k1 k2 k3 a b c _ _ _ _ _ _, ItzK3 k1 k2 k3 X.K a b c, H1, rfl, inv1.kept (t' := s1.toks) k, turn_zipK3 S (Nat.ne_of_lt la) (Nat.ne_of_lt (Nat.lt_succ_of_lt lb)) (Nat.ne_of_lt (Nat.lt_succ_of_lt (Nat.lt_succ_of_lt lc))), ⟨c1, c2, ⟨_, _, _, c3⟩, .first c4, .first c5, .first c6⟩, fun c hc => ?_, q⟩
      have up : s1.heap.objs.size ≤ c := by
        simp only [List.mem_cons, List.not_mem_nil, or_false] at hc
        rcases hc with rfl | rfl | rfl | rfl | rfl | rfl <;> first | exact Nat.le_refl _ | exact Nat.le_add_right _ _
      exact inv1.fpOk up (inv1.hok.fresh up)
def YTrip (f g k : Nat → Option V) : Nat → Hp → V → Hp → Prop := fun i H v H' => ∃ T x y z, v = .ref T ∧ H T = none ∧ H' = upd H T (.tup [x, y, z]) ∧ f i = some x ∧ g i = some y ∧ k i = some z
theorem walk_zipK3 {K : PySem.W.Frag} {k1 k2 k3 : Bool} {a b c : Addr} {xs ys zs : List V} (hl : xs.length = ys.length) (hl2 : xs.length = zs.length) : Walk (ItzK3 k1 k2 k3 K a b c) xs.length (fun H => SqK k1 K H a xs ∧ SqK k2 K H b ys ∧ SqK k3 K H c zs) (YTrip (fun i => xs[i]?) (fun i => ys[i]?) (fun i => zs[i]?)) where
  goes i H hi q := ⟨xs, ys, zs, xs[i], ys[i], zs[i], q.1, q.2.1, q.2.2, List.getElem?_eq_getElem hi, List.getElem?_eq_getElem (by omega), List.getElem?_eq_getElem (by omega)⟩
  stops H q := ⟨xs, ys, zs, q.1, q.2.1, q.2.2, by omega⟩
  yields i H v H' _ q y := let ⟨T, x, y, z, h1, h2, h3, h4, h5, h6⟩ := y; ⟨T, x, y, z, h1, h2, h3, h4 xs q.1, h5 ys q.2.1, h6 zs q.2.2⟩
/-- sum of a tuple of whole numbers: as of a list -/
theorem sqK_t {K : PySem.W.Frag} {H : Hp} {a : Addr} {xs : List V} (h : SqT K H a xs) : SqK true K H a xs := h
theorem sqK_l {K : PySem.W.Frag} {H : Hp} {a : Addr} {xs : List V} (h : SqL K H a xs) : SqK false K H a xs := h
end MyR

set_option pp.maxSteps 400
set_option Elab.async false
set_option linter.all false
set_option maxRecDepth 100000
set_option maxHeartbeats 1000000
namespace MyR
open PySem PySem.Spec PyProof.Rows L2
section
variable {prog : Program} {w : World} {A : Around} {E : Value → Shared → Prop} {s : Shared}
theorem sum_intTup {l : Addr} {xs : Array (Int × Tok)} {Q : Value → Shared → Prop} (hh : A.handled = none) (hl : s.heap.IsTuple l (intItems xs))
    (h : ∀ h' tk t', (∀ b o, s.heap.get? b = some o → h'.get? b = some o) → Q (.int (preSum (numAt xs) xs.size) t') { s with heap := h', toks := tk }) :
    wpAny (model prog w) A (call (.builtin "sum") [.ref l]) Q E s := by
  have hlt : l < s.heap.objs.size := by obtain ⟨_, e, _⟩ := hl; exact Heap.lt_size e
  refine call_sum_walkG (wpAny_pyIter_tuple hl ?_)
  refine ⟨_, _, _, _, _, _, numAt xs, rfl, Walks.tuple (A := A.in1) hh _ l (Nat.ne_of_lt hlt) (intItems xs), ⟨⟨_, Heap.get?_push_size _ rfl, rfl, rfl⟩, hl.push _⟩, fun b hb => ?_, (fun _ _ => intItems_at), fun h' tk t' hk => ?_⟩
  · show b < (s.heap.push _).objs.size
    rw [Heap.size_push]
    rcases List.mem_cons.mp hb with rfl | hb
    · exact Nat.lt_succ_self _
    · rcases List.mem_cons.mp hb with rfl | hb
      · exact Nat.lt_succ_of_lt hlt
      · cases hb
  · have := h h' tk t' fun b o e => hk b o (fun hm => absurd (List.mem_singleton.mp hm ▸ Heap.lt_size e) (Nat.lt_irrefl _)) (Heap.get?_push_of_some _ e)
    simpa [intItems] using this
theorem sum_rawT {l : Addr} {its : List Value} {ns : List Int} {Q : Value → Shared → Prop} (hh : A.handled = none) (hl : s.heap.IsTuple l its.toArray) (hi : IntsAre its ns)
    (h : ∀ h' tk t', (∀ b o, s.heap.get? b = some o → h'.get? b = some o) → Q (.int ns.sum t') { s with heap := h', toks := tk }) : wpAny (model prog w) A (call (.builtin "sum") [.ref l]) Q E s := by
  obtain ⟨xs, e⟩ := hi.allInts.items
  have hn : numsOf (intItems xs).toList = ns := by rw [← e]; exact hi.numsOf
  rw [nums_intItems] at hn
  rw [e] at hl
  refine sum_intTup hh hl fun h' tk t' hk => ?_
  have := h h' tk t' hk
  rw [preSum_eq, List.take_of_length_le (by simp), hn]; exact this
end
/-- sum of a list or a tuple of whole numbers -/
def rSumK (K : PySem.W.Frag) : List V → Hp → VK → Prop := fun vs H Q => ∃ (k : Bool) (a : Addr) (ns : List Int), vs = [V.ref a] ∧ SqK k K H a (ns.map V.int) ∧ Q (.int ns.sum) H
theorem cr_sumK {X : Cx} (hc : X.calm = true) {K : PySem.W.Frag} (hK : X.K = K) : CallR X (.builtin "sum") (rSumK K) := by
  intro pins s σ H vs us Q I r h
  subst hK
  obtain ⟨k, a, ns, rfl, hs, q⟩ := h
  cases k
  · exact cr_sum hc pins s σ H _ us Q I r ⟨a, ns, rfl, hs, q⟩
  · obtain ⟨its, rv, hl, _⟩ := I.tuple hs
    rw [Vals.ref1 r]
    exact sum_rawT (I.ok.hd hc) hl rv.ints fun h' tk t' hk => ⟨.int _, H, I.kept hk, ⟨_, rfl⟩, q⟩

end MyR

set_option Elab.async false
set_option linter.all false
set_option maxRecDepth 100000
set_option maxHeartbeats 1000000
namespace My
open PySem L2 MyR
structure Df (P : Program) (w : World) (K : PySem.W.Frag) (mg : Str → Option Value) (base : Heap) (k : Nat) (x : Str) (ps : List Str) (sp : Sp) where
  f : Addr
  fd : FuncData
  ok : FnOk P w K mg base CX0 k f fd ps sp
  g : mg x = some (.ref f)
  kp : PySem.W.keepIn K (.ref f) = true
  b : Binds K fd ps []
theorem Deal.new {H : Hp} {d l p : Addr} {o : HO} (D : Deal H d l) (h : H p = none) : Deal (upd H p o) d l := by
  obtain ⟨s, n, ns, hd, hl, r⟩ := D.ex
  exact ⟨⟨s, n, ns, by rw [upd_ne (ne_of_none hd h)]; exact hd, by rw [upd_ne (ne_of_none hl h)]; exact hl, r⟩⟩
theorem Deal.other {H : Hp} {d l p : Addr} {o : HO} (D : Deal H d l) (h1 : p ≠ d) (h2 : p ≠ l) : Deal (upd H p o) d l := by
  obtain ⟨s, n, ns, hd, hl, r⟩ := D.ex
  exact ⟨⟨s, n, ns, by rw [upd_ne (Ne.symm h1)]; exact hd, by rw [upd_ne (Ne.symm h2)]; exact hl, r⟩⟩
theorem Deal.free {H : Hp} {d l p : Addr} (D : Deal H d l) (h : H p = none) : p ≠ d ∧ p ≠ l := by
  obtain ⟨s, n, ns, hd, hl, r⟩ := D.ex
  exact ⟨Ne.symm (ne_of_none hd h), Ne.symm (ne_of_none hl h)⟩
theorem Deal.same {H H' : Hp} {d l : Addr} (D : Deal H d l) (s : Same H H') : Deal H' d l := by
  obtain ⟨z, n, ns, hd, hl, r⟩ := D.ex
  exact ⟨z, n, ns, s _ _ hd, s _ _ hl, r⟩
theorem Deal.nt {H : Hp} {d l p : Addr} {xs : List V} (D : Deal H d l) (h : H p = some (.tup xs)) : p ≠ d ∧ p ≠ l := by
  obtain ⟨z, n, ns, hd, hl, r⟩ := D.ex
  exact ⟨ne_of h hd (by intro z; cases z), ne_of h hl (by intro z; cases z)⟩
theorem Deal.ni {H : Hp} {d l p C dx : Addr} {fs : List (Str × V)} (D : Deal H d l) (h : H p = some (.ins C dx fs)) : p ≠ d ∧ p ≠ l := by
  obtain ⟨z, n, ns, hd, hl, r⟩ := D.ex
  exact ⟨ne_of h hd (by intro z; cases z), ne_of h hl (by intro z; cases z)⟩
theorem Kept.new {d l p : Addr} {H H1 : Hp} {o : HO} (a : Kept d l H H1) (h : H p = none) : Kept d l H (upd H1 p o) := fun c u e h1 h2 => by rw [upd_ne (ne_of_none e h)]; exact a c u e h1 h2
theorem Kept.of {d l : Addr} {H H' : Hp} (s : Same H H') : Kept d l H H' := fun b o e _ _ => s b o e
theorem Kept.free {d l p : Addr} {H H1 : Hp} (k : Kept d l H H1) (D : Deal H1 d l) (h : H1 p = none) : H p = none := by
  obtain ⟨n1, n2⟩ := D.free h
  cases e : H p with
  | none => rfl
  | some o => rw [k p o e n1 n2] at h; cases h
theorem new_same {H : Hp} {p : Addr} {o : HO} (h : H p = none) : Same H (upd H p o) := fun b q e => by rw [upd_ne (ne_of_none e h)]; exact e
theorem Same.tr {H H1 H2 : Hp} (a : Same H H1) (b : Same H1 H2) : Same H H2 := fun c o e => b c o (a c o e)
theorem same_free {H H1 : Hp} {p : Addr} (s : Same H H1) (h : H1 p = none) : H p = none := by
  cases e : H p with
  | none => rfl
  | some o => rw [s p o e] at h; cases h
end My

set_option pp.maxSteps 300
set_option Elab.async false
set_option linter.all false
set_option maxRecDepth 100000
set_option maxHeartbeats 1000000
namespace My
open PySem L2 MyR
def spTwos : Sp := fun vs H Q _ => ∃ n : Nat, vs = [.int (n : Int)] ∧ Q (.int (tw n : Int)) H
/-- a list of whole numbers -/
def LI (H : Hp) (a : Addr) (xs : List Int) : Prop := H a = some (.lst (xs.map V.int))
theorem LI.same {H H' : Hp} {a : Addr} {xs : List Int} (h : LI H a xs) (s : Same H H') : LI H' a xs := s _ _ h
theorem seq_c {v : V} {i : Nat} {t : TS} {D : Ends} {σ : L2.St} {H : Hp} (h : t D (σ.set i (some v)) H) : tSeq (tAsg (tC v) (gName i)) t D σ H := h
def sharesL (b : Nat) : List Int := (List.range (W b)).map fun j => (tw j : Int)
def spShares : Sp := fun vs H Q _ => ∃ b : Nat, vs = [.int (b : Int)] ∧ b ≤ 64 ∧ ∀ (L : Addr) H', H L = none → Same H H' → LI H' L (sharesL b) → Q (.ref L) H'
section
variable {P : Program} {w : World} {K : PySem.W.Frag} {mg : Str → Option Value} {base : Heap}
abbrev s_twos : Stmt := top 8
abbrev N_twos : List Str := ["n", "found", "left"]
theorem sc_twos : FnScope N_twos ["n"] (defScope s_twos) := ⟨rfl, rfl, rfl, by decide +kernel, rfl, by decide +kernel, by decide +kernel⟩
theorem lw_half {l : Nat} (h : l ≠ 0) : l / 2 + tw (l / 2) = tw l := (tw_pos h).symm
theorem ok_twos {f : Addr} {fd : FuncData} (F : Fun K "twos" "twos" s_twos f fd) : FnOk P w K mg base CX0 1 f fd ["n"] spTwos := by
  refine F.ok sc_twos (fun vs H Q E h => ?_) (fun cdv A outer s H vs Q E hr h => ?_)
  · obtain ⟨n, rfl, _⟩ := h
    rfl
  · obtain ⟨n, rfl, kq⟩ := h
    have nd := sc_twos.nd
    refine ⟨_, (pss_cons (ps_set (i := 1) nd rfl (Or.inl rfl) pe_int)
    (pss_cons (ps_set (i := 2) nd rfl (Or.inl rfl) (pe_op op_halfN (pv 0) pe_int))
    (pss_cons (ps_while PassesOwn.never (pt_cmpR op_gt (pv 2) pe_int (nomark _))
    (pss_cons (ps_set (i := 1) nd rfl (Or.inl rfl) (pe_op op_add (pv 1) (pv 2)))
    (pss_one (ps_set (i := 2) nd rfl (Or.inl rfl) (pe_op op_halfN (pv 2) pe_int)))))
    (pss_one (ps_ret (pv 1)))))), ?_⟩
    refine ⟨_, rfl, n, rfl, rfl, ?_⟩
    dsimp only [List.set_cons_succ, List.set_cons_zero]
    refine seq_by (fun σ H1 => H1 = H ∧ ∃ f : Nat, σ = [some (.int (n : Int)), some (.int (f : Int)), some (.int 0)] ∧ f = tw n) (fun D' hD' => ?_) ?_
    · refine while_by (fun σ H1 => H1 = H ∧ ∃ f l : Nat, σ = [some (.int (n : Int)), some (.int (f : Int)), some (.int (l : Int))] ∧ f + (l + tw l) = tw n) (fun σ _ => match σ with | [_, _, some (.int l)] => l.toNat | _ => 0)
        ⟨rfl, 0, n / 2, rfl, ?_⟩ ?_ ?_
      · by_cases e : n = 0
        · subst e
          rfl
        · rw [Nat.zero_add, lw_half e]
      · rintro σ H1 ⟨rfl, f, l, rfl, hf⟩
        refine ⟨_, rfl, _, _, rfl, rfl, _, rfl, ?_⟩
        refine ite2 (fun h => ?_) (fun h => ?_)
        · have hl : 0 < l := by
            have := of_decide_eq_true h
            omega
          refine ⟨_, rfl, _, rfl, _, _, rfl, rfl, _, rfl, l, rfl, rfl, ?_⟩
          refine ⟨⟨rfl, f + l, l / 2, rfl, ?_⟩, ?_⟩
          · rw [lw_half (by omega)]
            omega
          · show (((l / 2 : Nat) : Int)).toNat < ((l : Int)).toNat
            omega
        · have hl : l = 0 := by
            by_cases z : 0 < l
            · exact absurd (decide_eq_true (by omega)) h
            · omega
          subst hl
          refine hD' _ _ ⟨rfl, f, rfl, ?_⟩
          have : tw 0 = 0 := rfl
          omega
      · intro σ H1 Q Q' f h
        obtain ⟨x, e1, i, j, e2, e3, b1, eb, hc⟩ := h
        exact ⟨x, e1, i, j, e2, e3, b1, eb, f _ _ hc⟩
    rintro σ H1 ⟨rfl, f, rfl, hf⟩
    subst hf
    exact ⟨_, rfl, kq⟩
end
end My

set_option pp.maxSteps 300
set_option Elab.async false
set_option linter.all false
set_option maxRecDepth 100000
set_option maxHeartbeats 1000000
namespace My
open PySem L2 MyR
theorem li_snoc {H : Hp} {a : Addr} {xs : List Int} {x : Int} : LI (upd H a (.lst (xs.map V.int ++ [.int x]))) a (xs ++ [x]) := by
  show upd H a _ a = _
  rw [upd_same, List.map_append]
  rfl
theorem same_up {H H1 : Hp} {a : Addr} {o : HO} (s : Same H H1) (h : H a = none) : Same H (upd H1 a o) := fun c u e => by
  rw [upd_ne (ne_of_none e h)]
  exact s _ _ e
section
variable {P : Program} {w : World} {K : PySem.W.Frag} {mg : Str → Option Value} {base : Heap}
abbrev s_shares : Stmt := top 10
abbrev N_shares : List Str := ["bits", "found"]
theorem sc_shares : FnScope N_shares ["bits"] (defScope s_shares) := ⟨rfl, rfl, rfl, by decide +kernel, rfl, by decide +kernel, by decide +kernel⟩
theorem ok_shares {f : Addr} {fd : FuncData} (F : Fun K "shares" "shares" s_shares f fd) (T : Glob mg) (D_twos : Df P w K mg base 1 "twos" ["n"] spTwos) : FnOk P w K mg base CX0 2 f fd ["bits"] spShares := by
  refine F.ok sc_shares (fun vs H Q E h => ?_) (fun cdv A outer s H vs Q E hr h => ?_)
  · obtain ⟨b, rfl, _⟩ := h
    rfl
  · obtain ⟨b, rfl, hb, kq⟩ := h
    have nd := sc_shares.nd
    refine ⟨_, (pss_cons (ps_set (i := 1) nd rfl (Or.inl rfl) (pe_lst pa_nil))
    (pss_cons (ps_while PassesOwn.never (pt_cmpR op_lt (pe_call D_twos.ok (hr.mono (by decide)) (by rfl) D_twos.g D_twos.kp D_twos.b .nil pass0 (pa_cons (pe_callB call_len_seq (by rfl) T.g_len PySem.boot_len (pa_cons (pv 1) pa_nil)) pa_nil)) (pv 0) (nomark _))
    (pss_one (ps_expr (pe_bm PySem.F.plainAttrs_list PySem.F.slot_list_append PySem.F.type_list_append mt_append (pv 1) (pa_cons (pe_call D_twos.ok (hr.mono (by decide)) (by rfl) D_twos.g D_twos.kp D_twos.b .nil pass0 (pa_cons (pe_callB call_len_seq (by rfl) T.g_len PySem.boot_len (pa_cons (pv 1) pa_nil)) pa_nil)) pa_nil)))))
    (pss_one (ps_ret (pv 1))))), ?_⟩
    refine ⟨(by show 0 ≤ sizeLine; decide), fun L hL => ?_⟩
    dsimp only [List.set_cons_succ, List.set_cons_zero]
    have hW := W_66 hb
    refine seq_by (fun σ H1 => σ = [some (.int (b : Int)), some (.ref L)] ∧ Same H H1 ∧ LI H1 L (sharesL b)) (fun D' hD' => ?_) ?_
    · refine while_by (fun σ H1 => ∃ k, k ≤ W b ∧ σ = [some (.int (b : Int)), some (.ref L)] ∧ Same H H1 ∧ LI H1 L ((List.range k).map fun j => (tw j : Int)))
        (fun _ H1 => match H1 L with | some (.lst xs) => W b - xs.length | _ => 0) ⟨0, Nat.zero_le _, rfl, new_same hL, upd_same⟩ ?_ ?_
      · rintro σ H1 ⟨k, hk, rfl, sm, hl⟩
        have hlen : (((List.range k).map fun j => (tw j : Int)).map V.int).length = k := by rw [List.length_map, List.length_map, List.length_range]
        refine ⟨_, rfl, L, _, rfl, .inl (SqL.of hl), _, rfl, _, rfl, _, _, rfl, rfl, _, rfl, ?_⟩
        rw [hlen]
        refine ite2 (fun h => ?_) (fun h => ?_)
        · have h : (tw k : Int) < (b : Int) := of_decide_eq_true h
          have hkW : k < W b := W_iff.mp (by omega)
          refine ⟨_, rfl, .inl ⟨rfl, _, SqL.of hl⟩, _, rfl, L, _, rfl, .inl (SqL.of hl), _, rfl, L, _, _, rfl, rfl, hl, by rw [hlen, sizeLine_eq]; omega, ?_⟩
          rw [hlen]
          refine ⟨⟨k + 1, hkW, rfl, same_up sm hL, ?_⟩, ?_⟩
          · rw [List.range_succ, List.map_append]
            exact li_snoc
          · rw [upd_same, hl]
            show W b - (_ ++ [_]).length < W b - (List.map V.int _).length
            rw [List.length_append, hlen]
            show W b - (k + 1) < W b - k
            omega
        · have hkW : ¬ k < W b := fun z => h (decide_eq_true (by have := W_iff.mpr z; omega))
          have : k = W b := by omega
          subst this
          exact hD' _ _ ⟨rfl, sm, hl⟩
      · intro σ H1 Q Q' f h
        obtain ⟨x, e1, a, ys, e2, e3, n, e4, y, e5, i, j, e6, e7, b1, eb, hc⟩ := h
        exact ⟨x, e1, a, ys, e2, e3, n, e4, y, e5, i, j, e6, e7, b1, eb, f _ _ hc⟩
    rintro σ H1 ⟨rfl, sm, hl⟩
    exact ⟨_, rfl, kq L H1 hL sm hl⟩
end
end My

set_option pp.maxSteps 300
set_option Elab.async false
set_option linter.all false
set_option maxRecDepth 100000
set_option maxHeartbeats 1000000
namespace My
open PySem L2 MyR
def spCountV : Sp := fun vs H Q _ => ∃ c b : Nat, vs = [.int (c : Int), .int (b : Int)] ∧ c ≤ 8 ∧ 1 ≤ b ∧ b ≤ 64 ∧ ∀ H', Same H H' → Q (.int ((vecs c b).length : Int)) H'
def fnL (b : Nat) (f : Nat → Nat) : List Int := (List.range b).map fun u => (f u : Int)
theorem fnL_len (b : Nat) (f : Nat → Nat) : (fnL b f).length = b := by unfold fnL; rw [List.length_map, List.length_range]
theorem fnL_at {b u : Nat} {f : Nat → Nat} (h : u < b) : (fnL b f)[u]? = some (f u : Int) := by
  unfold fnL
  rw [List.getElem?_map, List.getElem?_range h]
  rfl
theorem fnL_set {b k v : Nat} {f : Nat → Nat} (h : k < b) : (fnL b f).set k (v : Int) = fnL b fun u => if u = k then v else f u := by
  refine List.ext_getElem? fun i => ?_
  by_cases hi : i < b
  · rw [fnL_at hi, List.getElem?_set]
    by_cases e : k = i
    · subst e
      rw [if_pos rfl, fnL_len, if_pos h, if_pos rfl]
    · rw [if_neg e, fnL_at hi, if_neg (Ne.symm e)]
  · rw [List.getElem?_eq_none (by rw [List.length_set, fnL_len]; omega), List.getElem?_eq_none (by rw [fnL_len]; omega)]
theorem fnL_congr {b : Nat} {f g : Nat → Nat} (h : ∀ u, u < b → f u = g u) : fnL b f = fnL b g := List.map_congr_left fun u hu => by rw [h u (List.mem_range.mp hu)]
theorem fnL_succ (b : Nat) (f : Nat → Nat) : fnL (b + 1) f = fnL b f ++ [(f b : Int)] := by
  unfold fnL
  rw [List.range_succ, List.map_append]
  rfl
theorem fnL_sum (f : Nat → Nat) : ∀ b, (fnL b f).sum = (smN b f : Int)
  | 0 => rfl
  | b + 1 => by
    rw [fnL_succ, List.sum_append, fnL_sum f b]
    show _ + ((f b : Int) + 0) = ((smN b f + f b : Nat) : Int)
    omega
theorem map_set_int {xs : List Int} {k : Nat} {v : Int} : (xs.map V.int).set k (.int v) = (xs.set k v).map V.int := by rw [List.map_set]
theorem map_at_int {xs : List Int} {k : Nat} {v : Int} (h : xs[k]? = some v) : (xs.map V.int)[k]? = some (.int v) := by rw [List.getElem?_map, h]; rfl
theorem LI.updN {H : Hp} {a b : Addr} {xs : List Int} {o : HO} (h : LI H a xs) (n : a ≠ b) : LI (upd H b o) a xs := by show upd H b o a = _; rw [upd_ne n]; exact h
theorem ixN_nat {n j : Nat} (h : j < n) : ixN n (j : Int) = some j := by
  unfold ixN
  rw [if_pos (Int.natCast_nonneg j), if_pos (by omega)]
  rfl
theorem atI_fn {b u : Nat} {f : Nat → Nat} {z : Int} (h : u < b) (e : z = (u : Int)) : atI ((fnL b f).map V.int) z = some (.int (f u : Int)) := by
  rw [e]
  exact atI_nat (map_at_int (fnL_at h))
theorem ixN_fn {b u : Nat} {f : Nat → Nat} {z : Int} (h : u < b) (e : z = (u : Int)) : ixN ((fnL b f).map V.int).length z = some u := by
  rw [e, List.length_map, fnL_len]
  exact ixN_nat h
section
variable {P : Program} {w : World} {K : PySem.W.Frag} {mg : Str → Option Value} {base : Heap}
abbrev s_count_vectors : Stmt := top 12
abbrev N_count_vectors : List Str := ["count", "bits", "single", "ways", "used", "_", "longer", "share"]
theorem sc_count_vectors : FnScope N_count_vectors ["count", "bits"] (defScope s_count_vectors) := ⟨rfl, rfl, rfl, by decide +kernel, rfl, by decide +kernel, by decide +kernel⟩
theorem ok_count_vectors {f : Addr} {fd : FuncData} (F : Fun K "count_vectors" "count_vectors" s_count_vectors f fd) (T : Glob mg) (g_sum : mg "sum" = none) (D_shares : Df P w K mg base 2 "shares" ["bits"] spShares) : FnOk P w K mg base CX0 3 f fd ["count", "bits"] spCountV := by
  refine F.ok sc_count_vectors (fun vs H Q E h => ?_) (fun cdv A outer s H vs Q E hr h => ?_)
  · obtain ⟨c, b, rfl, _⟩ := h
    rfl
  · obtain ⟨c, b, rfl, hc, hb1, hb, kq⟩ := h
    have nd := sc_count_vectors.nd
    refine ⟨_, (pss_cons (ps_set (i := 2) nd rfl (Or.inl rfl) (pe_call D_shares.ok (hr.mono (by decide)) (by rfl) D_shares.g D_shares.kp D_shares.b .nil pass0 (pa_cons (pv 1) pa_nil)))
    (pss_cons (ps_setLc (i := 3) (own := [("used", 4)]) (g := gName 4) (tt := tYes) rfl nd rfl rfl (sw_true rfl rfl rfl (by decide +kernel)) (pi_range1 (by rfl) T.g_range (pa_cons (pv 1) pa_nil)) (blkOk_by (N := N_count_vectors) (sc := defScope s_count_vectors) (by decide +kernel)) (fun _ _ _ _ _ => pg_name (i := 4) nd rfl (Or.inl rfl)) (fun _ _ _ _ _ => pts_nil) (fun _ _ _ _ _ => (pe_ifExp (pt_cmpR op_eq (pv 4) pe_int (nomark _)) pe_int pe_int)))
    (pss_cons (ps_for PassesOwn.never rfl (pi_range1 (by rfl) T.g_range (pa_cons (pv 0) pa_nil)) (pg_name (i := 5) nd rfl (Or.inl rfl))
    (pss_cons (ps_setLc (i := 6) (own := [("_", 5)]) (g := gName 5) (tt := tYes) rfl nd rfl rfl (sw_true rfl rfl rfl (by decide +kernel)) (pi_range1 (by rfl) T.g_range (pa_cons (pv 1) pa_nil)) (blkOk_by (N := N_count_vectors) (sc := defScope s_count_vectors) (by decide +kernel)) (fun _ _ _ _ _ => pg_name (i := 5) nd rfl (Or.inl rfl)) (fun _ _ _ _ _ => pts_nil) (fun _ _ _ _ _ => pe_int))
    (pss_cons (ps_for PassesOwn.never rfl (pi_list (pv 2)) (pg_name (i := 7) nd rfl (Or.inl rfl))
    (pss_one (ps_for PassesOwn.never rfl (pi_range1 (by rfl) T.g_range (pa_cons (pe_op op_sub (pv 1) (pv 7)) pa_nil)) (pg_name (i := 4) nd rfl (Or.inl rfl))
    (pss_one (ps_asg (pe_op op_add (pe_ix ix_list (pv 6) (pe_op op_add (pv 4) (pv 7)) (fun _ _ => rfl)) (pe_ix ix_list (pv 3) (pv 4) (fun _ _ => rfl))) (pg_sub (pv 6) (pe_op op_add (pv 4) (pv 7)) set_list))))))
    (pss_one (ps_set (i := 3) nd rfl (Or.inl rfl) (pv 6))))))
    (pss_one (ps_ret (pe_callB (cr_sumK (K := K) rfl rfl) (by rfl) g_sum (by decide +kernel) (pa_cons (pv 3) pa_nil))))))), ?_⟩
    have zl : 1000000 ≤ sizeLine := by rw [sizeLine_eq]; omega
    have hW := W_66 hb
    refine seq_by (fun σ H1 => ∃ L : Addr, σ = [some (.int (c : Int)), some (.int (b : Int)), some (.ref L), none, none, none, none, none] ∧ Same H H1 ∧ LI H1 L (sharesL b)) (fun D' hD' => ?_) ?_
    · exact ⟨_, rfl, b, rfl, hb, fun L H1 hL s1 hl => hD' _ _ ⟨L, rfl, s1, hl⟩⟩
    rintro σ H1 ⟨L, rfl, s1, hl1⟩
    refine seq_by (fun σ H2 => ∃ (A : Addr) (a4 : Option V), σ = [some (.int (c : Int)), some (.int (b : Int)), some (.ref L), some (.ref A), a4, none, none, none] ∧ Same H H2 ∧ LI H2 L (sharesL b) ∧ LI H2 A (fnL b (cn b 0))) (fun D' hD' => ?_) ?_
    · refine ⟨_, rfl, _, rfl, by omega, by omega, fun A hA => ?_⟩
      refine lc_it (n := b) walk_range (fun i H2 => Same H1 H2 ∧ LI H2 A (fnL i (cn b 0))) ⟨new_same hA, upd_same⟩ (fun _ _ _ _ => trivial) ?_ ?_
      · rintro i x H2 H3 hi ⟨s2, h2⟩ ⟨rfl, rfl⟩
        refine ⟨rfl, ?_⟩
        dsimp only [tYes]
        rw [if_pos rfl]
        refine ⟨_, rfl, rfl, _, rfl, ?_⟩
        have fin : ∀ v : Int, v = (cn b 0 i : Int) → ∃ acc, H3 A = some (.lst acc) ∧ acc.length < sizeLine ∧ (Same H1 (upd H3 A (.lst (acc ++ [V.int v]))) ∧ LI (upd H3 A (.lst (acc ++ [V.int v]))) A (fnL (i + 1) (cn b 0))) := fun v hv => by
          refine ⟨_, h2, by rw [List.length_map, fnL_len]; omega, same_up s2 hA, ?_⟩
          rw [fnL_succ, ← hv]
          exact li_snoc
        refine ite2 (fun h => ?_) (fun h => ?_)
        · have h : (0 : Int) + (i : Int) = 0 := V.int.inj (of_decide_eq_true h)
          refine fin 1 ?_
          show (1 : Int) = ((if i = 0 then 1 else 0 : Nat) : Int)
          rw [if_pos (by omega)]
          rfl
        · have h : ¬ i = 0 := fun e => h (decide_eq_true (by rw [e]; rfl))
          refine fin 0 ?_
          show (0 : Int) = ((if i = 0 then 1 else 0 : Nat) : Int)
          rw [if_neg h]
          rfl
      · rintro H2 ⟨s2, h2⟩
        exact hD' _ _ ⟨A, _, rfl, s1.trans s2, hl1.same s2, h2⟩
    clear s1 hl1
    rintro σ H2 ⟨A, a4, rfl, s2, hl2, hA2⟩
    refine seq_by (fun σ H3 => ∃ (A : Addr) (a4 a5 a6 a7 : Option V), σ = [some (.int (c : Int)), some (.int (b : Int)), some (.ref L), some (.ref A), a4, a5, a6, a7] ∧ Same H H3 ∧ LI H3 A (fnL b (cn b c))) (fun D' hD' => ?_) ?_
    · refine ⟨_, rfl, _, rfl, by omega, by omega, ?_⟩
      rw [Int.toNat_natCast]
      refine for_range (lo := 0) (n := c) (fun i σ H3 => ∃ (A : Addr) (a4 a5 a6 a7 : Option V), σ = [some (.int (c : Int)), some (.int (b : Int)), some (.ref L), some (.ref A), a4, a5, a6, a7] ∧ Same H H3 ∧ LI H3 L (sharesL b) ∧ LI H3 A (fnL b (cn b i)))
        ⟨A, a4, none, none, none, rfl, s2, hl2, hA2⟩ ?_ (fun σ H3 ⟨A, a4, a5, a6, a7, e, s3, _, h3⟩ => hD' _ _ ⟨A, a4, a5, a6, a7, e, s3, h3⟩)
      clear s2 hl2 hA2
      rintro i σ H3 hi ⟨A, a4, a5, a6, a7, rfl, s3, hl3, hA3⟩
      dsimp only [List.set_cons_succ, List.set_cons_zero]
      refine seq_by (fun σ H4 => ∃ (G : Addr) (a4 a5 a7 : Option V), σ = [some (.int (c : Int)), some (.int (b : Int)), some (.ref L), some (.ref A), a4, a5, some (.ref G), a7] ∧ Same H H4 ∧ LI H4 L (sharesL b) ∧ LI H4 A (fnL b (cn b i)) ∧ LI H4 G (fnL b fun _ => 0) ∧ L ≠ G ∧ A ≠ G ∧ H G = none) (fun D' hD' => ?_) ?_
      · refine ⟨_, rfl, _, rfl, by omega, by omega, fun G hG => ?_⟩
        refine lc_it (n := b) walk_range (fun j H4 => Same H3 H4 ∧ LI H4 G (fnL j fun _ => 0)) ⟨new_same hG, upd_same⟩ (fun _ _ _ _ => trivial) ?_ ?_
        · rintro j x H4 H5 hj ⟨s4, h4⟩ ⟨rfl, rfl⟩
          refine ⟨rfl, ?_⟩
          dsimp only [tYes]
          rw [if_pos rfl]
          refine ⟨_, h4, by rw [List.length_map, fnL_len]; omega, same_up s4 hG, ?_⟩
          rw [fnL_succ]
          exact li_snoc
        · rintro H4 ⟨s4, h4⟩
          exact hD' _ _ ⟨G, _, _, _, rfl, s3.trans s4, hl3.same s4, hA3.same s4, h4, ne_of_none hl3 hG, ne_of_none hA3 hG, same_free s3 hG⟩
      clear s3 hl3 hA3
      rintro σ H4 ⟨G, a4, a5, a7, rfl, s4, hl4, hA4, hG4, nL, nA, hGn⟩
      refine seq_by (fun σ H5 => ∃ (a4 a5 a7 : Option V), σ = [some (.int (c : Int)), some (.int (b : Int)), some (.ref L), some (.ref A), a4, a5, some (.ref G), a7] ∧ Same H H5 ∧ LI H5 L (sharesL b) ∧ LI H5 G (fnL b (cn b (i + 1)))) (fun D' hD' => ?_) ?_
      · refine ⟨_, rfl, L, rfl, ⟨_, SqL.of hl4⟩, ?_⟩
        refine for_list (xs := (sharesL b).map V.int) (fun j σ H5 => ∃ (a4 a5 a7 : Option V), σ = [some (.int (c : Int)), some (.int (b : Int)), some (.ref L), some (.ref A), a4, a5, some (.ref G), a7] ∧ Same H H5 ∧ LI H5 L (sharesL b) ∧ LI H5 A (fnL b (cn b i)) ∧ LI H5 G (fnL b fun u => smN j fun k => if tw k ≤ u then cn b i (u - tw k) else 0))
          ⟨a4, a5, a7, rfl, s4, hl4, hA4, hG4⟩ (fun j σ H5 _ h => by obtain ⟨_, _, _, _, _, h, _⟩ := h; exact SqL.of h) ?_ ?_
        · clear s4 hl4 hA4 hG4
          rintro j x σ H5 hx ⟨a4, a5, a7, rfl, s5, hl5, hA5, hG5⟩
          have hj : j < W b := by
            have := (List.getElem?_eq_some_iff.mp hx).1
            rw [List.length_map] at this
            unfold sharesL at this
            rw [List.length_map, List.length_range] at this
            exact this
          have hx' : x = .int (tw j : Int) := by
            unfold sharesL at hx
            rw [List.getElem?_map, List.getElem?_map, List.getElem?_range hj] at hx
            exact (Option.some.inj hx).symm
          subst hx'
          have htj : tw j < b := W_iff.mpr hj
          refine ⟨_, rfl, _, rfl, _, _, rfl, rfl, (b : Int) - (tw j : Int), rfl, by omega, by omega, ?_⟩
          rw [show ((b : Int) - (tw j : Int)).toNat = b - tw j by omega]
          refine for_range (lo := 0) (n := b - tw j) (fun v σ H6 => ∃ (a4 a5 : Option V), σ = [some (.int (c : Int)), some (.int (b : Int)), some (.ref L), some (.ref A), a4, a5, some (.ref G), some (.int (tw j : Int))] ∧ Same H H6 ∧ LI H6 L (sharesL b) ∧ LI H6 A (fnL b (cn b i)) ∧ LI H6 G (fnL b fun u => (smN j fun k => if tw k ≤ u then cn b i (u - tw k) else 0) + if tw j ≤ u ∧ u < tw j + v then cn b i (u - tw j) else 0))
            ⟨a4, a5, rfl, s5, hl5, hA5, ?_⟩ ?_ ?_
          · have e : (fnL b fun u => (smN j fun k => if tw k ≤ u then cn b i (u - tw k) else 0) + if tw j ≤ u ∧ u < tw j + 0 then cn b i (u - tw j) else 0) = fnL b fun u => smN j fun k => if tw k ≤ u then cn b i (u - tw k) else 0 := fnL_congr fun u _ => by
              rw [if_neg (by omega)]
              rfl
            rw [e]
            exact hG5
          · clear s5 hl5 hA5 hG5
            rintro v σ H6 hv ⟨a4, a5, rfl, s6, hl6, hA6, hG6⟩
            have hk : v + tw j < b := by omega
            refine ⟨_, rfl, _, rfl, _, rfl, _, _, rfl, rfl, G, _, _, _, rfl, rfl, SqL.of hG6, atI_fn hk (by omega), ?_⟩
            refine ⟨_, rfl, _, rfl, A, _, _, _, rfl, rfl, SqL.of hA6, atI_fn (u := v) (by omega) (by omega), _, _, rfl, rfl, ?_⟩
            refine ⟨_, rfl, _, rfl, _, rfl, _, _, rfl, rfl, G, _, _, v + tw j, rfl, rfl, hG6, ixN_fn hk (by omega), ?_⟩
            refine ⟨_, a5, rfl, same_up s6 hGn, hl6.updN nL, hA6.updN nA, ?_⟩
            show upd H6 G _ G = _
            rw [upd_same, map_set_int]
            have ev : ((((smN j fun k => if tw k ≤ v + tw j then cn b i (v + tw j - tw k) else 0) + if tw j ≤ v + tw j ∧ v + tw j < tw j + v then cn b i (v + tw j - tw j) else 0 : Nat) : Int) + (cn b i v : Int)) = (((smN j fun k => if tw k ≤ v + tw j then cn b i (v + tw j - tw k) else 0) + cn b i v : Nat) : Int) := by
              rw [if_neg (by omega)]
              omega
            rw [ev, fnL_set hk]
            congr 1
            congr 1
            refine congrArg _ (fnL_congr fun u hu => ?_)
            by_cases e : u = v + tw j
            · rw [if_pos e, e, if_pos ⟨by omega, by omega⟩, show v + tw j - tw j = v by omega]
            · rw [if_neg e]
              by_cases q : tw j ≤ u ∧ u < tw j + v
              · rw [if_pos q, if_pos ⟨q.1, by omega⟩]
              · rw [if_neg q, if_neg fun z => q ⟨z.1, by omega⟩]
          · rintro σ H6 ⟨a4, a5, rfl, s6, hl6, hA6, hG6⟩
            refine ⟨a4, a5, _, rfl, s6, hl6, hA6, ?_⟩
            have e : (fnL b fun u => smN (j + 1) fun k => if tw k ≤ u then cn b i (u - tw k) else 0) = fnL b fun u => (smN j fun k => if tw k ≤ u then cn b i (u - tw k) else 0) + if tw j ≤ u ∧ u < tw j + (b - tw j) then cn b i (u - tw j) else 0 := fnL_congr fun u hu => by
              show (smN j fun k => if tw k ≤ u then cn b i (u - tw k) else 0) + (if tw j ≤ u then cn b i (u - tw j) else 0) = _
              by_cases q : tw j ≤ u
              · rw [if_pos q, if_pos ⟨q, by omega⟩]
              · rw [if_neg q, if_neg fun z => q z.1]
            rw [e]
            exact hG6
        · rintro σ H5 ⟨a4, a5, a7, rfl, s5, hl5, hA5, hG5⟩
          rw [List.length_map] at hG5
          unfold sharesL at hG5
          rw [List.length_map, List.length_range] at hG5
          exact hD' _ _ ⟨a4, a5, a7, rfl, s5, hl5, hG5⟩
      rintro σ H5 ⟨a4, a5, a7, rfl, s5, hl5, hG5⟩
      exact ⟨_, rfl, G, _, _, _, _, rfl, s5, hl5, hG5⟩
    rintro σ H3 ⟨A, a4, a5, a6, a7, rfl, s3, h3⟩
    refine ⟨_, rfl, false, A, _, rfl, sqK_l (SqL.of h3), ?_⟩
    rw [fnL_sum, cn_sum b c b hb1 (Nat.le_refl _)]
    exact kq H3 s3
end
end My

set_option Elab.async false
set_option linter.all false
set_option maxRecDepth 100000
set_option maxHeartbeats 1000000
namespace My
/-! ### numbers modulo 2 to the bits -/
theorem em_mul {M a a' b b' : Int} (h : a % M = a' % M) (g : b % M = b' % M) : (a * b) % M = (a' * b') % M := by rw [Int.mul_emod, h, g, ← Int.mul_emod]
theorem em_add {M a a' b b' : Int} (h : a % M = a' % M) (g : b % M = b' % M) : (a + b) % M = (a' + b') % M := by rw [Int.add_emod, h, g, ← Int.add_emod]
theorem em_sub {M a a' b b' : Int} (h : a % M = a' % M) (g : b % M = b' % M) : (a - b) % M = (a' - b') % M := by rw [Int.sub_emod, h, g, ← Int.sub_emod]
theorem em_self {M a : Int} : (a % M) % M = a % M := Int.emod_emod_of_dvd a (Int.dvd_refl M)
theorem p2_pos (b : Nat) : (0 : Int) < 2 ^ b := Int.pow_pos (by decide)
theorem p2_dvd {a b : Nat} (h : a ≤ b) : (2 : Int) ^ a ∣ 2 ^ b := ⟨2 ^ (b - a), by rw [← Int.pow_add, show a + (b - a) = b by omega]⟩
/-! ### the inverse of an odd number -/
theorem inv_step {o f : Int} {s b : Nat} (h : (2 : Int) ^ s ∣ o * f - 1) (hs : s ≤ b) (t : Nat) (ht1 : t ≤ 2 * s) (ht2 : t ≤ b) : (2 : Int) ^ t ∣ o * (f * (2 - o * f) % 2 ^ b) - 1 := by
  obtain ⟨q, e⟩ := h
  have e1 : o * (f * (2 - o * f)) - 1 = -((o * f - 1) * (o * f - 1)) := by
    rw [← Int.mul_assoc]
    generalize o * f = y
    have h1 : y * (2 - y) = y * 2 - y * y := Int.mul_sub ..
    have h2 : (y - 1) * (y - 1) = y * y - y - (y - 1) := by rw [Int.sub_mul, Int.mul_sub]; omega
    rw [h1, h2]
    omega
  have e2 : f * (2 - o * f) % 2 ^ b = f * (2 - o * f) - 2 ^ b * (f * (2 - o * f) / 2 ^ b) := Int.emod_def ..
  rw [e2, Int.mul_sub]
  have e3 : o * (f * (2 - o * f)) - o * (2 ^ b * (f * (2 - o * f) / 2 ^ b)) - 1 = -((o * f - 1) * (o * f - 1)) - o * (2 ^ b * (f * (2 - o * f) / 2 ^ b)) := by omega
  rw [e3, e]
  refine Int.dvd_sub (Int.dvd_neg.mpr ?_) ?_
  · refine Int.dvd_trans (p2_dvd ht1) ⟨q * q, ?_⟩
    rw [show 2 * s = s + s by omega, Int.pow_add, Int.mul_assoc, Int.mul_assoc]
    congr 1
    rw [← Int.mul_assoc, Int.mul_comm q, Int.mul_assoc]
  · refine Int.dvd_trans (p2_dvd ht2) ⟨o * (f * (2 - o * f) / 2 ^ b), ?_⟩
    rw [← Int.mul_assoc, Int.mul_comm o, Int.mul_assoc]
theorem odd_sq {o : Int} (h : o % 2 = 1) : (2 : Int) ^ 3 ∣ o * o - 1 := by
  obtain ⟨k, rfl⟩ : ∃ k, o = 2 * k + 1 := ⟨o / 2, by omega⟩
  have h1 : (2 * k + 1) * (2 * k + 1) - 1 = 4 * (k * (k + 1)) := by
    have a1 : (2 * k + 1) * (2 * k + 1) = 2 * k * (2 * k + 1) + (2 * k + 1) := by rw [Int.add_mul, Int.one_mul]
    have a2 : 2 * k * (2 * k + 1) = 2 * k * (2 * k) + 2 * k := by rw [Int.mul_add, Int.mul_one]
    have a3 : 2 * k * (2 * k) = 4 * (k * k) := by rw [Int.mul_assoc, Int.mul_left_comm k, ← Int.mul_assoc]; rfl
    have a4 : k * (k + 1) = k * k + k := by rw [Int.mul_add, Int.mul_one]
    rw [a1, a2, a3, a4]
    omega
  have h2 : k * (k + 1) % 2 = 0 := by
    rcases (show k % 2 = 0 ∨ k % 2 = 1 by omega) with e | e
    · rw [Int.mul_emod, e, Int.zero_mul]; rfl
    · rw [Int.mul_emod, show (k + 1) % 2 = 0 by omega, Int.mul_zero]; rfl
  rw [h1]
  obtain ⟨q, e⟩ := Int.dvd_of_emod_eq_zero h2
  exact ⟨q, by rw [e, ← Int.mul_assoc]; rfl⟩
theorem inv_first {o : Int} {b t : Nat} (h : o % 2 = 1) (h3 : t ≤ 3) (hb : t ≤ b) : (2 : Int) ^ t ∣ o * (o % 2 ^ b) - 1 := by
  have e2 : o % 2 ^ b = o - 2 ^ b * (o / 2 ^ b) := Int.emod_def ..
  rw [e2, Int.mul_sub]
  have e3 : o * o - o * (2 ^ b * (o / 2 ^ b)) - 1 = (o * o - 1) - o * (2 ^ b * (o / 2 ^ b)) := by omega
  rw [e3]
  refine Int.dvd_sub (Int.dvd_trans (p2_dvd h3) (odd_sq h)) (Int.dvd_trans (p2_dvd hb) ⟨o * (o / 2 ^ b), ?_⟩)
  rw [← Int.mul_assoc, Int.mul_comm o, Int.mul_assoc]
/-- an inverse, below 2 to the bits -/
def InvOf (b : Nat) (o v : Int) : Prop := 0 ≤ v ∧ v < 2 ^ b ∧ (2 : Int) ^ b ∣ o * v - 1
theorem InvOf.one {b : Nat} {o v : Int} (h : InvOf b o v) : (o * v) % 2 ^ b = 1 % 2 ^ b := Int.emod_eq_emod_iff_emod_sub_eq_zero.mpr (Int.emod_eq_zero_of_dvd h.2.2)
/-! ### odd parts of factorials -/
def od (j : Nat) : Int := (j : Int) / (PySem.Builtin.bitAnd (j : Int) (-(j : Int)))
def odP : Nat → Int
  | 0 => 1
  | k + 1 => odP k * od (k + 1)
theorem od_ok : ∀ j, j < 66 → 0 < PySem.Builtin.bitAnd ((j + 1 : Nat) : Int) (-((j + 1 : Nat) : Int)) ∧ PySem.Builtin.bitAnd ((j + 1 : Nat) : Int) (-((j + 1 : Nat) : Int)) < 1073741824 ∧ od (j + 1) % 2 = 1 ∧ 0 < od (j + 1) ∧ od (j + 1) < 100 ∧ ((j : Int) + 1) * 2 ^ tw j = 2 ^ tw (j + 1) * od (j + 1) := by decide +kernel
theorem odP_odd : ∀ k, k ≤ 66 → odP k % 2 = 1
  | 0, _ => rfl
  | k + 1, h => by
    show odP k * od (k + 1) % 2 = 1
    rw [Int.mul_emod, odP_odd k (by omega), (od_ok k (by omega)).2.2.1]
    rfl
theorem fac_od : ∀ k, k ≤ 66 → fac k = 2 ^ tw k * odP k
  | 0, _ => rfl
  | k + 1, h => by
    have ih := fac_od k (by omega)
    have q := (od_ok k (by omega)).2.2.2.2.2
    show ((k : Int) + 1) * fac k = 2 ^ tw (k + 1) * (odP k * od (k + 1))
    rw [ih, ← Int.mul_assoc, q, Int.mul_assoc, Int.mul_comm (od (k + 1))]
/-! ### falling products -/
theorem fall_mod {M z z' : Int} (h : z % M = z' % M) : ∀ k, fall z k % M = fall z' k % M
  | 0 => rfl
  | k + 1 => em_mul (fall_mod h k) (em_sub h rfl)
/-- what `falling` gives, from the item at s on -/
def flo (M z : Int) : Nat → List Int → Int
  | _, [] => 0
  | s, a :: r => (a + flo M z (s + 1) r * (z - (s : Int))) % M
def flS (z : Int) : Nat → List Int → Int
  | _, [] => 0
  | s, a :: r => a * fall z s + flS z (s + 1) r
theorem flo_fall (M z : Int) : ∀ (cs : List Int) (s : Nat), (flo M z s cs * fall z s) % M = flS z s cs % M
  | [], s => by
    show (0 * fall z s) % M = 0 % M
    rw [Int.zero_mul]
  | a :: r, s => by
    have ih := flo_fall M z r (s + 1)
    show ((a + flo M z (s + 1) r * (z - (s : Int))) % M * fall z s) % M = (a * fall z s + flS z (s + 1) r) % M
    rw [em_mul (b' := fall z s) em_self rfl, Int.add_mul]
    refine em_add rfl ?_
    rw [Int.mul_assoc, Int.mul_comm (z - (s : Int))]
    exact ih
theorem flo_lo (M z : Int) (cs : List Int) (s : Nat) : flo M z s cs % M = flo M z s cs := by
  cases cs with
  | nil => exact Int.zero_emod M
  | cons a r => exact em_self
theorem flo_zero (M z : Int) (cs : List Int) : flo M z 0 cs = flS z 0 cs % M := by
  have := flo_fall M z cs 0
  rw [show fall z 0 = 1 from rfl, Int.mul_one, flo_lo] at this
  exact this
theorem flS_zeros {z : Int} : ∀ (cs : List Int) (n s : Nat), flS z s (cs ++ List.replicate n 0) = flS z s cs
  | [], 0, s => rfl
  | [], n + 1, s => by
    show 0 * fall z s + flS z (s + 1) (List.replicate n 0) = 0
    have := flS_zeros [] n (s + 1) (z := z)
    rw [List.nil_append] at this
    rw [this, Int.zero_mul]
    rfl
  | a :: r, n, s => by
    show a * fall z s + flS z (s + 1) (r ++ List.replicate n 0) = a * fall z s + flS z (s + 1) r
    rw [flS_zeros r n (s + 1)]
theorem flS_map (z : Int) (f : Nat → Int) : ∀ n, flS z 0 ((List.range n).map f) = smI n fun k => f k * fall z k
  | 0 => rfl
  | n + 1 => by
    have app : ∀ (a b : List Int) (s : Nat), flS z s (a ++ b) = flS z s a + flS z (s + a.length) b := by
      intro a
      induction a with
      | nil => intro b s; show flS z s b = 0 + flS z s b; omega
      | cons x a ih =>
        intro b s
        show x * fall z s + flS z (s + 1) (a ++ b) = x * fall z s + flS z (s + 1) a + flS z (s + (a.length + 1)) b
        rw [ih, show s + 1 + a.length = s + (a.length + 1) by omega]
        omega
    rw [List.range_succ, List.map_append, app, flS_map z f n, List.length_map, List.length_range]
    show smI n (fun k => f k * fall z k) + (f n * fall z (0 + n) + 0) = smI n (fun k => f k * fall z k) + f n * fall z n
    rw [Nat.zero_add]
    omega
theorem smI_mod {M : Int} : ∀ {n : Nat} {f g : Nat → Int}, (∀ i, i < n → f i % M = g i % M) → smI n f % M = smI n g % M
  | 0, _, _, _ => rfl
  | n + 1, f, g, h => em_add (smI_mod fun i hi => h i (by omega)) (h n (by omega))
/-- a coefficient's product with the falling ones is the binomials' -/
theorem coef_bn {b p q : Nat} {c x y z1 z2 : Int} (hp : p ≤ 66) (hq : q ≤ 66) (hu : tw p + tw q ≤ b) (hx : InvOf b (odP p) x) (hy : InvOf b (odP q) y) (hc : (2 : Int) ^ (tw p + tw q) ∣ c) :
    ((c % 2 ^ b) / 2 ^ (tw p + tw q) * x * y % 2 ^ b * (fall z2 q * fall z1 p)) % 2 ^ b = (c * (bn z2 q * bn z1 p)) % 2 ^ b := by
  have hd : (2 : Int) ^ (tw p + tw q) ∣ c % 2 ^ b := by
    rw [Int.emod_def]
    exact Int.dvd_sub hc (Int.dvd_trans (p2_dvd hu) ⟨_, rfl⟩)
  obtain ⟨m, em⟩ := hd
  have e1 : (c % 2 ^ b) / 2 ^ (tw p + tw q) = m := by
    rw [em]
    exact Int.mul_ediv_cancel_left _ (by have := p2_pos (tw p + tw q); omega)
  rw [e1, ← fac_bn p z1, ← fac_bn q z2, fac_od p hp, fac_od q hq, em_mul (b' := _) em_self rfl]
  have e2 : m * x * y * (2 ^ tw q * odP q * bn z2 q * (2 ^ tw p * odP p * bn z1 p)) = (odP p * x) * ((odP q * y) * ((2 ^ (tw p + tw q) * m) * (bn z2 q * bn z1 p))) := by
    rw [Int.pow_add]
    generalize (2 : Int) ^ tw p = P
    generalize (2 : Int) ^ tw q = Q
    generalize odP p = A
    generalize odP q = B
    generalize bn z2 q = R
    generalize bn z1 p = S
    simp only [Int.mul_assoc, Int.mul_comm, Int.mul_left_comm]
  rw [e2, em_mul hx.one (em_mul hy.one rfl), ← em, Int.one_mul, Int.one_mul]
  exact em_mul em_self rfl
end My

set_option pp.maxSteps 300
set_option Elab.async false
set_option linter.all false
set_option maxRecDepth 100000
set_option maxHeartbeats 1000000
namespace My
open PySem L2 MyR
theorem p64 {b : Nat} (h : b ≤ 64) : (2 : Int) ^ b ≤ 18446744073709551616 := by
  have q : ∀ b < 65, (2 : Int) ^ b ≤ 18446744073709551616 := by decide +kernel
  exact q b (by omega)
/-- lists of the inverses of odd factorials -/
def InvsAt (H : Hp) (a : Addr) (b n : Nat) : Prop := ∃ xs : List Int, LI H a xs ∧ xs.length = n ∧ ∀ k, k < n → ∃ v, xs[k]? = some v ∧ InvOf b (odP k) v
def spInverse : Sp := fun vs H Q _ => ∃ (o : Int) (b : Nat), vs = [.int o, .int (b : Int)] ∧ 1 ≤ b ∧ b ≤ 64 ∧ o % 2 = 1 ∧ ∀ v, InvOf b o v → Q (.int v) H
def spInverses : Sp := fun vs H Q _ => ∃ (n b : Nat), vs = [.int (n : Int), .int (b : Int)] ∧ 1 ≤ b ∧ b ≤ 64 ∧ n ≤ 66 ∧ ∀ (L : Addr) H', H L = none → Same H H' → (∃ xs : List Int, LI H' L xs ∧ xs.length = n ∧ ∀ k, k < n → ∃ v, xs[k]? = some v ∧ InvOf b (odP k) v) → Q (.ref L) H'
def spFalling : Sp := fun vs H Q _ => ∃ (L : Addr) (cs : List Int) (z : Int) (b : Nat), vs = [.ref L, .int z, .int (2 ^ b - 1)] ∧ LI H L cs ∧ b ≤ 64 ∧ cs.length ≤ 1000 ∧ Q (.int (flo (2 ^ b) z 0 cs)) H
section
variable {P : Program} {w : World} {K : PySem.W.Frag} {mg : Str → Option Value} {base : Heap}
abbrev s_inverse : Stmt := top 20
abbrev N_inverse : List Str := ["odd", "bits", "mask", "found", "right"]
theorem sc_inverse : FnScope N_inverse ["odd", "bits"] (defScope s_inverse) := ⟨rfl, rfl, rfl, by decide +kernel, rfl, by decide +kernel, by decide +kernel⟩
theorem ok_inverse {f : Addr} {fd : FuncData} (F : Fun K "inverse" "inverse" s_inverse f fd) : FnOk P w K mg base CX0 1 f fd ["odd", "bits"] spInverse := by
  refine F.ok sc_inverse (fun vs H Q E h => ?_) (fun cdv A outer s H vs Q E hr h => ?_)
  · obtain ⟨o, b, rfl, _⟩ := h
    rfl
  · obtain ⟨o, b, rfl, hb1, hb, ho, kq⟩ := h
    have nd := sc_inverse.nd
    refine ⟨_, (pss_cons (ps_set (i := 2) nd rfl (Or.inl rfl) (pe_op op_sub (pe_op op_shl pe_int (pv 1)) pe_int))
    (pss_cons (ps_set (i := 3) nd rfl (Or.inl rfl) (pe_op op_andM (pv 0) (pv 2)))
    (pss_cons (ps_set (i := 4) nd rfl (Or.inl rfl) pe_int)
    (pss_cons (ps_while PassesOwn.never (pt_cmpR op_lt (pv 4) (pv 1) (nomark _))
    (pss_cons (ps_set (i := 3) nd rfl (Or.inl rfl) (pe_op op_andM (pe_op op_mul (pv 3) (pe_op op_sub pe_int (pe_op op_mul (pv 0) (pv 3)))) (pv 2)))
    (pss_one (ps_set (i := 4) nd rfl (Or.inl rfl) (pe_op op_mul (pv 4) pe_int)))))
    (pss_one (ps_ret (pv 3))))))), ?_⟩
    have h64 := p64 hb
    have hp := p2_pos b
    have fin : ∀ {f : Int}, 0 ≤ f % 2 ^ b ∧ f % 2 ^ b < 2 ^ b := fun {f} => ⟨Int.emod_nonneg _ (by omega), Int.emod_lt_of_pos _ hp⟩
    refine seq_by (fun σ H1 => H1 = H ∧ σ = [some (.int o), some (.int (b : Int)), some (.int (2 ^ b - 1)), none, none]) (fun D' hD' => ?_) ?_
    · refine ⟨_, rfl, _, _, rfl, rfl, ⟨by omega, by omega, by decide⟩, _, _, rfl, rfl, hD' _ _ ⟨rfl, ?_⟩⟩
      rw [Int.toNat_natCast, Int.one_mul]
      rfl
    rintro σ H1 ⟨rfl, rfl⟩
    refine seq_by (fun σ H2 => H2 = H1 ∧ σ = [some (.int o), some (.int (b : Int)), some (.int (2 ^ b - 1)), some (.int (o % 2 ^ b)), none]) (fun D' hD' => ?_) ?_
    · exact ⟨_, rfl, _, rfl, o, b, rfl, rfl, hD' _ _ ⟨rfl, rfl⟩⟩
    rintro σ H ⟨rfl, rfl⟩
    refine seq_by (fun σ H2 => H2 = H ∧ σ = [some (.int o), some (.int (b : Int)), some (.int (2 ^ b - 1)), some (.int (o % 2 ^ b)), some (.int 3)]) (fun D' hD' => ?_) ?_
    · exact hD' _ _ ⟨rfl, rfl⟩
    rintro σ H1 ⟨rfl, rfl⟩
    refine seq_by (fun σ H2 => H2 = H1 ∧ ∃ (f : Int) (a4 : Option V), σ = [some (.int o), some (.int (b : Int)), some (.int (2 ^ b - 1)), some (.int f), a4] ∧ InvOf b o f) (fun D' hD' => ?_) ?_
    · refine while_by (fun σ H2 => H2 = H1 ∧ ∃ (f : Int) (r : Nat), σ = [some (.int o), some (.int (b : Int)), some (.int (2 ^ b - 1)), some (.int f), some (.int (r : Int))] ∧ 3 ≤ r ∧ r ≤ 1000 ∧ 0 ≤ f ∧ f < 2 ^ b ∧ (2 : Int) ^ (min r b) ∣ o * f - 1) (fun σ _ => match σ with | [_, _, _, _, some (.int r)] => 1000 - r.toNat | _ => 0)
        ⟨rfl, o % 2 ^ b, 3, rfl, Nat.le_refl _, by decide, fin.1, fin.2, inv_first ho (by omega) (by omega)⟩ ?_ ?_
      · rintro σ H2 ⟨rfl, f, r, rfl, r3, r9, f0, f1, hd⟩
        refine ⟨_, rfl, _, rfl, _, _, rfl, rfl, _, rfl, ?_⟩
        refine ite2 (fun h => ?_) (fun h => ?_)
        · have h : (r : Int) < (b : Int) := of_decide_eq_true h
          refine ⟨_, rfl, _, rfl, _, rfl, _, _, rfl, rfl, .inr ⟨by omega, by omega⟩, _, _, rfl, rfl, _, _, rfl, rfl, .inl ⟨by omega, by omega⟩, _, rfl, _, b, rfl, rfl, ?_⟩
          refine ⟨_, rfl, _, _, rfl, rfl, .inl ⟨by omega, by omega⟩, ?_⟩
          refine ⟨⟨rfl, _, r * 2, rfl, by omega, by omega, fin.1, fin.2, ?_⟩, ?_⟩
          · rw [show min r b = r by omega] at hd
            exact inv_step hd (by omega) _ (by omega) (by omega)
          · show 1000 - ((r : Int) * 2).toNat < 1000 - (r : Int).toNat
            omega
        · have h : ¬ (r : Int) < (b : Int) := fun z => h (decide_eq_true z)
          rw [show min r b = b by omega] at hd
          exact hD' _ _ ⟨rfl, f, _, rfl, f0, f1, hd⟩
      · intro σ H1 Q Q' f h
        obtain ⟨x, e1, y, e2, i, j, e3, e4, b1, eb, hc⟩ := h
        exact ⟨x, e1, y, e2, i, j, e3, e4, b1, eb, f _ _ hc⟩
    rintro σ H1 ⟨rfl, f, a4, rfl, hf⟩
    exact ⟨_, rfl, kq f hf⟩
abbrev s_odd_inverses : Stmt := top 23
abbrev N_odd_inverses : List Str := ["count", "bits", "found", "product", "j"]
theorem sc_odd_inverses : FnScope N_odd_inverses ["count", "bits"] (defScope s_odd_inverses) := ⟨rfl, rfl, rfl, by decide +kernel, rfl, by decide +kernel, by decide +kernel⟩
theorem ok_odd_inverses {f : Addr} {fd : FuncData} (F : Fun K "odd_inverses" "odd_inverses" s_odd_inverses f fd) (T : Glob mg) (D_inverse : Df P w K mg base 1 "inverse" ["odd", "bits"] spInverse) : FnOk P w K mg base CX0 2 f fd ["count", "bits"] spInverses := by
  refine F.ok sc_odd_inverses (fun vs H Q E h => ?_) (fun cdv A outer s H vs Q E hr h => ?_)
  · obtain ⟨n, b, rfl, _⟩ := h
    rfl
  · obtain ⟨n, b, rfl, hb1, hb, hn, kq⟩ := h
    have nd := sc_odd_inverses.nd
    refine ⟨_, (pss_cons (ps_set (i := 2) nd rfl (Or.inl rfl) (pe_lst pa_nil))
    (pss_cons (ps_set (i := 3) nd rfl (Or.inl rfl) pe_int)
    (pss_cons (ps_for PassesOwn.never rfl (pi_range1 (by rfl) T.g_range (pa_cons (pv 0) pa_nil)) (pg_name (i := 4) nd rfl (Or.inl rfl))
    (pss_cons (ps_if (pt_cmpR op_gt (pv 4) pe_int (nomark _))
    (pss_one (ps_set (i := 3) nd rfl (Or.inl rfl) (pe_op op_mul (pv 3) (pe_op op_fdiv (pv 4) (pe_op op_and (pv 4) (pe_un un_neg (pv 4)))))))
    pss_nil)
    (pss_one (ps_expr (pe_bm PySem.F.plainAttrs_list PySem.F.slot_list_append PySem.F.type_list_append mt_append (pv 2) (pa_cons (pe_call D_inverse.ok (hr.mono (by decide)) (by rfl) D_inverse.g D_inverse.kp D_inverse.b .nil pass0 (pa_cons (pv 3) (pa_cons (pv 1) pa_nil))) pa_nil))))))
    (pss_one (ps_ret (pv 2)))))), ?_⟩
    refine ⟨(by show 0 ≤ sizeLine; decide), fun L hL => ?_⟩
    dsimp only [List.set_cons_succ, List.set_cons_zero]
    refine ⟨_, rfl, (n : Int), rfl, by omega, by omega, ?_⟩
    rw [Int.toNat_natCast]
    refine for_range (lo := 0) (n := n) (fun i σ H1 => ∃ (a4 : Option V) (xs : List Int), σ = [some (.int (n : Int)), some (.int (b : Int)), some (.ref L), some (.int (odP (i - 1))), a4] ∧ Same H H1 ∧ LI H1 L xs ∧ xs.length = i ∧ ∀ k, k < i → ∃ v, xs[k]? = some v ∧ InvOf b (odP k) v)
      ⟨none, [], rfl, new_same hL, upd_same, rfl, fun k hk => absurd hk (Nat.not_lt_zero _)⟩ ?_ ?_
    · rintro i σ H1 hi ⟨a4, xs, rfl, sm, hl, hln, hv⟩
      dsimp only [List.set_cons_succ, List.set_cons_zero]
      have e0 : (0 : Int) + (i : Int) = (i : Int) := by omega
      rw [e0]
      refine seq_by (fun σ H2 => H2 = H1 ∧ σ = [some (.int (n : Int)), some (.int (b : Int)), some (.ref L), some (.int (odP i)), some (.int (i : Int))]) (fun D' hD' => ?_) ?_
      · refine ⟨_, rfl, _, _, rfl, rfl, _, rfl, ?_⟩
        refine ite2 (fun h => ?_) (fun h => ?_)
        · have h : (i : Int) > 0 := of_decide_eq_true h
          obtain ⟨k, rfl⟩ : ∃ k, i = k + 1 := ⟨i - 1, by omega⟩
          obtain ⟨q1, q2, q3, q4, q5, q6⟩ := od_ok k (by omega)
          refine ⟨_, rfl, _, rfl, _, rfl, _, rfl, _, rfl, _, _, rfl, rfl, _, _, rfl, rfl, ⟨q1, q2⟩, ?_⟩
          exact ⟨_, _, rfl, rfl, .inr ⟨by unfold od at q4; omega, by unfold od at q5; omega⟩, hD' _ _ ⟨rfl, rfl⟩⟩
        · have h : i = 0 := by
            by_cases z : (i : Int) > 0
            · exact absurd (decide_eq_true z) h
            · omega
          subst h
          exact hD' _ _ ⟨rfl, rfl⟩
      rintro σ H2 ⟨rfl, rfl⟩
      refine ⟨_, rfl, .inl ⟨rfl, _, SqL.of hl⟩, _, rfl, _, rfl, odP i, b, rfl, hb1, hb, odP_odd i (by omega), fun v hv1 => ?_⟩
      refine ⟨L, _, _, rfl, rfl, hl, by rw [List.length_map, hln, sizeLine_eq]; omega, ?_⟩
      refine ⟨_, xs ++ [v], rfl, same_up sm hL, li_snoc, by rw [List.length_append, hln]; rfl, fun k hk => ?_⟩
      by_cases e : k = i
      · subst e
        exact ⟨v, by rw [List.getElem?_append_right (by omega), hln, Nat.sub_self]; rfl, hv1⟩
      · obtain ⟨u, e1, e2⟩ := hv k (by omega)
        exact ⟨u, by rw [List.getElem?_append_left (by omega)]; exact e1, e2⟩
    · rintro σ H1 ⟨a4, xs, rfl, sm, hl, hln, hv⟩
      exact ⟨_, rfl, kq L H1 hL sm ⟨xs, hl, hln, hv⟩⟩
end
end My

set_option pp.maxSteps 300
set_option Elab.async false
set_option linter.all false
set_option maxRecDepth 100000
set_option maxHeartbeats 1000000
namespace My
open PySem L2 MyR
theorem flo_lt {b : Nat} {z : Int} (cs : List Int) (s : Nat) : 0 ≤ flo (2 ^ b) z s cs ∧ flo (2 ^ b) z s cs < 2 ^ b := by
  have hp := p2_pos b
  cases cs with
  | nil => exact ⟨Int.le_refl _, hp⟩
  | cons a r => exact ⟨Int.emod_nonneg _ (by omega), Int.emod_lt_of_pos _ hp⟩
/-- a list of lists of whole numbers -/
def LLI (H : Hp) (a : Addr) (xss : List (List Int)) : Prop := ∃ as : List Addr, H a = some (.lst (as.map V.ref)) ∧ as.length = xss.length ∧ ∀ (i : Nat) xs, xss[i]? = some xs → ∃ p, as[i]? = some p ∧ LI H p xs
theorem LLI.same {H H' : Hp} {a : Addr} {xss : List (List Int)} (h : LLI H a xss) (s : Same H H') : LLI H' a xss := let ⟨as, e1, e2, e3⟩ := h; ⟨as, s _ _ e1, e2, fun i xs e => let ⟨p, q1, q2⟩ := e3 i xs e; ⟨p, q1, q2.same s⟩⟩
def spEval : Sp := fun vs H Q _ => ∃ (R p : Addr) (rows : List (List Int)) (zs : List Int) (b : Nat) (v : Int), vs = [.ref R, .ref p, .int (2 ^ b - 1)] ∧ LLI H R rows ∧ LI H p zs ∧ b ≤ 64 ∧ rows.length ≤ 1000 ∧ (∀ r ∈ rows, r.length ≤ 1000) ∧
  ((∃ r ws z, rows = [r] ∧ zs = ws ++ [z] ∧ v = flo (2 ^ b) z 0 r) ∨ (rows.length ≠ 1 ∧ ∃ z1 z2, zs = [z1, z2] ∧ v = flo (2 ^ b) z1 0 (rows.map (flo (2 ^ b) z2 0)))) ∧ ∀ H', Same H H' → Q (.int v) H'
theorem ix_listN {X : Cx} {K : PySem.W.Frag} (h : X.K = K) : IxR X (rIxL K) := h ▸ ix_list
theorem ix_tupN {X : Cx} {K : PySem.W.Frag} (h : X.K = K) : IxR X (rIxT K) := h ▸ ix_tup
section
variable {P : Program} {w : World} {K : PySem.W.Frag} {mg : Str → Option Value} {base : Heap}
abbrev s_falling : Stmt := top 24
abbrev N_falling : List Str := ["coefficients", "z", "mask", "total", "at"]
theorem sc_falling : FnScope N_falling ["coefficients", "z", "mask"] (defScope s_falling) := ⟨rfl, rfl, rfl, by decide +kernel, rfl, by decide +kernel, by decide +kernel⟩
theorem ok_falling {f : Addr} {fd : FuncData} (F : Fun K "falling" "falling" s_falling f fd) (T : Glob mg) : FnOk P w K mg base CX0 1 f fd ["coefficients", "z", "mask"] spFalling := by
  refine F.ok sc_falling (fun vs H Q E h => ?_) (fun cdv A outer s H vs Q E hr h => ?_)
  · obtain ⟨L, cs, z, b, rfl, _⟩ := h
    rfl
  · obtain ⟨L, cs, z, b, rfl, hl, hb, hcl, kq⟩ := h
    have nd := sc_falling.nd
    refine ⟨_, (pss_cons (ps_set (i := 3) nd rfl (Or.inl rfl) pe_int)
    (pss_cons (ps_for PassesOwn.never rfl (pi_revR (by rfl) T.g_reversed (prg_1 (by rfl) T.g_range (pe_callB call_len_seq (by rfl) T.g_len PySem.boot_len (pa_cons (pv 0) pa_nil)))) (pg_name (i := 4) nd rfl (Or.inl rfl))
    (pss_one (ps_set (i := 3) nd rfl (Or.inl rfl) (pe_op op_andM (pe_op op_add (pe_ix ix_list (pv 0) (pv 4) (fun _ _ => rfl)) (pe_op op_mul (pv 3) (pe_op op_sub (pv 1) (pv 4)))) (pv 2)))))
    (pss_one (ps_ret (pv 3))))), ?_⟩
    have h64 := p64 hb
    have hnum : ((cs.map V.int).length : Int) = (cs.length : Int) := by rw [List.length_map]
    refine ⟨_, rfl, L, _, rfl, .inl (SqL.of hl), (cs.length : Int), by rw [hnum], by decide, by decide, by omega, by omega, ?_⟩
    rw [show ((cs.length : Int) - 0).toNat = cs.length by omega]
    refine for_it walk_rangeC (fun i σ H1 => H1 = H ∧ ∃ a4 : Option V, σ = [some (.ref L), some (.int z), some (.int (2 ^ b - 1)), some (.int (flo (2 ^ b) z (cs.length - i) (cs.drop (cs.length - i)))), a4])
      ⟨rfl, none, ?_⟩ (fun _ _ _ _ _ => trivial) ?_ ?_
    · rw [Nat.sub_zero, List.drop_length]
      rfl
    · rintro i x σ H1 H2 hi ⟨rfl, a4, rfl⟩ ⟨rfl, hx⟩
      obtain ⟨j, hj⟩ : ∃ j, cs.length = i + (j + 1) := ⟨cs.length - i - 1, by omega⟩
      have ex : (0 : Int) + ((cs.length : Nat) : Int) - 1 + (i : Int) * -1 = (j : Int) := by omega
      have hjl : j < cs.length := by omega
      have hcj : cs[j]? = some cs[j] := List.getElem?_eq_getElem hjl
      have hx : x = .int (j : Int) := hx.trans (by show V.int _ = _; rw [ex])
      subst hx
      have hlt := flo_lt (b := b) (z := z) (cs.drop (cs.length - i)) (cs.length - i)
      refine ⟨_, rfl, _, rfl, L, _, _, _, rfl, rfl, SqL.of hl, atI_nat (map_at_int hcj), _, rfl, _, rfl, _, rfl, _, _, rfl, rfl, _, _, rfl, rfl, .inl ⟨by omega, by omega⟩, _, _, rfl, rfl, _, rfl, _, b, rfl, rfl, ?_⟩
      refine ⟨rfl, some (.int (j : Int)), ?_⟩
      have e1 : cs.length - (i + 1) = j := by omega
      have e2 : cs.length - i = j + 1 := by omega
      rw [e1, List.drop_eq_getElem_cons hjl, e2]
      rfl
    · rintro σ H1 ⟨rfl, a4, rfl⟩
      refine ⟨_, rfl, ?_⟩
      rw [Nat.sub_self, List.drop_zero]
      exact kq
abbrev s_evaluated : Stmt := top 25
abbrev N_evaluated : List Str := ["rows", "place", "mask", "row"]
theorem sc_evaluated : FnScope N_evaluated ["rows", "place", "mask"] (defScope s_evaluated) := ⟨rfl, rfl, rfl, by decide +kernel, rfl, by decide +kernel, by decide +kernel⟩
theorem ok_evaluated {f : Addr} {fd : FuncData} (F : Fun K "evaluated" "evaluated" s_evaluated f fd) (T : Glob mg) (D_falling : Df P w K mg base 1 "falling" ["coefficients", "z", "mask"] spFalling) : FnOk P w K mg base CX0 2 f fd ["rows", "place", "mask"] spEval := by
  refine F.ok sc_evaluated (fun vs H Q E h => ?_) (fun cdv A outer s H vs Q E hr h => ?_)
  · obtain ⟨R, p, rows, zs, b, v, rfl, _⟩ := h
    rfl
  · obtain ⟨R, p, rows, zs, b, v, rfl, hR, hp, hb, hrl, hrr, hv, kq⟩ := h
    have nd := sc_evaluated.nd
    refine ⟨_, (pss_cons (ps_if (pt_cmpR op_eq (pe_callB call_len_seq (by rfl) T.g_len PySem.boot_len (pa_cons (pv 0) pa_nil)) pe_int (nomark _))
    (pss_one (ps_ret (pe_call D_falling.ok (hr.mono (by decide)) (by rfl) D_falling.g D_falling.kp D_falling.b .nil pass0 (pa_cons (pe_ix ix_list (pv 0) pe_int (fun _ _ => rfl)) (pa_cons (pe_ix ix_list (pv 1) (pe_un un_neg pe_int) (fun _ _ => rfl)) (pa_cons (pv 2) pa_nil))))))
    pss_nil)
    (pss_one (ps_ret (pe_call D_falling.ok (hr.mono (by decide)) (by rfl) D_falling.g D_falling.kp D_falling.b .nil pass0 (pa_cons (pe_lc (own := [("row", 3)]) (g := gName 3) (tt := tYes) rfl nd (pi_list (pv 0)) (blkOk_by (N := N_evaluated) (sc := defScope s_evaluated) (by decide +kernel)) (fun _ _ _ _ _ => pg_name (i := 3) nd rfl (Or.inl rfl)) (fun _ _ _ _ _ => pts_nil) (fun _ _ _ _ _ => (pe_call D_falling.ok (hr.mono (by decide)) (by rfl) D_falling.g D_falling.kp D_falling.b .nil pass0 (pa_cons (pv 3) (pa_cons (pe_ix (ix_listN (K := K) rfl) (pv 1) pe_int (fun _ _ => rfl)) (pa_cons (pv 2) pa_nil)))))) (pa_cons (pe_ix ix_list (pv 1) pe_int (fun _ _ => rfl)) (pa_cons (pv 2) pa_nil))))))), ?_⟩
    obtain ⟨as, e1, e2, e3⟩ := id hR
    have hlen : (as.map V.ref).length = rows.length := by rw [List.length_map, e2]
    refine ⟨_, rfl, R, _, rfl, .inl (SqL.of e1), rfl, _, rfl, ?_⟩
    rw [hlen]
    refine ite2 (fun h => ?_) (fun h => ?_)
    · have h : (rows.length : Int) = 1 := V.int.inj (of_decide_eq_true h)
      rcases hv with ⟨r, ws, z, rfl, rfl, hv⟩ | ⟨n1, _⟩
      · obtain ⟨q, q1, q2⟩ := e3 0 r rfl
        have hq : (as.map V.ref)[0]? = some (.ref q) := by rw [List.getElem?_map, q1]; rfl
        refine ⟨_, rfl, R, _, _, _, rfl, rfl, SqL.of e1, atI_nat (j := 0) hq, ?_⟩
        have hat : atI ((ws ++ [z]).map V.int) (-1) = some (.int z) := by
          rw [List.map_append]
          exact atI_last _ _
        refine ⟨_, rfl, _, rfl, p, _, _, _, rfl, rfl, SqL.of hp, hat, _, rfl, q, r, z, b, rfl, q2, hb, hrr r (List.mem_cons_self ..), ?_⟩
        rw [← hv]
        exact kq H (fun _ _ e => e)
      · exact absurd (by omega) n1
    · have h : ¬ rows.length = 1 := fun z => h (decide_eq_true (by rw [z]; rfl))
      rcases hv with ⟨r, ws, z, rfl, _⟩ | ⟨n1, z1, z2, rfl, hv⟩
      · exact absurd rfl h
      · have hz1 : atI ([z1, z2].map V.int) 0 = some (.int z1) := atI_nat (j := 0) rfl
        have hz2 : atI ([z1, z2].map V.int) 1 = some (.int z2) := atI_nat (j := 1) rfl
        refine ⟨_, rfl, R, rfl, ⟨_, SqL.of e1⟩, fun G hG => ?_⟩
        refine lc_list (xs := as.map V.ref) (fun i H1 => Same H H1 ∧ LI H1 G ((rows.take i).map (flo (2 ^ b) z2 0))) ⟨new_same hG, upd_same⟩ (fun i H1 _ h => SqL.of (h.1 _ _ e1)) ?_ ?_
        · rintro i x H1 hx ⟨s1, h1⟩
          have hi : i < rows.length := by
            have := (List.getElem?_eq_some_iff.mp hx).1
            omega
          have hri : rows[i]? = some rows[i] := List.getElem?_eq_getElem hi
          obtain ⟨q, q1, q2⟩ := e3 i _ hri
          rw [List.getElem?_map, q1] at hx
          obtain rfl := Option.some.inj hx
          refine ⟨rfl, ?_⟩
          dsimp only [tYes]
          rw [if_pos rfl]
          refine ⟨_, rfl, _, rfl, p, _, _, _, rfl, rfl, SqL.of (hp.same s1), hz2, _, rfl, q, rows[i], z2, b, rfl, q2.same s1, hb, hrr _ (List.getElem_mem hi), ?_⟩
          refine ⟨_, h1, by rw [List.length_map, List.length_map, List.length_take, sizeLine_eq]; omega, same_up s1 hG, ?_⟩
          rw [List.take_succ, hri, List.map_append]
          exact li_snoc
        · rintro H1 ⟨s1, h1⟩
          rw [hlen, List.take_length] at h1
          refine ⟨_, rfl, p, _, _, _, rfl, rfl, SqL.of (hp.same s1), hz1, _, rfl, G, _, z1, b, rfl, h1, hb, by rw [List.length_map]; exact hrl, ?_⟩
          rw [← hv]
          exact kq H1 s1
end
end My

set_option pp.maxSteps 300
set_option Elab.async false
set_option linter.all false
set_option maxRecDepth 100000
set_option maxHeartbeats 1000000
namespace My
open PySem L2 MyR
def spDiff (K : PySem.W.Frag) : Sp := fun vs H Q _ => ∃ (k : Bool) (a : Addr) (xs : List Int) (b : Nat), vs = [.ref a, .int (2 ^ b - 1)] ∧ SqK k K H a (xs.map V.int) ∧ xs.length ≤ 1000 ∧ ∀ (L : Addr) H', H L = none → Same H H' → LI H' L (diff (2 ^ b) xs.length xs) → Q (.ref L) H'
def spCountP (K : PySem.W.Frag) : Sp := fun vs H Q _ => ∃ (k : Bool) (a : Addr) (ds : List Nat) (b : Nat), vs = [.ref a, .int (b : Int)] ∧ SqK k K H a ((ds.map fun (d : Nat) => (d : Int)).map V.int) ∧ ds.length ≤ 8 ∧ ds.sum ≤ 1000 ∧ 1 ≤ b ∧ b ≤ 64 ∧ (vecs ds.length b).length < 2 ^ 20 ∧
  ∀ H', Same H H' → Q (.int ((vecs ds.length b).length * 2 ^ ds.sum)) H'
theorem dfs_cut (M : Int) : ∀ xs : List Int, dfs M xs = ((xs.zip (xs.drop 1)).map fun p => (p.2 - p.1) % M)
  | [] => rfl
  | [_] => rfl
  | a :: b :: r => by
    show (b - a) % M :: dfs M (b :: r) = (b - a) % M :: (((b :: r).zip r).map fun p => (p.2 - p.1) % M)
    rw [dfs_cut M (b :: r)]
    rfl
theorem cut_drop (xs : List V) (i : Nat) : cutV xs (some (i : Int)) none = xs.drop i := by
  unfold cutV
  rw [HT.sIx_nat]
  show (xs.drop (min i xs.length)).take (xs.length - min i xs.length) = xs.drop i
  by_cases h : i ≤ xs.length
  · rw [Nat.min_eq_left h, List.take_of_length_le (by rw [List.length_drop]; omega)]
  · rw [Nat.min_eq_right (by omega), List.drop_length, List.take_nil, List.drop_of_length_le (by omega)]
section
variable {P : Program} {w : World} {K : PySem.W.Frag} {mg : Str → Option Value} {base : Heap}
abbrev s_differences : Stmt := top 22
abbrev N_differences : List Str := ["values", "mask", "found", "rest", "before", "after"]
theorem sc_differences : FnScope N_differences ["values", "mask"] (defScope s_differences) := ⟨rfl, rfl, rfl, by decide +kernel, rfl, by decide +kernel, by decide +kernel⟩
theorem ok_differences {f : Addr} {fd : FuncData} (F : Fun K "differences" "differences" s_differences f fd) (T : Glob mg) : FnOk P w K mg base CX0 1 f fd ["values", "mask"] (spDiff K) := by
  refine F.ok sc_differences (fun vs H Q E h => ?_) (fun cdv A outer s H vs Q E hr h => ?_)
  · obtain ⟨k, a, xs, b, rfl, _⟩ := h
    rfl
  · obtain ⟨k, a, xs, b, rfl, ha, hl, kq⟩ := h
    have nd := sc_differences.nd
    refine ⟨_, (pss_cons (ps_set (i := 2) nd rfl (Or.inl rfl) (pe_lst pa_nil))
    (pss_cons (ps_set (i := 3) nd rfl (Or.inl rfl) (pe_callTy call_list_of (by rfl) T.g_list (by decide +kernel) (pa_cons (pv 0) pa_nil)))
    (pss_cons (ps_while PassesOwn.never (pt_truth (pv 3) (fun _ => rfl))
    (pss_cons (ps_expr (pe_bm PySem.F.plainAttrs_list PySem.F.slot_list_append PySem.F.type_list_append mt_append (pv 2) (pa_cons (pe_ix ix_list (pv 3) pe_int (fun _ _ => rfl)) pa_nil)))
    (pss_one (ps_setLc (i := 3) (own := [("before", 4), ("after", 5)]) (g := gTup K 2 (gCons (gName 4) (gCons (gName 5) gNil))) (tt := tYes) rfl nd rfl rfl (sw_true rfl rfl rfl (by decide +kernel)) (pi_zip (by rfl) T.g_zip (pa_cons (pv 3) (pa_cons (pe_slice sl_list (pv 3) (po_some pe_int) po_none) pa_nil))) (blkOk_by (N := N_differences) (sc := defScope s_differences) (by decide +kernel)) (fun _ _ _ _ _ => pg_tup (by rfl) (pgs_cons (pg_name (i := 4) nd rfl (Or.inl rfl)) (pgs_cons (pg_name (i := 5) nd rfl (Or.inl rfl)) pgs_nil))) (fun _ _ _ _ _ => pts_nil) (fun _ _ _ _ _ => (pe_op op_andM (pe_op op_sub (pv 5) (pv 4)) (pv 1)))))))
    (pss_one (ps_ret (pv 2)))))), ?_⟩
    have zl : 1000000 ≤ sizeLine := by rw [sizeLine_eq]; omega
    refine seq_by (fun σ H1 => ∃ F : Addr, σ = [some (.ref a), some (.int (2 ^ b - 1)), some (.ref F), none, none, none] ∧ Same H H1 ∧ LI H1 F [] ∧ H F = none) (fun D' hD' => ?_) ?_
    · exact ⟨(by show 0 ≤ sizeLine; decide), fun F hF => hD' _ _ ⟨F, rfl, new_same hF, upd_same, hF⟩⟩
    rintro σ H1 ⟨F, rfl, s1, hF1, hFn⟩
    refine seq_by (fun σ H2 => ∃ R : Addr, σ = [some (.ref a), some (.int (2 ^ b - 1)), some (.ref F), some (.ref R), none, none] ∧ Same H H2 ∧ LI H2 F [] ∧ LI H2 R xs ∧ R ≠ F) (fun D' hD' => ?_) ?_
    · have fin : ∀ R, H1 R = none → D'.nx [some (.ref a), some (.int (2 ^ b - 1)), some (.ref F), some (.ref R), none, none] (upd H1 R (.lst (xs.map V.int))) := fun R hR => hD' _ _ ⟨R, rfl, same_up s1 (same_free s1 hR), hF1.same (new_same hR), upd_same, (ne_of_none hF1 hR).symm⟩
      cases k
      · have hq : SqL K H a (xs.map V.int) := ha
        exact ⟨_, rfl, a, _, rfl, .inl (SqL.ext hq s1), fin⟩
      · have hq : SqT K H a (xs.map V.int) := ha
        exact ⟨_, rfl, a, _, rfl, .inr (SqT.ext hq s1), fin⟩
    clear s1 hF1
    rintro σ H2 ⟨R, rfl, s2, hF2, hR2, nRF⟩
    refine seq_by (fun σ H3 => ∃ a3 a4 a5 : Option V, σ = [some (.ref a), some (.int (2 ^ b - 1)), some (.ref F), a3, a4, a5] ∧ Same H H3 ∧ LI H3 F (diff (2 ^ b) xs.length xs)) (fun D' hD' => ?_) ?_
    · refine while_by (fun σ H3 => ∃ (R : Addr) (rs acc : List Int) (a4 a5 : Option V), σ = [some (.ref a), some (.int (2 ^ b - 1)), some (.ref F), some (.ref R), a4, a5] ∧ Same H H3 ∧ LI H3 F acc ∧ LI H3 R rs ∧ R ≠ F ∧ acc ++ diff (2 ^ b) rs.length rs = diff (2 ^ b) xs.length xs ∧ acc.length + rs.length ≤ xs.length)
        (fun σ H3 => match σ with | [_, _, _, some (.ref R), _, _] => (match H3 R with | some (.lst ys) => ys.length | _ => 0) | _ => 0) ⟨R, xs, [], none, none, rfl, s2, hF2, hR2, nRF, rfl, by show 0 + xs.length ≤ xs.length; omega⟩ ?_ ?_
      · clear s2 hF2 hR2 nRF R
        rintro σ H3 ⟨R, rs, acc, a4, a5, rfl, s3, hF3, hR3, nRF, hacc, hal⟩
        refine ⟨_, rfl, !(rs.map V.int).isEmpty, .inl ⟨_, SqL.of hR3, rfl⟩, ?_⟩
        cases rs with
        | nil =>
          refine iteF (hD' _ _ ⟨_, _, _, rfl, s3, ?_⟩)
          rw [← hacc]
          show LI H3 F (acc ++ [])
          rw [List.append_nil]
          exact hF3
        | cons r rs =>
          refine iteT ?_
          have hr0 : atI ((r :: rs).map V.int) 0 = some (.int r) := atI_nat (j := 0) rfl
          rw [List.length_cons] at hal
          refine ⟨_, rfl, .inl ⟨rfl, _, SqL.of hF3⟩, _, rfl, R, _, _, _, rfl, rfl, SqL.of hR3, hr0, F, _, _, rfl, rfl, hF3, by rw [List.length_map, sizeLine_eq]; omega, ?_⟩
          have s4 := same_up (o := .lst (acc.map V.int ++ [.int r])) s3 hFn
          have hF4 : LI (upd H3 F (.lst (acc.map V.int ++ [.int r]))) F (acc ++ [r]) := li_snoc
          have hR4 : LI (upd H3 F (.lst (acc.map V.int ++ [.int r]))) R (r :: rs) := hR3.updN nRF
          generalize upd H3 F (.lst (acc.map V.int ++ [.int r])) = H4 at s4 hF4 hR4 ⊢
          refine ⟨_, rfl, _, rfl, _, rfl, R, _, rfl, SqL.of hR4, fun S hS => ?_⟩
          rw [show cutV ((r :: rs).map V.int) (some 1) none = rs.map V.int from cut_drop ((r :: rs).map V.int) 1]
          have s5' := new_same (o := .lst (rs.map V.int)) hS
          have hS5 : LI (upd H4 S (.lst (rs.map V.int))) S rs := upd_same
          have hR5 := hR4.same s5'
          have s5 := s4.trans s5'
          have hF5 := hF4.same s5'
          generalize upd H4 S (.lst (rs.map V.int)) = H5 at s5 s5' hS5 hR5 hF5 ⊢
          refine ⟨R, S, _, _, rfl, SqL.of hR5, SqL.of hS5, fun D hD => ?_⟩
          have hFD := ne_of_none hF5 hD
          refine lc_it (walk_zip (xs := (r :: rs).map V.int) (ys := rs.map V.int) (n := rs.length) (by rw [List.length_map, List.length_map, List.length_cons]; omega)) (fun i H6 => Same H5 H6 ∧ LI H6 D ((dfs (2 ^ b) (r :: rs)).take i)) ⟨new_same hD, upd_same⟩ (fun i H6 _ h => ⟨SqL.of (hR5.same h.1), SqL.of (hS5.same h.1)⟩) ?_ ?_
          · rintro i x H6 H7 hi ⟨s6, h6⟩ ⟨T', x1, x2, rfl, hT, rfl, hx1, hx2⟩
            have hdl := dfs_len (2 ^ b) (r :: rs)
            rw [List.length_cons] at hdl
            have i1 : i < (r :: rs).length := by rw [List.length_cons]; omega
            have e1 : (r :: rs)[i]? = some (r :: rs)[i] := List.getElem?_eq_getElem i1
            have e2 : rs[i]? = some rs[i] := List.getElem?_eq_getElem hi
            have hx1 : ((r :: rs).map V.int)[i]? = some x1 := hx1
            have hx2 : (rs.map V.int)[i]? = some x2 := hx2
            rw [List.getElem?_map, e1] at hx1
            rw [List.getElem?_map, e2] at hx2
            obtain rfl := Option.some.inj hx1
            obtain rfl := Option.some.inj hx2
            have s7' := new_same (o := .tup [V.int (r :: rs)[i], .int rs[i]]) hT
            refine ⟨T', _, rfl, SqT.of upd_same, rfl, _, _, rfl, _, _, rfl, rfl, rfl, ?_⟩
            dsimp only [tYes]
            rw [if_pos rfl]
            have s7 := s6.trans s7'
            have h7 := h6.same s7'
            refine ⟨_, rfl, _, rfl, _, _, rfl, rfl, _, rfl, _, b, rfl, rfl, ?_⟩
            refine ⟨_, h7, by rw [List.length_map, List.length_take]; omega, same_up s7 hD, ?_⟩
            have ed : (dfs (2 ^ b) (r :: rs)).take (i + 1) = (dfs (2 ^ b) (r :: rs)).take i ++ [(rs[i] - (r :: rs)[i]) % 2 ^ b] := by
              have hg : (dfs (2 ^ b) (r :: rs))[i]? = some ((rs[i] - (r :: rs)[i]) % 2 ^ b) := by
                rw [dfs_cut, List.getElem?_map, List.getElem?_zip_eq_some (z := ((r :: rs)[i], rs[i])) |>.mpr (show (r :: rs)[i]? = some (r :: rs)[i] ∧ ((r :: rs).drop 1)[i]? = some rs[i] from ⟨e1, e2⟩)]
                rfl
              rw [List.take_succ, hg]
              rfl
            rw [ed]
            exact li_snoc
          · rintro H6 ⟨s6, h6⟩
            have hdl := dfs_len (2 ^ b) (r :: rs)
            rw [List.length_cons] at hdl
            rw [List.take_of_length_le (by omega)] at h6
            refine ⟨⟨D, dfs (2 ^ b) (r :: rs), acc ++ [r], _, _, rfl, s5.trans s6, hF5.same s6, h6, hFD.symm, ?_, ?_⟩, ?_⟩
            · rw [← hacc, List.append_assoc, hdl]
              rfl
            · rw [List.length_append, hdl]
              show acc.length + 1 + _ ≤ _
              omega
            · show (match H6 D with | some (.lst ys) => ys.length | _ => 0) < (match H3 R with | some (.lst ys) => ys.length | _ => 0)
              rw [show H6 D = _ from h6, show H3 R = _ from hR3]
              show (List.map V.int _).length < (List.map V.int _).length
              rw [List.length_map, List.length_map, List.length_cons, hdl]
              omega
      · intro σ H1 Q Q' f h
        obtain ⟨x, e1, k, e2, hc⟩ := h
        exact ⟨x, e1, k, e2, f _ _ hc⟩
    rintro σ H3 ⟨a3, a4, a5, rfl, s3, h3⟩
    exact ⟨_, rfl, kq F H3 hFn s3 h3⟩
end
end My

set_option pp.maxSteps 300
set_option Elab.async false
set_option linter.all false
set_option maxRecDepth 100000
set_option maxHeartbeats 1000000
namespace My
open PySem L2 MyR
/-- how many entries row r has, how many rows there are: m inputs, b bits -/
def wd (m b r : Nat) : Nat := if m = 2 then W (b - tw r) else W b
def nR (m b : Nat) : Nat := if m = 2 then W b else 1
def widthsL (m b : Nat) : List Int := (List.range (nR m b)).map fun r => (wd m b r : Int)
/-- a shape -/
structure ShF (H : Hp) (C sh dx tws ws iv : Addr) (m b : Nat) : Prop where
  o : H sh = some (.ins C dx [("bits", .int (b : Int)), ("mask", .int (2 ^ b - 1)), ("twos", .ref tws), ("widths", .ref ws), ("inverses", .ref iv)])
  t : LI H tws (sharesL b)
  w : LI H ws (widthsL m b)
  i : InvsAt H iv b (W b)
def ShapeAt (C : Addr) (H : Hp) (sh : Addr) (m b : Nat) : Prop := ∃ dx tws ws iv, ShF H C sh dx tws ws iv m b
theorem InvsAt.same {H H' : Hp} {a : Addr} {b n : Nat} (h : InvsAt H a b n) (s : Same H H') : InvsAt H' a b n := let ⟨xs, e, r⟩ := h; ⟨xs, e.same s, r⟩
theorem ShF.same {H H' : Hp} {C sh dx tws ws iv : Addr} {m b : Nat} (h : ShF H C sh dx tws ws iv m b) (s : Same H H') : ShF H' C sh dx tws ws iv m b := ⟨s _ _ h.o, h.t.same s, h.w.same s, h.i.same s⟩
theorem ShapeAt.same {H H' : Hp} {C sh : Addr} {m b : Nat} (h : ShapeAt C H sh m b) (s : Same H H') : ShapeAt C H' sh m b := let ⟨dx, tws, ws, iv, e⟩ := h; ⟨dx, tws, ws, iv, e.same s⟩
theorem wd_filter {b r : Nat} : ((List.range (W b)).filter fun k => decide (tw r + tw k < b)) = List.range (W (b - tw r)) := by
  have e : ∀ k, decide (tw r + tw k < b) = decide (k < W (b - tw r)) := fun k => by
    refine decide_eq_decide.mpr ⟨fun h => W_iff.mp (by omega), fun h => ?_⟩
    have := W_iff.mpr h
    omega
  rw [show (fun k => decide (tw r + tw k < b)) = fun k => decide (k < W (b - tw r)) from funext e]
  have h := W_mono (show b - tw r ≤ b by omega)
  obtain ⟨d, hd⟩ : ∃ d, W b = W (b - tw r) + d := ⟨W b - W (b - tw r), by omega⟩
  rw [hd]
  clear hd h e
  generalize W (b - tw r) = n
  induction d with
  | zero =>
    rw [Nat.add_zero]
    exact List.filter_eq_self.mpr fun i hi => decide_eq_true (List.mem_range.mp hi)
  | succ d ih =>
    rw [show n + (d + 1) = (n + d) + 1 by omega, List.range_succ, List.filter_append, ih, List.filter_cons, if_neg (by rw [decide_eq_false (by omega)]; exact Bool.false_ne_true)]
    show List.range n ++ [] = _
    rw [List.append_nil]
def spShape (C : Addr) : Sp := fun vs H Q _ => ∃ (p dx : Addr) (m b : Nat), vs = [.ref p, .int (m : Int), .int (b : Int)] ∧ H p = some (.ins C dx []) ∧ 1 ≤ b ∧ b ≤ 64 ∧ (m = 1 ∨ m = 2) ∧ ∀ H', ShapeAt C H' p m b → (∀ a o, H a = some o → a ≠ p → H' a = some o) → Q .non H'
structure ShC (K : PySem.W.Frag) (C : Addr) : Prop where
  cl : Cls K C
  n1 : NoAttr K C "bits"
  n2 : NoAttr K C "mask"
  n3 : NoAttr K C "twos"
  n4 : NoAttr K C "widths"
  n5 : NoAttr K C "inverses"
/-- all but one cell is as it was -/
def SameP (p : Addr) (H H' : Hp) : Prop := ∀ a o, H a = some o → a ≠ p → H' a = some o
theorem SameP.of {p : Addr} {H H' : Hp} (s : Same H H') : SameP p H H' := fun a o e _ => s a o e
theorem SameP.trans {p : Addr} {H H1 H2 : Hp} (a : SameP p H H1) (b : SameP p H1 H2) : SameP p H H2 := fun c o e n => b c o (a c o e n) n
theorem SameP.up {p : Addr} {H H1 : Hp} {o : HO} (a : SameP p H H1) : SameP p H (upd H1 p o) := fun c u e n => by rw [upd_ne n]; exact a c u e n
theorem LI.sp {H H' : Hp} {a p : Addr} {xs : List Int} (h : LI H a xs) (s : SameP p H H') (n : a ≠ p) : LI H' a xs := s _ _ h n
section
variable {P : Program} {w : World} {K : PySem.W.Frag} {mg : Str → Option Value} {base : Heap}
theorem pe_fldN {X : Cx} {K : PySem.W.Frag} {e : Expr} {f : Str} {pos : Pos} {ta : TE} (h : X.K = K) (he : PE X e ta) (hb : attributeBase e f X.env (eval e X.env) = eval e X.env) : PE X (.Attribute e f pos) (tFld K ta f) := by
  subst h
  exact pe_fld he hb
theorem pi_listN {X : Cx} {K : PySem.W.Frag} {tg l : Expr} {tl : TE} (h : X.K = K) (hl : PE X l tl) : PI X tg l (iList K tl) := by
  subst h
  exact pi_list hl
def rLenK (K : PySem.W.Frag) : List V → Hp → VK → Prop := fun xs H Q => ∃ p ys, xs = [V.ref p] ∧ (SqL K H p ys ∨ SqT K H p ys) ∧ Q (V.int (ys.length : Int)) H
theorem call_lenN {X : Cx} {K : PySem.W.Frag} (h : X.K = K) : CallR X (.builtin "len") (rLenK K) := by
  subst h
  exact call_len_seq
abbrev s_Shape_init : Stmt := inClass (top 26) 0
abbrev N_Shape_init : List Str := ["self", "inputs", "bits", "share", "used"]
theorem sc_Shape_init : FnScope N_Shape_init ["self", "inputs", "bits"] (defScope s_Shape_init) := ⟨rfl, rfl, rfl, by decide +kernel, rfl, by decide +kernel, by decide +kernel⟩
/-- the scope of a comprehension within a def, as it stands at work -/
def relabS (scope sc : Scope) : Scope := { scope with names := scope.names.map fun (n, k) => if (k == NameKind.free && sc.kind == .function && sc.names.lookup n == some .cell) then (n, NameKind.cell) else (n, k) }
def lcOf : Expr → Option (Scope × Expr)
  | .ListComp e _ sc _ => some (sc, e)
  | _ => none
def valOf : Stmt → Option Expr
  | .Assign _ e _ => some e
  | .Return e _ => e
  | _ => none
def shInner : Scope := match defBody s_Shape_init with
  | [_, _, _, _, .If _ [st] _ _, _] => ((valOf st).bind lcOf).elim (defScope s_Shape_init) (·.1)
  | _ => defScope s_Shape_init
theorem ok_Shape_init {f C : Addr} {fd : FuncData} (F : Fun K "__init__" "Shape.__init__" s_Shape_init f fd) (T : Glob mg) (C0 : ShC K C) (D_shares : Df P w K mg base 2 "shares" ["bits"] spShares) (D_odd_inverses : Df P w K mg base 2 "odd_inverses" ["count", "bits"] spInverses) : FnOk P w K mg base CX0 3 f fd ["self", "inputs", "bits"] (spShape C) := by
  refine F.ok sc_Shape_init (fun vs H Q E h => ?_) (fun cdv A outer s H vs Q E hr h => ?_)
  · obtain ⟨p, dx, m, b, rfl, _⟩ := h
    rfl
  · obtain ⟨p, dx, m, b, rfl, hp, hb1, hb, hm, kq⟩ := h
    have nd := sc_Shape_init.nd
    refine ⟨_, (pss_cons (ps_fld (pv 0) (pv 2) rfl)
    (pss_cons (ps_fld (pv 0) (pe_op op_sub (pe_op op_shl pe_int (pv 2)) pe_int) rfl)
    (pss_cons (ps_fld (pv 0) (pe_call D_shares.ok (hr.mono (by decide)) (by rfl) D_shares.g D_shares.kp D_shares.b .nil pass0 (pa_cons (pv 2) pa_nil)) rfl)
    (pss_cons (ps_fld (pv 0) (pe_lst (pa_cons (pe_callB call_len_seq (by rfl) T.g_len PySem.boot_len (pa_cons (pe_fld (pv 0) rfl) pa_nil)) pa_nil)) rfl)
    (pss_cons (ps_if (pt_cmpR op_eq (pv 1) pe_int (nomark _))
    (pss_one (ps_fld (pv 0) (pe_lc (own := [("used", 4)]) (g := gName 4) (tt := tYes) rfl nd (pi_list (pe_fld (pv 0) rfl)) (blkOk_by (N := N_Shape_init) (sc := defScope s_Shape_init) (by decide +kernel)) (fun _ _ _ _ _ => pg_name (i := 4) nd rfl (Or.inr rfl)) (fun _ _ _ _ _ => pts_nil) (fun _ _ _ _ _ => (pe_callB (call_lenN (K := K) rfl) (by rfl) T.g_len PySem.boot_len (pa_cons (pe_lc (own := [("share", 3)]) (g := gName 3) rfl nd (pi_listN (K := K) rfl (pe_fldN (K := K) rfl (pv 0) rfl)) (blkOk_by (N := N_Shape_init) (sc := relabS shInner (defScope s_Shape_init)) (by decide +kernel)) (fun _ _ _ _ _ => pg_name (i := 3) nd rfl (Or.inl rfl)) (fun _ _ _ _ _ => pts_one (pt_cmpR op_lt (pe_op op_add (pv 4) (pv 3)) (pv 2) (nomark _))) (fun _ _ _ _ _ => (pv 3))) pa_nil)))) rfl))
    pss_nil)
    (pss_one (ps_fld (pv 0) (pe_call D_odd_inverses.ok (hr.mono (by decide)) (by rfl) D_odd_inverses.g D_odd_inverses.kp D_odd_inverses.b .nil pass0 (pa_cons (pe_callB call_len_seq (by rfl) T.g_len PySem.boot_len (pa_cons (pe_fld (pv 0) rfl) pa_nil)) (pa_cons (pv 2) pa_nil))) rfl))))))), ?_⟩
    have zl : 1000000 ≤ sizeLine := by rw [sizeLine_eq]; omega
    have hW := W_66 hb
    have hW1 := W_pos hb1
    have hsl : ((sharesL b).map V.int).length = W b := by rw [List.length_map]; unfold sharesL; rw [List.length_map, List.length_range]
    refine seq_by (fun σ H1 => σ = [some (.ref p), some (.int (m : Int)), some (.int (b : Int)), none, none] ∧ H1 p = some (.ins C dx [("bits", .int (b : Int))]) ∧ SameP p H H1) (fun D' hD' => ?_) ?_
    · exact ⟨_, rfl, _, rfl, p, C, dx, _, rfl, hp, C0.cl, C0.n1, (by show 0 < 1000; decide), hD' _ _ ⟨rfl, upd_same, SameP.up (fun _ _ e _ => e)⟩⟩
    rintro σ H1 ⟨rfl, h1, s1⟩
    refine seq_by (fun σ H2 => σ = [some (.ref p), some (.int (m : Int)), some (.int (b : Int)), none, none] ∧ H2 p = some (.ins C dx [("bits", .int (b : Int)), ("mask", .int (2 ^ b - 1))]) ∧ SameP p H H2) (fun D' hD' => ?_) ?_
    · refine ⟨_, rfl, _, _, rfl, rfl, ⟨by omega, by omega, by decide⟩, _, _, rfl, rfl, _, rfl, p, C, dx, _, rfl, h1, C0.cl, C0.n2, (by show 1 < 1000; decide), hD' _ _ ⟨rfl, ?_, s1.up⟩⟩
      rw [Int.toNat_natCast, Int.one_mul]
      exact upd_same
    clear h1 s1
    rintro σ H2 ⟨rfl, h2, s2⟩
    refine seq_by (fun σ H3 => ∃ tws : Addr, σ = [some (.ref p), some (.int (m : Int)), some (.int (b : Int)), none, none] ∧ H3 p = some (.ins C dx [("bits", .int (b : Int)), ("mask", .int (2 ^ b - 1)), ("twos", .ref tws)]) ∧ SameP p H H3 ∧ LI H3 tws (sharesL b) ∧ tws ≠ p) (fun D' hD' => ?_) ?_
    · refine ⟨_, rfl, b, rfl, hb, fun L H3 hL s3 hl => ?_⟩
      have nLp : L ≠ p := (ne_of_none h2 hL).symm
      exact ⟨_, rfl, p, C, dx, _, rfl, s3 _ _ h2, C0.cl, C0.n3, (by show 2 < 1000; decide), hD' _ _ ⟨L, rfl, upd_same, (s2.trans (SameP.of s3)).up, hl.updN nLp, nLp⟩⟩
    clear h2 s2
    rintro σ H3 ⟨tws, rfl, h3, s3, ht3, ntp⟩
    refine seq_by (fun σ H4 => ∃ ws : Addr, σ = [some (.ref p), some (.int (m : Int)), some (.int (b : Int)), none, none] ∧ H4 p = some (.ins C dx [("bits", .int (b : Int)), ("mask", .int (2 ^ b - 1)), ("twos", .ref tws), ("widths", .ref ws)]) ∧ SameP p H H4 ∧ LI H4 tws (sharesL b) ∧ LI H4 ws [(W b : Int)] ∧ ws ≠ p) (fun D' hD' => ?_) ?_
    · refine ⟨_, rfl, p, C, dx, _, _, rfl, h3, C0.cl, C0.n3, rfl, tws, _, rfl, .inl (SqL.of ht3), (by show 1 ≤ sizeLine; omega), fun L hL => ?_⟩
      have nLp : L ≠ p := (ne_of_none h3 hL).symm
      have s4 := new_same (o := .lst [V.int (((sharesL b).map V.int).length : Int)]) hL
      refine ⟨_, rfl, p, C, dx, _, rfl, s4 _ _ h3, C0.cl, C0.n4, (by show 3 < 1000; decide), hD' _ _ ⟨L, rfl, upd_same, (s3.trans (SameP.of s4)).up, (ht3.same s4).updN ntp, ?_, nLp⟩⟩
      rw [hsl]
      exact LI.updN upd_same nLp
    clear h3 s3 ht3
    rintro σ H4 ⟨ws, rfl, h4, s4, ht4, hw4, nwp⟩
    refine seq_by (fun σ H5 => ∃ ws : Addr, σ = [some (.ref p), some (.int (m : Int)), some (.int (b : Int)), none, none] ∧ H5 p = some (.ins C dx [("bits", .int (b : Int)), ("mask", .int (2 ^ b - 1)), ("twos", .ref tws), ("widths", .ref ws)]) ∧ SameP p H H5 ∧ LI H5 tws (sharesL b) ∧ LI H5 ws (widthsL m b) ∧ ws ≠ p) (fun D' hD' => ?_) ?_
    · refine ⟨_, rfl, rfl, _, rfl, ?_⟩
      refine ite2 (fun h => ?_) (fun h => ?_)
      · have h : (m : Int) = 2 := V.int.inj (of_decide_eq_true h)
        have h2 : m = 2 := by omega
        refine ⟨_, rfl, p, C, dx, _, _, rfl, h4, C0.cl, C0.n3, rfl, tws, rfl, ⟨_, SqL.of ht4⟩, fun G hG => ?_⟩
        have nGp : G ≠ p := (ne_of_none h4 hG).symm
        refine lc_list (xs := (sharesL b).map V.int) (fun i H5 => Same H4 H5 ∧ LI H5 G ((List.range i).map fun r => (W (b - tw r) : Int))) ⟨new_same hG, upd_same⟩ (fun i H5 _ h => SqL.of (ht4.same h.1)) ?_ ?_
        · rintro r x H5 hx ⟨s5, h5⟩
          have hr : r < W b := by
            have := (List.getElem?_eq_some_iff.mp hx).1
            omega
          have hx' : x = .int (tw r : Int) := by
            unfold sharesL at hx
            rw [List.getElem?_map, List.getElem?_map, List.getElem?_range hr] at hx
            exact (Option.some.inj hx).symm
          subst hx'
          refine ⟨rfl, ?_⟩
          dsimp only [tYes]
          rw [if_pos rfl]
          have ht5 := ht4.same s5
          refine ⟨_, rfl, p, C, dx, _, _, rfl, s5 _ _ h4, C0.cl, C0.n3, rfl, tws, rfl, ⟨_, SqL.of ht5⟩, fun G2 hG2 => ?_⟩
          have hGG := ne_of_none h5 hG2
          refine lc_list (xs := (sharesL b).map V.int) (fun k H6 => Same H5 H6 ∧ ∃ ys : List V, H6 G2 = some (.lst ys) ∧ ys.length = ((List.range k).filter fun k => decide (tw r + tw k < b)).length ∧ ys.length ≤ k) ⟨new_same hG2, [], upd_same, rfl, Nat.zero_le _⟩ (fun i H6 _ h => SqL.of (ht5.same h.1)) ?_ ?_
          · rintro k y H6 hy ⟨s6, ys, h6, hl6, hl7⟩
            have hk : k < W b := by
              have := (List.getElem?_eq_some_iff.mp hy).1
              omega
            have hy' : y = .int (tw k : Int) := by
              unfold sharesL at hy
              rw [List.getElem?_map, List.getElem?_map, List.getElem?_range hk] at hy
              exact (Option.some.inj hy).symm
            subst hy'
            refine ⟨rfl, ?_⟩
            refine ⟨_, rfl, _, rfl, _, _, rfl, rfl, _, rfl, _, _, rfl, rfl, _, rfl, ?_⟩
            have ef : ((List.range (k + 1)).filter fun k => decide (tw r + tw k < b)) = ((List.range k).filter fun k => decide (tw r + tw k < b)) ++ if tw r + tw k < b then [k] else [] := by
              rw [List.range_succ, List.filter_append, List.filter_cons]
              by_cases z : tw r + tw k < b
              · rw [if_pos z, if_pos (decide_eq_true z)]
                rfl
              · rw [if_neg z, if_neg (by rw [decide_eq_false z]; exact Bool.false_ne_true)]
                rfl
            refine ite2 (fun z => ?_) (fun z => ?_)
            · have z : (tw r : Int) + (tw k : Int) < (b : Int) := of_decide_eq_true z
              refine ⟨_, rfl, ys, h6, by omega, same_up s6 hG2, ys ++ [.int (tw k : Int)], upd_same, ?_, by rw [List.length_append]; show _ + 1 ≤ _; omega⟩
              rw [ef, if_pos (by omega), List.length_append, List.length_append, hl6]
              rfl
            · have z : ¬ (tw r : Int) + (tw k : Int) < (b : Int) := fun q => z (decide_eq_true q)
              refine ⟨s6, ys, h6, ?_, by omega⟩
              rw [ef, if_neg (by omega), List.append_nil, hl6]
          · rintro H6 ⟨s6, ys, h6, hl6, _⟩
            rw [hsl, wd_filter, List.length_range] at hl6
            refine ⟨G2, ys, rfl, .inl (SqL.of h6), ?_⟩
            rw [hl6]
            have h56 := h5.same s6
            refine ⟨_, h56, by rw [List.length_map, List.length_map, List.length_range]; omega, same_up (s5.trans s6) hG, ?_⟩
            rw [List.range_succ, List.map_append]
            exact li_snoc
        · rintro H5 ⟨s5, h5⟩
          rw [hsl] at h5
          refine ⟨_, rfl, p, C, dx, _, rfl, s5 _ _ h4, C0.cl, C0.n4, (by show 4 < 1000; decide), hD' _ _ ⟨G, rfl, upd_same, (s4.trans (SameP.of s5)).up, (ht4.same s5).updN ntp, ?_, nGp⟩⟩
          have e : widthsL m b = (List.range (W b)).map fun r => (W (b - tw r) : Int) := by
            unfold widthsL nR wd
            rw [if_pos h2]
            refine List.map_congr_left fun r _ => ?_
            rw [if_pos h2]
          rw [e]
          exact h5.updN nGp
      · have h2 : m ≠ 2 := fun z => h (decide_eq_true (by rw [z]; rfl))
        refine hD' _ _ ⟨ws, rfl, h4, s4, ht4, ?_, nwp⟩
        have e : widthsL m b = [(W b : Int)] := by
          unfold widthsL nR wd
          rw [if_neg h2]
          show [((if m = 2 then W (b - tw 0) else W b : Nat) : Int)] = _
          rw [if_neg h2]
        rw [e]
        exact hw4
    clear h4 s4 ht4 hw4 nwp
    rintro σ H5 ⟨ws, rfl, h5, s5, ht5, hw5, nwp⟩
    refine ⟨_, rfl, p, C, dx, _, _, rfl, h5, C0.cl, C0.n3, rfl, tws, _, rfl, .inl (SqL.of ht5), _, rfl, W b, b, ?_, hb1, hb, hW, fun L H6 hL s6 hl => ?_⟩
    · rw [hsl]
      rfl
    have nLp : L ≠ p := (ne_of_none h5 hL).symm
    obtain ⟨xs, x1, x2, x3⟩ := hl
    refine ⟨_, rfl, p, C, dx, _, rfl, s6 _ _ h5, C0.cl, C0.n5, (by show 4 < 1000; decide), ?_⟩
    exact kq _ ⟨dx, tws, ws, L, upd_same, (ht5.same s6).updN ntp, (hw5.same s6).updN nwp, xs, x1.updN nLp, x2, x3⟩ (s5.trans (SameP.of s6)).up
end
end My

set_option pp.maxSteps 300
set_option Elab.async false
set_option linter.all false
set_option maxRecDepth 100000
set_option maxHeartbeats 1000000
namespace My
open PySem L2 MyR
/-- the entries of a class whose Newton coefficients are c -/
def gv (c : Nat → Nat → Int) (r j : Nat) : Int := nw (fun p => nw (c p) j) r
def rowC (m b : Nat) (c : Nat → Nat → Int) (r : Nat) : List Int := (List.range (wd m b r)).map fun j => gv c r j % 2 ^ b
def flatC (m b : Nat) (c : Nat → Nat → Int) (n : Nat) : List Int := (List.range n).flatMap (rowC m b c)
def entC (m b : Nat) (c : Nat → Nat → Int) : List Int := flatC m b c (nR m b)
theorem rowC_len (m b : Nat) (c : Nat → Nat → Int) (r : Nat) : (rowC m b c r).length = wd m b r := by unfold rowC; rw [List.length_map, List.length_range]
theorem flatC_succ (m b : Nat) (c : Nat → Nat → Int) (n : Nat) : flatC m b c (n + 1) = flatC m b c n ++ rowC m b c n := by
  unfold flatC
  rw [List.range_succ, List.flatMap_append]
  simp
theorem flatC_split (m b : Nat) (c : Nat → Nat → Int) (r : Nat) : ∀ n, r < n → ∃ t, flatC m b c n = flatC m b c r ++ (rowC m b c r ++ t)
  | 0, h => absurd h (Nat.not_lt_zero _)
  | n + 1, h => by
    by_cases e : r = n
    · subst e
      exact ⟨[], by rw [flatC_succ, List.append_nil]⟩
    · obtain ⟨t, q⟩ := flatC_split m b c r n (by omega)
      exact ⟨t ++ rowC m b c n, by rw [flatC_succ, q, List.append_assoc, List.append_assoc]⟩
theorem wd_le {m b r : Nat} (h : b ≤ 64) : wd m b r ≤ 66 := by
  unfold wd
  split
  · exact W_66 (by omega)
  · exact W_66 h
theorem nR_le {m b : Nat} (h : b ≤ 64) : nR m b ≤ 66 := by
  unfold nR
  split
  · exact W_66 h
  · omega
theorem flatC_len {m b : Nat} {c : Nat → Nat → Int} (h : b ≤ 64) : ∀ n, (flatC m b c n).length ≤ 66 * n
  | 0 => Nat.zero_le _
  | n + 1 => by
    have := flatC_len (c := c) (m := m) h n
    have := wd_le (m := m) (r := n) h
    rw [flatC_succ, List.length_append, rowC_len]
    omega
def TupI (H : Hp) (t : Addr) (xs : List Int) : Prop := H t = some (.tup (xs.map V.int))
theorem TupI.same {H H' : Hp} {t : Addr} {xs : List Int} (h : TupI H t xs) (s : Same H H') : TupI H' t xs := s _ _ h
/-- a list of tuples of whole numbers -/
def LTI (H : Hp) (a : Addr) (xss : List (List Int)) : Prop := ∃ as : List Addr, H a = some (.lst (as.map V.ref)) ∧ as.length = xss.length ∧ ∀ (i : Nat) xs, xss[i]? = some xs → ∃ p, as[i]? = some p ∧ TupI H p xs
theorem LTI.same {H H' : Hp} {a : Addr} {xss : List (List Int)} (h : LTI H a xss) (s : Same H H') : LTI H' a xss := let ⟨as, e1, e2, e3⟩ := h; ⟨as, s _ _ e1, e2, fun i xs e => let ⟨p, q1, q2⟩ := e3 i xs e; ⟨p, q1, q2.same s⟩⟩
theorem lli_snoc {H : Hp} {a p : Addr} {as : List Addr} {xss : List (List Int)} {xs : List Int} (h1 : H a = some (.lst (as.map V.ref))) (h2 : as.length = xss.length) (h3 : ∀ (i : Nat) ys, xss[i]? = some ys → ∃ q, as[i]? = some q ∧ LI H q ys) (hp : LI H p xs) (np : p ≠ a) (na : ∀ q ys, LI H q ys → q ∈ as → q ≠ a) :
    LLI (upd H a (.lst (as.map V.ref ++ [.ref p]))) a (xss ++ [xs]) := by
  refine ⟨as ++ [p], by rw [upd_same, List.map_append]; rfl, by rw [List.length_append, List.length_append, h2]; rfl, fun i ys e => ?_⟩
  by_cases hi : i < xss.length
  · rw [List.getElem?_append_left hi] at e
    obtain ⟨q, q1, q2⟩ := h3 i ys e
    exact ⟨q, by rw [List.getElem?_append_left (by omega)]; exact q1, q2.updN (na q ys q2 (List.mem_of_getElem? q1))⟩
  · rw [List.getElem?_append_right (by omega)] at e
    have hi0 : i = xss.length := by
      have := (List.getElem?_eq_some_iff.mp e).1
      simp at this
      omega
    subst hi0
    rw [Nat.sub_self] at e
    cases e
    exact ⟨p, by rw [List.getElem?_append_right (by omega), h2, Nat.sub_self]; rfl, hp.updN np⟩
theorem lti_snoc {H : Hp} {a p : Addr} {as : List Addr} {xss : List (List Int)} {xs : List Int} {vs : List V} (h1 : H a = some (.lst vs)) (h2 : as.length = xss.length) (h3 : ∀ (i : Nat) ys, xss[i]? = some ys → ∃ q, as[i]? = some q ∧ TupI H q ys) (hp : TupI H p xs) :
    LTI (upd H a (.lst (as.map V.ref ++ [.ref p]))) a (xss ++ [xs]) := by
  have nt : ∀ q ys, TupI H q ys → q ≠ a := fun q ys e z => by
    rw [z] at e
    have e : H a = _ := e
    rw [h1] at e
    cases e
  have up : ∀ q ys, TupI H q ys → TupI (upd H a (.lst (as.map V.ref ++ [.ref p]))) q ys := fun q ys e => by show upd H a _ q = _; rw [upd_ne (nt q ys e)]; exact e
  refine ⟨as ++ [p], by rw [upd_same, List.map_append]; rfl, by rw [List.length_append, List.length_append, h2]; rfl, fun i ys e => ?_⟩
  by_cases hi : i < xss.length
  · rw [List.getElem?_append_left hi] at e
    obtain ⟨q, q1, q2⟩ := h3 i ys e
    exact ⟨q, by rw [List.getElem?_append_left (by omega)]; exact q1, up q ys q2⟩
  · rw [List.getElem?_append_right (by omega)] at e
    have hi0 : i = xss.length := by
      have := (List.getElem?_eq_some_iff.mp e).1
      simp at this
      omega
    subst hi0
    rw [Nat.sub_self] at e
    cases e
    exact ⟨p, by rw [List.getElem?_append_right (by omega), h2, Nat.sub_self]; rfl, up p xs hp⟩
theorem cut_mid (a x t : List V) : cutV (a ++ (x ++ t)) (some (a.length : Int)) (some ((a.length + x.length : Nat) : Int)) = x := by
  unfold cutV
  rw [HT.sIx_nat, HT.sIx_nat, List.length_append, List.length_append]
  rw [show min a.length (a.length + (x.length + t.length)) = a.length by omega, show min (a.length + x.length) (a.length + (x.length + t.length)) = a.length + x.length by omega, List.drop_left, show a.length + x.length - a.length = x.length by omega, List.take_left]
def spInRows (C : Addr) : Sp := fun vs H Q _ => ∃ (sh v : Addr) (m b : Nat) (c : Nat → Nat → Int), vs = [.ref sh, .ref v] ∧ ShapeAt C H sh m b ∧ TupI H v (entC m b c) ∧ 1 ≤ b ∧ b ≤ 64 ∧ ∀ (L : Addr) H', H L = none → Same H H' → LTI H' L ((List.range (nR m b)).map (rowC m b c)) → Q (.ref L) H'
section
variable {P : Program} {w : World} {K : PySem.W.Frag} {mg : Str → Option Value} {base : Heap}
abbrev s_Shape_in_rows : Stmt := inClass (top 26) 1
abbrev N_Shape_in_rows : List Str := ["self", "values", "found", "begin", "width"]
theorem sc_Shape_in_rows : FnScope N_Shape_in_rows ["self", "values"] (defScope s_Shape_in_rows) := ⟨rfl, rfl, rfl, by decide +kernel, rfl, by decide +kernel, by decide +kernel⟩
theorem ok_Shape_in_rows {f C : Addr} {fd : FuncData} (F : Fun K "in_rows" "Shape.in_rows" s_Shape_in_rows f fd) (T : Glob mg) (C0 : ShC K C) : FnOk P w K mg base CX0 1 f fd ["self", "values"] (spInRows C) := by
  refine F.ok sc_Shape_in_rows (fun vs H Q E h => ?_) (fun cdv A outer s H vs Q E hr h => ?_)
  · obtain ⟨sh, v, m, b, c, rfl, _⟩ := h
    rfl
  · obtain ⟨sh, v, m, b, c, rfl, ⟨dx, tws, ws, iv, S⟩, hv, hb1, hb, kq⟩ := h
    have nd := sc_Shape_in_rows.nd
    refine ⟨_, (pss_cons (ps_set (i := 2) nd rfl (Or.inl rfl) (pe_lst pa_nil))
    (pss_cons (ps_set (i := 3) nd rfl (Or.inl rfl) pe_int)
    (pss_cons (ps_for PassesOwn.never rfl (pi_list (pe_fld (pv 0) rfl)) (pg_name (i := 4) nd rfl (Or.inl rfl))
    (pss_cons (ps_expr (pe_bm PySem.F.plainAttrs_list PySem.F.slot_list_append PySem.F.type_list_append mt_append (pv 2) (pa_cons (pe_slice sl_tupA (pv 1) (po_some (pv 3)) (po_some (pe_op op_add (pv 3) (pv 4)))) pa_nil)))
    (pss_one (ps_set (i := 3) nd rfl (Or.inl rfl) (pe_op op_add (pv 3) (pv 4))))))
    (pss_one (ps_ret (pv 2)))))), ?_⟩
    refine seq_by (fun σ H1 => ∃ L : Addr, σ = [some (.ref sh), some (.ref v), some (.ref L), none, none] ∧ Same H H1 ∧ LTI H1 L [] ∧ H L = none) (fun D' hD' => ?_) ?_
    · exact ⟨(by show 0 ≤ sizeLine; decide), fun L hL => hD' _ _ ⟨L, rfl, new_same hL, ⟨[], upd_same, rfl, fun i xs e => by simp at e⟩, hL⟩⟩
    rintro σ H1 ⟨L, rfl, s1, hl1, hLn⟩
    refine seq_by (fun σ H2 => H2 = H1 ∧ σ = [some (.ref sh), some (.ref v), some (.ref L), some (.int 0), none]) (fun D' hD' => ?_) ?_
    · exact hD' _ _ ⟨rfl, rfl⟩
    rintro σ H2 ⟨rfl, rfl⟩
    have hwl : ((widthsL m b).map V.int).length = nR m b := by rw [List.length_map]; unfold widthsL; rw [List.length_map, List.length_range]
    refine ⟨_, rfl, sh, C, dx, _, _, rfl, s1 _ _ S.o, C0.cl, C0.n4, rfl, ws, rfl, ⟨_, SqL.of (S.w.same s1)⟩, ?_⟩
    refine for_list (xs := (widthsL m b).map V.int) (fun r σ H3 => ∃ a4 : Option V, σ = [some (.ref sh), some (.ref v), some (.ref L), some (.int ((flatC m b c r).length : Int)), a4] ∧ Same H H3 ∧ LTI H3 L ((List.range r).map (rowC m b c)))
      ⟨none, rfl, s1, hl1⟩ (fun r σ H3 _ h => by obtain ⟨_, _, h, _⟩ := h; exact SqL.of (S.w.same h)) ?_ ?_
    · rintro r x σ H3 hx ⟨a4, rfl, s3, as, e1, e2, e3⟩
      have hr : r < nR m b := by
        have := (List.getElem?_eq_some_iff.mp hx).1
        omega
      have hx' : x = .int (wd m b r : Int) := by
        unfold widthsL at hx
        rw [List.getElem?_map, List.getElem?_map, List.getElem?_range hr] at hx
        exact (Option.some.inj hx).symm
      subst hx'
      obtain ⟨t, ht⟩ := flatC_split m b c r (nR m b) hr
      have hv3 := hv.same s3
      have hsl : cutV ((entC m b c).map V.int) (some ((flatC m b c r).length : Int)) (some (((flatC m b c r).length : Int) + (wd m b r : Int))) = (rowC m b c r).map V.int := by
        unfold entC
        rw [ht, List.map_append, List.map_append]
        have := cut_mid ((flatC m b c r).map V.int) ((rowC m b c r).map V.int) (t.map V.int)
        rw [List.length_map, List.length_map, rowC_len] at this
        exact this
      have hfl := flatC_len (c := c) (m := m) hb r
      have hnR := nR_le (m := m) hb
      have e2' : as.length = r := by rw [e2, List.length_map, List.length_range]
      -- the slice, the same tuple or a new one
      have key : ∀ (p : Addr) (H4 : Hp), Same H3 H4 → TupI H4 p (rowC m b c r) → LTI (upd H4 L (.lst (as.map V.ref ++ [.ref p]))) L ((List.range (r + 1)).map (rowC m b c)) := fun p H4 s4 hp => by
        rw [List.range_succ, List.map_append]
        exact lti_snoc (s4 _ _ e1) e2 (fun i ys e => let ⟨q, q1, q2⟩ := e3 i ys e; ⟨q, q1, q2.same s4⟩) hp
      have hsz : (as.map V.ref).length < sizeLine := by rw [List.length_map, e2', sizeLine_eq]; omega
      have hbeg : (((flatC m b c r).length : Int) + (wd m b r : Int)) = ((flatC m b c (r + 1)).length : Int) := by
        rw [flatC_succ, List.length_append, rowC_len]
        rfl
      refine ⟨_, rfl, .inl ⟨rfl, _, SqL.of e1⟩, _, rfl, _, rfl, _, rfl, _, rfl, _, rfl, _, _, rfl, rfl, _, rfl, v, _, rfl, SqT.of hv3, fun hw => ?_, fun hw p hp => ?_⟩
      · refine ⟨L, _, _, rfl, rfl, e1, hsz, ?_⟩
        refine ⟨_, rfl, _, rfl, _, _, rfl, rfl, ?_⟩
        refine ⟨some (.int (wd m b r : Int)), ?_, same_up s3 hLn, key v H3 (fun _ _ e => e) ?_⟩
        · rw [← hbeg]
          rfl
        · show H3 v = _
          rw [← hsl, show H3 v = _ from hv3]
          congr 2
          have hw1 := hw.1
          have hw2 := hw.2
          unfold cutV
          rw [hw1, hw2, List.drop_zero, Nat.sub_zero, List.take_length]
      · rw [hsl]
        have s4 := new_same (o := .tup ((rowC m b c r).map V.int)) hp
        refine ⟨L, _, _, rfl, rfl, s4 _ _ e1, hsz, ?_⟩
        refine ⟨_, rfl, _, rfl, _, _, rfl, rfl, ?_⟩
        refine ⟨some (.int (wd m b r : Int)), ?_, same_up (s3.trans s4) hLn, key p _ s4 upd_same⟩
        rw [← hbeg]
        rfl
    · rintro σ H3 ⟨a4, rfl, s3, hl3⟩
      rw [hwl] at hl3
      exact ⟨_, rfl, kq L H3 hLn s3 hl3⟩
end
end My

set_option pp.maxSteps 300
set_option Elab.async false
set_option linter.all false
set_option maxRecDepth 100000
set_option maxHeartbeats 1000000
namespace My
open PySem L2 MyR
theorem lli_app {H : Hp} {D p : Addr} {xss : List (List Int)} {xs : List Int} (h : LLI H D xss) (hp : LI H p xs) (np : p ≠ D) (hl : xss.length < 5000) :
    ∃ acc, H D = some (.lst acc) ∧ acc.length < sizeLine ∧ LLI (upd H D (.lst (acc ++ [.ref p]))) D (xss ++ [xs]) := by
  obtain ⟨as, e1, e2, e3⟩ := h
  refine ⟨_, e1, by rw [List.length_map, e2, sizeLine_eq]; omega, lli_snoc e1 e2 e3 hp np fun q ys hq hm z => ?_⟩
  rw [z] at hq hm
  have hq : H D = some (.lst (ys.map V.int)) := hq
  rw [e1] at hq
  have hq := HO.lst.inj (Option.some.inj hq)
  cases as with
  | nil => cases hm
  | cons a as =>
    cases ys with
    | nil => cases hq
    | cons y ys =>
      rw [List.map_cons, List.map_cons] at hq
      cases (List.cons.inj hq).1
theorem LLI.lenV {H : Hp} {a : Addr} {xss : List (List Int)} (h : LLI H a xss) : ∃ vs : List V, H a = some (.lst vs) ∧ vs.length = xss.length ∧ ∀ (i : Nat) xs, xss[i]? = some xs → ∃ p, vs[i]? = some (.ref p) ∧ LI H p xs := by
  obtain ⟨as, e1, e2, e3⟩ := h
  refine ⟨_, e1, by rw [List.length_map]; exact e2, fun i xs e => ?_⟩
  obtain ⟨p, q1, q2⟩ := e3 i xs e
  exact ⟨p, by rw [List.getElem?_map, q1]; rfl, q2⟩
def rowE (m b : Nat) (c : Nat → Nat → Int) (r : Nat) : List Int := (List.range (wd m b r)).map fun q => nw (fun p => c p q) r % 2 ^ b
theorem diff_rowC (m b : Nat) (c : Nat → Nat → Int) (r : Nat) : diff (2 ^ b) (rowC m b c r).length (rowC m b c r) = rowE m b c r := by
  rw [rowC_len]
  have e : rowC m b c r = (List.range (wd m b r)).map fun j => nw (fun q => nw (fun p => c p q) r) j % 2 ^ b := by
    unfold rowC gv
    refine List.map_congr_left fun j _ => ?_
    rw [nw_swap r c j]
  rw [e, diff_nw]
  rfl
def hq (m b q : Nat) : Nat := if m = 2 then W (b - tw q) else if q < W b then 1 else 0
theorem hq_iff {m b q r : Nat} (hr : r < nR m b) : q < wd m b r ↔ r < hq m b q := by
  unfold wd hq
  unfold nR at hr
  by_cases e : m = 2
  · rw [if_pos e, if_pos e, ← W_iff, ← W_iff]
    omega
  · rw [if_neg e] at hr
    rw [if_neg e, if_neg e]
    split <;> omega
theorem hq_le {m b q : Nat} : hq m b q ≤ nR m b := by
  unfold hq nR
  by_cases e : m = 2
  · rw [if_pos e, if_pos e]
    exact W_mono (by omega)
  · rw [if_neg e, if_neg e]
    split <;> omega
def colE (m b : Nat) (c : Nat → Nat → Int) (q : Nat) : List Int := (List.range (hq m b q)).map fun r => nw (fun p => c p q) r % 2 ^ b
def colD (m b : Nat) (c : Nat → Nat → Int) (q : Nat) : List Int := (List.range (hq m b q)).map fun p => c p q % 2 ^ b
theorem colE_len (m b : Nat) (c : Nat → Nat → Int) (q : Nat) : (colE m b c q).length = hq m b q := by unfold colE; rw [List.length_map, List.length_range]
theorem diff_colE (m b : Nat) (c : Nat → Nat → Int) (q : Nat) : diff (2 ^ b) (colE m b c q).length (colE m b c q) = colD m b c q := by
  rw [colE_len]
  exact diff_nw (2 ^ b) (hq m b q) fun p => c p q
/-- the coefficients of a class, as they stand -/
def spr (m b : Nat) (c : Nat → Nat → Int) (r : Nat) : List Int := (List.range (wd m b r)).map fun q => c r q % 2 ^ b
theorem at_range {α : Type} {n i : Nat} {f : Nat → α} (h : i < n) : ((List.range n).map f)[i]? = some (f i) := by rw [List.getElem?_map, List.getElem?_range h]; rfl
/-- the items so far, of those rows that are long enough -/
theorem col_step {m b : Nat} {c : Nat → Nat → Int} {q r : Nat} (hr : r < nR m b) :
    ((List.range (min (r + 1) (hq m b q))).map fun r => nw (fun p => c p q) r % 2 ^ b) = ((List.range (min r (hq m b q))).map fun r => nw (fun p => c p q) r % 2 ^ b) ++ if q < wd m b r then [nw (fun p => c p q) r % 2 ^ b] else [] := by
  by_cases h : q < wd m b r
  · have h2 := (hq_iff hr).mp h
    rw [if_pos h, Nat.min_eq_left (by omega), Nat.min_eq_left (by omega), List.range_succ, List.map_append]
    rfl
  · have h2 : ¬ r < hq m b q := fun z => h ((hq_iff hr).mpr z)
    rw [if_neg h, Nat.min_eq_right (by omega), Nat.min_eq_right (by omega), List.append_nil]
def spSpread (C : Addr) : Sp := fun vs H Q _ => ∃ (sh v : Addr) (m b : Nat) (c : Nat → Nat → Int), vs = [.ref sh, .ref v] ∧ ShapeAt C H sh m b ∧ TupI H v (entC m b c) ∧ 1 ≤ b ∧ b ≤ 64 ∧ ∀ (L : Addr) H', H L = none → Same H H' → LLI H' L ((List.range (nR m b)).map (spr m b c)) → Q (.ref L) H'
/-- a method of a class -/
structure Mt (P : Program) (w : World) (K : PySem.W.Frag) (mg : Str → Option Value) (base : Heap) (C : Addr) (k : Nat) (x : Str) (ps : List Str) (sp : Sp) where
  f : Addr
  fd : FuncData
  m : Meth K C x f
  ok : FnOk P w K mg base CX0 k f fd ps sp
  b : Binds K fd ps []
def lcScope (st : Stmt) (i : Nat) : Scope := ((((defBody st)[i]?).bind valOf).bind lcOf).elim (defScope st) (·.1)
section
variable {P : Program} {w : World} {K : PySem.W.Frag} {mg : Str → Option Value} {base : Heap}
abbrev s_Shape_spread : Stmt := inClass (top 26) 2
abbrev N_Shape_spread : List Str := ["self", "values", "rows", "row", "columns", "at", "column", "down"]
theorem sc_Shape_spread : FnScope N_Shape_spread ["self", "values"] (defScope s_Shape_spread) := ⟨rfl, rfl, rfl, by decide +kernel, rfl, by decide +kernel, by decide +kernel⟩
theorem ok_Shape_spread {f C : Addr} {fd : FuncData} (F : Fun K "spread" "Shape.spread" s_Shape_spread f fd) (T : Glob mg) (C0 : ShC K C) (MR : Mt P w K mg base C 1 "in_rows" ["self", "values"] (spInRows C)) (D_differences : Df P w K mg base 1 "differences" ["values", "mask"] (spDiff K)) : FnOk P w K mg base CX0 2 f fd ["self", "values"] (spSpread C) := by
  refine F.ok sc_Shape_spread (fun vs H Q E h => ?_) (fun cdv A outer s H vs Q E hr h => ?_)
  · obtain ⟨sh, v, m, b, c, rfl, _⟩ := h
    rfl
  · obtain ⟨sh, v, m, b, c, rfl, S0, hv, hb1, hb, kq⟩ := h
    have nd := sc_Shape_spread.nd
    refine ⟨_, (pss_cons (ps_set (i := 2) nd rfl (Or.inr rfl) (pe_lc (own := [("row", 3)]) (g := gName 3) (tt := tYes) rfl nd (pi_list (pe_meth (pv 0) C0.cl MR.m MR.ok (hr.mono (by decide)) MR.b .nil pass0 (pa_cons (pv 1) pa_nil))) (blkOk_by (N := N_Shape_spread) (sc := defScope s_Shape_spread) (by decide +kernel)) (fun _ _ _ _ _ => by first | exact pg_name (i := 3) nd rfl (Or.inl rfl) | exact pg_name (i := 3) nd rfl (Or.inr rfl)) (fun _ _ _ _ _ => pts_nil) (fun _ _ _ _ _ => (pe_call D_differences.ok (hr.mono (by decide)) (by rfl) D_differences.g D_differences.kp D_differences.b .nil pass0 (pa_cons (pv 3) (pa_cons (pe_fldN (K := K) rfl (pv 0) rfl) pa_nil))))))
    (pss_cons (ps_set (i := 4) nd rfl (Or.inr rfl) (pe_lc (own := [("at", 5)]) (g := gName 5) (tt := tYes) rfl nd (pi_range1 (by rfl) T.g_range (pa_cons (pe_callB call_len_seq (by rfl) T.g_len PySem.boot_len (pa_cons (pe_ix ix_list (pv 2) pe_int (fun _ _ => rfl)) pa_nil)) pa_nil)) (blkOk_by (N := N_Shape_spread) (sc := defScope s_Shape_spread) (by decide +kernel)) (fun _ _ _ _ _ => by first | exact pg_name (i := 5) nd rfl (Or.inl rfl) | exact pg_name (i := 5) nd rfl (Or.inr rfl)) (fun _ _ _ _ _ => pts_nil) (fun _ _ _ _ _ => (pe_lc (own := [("row", 3)]) (g := gName 3) rfl nd (pi_listN (K := K) rfl (pv 2)) (blkOk_by (N := N_Shape_spread) (sc := relabS (lcScope s_Shape_spread 1) (defScope s_Shape_spread)) (by decide +kernel)) (fun _ _ _ _ _ => by first | exact pg_name (i := 3) nd rfl (Or.inl rfl) | exact pg_name (i := 3) nd rfl (Or.inr rfl)) (fun _ _ _ _ _ => pts_one (pt_cmpR op_gt (pe_callB (call_lenN (K := K) rfl) (by rfl) T.g_len PySem.boot_len (pa_cons (pv 3) pa_nil)) (pv 5) (nomark _))) (fun _ _ _ _ _ => (pe_ix (ix_listN (K := K) rfl) (pv 3) (pv 5) (fun _ _ => rfl)))))))
    (pss_cons (ps_set (i := 4) nd rfl (Or.inr rfl) (pe_lc (own := [("column", 6)]) (g := gName 6) (tt := tYes) rfl nd (pi_list (pv 4)) (blkOk_by (N := N_Shape_spread) (sc := defScope s_Shape_spread) (by decide +kernel)) (fun _ _ _ _ _ => by first | exact pg_name (i := 6) nd rfl (Or.inl rfl) | exact pg_name (i := 6) nd rfl (Or.inr rfl)) (fun _ _ _ _ _ => pts_nil) (fun _ _ _ _ _ => (pe_call D_differences.ok (hr.mono (by decide)) (by rfl) D_differences.g D_differences.kp D_differences.b .nil pass0 (pa_cons (pv 6) (pa_cons (pe_fldN (K := K) rfl (pv 0) rfl) pa_nil))))))
    (pss_one (ps_ret (pe_lc (own := [("down", 7), ("row", 3)]) (g := gTup K 2 (gCons (gName 7) (gCons (gName 3) gNil))) (tt := tYes) rfl nd (pi_enum (by rfl) T.g_enumerate (pa_cons (pv 2) pa_nil)) (blkOk_by (N := N_Shape_spread) (sc := defScope s_Shape_spread) (by decide +kernel)) (fun _ _ _ _ _ => by first | exact pg_tup (by rfl) (pgs_cons (pg_name (i := 7) nd rfl (Or.inl rfl)) (pgs_cons (pg_name (i := 3) nd rfl (Or.inl rfl)) pgs_nil)) | exact pg_tup (by rfl) (pgs_cons (pg_name (i := 7) nd rfl (Or.inr rfl)) (pgs_cons (pg_name (i := 3) nd rfl (Or.inl rfl)) pgs_nil)) | exact pg_tup (by rfl) (pgs_cons (pg_name (i := 7) nd rfl (Or.inr rfl)) (pgs_cons (pg_name (i := 3) nd rfl (Or.inr rfl)) pgs_nil))) (fun _ _ _ _ _ => pts_nil) (fun _ _ _ _ _ => (pe_lc (own := [("at", 5)]) (g := gName 5) (tt := tYes) rfl nd (pi_range1 (by rfl) T.g_range (pa_cons (pe_callB (call_lenN (K := K) rfl) (by rfl) T.g_len PySem.boot_len (pa_cons (pv 3) pa_nil)) pa_nil)) (blkOk_by (N := N_Shape_spread) (sc := relabS (lcScope s_Shape_spread 3) (defScope s_Shape_spread)) (by decide +kernel)) (fun _ _ _ _ _ => by first | exact pg_name (i := 5) nd rfl (Or.inl rfl) | exact pg_name (i := 5) nd rfl (Or.inr rfl)) (fun _ _ _ _ _ => pts_nil) (fun _ _ _ _ _ => (pe_ix (ix_listN (K := K) rfl) (pe_ix (ix_listN (K := K) rfl) (pv 4) (pv 5) (fun _ _ => rfl)) (pv 7) (fun _ _ => rfl))))))))))), ?_⟩
    have zl : 1000000 ≤ sizeLine := by rw [sizeLine_eq]; omega
    have hnR := nR_le (m := m) hb
    have hnR1 : 1 ≤ nR m b := by
      unfold nR
      split
      · exact W_pos hb1
      · omega
    have hW := W_66 hb
    have hw0 : wd m b 0 = W b := by
      unfold wd
      split
      · rfl
      · rfl
    obtain ⟨dx, tws, ws, iv, S⟩ := S0
    -- the rows' differences
    refine seq_by (fun σ H1 => ∃ R : Addr, σ = [some (.ref sh), some (.ref v), some (.ref R), none, none, none, none, none] ∧ Same H H1 ∧ LLI H1 R ((List.range (nR m b)).map (rowE m b c))) (fun D' hD' => ?_) ?_
    · refine ⟨_, rfl, sh, dx, _, rfl, S.o, rfl, _, rfl, sh, v, m, b, c, rfl, ⟨dx, tws, ws, iv, S⟩, hv, hb1, hb, fun L H1 hL s1 hl => ?_⟩
      obtain ⟨as, e1, e2, e3⟩ := hl
      rw [List.length_map, List.length_range] at e2
      refine ⟨L, rfl, ⟨_, SqL.of e1⟩, fun D hD => ?_⟩
      refine lc_list (xs := as.map V.ref) (fun i H2 => Same H1 H2 ∧ LLI H2 D ((List.range i).map (rowE m b c))) ⟨new_same hD, [], upd_same, rfl, fun i xs e => by simp at e⟩ (fun i H2 _ h => SqL.of (h.1 _ _ e1)) ?_ ?_
      · rintro r x H2 hx ⟨s2, h2⟩
        have hr : r < nR m b := by
          have := (List.getElem?_eq_some_iff.mp hx).1
          rw [List.length_map] at this
          omega
        obtain ⟨p, p1, p2⟩ := e3 r _ (at_range hr)
        rw [List.getElem?_map, p1] at hx
        obtain rfl := Option.some.inj hx
        refine ⟨rfl, ?_⟩
        dsimp only [tYes]
        rw [if_pos rfl]
        refine ⟨_, rfl, _, rfl, sh, C, dx, _, _, rfl, s2 _ _ (s1 _ _ S.o), C0.cl, C0.n2, rfl, true, p, rowC m b c r, b, rfl, sqK_t (SqT.of (p2.same s2)), ?_, fun L2 H3 hL2 s3 hl2 => ?_⟩
        · rw [rowC_len]
          have := wd_le (m := m) (r := r) hb
          omega
        rw [diff_rowC] at hl2
        have hn : L2 ≠ D := fun z => by
          obtain ⟨as, q1, _⟩ := h2
          rw [z, q1] at hL2
          cases hL2
        obtain ⟨acc, a1, a2, a3⟩ := lli_app (h2.same s3) hl2 hn (by rw [List.length_map, List.length_range]; omega)
        refine ⟨acc, a1, a2, same_up (s2.trans s3) hD, ?_⟩
        rw [List.range_succ, List.map_append]
        exact a3
      · rintro H2 ⟨s2, h2⟩
        rw [List.length_map, e2] at h2
        exact hD' _ _ ⟨D, rfl, s1.trans s2, h2⟩
    rintro σ H1 ⟨R, rfl, s1, hR1⟩
    -- the columns
    refine seq_by (fun σ H2 => ∃ Cc : Addr, σ = [some (.ref sh), some (.ref v), some (.ref R), none, some (.ref Cc), none, none, none] ∧ Same H H2 ∧ LLI H2 R ((List.range (nR m b)).map (rowE m b c)) ∧ LLI H2 Cc ((List.range (W b)).map (colE m b c))) (fun D' hD' => ?_) ?_
    · obtain ⟨vs, e1, e2, e3⟩ := hR1.lenV
      rw [List.length_map, List.length_range] at e2
      obtain ⟨p0, p1, p2⟩ := e3 0 _ (at_range (f := rowE m b c) (show 0 < nR m b by omega))
      have hl0 : ((rowE m b c 0).map V.int).length = W b := by rw [List.length_map]; unfold rowE; rw [List.length_map, List.length_range, hw0]
      refine ⟨_, rfl, R, _, _, _, rfl, rfl, SqL.of e1, atI_nat (j := 0) p1, p0, _, rfl, .inl (SqL.of p2), (W b : Int), by rw [hl0], by omega, by omega, fun D hD => ?_⟩
      rw [Int.toNat_natCast]
      refine lc_it (n := W b) walk_range (fun i H2 => Same H1 H2 ∧ LLI H2 D ((List.range i).map (colE m b c))) ⟨new_same hD, [], upd_same, rfl, fun i xs e => by simp at e⟩ (fun _ _ _ _ => trivial) ?_ ?_
      · rintro q x H2 H3 hq' ⟨s2, h2⟩ ⟨rfl, rfl⟩
        refine ⟨rfl, ?_⟩
        dsimp only [tYes]
        rw [if_pos rfl]
        refine ⟨_, rfl, R, rfl, ⟨_, SqL.of (s2 _ _ e1)⟩, fun D2 hD2 => ?_⟩
        refine lc_list (xs := vs) (fun r H4 => Same H3 H4 ∧ LI H4 D2 ((List.range (min r (hq m b q))).map fun r => nw (fun p => c p q) r % 2 ^ b)) ⟨new_same hD2, by rw [Nat.zero_min]; exact upd_same⟩ (fun i H4 _ h => SqL.of (h.1 _ _ (s2 _ _ e1))) ?_ ?_
        · rintro r x H4 hx ⟨s4, h4⟩
          have hr : r < nR m b := by
            have := (List.getElem?_eq_some_iff.mp hx).1
            omega
          obtain ⟨p, p1, p2⟩ := e3 r _ (at_range (f := rowE m b c) hr)
          rw [hx] at p1
          obtain rfl := Option.some.inj p1
          have p4 := (p2.same s2).same s4
          have hlr : ((rowE m b c r).map V.int).length = wd m b r := by rw [List.length_map]; unfold rowE; rw [List.length_map, List.length_range]
          refine ⟨rfl, ?_⟩
          refine ⟨_, rfl, p, _, rfl, .inl (SqL.of p4), _, rfl, _, _, rfl, rfl, _, rfl, ?_⟩
          rw [hlr]
          refine ite2 (fun z => ?_) (fun z => ?_)
          · have z : (0 : Int) + (q : Int) < (wd m b r : Int) := of_decide_eq_true z
            have hqw : q < wd m b r := by omega
            have h0q : (0 : Int) + (q : Int) = (q : Int) := by omega
            refine ⟨_, rfl, _, rfl, p, _, _, .int (nw (fun p => c p q) r % 2 ^ b), rfl, rfl, SqL.of p4, ?_, ?_⟩
            · show atI ((rowE m b c r).map V.int) (0 + (q : Int)) = _
              rw [h0q]
              exact atI_nat (map_at_int (at_range hqw))
            refine ⟨_, h4, by rw [List.length_map, List.length_map, List.length_range]; omega, same_up s4 hD2, ?_⟩
            rw [col_step hr, if_pos hqw]
            exact li_snoc
          · have z : ¬ (0 : Int) + (q : Int) < (wd m b r : Int) := fun y => z (decide_eq_true y)
            refine ⟨s4, ?_⟩
            rw [col_step hr, if_neg (by omega), List.append_nil]
            exact h4
        · rintro H4 ⟨s4, h4⟩
          rw [e2, Nat.min_eq_right hq_le] at h4
          have hn : D2 ≠ D := fun z => by
            obtain ⟨as, q1, _⟩ := h2
            rw [z, q1] at hD2
            cases hD2
          obtain ⟨acc, a1, a2, a3⟩ := lli_app (h2.same s4) (show LI H4 D2 (colE m b c q) from h4) hn (by rw [List.length_map, List.length_range]; omega)
          refine ⟨acc, a1, a2, same_up (s2.trans s4) hD, ?_⟩
          rw [List.range_succ, List.map_append]
          exact a3
      · rintro H2 ⟨s2, h2⟩
        exact hD' _ _ ⟨D, rfl, s1.trans s2, hR1.same s2, h2⟩
    clear s1 hR1
    rintro σ H2 ⟨Cc, rfl, s2, hR2, hC2⟩
    -- their differences
    refine seq_by (fun σ H3 => ∃ Cd : Addr, σ = [some (.ref sh), some (.ref v), some (.ref R), none, some (.ref Cd), none, none, none] ∧ Same H H3 ∧ LLI H3 R ((List.range (nR m b)).map (rowE m b c)) ∧ LLI H3 Cd ((List.range (W b)).map (colD m b c))) (fun D' hD' => ?_) ?_
    · obtain ⟨vs, e1, e2, e3⟩ := hC2.lenV
      rw [List.length_map, List.length_range] at e2
      refine ⟨_, rfl, Cc, rfl, ⟨_, SqL.of e1⟩, fun D hD => ?_⟩
      refine lc_list (xs := vs) (fun i H3 => Same H2 H3 ∧ LLI H3 D ((List.range i).map (colD m b c))) ⟨new_same hD, [], upd_same, rfl, fun i xs e => by simp at e⟩ (fun i H3 _ h => SqL.of (h.1 _ _ e1)) ?_ ?_
      · rintro q x H3 hx ⟨s3, h3⟩
        have hq' : q < W b := by
          have := (List.getElem?_eq_some_iff.mp hx).1
          omega
        obtain ⟨p, p1, p2⟩ := e3 q _ (at_range (f := colE m b c) hq')
        rw [hx] at p1
        obtain rfl := Option.some.inj p1
        refine ⟨rfl, ?_⟩
        dsimp only [tYes]
        rw [if_pos rfl]
        refine ⟨_, rfl, _, rfl, sh, C, dx, _, _, rfl, s3 _ _ (s2 _ _ S.o), C0.cl, C0.n2, rfl, false, p, colE m b c q, b, rfl, sqK_l (SqL.of (p2.same s3)), ?_, fun L2 H4 hL2 s4 hl2 => ?_⟩
        · rw [colE_len]
          have := hq_le (m := m) (b := b) (q := q)
          omega
        rw [diff_colE] at hl2
        have hn : L2 ≠ D := fun z => by
          obtain ⟨as, q1, _⟩ := h3
          rw [z, q1] at hL2
          cases hL2
        obtain ⟨acc, a1, a2, a3⟩ := lli_app (h3.same s4) hl2 hn (by rw [List.length_map, List.length_range]; omega)
        refine ⟨acc, a1, a2, same_up (s3.trans s4) hD, ?_⟩
        rw [List.range_succ, List.map_append]
        exact a3
      · rintro H3 ⟨s3, h3⟩
        rw [e2] at h3
        exact hD' _ _ ⟨D, rfl, s2.trans s3, hR2.same s3, h3⟩
    clear s2 hR2 hC2
    rintro σ H3 ⟨Cd, rfl, s3, hR3, hC3⟩
    obtain ⟨vs, e1, e2, e3⟩ := hR3.lenV
    obtain ⟨us, f1, f2, f3⟩ := hC3.lenV
    rw [List.length_map, List.length_range] at e2 f2
    refine ⟨_, rfl, R, _, rfl, SqL.of e1, fun D hD => ?_⟩
    refine lc_it walk_enum (fun r H4 => Same H3 H4 ∧ LLI H4 D ((List.range r).map (spr m b c))) ⟨new_same hD, [], upd_same, rfl, fun i xs e => by simp at e⟩ (fun r H4 _ h => SqL.of (h.1 _ _ e1)) ?_ ?_
    · rintro r x H4 H5 hr' ⟨s4, h4⟩ ⟨T', x1, x2, rfl, hT, rfl, hx1, hx2⟩
      have hr : r < nR m b := by omega
      obtain rfl := Option.some.inj hx1
      obtain ⟨p, p1, p2⟩ := e3 r _ (at_range (f := rowE m b c) hr)
      have hx2 : vs[r]? = some x2 := hx2
      rw [p1] at hx2
      obtain rfl := Option.some.inj hx2
      have s5' := new_same (o := .tup [V.int (r : Nat), .ref p]) hT
      have s5 := s4.trans s5'
      have h5 := h4.same s5'
      refine ⟨T', _, rfl, SqT.of upd_same, rfl, _, _, rfl, _, _, rfl, rfl, rfl, ?_⟩
      dsimp only [tYes]
      rw [if_pos rfl]
      have hlr : ((rowE m b c r).map V.int).length = wd m b r := by rw [List.length_map]; unfold rowE; rw [List.length_map, List.length_range]
      have hwr := wd_le (m := m) (r := r) hb
      refine ⟨_, rfl, p, _, rfl, .inl (SqL.of (p2.same s5)), (wd m b r : Int), by rw [hlr], by omega, by omega, fun D2 hD2 => ?_⟩
      rw [Int.toNat_natCast]
      generalize upd H4 T' (.tup [V.int (r : Nat), .ref p]) = H5 at s5 s5' h5 hD2 ⊢
      refine lc_it (n := wd m b r) walk_range (fun q H6 => Same H5 H6 ∧ LI H6 D2 ((List.range q).map fun q => c r q % 2 ^ b)) ⟨new_same hD2, upd_same⟩ (fun _ _ _ _ => trivial) ?_ ?_
      · rintro q x H6 H7 hq' ⟨s6, h6⟩ ⟨rfl, rfl⟩
        refine ⟨rfl, ?_⟩
        dsimp only [tYes]
        rw [if_pos rfl]
        have hqW : q < W b := by
          unfold wd at hq'
          split at hq'
          · have := W_mono (show b - tw r ≤ b by omega)
            omega
          · exact hq'
        have hrh : r < hq m b q := (hq_iff hr).mp hq'
        obtain ⟨p', p1', p2'⟩ := f3 q _ (at_range (f := colD m b c) hqW)
        have h0q : (0 : Int) + (q : Int) = (q : Int) := by omega
        have s7 := s5.trans s6
        refine ⟨_, rfl, _, rfl, Cd, us, _, .ref p', rfl, rfl, SqL.of (s7 _ _ f1), ?_, _, rfl, p', _, _, .int (c r q % 2 ^ b), rfl, rfl, SqL.of (p2'.same s7), ?_, ?_⟩
        · show atI us (0 + (q : Int)) = _
          rw [h0q]
          exact atI_nat p1'
        · exact atI_nat (map_at_int (at_range hrh))
        refine ⟨_, h6, by rw [List.length_map, List.length_map, List.length_range]; omega, same_up s6 hD2, ?_⟩
        rw [List.range_succ, List.map_append]
        exact li_snoc
      · rintro H6 ⟨s6, h6⟩
        have hn : D2 ≠ D := fun z => by
          obtain ⟨as, q1, _⟩ := h5
          rw [z, q1] at hD2
          cases hD2
        obtain ⟨acc, a1, a2, a3⟩ := lli_app (h5.same s6) (show LI H6 D2 (spr m b c r) from h6) hn (by rw [List.length_map, List.length_range]; omega)
        refine ⟨acc, a1, a2, same_up (s5.trans s6) hD, ?_⟩
        rw [List.range_succ, List.map_append]
        exact a3
    · rintro H4 ⟨s4, h4⟩
      rw [e2] at h4
      exact kq D H4 (same_free s3 hD) (s3.trans s4) h4
end
end My

set_option pp.maxSteps 300
set_option Elab.async false
set_option linter.all false
set_option maxRecDepth 100000
set_option maxHeartbeats 1000000
namespace My
open PySem L2 MyR
/-- the coefficients may stand -/
def DivC (m b : Nat) (c : Nat → Nat → Int) : Prop := ∀ r q, r < nR m b → q < wd m b r → (2 : Int) ^ (tw r + tw q) ∣ c r q
theorem sum_lt {m b r q : Nat} (hm : m = 1 ∨ m = 2) (hr : r < nR m b) (h : q < wd m b r) : tw r + tw q < b := by
  unfold wd at h
  unfold nR at hr
  rcases hm with rfl | rfl
  · rw [if_neg (by decide)] at h hr
    have : r = 0 := by omega
    subst this
    have := W_iff.mpr h
    show 0 + tw q < b
    omega
  · rw [if_pos rfl] at h hr
    have := W_iff.mpr h
    omega
theorem q_lt {m b r q : Nat} (h : q < wd m b r) : q < W b := by
  unfold wd at h
  split at h
  · have := W_mono (show b - tw r ≤ b by omega)
    omega
  · exact h
theorem r_lt {m b r : Nat} (hb : 1 ≤ b) (h : r < nR m b) : r < W b := by
  unfold nR at h
  split at h
  · exact h
  · have := W_pos hb
    omega
def spWrongG (C : Addr) : Sp := fun vs H Q _ => ∃ (sh v : Addr) (m b : Nat) (c : Nat → Nat → Int), vs = [.ref sh, .ref v] ∧ ShapeAt C H sh m b ∧ LLI H v ((List.range (nR m b)).map (spr m b c)) ∧ 1 ≤ b ∧ b ≤ 64 ∧ (m = 1 ∨ m = 2) ∧ DivC m b c ∧ ∀ H', Same H H' → Q .non H'
/-- a row of coefficients, without the zeros at its end -/
def CoRow (m b : Nat) (c : Nat → Nat → Int) (r : Nat) (zs : List Int) : Prop := ∃ (n : Nat) (A : Nat → Int), zs ++ List.replicate n 0 = (List.range (wd m b r)).map A ∧
  ∃ x, InvOf b (odP r) x ∧ ∀ q, q < wd m b r → ∃ y, InvOf b (odP q) y ∧ A q = (c r q % 2 ^ b) / 2 ^ (tw r + tw q) * x * y % 2 ^ b
def spDivided (C : Addr) : Sp := fun vs H Q _ => ∃ (sh v : Addr) (m b r : Nat) (c : Nat → Nat → Int), vs = [.ref sh, .ref v, .int (r : Int)] ∧ ShapeAt C H sh m b ∧ LI H v (spr m b c r) ∧ r < nR m b ∧ 1 ≤ b ∧ b ≤ 64 ∧ (m = 1 ∨ m = 2) ∧ ∀ (L : Addr) H' zs, H L = none → Same H H' → LI H' L zs → CoRow m b c r zs → Q (.ref L) H'
/-- the coefficients of a class -/
def CoRows (m b : Nat) (c : Nat → Nat → Int) (rows : List (List Int)) : Prop := rows.length = nR m b ∧ ∀ r zs, rows[r]? = some zs → CoRow m b c r zs
def spCoefs (C : Addr) : Sp := fun vs H Q _ => ∃ (sh v : Addr) (m b : Nat) (c : Nat → Nat → Int), vs = [.ref sh, .ref v] ∧ ShapeAt C H sh m b ∧ LLI H v ((List.range (nR m b)).map (spr m b c)) ∧ 1 ≤ b ∧ b ≤ 64 ∧ (m = 1 ∨ m = 2) ∧ ∀ (L : Addr) H' rows, H L = none → Same H H' → LLI H' L rows → CoRows m b c rows → (∀ vs, H' L = some (.lst vs) → ∀ q, V.ref q ∈ vs → H q = none) → Q (.ref L) H'
theorem shares_at {b r : Nat} (h : r < W b) : atI ((sharesL b).map V.int) (r : Int) = some (.int (tw r : Int)) := atI_nat (map_at_int (at_range (f := fun j => (tw j : Int)) h))
theorem spr_at {m b r q : Nat} {c : Nat → Nat → Int} (h : q < wd m b r) : ((spr m b c r).map V.int)[q]? = some (.int (c r q % 2 ^ b)) := map_at_int (at_range (f := fun q => c r q % 2 ^ b) h)
section
variable {P : Program} {w : World} {K : PySem.W.Frag} {mg : Str → Option Value} {base : Heap}
abbrev s_Shape_first_wrong : Stmt := inClass (top 26) 3
abbrev N_Shape_first_wrong : List Str := ["self", "found", "index", "down", "row", "at", "number"]
theorem sc_Shape_first_wrong : FnScope N_Shape_first_wrong ["self", "found"] (defScope s_Shape_first_wrong) := ⟨rfl, rfl, rfl, by decide +kernel, rfl, by decide +kernel, by decide +kernel⟩
theorem ok_Shape_first_wrong {f C : Addr} {fd : FuncData} (F : Fun K "first_wrong" "Shape.first_wrong" s_Shape_first_wrong f fd) (T : Glob mg) (C0 : ShC K C) : FnOk P w K mg base CX0 1 f fd ["self", "found"] (spWrongG C) := by
  refine F.ok sc_Shape_first_wrong (fun vs H Q E h => ?_) (fun cdv A outer s H vs Q E hr h => ?_)
  · obtain ⟨sh, v, m, b, c, rfl, _⟩ := h
    rfl
  · obtain ⟨sh, v, m, b, c, rfl, ⟨dx, tws, ws, iv, S⟩, hv, hb1, hb, hm, hd, kq⟩ := h
    have nd := sc_Shape_first_wrong.nd
    refine ⟨_, (pss_cons (ps_set (i := 2) nd rfl (Or.inl rfl) pe_int)
    (pss_cons (ps_for PassesOwn.never rfl (pi_enum (by rfl) T.g_enumerate (pa_cons (pv 1) pa_nil)) (pg_tup (by rfl) (pgs_cons (pg_name (i := 3) nd rfl (Or.inl rfl)) (pgs_cons (pg_name (i := 4) nd rfl (Or.inl rfl)) pgs_nil)))
    (pss_one (ps_for PassesOwn.never rfl (pi_enum (by rfl) T.g_enumerate (pa_cons (pv 4) pa_nil)) (pg_tup (by rfl) (pgs_cons (pg_name (i := 5) nd rfl (Or.inl rfl)) (pgs_cons (pg_name (i := 6) nd rfl (Or.inl rfl)) pgs_nil)))
    (pss_cons (ps_if (pt_cmpR op_ne (pe_op op_andM (pv 6) (pe_op op_sub (pe_op op_shl pe_int (pe_op op_add (pe_ix ix_list (pe_fld (pv 0) rfl) (pv 3) (fun _ _ => rfl)) (pe_ix ix_list (pe_fld (pv 0) rfl) (pv 5) (fun _ _ => rfl)))) pe_int)) pe_int (nomark _))
    (pss_one (ps_ret (pv 2)))
    pss_nil)
    (pss_one (ps_set (i := 2) nd rfl (Or.inl rfl) (pe_op op_add (pv 2) pe_int)))))))
    (pss_one (ps_ret pe_non)))), ?_⟩
    have hW := W_66 hb
    refine seq_by (fun σ H1 => H1 = H ∧ σ = [some (.ref sh), some (.ref v), some (.int 0), none, none, none, none]) (fun D' hD' => ?_) ?_
    · exact hD' _ _ ⟨rfl, rfl⟩
    rintro σ H1 ⟨rfl, rfl⟩
    obtain ⟨vs, e1, e2, e3⟩ := hv.lenV
    rw [List.length_map, List.length_range] at e2
    refine ⟨_, rfl, v, _, rfl, SqL.of e1, ?_⟩
    refine for_it walk_enum (fun r σ H2 => ∃ (n : Int) (a3 a4 a5 a6 : Option V), σ = [some (.ref sh), some (.ref v), some (.int n), a3, a4, a5, a6] ∧ Same H1 H2) ⟨0, none, none, none, none, rfl, fun _ _ e => e⟩ (fun r σ H2 _ h => by obtain ⟨_, _, _, _, _, _, h⟩ := h; exact SqL.of (h _ _ e1)) ?_ ?_
    · rintro r x σ H2 H3 hr' ⟨n, a3, a4, a5, a6, rfl, s2⟩ ⟨T', x1, x2, rfl, hT, rfl, hx1, hx2⟩
      have hr : r < nR m b := by omega
      obtain rfl := Option.some.inj hx1
      obtain ⟨p, p1, p2⟩ := e3 r _ (at_range (f := spr m b c) hr)
      have hx2 : vs[r]? = some x2 := hx2
      rw [p1] at hx2
      obtain rfl := Option.some.inj hx2
      have s3 := s2.trans (new_same (o := .tup [V.int (r : Nat), .ref p]) hT)
      refine ⟨T', _, rfl, SqT.of upd_same, rfl, _, _, rfl, _, _, rfl, rfl, ?_⟩
      generalize upd H2 T' (.tup [V.int (r : Nat), .ref p]) = H3 at s3 ⊢
      refine ⟨_, rfl, p, _, rfl, SqL.of (p2.same s3), ?_⟩
      refine for_it walk_enum (fun q σ H4 => ∃ (n : Int) (a5 a6 : Option V), σ = [some (.ref sh), some (.ref v), some (.int n), some (.int (r : Int)), some (.ref p), a5, a6] ∧ Same H1 H4) ⟨n, _, _, rfl, s3⟩ (fun q σ H4 _ h => by obtain ⟨_, _, _, _, h⟩ := h; exact SqL.of (p2.same h)) ?_ ?_
      · rintro q y σ H4 H5 hq' ⟨n, a5, a6, rfl, s4⟩ ⟨T2, y1, y2, rfl, hT2, rfl, hy1, hy2⟩
        have hqw : q < wd m b r := by
          rw [List.length_map] at hq'
          unfold spr at hq'
          rw [List.length_map, List.length_range] at hq'
          exact hq'
        obtain rfl := Option.some.inj hy1
        have hy2 : ((spr m b c r).map V.int)[q]? = some y2 := hy2
        rw [spr_at hqw] at hy2
        obtain rfl := Option.some.inj hy2
        have s5 := s4.trans (new_same (o := .tup [V.int (q : Nat), .int (c r q % 2 ^ b)]) hT2)
        have hlt := sum_lt hm hr hqw
        have hdv := hd r q hr hqw
        refine ⟨T2, _, rfl, SqT.of upd_same, rfl, _, _, rfl, _, _, rfl, rfl, ?_⟩
        generalize upd H4 T2 (.tup [V.int (q : Nat), .int (c r q % 2 ^ b)]) = H5 at s5 ⊢
        have ht5 := S.t.same s5
        refine ⟨_, rfl, _, rfl, sh, C, dx, _, _, rfl, s5 _ _ S.o, C0.cl, C0.n3, rfl, _, rfl, tws, _, _, _, rfl, rfl, SqL.of ht5, shares_at (r_lt hb1 hr), _, rfl, sh, C, dx, _, _, rfl, s5 _ _ S.o, C0.cl, C0.n3, rfl, _, rfl, tws, _, _, _, rfl, rfl, SqL.of ht5, shares_at (q_lt hqw), _, _, rfl, rfl, ?_⟩
        refine ⟨_, _, rfl, rfl, ⟨by omega, by omega, by decide⟩, _, _, rfl, rfl, _, tw r + tw q, rfl, ?_, ?_⟩
        · rw [Int.one_mul, show ((tw r : Int) + (tw q : Int)).toNat = tw r + tw q by omega]
        have hz : c r q % 2 ^ b % 2 ^ (tw r + tw q) = 0 := by
          rw [Int.emod_emod_of_dvd _ (p2_dvd (show tw r + tw q ≤ b by omega))]
          exact Int.emod_eq_zero_of_dvd hdv
        rw [hz]
        refine ⟨rfl, _, rfl, iteNS rfl ?_⟩
        exact ⟨_, rfl, _, _, rfl, rfl, ⟨_, _, _, rfl, s5⟩⟩
      · rintro σ H4 ⟨n, a5, a6, rfl, s4⟩
        exact ⟨n, _, _, _, _, rfl, s4⟩
    · rintro σ H2 ⟨n, a3, a4, a5, a6, rfl, s2⟩
      exact kq H2 s2
abbrev s_Shape_divided : Stmt := inClass (top 26) 5
abbrev N_Shape_divided : List Str := ["self", "row", "down", "factor", "used", "found", "at", "number"]
theorem sc_Shape_divided : FnScope N_Shape_divided ["self", "row", "down"] (defScope s_Shape_divided) := ⟨rfl, rfl, rfl, by decide +kernel, rfl, by decide +kernel, by decide +kernel⟩
theorem ok_Shape_divided {f C : Addr} {fd : FuncData} (F : Fun K "divided" "Shape.divided" s_Shape_divided f fd) (T : Glob mg) (C0 : ShC K C) : FnOk P w K mg base CX0 1 f fd ["self", "row", "down"] (spDivided C) := by
  refine F.ok sc_Shape_divided (fun vs H Q E h => ?_) (fun cdv A outer s H vs Q E hr h => ?_)
  · obtain ⟨sh, v, m, b, r, c, rfl, _⟩ := h
    rfl
  · obtain ⟨sh, v, m, b, r, c, rfl, ⟨dx, tws, ws, iv, S⟩, hv, hrR, hb1, hb, hm, kq⟩ := h
    have nd := sc_Shape_divided.nd
    refine ⟨_, (pss_cons (ps_set (i := 3) nd rfl (Or.inr rfl) (pe_ix ix_list (pe_fld (pv 0) rfl) (pv 2) (fun _ _ => rfl)))
    (pss_cons (ps_set (i := 4) nd rfl (Or.inr rfl) (pe_ix ix_list (pe_fld (pv 0) rfl) (pv 2) (fun _ _ => rfl)))
    (pss_cons (ps_setLc (i := 5) (own := [("at", 6), ("number", 7)]) (g := gTup K 2 (gCons (gName 6) (gCons (gName 7) gNil))) (tt := tYes) rfl nd rfl rfl (sw_true rfl rfl rfl (by decide +kernel)) (pi_enum (by rfl) T.g_enumerate (pa_cons (pv 1) pa_nil)) (blkOk_by (N := N_Shape_divided) (sc := defScope s_Shape_divided) (by decide +kernel)) (fun _ _ _ _ _ => pg_tup (by rfl) (pgs_cons (pg_name (i := 6) nd rfl (Or.inl rfl)) (pgs_cons (pg_name (i := 7) nd rfl (Or.inl rfl)) pgs_nil))) (fun _ _ _ _ _ => pts_nil) (fun _ _ _ _ _ => (pe_op op_andM (pe_op op_mul (pe_op op_mul (pe_op op_shrN (pv 7) (pe_op op_add (pv 4) (pe_ix (ix_listN (K := K) rfl) (pe_fldN (K := K) rfl (pv 0) rfl) (pv 6) (fun _ _ => rfl)))) (pv 3)) (pe_ix (ix_listN (K := K) rfl) (pe_fldN (K := K) rfl (pv 0) rfl) (pv 6) (fun _ _ => rfl))) (pe_fldN (K := K) rfl (pv 0) rfl))))
    (pss_cons (ps_while PassesOwn.never (PW.pt (pw_and (pt_truth (pv 5) (fun _ => rfl)) (pw_and1 (pt_cmpR op_eq (pe_ix ix_list (pv 5) (pe_un un_neg pe_int) (fun _ _ => rfl)) pe_int (nomark _)))))
    (pss_one (ps_expr (pe_bm0 PySem.F.plainAttrs_list PySem.F.slot_list_pop PySem.F.type_list_pop mt_pop (pv 5)))))
    (pss_one (ps_ret (pv 5))))))), ?_⟩
    have zl : 1000000 ≤ sizeLine := by rw [sizeLine_eq]; omega
    have hW := W_66 hb
    have h64 := p64 hb
    have hp := p2_pos b
    obtain ⟨is, i1, i2, i3⟩ := id S.i
    obtain ⟨fx, f1, f2⟩ := i3 r (r_lt hb1 hrR)
    have hwr := wd_le (m := m) (r := r) hb
    refine seq_by (fun σ H1 => H1 = H ∧ σ = [some (.ref sh), some (.ref v), some (.int (r : Int)), some (.int fx), none, none, none, none]) (fun D' hD' => ?_) ?_
    · exact ⟨_, rfl, sh, C, dx, _, _, rfl, S.o, C0.cl, C0.n5, rfl, _, rfl, iv, _, _, _, rfl, rfl, SqL.of i1, atI_nat (map_at_int f1), hD' _ _ ⟨rfl, rfl⟩⟩
    rintro σ H1 ⟨rfl, rfl⟩
    refine seq_by (fun σ H2 => H2 = H1 ∧ σ = [some (.ref sh), some (.ref v), some (.int (r : Int)), some (.int fx), some (.int (tw r : Int)), none, none, none]) (fun D' hD' => ?_) ?_
    · exact ⟨_, rfl, sh, C, dx, _, _, rfl, S.o, C0.cl, C0.n3, rfl, _, rfl, tws, _, _, _, rfl, rfl, SqL.of S.t, shares_at (r_lt hb1 hrR), hD' _ _ ⟨rfl, rfl⟩⟩
    rintro σ H ⟨rfl, rfl⟩
    obtain ⟨B, hB⟩ : ∃ B : Nat → Int, B = fun q => (c r q % 2 ^ b) / 2 ^ (tw r + tw q) * fx * (is.getD q 0) % 2 ^ b := ⟨_, rfl⟩
    refine seq_by (fun σ H2 => ∃ (L : Addr) (a6 a7 : Option V), σ = [some (.ref sh), some (.ref v), some (.int (r : Int)), some (.int fx), some (.int (tw r : Int)), some (.ref L), a6, a7] ∧ Same H H2 ∧ LI H2 L ((List.range (wd m b r)).map B) ∧ H L = none) (fun D' hD' => ?_) ?_
    · refine ⟨_, rfl, v, _, rfl, SqL.of hv, fun D hD => ?_⟩
      have hvl : ((spr m b c r).map V.int).length = wd m b r := by rw [List.length_map]; unfold spr; rw [List.length_map, List.length_range]
      refine lc_it walk_enum (fun q H2 => Same H H2 ∧ LI H2 D ((List.range q).map B)) ⟨new_same hD, upd_same⟩ (fun q H2 _ h => SqL.of (hv.same h.1)) ?_ ?_
      · rintro q y H2 H3 hq' ⟨s2, h2⟩ ⟨T2, y1, y2, rfl, hT2, rfl, hy1, hy2⟩
        have hqw : q < wd m b r := by omega
        obtain rfl := Option.some.inj hy1
        have hy2 : ((spr m b c r).map V.int)[q]? = some y2 := hy2
        rw [spr_at hqw] at hy2
        obtain rfl := Option.some.inj hy2
        have s3' := new_same (o := .tup [V.int (q : Nat), .int (c r q % 2 ^ b)]) hT2
        have s3 := s2.trans s3'
        have h3 := h2.same s3'
        obtain ⟨gy, g1, g2⟩ := i3 q (q_lt hqw)
        have eB : B q = (c r q % 2 ^ b) / 2 ^ (tw r + tw q) * fx * gy % 2 ^ b := by
          rw [hB]
          dsimp only
          rw [List.getD_eq_getElem?_getD, g1]
          rfl
        refine ⟨T2, _, rfl, SqT.of upd_same, rfl, _, _, rfl, _, _, rfl, rfl, rfl, ?_⟩
        dsimp only [tYes]
        rw [if_pos rfl]
        generalize upd H2 T2 (.tup [V.int (q : Nat), .int (c r q % 2 ^ b)]) = H3 at s3 h3 ⊢
        have hlow : 0 ≤ c r q % 2 ^ b / 2 ^ (tw r + tw q) := Int.ediv_nonneg (Int.emod_nonneg _ (by omega)) (by have := p2_pos (tw r + tw q); omega)
        refine ⟨_, rfl, _, rfl, _, rfl, sh, C, dx, _, _, rfl, s3 _ _ S.o, C0.cl, C0.n3, rfl, _, rfl, tws, _, _, _, rfl, rfl, SqL.of (S.t.same s3), shares_at (q_lt hqw), _, _, rfl, rfl, _, tw r + tw q, rfl, rfl, ?_⟩
        refine ⟨_, rfl, _, _, rfl, rfl, .inr ⟨by have := f2.1; omega, by have := f2.2.1; omega⟩, ?_⟩
        refine ⟨_, rfl, sh, C, dx, _, _, rfl, s3 _ _ S.o, C0.cl, C0.n5, rfl, _, rfl, iv, _, _, _, rfl, rfl, SqL.of (i1.same s3), atI_nat (map_at_int g1), _, _, rfl, rfl, .inr ⟨by have := g2.1; omega, by have := g2.2.1; omega⟩, ?_⟩
        refine ⟨_, rfl, sh, C, dx, _, _, rfl, s3 _ _ S.o, C0.cl, C0.n2, rfl, _, b, rfl, rfl, ?_⟩
        refine ⟨_, h3, by rw [List.length_map, List.length_map, List.length_range]; omega, same_up s3 hD, ?_⟩
        rw [List.range_succ, List.map_append, ← eB]
        exact li_snoc
      · rintro H2 ⟨s2, h2⟩
        rw [hvl] at h2
        exact hD' _ _ ⟨D, _, _, rfl, s2, h2, hD⟩
    rintro σ H2 ⟨L, a6, a7, rfl, s2, h2, hLn⟩
    have hA : ∀ q, q < wd m b r → ∃ y, InvOf b (odP q) y ∧ B q = (c r q % 2 ^ b) / 2 ^ (tw r + tw q) * fx * y % 2 ^ b := fun q hq => by
      obtain ⟨gy, g1, g2⟩ := i3 q (q_lt hq)
      refine ⟨gy, g2, ?_⟩
      rw [hB]
      dsimp only
      rw [List.getD_eq_getElem?_getD, g1]
      rfl
    refine seq_by (fun σ H3 => ∃ zs n, σ = [some (.ref sh), some (.ref v), some (.int (r : Int)), some (.int fx), some (.int (tw r : Int)), some (.ref L), a6, a7] ∧ Same H H3 ∧ LI H3 L zs ∧ zs ++ List.replicate n 0 = (List.range (wd m b r)).map B) (fun D' hD' => ?_) ?_
    · refine while_by (fun σ H3 => ∃ zs n, σ = [some (.ref sh), some (.ref v), some (.int (r : Int)), some (.int fx), some (.int (tw r : Int)), some (.ref L), a6, a7] ∧ Same H H3 ∧ LI H3 L zs ∧ zs ++ List.replicate n 0 = (List.range (wd m b r)).map B)
        (fun _ H3 => match H3 L with | some (.lst ys) => ys.length | _ => 0) ⟨_, 0, rfl, s2, h2, by show _ ++ [] = _; rw [List.append_nil]⟩ ?_ ?_
      · clear s2 h2
        rintro σ H3 ⟨zs, n, rfl, s3, h3, hz⟩
        refine ⟨_, rfl, !(zs.map V.int).isEmpty, .inl ⟨_, SqL.of h3, rfl⟩, ?_⟩
        by_cases hzs : zs = []
        · subst hzs
          exact iteF (hD' _ _ ⟨[], n, rfl, s3, h3, hz⟩)
        · obtain ⟨ys, y, rfl⟩ : ∃ ys y, zs = ys ++ [y] := ⟨zs.dropLast, zs.getLast hzs, (List.dropLast_concat_getLast hzs).symm⟩
          have hne : (!((ys ++ [y]).map V.int).isEmpty) = true := by
            rw [List.map_append]
            cases ys <;> rfl
          rw [hne]
          refine iteT ?_
          have hat : atI ((ys ++ [y]).map V.int) (-1) = some (.int y) := by
            rw [List.map_append]
            exact atI_last _ _
          refine ⟨_, rfl, _, rfl, L, _, _, _, rfl, rfl, SqL.of h3, hat, rfl, _, rfl, ?_⟩
          refine ite2 (fun z => ?_) (fun z => ?_)
          · have z : y = 0 := V.int.inj (of_decide_eq_true z)
            subst z
            have hg : ((ys ++ [(0 : Int)]).map V.int)[((ys ++ [(0 : Int)]).map V.int).length - 1]? = some (.int 0) := by
              rw [List.length_map, List.length_append, List.map_append]
              show (ys.map V.int ++ [V.int 0])[ys.length + 1 - 1]? = _
              rw [List.getElem?_append_right (by rw [List.length_map]; omega), List.length_map, show ys.length + 1 - 1 - ys.length = 0 by omega]
              rfl
            refine ⟨_, rfl, .inl ⟨rfl, _, SqL.of h3⟩, L, _, _, rfl, rfl, h3, hg, ?_⟩
            have ed : ((ys ++ [(0 : Int)]).map V.int).dropLast = ys.map V.int := by
              rw [List.map_append]
              exact List.dropLast_concat
            rw [ed]
            refine ⟨⟨ys, n + 1, rfl, same_up s3 hLn, upd_same, ?_⟩, ?_⟩
            · rw [← hz, List.append_assoc]
              rfl
            · rw [upd_same, show H3 L = _ from h3]
              show (ys.map V.int).length < ((ys ++ [(0 : Int)]).map V.int).length
              rw [List.length_map, List.length_map, List.length_append]
              show ys.length < ys.length + 1
              omega
          · exact hD' _ _ ⟨_, n, rfl, s3, h3, hz⟩
      · intro σ H1 Q Q' f h
        obtain ⟨x, e1, k, e2, hc⟩ := h
        refine ⟨x, e1, k, e2, ?_⟩
        revert hc
        cases k with
        | false => exact fun hc => f _ _ hc
        | true =>
          intro hc
          obtain ⟨y, e3, i, e4, p, xs, j, u, e5, e6, e7, e8, e9, b1, eb, hc⟩ := hc
          exact ⟨y, e3, i, e4, p, xs, j, u, e5, e6, e7, e8, e9, b1, eb, f _ _ hc⟩
    rintro σ H3 ⟨zs, n, rfl, s3, h3, hz⟩
    exact ⟨_, rfl, kq L H3 zs hLn s3 h3 ⟨n, B, hz, fx, f2, hA⟩⟩
end
end My

set_option pp.maxSteps 300
set_option Elab.async false
set_option linter.all false
set_option maxRecDepth 100000
set_option maxHeartbeats 1000000
namespace My
open PySem L2 MyR
theorem flat_sum (m b : Nat) (c : Nat → Nat → Int) : ∀ n, (flatC m b c n).length = smN n (wd m b)
  | 0 => rfl
  | n + 1 => by
    rw [flatC_succ, List.length_append, flat_sum m b c n, rowC_len]
    rfl
theorem vecs_one (b : Nat) : (vecs 1 b).length = W b := by
  rw [vecs_len]
  have : ∀ n, smN n (fun j => (vecs 0 (b - tw j)).length) = n := fun n => by
    induction n with
    | zero => rfl
    | succ n ih =>
      show smN n (fun j => (vecs 0 (b - tw j)).length) + 1 = n + 1
      rw [ih]
  exact this _
theorem entC_len {m b : Nat} {c : Nat → Nat → Int} (hm : m = 1 ∨ m = 2) : (entC m b c).length = (vecs m b).length := by
  unfold entC
  rw [flat_sum]
  rcases hm with rfl | rfl
  · rw [vecs_one]
    show 0 + wd 1 b 0 = W b
    rw [Nat.zero_add]
    rfl
  · rw [vecs_len]
    exact smN_congr fun j _ => by rw [vecs_one]; rfl
theorem ShF.same' {H H1 : Hp} {C sh dx tws ws iv L : Addr} {m b : Nat} {vs : List V} {o : HO} (h : ShF H C sh dx tws ws iv m b) (s : Same H H1) (hL : H L = some (.lst vs)) (nt : tws ≠ L) (nw : ws ≠ L) (ni : iv ≠ L) : ShF (upd H1 L o) C sh dx tws ws iv m b := by
  have g := h.same s
  refine ⟨?_, g.t.updN nt, g.w.updN nw, let ⟨xs, e, r⟩ := g.i; ⟨xs, e.updN ni, r⟩⟩
  rw [upd_ne (fun z => by have := h.o; rw [z, hL] at this; cases this)]
  exact g.o
theorem nat_sum : ∀ ds : List Nat, (ds.map fun (d : Nat) => (d : Int)).sum = (ds.sum : Int)
  | [] => rfl
  | d :: ds => by
    rw [List.map_cons, List.sum_cons, List.sum_cons, nat_sum ds]
    rfl
/-- the entries of all classes -/
def allE (m b : Nat) (cs : Nat → Nat → Nat → Int) (n : Nat) : List Int := (List.range n).flatMap fun g => entC m b (cs g)
theorem allE_succ (m b : Nat) (cs : Nat → Nat → Nat → Int) (n : Nat) : allE m b cs (n + 1) = allE m b cs n ++ entC m b (cs n) := by
  unfold allE
  rw [List.range_succ, List.flatMap_append]
  simp
theorem allE_len {m b : Nat} {cs : Nat → Nat → Nat → Int} (hm : m = 1 ∨ m = 2) : ∀ n, (allE m b cs n).length = n * (vecs m b).length
  | 0 => by rw [Nat.zero_mul]; rfl
  | n + 1 => by rw [allE_succ, List.length_append, allE_len hm n, entC_len hm, Nat.succ_mul]
theorem allE_split (m b : Nat) (cs : Nat → Nat → Nat → Int) (g : Nat) : ∀ n, g < n → ∃ t, allE m b cs n = allE m b cs g ++ (entC m b (cs g) ++ t)
  | 0, h => absurd h (Nat.not_lt_zero _)
  | n + 1, h => by
    by_cases e : g = n
    · subst e
      exact ⟨[], by rw [allE_succ, List.append_nil]⟩
    · obtain ⟨t, q⟩ := allE_split m b cs g n (by omega)
      exact ⟨t ++ entC m b (cs n), by rw [allE_succ, q, List.append_assoc, List.append_assoc]⟩
/-- the coefficients of all classes -/
def ClsAt (H : Hp) (L : Addr) (m b : Nat) (cs : Nat → Nat → Nat → Int) (n : Nat) : Prop := ∃ as : List Addr, H L = some (.lst (as.map V.ref)) ∧ as.length = n ∧ ∀ g, g < n → ∃ p rows, as[g]? = some p ∧ LLI H p rows ∧ CoRows m b (cs g) rows
theorem ClsAt.same {H H' : Hp} {L : Addr} {m b : Nat} {cs : Nat → Nat → Nat → Int} {n : Nat} (h : ClsAt H L m b cs n) (s : Same H H') : ClsAt H' L m b cs n := let ⟨as, e1, e2, e3⟩ := h; ⟨as, s _ _ e1, e2, fun g hg => let ⟨p, rows, q1, q2, q3⟩ := e3 g hg; ⟨p, rows, q1, q2.same s, q3⟩⟩
theorem LLI.updL {H : Hp} {L p : Addr} {rows : List (List Int)} {o : HO} (h : LLI H p rows) (np : p ≠ L) (hq : ∀ vs, H p = some (.lst vs) → ∀ q, V.ref q ∈ vs → q ≠ L) : LLI (upd H L o) p rows := by
  obtain ⟨as, e1, e2, e3⟩ := h
  refine ⟨as, by rw [upd_ne np]; exact e1, e2, fun i xs e => ?_⟩
  obtain ⟨q, q1, q2⟩ := e3 i xs e
  exact ⟨q, q1, q2.updN (hq _ e1 q (List.mem_map.mpr ⟨q, List.mem_of_getElem? q1, rfl⟩))⟩
/-- the same, while the list at L grows -/
def ClsL (H0 H : Hp) (L : Addr) (m b : Nat) (cs : Nat → Nat → Nat → Int) (n : Nat) : Prop := ∃ as : List Addr, H L = some (.lst (as.map V.ref)) ∧ as.length = n ∧ ∀ g, g < n → ∃ p rows, as[g]? = some p ∧ LLI H p rows ∧ CoRows m b (cs g) rows ∧ (p ≠ L ∧ H0 p = none) ∧ ∀ vs, H p = some (.lst vs) → ∀ q, V.ref q ∈ vs → q ≠ L ∧ H0 q = none
theorem ClsL.same {H0 H H' : Hp} {L : Addr} {m b : Nat} {cs : Nat → Nat → Nat → Int} {n : Nat} (h : ClsL H0 H L m b cs n) (s : Same H H') : ClsL H0 H' L m b cs n := by
  obtain ⟨as, e1, e2, e3⟩ := h
  refine ⟨as, s _ _ e1, e2, fun g hg => ?_⟩
  obtain ⟨p, rows, q1, q2, q3, q4, q5⟩ := e3 g hg
  refine ⟨p, rows, q1, q2.same s, q3, q4, fun vs hv => ?_⟩
  obtain ⟨bs, b1, _⟩ := id q2
  rw [s _ _ b1] at hv
  rw [← HO.lst.inj (Option.some.inj hv)]
  exact q5 _ b1
/-- the lists within are new against H0 -/
def FrL (H0 H : Hp) (L : Addr) : Prop := H0 L = none ∧ ∀ as, H L = some (.lst as) → ∀ p, V.ref p ∈ as → H0 p = none ∧ ∀ bs, H p = some (.lst bs) → ∀ q, V.ref q ∈ bs → H0 q = none
def spClasses : Sp := fun vs H Q _ => ∃ (lt et : Addr) (m b : Nat) (ds : List Nat) (cs : Nat → Nat → Nat → Int), vs = [.ref lt, .int (b : Int), .ref et] ∧ TupI H lt (ds.map fun (d : Nat) => (d : Int)) ∧ ds.length = m ∧ ds.sum ≤ 8 ∧ TupI H et (allE m b cs (2 ^ ds.sum)) ∧ 1 ≤ b ∧ b ≤ 64 ∧ (m = 1 ∨ m = 2) ∧ (vecs m b).length < 5000 ∧
  (∀ g, DivC m b (cs g)) ∧ ∀ (L : Addr) H', Same H H' → ClsAt H' L m b cs (2 ^ ds.sum) → FrL H H' L → Q (.ref L) H'
/-- the class Shape as its users know it -/
structure ShX (P : Program) (w : World) (K : PySem.W.Frag) (mg : Str → Option Value) (base : Heap) (C : Addr) where
  f : Addr
  fd : FuncData
  m : Mk K C f
  ok : FnOk P w K mg base CX0 3 f fd ["self", "inputs", "bits"] (spShape C)
  g : mg "Shape" = some (.ref C)
  b : Binds K fd ["self", "inputs", "bits"] []
  cl : Cls K C
section
variable {P : Program} {w : World} {K : PySem.W.Frag} {mg : Str → Option Value} {base : Heap}
abbrev s_Shape_coefficients : Stmt := inClass (top 26) 4
abbrev N_Shape_coefficients : List Str := ["self", "found", "down", "row"]
theorem sc_Shape_coefficients : FnScope N_Shape_coefficients ["self", "found"] (defScope s_Shape_coefficients) := ⟨rfl, rfl, rfl, by decide +kernel, rfl, by decide +kernel, by decide +kernel⟩
theorem ok_Shape_coefficients {f C : Addr} {fd : FuncData} (F : Fun K "coefficients" "Shape.coefficients" s_Shape_coefficients f fd) (T : Glob mg) (C0 : ShC K C) (MD : Mt P w K mg base C 1 "divided" ["self", "row", "down"] (spDivided C)) : FnOk P w K mg base CX0 2 f fd ["self", "found"] (spCoefs C) := by
  refine F.ok sc_Shape_coefficients (fun vs H Q E h => ?_) (fun cdv A outer s H vs Q E hr h => ?_)
  · obtain ⟨sh, v, m, b, c, rfl, _⟩ := h
    rfl
  · obtain ⟨sh, v, m, b, c, rfl, S0, hv, hb1, hb, hm, kq⟩ := h
    have nd := sc_Shape_coefficients.nd
    refine ⟨_, (pss_one (ps_ret (pe_lc (own := [("down", 2), ("row", 3)]) (g := gTup K 2 (gCons (gName 2) (gCons (gName 3) gNil))) (tt := tYes) rfl nd (pi_enum (by rfl) T.g_enumerate (pa_cons (pv 1) pa_nil)) (blkOk_by (N := N_Shape_coefficients) (sc := defScope s_Shape_coefficients) (by decide +kernel)) (fun _ _ _ _ _ => pg_tup (by rfl) (pgs_cons (pg_name (i := 2) nd rfl (Or.inl rfl)) (pgs_cons (pg_name (i := 3) nd rfl (Or.inl rfl)) pgs_nil))) (fun _ _ _ _ _ => pts_nil) (fun _ _ _ _ _ => (pe_meth (pv 0) C0.cl MD.m MD.ok (hr.mono (by decide)) MD.b .nil pass0 (pa_cons (pv 3) (pa_cons (pv 2) pa_nil))))))), ?_⟩
    obtain ⟨dx, tws, ws, iv, S⟩ := id S0
    have hnR := nR_le (m := m) hb
    obtain ⟨vs, e1, e2, e3⟩ := hv.lenV
    rw [List.length_map, List.length_range] at e2
    refine ⟨_, rfl, v, _, rfl, SqL.of e1, fun D hD => ?_⟩
    refine lc_it walk_enum (fun r H4 => Same H H4 ∧ ∃ rows, LLI H4 D rows ∧ rows.length = r ∧ (∀ i zs, rows[i]? = some zs → CoRow m b c i zs) ∧ ∀ vs, H4 D = some (.lst vs) → ∀ q, V.ref q ∈ vs → H q = none) ⟨new_same hD, [], ⟨[], upd_same, rfl, fun i xs e => by simp at e⟩, rfl, fun i zs e => by simp at e, fun vs hv q hq => by rw [upd_same] at hv; rw [← HO.lst.inj (Option.some.inj hv)] at hq; cases hq⟩ (fun r H4 _ h => SqL.of (h.1 _ _ e1)) ?_ ?_
    · rintro r x H4 H5 hr' ⟨s4, rows, h4, hrl, hrc, hfr⟩ ⟨T', x1, x2, rfl, hT, rfl, hx1, hx2⟩
      have hrR : r < nR m b := by omega
      obtain rfl := Option.some.inj hx1
      obtain ⟨p, p1, p2⟩ := e3 r _ (at_range (f := spr m b c) hrR)
      have hx2 : vs[r]? = some x2 := hx2
      rw [p1] at hx2
      obtain rfl := Option.some.inj hx2
      have s5' := new_same (o := .tup [V.int (r : Nat), .ref p]) hT
      have s5 := s4.trans s5'
      have h5 := h4.same s5'
      refine ⟨T', _, rfl, SqT.of upd_same, rfl, _, _, rfl, _, _, rfl, rfl, rfl, ?_⟩
      dsimp only [tYes]
      rw [if_pos rfl]
      generalize upd H4 T' (.tup [V.int (r : Nat), .ref p]) = H5 at s5 s5' h5 ⊢
      refine ⟨_, rfl, sh, dx, _, rfl, s5 _ _ S.o, rfl, _, rfl, _, rfl, sh, p, m, b, r, c, rfl, S0.same s5, p2.same s5, hrR, hb1, hb, hm, fun L H6 zs hL s6 hl hc => ?_⟩
      have hn : L ≠ D := fun z => by
        obtain ⟨as, q1, _⟩ := h5
        rw [z, q1] at hL
        cases hL
      obtain ⟨acc, a1, a2, a3⟩ := lli_app (h5.same s6) hl hn (by omega)
      refine ⟨acc, a1, a2, same_up (s5.trans s6) hD, rows ++ [zs], a3, by rw [List.length_append, hrl]; rfl, fun i ys e => ?_, fun vs hv q hq => ?_⟩
      by_cases hi : i < r
      · rw [List.getElem?_append_left (by omega)] at e
        exact hrc i ys e
      · have hi' := (List.getElem?_eq_some_iff.mp e).1
        rw [List.length_append] at hi'
        have hi' : i < rows.length + 1 := hi'
        have : i = r := by omega
        subst this
        rw [List.getElem?_append_right (by omega), hrl, Nat.sub_self] at e
        cases e
        exact hc
      · rw [upd_same] at hv
        rw [← HO.lst.inj (Option.some.inj hv)] at hq
        rcases List.mem_append.mp hq with hq | hq
        · obtain ⟨bs, b1, _⟩ := id h4
          have b6 := s6 _ _ (s5' _ _ b1)
          rw [b6] at a1
          rw [← HO.lst.inj (Option.some.inj a1)] at hq
          exact hfr _ b1 q hq
        · have : q = L := by
            have := List.mem_singleton.mp hq
            exact V.ref.inj this
          subst this
          exact same_free s5 hL
    · rintro H4 ⟨s4, rows, h4, hrl, hrc, hfr⟩
      rw [e2] at hrl
      exact kq D H4 rows hD s4 h4 ⟨hrl, hrc⟩ hfr
abbrev s_classes_of : Stmt := top 28
abbrev N_classes_of : List Str := ["loss", "bits", "entries", "shape", "size", "found", "number", "begin", "spread", "wrong"]
theorem sc_classes_of : FnScope N_classes_of ["loss", "bits", "entries"] (defScope s_classes_of) := ⟨rfl, rfl, rfl, by decide +kernel, rfl, by decide +kernel, by decide +kernel⟩
theorem ok_classes_of {f C : Addr} {fd : FuncData} (F : Fun K "classes_of" "classes_of" s_classes_of f fd) (T : Glob mg) (g_sum : mg "sum" = none) (SX : ShX P w K mg base C) (MS : Mt P w K mg base C 2 "spread" ["self", "values"] (spSpread C)) (MW : Mt P w K mg base C 1 "first_wrong" ["self", "found"] (spWrongG C)) (MC : Mt P w K mg base C 2 "coefficients" ["self", "found"] (spCoefs C))
    (D_count_vectors : Df P w K mg base 3 "count_vectors" ["count", "bits"] spCountV) : FnOk P w K mg base CX0 5 f fd ["loss", "bits", "entries"] spClasses := by
  refine F.ok sc_classes_of (fun vs H Q E h => ?_) (fun cdv A outer s H vs Q E hr h => ?_)
  · obtain ⟨lt, et, m, b, ds, cs, rfl, _⟩ := h
    rfl
  · obtain ⟨lt, et, m, b, ds, cs, rfl, hl, hdl, hds, he, hb1, hb, hm, hvl, hd, kq⟩ := h
    have nd := sc_classes_of.nd
    refine ⟨_, (pss_cons (ps_set (i := 3) nd rfl (Or.inl rfl) (pe_make SX.m SX.ok (hr.mono (by decide)) (by rfl) SX.g SX.b .nil pass0 (pa_cons (pe_callB call_len_seq (by rfl) T.g_len PySem.boot_len (pa_cons (pv 0) pa_nil)) (pa_cons (pv 1) pa_nil))))
    (pss_cons (ps_set (i := 4) nd rfl (Or.inl rfl) (pe_call D_count_vectors.ok (hr.mono (by decide)) (by rfl) D_count_vectors.g D_count_vectors.kp D_count_vectors.b .nil pass0 (pa_cons (pe_callB call_len_seq (by rfl) T.g_len PySem.boot_len (pa_cons (pv 0) pa_nil)) (pa_cons (pv 1) pa_nil))))
    (pss_cons (ps_set (i := 5) nd rfl (Or.inl rfl) (pe_lst pa_nil))
    (pss_cons (ps_for PassesOwn.never rfl (pi_range1 (by rfl) T.g_range (pa_cons (pe_op op_shl pe_int (pe_callB (cr_sumK (K := K) rfl rfl) (by rfl) g_sum (by decide +kernel) (pa_cons (pv 0) pa_nil))) pa_nil)) (pg_name (i := 6) nd rfl (Or.inl rfl))
    (pss_cons (ps_set (i := 7) nd rfl (Or.inl rfl) (pe_op op_mul (pv 6) (pv 4)))
    (pss_cons (ps_set (i := 8) nd rfl (Or.inl rfl) (pe_meth (pv 3) SX.cl MS.m MS.ok (hr.mono (by decide)) MS.b .nil pass0 (pa_cons (pe_slice sl_tupA (pv 2) (po_some (pv 7)) (po_some (pe_op op_add (pv 7) (pv 4)))) pa_nil)))
    (pss_cons (ps_set (i := 9) nd rfl (Or.inl rfl) (pe_meth (pv 3) SX.cl MW.m MW.ok (hr.mono (by decide)) MW.b .nil pass0 (pa_cons (pv 8) pa_nil)))
    (pss_cons (ps_if (pt_cmpR op_notN (pv 9) pe_non (nomark _))
    (pss_one ps_never)
    pss_nil)
    (pss_one (ps_expr (pe_bm PySem.F.plainAttrs_list PySem.F.slot_list_append PySem.F.type_list_append mt_append (pv 5) (pa_cons (pe_meth (pv 3) SX.cl MC.m MC.ok (hr.mono (by decide)) MC.b .nil pass0 (pa_cons (pv 8) pa_nil)) pa_nil)))))))))
    (pss_one (ps_ret (pv 5))))))), ?_⟩
    have zl : 1000000 ≤ sizeLine := by rw [sizeLine_eq]; omega
    have hdl2 : ((ds.map fun (d : Nat) => (d : Int)).map V.int).length = m := by rw [List.length_map, List.length_map, hdl]
    have hm2 : m ≤ 2 := by omega
    refine seq_by (fun σ H1 => ∃ sh : Addr, σ = [some (.ref lt), some (.int (b : Int)), some (.ref et), some (.ref sh), none, none, none, none, none, none] ∧ Same H H1 ∧ ShapeAt C H1 sh m b) (fun D' hD' => ?_) ?_
    · refine ⟨_, rfl, lt, _, rfl, .inr (SqT.of hl), _, rfl, fun x dx hx hdx nx => ?_⟩
      have s0 : Same H (upd (upd H dx (.own x)) x (.ins C dx [])) := fun a o e => by rw [upd_ne (ne_of_none e hx), upd_ne (ne_of_none e hdx)]; exact e
      refine ⟨x, dx, m, b, ?_, upd_same, hb1, hb, hm, fun H' hs keep => ⟨rfl, hD' _ _ ⟨x, rfl, fun a o e => keep a o (s0 a o e) (ne_of_none e hx), hs⟩⟩⟩
      rw [hdl2]
      rfl
    rintro σ H1 ⟨sh, rfl, s1, hS1⟩
    refine seq_by (fun σ H2 => σ = [some (.ref lt), some (.int (b : Int)), some (.ref et), some (.ref sh), some (.int ((vecs m b).length : Int)), none, none, none, none, none] ∧ Same H H2 ∧ ShapeAt C H2 sh m b) (fun D' hD' => ?_) ?_
    · refine ⟨_, rfl, lt, _, rfl, .inr (SqT.of (hl.same s1)), _, rfl, m, b, ?_, by omega, hb1, hb, fun H2 s2 => hD' _ _ ⟨rfl, s1.trans s2, hS1.same s2⟩⟩
      rw [hdl2]
      rfl
    clear s1 hS1
    rintro σ H2 ⟨rfl, s2, dx, tws, ws, iv, S2⟩
    refine seq_by (fun σ H3 => ∃ L : Addr, σ = [some (.ref lt), some (.int (b : Int)), some (.ref et), some (.ref sh), some (.int ((vecs m b).length : Int)), some (.ref L), none, none, none, none] ∧ Same H H3 ∧ ShF H3 C sh dx tws ws iv m b ∧ ClsL H H3 L m b cs 0 ∧ H L = none ∧ tws ≠ L ∧ ws ≠ L ∧ iv ≠ L) (fun D' hD' => ?_) ?_
    · exact ⟨(by show 0 ≤ sizeLine; omega), fun L hL => hD' _ _ ⟨L, rfl, s2.trans (new_same hL), S2.same (new_same hL), ⟨[], upd_same, rfl, fun g hg => absurd hg (Nat.not_lt_zero _)⟩, same_free s2 hL, ne_of_none S2.t hL, ne_of_none S2.w hL, by obtain ⟨xs, e, _⟩ := S2.i; exact ne_of_none e hL⟩⟩
    clear s2 S2
    rintro σ H3 ⟨L, rfl, s3, hS3, hc3, hLn, n1, n2, n3⟩
    obtain ⟨N, hNN⟩ : ∃ N : Nat, N = 2 ^ ds.sum := ⟨_, rfl⟩
    rw [← hNN] at he kq
    have hsum := nat_sum ds
    have hN : N ≤ 256 := by rw [hNN]; exact Nat.pow_le_pow_right (n := 2) (by decide) hds
    have hNi : (1 : Int) * 2 ^ (ds.sum : Int).toNat = (N : Int) := by
      rw [hNN, Int.toNat_natCast, Int.one_mul, Int.natCast_pow]
      rfl
    refine ⟨_, rfl, true, lt, _, rfl, sqK_t (SqT.of (hl.same s3)), ?_⟩
    rw [hsum]
    refine ⟨_, _, rfl, rfl, ⟨by omega, by omega, by decide⟩, (N : Int), by show [V.int _] = [V.int _]; rw [hNi], by omega, by omega, ?_⟩
    rw [Int.toNat_natCast]
    refine for_range (lo := 0) (n := N) (fun g σ H4 => ∃ a6 a7 a8 a9 : Option V, σ = [some (.ref lt), some (.int (b : Int)), some (.ref et), some (.ref sh), some (.int ((vecs m b).length : Int)), some (.ref L), a6, a7, a8, a9] ∧ Same H H4 ∧ ShF H4 C sh dx tws ws iv m b ∧ ClsL H H4 L m b cs g)
      ⟨none, none, none, none, rfl, s3, hS3, hc3⟩ ?_ ?_
    · clear s3 hS3 hc3
      rintro g σ H4 hg ⟨a6, a7, a8, a9, rfl, s4, hS4, hcl⟩
      obtain ⟨as, c1, c2, c3⟩ := id hcl
      have h0g : (0 : Int) + (g : Int) = (g : Int) := by omega
      have hgl := allE_len (cs := cs) hm (b := b) g
      refine seq_by (fun σ H5 => H5 = H4 ∧ σ = [some (.ref lt), some (.int (b : Int)), some (.ref et), some (.ref sh), some (.int ((vecs m b).length : Int)), some (.ref L), some (.int (g : Int)), some (.int ((allE m b cs g).length : Int)), a8, a9]) (fun D' hD' => ?_) ?_
      · refine ⟨_, rfl, _, rfl, _, _, rfl, rfl, .inr ⟨by omega, by omega⟩, hD' _ _ ⟨rfl, ?_⟩⟩
        rw [hgl, h0g]
        rfl
      rintro σ H5 ⟨rfl, rfl⟩
      obtain ⟨t, ht⟩ := allE_split m b cs g _ hg
      have he5 := he.same s4
      have hsl : cutV ((allE m b cs N).map V.int) (some ((allE m b cs g).length : Int)) (some (((allE m b cs g).length : Int) + ((vecs m b).length : Int))) = (entC m b (cs g)).map V.int := by
        rw [ht, List.map_append, List.map_append]
        have := cut_mid ((allE m b cs g).map V.int) ((entC m b (cs g)).map V.int) (t.map V.int)
        rw [List.length_map, List.length_map, entC_len hm] at this
        exact this
      refine seq_by (fun σ H6 => ∃ sp : Addr, σ = [some (.ref lt), some (.int (b : Int)), some (.ref et), some (.ref sh), some (.int ((vecs m b).length : Int)), some (.ref L), some (.int (g : Int)), some (.int ((allE m b cs g).length : Int)), some (.ref sp), a9] ∧ Same H5 H6 ∧ LLI H6 sp ((List.range (nR m b)).map (spr m b (cs g)))) (fun D' hD' => ?_) ?_
      · have S := hS4
        have go : ∀ (v : Addr) (H6 : Hp), Same H5 H6 → TupI H6 v (entC m b (cs g)) → spSpread C [.ref sh, .ref v] H6 (fun x H7 => D'.nx [some (.ref lt), some (.int (b : Int)), some (.ref et), some (.ref sh), some (.int ((vecs m b).length : Int)), some (.ref L), some (.int (g : Int)), some (.int ((allE m b cs g).length : Int)), some x, a9] H7) E0 := fun v H6 s6 hv => ⟨sh, v, m, b, cs g, rfl, ⟨dx, tws, ws, iv, hS4.same s6⟩, hv, hb1, hb, fun L2 H7 hL2 s7 hl7 => hD' _ _ ⟨L2, rfl, s6.trans s7, hl7⟩⟩
        refine ⟨_, rfl, sh, dx, _, rfl, S.o, rfl, _, rfl, _, rfl, _, rfl, _, rfl, _, rfl, _, _, rfl, rfl, _, rfl, et, _, rfl, SqT.of he5, fun hw => ?_, fun hw p hp => ?_⟩
        · refine go et H5 (fun _ _ e => e) ?_
          show H5 et = _
          rw [← hsl, show H5 et = _ from he5]
          congr 2
          have hw1 := hw.1
          have hw2 := hw.2
          unfold cutV
          rw [hw1, hw2, List.drop_zero, Nat.sub_zero, List.take_length]
        · rw [hsl]
          exact go p _ (new_same hp) upd_same
      rintro σ H6 ⟨sp, rfl, s6, hsp⟩
      refine seq_by (fun σ H7 => σ = [some (.ref lt), some (.int (b : Int)), some (.ref et), some (.ref sh), some (.int ((vecs m b).length : Int)), some (.ref L), some (.int (g : Int)), some (.int ((allE m b cs g).length : Int)), some (.ref sp), some .non] ∧ Same H5 H7 ∧ LLI H7 sp ((List.range (nR m b)).map (spr m b (cs g)))) (fun D' hD' => ?_) ?_
      · have S := hS4.same s6
        exact ⟨_, rfl, sh, dx, _, rfl, S.o, rfl, _, rfl, sh, sp, m, b, cs g, rfl, ⟨dx, tws, ws, iv, S⟩, hsp, hb1, hb, hm, hd g, fun H7 s7 => hD' _ _ ⟨rfl, s6.trans s7, hsp.same s7⟩⟩
      clear s6 hsp
      rintro σ H7 ⟨rfl, s7, hsp⟩
      refine ⟨_, rfl, rfl, _, rfl, iteF ?_⟩
      have S := hS4.same s7
      refine ⟨_, rfl, .inl ⟨rfl, _, SqL.of (s7 _ _ c1)⟩, _, rfl, sh, dx, _, rfl, S.o, rfl, _, rfl, sh, sp, m, b, cs g, rfl, ⟨dx, tws, ws, iv, S⟩, hsp, hb1, hb, hm, fun R H8 rows hR s8 hl8 hc8 hfr => ?_⟩
      have s78 := s7.trans s8
      have hL8 := s78 _ _ c1
      refine ⟨L, _, _, rfl, rfl, hL8, by rw [List.length_map, c2]; omega, ?_⟩
      have nRL : R ≠ L := fun z => by
        rw [z, s7 _ _ c1] at hR
        cases hR
      have hcl8 := hcl.same s78
      obtain ⟨as', d1, d2, d3⟩ := hcl8
      have eas : as'.map V.ref = as.map V.ref := by
        rw [hL8] at d1
        exact (HO.lst.inj (Option.some.inj d1)).symm
      refine ⟨_, _, _, _, rfl, same_up (s4.trans s78) hLn, S.same' s8 (o := .lst (as.map V.ref ++ [.ref R])) (s7 _ _ c1) n1 n2 n3, as' ++ [R], ?_, by rw [List.length_append, d2]; rfl, fun i hi => ?_⟩
      · rw [upd_same, List.map_append, eas]
        rfl
      · by_cases e : i < g
        · obtain ⟨p, rows, q1, q2, q3, q4, q5⟩ := d3 i e
          refine ⟨p, rows, by rw [List.getElem?_append_left (by omega)]; exact q1, q2.updL q4.1 (fun vs hv q hq => (q5 vs hv q hq).1), q3, q4, fun vs hv => ?_⟩
          rw [upd_ne q4.1] at hv
          exact q5 vs hv
        · have : i = g := by omega
          subst this
          have q5 : ∀ vs, H8 R = some (.lst vs) → ∀ q, V.ref q ∈ vs → q ≠ L ∧ H q = none := fun vs hv q hq => ⟨fun z => (by
            have := hfr vs hv q hq
            rw [z, s7 _ _ c1] at this
            cases this), same_free (s4.trans s7) (hfr vs hv q hq)⟩
          refine ⟨R, rows, by rw [List.getElem?_append_right (by omega), d2, Nat.sub_self]; rfl, hl8.updL nRL (fun vs hv q hq => (q5 vs hv q hq).1), hc8, ⟨nRL, same_free (s4.trans s7) hR⟩, fun vs hv => ?_⟩
          rw [upd_ne nRL] at hv
          exact q5 vs hv
    · rintro σ H4 ⟨a6, a7, a8, a9, rfl, s4, hS4, hc4⟩
      obtain ⟨as, e1, e2, e3⟩ := hc4
      refine ⟨_, rfl, kq L H4 s4 ⟨as, e1, e2, fun g hg => let ⟨p, rows, q1, q2, q3, _⟩ := e3 g hg; ⟨p, rows, q1, q2, q3⟩⟩ ⟨hLn, fun bs hbs p hp => ?_⟩⟩
      rw [e1] at hbs
      rw [← HO.lst.inj (Option.some.inj hbs)] at hp
      obtain ⟨p', hp', e⟩ := List.mem_map.mp hp
      obtain rfl := V.ref.inj e
      obtain ⟨g, hg⟩ := List.mem_iff_getElem?.mp hp'
      obtain ⟨p2, rows, w1, w2, w3, w4, w5⟩ := e3 g (by have := (List.getElem?_eq_some_iff.mp hg).1; omega)
      rw [hg] at w1
      obtain rfl := Option.some.inj w1
      exact ⟨w4.2, fun bs hb q hq => (w5 bs hb q hq).2⟩
end
end My

set_option Elab.async false
set_option linter.all false
set_option maxRecDepth 100000
set_option maxHeartbeats 1000000
namespace My
open PySem L2 MyR
/-! ### what a table tells is the sum over binomials -/
theorem smI_mul (t : Int) : ∀ (n : Nat) (f : Nat → Int), smI n f * t = smI n fun k => f k * t
  | 0, _ => Int.zero_mul t
  | n + 1, f => by
    show (smI n f + f n) * t = smI n (fun k => f k * t) + f n * t
    rw [Int.add_mul, smI_mul t n f]
/-- one row at a point -/
theorem row_val {m b r : Nat} {c : Nat → Nat → Int} {zs : List Int} {z1 z2 : Int} (hm : m = 1 ∨ m = 2) (hb1 : 1 ≤ b) (hb : b ≤ 64) (hr : r < nR m b) (hd : DivC m b c) (h : CoRow m b c r zs) :
    (flo (2 ^ b) (z2 % 2 ^ b) 0 zs * fall (z1 % 2 ^ b) r) % 2 ^ b = (smI (wd m b r) fun q => c r q * (bn z2 q * bn z1 r)) % 2 ^ b := by
  obtain ⟨n, A, e, x, hx, hA⟩ := h
  have hW := W_66 hb
  have hrW := r_lt hb1 hr
  rw [flo_zero, em_mul (b' := fall z1 r) em_self (fall_mod em_self r), ← flS_zeros zs n 0, e, flS_map, smI_mul]
  refine smI_mod fun q hq => ?_
  obtain ⟨y, hy, hAq⟩ := hA q hq
  have hqW := q_lt hq
  rw [Int.mul_assoc, em_mul rfl (em_mul (fall_mod (M := 2 ^ b) (z' := z2) em_self q) rfl), hAq]
  exact coef_bn (by omega) (by omega) (Nat.le_of_lt (sum_lt hm hr hq)) hx hy (hd r q hr hq)
/-- the value at a place -/
def val1 (b : Nat) (c : Nat → Nat → Int) (z : Int) : Int := (smI (W b) fun q => c 0 q * bn z q) % 2 ^ b
def val2 (b : Nat) (c : Nat → Nat → Int) (z1 z2 : Int) : Int := (smI (W b) fun p => smI (W (b - tw p)) fun q => c p q * (bn z2 q * bn z1 p)) % 2 ^ b
theorem eval1 {b : Nat} {c : Nat → Nat → Int} {zs : List Int} {z : Int} (hb1 : 1 ≤ b) (hb : b ≤ 64) (hd : DivC 1 b c) (h : CoRow 1 b c 0 zs) : flo (2 ^ b) (z % 2 ^ b) 0 zs = val1 b c z := by
  have q := row_val (z1 := 0) (z2 := z) (.inl rfl) hb1 hb (show 0 < 1 by decide) hd h
  rw [show fall (0 % 2 ^ b) 0 = 1 from rfl, Int.mul_one, flo_lo] at q
  rw [q]
  unfold val1
  have e : wd 1 b 0 = W b := rfl
  rw [e]
  congr 1
  refine smI_congr fun q _ => ?_
  rw [show bn 0 0 = 1 from rfl, Int.mul_one]
theorem map_getD {α : Type} (f : List Int → α) : ∀ rows : List (List Int), rows.map f = (List.range rows.length).map fun p => f (rows.getD p []) := fun rows => by
  refine List.ext_getElem? fun i => ?_
  rw [List.getElem?_map, List.getElem?_map]
  by_cases h : i < rows.length
  · rw [List.getElem?_range h, List.getElem?_eq_getElem h]
    show some (f rows[i]) = some (f (rows.getD i []))
    rw [List.getD_eq_getElem?_getD, List.getElem?_eq_getElem h]
    rfl
  · rw [List.getElem?_eq_none (by omega), List.getElem?_eq_none (by rw [List.length_range]; omega)]
    rfl
theorem eval2 {b : Nat} {c : Nat → Nat → Int} {rows : List (List Int)} {z1 z2 : Int} (hb1 : 1 ≤ b) (hb : b ≤ 64) (hd : DivC 2 b c) (h : CoRows 2 b c rows) : flo (2 ^ b) (z1 % 2 ^ b) 0 (rows.map (flo (2 ^ b) (z2 % 2 ^ b) 0)) = val2 b c z1 z2 := by
  obtain ⟨hl, hc⟩ := h
  have hl : rows.length = W b := hl
  rw [flo_zero, map_getD, hl, flS_map]
  unfold val2
  refine smI_mod fun p hp => ?_
  have hp' : rows[p]? = some rows[p] := List.getElem?_eq_getElem (by omega)
  rw [List.getD_eq_getElem?_getD, hp']
  have q := row_val (z1 := z1) (z2 := z2) (.inr rfl) hb1 hb (show p < nR 2 b from hp) hd (hc p _ hp')
  have e : wd 2 b p = W (b - tw p) := rfl
  rw [e] at q
  exact q
end My

set_option pp.maxSteps 300
set_option Elab.async false
set_option linter.all false
set_option maxRecDepth 100000
set_option maxHeartbeats 1000000
namespace My
open PySem L2 MyR
def dI (ds : List Nat) : List Int := ds.map fun (d : Nat) => (d : Int)
/-- a table of m inputs (one for each depth in ds), b bits, its classes' Newton coefficients cs -/
structure TbAt (C : Addr) (H : Hp) (t : Addr) (ds : List Nat) (b : Nat) (cs : Nat → Nat → Nat → Int) (dx lt et ct : Addr) : Prop where
  o : H t = some (.ins C dx [("loss", .ref lt), ("bits", .int (b : Int)), ("entries", .ref et), ("inputs", .int (ds.length : Int)), ("most", .int (b : Int)), ("classes", .ref ct)])
  l : TupI H lt (dI ds)
  e : TupI H et (allE ds.length b cs (2 ^ ds.sum))
  c : ClsAt H ct ds.length b cs (2 ^ ds.sum)
theorem TbAt.same {C t dx lt et ct : Addr} {H H' : Hp} {ds : List Nat} {b : Nat} {cs : Nat → Nat → Nat → Int} (h : TbAt C H t ds b cs dx lt et ct) (s : Same H H') : TbAt C H' t ds b cs dx lt et ct := ⟨s _ _ h.o, h.l.same s, h.e.same s, h.c.same s⟩
/-- what may be a table -/
structure TbOk (ds : List Nat) (b : Nat) (cs : Nat → Nat → Nat → Int) : Prop where
  m : ds.length = 1 ∨ ds.length = 2
  s : ds.sum ≤ 8
  b1 : 1 ≤ b
  b64 : b ≤ 64
  v : (vecs ds.length b).length < 5000
  d : ∀ g, DivC ds.length b (cs g)
def spCountQ : Sp := fun vs H Q _ => ∃ (a : Addr) (ds : List Nat) (b : Nat), vs = [.ref a, .int (b : Int)] ∧ TupI H a (dI ds) ∧ ds.length ≤ 8 ∧ ds.sum ≤ 1000 ∧ 1 ≤ b ∧ b ≤ 64 ∧ (vecs ds.length b).length < 5000 ∧
  ∀ H', Same H H' → Q (.int ((vecs ds.length b).length * 2 ^ ds.sum)) H'
def spTable (C : Addr) : Sp := fun vs H Q _ => ∃ (p dx lt e : Addr) (ds : List Nat) (b : Nat) (cs : Nat → Nat → Nat → Int), vs = [.ref p, .ref lt, .int (b : Int), .ref e] ∧ H p = some (.ins C dx []) ∧ TupI H lt (dI ds) ∧ LI H e (allE ds.length b cs (2 ^ ds.sum)) ∧ TbOk ds b cs ∧
  ∀ et ct H', TbAt C H' p ds b cs dx lt et ct → SameP p H H' → FrL H H' ct → Q .non H'
structure TbC (K : PySem.W.Frag) (C : Addr) : Prop where
  cl : Cls K C
  n1 : NoAttr K C "loss"
  n2 : NoAttr K C "bits"
  n3 : NoAttr K C "entries"
  n4 : NoAttr K C "inputs"
  n5 : NoAttr K C "most"
  n6 : NoAttr K C "classes"
theorem allE_mod {m b : Nat} {cs : Nat → Nat → Nat → Int} {n : Nat} {x : Int} (h : x ∈ allE m b cs n) : x % 2 ^ b = x := by
  unfold allE entC flatC rowC at h
  obtain ⟨g, _, h⟩ := List.mem_flatMap.mp h
  obtain ⟨r, _, h⟩ := List.mem_flatMap.mp h
  obtain ⟨j, _, rfl⟩ := List.mem_map.mp h
  exact em_self
theorem TupI.sp {H H' : Hp} {a p : Addr} {xs : List Int} (h : TupI H a xs) (s : SameP p H H') (n : a ≠ p) : TupI H' a xs := s _ _ h n
section
variable {P : Program} {w : World} {K : PySem.W.Frag} {mg : Str → Option Value} {base : Heap}
abbrev s_count_points : Stmt := top 16
abbrev N_count_points : List Str := ["loss", "bits"]
theorem sc_count_points : FnScope N_count_points ["loss", "bits"] (defScope s_count_points) := ⟨rfl, rfl, rfl, by decide +kernel, rfl, by decide +kernel, by decide +kernel⟩
theorem ok_count_points {f : Addr} {fd : FuncData} (F : Fun K "count_points" "count_points" s_count_points f fd) (T : Glob mg) (g_sum : mg "sum" = none) (D_count_vectors : Df P w K mg base 3 "count_vectors" ["count", "bits"] spCountV) : FnOk P w K mg base CX0 4 f fd ["loss", "bits"] spCountQ := by
  refine F.ok sc_count_points (fun vs H Q E h => ?_) (fun cdv A outer s H vs Q E hr h => ?_)
  · obtain ⟨a, ds, b, rfl, _⟩ := h
    rfl
  · obtain ⟨a, ds, b, rfl, ha, hl, hs, hb1, hb, hv, kq⟩ := h
    have nd := sc_count_points.nd
    refine ⟨_, (pss_one (ps_ret (pe_op op_shl (pe_call D_count_vectors.ok (hr.mono (by decide)) (by rfl) D_count_vectors.g D_count_vectors.kp D_count_vectors.b .nil pass0 (pa_cons (pe_callB call_len_seq (by rfl) T.g_len PySem.boot_len (pa_cons (pv 0) pa_nil)) (pa_cons (pv 1) pa_nil))) (pe_callB (cr_sumK (K := K) rfl rfl) (by rfl) g_sum (by decide +kernel) (pa_cons (pv 0) pa_nil))))), ?_⟩
    refine ⟨_, rfl, a, _, rfl, .inr (SqT.of ha), _, rfl, ds.length, b, ?_, hl, hb1, hb, fun H1 s1 => ?_⟩
    · unfold dI
      rw [List.length_map, List.length_map]
      rfl
    refine ⟨_, rfl, true, a, _, rfl, sqK_t (SqT.of (ha.same s1)), ?_⟩
    rw [show (dI ds).sum = (ds.sum : Int) from nat_sum ds]
    exact ⟨_, _, rfl, rfl, ⟨by omega, by omega, by omega⟩, kq H1 s1⟩
abbrev s_Table_init : Stmt := inClass (top 29) 0
abbrev N_Table_init : List Str := ["self", "loss", "bits", "entries", "entry"]
theorem sc_Table_init : FnScope N_Table_init ["self", "loss", "bits", "entries"] (defScope s_Table_init) := ⟨rfl, rfl, rfl, by decide +kernel, rfl, by decide +kernel, by decide +kernel⟩
theorem ok_Table_init {f C : Addr} {fd : FuncData} (F : Fun K "__init__" "Table.__init__" s_Table_init f fd) (T : Glob mg) (C0 : TbC K C) (D_count_points : Df P w K mg base 4 "count_points" ["loss", "bits"] spCountQ) (D_classes_of : Df P w K mg base 5 "classes_of" ["loss", "bits", "entries"] spClasses) : FnOk P w K mg base CX0 6 f fd ["self", "loss", "bits", "entries"] (spTable C) := by
  refine F.ok sc_Table_init (fun vs H Q E h => ?_) (fun cdv A outer s H vs Q E hr h => ?_)
  · obtain ⟨p, dx, lt, e, ds, b, cs, rfl, _⟩ := h
    rfl
  · obtain ⟨p, dx, lt, e, ds, b, cs, rfl, hp, hl, he, ok, kq⟩ := h
    have nd := sc_Table_init.nd
    refine ⟨_, (pss_cons (ps_if (pt_cmpR op_ne (pe_callB call_len_seq (by rfl) T.g_len PySem.boot_len (pa_cons (pv 3) pa_nil)) (pe_call D_count_points.ok (hr.mono (by decide)) (by rfl) D_count_points.g D_count_points.kp D_count_points.b .nil pass0 (pa_cons (pv 1) (pa_cons (pv 2) pa_nil))) (nomark _))
    (pss_one ps_never)
    pss_nil)
    (pss_cons (ps_fld (pv 0) (pe_callTy call_tuple_of (by rfl) T.g_tuple (by decide +kernel) (pa_cons (pv 1) pa_nil)) rfl)
    (pss_cons (ps_fld (pv 0) (pv 2) rfl)
    (pss_cons (ps_fld (pv 0) (pe_callTy call_tuple_of (by rfl) T.g_tuple (by decide +kernel) (pa_cons (pe_lc (own := [("entry", 4)]) (g := gName 4) (tt := tYes) rfl nd (pi_list (pv 3)) (blkOk_by (N := N_Table_init) (sc := defScope s_Table_init) (by decide +kernel)) (fun _ _ _ _ _ => pg_name (i := 4) nd rfl (Or.inl rfl)) (fun _ _ _ _ _ => pts_nil) (fun _ _ _ _ _ => (pe_op op_andM (pv 4) (pe_op op_sub (pe_op op_shl pe_int (pv 2)) pe_int)))) pa_nil)) rfl)
    (pss_cons (ps_fld (pv 0) (pe_callB call_len_seq (by rfl) T.g_len PySem.boot_len (pa_cons (pe_fld (pv 0) rfl) pa_nil)) rfl)
    (pss_cons (ps_fld (pv 0) (pv 2) rfl)
    (pss_one (ps_fld (pv 0) (pe_call D_classes_of.ok (hr.mono (by decide)) (by rfl) D_classes_of.g D_classes_of.kp D_classes_of.b .nil pass0 (pa_cons (pe_fld (pv 0) rfl) (pa_cons (pv 2) (pa_cons (pe_fld (pv 0) rfl) pa_nil)))) rfl)))))))), ?_⟩
    have zl : 16777216 = sizeLine := sizeLine_eq.symm
    have hm := ok.m
    have hb1 := ok.b1
    have hb := ok.b64
    have hv := ok.v
    have hpow : (2 : Nat) ^ ds.sum ≤ 256 := Nat.pow_le_pow_right (n := 2) (by decide) ok.s
    have hel : (allE ds.length b cs (2 ^ ds.sum)).length = 2 ^ ds.sum * (vecs ds.length b).length := allE_len hm _
    have hmul : 2 ^ ds.sum * (vecs ds.length b).length ≤ 256 * 5000 := Nat.mul_le_mul hpow (Nat.le_of_lt hv)
    have n_lp : lt ≠ p := fun z => by
      have hl : H lt = _ := hl
      rw [z, hp] at hl
      cases hl
    have n_ep : e ≠ p := fun z => by
      have he : H e = _ := he
      rw [z, hp] at he
      cases he
    refine seq_by (fun σ H1 => σ = [some (.ref p), some (.ref lt), some (.int (b : Int)), some (.ref e), none] ∧ Same H H1) (fun D' hD' => ?_) ?_
    · refine ⟨_, rfl, e, _, rfl, .inl (SqL.of he), _, rfl, _, rfl, lt, ds, b, rfl, hl, by omega, by have := ok.s; omega, hb1, hb, hv, fun H1 s1 => ?_⟩
      refine ⟨rfl, _, rfl, iteNS ?_ (hD' _ _ ⟨rfl, s1⟩)⟩
      congr 1
      rw [List.length_map, hel, Int.natCast_mul, Int.mul_comm, Int.natCast_pow]
      rfl
    rintro σ H1 ⟨rfl, s1⟩
    refine seq_by (fun σ H2 => σ = [some (.ref p), some (.ref lt), some (.int (b : Int)), some (.ref e), none] ∧ H2 p = some (.ins C dx [("loss", .ref lt)]) ∧ SameP p H H2) (fun D' hD' => ?_) ?_
    · exact ⟨_, rfl, lt, _, rfl, .inr ⟨SqT.of (hl.same s1), _, rfl, p, C, dx, _, rfl, s1 _ _ hp, C0.cl, C0.n1, (by show 0 < 1000; decide), hD' _ _ ⟨rfl, upd_same, (SameP.of s1).up⟩⟩⟩
    clear s1
    rintro σ H2 ⟨rfl, h2, s2⟩
    refine seq_by (fun σ H3 => σ = [some (.ref p), some (.ref lt), some (.int (b : Int)), some (.ref e), none] ∧ H3 p = some (.ins C dx [("loss", .ref lt), ("bits", .int (b : Int))]) ∧ SameP p H H3) (fun D' hD' => ?_) ?_
    · exact ⟨_, rfl, _, rfl, p, C, dx, _, rfl, h2, C0.cl, C0.n2, (by show 1 < 1000; decide), hD' _ _ ⟨rfl, upd_same, s2.up⟩⟩
    clear h2 s2
    rintro σ H3 ⟨rfl, h3, s3⟩
    refine seq_by (fun σ H4 => ∃ et : Addr, σ = [some (.ref p), some (.ref lt), some (.int (b : Int)), some (.ref e), none] ∧ H4 p = some (.ins C dx [("loss", .ref lt), ("bits", .int (b : Int)), ("entries", .ref et)]) ∧ SameP p H H4 ∧ TupI H4 et (allE ds.length b cs (2 ^ ds.sum)) ∧ et ≠ p) (fun D' hD' => ?_) ?_
    · have he3 : LI H3 e _ := he.sp s3 n_ep
      refine ⟨_, rfl, e, rfl, ⟨_, SqL.of he3⟩, fun D hD => ?_⟩
      refine lc_list (xs := (allE ds.length b cs (2 ^ ds.sum)).map V.int) (fun i H4 => Same H3 H4 ∧ LI H4 D ((allE ds.length b cs (2 ^ ds.sum)).take i)) ⟨new_same hD, upd_same⟩ (fun i H4 _ h => SqL.of (he3.same h.1)) ?_ ?_
      · rintro i x H4 hx ⟨s4, h4⟩
        have hi : i < (allE ds.length b cs (2 ^ ds.sum)).length := by
          have := (List.getElem?_eq_some_iff.mp hx).1
          rw [List.length_map] at this
          exact this
        have hai := List.getElem?_eq_getElem hi
        rw [map_at_int hai] at hx
        obtain rfl := Option.some.inj hx
        refine ⟨rfl, ?_⟩
        dsimp only [tYes]
        rw [if_pos rfl]
        refine ⟨_, rfl, _, rfl, _, _, rfl, rfl, ⟨by omega, by omega, by decide⟩, _, _, rfl, rfl, _, b, rfl, ?_, ?_⟩
        · rw [Int.toNat_natCast, Int.one_mul]
        rw [allE_mod (List.getElem_mem hi)]
        refine ⟨_, h4, by rw [List.length_map, List.length_take]; omega, same_up s4 hD, ?_⟩
        rw [List.take_succ, hai]
        exact li_snoc
      · rintro H4 ⟨s4, h4⟩
        rw [List.length_map, List.take_length] at h4
        refine ⟨D, _, rfl, .inl ⟨SqL.of h4, fun t ht => ?_⟩⟩
        have n_tp : t ≠ p := fun z => by
          rw [z, s4 _ _ h3] at ht
          cases ht
        have s5 := s4.trans (new_same (o := .tup ((allE ds.length b cs (2 ^ ds.sum)).map V.int)) ht)
        exact ⟨_, rfl, p, C, dx, _, rfl, s5 _ _ h3, C0.cl, C0.n3, (by show 2 < 1000; decide), hD' _ _ ⟨t, rfl, upd_same, (s3.trans (SameP.of s5)).up, by show upd _ p _ t = _; rw [upd_ne n_tp]; exact upd_same, n_tp⟩⟩
    clear h3 s3
    rintro σ H4 ⟨et, rfl, h4, s4, he4, n_tp⟩
    refine seq_by (fun σ H5 => σ = [some (.ref p), some (.ref lt), some (.int (b : Int)), some (.ref e), none] ∧ H5 p = some (.ins C dx [("loss", .ref lt), ("bits", .int (b : Int)), ("entries", .ref et), ("inputs", .int (ds.length : Int))]) ∧ SameP p H H5 ∧ TupI H5 et (allE ds.length b cs (2 ^ ds.sum))) (fun D' hD' => ?_) ?_
    · refine ⟨_, rfl, p, C, dx, _, _, rfl, h4, C0.cl, C0.n1, rfl, lt, _, rfl, .inr (SqT.of (hl.sp s4 n_lp)), _, rfl, p, C, dx, _, rfl, h4, C0.cl, C0.n4, (by show 3 < 1000; decide), hD' _ _ ⟨rfl, ?_, s4.up, he4.sp (SameP.up fun _ _ e _ => e) n_tp⟩⟩
      unfold dI
      rw [List.length_map, List.length_map]
      exact upd_same
    clear h4 s4 he4
    rintro σ H5 ⟨rfl, h5, s5, he5⟩
    refine seq_by (fun σ H6 => σ = [some (.ref p), some (.ref lt), some (.int (b : Int)), some (.ref e), none] ∧ H6 p = some (.ins C dx [("loss", .ref lt), ("bits", .int (b : Int)), ("entries", .ref et), ("inputs", .int (ds.length : Int)), ("most", .int (b : Int))]) ∧ SameP p H H6 ∧ TupI H6 et (allE ds.length b cs (2 ^ ds.sum))) (fun D' hD' => ?_) ?_
    · exact ⟨_, rfl, _, rfl, p, C, dx, _, rfl, h5, C0.cl, C0.n5, (by show 4 < 1000; decide), hD' _ _ ⟨rfl, upd_same, s5.up, he5.sp (SameP.up fun _ _ e _ => e) n_tp⟩⟩
    clear h5 s5 he5
    rintro σ H6 ⟨rfl, h6, s6, he6⟩
    have hl6 := hl.sp s6 n_lp
    refine ⟨_, rfl, p, C, dx, _, _, rfl, h6, C0.cl, C0.n1, rfl, _, rfl, _, rfl, p, C, dx, _, _, rfl, h6, C0.cl, C0.n3, rfl, lt, et, ds.length, b, ds, cs, rfl, hl6, rfl, ok.s, he6, hb1, hb, hm, hv, ok.d, fun L H7 s7 hL hF => ?_⟩
    refine ⟨_, rfl, p, C, dx, _, rfl, s7 _ _ h6, C0.cl, C0.n6, (by show 5 < 1000; decide), ?_⟩
    have fr : ∀ q : Addr, H6 q = none → H q = none := fun q hq => by
      by_cases z : q = p
      · rw [z, h6] at hq
        cases hq
      · cases e : H q with
        | none => rfl
        | some o => rw [s6 q o e z] at hq; cases hq
    have np : ∀ q : Addr, H6 q = none → q ≠ p := fun q hq z => by
      rw [z, h6] at hq
      cases hq
    refine kq et L _ ⟨upd_same, (hl6.same s7).sp (SameP.up fun _ _ e _ => e) n_lp, (he6.same s7).sp (SameP.up fun _ _ e _ => e) n_tp, ?_⟩ (s6.trans (SameP.of s7)).up ?_
    rotate_left
    · obtain ⟨f1, f2⟩ := hF
      refine ⟨fr _ f1, fun as ha q hq => ?_⟩
      rw [upd_ne (np _ f1)] at ha
      obtain ⟨g1, g2⟩ := f2 as ha q hq
      refine ⟨fr _ g1, fun bs hb u hu => ?_⟩
      rw [upd_ne (np _ g1)] at hb
      exact fr _ (g2 bs hb u hu)
    have nt : ∀ (q : Addr) (vs : List V), H7 q = some (.lst vs) → q ≠ p := fun q vs hq z => by
      rw [z, s7 _ _ h6] at hq
      cases hq
    obtain ⟨as, e1, e2, e3⟩ := hL
    refine ⟨as, by rw [upd_ne (nt _ _ e1)]; exact e1, e2, fun g hg => ?_⟩
    obtain ⟨q, rows, q1, ⟨bs, b1, b2, b3⟩, q3⟩ := e3 g hg
    exact ⟨q, rows, q1, ⟨bs, by rw [upd_ne (nt _ _ b1)]; exact b1, b2, fun i xs hi => let ⟨u, u1, u2⟩ := b3 i xs hi; ⟨u, u1, u2.updN (nt _ _ u2)⟩⟩, q3⟩
end
end My

set_option pp.maxSteps 300
set_option Elab.async false
set_option linter.all false
set_option maxRecDepth 100000
set_option maxHeartbeats 1000000
namespace My
open PySem L2 MyR
/-- the class of a point -/
def gA (ds : List Nat) (xs : List Int) : Nat → Int
  | 0 => 0
  | i + 1 => gA ds xs i * 2 ^ (ds.getD i 0) + xs.getD i 0 % 2 ^ (ds.getD i 0)
def sA (ds : List Nat) : Nat → Nat
  | 0 => 0
  | i + 1 => sA ds i + ds.getD i 0
theorem gA_lt (ds : List Nat) (xs : List Int) : ∀ i, 0 ≤ gA ds xs i ∧ gA ds xs i < 2 ^ sA ds i
  | 0 => ⟨Int.le_refl _, by show (0 : Int) < 2 ^ 0; decide⟩
  | i + 1 => by
    obtain ⟨h1, h2⟩ := gA_lt ds xs i
    have hp := p2_pos (ds.getD i 0)
    have h3 := Int.emod_nonneg (xs.getD i 0) (show (2 : Int) ^ (ds.getD i 0) ≠ 0 by omega)
    have h4 := Int.emod_lt_of_pos (xs.getD i 0) hp
    have h5 : gA ds xs i * 2 ^ (ds.getD i 0) ≤ (2 ^ sA ds i - 1) * 2 ^ (ds.getD i 0) := Int.mul_le_mul_of_nonneg_right (by omega) (by omega)
    have h6 : 0 ≤ gA ds xs i * 2 ^ (ds.getD i 0) := Int.mul_nonneg h1 (by omega)
    rw [Int.sub_mul, Int.one_mul, ← Int.pow_add] at h5
    show 0 ≤ gA ds xs i * 2 ^ (ds.getD i 0) + xs.getD i 0 % 2 ^ (ds.getD i 0) ∧ gA ds xs i * 2 ^ (ds.getD i 0) + xs.getD i 0 % 2 ^ (ds.getD i 0) < 2 ^ (sA ds i + ds.getD i 0)
    omega
/-- what a table tells at a point -/
def valT (b : Nat) (cs : Nat → Nat → Nat → Int) : List Nat → List Int → Int
  | [d], [x] => val1 b (cs (gA [d] [x] 1).toNat) (x / 2 ^ d)
  | [d1, d2], [x1, x2] => val2 b (cs (gA [d1, d2] [x1, x2] 2).toNat) (x1 / 2 ^ d1) (x2 / 2 ^ d2)
  | _, _ => 0
theorem valT_lt (b : Nat) (cs : Nat → Nat → Nat → Int) (ds : List Nat) (xs : List Int) : 0 ≤ valT b cs ds xs ∧ valT b cs ds xs < 2 ^ b := by
  have hp := p2_pos b
  unfold valT
  split
  · exact ⟨Int.emod_nonneg _ (by omega), Int.emod_lt_of_pos _ hp⟩
  · exact ⟨Int.emod_nonneg _ (by omega), Int.emod_lt_of_pos _ hp⟩
  · exact ⟨Int.le_refl _, hp⟩
def plc (b : Nat) (ds : List Nat) (xs : List Int) (i : Nat) : Int := xs.getD i 0 / 2 ^ (ds.getD i 0) % 2 ^ b
def spWorth (K : PySem.W.Frag) (C : Addr) : Sp := fun vs H Q _ => ∃ (t pt : Addr) (k : Bool) (ds : List Nat) (xs : List Int) (b : Nat) (cs : Nat → Nat → Nat → Int) (dx lt et ct : Addr), vs = [.ref t, .ref pt] ∧ TbAt C H t ds b cs dx lt et ct ∧ TbOk ds b cs ∧ SqK k K H pt (xs.map V.int) ∧ xs.length = ds.length ∧
  ∀ H', Same H H' → Q (.int (valT b cs ds xs)) H'
theorem SqK.ext {k : Bool} {K : PySem.W.Frag} {H H' : Hp} {a : Addr} {xs : List V} (h : SqK k K H a xs) (s : Same H H') : SqK k K H' a xs := by
  cases k
  · exact SqL.ext h s
  · exact SqT.ext h s
section
variable {P : Program} {w : World} {K : PySem.W.Frag} {mg : Str → Option Value} {base : Heap}
abbrev s_Table_worth : Stmt := inClass (top 29) 6
abbrev N_Table_worth : List Str := ["self", "point", "mask", "number", "place", "depth", "x"]
theorem sc_Table_worth : FnScope N_Table_worth ["self", "point"] (defScope s_Table_worth) := ⟨rfl, rfl, rfl, by decide +kernel, rfl, by decide +kernel, by decide +kernel⟩
theorem ok_Table_worth {f C : Addr} {fd : FuncData} (F : Fun K "worth" "Table.worth" s_Table_worth f fd) (T : Glob mg) (C0 : TbC K C) (D_evaluated : Df P w K mg base 2 "evaluated" ["rows", "place", "mask"] spEval) : FnOk P w K mg base CX0 3 f fd ["self", "point"] (spWorth K C) := by
  refine F.ok sc_Table_worth (fun vs H Q E h => ?_) (fun cdv A outer s H vs Q E hr h => ?_)
  · obtain ⟨t, pt, k, ds, xs, b, cs, dx, lt, et, ct, rfl, _⟩ := h
    rfl
  · obtain ⟨t, pt, k, ds, xs, b, cs, dx, lt, et, ct, rfl, tb, ok, hx, hxl, kq⟩ := h
    have nd := sc_Table_worth.nd
    refine ⟨_, (pss_cons (ps_set (i := 2) nd rfl (Or.inl rfl) (pe_op op_sub (pe_op op_shl pe_int (pe_fld (pv 0) rfl)) pe_int))
    (pss_cons (ps_set (i := 3) nd rfl (Or.inl rfl) pe_int)
    (pss_cons (ps_set (i := 4) nd rfl (Or.inl rfl) (pe_lst pa_nil))
    (pss_cons (ps_for PassesOwn.never rfl (pi_zipK (by rfl) T.g_zip (pa_cons (pe_fld (pv 0) rfl) (pa_cons (pv 1) pa_nil))) (pg_tup (by rfl) (pgs_cons (pg_name (i := 5) nd rfl (Or.inl rfl)) (pgs_cons (pg_name (i := 6) nd rfl (Or.inl rfl)) pgs_nil)))
    (pss_cons (ps_set (i := 3) nd rfl (Or.inl rfl) (pe_op op_add (pe_op op_shl (pv 3) (pv 5)) (pe_op op_andM (pv 6) (pe_op op_sub (pe_op op_shl pe_int (pv 5)) pe_int))))
    (pss_one (ps_expr (pe_bm PySem.F.plainAttrs_list PySem.F.slot_list_append PySem.F.type_list_append mt_append (pv 4) (pa_cons (pe_op op_andM (pe_op op_shrN (pv 6) (pv 5)) (pv 2)) pa_nil))))))
    (pss_one (ps_ret (pe_call D_evaluated.ok (hr.mono (by decide)) (by rfl) D_evaluated.g D_evaluated.kp D_evaluated.b .nil pass0 (pa_cons (pe_ix ix_list (pe_fld (pv 0) rfl) (pv 3) (fun _ _ => rfl)) (pa_cons (pv 4) (pa_cons (pv 2) pa_nil)))))))))), ?_⟩
    have hm := ok.m
    have hb1 := ok.b1
    have hb := ok.b64
    have hs8 := ok.s
    have hsA : ∀ i, i ≤ ds.length → sA ds i ≤ 8 ∧ sA ds ds.length = ds.sum := fun i hi => by
      rcases hm with e | e
      · match ds, e with
        | [d], _ =>
          have : d ≤ 8 := by simpa using hs8
          match i, hi with
          | 0, _ => exact ⟨Nat.zero_le _, by show 0 + d = d + 0; omega⟩
          | 1, _ => exact ⟨by show 0 + d ≤ 8; omega, by show 0 + d = d + 0; omega⟩
      · match ds, e with
        | [d, d'], _ =>
          have : d + d' ≤ 8 := by simpa using hs8
          match i, hi with
          | 0, _ => exact ⟨Nat.zero_le _, by show 0 + d + d' = d + (d' + 0); omega⟩
          | 1, _ => exact ⟨by show 0 + d ≤ 8; omega, by show 0 + d + d' = d + (d' + 0); omega⟩
          | 2, _ => exact ⟨by show 0 + d + d' ≤ 8; omega, by show 0 + d + d' = d + (d' + 0); omega⟩
    have hgb : ∀ i, i ≤ ds.length → 0 ≤ gA ds xs i ∧ gA ds xs i < 256 := fun i hi => by
      obtain ⟨h1, h2⟩ := gA_lt ds xs i
      have h3 : (2 : Int) ^ sA ds i ≤ 2 ^ 8 := Int.le_of_dvd (by decide) (p2_dvd (hsA i hi).1)
      exact ⟨h1, by have : (2 : Int) ^ 8 = 256 := by decide
                    omega⟩
    have hdle : ∀ i, i < ds.length → ds.getD i 0 ≤ 8 := fun i hi => by
      have := (hsA (i + 1) hi).1
      have e : sA ds (i + 1) = sA ds i + ds.getD i 0 := rfl
      omega
    refine seq_by (fun σ H1 => H1 = H ∧ σ = [some (.ref t), some (.ref pt), some (.int (2 ^ b - 1)), none, none, none, none]) (fun D' hD' => ?_) ?_
    · refine ⟨_, rfl, t, C, dx, _, _, rfl, tb.o, C0.cl, C0.n2, rfl, _, _, rfl, rfl, ⟨by omega, by omega, by decide⟩, _, _, rfl, rfl, hD' _ _ ⟨rfl, ?_⟩⟩
      rw [Int.toNat_natCast, Int.one_mul]
      rfl
    rintro σ H1 ⟨rfl, rfl⟩
    refine seq_by (fun σ H2 => H2 = H1 ∧ σ = [some (.ref t), some (.ref pt), some (.int (2 ^ b - 1)), some (.int 0), none, none, none]) (fun D' hD' => hD' _ _ ⟨rfl, rfl⟩) ?_
    rintro σ H ⟨rfl, rfl⟩
    refine seq_by (fun σ H2 => ∃ L : Addr, σ = [some (.ref t), some (.ref pt), some (.int (2 ^ b - 1)), some (.int 0), some (.ref L), none, none] ∧ Same H H2 ∧ LI H2 L [] ∧ H L = none) (fun D' hD' => ?_) ?_
    · exact ⟨(by show 0 ≤ sizeLine; decide), fun L hL => hD' _ _ ⟨L, rfl, new_same hL, upd_same, hL⟩⟩
    rintro σ H2 ⟨L, rfl, s2, h2, hLn⟩
    have hlen : ((dI ds).map V.int).length = (xs.map V.int).length := by rw [List.length_map, List.length_map, hxl]; unfold dI; rw [List.length_map]
    have hlen2 : ((dI ds).map V.int).length = ds.length := by rw [hlen, List.length_map, hxl]
    refine seq_by (fun σ H3 => ∃ a5 a6 : Option V, σ = [some (.ref t), some (.ref pt), some (.int (2 ^ b - 1)), some (.int (gA ds xs ds.length)), some (.ref L), a5, a6] ∧ Same H H3 ∧ LI H3 L ((List.range ds.length).map (plc b ds xs))) (fun D' hD' => ?_) ?_
    · refine ⟨_, rfl, t, C, dx, _, _, rfl, s2 _ _ tb.o, C0.cl, C0.n1, rfl, _, rfl, true, k, lt, pt, _, _, rfl, sqK_t (SqT.of (tb.l.same s2)), (SqK.ext hx s2), ?_⟩
      refine for_it (walk_zipK hlen) (fun i σ H3 => ∃ a5 a6 : Option V, σ = [some (.ref t), some (.ref pt), some (.int (2 ^ b - 1)), some (.int (gA ds xs i)), some (.ref L), a5, a6] ∧ Same H H3 ∧ LI H3 L ((List.range i).map (plc b ds xs)))
        ⟨none, none, rfl, s2, h2⟩ (fun i σ H3 _ h => by obtain ⟨_, _, _, h, _⟩ := h; exact ⟨sqK_t (SqT.of (tb.l.same h)), SqK.ext hx h⟩) ?_ ?_
      · rintro i x σ H3 H4 hi ⟨a5, a6, rfl, s3, h3⟩ ⟨T', x1, x2, rfl, hT, rfl, hx1, hx2⟩
        rw [hlen2] at hi
        have hdi : ds[i]? = some (ds.getD i 0) := by rw [List.getD_eq_getElem?_getD, List.getElem?_eq_getElem hi]; rfl
        have hxi : xs[i]? = some (xs.getD i 0) := by rw [List.getD_eq_getElem?_getD, List.getElem?_eq_getElem (show i < xs.length by omega)]; rfl
        have hx1 : ((dI ds).map V.int)[i]? = some x1 := hx1
        have hx2 : (xs.map V.int)[i]? = some x2 := hx2
        rw [map_at_int hxi] at hx2
        obtain rfl := Option.some.inj hx2
        have hdI : (dI ds)[i]? = some ((ds.getD i 0 : Nat) : Int) := by unfold dI; rw [List.getElem?_map, hdi]; rfl
        rw [map_at_int hdI] at hx1
        obtain rfl := Option.some.inj hx1
        have s4 := s3.trans (new_same (o := .tup [V.int ((ds.getD i 0 : Nat) : Int), .int (xs.getD i 0)]) hT)
        have h4 := h3.same (new_same (o := .tup [V.int ((ds.getD i 0 : Nat) : Int), .int (xs.getD i 0)]) hT)
        refine ⟨T', _, rfl, SqT.of upd_same, rfl, _, _, rfl, _, _, rfl, rfl, ?_⟩
        generalize upd H3 T' (.tup [V.int ((ds.getD i 0 : Nat) : Int), .int (xs.getD i 0)]) = H4 at s4 h4 ⊢
        have hd8 := hdle i hi
        have hg := hgb i (by omega)
        refine ⟨_, rfl, _, rfl, _, _, rfl, rfl, ⟨by omega, by omega, by omega⟩, _, rfl, _, rfl, _, _, rfl, rfl, ⟨by omega, by omega, by decide⟩, _, _, rfl, rfl, _, ds.getD i 0, rfl, ?_, _, _, rfl, rfl, ?_⟩
        · rw [Int.toNat_natCast, Int.one_mul]
        refine ⟨_, rfl, .inl ⟨rfl, _, SqL.of h4⟩, _, rfl, _, rfl, _, ds.getD i 0, rfl, rfl, _, rfl, _, b, rfl, rfl, ?_⟩
        refine ⟨L, _, _, rfl, rfl, h4, by rw [List.length_map, List.length_map, List.length_range, sizeLine_eq]; omega, ?_⟩
        refine ⟨_, _, rfl, same_up s4 hLn, ?_⟩
        rw [List.range_succ, List.map_append]
        exact li_snoc
      · rintro σ H3 ⟨a5, a6, rfl, s3, h3⟩
        rw [hlen2] at h3
        refine hD' _ _ ⟨a5, a6, ?_, s3, h3⟩
        rw [hlen2]
    rintro σ H3 ⟨a5, a6, rfl, s3, h3⟩
    obtain ⟨hg1, hg2⟩ := gA_lt ds xs ds.length
    rw [(hsA 0 (Nat.zero_le _)).2] at hg2
    obtain ⟨g, hg⟩ : ∃ g : Nat, gA ds xs ds.length = (g : Int) := ⟨(gA ds xs ds.length).toNat, by omega⟩
    rw [hg] at hg2 ⊢
    have hgl : g < 2 ^ ds.sum := by
      have e : ((2 ^ ds.sum : Nat) : Int) = (2 : Int) ^ ds.sum := Int.natCast_pow 2 ds.sum
      omega
    obtain ⟨as, c1, c2, c3⟩ := (tb.c.same s3)
    obtain ⟨p, rows, p1, p2, p3⟩ := c3 g hgl
    have hp : (as.map V.ref)[g]? = some (.ref p) := by rw [List.getElem?_map, p1]; rfl
    have hW := W_66 hb
    have hrl := p3.1
    have hnR := nR_le (m := ds.length) hb
    have hrr : ∀ r ∈ rows, r.length ≤ 1000 := fun r hr => by
      obtain ⟨i, hi⟩ := List.mem_iff_getElem?.mp hr
      obtain ⟨n, A, e, _⟩ := p3.2 i r hi
      have e2 := congrArg List.length e
      rw [List.length_append, List.length_replicate, List.length_map, List.length_range] at e2
      have := wd_le (m := ds.length) (r := i) hb
      omega
    refine ⟨_, rfl, t, C, dx, _, _, rfl, s3 _ _ tb.o, C0.cl, C0.n6, rfl, _, rfl, ct, _, _, _, rfl, rfl, SqL.of c1, atI_nat hp, _, rfl, _, rfl, p, L, rows, _, b, valT b cs ds xs, rfl, p2, h3, hb, by omega, hrr, ?_, fun H4 s4 => kq H4 (s3.trans s4)⟩
    rcases hm with e | e
    · match ds, xs, e, hxl with
      | [d], [x], _, _ =>
        have hl1 : rows.length = 1 := hrl
        match rows, hl1 with
        | [r], _ =>
          refine .inl ⟨r, [], plc b [d] [x] 0, rfl, rfl, ?_⟩
          have hgg : (gA [d] [x] 1).toNat = g := by
            have : gA [d] [x] 1 = (g : Int) := hg
            omega
          show val1 b (cs (gA [d] [x] 1).toNat) (x / 2 ^ d) = _
          rw [hgg]
          exact (eval1 ok.b1 hb (ok.d g) (p3.2 0 r rfl)).symm
    · match ds, xs, e, hxl with
      | [d1, d2], [x1, x2], _, _ =>
        have hW2 := W_two ok.b1
        have hl2 : rows.length = W b := hrl
        refine .inr ⟨by omega, plc b [d1, d2] [x1, x2] 0, plc b [d1, d2] [x1, x2] 1, rfl, ?_⟩
        have hgg : (gA [d1, d2] [x1, x2] 2).toNat = g := by
          have : gA [d1, d2] [x1, x2] 2 = (g : Int) := hg
          omega
        show val2 b (cs (gA [d1, d2] [x1, x2] 2).toNat) (x1 / 2 ^ d1) (x2 / 2 ^ d2) = _
        rw [hgg]
        exact (eval2 ok.b1 hb (ok.d g) p3).symm
end
end My

set_option pp.maxSteps 300
set_option Elab.async false
set_option linter.all false
set_option maxRecDepth 100000
set_option maxHeartbeats 1000000
namespace My
open PySem L2 MyR
def spTCall (K : PySem.W.Frag) (C : Addr) : Sp := fun vs H Q _ => ∃ (t pt : Addr) (k : Bool) (bv : V) (l : Nat) (ds : List Nat) (xs : List Int) (b : Nat) (cs : Nat → Nat → Nat → Int) (dx lt et ct : Addr), vs = [.ref t, .ref pt, bv] ∧ ((bv = .non ∧ l = b) ∨ bv = .int (l : Int)) ∧ l ≤ 64 ∧ TbAt C H t ds b cs dx lt et ct ∧ TbOk ds b cs ∧ SqK k K H pt (xs.map V.int) ∧ xs.length = ds.length ∧
  ∀ H', Same H H' → Q (.int (valT b cs ds xs % 2 ^ l)) H'
def spTw : Sp := fun vs H Q _ => ∃ n : Nat, vs = [.int (n : Int)] ∧ Q (.int (tw n : Int)) H
/-- binomials of a number -/
def bnL (z : Int) (n : Nat) : List Int := (List.range n).map (bn z)
def spBin : Sp := fun vs H Q _ => ∃ (z : Int) (n : Nat), vs = [.int z, .int (n : Int)] ∧ 1 ≤ n ∧ n ≤ 70 ∧ -(2 ^ 110) < z ∧ z < 2 ^ 110 ∧ ∀ (L : Addr) H', H L = none → Same H H' → LI H' L (bnL z n) → Q (.ref L) H'
theorem bn_bits {z : Int} (h1 : -(2 ^ 110) < z) (h2 : z < 2 ^ 110) : ∀ k, k ≤ 70 → (bn z k).natAbs < 2 ^ (111 * k + 1)
  | 0, _ => by
    show (1 : Nat) < 2 ^ 1
    decide
  | k + 1, h => by
    have ih := bn_bits h1 h2 k (by omega)
    have hz : (z - (k : Int)).natAbs ≤ 2 ^ 111 := by
      have e1 : (2 : Int) ^ 110 = 1298074214633706907132624082305024 := by decide
      have e2 : (2 : Nat) ^ 111 = 2596148429267413814265248164610048 := by decide
      omega
    have hm : (bn z k * (z - (k : Int))).natAbs < 2 ^ (111 * (k + 1) + 1) := by
      rw [Int.natAbs_mul, show 111 * (k + 1) + 1 = 111 * k + 1 + 111 by omega, Nat.pow_add]
      exact Nat.lt_of_le_of_lt (Nat.mul_le_mul_left _ hz) (Nat.mul_lt_mul_of_pos_right ih (by decide))
    show (bn z k * (z - (k : Int)) / ((k : Int) + 1)).natAbs < _
    exact Nat.lt_of_le_of_lt (Int.natAbs_ediv_le_natAbs _ _) hm
section
variable {P : Program} {w : World} {K : PySem.W.Frag} {mg : Str → Option Value} {base : Heap}
abbrev s_Table_call : Stmt := inClass (top 29) 10
abbrev N_Table_call : List Str := ["self", "point", "bits"]
theorem sc_Table_call : FnScope N_Table_call ["self", "point", "bits"] (defScope s_Table_call) := ⟨rfl, rfl, rfl, by decide +kernel, rfl, by decide +kernel, by decide +kernel⟩
theorem ok_Table_call {f C : Addr} {fd : FuncData} (F : FunD K "__call__" "Table.__call__" (defArgs s_Table_call) (defBody s_Table_call) (defScope s_Table_call) [V.non] [] f fd) (C0 : TbC K C) (MW : Mt P w K mg base C 3 "worth" ["self", "point"] (spWorth K C)) : FnOk P w K mg base CX0 4 f fd ["self", "point", "bits"] (spTCall K C) := by
  refine F.ok sc_Table_call (fun vs H Q E h => ?_) (fun cdv A outer s H vs Q E hr h => ?_)
  · obtain ⟨t, pt, k, bv, l, ds, xs, b, cs, dx, lt, et, ct, rfl, _⟩ := h
    rfl
  · obtain ⟨t, pt, k, bv, l, ds, xs, b, cs, dx, lt, et, ct, rfl, hbv, hl, tb, ok, hx, hxl, kq⟩ := h
    have nd := sc_Table_call.nd
    refine ⟨_, (pss_one (ps_ret (pe_op op_andM (pe_meth (pv 0) C0.cl MW.m MW.ok (hr.mono (by decide)) MW.b .nil (E := fun _ _ _ => False) (fun _ _ _ _ _ _ _ h => h.elim) (pa_cons (pv 1) pa_nil)) (pe_op op_sub (pe_op op_shl pe_int (pe_ifExp (pt_cmpR op_isN (pv 2) pe_non (nomark _)) (pe_fld (pv 0) rfl) (pv 2))) pe_int)))), ?_⟩
    refine ⟨_, rfl, t, dx, _, rfl, tb.o, rfl, _, rfl, t, pt, k, ds, xs, b, cs, dx, lt, et, ct, rfl, tb, ok, hx, hxl, fun H1 s1 => ?_⟩
    have fin : ∃ i j, (V.int 1 = .int i ∧ (V.int (l : Int)) = .int j ∧ CPow i j ∧ ∃ i' j', (V.int (i * 2 ^ j.toNat)) = .int i' ∧ V.int 1 = .int j' ∧ ∃ (x : Int) (k : Nat), V.int (valT b cs ds xs) = .int x ∧ V.int (i' - j') = .int (2 ^ k - 1) ∧ Q (.int (x % 2 ^ k)) H1) := ⟨1, (l : Int), rfl, rfl, ⟨by omega, by omega, by decide⟩, _, _, rfl, rfl, _, l, rfl, by rw [Int.toNat_natCast, Int.one_mul], kq H1 s1⟩
    rcases hbv with ⟨rfl, rfl⟩ | rfl
    · refine ⟨_, rfl, rfl, _, rfl, iteT ?_⟩
      exact ⟨_, rfl, t, C, dx, _, _, rfl, s1 _ _ tb.o, C0.cl, C0.n2, rfl, fin⟩
    · refine ⟨_, rfl, rfl, _, rfl, iteF ?_⟩
      exact ⟨_, rfl, fin⟩
theorem call_binds {f : Addr} {fd : FuncData} (F : FunD K "__call__" "Table.__call__" (defArgs s_Table_call) (defBody s_Table_call) (defScope s_Table_call) [V.non] [] f fd) : Binds K fd ["self", "point", "bits"] [] ∧ ∃ ds, Vals [V.non] ds ∧ Binds K fd ["self", "point", "bits"] ds := by
  constructor
  · obtain ⟨ds, hv, hb⟩ := F.binds1 (ps := ["self", "point", "bits"]) 3 1 (by simp) rfl (fun T kV doc pm an cdv ct us its h1 h2 => by
      match us, its, h1, h2 with
      | [a, b, c], [t], _, _ => exact ⟨_, rfl, rfl⟩)
    have hv : Vals [] ds := hv
    cases hv
    exact hb
  · exact F.binds1 (ps := ["self", "point", "bits"]) 2 0 (by simp) rfl (fun T kV doc pm an cdv ct us its h1 h2 => by
      match us, its, h1, h2 with
      | [a, b], [t], _, _ => exact ⟨_, rfl, rfl⟩)
abbrev s_law_twos : Stmt := top 33
abbrev N_law_twos : List Str := ["_law_number", "_law_found"]
theorem sc_law_twos : FnScope N_law_twos ["_law_number"] (defScope s_law_twos) := ⟨rfl, rfl, rfl, by decide +kernel, rfl, by decide +kernel, by decide +kernel⟩
theorem ok_law_twos {f : Addr} {fd : FuncData} (F : Fun K "_law_twos" "_law_twos" s_law_twos f fd) : FnOk P w K mg base CX0 1 f fd ["_law_number"] spTw := by
  refine F.ok sc_law_twos (fun vs H Q E h => ?_) (fun cdv A outer s H vs Q E hr h => ?_)
  · obtain ⟨n, rfl, _⟩ := h
    rfl
  · obtain ⟨n, rfl, kq⟩ := h
    have nd := sc_law_twos.nd
    refine ⟨_, (pss_cons (ps_set (i := 1) nd rfl (Or.inl rfl) pe_int)
    (pss_cons (ps_while PassesOwn.never (pt_cmpR op_gt (pv 0) pe_int (nomark _))
    (pss_cons (ps_set (i := 0) nd rfl (Or.inl rfl) (pe_op op_fdiv (pv 0) pe_int))
    (pss_one (ps_set (i := 1) nd rfl (Or.inl rfl) (pe_op op_add (pv 1) (pv 0))))))
    (pss_one (ps_ret (pv 1))))), ?_⟩
    refine seq_by (fun σ H1 => H1 = H ∧ σ = [some (.int (n : Int)), some (.int 0)]) (fun D' hD' => hD' _ _ ⟨rfl, rfl⟩) ?_
    rintro σ H1 ⟨rfl, rfl⟩
    refine seq_by (fun σ H2 => H2 = H1 ∧ ∃ a0 : Option V, σ = [a0, some (.int (tw n : Int))]) (fun D' hD' => ?_) ?_
    · refine while_by (fun σ H2 => H2 = H1 ∧ ∃ f l : Nat, σ = [some (.int (l : Int)), some (.int (f : Int))] ∧ f + tw l = tw n) (fun σ _ => match σ with | [some (.int l), _] => l.toNat | _ => 0)
        ⟨rfl, 0, n, rfl, Nat.zero_add _⟩ ?_ ?_
      · rintro σ H2 ⟨rfl, f, l, rfl, hf⟩
        refine ⟨_, rfl, _, _, rfl, rfl, _, rfl, ?_⟩
        refine ite2 (fun h => ?_) (fun h => ?_)
        · have hl : 0 < l := by
            have := of_decide_eq_true h
            omega
          refine ⟨_, rfl, _, _, rfl, rfl, ⟨by decide, by decide⟩, _, rfl, _, rfl, _, _, rfl, rfl, ?_⟩
          refine ⟨⟨rfl, f + l / 2, l / 2, rfl, ?_⟩, ?_⟩
          · rw [tw_pos (show l ≠ 0 by omega)] at hf
            omega
          · show ((l : Int) / 2).toNat < ((l : Int)).toNat
            omega
        · have hl : l = 0 := by
            by_cases z : 0 < l
            · exact absurd (decide_eq_true (by omega)) h
            · omega
          subst hl
          have : f = tw n := hf
          subst this
          exact hD' _ _ ⟨rfl, _, rfl⟩
      · intro σ H1 Q Q' f h
        obtain ⟨x, e1, i, j, e2, e3, b1, eb, hc⟩ := h
        exact ⟨x, e1, i, j, e2, e3, b1, eb, f _ _ hc⟩
    rintro σ H2 ⟨rfl, a0, rfl⟩
    exact ⟨_, rfl, kq⟩
abbrev s_law_row : Stmt := top 42
abbrev N_law_row : List Str := ["_law_top", "_law_many", "_law_found", "_law_k"]
theorem sc_law_row : FnScope N_law_row ["_law_top", "_law_many"] (defScope s_law_row) := ⟨rfl, rfl, rfl, by decide +kernel, rfl, by decide +kernel, by decide +kernel⟩
theorem ok_law_row {f : Addr} {fd : FuncData} (F : Fun K "_law_row" "_law_row" s_law_row f fd) (T : Glob mg) : FnOk P w K mg base CX0 1 f fd ["_law_top", "_law_many"] spBin := by
  refine F.ok sc_law_row (fun vs H Q E h => ?_) (fun cdv A outer s H vs Q E hr h => ?_)
  · obtain ⟨z, n, rfl, _⟩ := h
    rfl
  · obtain ⟨z, n, rfl, hn1, hn, hz1, hz2, kq⟩ := h
    have nd := sc_law_row.nd
    refine ⟨_, (pss_cons (ps_set (i := 2) nd rfl (Or.inl rfl) (pe_lst (pa_cons pe_int pa_nil)))
    (pss_cons (ps_for PassesOwn.never rfl (pi_range1 (by rfl) T.g_range (pa_cons (pe_op op_sub (pv 1) pe_int) pa_nil)) (pg_name (i := 3) nd rfl (Or.inl rfl))
    (pss_one (ps_expr (pe_bm PySem.F.plainAttrs_list PySem.F.slot_list_append PySem.F.type_list_append mt_append (pv 2) (pa_cons (pe_op op_fdiv (pe_op op_mulX (pe_ix ix_list (pv 2) (pe_un un_neg pe_int) (fun _ _ => rfl)) (pe_op op_sub (pv 0) (pv 3))) (pe_op op_add (pv 3) pe_int)) pa_nil)))))
    (pss_one (ps_ret (pv 2))))), ?_⟩
    refine seq_by (fun σ H1 => ∃ L : Addr, σ = [some (.int z), some (.int (n : Int)), some (.ref L), none] ∧ Same H H1 ∧ LI H1 L (bnL z 1) ∧ H L = none) (fun D' hD' => ?_) ?_
    · exact ⟨(by show 1 ≤ sizeLine; decide), fun L hL => hD' _ _ ⟨L, rfl, new_same hL, upd_same, hL⟩⟩
    rintro σ H1 ⟨L, rfl, s1, hl1, hLn⟩
    refine ⟨_, rfl, _, _, rfl, rfl, ((n - 1 : Nat) : Int), by show [V.int ((n : Int) - 1)] = _; rw [show (n : Int) - 1 = ((n - 1 : Nat) : Int) from by omega], by omega, by omega, ?_⟩
    rw [Int.toNat_natCast]
    refine for_range (lo := 0) (n := n - 1) (fun i σ H2 => ∃ a3 : Option V, σ = [some (.int z), some (.int (n : Int)), some (.ref L), a3] ∧ Same H H2 ∧ LI H2 L (bnL z (i + 1))) ⟨none, rfl, s1, hl1⟩ ?_ ?_
    · rintro i σ H2 hi ⟨a3, rfl, s2, h2⟩
      have e0 : (0 : Int) + (i : Int) = (i : Int) := by omega
      have hat : atI ((bnL z (i + 1)).map V.int) (-1) = some (.int (bn z i)) := by
        unfold bnL
        rw [List.range_succ, List.map_append, List.map_append]
        exact atI_last _ _
      have hbits := bn_bits hz1 hz2 i (by omega)
      have hzb : (z - (i : Int)).natAbs < 2 ^ 112 := by
        have e1 : (2 : Int) ^ 110 = 1298074214633706907132624082305024 := by decide
        have e2 : (2 : Nat) ^ 112 = 5192296858534827628530496329220096 := by decide
        omega
      refine ⟨_, rfl, .inl ⟨rfl, _, SqL.of h2⟩, _, rfl, _, rfl, L, _, _, _, rfl, rfl, SqL.of h2, hat, _, rfl, _, rfl, _, _, rfl, rfl, _, _, rfl, rfl, ?_⟩
      rw [e0]
      refine ⟨mulx_ok hbits hzb (by omega), _, rfl, _, _, rfl, rfl, _, _, rfl, rfl, ⟨by omega, by omega⟩, L, _, _, rfl, rfl, h2, ?_, ?_⟩
      · unfold bnL
        rw [List.length_map, List.length_map, List.length_range, sizeLine_eq]
        omega
      refine ⟨_, rfl, same_up s2 hLn, ?_⟩
      have e : bnL z (i + 1 + 1) = bnL z (i + 1) ++ [bn z (i + 1)] := by
        unfold bnL
        rw [List.range_succ (n := i + 1), List.map_append]
        rfl
      rw [e]
      exact li_snoc
    · rintro σ H2 ⟨a3, rfl, s2, h2⟩
      rw [show n - 1 + 1 = n by omega] at h2
      exact ⟨_, rfl, kq L H2 hLn s2 h2⟩
end
end My

set_option pp.maxSteps 300
set_option Elab.async false
set_option linter.all false
set_option maxRecDepth 100000
set_option maxHeartbeats 1000000
namespace My
open PySem L2 MyR
def dV (b m : Nat) : List (List Int) := (vecs m b).map dI
def spVecs (m : Nat) : Sp := fun vs H Q _ => ∃ b : Nat, vs = [.int (m : Int), .int (b : Int)] ∧ 1 ≤ b ∧ b ≤ 64 ∧ (vecs m b).length < 5000 ∧ m < 100 ∧ ∀ (L : Addr) H', H L = none → Same H H' → LTI H' L (dV b m) → Q (.ref L) H'
theorem LTI.lenV {H : Hp} {a : Addr} {xss : List (List Int)} (h : LTI H a xss) : ∃ vs : List V, H a = some (.lst vs) ∧ vs.length = xss.length ∧ ∀ (i : Nat) xs, xss[i]? = some xs → ∃ p, vs[i]? = some (.ref p) ∧ TupI H p xs := by
  obtain ⟨as, e1, e2, e3⟩ := h
  refine ⟨_, e1, by rw [List.length_map]; exact e2, fun i xs e => ?_⟩
  obtain ⟨p, q1, q2⟩ := e3 i xs e
  exact ⟨p, by rw [List.getElem?_map, q1]; rfl, q2⟩
theorem lti_app {H : Hp} {D p : Addr} {xss : List (List Int)} {xs : List Int} (h : LTI H D xss) (hp : TupI H p xs) (hl : xss.length < 16000000) :
    ∃ acc, H D = some (.lst acc) ∧ acc.length < sizeLine ∧ LTI (upd H D (.lst (acc ++ [.ref p]))) D (xss ++ [xs]) := by
  obtain ⟨as, e1, e2, e3⟩ := h
  exact ⟨_, e1, by rw [List.length_map, e2, sizeLine_eq]; omega, lti_snoc e1 e2 e3 hp⟩
theorem lti_ext {H : Hp} {D G : Addr} {xss yss : List (List Int)} {us ws : List V} (h : LTI H D xss) (g : LTI H G yss) (hu : H D = some (.lst us)) (hw : H G = some (.lst ws)) : LTI (upd H D (.lst (us ++ ws))) D (xss ++ yss) := by
  obtain ⟨as, e1, e2, e3⟩ := h
  obtain ⟨bs, f1, f2, f3⟩ := g
  rw [hu] at e1
  rw [hw] at f1
  have e1 := HO.lst.inj (Option.some.inj e1)
  have f1 := HO.lst.inj (Option.some.inj f1)
  subst e1 f1
  have nt : ∀ q ys, TupI H q ys → q ≠ D := fun q ys e z => by
    rw [z] at e
    have e : H D = _ := e
    rw [hu] at e
    cases e
  refine ⟨as ++ bs, by rw [upd_same, List.map_append], by rw [List.length_append, List.length_append, e2, f2], fun i xs e => ?_⟩
  by_cases hi : i < xss.length
  · rw [List.getElem?_append_left hi] at e
    obtain ⟨p, q1, q2⟩ := e3 i xs e
    exact ⟨p, by rw [List.getElem?_append_left (by omega)]; exact q1, by show upd H D _ p = _; rw [upd_ne (nt p xs q2)]; exact q2⟩
  · rw [List.getElem?_append_right (by omega)] at e
    obtain ⟨p, q1, q2⟩ := f3 _ xs e
    exact ⟨p, by rw [List.getElem?_append_right (by omega), e2]; exact q1, by show upd H D _ p = _; rw [upd_ne (nt p xs q2)]; exact q2⟩
/-- the vectors that begin with fewer than n -/
def vecsTo (m b n : Nat) : List (List Nat) := (List.range n).flatMap fun j => (vecs m (b - tw j)).map (j :: ·)
theorem vecsTo_succ (m b n : Nat) : vecsTo m b (n + 1) = vecsTo m b n ++ (vecs m (b - tw n)).map (n :: ·) := by
  unfold vecsTo
  rw [List.range_succ, List.flatMap_append]
  simp
theorem vecsTo_le (m b : Nat) : ∀ n k, n ≤ k → (vecsTo m b n).length ≤ (vecsTo m b k).length := by
  intro n k h
  induction k with
  | zero =>
    have : n = 0 := by omega
    rw [this]
    exact Nat.le_refl _
  | succ k ih =>
    by_cases e : n = k + 1
    · rw [e]
      exact Nat.le_refl _
    · rw [vecsTo_succ, List.length_append]
      have := ih (by omega)
      omega
theorem vecs_mem : ∀ (m b : Nat) v, v ∈ vecs m b → v.length = m
  | 0, b, v, h => by
    have h : v ∈ [([] : List Nat)] := h
    rw [List.mem_singleton.mp h]
    rfl
  | m + 1, b, v, h => by
    have h : v ∈ (List.range (W b)).flatMap fun j => (vecs m (b - tw j)).map (j :: ·) := h
    obtain ⟨j, _, h⟩ := List.mem_flatMap.mp h
    obtain ⟨u, hu, rfl⟩ := List.mem_map.mp h
    rw [List.length_cons, vecs_mem m _ u hu]
section
variable {P : Program} {w : World} {K : PySem.W.Frag} {mg : Str → Option Value} {base : Heap}
theorem op_catAN {X : Cx} {K : PySem.W.Frag} (h : X.K = K) : OpR X (binaryOp .Add) (rCatA K) := h ▸ op_catA
abbrev s_law_vectors : Stmt := top 34
abbrev N_law_vectors : List Str := ["_law_many", "_law_wide", "_law_found", "_law_j", "_law_rest"]
theorem sc_law_vectors : FnScope N_law_vectors ["_law_many", "_law_wide"] (defScope s_law_vectors) := ⟨rfl, rfl, rfl, by decide +kernel, rfl, by decide +kernel, by decide +kernel⟩
theorem ok_law_vectors {f : Addr} {fd : FuncData} (F : Fun K "_law_vectors" "_law_vectors" s_law_vectors f fd) (T : Glob mg) (D_law_twos : Df P w K mg base 1 "_law_twos" ["_law_number"] spTw) (g : mg "_law_vectors" = some (.ref f)) (kp : PySem.W.keepIn K (.ref f) = true) (bb : Binds K fd ["_law_many", "_law_wide"] []) :
    ∀ m, FnOk P w K mg base CX0 (m + 2) f fd ["_law_many", "_law_wide"] (spVecs m)
  | 0 => by
    refine F.ok sc_law_vectors (fun vs H Q E h => ?_) (fun cdv A outer s H vs Q E hr h => ?_)
    · obtain ⟨b, rfl, _⟩ := h
      rfl
    · obtain ⟨b, rfl, hb1, hb, hv, hm, kq⟩ := h
      have nd := sc_law_vectors.nd
      refine ⟨_, (pss_cons (ps_if (pt_cmpR op_eq (pv 0) pe_int (nomark _))
      (pss_one (ps_ret (pe_lst (pa_cons (pe_tup pa_nil) pa_nil))))
      pss_nil)
      (pss_cons ps_never (pss_cons ps_never (pss_one ps_never)))), ?_⟩
      refine ⟨_, rfl, rfl, _, rfl, iteT ?_⟩
      refine ⟨(by show 0 ≤ sizeLine; decide), fun t ht => ⟨(by show 1 ≤ sizeLine; decide), fun L hL => ?_⟩⟩
      have s1 := new_same (o := .tup []) ht
      have s2 := new_same (o := .lst [.ref t]) hL
      refine kq L _ (same_free s1 hL) (s1.trans s2) ⟨[t], upd_same, rfl, fun i xs e => ?_⟩
      match i, e with
      | 0, e =>
        cases e
        exact ⟨t, rfl, s2 _ _ upd_same⟩
      | i + 1, e => simp [dV, vecs] at e
  | m + 1 => by
    have ih := ok_law_vectors F T D_law_twos g kp bb m
    refine F.ok sc_law_vectors (fun vs H Q E h => ?_) (fun cdv A outer s H vs Q E hr h => ?_)
    · obtain ⟨b, rfl, _⟩ := h
      rfl
    · obtain ⟨b, rfl, hb1, hb, hv, hm, kq⟩ := h
      have nd := sc_law_vectors.nd
      refine ⟨_, (pss_cons (ps_if (pt_cmpR op_eq (pv 0) pe_int (nomark _))
      (pss_one ps_never)
      pss_nil)
      (pss_cons (ps_set (i := 2) nd rfl (Or.inl rfl) (pe_lst pa_nil))
      (pss_cons (ps_for PassesOwn.never rfl (pi_list (pe_lc (own := [("_law_j", 3)]) (g := gName 3) rfl nd (pi_range1 (by rfl) T.g_range (pa_cons (pe_op op_add (pe_op op_mul pe_int (pv 1)) pe_int) pa_nil)) (blkOk_by (N := N_law_vectors) (sc := defScope s_law_vectors) (by decide +kernel)) (fun _ _ _ _ _ => pg_name (i := 3) nd rfl (Or.inl rfl)) (fun _ _ _ _ _ => pts_one (pt_cmpR op_lt (pe_call D_law_twos.ok (hr.mono (by omega)) (by rfl) D_law_twos.g D_law_twos.kp D_law_twos.b .nil pass0 (pa_cons (pv 3) pa_nil)) (pv 1) (nomark _))) (fun _ _ _ _ _ => (pv 3)))) (pg_name (i := 3) nd rfl (Or.inr rfl))
      (pss_one (ps_expr (pe_bm PySem.F.plainAttrs_list PySem.F.slot_list_extend PySem.F.type_list_extend mt_extend (pv 2) (pa_cons (pe_lc (own := [("_law_rest", 4)]) (g := gName 4) (tt := tYes) rfl nd (pi_list (pe_call ih hr (by rfl) g kp bb .nil pass0 (pa_cons (pe_op op_sub (pv 0) pe_int) (pa_cons (pe_op op_sub (pv 1) (pe_call D_law_twos.ok (hr.mono (by omega)) (by rfl) D_law_twos.g D_law_twos.kp D_law_twos.b .nil pass0 (pa_cons (pv 3) pa_nil))) pa_nil)))) (blkOk_by (N := N_law_vectors) (sc := defScope s_law_vectors) (by decide +kernel)) (fun _ _ _ _ _ => pg_name (i := 4) nd rfl (Or.inl rfl)) (fun _ _ _ _ _ => pts_nil) (fun _ _ _ _ _ => (pe_op (op_catAN (K := K) rfl) (pe_tup (pa_cons (pv 3) pa_nil)) (pv 4)))) pa_nil)))))
      (pss_one (ps_ret (pv 2)))))), ?_⟩
      have zl : 16777216 = sizeLine := sizeLine_eq.symm
      have hm1 : ((m + 1 : Nat) : Int) ≠ 0 := by omega
      refine seq_by (fun σ H1 => H1 = H ∧ σ = [some (.int ((m + 1 : Nat) : Int)), some (.int (b : Int)), none, none, none]) (fun D' hD' => ?_) ?_
      · refine ⟨_, rfl, rfl, _, rfl, ?_⟩
        rw [decide_eq_false (fun z => hm1 (V.int.inj z))]
        exact iteF (hD' _ _ ⟨rfl, rfl⟩)
      rintro σ H1 ⟨rfl, rfl⟩
      refine seq_by (fun σ H2 => ∃ L : Addr, σ = [some (.int ((m + 1 : Nat) : Int)), some (.int (b : Int)), some (.ref L), none, none] ∧ Same H1 H2 ∧ LTI H2 L [] ∧ H1 L = none) (fun D' hD' => ?_) ?_
      · exact ⟨(by show 0 ≤ sizeLine; omega), fun L hL => hD' _ _ ⟨L, rfl, new_same hL, ⟨[], upd_same, rfl, fun i xs e => by simp at e⟩, hL⟩⟩
      rintro σ H2 ⟨L, rfl, s2, hl2, hLn⟩
      have hW := W_66 hb
      have hWle := W_le b
      refine ⟨_, rfl, _, _, rfl, rfl, .inl ⟨by decide, by decide⟩, _, _, rfl, rfl, 2 * (b : Int) + 2, rfl, by omega, by omega, fun J hJ => ?_⟩
      rw [show (2 * (b : Int) + 2).toNat = 2 * b + 2 by omega]
      refine lc_it (n := 2 * b + 2) walk_range (fun i H3 => Same H2 H3 ∧ LI H3 J ((List.range (min i (W b))).map fun (j : Nat) => (j : Int))) ⟨new_same hJ, by rw [Nat.zero_min]; exact upd_same⟩ (fun _ _ _ _ => trivial) ?_ ?_
      · rintro j x H3 H4 hj ⟨s3, h3⟩ ⟨rfl, rfl⟩
        refine ⟨rfl, ?_⟩
        have e0 : (0 : Int) + (j : Int) = (j : Int) := by omega
        refine ⟨_, rfl, j, by show [V.int (0 + (j : Int))] = _; rw [e0], _, rfl, _, _, rfl, rfl, _, rfl, ?_⟩
        refine ite2 (fun h => ?_) (fun h => ?_)
        · have h : (tw j : Int) < (b : Int) := of_decide_eq_true h
          have hjW : j < W b := W_iff.mp (by omega)
          refine ⟨_, rfl, _, h3, by rw [List.length_map, List.length_map, List.length_range]; omega, same_up s3 hJ, ?_⟩
          rw [Nat.min_eq_left (by omega), Nat.min_eq_left (by omega), List.range_succ, List.map_append]
          have : V.int ((fun i => 0 + (i : Int)) j) = V.int (j : Int) := by show V.int (0 + (j : Int)) = _; rw [e0]
          show LI (upd H4 J (.lst (_ ++ [V.int (0 + (j : Int))]))) J _
          rw [e0]
          exact li_snoc
        · have hjW : ¬ j < W b := fun z => h (decide_eq_true (by have := W_iff.mpr z; omega))
          refine ⟨s3, ?_⟩
          rw [Nat.min_eq_right (by omega)] at h3 ⊢
          exact h3
      rintro H3 ⟨s3, h3⟩
      rw [Nat.min_eq_right hWle] at h3
      have hl3 := hl2.same s3
      refine ⟨J, rfl, ⟨_, SqL.of h3⟩, ?_⟩
      have hJL : ((((List.range (W b)).map fun (j : Nat) => (j : Int))).map V.int).length = W b := by rw [List.length_map, List.length_map, List.length_range]
      have nJL : J ≠ L := fun z => by
        obtain ⟨as, q, _⟩ := hl2
        rw [z, q] at hJ
        cases hJ
      have hvt : vecsTo m b (W b) = vecs (m + 1) b := rfl
      refine for_list (xs := (((List.range (W b)).map fun (j : Nat) => (j : Int))).map V.int) (fun j σ H4 => ∃ a3 a4 : Option V, σ = [some (.int ((m + 1 : Nat) : Int)), some (.int (b : Int)), some (.ref L), a3, a4] ∧ Same H1 H4 ∧ LI H4 J ((List.range (W b)).map fun (j : Nat) => (j : Int)) ∧ LTI H4 L ((vecsTo m b j).map dI))
        ⟨none, none, rfl, s2.trans s3, h3, hl3⟩ (fun j σ H4 _ h => by obtain ⟨_, _, _, _, h, _⟩ := h; exact SqL.of h) ?_ ?_
      · rintro j x σ H4 hx ⟨a3, a4, rfl, s4, hJ4, hl4⟩
        have hj : j < W b := by
          have := (List.getElem?_eq_some_iff.mp hx).1
          omega
        rw [map_at_int (at_range (f := fun (j : Nat) => (j : Int)) hj)] at hx
        obtain rfl := Option.some.inj hx
        have htj : tw j < b := W_iff.mpr hj
        obtain ⟨us, u1, u2, u3⟩ := hl4.lenV
        have hsub : (vecs m (b - tw j)).length ≤ (vecs (m + 1) b).length := by
          rw [← hvt]
          have h1 := vecsTo_le m b (j + 1) (W b) hj
          rw [vecsTo_succ, List.length_append, List.length_map] at h1
          omega
        refine ⟨_, rfl, .inl ⟨rfl, _, SqL.of u1⟩, _, rfl, _, _, rfl, rfl, _, rfl, _, rfl, j, rfl, _, _, rfl, rfl, b - tw j, ?_, by omega, by omega, by omega, by omega, fun V1 H5 hV1 s5 hl5 => ?_⟩
        · rw [show ((b - tw j : Nat) : Int) = (b : Int) - (tw j : Int) from by omega, show ((m : Nat) : Int) = ((m + 1 : Nat) : Int) - 1 from by omega]
          rfl
        obtain ⟨ws, w1, w2, w3⟩ := hl5.lenV
        refine ⟨V1, rfl, ⟨_, SqL.of w1⟩, fun G hG => ?_⟩
        refine lc_list (xs := ws) (fun i H6 => Same H5 H6 ∧ LTI H6 G (((vecs m (b - tw j)).take i).map fun v => dI (j :: v))) ⟨new_same hG, [], upd_same, rfl, fun i xs e => by simp at e⟩ (fun i H6 _ h => SqL.of (h.1 _ _ w1)) ?_ ?_
        · rintro i y H6 hy ⟨s6, h6⟩
          have hi : i < (vecs m (b - tw j)).length := by
            have := (List.getElem?_eq_some_iff.mp hy).1
            rw [w2] at this
            unfold dV at this
            rw [List.length_map] at this
            exact this
          have hvi := List.getElem?_eq_getElem hi
          obtain ⟨p, p1, p2⟩ := w3 i (dI (vecs m (b - tw j))[i]) (by unfold dV; rw [List.getElem?_map, hvi]; rfl)
          rw [hy] at p1
          obtain rfl := Option.some.inj p1
          refine ⟨rfl, ?_⟩
          dsimp only [tYes]
          rw [if_pos rfl]
          refine ⟨_, rfl, (by show 1 ≤ sizeLine; omega), fun t ht => ⟨_, rfl, ?_⟩⟩
          have s7' := new_same (o := .tup [V.int (j : Int)]) ht
          have s7 := s6.trans s7'
          have h7 := h6.same s7'
          have ht7 : TupI (upd H6 t (.tup [V.int (j : Int)])) t [(j : Int)] := upd_same
          have fin : ∀ (q : Addr) (H8 : Hp), Same (upd H6 t (.tup [V.int (j : Int)])) H8 → TupI H8 q (dI (j :: (vecs m (b - tw j))[i])) → ∃ acc, H8 G = some (.lst acc) ∧ acc.length < sizeLine ∧ Same H5 (upd H8 G (.lst (acc ++ [.ref q]))) ∧ LTI (upd H8 G (.lst (acc ++ [.ref q]))) G (((vecs m (b - tw j)).take (i + 1)).map fun v => dI (j :: v)) := fun q H8 s8 hq => by
            obtain ⟨acc, a1, a2, a3⟩ := lti_app (h7.same s8) hq (by rw [List.length_map, List.length_take]; omega)
            refine ⟨acc, a1, a2, same_up (s7.trans s8) hG, ?_⟩
            rw [List.take_succ, hvi, List.map_append]
            exact a3
          have p7 := (p2.same s6).same s7'
          refine ⟨t, p, _, _, rfl, rfl, SqT.of upd_same, SqT.of p7, ?_, fun e => (by cases e), fun _ e => ?_, fun _ ne q hq => ?_⟩
          · rw [List.length_map]
            unfold dI
            rw [List.length_map]
            have : (vecs m (b - tw j))[i].length = m := vecs_mem m _ _ (List.getElem_mem hi)
            rw [this]
            show 1 + m ≤ sizeLine
            omega
          · refine fin t _ (fun _ _ e => e) ?_
            have e2 : (vecs m (b - tw j))[i] = [] := by
              have := List.map_eq_nil_iff.mp e
              exact List.map_eq_nil_iff.mp this
            rw [e2]
            exact ht7
          · exact fin q _ (new_same hq) upd_same
        · rintro H6 ⟨s6, h6⟩
          rw [w2] at h6
          unfold dV at h6
          rw [List.length_map, List.take_length] at h6
          have s56 := s5.trans s6
          have hl6 := hl4.same s56
          obtain ⟨gs, g1, g2, g3⟩ := h6.lenV
          rw [List.length_map] at g2
          have hul : us.length ≤ 5000 := by
            rw [u2, List.length_map]
            have := vecsTo_le m b j (W b) (Nat.le_of_lt hj)
            rw [hvt] at this
            omega
          refine ⟨L, G, _, _, rfl, rfl, s56 _ _ u1, g1, by omega, ?_⟩
          refine ⟨_, _, rfl, same_up (s4.trans s56) hLn, (hJ4.same s56).updN nJL, ?_⟩
          rw [vecsTo_succ, List.map_append, List.map_map]
          exact lti_ext hl6 h6 (s56 _ _ u1) g1
      · rintro σ H4 ⟨a3, a4, rfl, s4, hJ4, hl4⟩
        rw [hJL, hvt] at hl4
        exact ⟨_, rfl, kq L H4 hLn s4 hl4⟩
end
end My

set_option pp.maxSteps 300
set_option Elab.async false
set_option linter.all false
set_option maxRecDepth 100000
set_option maxHeartbeats 1000000
namespace My
open PySem L2 MyR
theorem sA_le {ds : List Nat} (hm : ds.length = 1 ∨ ds.length = 2) (hs8 : ds.sum ≤ 8) : ∀ i, i ≤ ds.length → sA ds i ≤ 8 ∧ sA ds ds.length = ds.sum := fun i hi => by
  rcases hm with e | e
  · match ds, e with
    | [d], _ =>
      have : d ≤ 8 := by simpa using hs8
      match i, hi with
      | 0, _ => exact ⟨Nat.zero_le _, by show 0 + d = d + 0; omega⟩
      | 1, _ => exact ⟨by show 0 + d ≤ 8; omega, by show 0 + d = d + 0; omega⟩
  · match ds, e with
    | [d, d'], _ =>
      have : d + d' ≤ 8 := by simpa using hs8
      match i, hi with
      | 0, _ => exact ⟨Nat.zero_le _, by show 0 + d + d' = d + (d' + 0); omega⟩
      | 1, _ => exact ⟨by show 0 + d ≤ 8; omega, by show 0 + d + d' = d + (d' + 0); omega⟩
      | 2, _ => exact ⟨by show 0 + d + d' ≤ 8; omega, by show 0 + d + d' = d + (d' + 0); omega⟩
theorem gA_256 {ds : List Nat} (hm : ds.length = 1 ∨ ds.length = 2) (hs8 : ds.sum ≤ 8) (xs : List Int) : ∀ i, i ≤ ds.length → 0 ≤ gA ds xs i ∧ gA ds xs i < 256 := fun i hi => by
  obtain ⟨h1, h2⟩ := gA_lt ds xs i
  have h3 : (2 : Int) ^ sA ds i ≤ 2 ^ 8 := Int.le_of_dvd (by decide) (p2_dvd (sA_le hm hs8 i hi).1)
  exact ⟨h1, by have : (2 : Int) ^ 8 = 256 := by decide
                omega⟩
theorem d_le8 {ds : List Nat} (hm : ds.length = 1 ∨ ds.length = 2) (hs8 : ds.sum ≤ 8) : ∀ i, i < ds.length → ds.getD i 0 ≤ 8 := fun i hi => by
  have := (sA_le hm hs8 (i + 1) hi).1
  have e : sA ds (i + 1) = sA ds i + ds.getD i 0 := rfl
  omega
/-- the variables of a point -/
def vrI (ds : List Nat) (xs : List Int) (i : Nat) : Int := xs.getD i 0 / 2 ^ (ds.getD i 0)
def spClass : Sp := fun vs H Q _ => ∃ (pt lt : Addr) (ds : List Nat) (xs : List Int), vs = [.ref pt, .ref lt] ∧ TupI H pt xs ∧ TupI H lt (dI ds) ∧ xs.length = ds.length ∧ (ds.length = 1 ∨ ds.length = 2) ∧ ds.sum ≤ 8 ∧
  ∀ (T t2 : Addr) H', Same H H' → H' T = some (.tup [.int (gA ds xs ds.length), .ref t2]) → TupI H' t2 ((List.range ds.length).map (vrI ds xs)) → Q (.ref T) H'
section
variable {P : Program} {w : World} {K : PySem.W.Frag} {mg : Str → Option Value} {base : Heap}
abbrev s_law_class : Stmt := top 36
abbrev N_law_class : List Str := ["_law_spot", "_law_depths", "_law_at_here", "_law_number", "_law_depth"]
theorem sc_law_class : FnScope N_law_class ["_law_spot", "_law_depths"] (defScope s_law_class) := ⟨rfl, rfl, rfl, by decide +kernel, rfl, by decide +kernel, by decide +kernel⟩
theorem ok_law_class {f : Addr} {fd : FuncData} (F : Fun K "_law_class" "_law_class" s_law_class f fd) (T : Glob mg) : FnOk P w K mg base CX0 1 f fd ["_law_spot", "_law_depths"] spClass := by
  refine F.ok sc_law_class (fun vs H Q E h => ?_) (fun cdv A outer s H vs Q E hr h => ?_)
  · obtain ⟨pt, lt, ds, xs, rfl, _⟩ := h
    rfl
  · obtain ⟨pt, lt, ds, xs, rfl, hx, hl, hxl, hm, hs8, kq⟩ := h
    have nd := sc_law_class.nd
    refine ⟨_, (pss_cons (ps_set (i := 2) nd rfl (Or.inl rfl) pe_int)
    (pss_cons (ps_for PassesOwn.never rfl (pi_zipK (by rfl) T.g_zip (pa_cons (pv 0) (pa_cons (pv 1) pa_nil))) (pg_tup (by rfl) (pgs_cons (pg_name (i := 3) nd rfl (Or.inl rfl)) (pgs_cons (pg_name (i := 4) nd rfl (Or.inl rfl)) pgs_nil)))
    (pss_one (ps_set (i := 2) nd rfl (Or.inl rfl) (pe_op op_add (pe_op op_shl (pv 2) (pv 4)) (pe_op op_mod (pv 3) (pe_op op_shl pe_int (pv 4)))))))
    (pss_one (ps_ret (pe_tup (pa_cons (pv 2) (pa_cons (pe_callTy call_tuple_of (by rfl) T.g_tuple (by decide +kernel) (pa_cons (pe_lc (own := [("_law_number", 3), ("_law_depth", 4)]) (g := gTup K 2 (gCons (gName 3) (gCons (gName 4) gNil))) (tt := tYes) rfl nd (pi_zipK (by rfl) T.g_zip (pa_cons (pv 0) (pa_cons (pv 1) pa_nil))) (blkOk_by (N := N_law_class) (sc := defScope s_law_class) (by decide +kernel)) (fun _ _ _ _ _ => pg_tup (by rfl) (pgs_cons (pg_name (i := 3) nd rfl (Or.inl rfl)) (pgs_cons (pg_name (i := 4) nd rfl (Or.inl rfl)) pgs_nil))) (fun _ _ _ _ _ => pts_nil) (fun _ _ _ _ _ => (pe_op op_shrN (pv 3) (pv 4)))) pa_nil)) pa_nil))))))), ?_⟩
    have zl : 16777216 = sizeLine := sizeLine_eq.symm
    have hn2 : ds.length ≤ 2 := by omega
    refine seq_by (fun σ H2 => H2 = H ∧ σ = [some (.ref pt), some (.ref lt), some (.int 0), none, none]) (fun D' hD' => hD' _ _ ⟨rfl, rfl⟩) ?_
    rintro σ H ⟨rfl, rfl⟩
    have hlen2 : (xs.map V.int).length = ds.length := by rw [List.length_map, hxl]
    have hlen : (xs.map V.int).length = ((dI ds).map V.int).length := by rw [hlen2, List.length_map]; unfold dI; rw [List.length_map]
    have hat : ∀ {i : Nat} {x1 x2 : V}, i < ds.length → (xs.map V.int)[i]? = some x1 → ((dI ds).map V.int)[i]? = some x2 → x1 = .int (xs.getD i 0) ∧ x2 = .int ((ds.getD i 0 : Nat) : Int) := fun {i x1 x2} hi hx1 hx2 => by
      have hdi : ds[i]? = some (ds.getD i 0) := by rw [List.getD_eq_getElem?_getD, List.getElem?_eq_getElem hi]; rfl
      have hxi : xs[i]? = some (xs.getD i 0) := by rw [List.getD_eq_getElem?_getD, List.getElem?_eq_getElem (show i < xs.length by omega)]; rfl
      rw [map_at_int hxi] at hx1
      have hdI : (dI ds)[i]? = some ((ds.getD i 0 : Nat) : Int) := by unfold dI; rw [List.getElem?_map, hdi]; rfl
      rw [map_at_int hdI] at hx2
      exact ⟨(Option.some.inj hx1).symm, (Option.some.inj hx2).symm⟩
    refine seq_by (fun σ H3 => ∃ a3 a4 : Option V, σ = [some (.ref pt), some (.ref lt), some (.int (gA ds xs ds.length)), a3, a4] ∧ Same H H3) (fun D' hD' => ?_) ?_
    · refine ⟨_, rfl, _, rfl, true, true, pt, lt, _, _, rfl, sqK_t (SqT.of hx), sqK_t (SqT.of hl), ?_⟩
      refine for_it (walk_zipK hlen) (fun i σ H3 => ∃ a3 a4 : Option V, σ = [some (.ref pt), some (.ref lt), some (.int (gA ds xs i)), a3, a4] ∧ Same H H3)
        ⟨none, none, rfl, fun _ _ e => e⟩ (fun i σ H3 _ h => by obtain ⟨_, _, _, h⟩ := h; exact ⟨sqK_t (SqT.of (hx.same h)), sqK_t (SqT.of (hl.same h))⟩) ?_ ?_
      · rintro i x σ H3 H4 hi ⟨a3, a4, rfl, s3⟩ ⟨T', x1, x2, rfl, hT, rfl, hx1, hx2⟩
        rw [hlen2] at hi
        obtain ⟨rfl, rfl⟩ := hat hi hx1 hx2
        have s4 := s3.trans (new_same (o := .tup [V.int (xs.getD i 0), .int ((ds.getD i 0 : Nat) : Int)]) hT)
        refine ⟨T', _, rfl, SqT.of upd_same, rfl, _, _, rfl, _, _, rfl, rfl, ?_⟩
        generalize upd H3 T' (.tup [V.int (xs.getD i 0), .int ((ds.getD i 0 : Nat) : Int)]) = H4 at s4 ⊢
        have hd8 := d_le8 hm hs8 i hi
        have hg := gA_256 hm hs8 xs i (by omega)
        have hp := p2_pos (ds.getD i 0)
        refine ⟨_, rfl, _, rfl, _, _, rfl, rfl, ⟨by omega, by omega, by omega⟩, _, rfl, _, rfl, _, _, rfl, rfl, ⟨by omega, by omega, by decide⟩, _, _, rfl, rfl, ?_, _, _, rfl, rfl, some (.int (xs.getD i 0)), some (.int ((ds.getD i 0 : Nat) : Int)), ?_, s4⟩
        · rw [Int.toNat_natCast, Int.one_mul]
          exact hp
        · rw [Int.toNat_natCast, Int.one_mul]
          rfl
      · rintro σ H3 ⟨a3, a4, rfl, s3⟩
        refine hD' _ _ ⟨a3, a4, ?_, s3⟩
        rw [hlen2]
    rintro σ H3 ⟨a3, a4, rfl, s3⟩
    refine ⟨_, rfl, _, rfl, _, rfl, true, true, pt, lt, _, _, rfl, sqK_t (SqT.of (hx.same s3)), sqK_t (SqT.of (hl.same s3)), fun D hD => ?_⟩
    refine lc_it (walk_zipK hlen) (fun i H4 => Same H3 H4 ∧ LI H4 D ((List.range i).map (vrI ds xs))) ⟨new_same hD, upd_same⟩ (fun i H4 _ h => ⟨sqK_t (SqT.of (hx.same (s3.trans h.1))), sqK_t (SqT.of (hl.same (s3.trans h.1)))⟩) ?_ ?_
    · rintro i x H4 H5 hi ⟨s4, h4⟩ ⟨T', x1, x2, rfl, hT, rfl, hx1, hx2⟩
      rw [hlen2] at hi
      obtain ⟨rfl, rfl⟩ := hat hi hx1 hx2
      have s5' := new_same (o := .tup [V.int (xs.getD i 0), .int ((ds.getD i 0 : Nat) : Int)]) hT
      have s5 := s4.trans s5'
      have h5 := h4.same s5'
      refine ⟨T', _, rfl, SqT.of upd_same, rfl, _, _, rfl, _, _, rfl, rfl, rfl, ?_⟩
      dsimp only [tYes]
      rw [if_pos rfl]
      generalize upd H4 T' (.tup [V.int (xs.getD i 0), .int ((ds.getD i 0 : Nat) : Int)]) = H5 at s5 h5 ⊢
      refine ⟨_, rfl, _, rfl, _, ds.getD i 0, rfl, rfl, ?_⟩
      refine ⟨_, h5, by rw [List.length_map, List.length_map, List.length_range]; omega, same_up s5 hD, ?_⟩
      rw [List.range_succ, List.map_append]
      exact li_snoc
    · rintro H4 ⟨s4, h4⟩
      rw [hlen2] at h4
      refine ⟨D, _, rfl, .inl ⟨SqL.of h4, fun t ht => ?_⟩⟩
      have s5 := (s3.trans s4).trans (new_same (o := .tup (((List.range ds.length).map (vrI ds xs)).map V.int)) ht)
      exact ⟨(by show 2 ≤ sizeLine; omega), fun T2 hT2 => kq T2 t _ (s5.trans (new_same hT2)) upd_same (new_same hT2 _ _ upd_same)⟩
end
end My

set_option pp.maxSteps 300
set_option Elab.async false
set_option linter.all false
set_option maxRecDepth 100000
set_option maxHeartbeats 1000000
namespace My
open PySem L2 MyR
/-- the residues of the first i inputs -/
def resL (ds : List Nat) : Nat → List (List Int)
  | 0 => [[]]
  | i + 1 => (resL ds i).flatMap fun r => (List.range (2 ^ ds.getD i 0)).map fun (x : Nat) => r ++ [(x : Int)]
theorem resL_mem (ds : List Nat) : ∀ i r, r ∈ resL ds i → r.length = i
  | 0, r, h => by
    rw [List.mem_singleton.mp h]
    rfl
  | i + 1, r, h => by
    obtain ⟨q, hq, h⟩ := List.mem_flatMap.mp h
    obtain ⟨x, _, rfl⟩ := List.mem_map.mp h
    rw [List.length_append, resL_mem ds i q hq]
    rfl
theorem fm_const {α β : Type} {f : α → List β} {n : Nat} : ∀ {xs : List α}, (∀ x ∈ xs, (f x).length = n) → (xs.flatMap f).length = xs.length * n
  | [], _ => by rw [List.flatMap_nil]; exact (Nat.zero_mul n).symm
  | x :: xs, h => by
    rw [List.flatMap_cons, List.length_append, fm_const fun y hy => h y (List.mem_cons_of_mem _ hy), h x (List.mem_cons_self ..), List.length_cons, Nat.succ_mul, Nat.add_comm]
theorem resL_len (ds : List Nat) : ∀ i, (resL ds i).length = 2 ^ sA ds i
  | 0 => rfl
  | i + 1 => by
    show ((resL ds i).flatMap _).length = 2 ^ (sA ds i + ds.getD i 0)
    rw [fm_const (n := 2 ^ ds.getD i 0) fun r _ => by rw [List.length_map, List.length_range], resL_len ds i, Nat.pow_add]
theorem fm_split {α β : Type} (f : α → List β) (xs : List α) (i : Nat) (x : α) (h : xs[i]? = some x) : (xs.take (i + 1)).flatMap f = (xs.take i).flatMap f ++ f x := by
  rw [List.take_succ, h, List.flatMap_append]
  simp
theorem fm_take_le {α β : Type} (f : α → List β) (xs : List α) (i : Nat) : ((xs.take i).flatMap f).length ≤ (xs.flatMap f).length := by
  have : xs.flatMap f = (xs.take i).flatMap f ++ (xs.drop i).flatMap f := by rw [← List.flatMap_append, List.take_append_drop]
  rw [this, List.length_append]
  omega
/-- a spot -/
def spotI (ds : List Nat) (r v : List Int) : List Int := (List.range ds.length).map fun i => r.getD i 0 + v.getD i 0 * 2 ^ ds.getD i 0
def spotsL (ds : List Nat) (b : Nat) : List (List Int) := (resL ds ds.length).flatMap fun r => (dV b ds.length).map (spotI ds r)
def spSpots : Sp := fun vs H Q _ => ∃ (lt : Addr) (ds : List Nat) (b : Nat), vs = [.ref lt, .int (b : Int)] ∧ TupI H lt (dI ds) ∧ (ds.length = 1 ∨ ds.length = 2) ∧ ds.sum ≤ 8 ∧ 1 ≤ b ∧ b ≤ 64 ∧ (vecs ds.length b).length < 5000 ∧ ∀ (L : Addr) H', H L = none → Same H H' → LTI H' L (spotsL ds b) → Q (.ref L) H'
/-- a list of tuples, its values told -/
def LTV (H : Hp) (R : Addr) (us : List V) (xss : List (List Int)) : Prop := H R = some (.lst us) ∧ us.length = xss.length ∧ ∀ (i : Nat) xs, xss[i]? = some xs → ∃ p, us[i]? = some (.ref p) ∧ TupI H p xs
theorem LTV.same {H H' : Hp} {R : Addr} {us : List V} {xss : List (List Int)} (h : LTV H R us xss) (s : Same H H') : LTV H' R us xss := ⟨s _ _ h.1, h.2.1, fun i xs e => let ⟨p, q1, q2⟩ := h.2.2 i xs e; ⟨p, q1, q2.same s⟩⟩
theorem LTV.updL {H : Hp} {R L : Addr} {us vs : List V} {xss : List (List Int)} {o : HO} (h : LTV H R us xss) (n : R ≠ L) (hL : H L = some (.lst vs)) : LTV (upd H L o) R us xss :=
  ⟨by rw [upd_ne n]; exact h.1, h.2.1, fun i xs e => let ⟨p, q1, q2⟩ := h.2.2 i xs e; ⟨p, q1, by
    have np : p ≠ L := fun z => by
      have q2 : H p = _ := q2
      rw [z, hL] at q2
      cases q2
    show upd H L _ p = _
    rw [upd_ne np]
    exact q2⟩⟩
theorem LTV.at {H : Hp} {R : Addr} {us : List V} {xss : List (List Int)} (h : LTV H R us xss) {k : Nat} {x : V} (hx : us[k]? = some x) : ∃ (p : Addr) (xs : List Int), k < xss.length ∧ xss[k]? = some xs ∧ x = .ref p ∧ TupI H p xs := by
  have hk := (List.getElem?_eq_some_iff.mp hx).1
  rw [h.2.1] at hk
  obtain ⟨p, q1, q2⟩ := h.2.2 k _ (List.getElem?_eq_getElem hk)
  rw [hx] at q1
  exact ⟨p, _, hk, List.getElem?_eq_getElem hk, Option.some.inj q1, q2⟩
theorem vecs_ent {b : Nat} (hb : b ≤ 64) : ∀ (m b' : Nat) v, b' ≤ b → v ∈ vecs m b' → ∀ j ∈ v, j < 66
  | 0, b', v, _, h => by
    have h : v ∈ [([] : List Nat)] := h
    rw [List.mem_singleton.mp h]
    intro j hj
    cases hj
  | m + 1, b', v, hb', h => by
    have h : v ∈ (List.range (W b')).flatMap fun j => (vecs m (b' - tw j)).map (j :: ·) := h
    obtain ⟨j, hj, h⟩ := List.mem_flatMap.mp h
    obtain ⟨u, hu, rfl⟩ := List.mem_map.mp h
    have hj := List.mem_range.mp hj
    have hW := W_66 (show b' ≤ 64 by omega)
    intro k hk
    rcases List.mem_cons.mp hk with rfl | hk
    · omega
    · exact vecs_ent hb m _ u (by omega) hu k hk
def spVec12 : Sp := fun vs H Q E => ∃ m : Nat, (m = 1 ∨ m = 2) ∧ spVecs m vs H Q E
section
variable {P : Program} {w : World} {K : PySem.W.Frag} {mg : Str → Option Value} {base : Heap}
abbrev s_law_spots : Stmt := top 35
abbrev N_law_spots : List Str := ["_law_depths", "_law_wide", "_law_found", "_law_residues", "_law_depth", "_law_wider", "_law_residue", "_law_r", "_law_place", "_law_spot", "_law_z"]
theorem sc_law_spots : FnScope N_law_spots ["_law_depths", "_law_wide"] (defScope s_law_spots) := ⟨rfl, rfl, rfl, by decide +kernel, rfl, by decide +kernel, by decide +kernel⟩
theorem ok_law_vec12 {f : Addr} {fd : FuncData} (h : ∀ m, FnOk P w K mg base CX0 (m + 2) f fd ["_law_many", "_law_wide"] (spVecs m)) : FnOk P w K mg base CX0 4 f fd ["_law_many", "_law_wide"] spVec12 := by
  refine ⟨fun vs H Q E ⟨m, hm, e⟩ => (h m).len vs H Q E e, fun A outer s H args us vs Q E hr he hb hv ⟨m, hm, hs⟩ => ?_⟩
  exact ((h m).mono (show m + 2 ≤ 4 by omega)).run A outer s H args us vs Q E hr he hb hv hs
theorem ok_law_spots {f : Addr} {fd : FuncData} (F : Fun K "_law_spots" "_law_spots" s_law_spots f fd) (T : Glob mg) (D_law_vectors : Df P w K mg base 4 "_law_vectors" ["_law_many", "_law_wide"] spVec12) : FnOk P w K mg base CX0 5 f fd ["_law_depths", "_law_wide"] spSpots := by
  refine F.ok sc_law_spots (fun vs H Q E h => ?_) (fun cdv A outer s H vs Q E hr h => ?_)
  · obtain ⟨lt, ds, b, rfl, _⟩ := h
    rfl
  · obtain ⟨lt, ds, b, rfl, hl, hm, hs8, hb1, hb, hv, kq⟩ := h
    have nd := sc_law_spots.nd
    refine ⟨_, (pss_cons (ps_par (i := 2) (j := 3) rfl nd rfl rfl (by decide) rfl rfl (pa_cons (pe_lst pa_nil) (pa_cons (pe_lst (pa_cons (pe_tup pa_nil) pa_nil)) pa_nil)) (by rfl))
    (pss_cons (ps_for PassesOwn.never rfl (pi_tup (pv 0)) (pg_name (i := 4) nd rfl (Or.inl rfl))
    (pss_cons (ps_set (i := 5) nd rfl (Or.inl rfl) (pe_lst pa_nil))
    (pss_cons (ps_for PassesOwn.never rfl (pi_list (pv 3)) (pg_name (i := 6) nd rfl (Or.inr rfl))
    (pss_one (ps_expr (pe_bm PySem.F.plainAttrs_list PySem.F.slot_list_extend PySem.F.type_list_extend mt_extend (pv 5) (pa_cons (pe_lc (own := [("_law_r", 7)]) (g := gName 7) (tt := tYes) rfl nd (pi_range1 (by rfl) T.g_range (pa_cons (pe_op op_shl pe_int (pv 4)) pa_nil)) (blkOk_by (N := N_law_spots) (sc := defScope s_law_spots) (by decide +kernel)) (fun _ _ _ _ _ => pg_name (i := 7) nd rfl (Or.inl rfl)) (fun _ _ _ _ _ => pts_nil) (fun _ _ _ _ _ => (pe_op (op_catAN (K := K) rfl) (pv 6) (pe_tup (pa_cons (pv 7) pa_nil))))) pa_nil)))))
    (pss_one (ps_set (i := 3) nd rfl (Or.inl rfl) (pv 5))))))
    (pss_cons (ps_for PassesOwn.never rfl (pi_list (pv 3)) (pg_name (i := 6) nd rfl (Or.inr rfl))
    (pss_one (ps_for PassesOwn.never rfl (pi_list (pe_call D_law_vectors.ok (hr.mono (by decide)) (by rfl) D_law_vectors.g D_law_vectors.kp D_law_vectors.b .nil pass0 (pa_cons (pe_callB call_len_seq (by rfl) T.g_len PySem.boot_len (pa_cons (pv 0) pa_nil)) (pa_cons (pv 1) pa_nil)))) (pg_name (i := 8) nd rfl (Or.inl rfl))
    (pss_cons (ps_setLc (i := 9) (own := [("_law_r", 7), ("_law_z", 10), ("_law_depth", 4)]) (g := (gTup K 3 (gCons (gName 7) (gCons (gName 10) (gCons (gName 4) gNil))))) (tt := tYes) rfl nd rfl rfl (sw_true rfl rfl rfl (by decide +kernel)) (pi_zipK3 (by rfl) T.g_zip (pa_cons (pv 6) (pa_cons (pv 8) (pa_cons (pv 0) pa_nil)))) (blkOk_by (N := N_law_spots) (sc := defScope s_law_spots) (by decide +kernel)) (fun _ _ _ _ _ => pg_tup (by rfl) (pgs_cons (pg_name (i := 7) nd rfl (Or.inl rfl)) (pgs_cons (pg_name (i := 10) nd rfl (Or.inl rfl)) (pgs_cons (pg_name (i := 4) nd rfl (Or.inl rfl)) pgs_nil)))) (fun _ _ _ _ _ => pts_nil) (fun _ _ _ _ _ => (pe_op op_add (pv 7) (pe_op op_shl (pv 10) (pv 4)))))
    (pss_one (ps_expr (pe_bm PySem.F.plainAttrs_list PySem.F.slot_list_append PySem.F.type_list_append mt_append (pv 2) (pa_cons (pe_callTy call_tuple_of (by rfl) T.g_tuple (by decide +kernel) (pa_cons (pv 9) pa_nil)) pa_nil))))))))
    (pss_one (ps_ret (pv 2)))))), ?_⟩
    have zl : 16777216 = sizeLine := sizeLine_eq.symm
    have hn2 : ds.length ≤ 2 := by omega
    have hdl : ((dI ds).map V.int).length = ds.length := by rw [List.length_map]; unfold dI; rw [List.length_map]
    have hrl : ∀ i, i ≤ ds.length → (resL ds i).length ≤ 256 := fun i hi => by
      rw [resL_len]
      exact Nat.pow_le_pow_right (n := 2) (by decide) (sA_le hm hs8 i hi).1
    refine seq_by (fun σ H1 => ∃ L R : Addr, σ = [some (.ref lt), some (.int (b : Int)), some (.ref L), some (.ref R), none, none, none, none, none, none, none] ∧ Same H H1 ∧ LTI H1 L [] ∧ LTI H1 R [[]] ∧ H L = none) (fun D' hD' => ?_) ?_
    · refine ⟨(by show 0 ≤ sizeLine; omega), fun L hL => ⟨(by show 0 ≤ sizeLine; omega), fun t ht => ⟨(by show 1 ≤ sizeLine; omega), fun R hR => ⟨_, _, rfl, hD' _ _ ⟨L, R, rfl, ?_⟩⟩⟩⟩⟩
      have s1 := new_same (o := .lst []) hL
      have s2 := new_same (o := .tup []) ht
      have s3 := new_same (o := .lst [.ref t]) hR
      refine ⟨(s1.trans s2).trans s3, (show LTI (upd H L (.lst [])) L [] from ⟨[], upd_same, rfl, fun i xs e => by simp at e⟩).same (s2.trans s3), ⟨[t], upd_same, rfl, fun i xs e => ?_⟩, hL⟩
      match i, e with
      | 0, e =>
        cases e
        exact ⟨t, rfl, s3 _ _ upd_same⟩
    rintro σ H1 ⟨L, R0, rfl, s1, hl1, hr1, hLn⟩
    refine seq_by (fun σ H2 => ∃ (R : Addr) (a4 a5 a6 : Option V), σ = [some (.ref lt), some (.int (b : Int)), some (.ref L), some (.ref R), a4, a5, a6, none, none, none, none] ∧ Same H H2 ∧ LTI H2 L [] ∧ LTI H2 R (resL ds ds.length)) (fun D' hD' => ?_) ?_
    · refine ⟨_, rfl, lt, rfl, ⟨_, SqT.of (hl.same s1)⟩, ?_⟩
      refine for_tup (xs := (dI ds).map V.int) (fun i σ H2 => ∃ (R : Addr) (a4 a5 a6 : Option V), σ = [some (.ref lt), some (.int (b : Int)), some (.ref L), some (.ref R), a4, a5, a6, none, none, none, none] ∧ Same H H2 ∧ LTI H2 L [] ∧ LTI H2 R (resL ds i))
        ⟨R0, none, none, none, rfl, s1, hl1, hr1⟩ (fun i σ H2 _ h => by obtain ⟨_, _, _, _, _, h, _⟩ := h; exact SqT.of (hl.same h)) ?_ ?_
      · rintro i x σ H2 hx ⟨R, a4, a5, a6, rfl, s2, hl2, hr2⟩
        have hi : i < ds.length := by
          have := (List.getElem?_eq_some_iff.mp hx).1
          omega
        have hdi : ds[i]? = some (ds.getD i 0) := by rw [List.getD_eq_getElem?_getD, List.getElem?_eq_getElem hi]; rfl
        have hdI : (dI ds)[i]? = some ((ds.getD i 0 : Nat) : Int) := by unfold dI; rw [List.getElem?_map, hdi]; rfl
        rw [map_at_int hdI] at hx
        obtain rfl := Option.some.inj hx
        have hd8 := d_le8 hm hs8 i hi
        obtain ⟨us, hus⟩ : ∃ us, LTV H2 R us (resL ds i) := hr2.lenV
        refine seq_by (fun σ H3 => ∃ Wd : Addr, σ = [some (.ref lt), some (.int (b : Int)), some (.ref L), some (.ref R), some (.int ((ds.getD i 0 : Nat) : Int)), some (.ref Wd), a6, none, none, none, none] ∧ Same H2 H3 ∧ LTI H3 Wd [] ∧ H2 Wd = none) (fun D'' hD'' => ?_) ?_
        · exact ⟨(by show 0 ≤ sizeLine; omega), fun Wd hW => hD'' _ _ ⟨Wd, rfl, new_same hW, ⟨[], upd_same, rfl, fun i xs e => by simp at e⟩, hW⟩⟩
        rintro σ H3 ⟨Wd, rfl, s3, hw3, hWn⟩
        refine seq_by (fun σ H4 => ∃ a6 : Option V, σ = [some (.ref lt), some (.int (b : Int)), some (.ref L), some (.ref R), some (.int ((ds.getD i 0 : Nat) : Int)), some (.ref Wd), a6, none, none, none, none] ∧ Same H2 H4 ∧ LTI H4 Wd (resL ds (i + 1))) (fun D'' hD'' => ?_) ?_
        · refine ⟨_, rfl, R, rfl, ⟨_, SqL.of (hus.same s3).1⟩, ?_⟩
          refine for_list (xs := us) (fun k σ H4 => ∃ a6 : Option V, σ = [some (.ref lt), some (.int (b : Int)), some (.ref L), some (.ref R), some (.int ((ds.getD i 0 : Nat) : Int)), some (.ref Wd), a6, none, none, none, none] ∧ Same H2 H4 ∧ LTI H4 Wd (((resL ds i).take k).flatMap fun r => (List.range (2 ^ ds.getD i 0)).map fun (x : Nat) => r ++ [(x : Int)]))
            ⟨_, rfl, s3, hw3⟩ (fun k σ H4 _ h => by obtain ⟨_, _, h, _⟩ := h; exact SqL.of (hus.same h).1) ?_ ?_
          · rintro k x σ H4 hx ⟨b6, rfl, s4, hw4⟩
            obtain ⟨p, r, hk, hrk, rfl, hp2⟩ := hus.at hx
            have hrlen := resL_mem ds i r (List.mem_of_getElem? hrk)
            obtain ⟨ws, hws⟩ : ∃ ws, LTV H4 Wd ws _ := hw4.lenV
            have hN : (2 : Nat) ^ ds.getD i 0 ≤ 256 := by
              have := Nat.pow_le_pow_right (n := 2) (by decide) hd8
              exact Nat.le_trans this (by decide)
            have hN0 : (0 : Int) ≤ ((2 ^ ds.getD i 0 : Nat) : Int) := Int.natCast_nonneg _
            have hN1 : ((2 ^ ds.getD i 0 : Nat) : Int) ≤ 256 := Int.ofNat_le.mpr hN
            have hNi : (1 : Int) * 2 ^ ((ds.getD i 0 : Nat) : Int).toNat = ((2 ^ ds.getD i 0 : Nat) : Int) := by
              rw [Int.toNat_natCast, Int.one_mul, Int.natCast_pow]
              rfl
            refine ⟨_, rfl, .inl ⟨rfl, _, SqL.of hws.1⟩, _, rfl, _, _, rfl, rfl, ⟨by omega, by omega, by decide⟩, ((2 ^ ds.getD i 0 : Nat) : Int), by show [V.int _] = [V.int _]; rw [hNi], Int.le_trans (by decide) hN0, Int.lt_of_le_of_lt hN1 (by decide), fun G hG => ?_⟩
            rw [Int.toNat_natCast]
            refine lc_it (n := 2 ^ ds.getD i 0) walk_range (fun x H5 => Same H4 H5 ∧ LTI H5 G ((List.range x).map fun (x : Nat) => r ++ [(x : Int)])) ⟨new_same hG, [], upd_same, rfl, fun i xs e => by simp at e⟩ (fun _ _ _ _ => trivial) ?_ ?_
            · rintro x y H5 H6 hxN ⟨s5, h5⟩ ⟨rfl, rfl⟩
              refine ⟨rfl, ?_⟩
              dsimp only [tYes]
              rw [if_pos rfl]
              refine ⟨_, rfl, _, rfl, (by show 1 ≤ sizeLine; omega), fun t ht => ?_⟩
              have e0 : (0 : Int) + (x : Int) = (x : Int) := by omega
              rw [e0]
              have s6' := new_same (o := .tup [V.int (x : Int)]) ht
              have s6 := s5.trans s6'
              have h6 := h5.same s6'
              have p6 := (hp2.same s4).same s6
              have ht6 : TupI (upd H6 t (.tup [V.int (x : Int)])) t [(x : Int)] := upd_same
              have fin : ∀ (q : Addr) (H8 : Hp), Same (upd H6 t (.tup [V.int (x : Int)])) H8 → TupI H8 q (r ++ [(x : Int)]) → ∃ acc, H8 G = some (.lst acc) ∧ acc.length < sizeLine ∧ Same H4 (upd H8 G (.lst (acc ++ [.ref q]))) ∧ LTI (upd H8 G (.lst (acc ++ [.ref q]))) G ((List.range (x + 1)).map fun (x : Nat) => r ++ [(x : Int)]) := fun q H8 s8 hq => by
                obtain ⟨acc, a1, a2, a3⟩ := lti_app (h6.same s8) hq (by rw [List.length_map, List.length_range]; omega)
                refine ⟨acc, a1, a2, same_up (s6.trans s8) hG, ?_⟩
                rw [List.range_succ, List.map_append]
                exact a3
              refine ⟨p, t, _, _, rfl, rfl, SqT.of p6, SqT.of upd_same, ?_, fun e => ?_, fun _ e => (by cases e), fun _ ne q hq => ?_⟩
              · rw [List.length_map, hrlen]
                show i + 1 ≤ _
                omega
              · refine fin t _ (fun _ _ e => e) ?_
                rw [List.map_eq_nil_iff.mp e]
                exact ht6
              · refine fin q _ (new_same hq) ?_
                show upd _ q _ q = _
                rw [upd_same, List.map_append]
                rfl
            · rintro H5 ⟨s5, h5⟩
              obtain ⟨gs, hgs⟩ : ∃ gs, LTV H5 G gs _ := h5.lenV
              have hw5 := hws.same s5
              have gl : gs.length ≤ 256 := by
                rw [hgs.2.1, List.length_map, List.length_range]
                exact hN
              have wl : ws.length ≤ 256 := by
                rw [hws.2.1]
                exact Nat.le_trans (fm_take_le _ _ _) (hrl (i + 1) (by omega))
              refine ⟨Wd, G, _, _, rfl, rfl, hw5.1, hgs.1, by omega, ?_⟩
              refine ⟨_, rfl, same_up (s4.trans s5) hWn, ?_⟩
              rw [fm_split _ _ _ _ hrk]
              exact lti_ext (hw4.same s5) h5 hw5.1 hgs.1
          · rintro σ H4 ⟨b6, rfl, s4, hw4⟩
            rw [hus.2.1, List.take_length] at hw4
            exact hD'' _ _ ⟨b6, rfl, s4, hw4⟩
        rintro σ H4 ⟨b6, rfl, s4, hw4⟩
        exact ⟨_, rfl, Wd, _, _, _, rfl, s2.trans s4, hl2.same s4, hw4⟩
      · rintro σ H2 ⟨R, a4, a5, a6, rfl, s2, hl2, hr2⟩
        rw [hdl] at hr2
        exact hD' _ _ ⟨R, a4, a5, a6, rfl, s2, hl2, hr2⟩
    clear s1 hl1 hr1
    rintro σ H2 ⟨R, a4, a5, a6, rfl, s2, hl2, hr2⟩
    obtain ⟨us, hus⟩ : ∃ us, LTV H2 R us (resL ds ds.length) := hr2.lenV
    have nRL : R ≠ L := fun z => by
      obtain ⟨vs, e1, e2, _⟩ := hl2.lenV
      have e3 := hus.1
      rw [z, e1] at e3
      have e3 := HO.lst.inj (Option.some.inj e3)
      have e4 := hus.2.1
      rw [← e3, e2, resL_len] at e4
      have : 0 < 2 ^ sA ds ds.length := Nat.pow_pos (by decide)
      have e4 : 0 = 2 ^ sA ds ds.length := e4
      omega
    have hdv : (dV b ds.length).length = (vecs ds.length b).length := by unfold dV; rw [List.length_map]
    have hsp : ∀ rs : List (List Int), (rs.flatMap fun r => (dV b ds.length).map (spotI ds r)).length = rs.length * (vecs ds.length b).length := fun rs => fm_const fun r _ => by rw [List.length_map, hdv]
    have hr256 := hrl ds.length (Nat.le_refl _)
    refine ⟨_, rfl, R, rfl, ⟨_, SqL.of hus.1⟩, ?_⟩
    refine for_list (xs := us) (fun k σ H5 => ∃ a4 a6 a8 a9 : Option V, σ = [some (.ref lt), some (.int (b : Int)), some (.ref L), some (.ref R), a4, a5, a6, none, a8, a9, none] ∧ Same H H5 ∧ LTV H5 R us (resL ds ds.length) ∧ LTI H5 L (((resL ds ds.length).take k).flatMap fun r => (dV b ds.length).map (spotI ds r)))
      ⟨a4, a6, none, none, rfl, s2, hus, hl2⟩ (fun k σ H5 _ h => by obtain ⟨_, _, _, _, _, _, h, _⟩ := h; exact SqL.of h.1) ?_ ?_
    · clear hl2 hr2 s2 hus a4 a6
      rintro k x σ H5 hx ⟨a4, a6, a8, a9, rfl, s5, hus, hl5⟩
      obtain ⟨q, r, hk, hrk, rfl, hq5⟩ := hus.at hx
      have hrlen := resL_mem ds _ r (List.mem_of_getElem? hrk)
      have hkb : k * (vecs ds.length b).length ≤ 256 * 5000 := Nat.mul_le_mul (by omega) (by omega)
      refine ⟨_, rfl, lt, _, rfl, .inr (SqT.of (hl.same s5)), _, rfl, ds.length, hm, b, ?_, hb1, hb, hv, by omega, fun V1 H6 hV1 s6 hl6 => ?_⟩
      · rw [hdl]
        rfl
      obtain ⟨ws, hws⟩ : ∃ ws, LTV H6 V1 ws (dV b ds.length) := hl6.lenV
      have nVL : V1 ≠ L := fun z => by
        obtain ⟨vs, e1, _⟩ := hl5.lenV
        rw [z, e1] at hV1
        cases hV1
      refine ⟨V1, rfl, ⟨_, SqL.of hws.1⟩, ?_⟩
      refine for_list (xs := ws) (fun i σ H7 => ∃ a8 a9 : Option V, σ = [some (.ref lt), some (.int (b : Int)), some (.ref L), some (.ref R), a4, a5, some (.ref q), none, a8, a9, none] ∧ Same H H7 ∧ LTV H7 R us (resL ds ds.length) ∧ LTV H7 V1 ws (dV b ds.length) ∧ TupI H7 q r ∧ LTI H7 L ((((resL ds ds.length).take k).flatMap fun r => (dV b ds.length).map (spotI ds r)) ++ ((dV b ds.length).take i).map (spotI ds r)))
        ⟨a8, a9, rfl, s5.trans s6, hus.same s6, hws, hq5.same s6, by rw [List.take_zero, List.map_nil, List.append_nil]; exact hl5.same s6⟩ (fun i σ H7 _ h => by obtain ⟨_, _, _, _, _, h, _⟩ := h; exact SqL.of h.1) ?_ ?_
      · clear hl5 hl6 hws s5 s6 hus hV1 hq5 a8 a9
        rintro i y σ H7 hy ⟨a8, a9, rfl, s7, hus, hws, hq7, hl7⟩
        obtain ⟨p, v, hi, hvi, rfl, hp7⟩ := hws.at hy
        have hvv := hvi
        unfold dV at hvv
        rw [List.getElem?_map] at hvv
        obtain ⟨u, hu, rfl⟩ := Option.map_eq_some_iff.mp hvv
        have hum := List.mem_of_getElem? hu
        have hul := vecs_mem _ _ u hum
        have hub : ∀ j, j < ds.length → ∃ z : Nat, (dI u)[j]? = some (z : Int) ∧ (dI u).getD j 0 = (z : Int) ∧ z < 66 := fun j hj => by
          have hj' : u[j]? = some u[j] := List.getElem?_eq_getElem (by omega)
          have e : (dI u)[j]? = some ((u[j] : Nat) : Int) := by unfold dI; rw [List.getElem?_map, hj']; rfl
          exact ⟨u[j], e, by rw [List.getD_eq_getElem?_getD, e]; rfl, vecs_ent hb _ _ u (Nat.le_refl _) hum _ (List.getElem_mem _)⟩
        have hdul : ((dI u).map V.int).length = ds.length := by rw [List.length_map]; unfold dI; rw [List.length_map, hul]
        have hrll : (r.map V.int).length = ds.length := by rw [List.length_map, hrlen]
        refine seq_by (fun σ H8 => ∃ D : Addr, σ = [some (.ref lt), some (.int (b : Int)), some (.ref L), some (.ref R), a4, a5, some (.ref q), none, some (.ref p), some (.ref D), none] ∧ Same H7 H8 ∧ LI H8 D (spotI ds r (dI u))) (fun D' hD' => ?_) ?_
        · refine ⟨_, rfl, _, rfl, _, rfl, true, true, true, q, p, lt, _, _, _, rfl, sqK_t (SqT.of hq7), sqK_t (SqT.of hp7), sqK_t (SqT.of (hl.same s7)), fun D hD => ?_⟩
          refine lc_it (walk_zipK3 (by rw [hrll, hdul]) (by rw [hrll, hdl])) (fun j H8 => Same H7 H8 ∧ LI H8 D ((List.range j).map fun i => r.getD i 0 + (dI u).getD i 0 * 2 ^ ds.getD i 0)) ⟨new_same hD, upd_same⟩ (fun j H8 _ h => ⟨sqK_t (SqT.of (hq7.same h.1)), sqK_t (SqT.of (hp7.same h.1)), sqK_t (SqT.of (hl.same (s7.trans h.1)))⟩) ?_ ?_
          · rintro j x H8 H9 hj ⟨s8, h8⟩ ⟨T', x1, x2, x3, rfl, hT, rfl, hx1, hx2, hx3⟩
            rw [hrll] at hj
            obtain ⟨z, hz1, hz2, hz⟩ := hub j hj
            have hx1 : (r.map V.int)[j]? = some x1 := hx1
            have hx2 : ((dI u).map V.int)[j]? = some x2 := hx2
            have hx3 : ((dI ds).map V.int)[j]? = some x3 := hx3
            have hdi : ds[j]? = some (ds.getD j 0) := by rw [List.getD_eq_getElem?_getD, List.getElem?_eq_getElem hj]; rfl
            have hri : r[j]? = some (r.getD j 0) := by rw [List.getD_eq_getElem?_getD, List.getElem?_eq_getElem (show j < r.length by omega)]; rfl
            have hdI : (dI ds)[j]? = some ((ds.getD j 0 : Nat) : Int) := by unfold dI; rw [List.getElem?_map, hdi]; rfl
            rw [map_at_int hri] at hx1
            rw [map_at_int hz1] at hx2
            rw [map_at_int hdI] at hx3
            obtain rfl := Option.some.inj hx1
            obtain rfl := Option.some.inj hx2
            obtain rfl := Option.some.inj hx3
            have s9' := new_same (o := .tup [V.int (r.getD j 0), .int (z : Int), .int ((ds.getD j 0 : Nat) : Int)]) hT
            have s9 := s8.trans s9'
            have h9 := h8.same s9'
            have hd8 := d_le8 hm hs8 j hj
            refine ⟨T', _, rfl, SqT.of upd_same, rfl, _, _, rfl, _, _, rfl, _, _, rfl, rfl, rfl, ?_⟩
            dsimp only [tYes]
            rw [if_pos rfl]
            generalize upd H8 T' (.tup [V.int (r.getD j 0), .int (z : Int), .int ((ds.getD j 0 : Nat) : Int)]) = H9 at s9 h9 ⊢
            refine ⟨_, rfl, _, rfl, _, rfl, _, _, rfl, rfl, ⟨by omega, by omega, by omega⟩, _, _, rfl, rfl, ?_⟩
            refine ⟨_, h9, by rw [List.length_map, List.length_map, List.length_range]; omega, same_up s9 hD, ?_⟩
            rw [List.range_succ, List.map_append, Int.toNat_natCast]
            have := li_snoc (H := H9) (a := D) (xs := (List.range j).map fun i => r.getD i 0 + (dI u).getD i 0 * 2 ^ ds.getD i 0) (x := r.getD j 0 + (dI u).getD j 0 * 2 ^ ds.getD j 0)
            rw [hz2] at this
            show LI _ D (_ ++ [r.getD j 0 + (dI u).getD j 0 * 2 ^ ds.getD j 0])
            rw [hz2]
            exact this
          · rintro H8 ⟨s8, h8⟩
            rw [hrll] at h8
            exact hD' _ _ ⟨D, rfl, s8, h8⟩
        rintro σ H8 ⟨D, rfl, s8, h8⟩
        have hl8 := hl7.same s8
        obtain ⟨vs, v1, v2, _⟩ := hl8.lenV
        refine ⟨_, rfl, .inl ⟨rfl, _, SqL.of v1⟩, _, rfl, D, _, rfl, .inl ⟨SqL.of h8, fun t ht => ?_⟩⟩
        have s9' := new_same (o := .tup ((spotI ds r (dI u)).map V.int)) ht
        have s9 := s8.trans s9'
        obtain ⟨acc, c1, c2, c3⟩ := lti_app (hl8.same s9') (show TupI _ t (spotI ds r (dI u)) from upd_same) (by rw [List.length_append, hsp, List.length_map, List.length_take, List.length_take, Nat.min_eq_left (Nat.le_of_lt hk)]; omega)
        refine ⟨L, _, _, rfl, rfl, c1, c2, ?_⟩
        refine ⟨_, _, rfl, same_up (s7.trans s9) hLn, (hus.same s9).updL nRL c1, (hws.same s9).updL nVL c1, ?_, ?_⟩
        · have q9 : upd H8 t (.tup ((spotI ds r (dI u)).map V.int)) q = _ := hq7.same s9
          have nq : q ≠ L := fun z => by
            rw [z, c1] at q9
            cases q9
          show upd _ L _ q = _
          rw [upd_ne nq]
          exact q9
        · rw [List.take_succ, hvi, List.map_append, ← List.append_assoc]
          exact c3
      · rintro σ H7 ⟨a8, a9, rfl, s7, hus, hws, hq7, hl7⟩
        rw [hws.2.1, List.take_length] at hl7
        refine ⟨_, _, _, _, rfl, s7, hus, ?_⟩
        rw [fm_split _ _ _ _ hrk]
        exact hl7
    · rintro σ H5 ⟨b4, b6, b8, b9, rfl, s5, hus5, hl5⟩
      rw [hus5.2.1, List.take_length] at hl5
      exact ⟨_, rfl, kq L H5 hLn s5 hl5⟩
end
end My

set_option pp.maxSteps 300
set_option Elab.async false
set_option linter.all false
set_option maxRecDepth 100000
set_option maxHeartbeats 1000000
namespace My
open PySem L2 MyR
def kyOf (v : List Nat) : List Key := v.map fun (j : Nat) => (.inl (j : Int) : Key)
theorem kyOf_kV (v : List Nat) : (kyOf v).map kV = (dI v).map V.int := by
  unfold kyOf dI
  rw [List.map_map, List.map_map]
  rfl
theorem kyOf_inj : ∀ {u v : List Nat}, kyOf u = kyOf v → u = v
  | [], [], _ => rfl
  | [], _ :: _, h => by cases h
  | _ :: _, [], h => by cases h
  | a :: u, c :: v, h => by
    have h : (.inl (a : Int) : Key) :: kyOf u = .inl (c : Int) :: kyOf v := h
    have h1 := (List.cons.inj h).1
    have h1 : (a : Int) = (c : Int) := Sum.inl.inj h1
    rw [kyOf_inj (List.cons.inj h).2, Int.ofNat.inj h1]
def kvL (vs : List (List Nat)) (f : List Nat → Int) : List (List Key × V) := vs.map fun v => (kyOf v, V.int (f v))
def upF (f : List Nat → Int) (u : List Nat) (z : Int) : List Nat → Int := fun v => if v = u then z else f v
theorem upF_self {f : List Nat → Int} {u : List Nat} {z : Int} : upF f u z u = z := if_pos rfl
theorem put_new {vs : List (List Nat)} {f : List Nat → Int} {u : List Nat} {z : Int} (h : u ∉ vs) : putK (kvL vs f) (kyOf u) (.int z) = kvL (vs ++ [u]) (upF f u z) := by
  have e : ((kvL vs f).any fun kv => decide (kv.1 = kyOf u)) = false := by
    rw [List.any_eq_false]
    intro x hx
    obtain ⟨v, hv, rfl⟩ := List.mem_map.mp hx
    intro q
    have q := of_decide_eq_true q
    have q : kyOf v = kyOf u := q
    rw [kyOf_inj q] at hv
    exact h hv
  unfold putK
  rw [e, if_neg (by decide)]
  unfold kvL
  rw [List.map_append]
  congr 1
  · refine List.map_congr_left fun v hv => ?_
    have : v ≠ u := fun z => h (z ▸ hv)
    show (kyOf v, V.int (f v)) = (kyOf v, V.int (upF f u z v))
    unfold upF
    rw [if_neg this]
  · show [(kyOf u, V.int z)] = [(kyOf u, V.int (upF f u z u))]
    rw [upF_self]
theorem put_old {vs : List (List Nat)} {f : List Nat → Int} {u : List Nat} {z : Int} (h : u ∈ vs) : putK (kvL vs f) (kyOf u) (.int z) = kvL vs (upF f u z) := by
  have e : ((kvL vs f).any fun kv => decide (kv.1 = kyOf u)) = true := by
    rw [List.any_eq_true]
    exact ⟨_, List.mem_map.mpr ⟨u, h, rfl⟩, decide_eq_true rfl⟩
  unfold putK
  rw [e, if_pos rfl]
  unfold kvL
  rw [List.map_map]
  refine List.map_congr_left fun v hv => ?_
  show (if kyOf v = kyOf u then (kyOf v, V.int z) else (kyOf v, V.int (f v))) = (kyOf v, V.int (upF f u z v))
  unfold upF
  by_cases q : v = u
  · rw [q, if_pos rfl, if_pos rfl]
  · rw [if_neg (fun z => q (kyOf_inj z)), if_neg q]
theorem kv_at {f : List Nat → Int} {u : List Nat} : ∀ {vs : List (List Nat)}, u ∈ vs → valV (kvL vs f) (kyOf u) = some (.int (f u))
  | v :: vs, h => by
    by_cases q : v = u
    · rw [q]
      exact valV_pos rfl
    · rw [show kvL (v :: vs) f = (kyOf v, V.int (f v)) :: kvL vs f from rfl, valV_neg (fun z => q (kyOf_inj z))]
      refine kv_at ?_
      rcases List.mem_cons.mp h with e | h
      · exact absurd e.symm q
      · exact h
theorem vecs_nodup : ∀ m b, (vecs m b).Nodup
  | 0, b => by
    show [([] : List Nat)].Nodup
    exact List.pairwise_singleton _ _
  | m + 1, b => by
    show ((List.range (W b)).flatMap fun j => (vecs m (b - tw j)).map (j :: ·)).Nodup
    refine List.pairwise_flatMap.mpr ⟨fun j _ => ?_, ?_⟩
    · refine List.pairwise_map.mpr ?_
      exact (vecs_nodup m _).imp fun h e => h (List.cons.inj e).2
    · refine List.nodup_range.imp fun {a c} h x hx y hy e => ?_
      obtain ⟨x', _, rfl⟩ := List.mem_map.mp hx
      obtain ⟨y', _, rfl⟩ := List.mem_map.mp hy
      exact h (List.cons.inj e).1
def twS (v : List Nat) : Nat := (v.map tw).sum
theorem vecs_tw : ∀ (m b : Nat) v, 1 ≤ b → v ∈ vecs m b → twS v < b
  | 0, b, v, hb, h => by
    have h : v ∈ [([] : List Nat)] := h
    rw [List.mem_singleton.mp h]
    exact hb
  | m + 1, b, v, hb, h => by
    have h : v ∈ (List.range (W b)).flatMap fun j => (vecs m (b - tw j)).map (j :: ·) := h
    obtain ⟨j, hj, h⟩ := List.mem_flatMap.mp h
    obtain ⟨u, hu, rfl⟩ := List.mem_map.mp h
    have hj := W_iff.mpr (List.mem_range.mp hj)
    have := vecs_tw m _ u (by omega) hu
    show tw j + twS u < b
    omega
structure FOk (f : List Nat → Int) : Prop where
  d : ∀ v, (2 : Int) ^ twS v ∣ f v
  lo : ∀ v, 0 ≤ f v
  hi : ∀ v, f v < 2 ^ 128
theorem FOk.up {f : List Nat → Int} (h : FOk f) {u : List Nat} {z : Int} (hd : (2 : Int) ^ twS u ∣ z) (h0 : 0 ≤ z) (h1 : z < 2 ^ 128) : FOk (upF f u z) := by
  refine ⟨fun v => ?_, fun v => ?_, fun v => ?_⟩
  all_goals
    unfold upF
    by_cases q : v = u
    · rw [if_pos q]
      first | exact h0 | exact h1 | exact q ▸ hd
    · rw [if_neg q]
      first | exact h.lo v | exact h.hi v | exact h.d v
/-- the tables as dicts -/
def MadeAt (H : Hp) (L : Addr) (m b : Nat) (fs : Nat → List Nat → Int) (n : Nat) : Prop := ∃ as : List Addr, H L = some (.lst (as.map V.ref)) ∧ as.length = n ∧ ∀ g, g < n → ∃ d, as[g]? = some d ∧ H d = some (.dT (kvL (vecs m b) (fs g)))
theorem MadeAt.kept {H H' : Hp} {L d l : Addr} {m b n : Nat} {fs : Nat → List Nat → Int} (h : MadeAt H L m b fs n) (k : Kept d l H H') (D : Deal H d l) (nl : L ≠ l) : MadeAt H' L m b fs n := by
  obtain ⟨as, e1, e2, e3⟩ := h
  obtain ⟨z, n', ns, hd, hl, _⟩ := D.ex
  refine ⟨as, k _ _ e1 (ne_of e1 hd (by intro z; cases z)) nl, e2, fun g hg => ?_⟩
  obtain ⟨p, q1, q2⟩ := e3 g hg
  exact ⟨p, q1, k _ _ q2 (ne_of q2 hd (by intro z; cases z)) (ne_of q2 hl (by intro z; cases z))⟩
theorem LTV.kept {H H' : Hp} {R d l : Addr} {us : List V} {xss : List (List Int)} (h : LTV H R us xss) (k : Kept d l H H') (D : Deal H d l) (nl : R ≠ l) : LTV H' R us xss := by
  obtain ⟨z, n', ns, hd, hl, _⟩ := D.ex
  refine ⟨k _ _ h.1 (ne_of h.1 hd (by intro z; cases z)) nl, h.2.1, fun i xs e => ?_⟩
  obtain ⟨p, q1, q2⟩ := h.2.2 i xs e
  exact ⟨p, q1, k _ _ q2 (ne_of q2 hd (by intro z; cases z)) (ne_of q2 hl (by intro z; cases z))⟩
theorem LTV.updT {H : Hp} {R L : Addr} {us : List V} {kvs : List (List Key × V)} {xss : List (List Int)} {o : HO} (h : LTV H R us xss) (hL : H L = some (.dT kvs)) : LTV (upd H L o) R us xss :=
  ⟨by rw [upd_ne (ne_of h.1 hL (by intro z; cases z))]; exact h.1, h.2.1, fun i xs e => let ⟨p, q1, q2⟩ := h.2.2 i xs e; ⟨p, q1, by
    show upd H L _ p = _
    rw [upd_ne (ne_of (show H p = some (.tup _) from q2) hL (by intro z; cases z))]
    exact q2⟩⟩
theorem TupI.kept {H H' : Hp} {t d l : Addr} {xs : List Int} (h : TupI H t xs) (k : Kept d l H H') (D : Deal H d l) : TupI H' t xs := by
  obtain ⟨n1, n2⟩ := D.nt (show H t = some (.tup _) from h)
  exact k _ _ h n1 n2
def spMade : Sp := fun vs H Q _ => ∃ (dl l lt : Addr) (ds : List Nat) (b : Nat), vs = [.ref dl, .ref lt, .int (b : Int)] ∧ Deal H dl l ∧ TupI H lt (dI ds) ∧ (ds.length = 1 ∨ ds.length = 2) ∧ ds.sum ≤ 8 ∧ 1 ≤ b ∧ b ≤ 64 ∧ (vecs ds.length b).length < 5000 ∧
  ∀ (L : Addr) H' fs, H L = none → Deal H' dl l → Kept dl l H H' → MadeAt H' L ds.length b fs (2 ^ ds.sum) → (∀ g, FOk (fs g)) → Q (.ref L) H'
end My

set_option pp.maxSteps 300
set_option Elab.async false
set_option linter.all false
set_option maxRecDepth 100000
set_option maxHeartbeats 1000000
namespace My
open PySem L2 MyR
section
variable {P : Program} {w : World} {K : PySem.W.Frag} {mg : Str → Option Value} {base : Heap}
abbrev s_law_made : Stmt := top 37
abbrev N_law_made : List Str := ["_law_deal_here", "_law_depths", "_law_wide", "_law_found", "_law_at_here", "_law_some", "_law_place", "_law_j"]
theorem sc_law_made : FnScope N_law_made ["_law_deal_here", "_law_depths", "_law_wide"] (defScope s_law_made) := ⟨rfl, rfl, rfl, by decide +kernel, rfl, by decide +kernel, by decide +kernel⟩
theorem ok_law_made {f : Addr} {fd : FuncData} (F : Fun K "_law_made" "_law_made" s_law_made f fd) (T : Glob mg) (g_sum : mg "sum" = none) (D_law_vectors : Df P w K mg base 4 "_law_vectors" ["_law_many", "_law_wide"] spVec12) (D_law_draw : Df P w K mg base 1 "_law_draw" ["_law_deal_here", "_law_many"] spDraw) (D_law_twos : Df P w K mg base 1 "_law_twos" ["_law_number"] spTw) :
    FnOk P w K mg base CX0 5 f fd ["_law_deal_here", "_law_depths", "_law_wide"] spMade := by
  refine F.ok sc_law_made (fun vs H Q E h => ?_) (fun cdv A outer s H vs Q E hr h => ?_)
  · obtain ⟨dl, l, lt, ds, b, rfl, _⟩ := h
    rfl
  · obtain ⟨dl, l, lt, ds, b, rfl, D0, hl, hm, hs8, hb1, hb, hv, kq⟩ := h
    have hu := hu_of hr
    have nd := sc_law_made.nd
    refine ⟨_, (pss_cons (ps_set (i := 3) nd rfl (Or.inl rfl) (pe_lst pa_nil))
    (pss_cons (ps_for PassesOwn.never rfl (pi_range1 (by rfl) T.g_range (pa_cons (pe_op op_shl pe_int (pe_callB (cr_sumK (K := K) rfl rfl) (by rfl) g_sum (by decide +kernel) (pa_cons (pv 1) pa_nil))) pa_nil)) (pg_name (i := 4) nd rfl (Or.inl rfl))
    (pss_cons (ps_set (i := 5) nd rfl (Or.inl rfl) pe_dnewT)
    (pss_cons (ps_for PassesOwn.never rfl (pi_list (pe_call D_law_vectors.ok (hr.mono (by decide)) (by rfl) D_law_vectors.g D_law_vectors.kp D_law_vectors.b .nil pass0 (pa_cons (pe_callB call_len_seq (by rfl) T.g_len PySem.boot_len (pa_cons (pv 1) pa_nil)) (pa_cons (pv 2) pa_nil)))) (pg_name (i := 6) nd rfl (Or.inl rfl))
    (pss_cons (ps_dput hu (pv 5) (pv 6) pe_int rfl)
    (pss_one (ps_if (pt_cmpR op_gt (pe_call D_law_draw.ok (hr.mono (by decide)) (by rfl) D_law_draw.g D_law_draw.kp D_law_draw.b .nil pass0 (pa_cons (pv 0) (pa_cons pe_int pa_nil))) pe_int (nomark _))
    (pss_one (ps_dput hu (pv 5) (pv 6) (pe_op op_shl (pe_call D_law_draw.ok (hr.mono (by decide)) (by rfl) D_law_draw.g D_law_draw.kp D_law_draw.b .nil pass0 (pa_cons (pv 0) (pa_cons (pe_op op_shl pe_int (pv 2)) pa_nil))) (pe_callB (cr_sumK (K := K) rfl rfl) (by rfl) g_sum (by decide +kernel) (pa_cons (pe_lc (own := [("_law_j", 7)]) (g := gName 7) (tt := tYes) rfl nd (pi_tup (pv 6)) (blkOk_by (N := N_law_made) (sc := defScope s_law_made) (by decide +kernel)) (fun _ _ _ _ _ => pg_name (i := 7) nd rfl (Or.inl rfl)) (fun _ _ _ _ _ => pts_nil) (fun _ _ _ _ _ => (pe_call D_law_twos.ok (hr.mono (by decide)) (by rfl) D_law_twos.g D_law_twos.kp D_law_twos.b .nil pass0 (pa_cons (pv 7) pa_nil)))) pa_nil))) rfl))
    pss_nil))))
    (pss_one (ps_expr (pe_bm PySem.F.plainAttrs_list PySem.F.slot_list_append PySem.F.type_list_append mt_append (pv 3) (pa_cons (pv 5) pa_nil)))))))
    (pss_one (ps_ret (pv 3))))), ?_⟩
    have zl : 16777216 = sizeLine := sizeLine_eq.symm
    have hdl : ((dI ds).map V.int).length = ds.length := by rw [List.length_map]; unfold dI; rw [List.length_map]
    obtain ⟨m, hmm⟩ : ∃ m, m = ds.length := ⟨_, rfl⟩
    rw [← hmm] at hm hv kq hdl
    obtain ⟨N, hNN⟩ : ∃ N : Nat, N = 2 ^ ds.sum := ⟨_, rfl⟩
    rw [← hNN] at kq
    have hN : N ≤ 256 := by rw [hNN]; exact Nat.pow_le_pow_right (n := 2) (by decide) hs8
    have hNi : (1 : Int) * 2 ^ (ds.sum : Int).toNat = (N : Int) := by
      rw [hNN, Int.toNat_natCast, Int.one_mul, Int.natCast_pow]
      rfl
    have hsum : (dI ds).sum = (ds.sum : Int) := nat_sum ds
    have h2b : (1 : Int) ≤ 2 ^ b ∧ (2 : Int) ^ b ≤ 2 ^ 64 := ⟨by have := p2_pos b; omega, Int.le_of_dvd (by decide) (p2_dvd hb)⟩
    obtain ⟨n_ld, n_ll⟩ := D0.nt (show H lt = some (.tup _) from hl)
    refine seq_by (fun σ H3 => ∃ L : Addr, σ = [some (.ref dl), some (.ref lt), some (.int (b : Int)), some (.ref L), none, none, none, none] ∧ Deal H3 dl l ∧ Kept dl l H H3 ∧ MadeAt H3 L m b (fun _ _ => 0) 0 ∧ H L = none) (fun D' hD' => ?_) ?_
    · exact ⟨(by show 0 ≤ sizeLine; omega), fun L hL => hD' _ _ ⟨L, rfl, D0.new hL, Kept.of (new_same hL), ⟨[], upd_same, rfl, fun g hg => absurd hg (Nat.not_lt_zero _)⟩, hL⟩⟩
    rintro σ H3 ⟨L, rfl, D3, k3, mk3, hLn⟩
    have nLl : L ≠ l := fun z => by
      obtain ⟨_, _, _, _, q, _⟩ := D0.ex
      rw [z, q] at hLn
      cases hLn
    have nLd : L ≠ dl := fun z => by
      obtain ⟨_, _, _, q, _⟩ := D0.ex
      rw [z, q] at hLn
      cases hLn
    refine ⟨_, rfl, true, lt, _, rfl, sqK_t (SqT.of (hl.kept k3 D0)), ?_⟩
    rw [hsum]
    refine ⟨_, _, rfl, rfl, ⟨by omega, by omega, by decide⟩, (N : Int), by show [V.int _] = [V.int _]; rw [hNi], by omega, by omega, ?_⟩
    rw [Int.toNat_natCast]
    refine for_range (lo := 0) (n := N) (fun g σ H4 => ∃ (a4 a5 a6 : Option V) (fs : Nat → List Nat → Int), σ = [some (.ref dl), some (.ref lt), some (.int (b : Int)), some (.ref L), a4, a5, a6, none] ∧ Deal H4 dl l ∧ Kept dl l H H4 ∧ MadeAt H4 L m b fs g ∧ ∀ i, FOk (fs i))
      ⟨none, none, none, fun _ _ => 0, rfl, D3, k3, mk3, fun i => ⟨fun v => Int.dvd_zero _, fun v => Int.le_refl _, fun v => (by show (0 : Int) < 2 ^ 128; decide)⟩⟩ ?_ ?_
    · clear D3 k3 mk3
      rintro g σ H4 hg ⟨a4, a5, a6, fs, rfl, D4, k4, mk4, hfs⟩
      refine seq_by (fun σ H5 => ∃ (D : Addr), σ = [some (.ref dl), some (.ref lt), some (.int (b : Int)), some (.ref L), some (.int (0 + (g : Int))), some (.ref D), a6, none] ∧ H4 D = none ∧ Deal H5 dl l ∧ Kept dl l H4 H5 ∧ H5 D = some (.dT [])) (fun D' hD' => ?_) ?_
      · exact fun D hD => hD' _ _ ⟨D, rfl, hD, D4.new hD, Kept.of (new_same hD), upd_same⟩
      rintro σ H5 ⟨D, rfl, hDn, D5, k5, hd5⟩
      obtain ⟨nDd, nDl⟩ := D4.free hDn
      refine seq_by (fun σ H5 => ∃ (a6 : Option V) (f : List Nat → Int), σ = [some (.ref dl), some (.ref lt), some (.int (b : Int)), some (.ref L), some (.int (0 + (g : Int))), some (.ref D), a6, none] ∧ Deal H5 dl l ∧ Kept dl l H4 H5 ∧ H5 D = some (.dT (kvL (vecs m b) f)) ∧ FOk f) (fun D' hD' => ?_) ?_
      · refine ⟨_, rfl, lt, _, rfl, .inr (SqT.of (hl.kept (k4.trans k5) D0)), _, rfl, m, hm, b, ?_, hb1, hb, hv, by omega, fun V1 H6 hV1 s6 hl6 => ?_⟩
        · rw [hdl]
          rfl
        obtain ⟨ws, hws⟩ : ∃ ws, LTV H6 V1 ws (dV b m) := hl6.lenV
        obtain ⟨nVd, nVl⟩ := D5.free hV1
        refine ⟨V1, rfl, ⟨_, SqL.of hws.1⟩, ?_⟩
        refine for_list (xs := ws) (fun i σ H7 => ∃ (a6 : Option V) (f : List Nat → Int), σ = [some (.ref dl), some (.ref lt), some (.int (b : Int)), some (.ref L), some (.int (0 + (g : Int))), some (.ref D), a6, none] ∧ Deal H7 dl l ∧ Kept dl l H4 H7 ∧ LTV H7 V1 ws (dV b m) ∧ H7 D = some (.dT (kvL ((vecs m b).take i) f)) ∧ FOk f)
          ⟨a6, fun _ => 0, rfl, D5.same s6, k5.trans (Kept.of s6), hws, s6 _ _ hd5, ⟨fun v => Int.dvd_zero _, fun v => Int.le_refl _, fun v => (by show (0 : Int) < 2 ^ 128; decide)⟩⟩ (fun i σ H7 _ h => by obtain ⟨_, _, _, _, _, h, _⟩ := h; exact SqL.of h.1) ?_ ?_
        · clear hl6 hws s6 hd5 D5 k5
          rintro i y σ H7 hy ⟨b6, f, rfl, D7, k7, hws, hd7, hf⟩
          obtain ⟨p, v, hi, hvi, rfl, hp7⟩ := hws.at hy
          have hvv := hvi
          unfold dV at hvv
          rw [List.getElem?_map] at hvv
          obtain ⟨u, hu1, rfl⟩ := Option.map_eq_some_iff.mp hvv
          have hum := List.mem_of_getElem? hu1
          have hiL := (List.getElem?_eq_some_iff.mp hu1).1
          have hnot : u ∉ (vecs m b).take i := fun z => by
            have nn := vecs_nodup m b
            rw [← List.take_append_drop i (vecs m b)] at nn
            have h2 := (List.nodup_append.mp nn).2.2
            refine h2 u z u ?_ rfl
            rw [List.drop_eq_getElem_cons hiL]
            have : (vecs m b)[i] = u := by
              have := List.getElem?_eq_getElem hiL
              rw [hu1] at this
              exact (Option.some.inj this).symm
            rw [this]
            exact List.mem_cons_self ..
          have htk : (vecs m b).take (i + 1) = (vecs m b).take i ++ [u] := by
            rw [List.take_succ, hu1]
            rfl
          have hky : H7 p = some (.tup ((kyOf u).map kV)) := by
            rw [kyOf_kV]
            exact hp7
          refine seq_by (fun σ H8 => ∃ f, σ = [some (.ref dl), some (.ref lt), some (.int (b : Int)), some (.ref L), some (.int (0 + (g : Int))), some (.ref D), some (.ref p), none] ∧ Deal H8 dl l ∧ Kept dl l H4 H8 ∧ LTV H8 V1 ws (dV b m) ∧ H8 D = some (.dT (kvL ((vecs m b).take (i + 1)) f)) ∧ FOk f) (fun D' hD' => ?_) ?_
          · refine ⟨_, rfl, _, rfl, D, _, rfl, DPut.t hd7 hky (by unfold kvL; rw [List.length_map, List.length_take]; omega), ?_⟩
            rw [put_new hnot, ← htk]
            exact hD' _ _ ⟨_, rfl, D7.other nDd nDl, k7.new hDn, hws.updT hd7, upd_same, hf.up (Int.dvd_zero _) (Int.le_refl _) (by decide)⟩
          clear hd7 hws hp7 hky D7 k7 hf
          rintro σ H8 ⟨f, rfl, D8, k8, hws, hd8, hf⟩
          obtain ⟨p', q1, hp8⟩ := hws.2.2 i _ hvi
          rw [hy] at q1
          obtain rfl := V.ref.inj (Option.some.inj q1)
          refine ⟨_, rfl, dl, l, 3, rfl, D8, by decide, by decide, fun r H9 hr0 hr1 D9 k9 => ⟨_, _, rfl, rfl, _, rfl, ?_⟩⟩
          have hws9 := hws.kept k9 D8 nVl
          have k49 := k8.trans k9
          have hd9 := k9 _ _ hd8 nDd nDl
          refine ite2 (fun _ => ?_) (fun _ => ?_)
          · refine ⟨_, rfl, _, rfl, _, _, rfl, rfl, ⟨by omega, by omega, by decide⟩, dl, l, _, rfl, D9, ?_, ?_, fun r2 H10 hq0 hq1 D10 k10 => ?_⟩
            · rw [Int.toNat_natCast, Int.one_mul]
              omega
            · rw [Int.toNat_natCast, Int.one_mul]
              omega
            rw [Int.toNat_natCast, Int.one_mul] at hq1
            have hws10 := hws9.kept k10 D9 nVl
            have hd10 := k10 _ _ hd9 nDd nDl
            obtain ⟨p', q1, hp10⟩ := hws10.2.2 i _ hvi
            rw [hy] at q1
            obtain rfl := V.ref.inj (Option.some.inj q1)
            have hdu : ((dI u).map V.int).length = u.length := by rw [List.length_map]; unfold dI; rw [List.length_map]
            have hul := vecs_mem _ _ u hum
            refine ⟨_, rfl, p, rfl, ⟨_, SqT.of hp10⟩, fun G hG => ?_⟩
            refine lc_tup (xs := (dI u).map V.int) (fun j H11 => Same H10 H11 ∧ LI H11 G ((u.take j).map fun (x : Nat) => (tw x : Int))) ⟨new_same hG, upd_same⟩ (fun j H11 _ h => SqT.of (hp10.same h.1)) ?_ ?_
            · rintro j x H11 hx ⟨s11, h11⟩
              have hj : j < u.length := by
                have := (List.getElem?_eq_some_iff.mp hx).1
                omega
              have huj := List.getElem?_eq_getElem hj
              have hdj : (dI u)[j]? = some ((u[j] : Nat) : Int) := by unfold dI; rw [List.getElem?_map, huj]; rfl
              rw [map_at_int hdj] at hx
              obtain rfl := Option.some.inj hx
              refine ⟨rfl, ?_⟩
              dsimp only [tYes]
              rw [if_pos rfl]
              refine ⟨_, rfl, u[j], rfl, ?_⟩
              refine ⟨_, h11, by rw [List.length_map, List.length_map, List.length_take]; omega, same_up s11 hG, ?_⟩
              rw [List.take_succ, huj, List.map_append]
              exact li_snoc
            · rintro H11 ⟨s11, h11⟩
              rw [hdu, List.take_length] at h11
              have hsu : (u.map fun (x : Nat) => (tw x : Int)).sum = (twS u : Int) := by
                unfold twS
                rw [← nat_sum, List.map_map]
                rfl
              have htw := vecs_tw m b u hb1 hum
              refine ⟨false, G, _, rfl, sqK_l (SqL.of h11), ?_⟩
              rw [hsu]
              have hpt := p2_pos (twS u)
              have hz : r2 * 2 ^ ((twS u : Nat) : Int).toNat = r2 * 2 ^ twS u := by rw [Int.toNat_natCast]
              have hzV : (fun i j : Int => V.int (i * 2 ^ j.toNat)) r2 ((twS u : Nat) : Int) = V.int (r2 * 2 ^ twS u) := by
                dsimp only
                rw [hz]
              refine ⟨_, _, rfl, rfl, ?_, ?_⟩
              · exact ⟨by omega, by omega, by omega⟩
              refine ⟨_, rfl, _, rfl, D, _, rfl, DPut.t (s11 _ _ hd10) (by rw [kyOf_kV]; exact hp10.same s11) (by unfold kvL; rw [List.length_map, List.length_take]; omega), ?_⟩
              rw [hzV, put_old (by rw [htk]; exact List.mem_append_right _ (List.mem_singleton.mpr rfl))]
              refine ⟨_, _, rfl, (D10.same s11).other nDd nDl, ((k49.trans k10).trans (Kept.of s11)).new hDn, (hws10.same s11).updT (s11 _ _ hd10), upd_same, hf.up (Int.dvd_mul_left _ _) (Int.mul_nonneg hq0 (by omega)) ?_⟩
              have hpl : (2 : Int) ^ twS u ≤ 2 ^ 64 := Int.le_of_dvd (by decide) (p2_dvd (by omega))
              calc r2 * 2 ^ twS u ≤ r2 * 2 ^ 64 := Int.mul_le_mul_of_nonneg_left hpl hq0
                _ < 2 ^ 64 * 2 ^ 64 := Int.mul_lt_mul_of_pos_right (by omega) (by decide)
                _ = 2 ^ 128 := by decide
          · exact ⟨_, f, rfl, D9, k49, hws9, hd9, hf⟩
        · rintro σ H7 ⟨b6, f, rfl, D7, k7, hws, hd7, hf⟩
          have : ws.length = (vecs m b).length := by rw [hws.2.1]; unfold dV; rw [List.length_map]
          rw [this, List.take_length] at hd7
          exact hD' _ _ ⟨b6, f, rfl, D7, k7, hd7, hf⟩
      clear hd5 D5 k5
      rintro σ H5 ⟨b6, f, rfl, D5, k5, hd5, hf⟩
      have mk5 := mk4.kept k5 D4 nLl
      obtain ⟨as, e1, e2, e3⟩ := mk5
      refine ⟨_, rfl, .inl ⟨rfl, _, SqL.of e1⟩, _, rfl, L, _, _, rfl, rfl, e1, by rw [List.length_map, e2]; omega, ?_⟩
      refine ⟨_, _, _, fun i => if i = g then f else fs i, rfl, D5.other nLd nLl, (k4.trans k5).new hLn, ⟨as ++ [D], by rw [upd_same, List.map_append]; rfl, by rw [List.length_append, e2]; rfl, fun i hi => ?_⟩, fun i => ?_⟩
      · by_cases q : i = g
        · subst q
          refine ⟨D, by rw [List.getElem?_append_right (by omega), e2, Nat.sub_self]; rfl, ?_⟩
          dsimp only
          rw [if_pos rfl, upd_ne (ne_of hd5 e1 (by intro z; cases z))]
          exact hd5
        · obtain ⟨p, q1, q2⟩ := e3 i (by omega)
          refine ⟨p, by rw [List.getElem?_append_left (by omega)]; exact q1, ?_⟩
          dsimp only
          rw [if_neg q, upd_ne (ne_of q2 e1 (by intro z; cases z))]
          exact q2
      · by_cases q : i = g
        · show FOk (if i = g then f else fs i)
          rw [if_pos q]; exact hf
        · show FOk (if i = g then f else fs i)
          rw [if_neg q]; exact hfs i
    · rintro σ H4 ⟨a4, a5, a6, fs, rfl, D4, k4, mk4, hfs⟩
      exact ⟨_, rfl, kq L H4 fs hLn D4 k4 mk4 hfs⟩
end
end My

set_option pp.maxSteps 300
set_option Elab.async false
set_option linter.all false
set_option maxRecDepth 100000
set_option maxHeartbeats 1000000
namespace My
open PySem L2 MyR
/-- the product of binomials -/
def prB (zs : List Int) (v : List Nat) : Nat → Int
  | 0 => 1
  | i + 1 => prB zs v i * bn (zs.getD i 0) (v.getD i 0)
def smF (f : List Nat → Int) (zs : List Int) (m : Nat) (vs : List (List Nat)) : Int := (vs.map fun v => f v * prB zs v m).sum
theorem smF_app {f : List Nat → Int} {zs : List Int} {m : Nat} {vs : List (List Nat)} {u : List Nat} : smF f zs m (vs ++ [u]) = smF f zs m vs + f u * prB zs u m := by
  unfold smF
  rw [List.map_append, List.sum_append]
  show _ + (f u * prB zs u m + 0) = _
  rw [Int.add_zero]
def RowsAt (H : Hp) (Rw : Addr) (m b : Nat) (zs : List Int) (n : Nat) : Prop := ∃ as : List Addr, H Rw = some (.lst (as.map V.ref)) ∧ as.length = n ∧ ∀ i, i < n → ∃ p k, as[i]? = some p ∧ LI H p (bnL (zs.getD i 0) k) ∧ k ≤ 70 ∧ p ≠ Rw ∧ ∀ v ∈ vecs m b, v.getD i 0 < k
theorem RowsAt.same {H H' : Hp} {Rw : Addr} {m b n : Nat} {zs : List Int} (h : RowsAt H Rw m b zs n) (s : Same H H') : RowsAt H' Rw m b zs n := let ⟨as, e1, e2, e3⟩ := h; ⟨as, s _ _ e1, e2, fun i hi => let ⟨p, k, q1, q2, q3, q4, q5⟩ := e3 i hi; ⟨p, k, q1, q2.same s, q3, q4, q5⟩⟩
theorem unlock_same {H H' : Hp} {d : Addr} {u : HO} {od : PySem.Obj} (hd : H d = some u) (s : Same (upd H d (.frz od u)) H') : Same H (upd H' d u) := fun a o e => by
  by_cases h : a = d
  · rw [h, upd_same]
    rw [h, hd] at e
    exact e
  · rw [upd_ne h]
    exact s a o (by rw [upd_ne h]; exact e)
theorem lock_ne {H : Hp} {d a : Addr} {u o : HO} (n : a ≠ d) (e : H a = some o) : upd H d u a = some o := by rw [upd_ne n]; exact e
theorem bn_bits' {z : Int} (h1 : -(2 ^ 110) < z) (h2 : z < 2 ^ 110) {k : Nat} (hk : k ≤ 70) : (bn z k).natAbs < 2 ^ 7771 :=
  Nat.lt_of_lt_of_le (bn_bits h1 h2 k hk) (Nat.pow_le_pow_right (by decide) (by omega))
theorem term_bits {zs : List Int} {v : List Nat} {x : Int} (hx : x.natAbs < 2 ^ 128) (hz : ∀ i, -(2 ^ 110) < zs.getD i 0 ∧ zs.getD i 0 < 2 ^ 110) (hv : ∀ i, v.getD i 0 ≤ 70) : ∀ i, (x * prB zs v i).natAbs < 2 ^ (128 + 7771 * i)
  | 0 => by
    show (x * 1).natAbs < 2 ^ 128
    rw [Int.mul_one]
    exact hx
  | i + 1 => by
    have ih := term_bits hx hz hv i
    show (x * (prB zs v i * bn (zs.getD i 0) (v.getD i 0))).natAbs < _
    rw [← Int.mul_assoc, Int.natAbs_mul, show 128 + 7771 * (i + 1) = 128 + 7771 * i + 7771 by omega, Nat.pow_add]
    exact Nat.mul_lt_mul'' ih (bn_bits' (hz i).1 (hz i).2 (hv i))
def spSum : Sp := fun vs H Q _ => ∃ (d t : Addr) (m b : Nat) (f : List Nat → Int) (zs : List Int), vs = [.ref d, .ref t] ∧ H d = some (.dT (kvL (vecs m b) f)) ∧ TupI H t zs ∧ zs.length = m ∧ (m = 1 ∨ m = 2) ∧ 1 ≤ b ∧ b ≤ 64 ∧ (vecs m b).length < 5000 ∧ FOk f ∧ (∀ i, -(2 ^ 110) < zs.getD i 0 ∧ zs.getD i 0 < 2 ^ 110) ∧
  ∀ H', Same H H' → Q (.int (smF f zs m (vecs m b))) H'
section
variable {P : Program} {w : World} {K : PySem.W.Frag} {mg : Str → Option Value} {base : Heap}
abbrev s_law_sum : Stmt := top 41
abbrev N_law_sum : List Str := ["_law_factors", "_law_variables", "_law_rows", "_law_found", "_law_axis", "_law_top", "_law_place", "_law_term", "_law_row_here", "_law_under"]
theorem sc_law_sum : FnScope N_law_sum ["_law_factors", "_law_variables"] (defScope s_law_sum) := ⟨rfl, rfl, rfl, by decide +kernel, rfl, by decide +kernel, by decide +kernel⟩
theorem ok_law_sum {f : Addr} {fd : FuncData} (F : Fun K "_law_sum" "_law_sum" s_law_sum f fd) (T : Glob mg) (D_law_row : Df P w K mg base 1 "_law_row" ["_law_top", "_law_many"] spBin) : FnOk P w K mg base CX0 2 f fd ["_law_factors", "_law_variables"] spSum := by
  refine F.ok sc_law_sum (fun vs H Q E h => ?_) (fun cdv A outer s H vs Q E hr h => ?_)
  · obtain ⟨d, t, m, b, f, zs, rfl, _⟩ := h
    rfl
  · obtain ⟨d, t, m, b, f, zs, rfl, hd, ht, hzl, hm, hb1, hb, hv, hf, hz, kq⟩ := h
    have hu := hu_of hr
    have nd := sc_law_sum.nd
    refine ⟨_, (pss_cons (ps_par (i := 2) (j := 3) rfl nd rfl rfl (by decide) rfl rfl (pa_cons (pe_lst pa_nil) (pa_cons pe_int pa_nil)) (by rfl))
    (pss_cons (ps_for PassesOwn.never rfl (pi_enumT (by rfl) T.g_enumerate (pa_cons (pv 1) pa_nil)) (pg_tup (by rfl) (pgs_cons (pg_name (i := 4) nd rfl (Or.inr rfl)) (pgs_cons (pg_name (i := 5) nd rfl (Or.inl rfl)) pgs_nil)))
    (pss_one (ps_expr (pe_bm PySem.F.plainAttrs_list PySem.F.slot_list_append PySem.F.type_list_append mt_append (pv 2) (pa_cons (pe_call D_law_row.ok (hr.mono (by decide)) (by rfl) D_law_row.g D_law_row.kp D_law_row.b .nil pass0 (pa_cons (pv 5) (pa_cons (pe_op op_add pe_int (pe_callB (cr_max rfl) (by rfl) T.g_max (by decide +kernel) (pa_cons (pe_op op_cat (pe_lst (pa_cons pe_int pa_nil)) (pe_lock (pe_lc (own := [("_law_place", 6)]) (g := gName 6) (tt := tYes) rfl nd (pi_keys (pv 0)) (blkOk_by (N := N_law_sum) (sc := defScope s_law_sum) (by decide +kernel)) (fun _ _ _ _ _ => pg_name (i := 6) nd rfl (Or.inl rfl)) (fun _ _ _ _ _ => pts_nil) (fun _ _ _ _ _ => (pe_ix (ix_tupN (K := K) rfl) (pv 6) (pv 4) (fun _ _ => rfl)))))) pa_nil))) pa_nil))) pa_nil)))))
    (pss_cons (ps_lock (ps_for PassesOwn.never rfl (pi_keys (pv 0)) (pg_name (i := 6) nd rfl (Or.inl rfl))
    (pss_cons (ps_set (i := 7) nd rfl (Or.inl rfl) (pe_dget hu (pv 0) (pv 6) (fun _ _ => rfl)))
    (pss_cons (ps_for PassesOwn.never rfl (pi_zipK (by rfl) T.g_zip (pa_cons (pv 2) (pa_cons (pv 6) pa_nil))) (pg_tup (by rfl) (pgs_cons (pg_name (i := 8) nd rfl (Or.inl rfl)) (pgs_cons (pg_name (i := 9) nd rfl (Or.inl rfl)) pgs_nil)))
    (pss_one (ps_set (i := 7) nd rfl (Or.inl rfl) (pe_op op_mulX (pv 7) (pe_ix ix_list (pv 8) (pv 9) (fun _ _ => rfl))))))
    (pss_one (ps_set (i := 3) nd rfl (Or.inl rfl) (pe_op op_add (pv 3) (pv 7))))))))
    (pss_one (ps_ret (pv 3)))))), ?_⟩
    have zl : 16777216 = sizeLine := sizeLine_eq.symm
    have hkl : (kvL (vecs m b) f).length = (vecs m b).length := by unfold kvL; rw [List.length_map]
    have hent : ∀ v ∈ vecs m b, ∀ i, v.getD i 0 < 66 := fun v hv i => by
      by_cases hi : i < v.length
      · rw [List.getD_eq_getElem?_getD, List.getElem?_eq_getElem hi]
        exact vecs_ent hb m b v (Nat.le_refl _) hv _ (List.getElem_mem hi)
      · rw [List.getD_eq_getElem?_getD, List.getElem?_eq_none (by omega)]
        show 0 < 66
        omega
    have hkat : ∀ {i : Nat} {k : List Key} {x : V}, (kvL (vecs m b) f)[i]? = some (k, x) → ∃ u, (vecs m b)[i]? = some u ∧ k = kyOf u ∧ x = .int (f u) := fun {i k x} e => by
      unfold kvL at e
      rw [List.getElem?_map] at e
      obtain ⟨u, h1, h2⟩ := Option.map_eq_some_iff.mp e
      exact ⟨u, h1, (Prod.mk.inj h2).1.symm, (Prod.mk.inj h2).2.symm⟩
    refine seq_by (fun σ H1 => ∃ Rw : Addr, σ = [some (.ref d), some (.ref t), some (.ref Rw), some (.int 0), none, none, none, none, none, none] ∧ Same H H1 ∧ RowsAt H1 Rw m b zs 0 ∧ H Rw = none) (fun D' hD' => ?_) ?_
    · exact ⟨(by show 0 ≤ sizeLine; omega), fun Rw hR => ⟨_, _, rfl, hD' _ _ ⟨Rw, rfl, new_same hR, ⟨[], upd_same, rfl, fun i hi => absurd hi (Nat.not_lt_zero _)⟩, hR⟩⟩⟩
    rintro σ H1 ⟨Rw, rfl, s1, hr1, hRn⟩
    refine seq_by (fun σ H2 => ∃ a4 a5 : Option V, σ = [some (.ref d), some (.ref t), some (.ref Rw), some (.int 0), a4, a5, none, none, none, none] ∧ Same H H2 ∧ RowsAt H2 Rw m b zs m) (fun D' hD' => ?_) ?_
    · refine ⟨_, rfl, t, _, rfl, SqT.of (ht.same s1), ?_⟩
      refine for_it walk_enumT (fun i σ H2 => ∃ a4 a5 : Option V, σ = [some (.ref d), some (.ref t), some (.ref Rw), some (.int 0), a4, a5, none, none, none, none] ∧ Same H H2 ∧ RowsAt H2 Rw m b zs i)
        ⟨none, none, rfl, s1, hr1⟩ (fun i σ H2 _ h => by obtain ⟨_, _, _, h, _⟩ := h; exact SqT.of (ht.same h)) ?_ ?_
      · rintro i x σ H2 H3 hi ⟨a4, a5, rfl, s2, hr2⟩ ⟨T', x1, x2, rfl, hT, rfl, hx1, hx2⟩
        rw [List.length_map, hzl] at hi
        obtain rfl := Option.some.inj hx1
        have hzi : zs[i]? = some (zs.getD i 0) := by rw [List.getD_eq_getElem?_getD, List.getElem?_eq_getElem (show i < zs.length by omega)]; rfl
        have hx2 : (zs.map V.int)[i]? = some x2 := hx2
        rw [map_at_int hzi] at hx2
        obtain rfl := Option.some.inj hx2
        have s3' := new_same (o := .tup [V.int (i : Nat), .int (zs.getD i 0)]) hT
        have s3 := s2.trans s3'
        have hr3 := hr2.same s3'
        refine ⟨T', _, rfl, SqT.of upd_same, rfl, _, _, rfl, _, _, rfl, rfl, ?_⟩
        generalize upd H2 T' (.tup [V.int (i : Nat), .int (zs.getD i 0)]) = H3 at s3 hr3 ⊢
        obtain ⟨as, r1, r2, r3⟩ := id hr3
        refine ⟨_, rfl, .inl ⟨rfl, _, SqL.of r1⟩, _, rfl, (by show 1 ≤ sizeLine; omega), fun Z hZ => ?_⟩
        have sz := new_same (o := .lst [V.int 0]) hZ
        have hdZ : upd H3 Z (.lst [V.int 0]) d = some (.dT (kvL (vecs m b) f)) := (s3.trans sz) _ _ hd
        have hZZ : upd H3 Z (.lst [V.int 0]) Z = some (.lst [V.int 0]) := upd_same
        generalize upd H3 Z (.lst [V.int 0]) = H4 at sz hdZ hZZ ⊢
        refine ⟨d, _, hdZ, trivial, fun od => ⟨_, rfl, d, od, rfl, .inr ⟨_, upd_same, fun D hD => ?_⟩⟩⟩
        refine lc_it walk_keysT (fun j H5 => Same (upd H4 d (.frz od (.dT (kvL (vecs m b) f)))) H5 ∧ LI H5 D (((vecs m b).take j).map fun v => ((v.getD i 0 : Nat) : Int))) ⟨new_same hD, upd_same⟩ (fun j H5 _ h => h.1 _ _ upd_same) ?_ ?_
        · rintro j x H5 H6 hj ⟨s5, h5⟩ ⟨rfl, k, v, q, hk, rfl, hq⟩
          obtain ⟨u, hu1, rfl, rfl⟩ := hkat hk
          rw [kyOf_kV] at hq
          have hum := List.mem_of_getElem? hu1
          have hul := vecs_mem _ _ u hum
          refine ⟨rfl, ?_⟩
          dsimp only [tYes]
          rw [if_pos rfl]
          have hui : (dI u)[i]? = some ((u.getD i 0 : Nat) : Int) := by
            unfold dI
            rw [List.getElem?_map, List.getD_eq_getElem?_getD, List.getElem?_eq_getElem (show i < u.length by omega)]
            rfl
          refine ⟨_, rfl, _, rfl, q, _, _, _, rfl, rfl, SqT.of hq, atI_nat (map_at_int hui), ?_⟩
          refine ⟨_, h5, by rw [List.length_map, List.length_map, List.length_take]; omega, same_up s5 hD, ?_⟩
          rw [List.take_succ, hu1, List.map_append]
          exact li_snoc
        · rintro H5 ⟨s5, h5⟩
          rw [hkl, List.take_length] at h5
          have hd5 : H5 d = some (.frz od (.dT (kvL (vecs m b) f))) := s5 _ _ upd_same
          have nDd : D ≠ d := fun z => by
            rw [z, upd_same] at hD
            cases hD
          have s45 := unlock_same hdZ s5
          have h6 : LI (upd H5 d (.dT (kvL (vecs m b) f))) D ((vecs m b).map fun v => ((v.getD i 0 : Nat) : Int)) := by
            show upd _ _ _ _ = _
            rw [upd_ne nDd]
            exact h5
          generalize upd H5 d (.dT (kvL (vecs m b) f)) = H6 at s45 h6 ⊢
          refine ⟨hd5, Z, D, [V.int 0], _, rfl, rfl, s45 _ _ hZZ, h6, ?_, fun C hC => ?_⟩
          · rw [List.length_map, List.length_map]
            show 1 + _ ≤ sizeLine
            omega
          have sC := new_same (o := .lst ([V.int 0] ++ ((vecs m b).map fun v => ((v.getD i 0 : Nat) : Int)).map V.int)) hC
          have s36 := (sz.trans s45).trans sC
          refine ⟨C, 0 :: ((vecs m b).map fun v => ((v.getD i 0 : Nat) : Int)), rfl, SqL.of upd_same, Nat.zero_lt_succ _, fun mx hmx hall => ?_⟩
          have hmx' : 0 ≤ mx ∧ mx < 66 := by
            rcases List.mem_cons.mp hmx with rfl | e
            · omega
            · obtain ⟨v, hv1, rfl⟩ := List.mem_map.mp e
              have := hent v hv1 i
              omega
          obtain ⟨M, rfl⟩ : ∃ M : Nat, mx = (M : Int) := ⟨mx.toNat, by omega⟩
          refine ⟨_, _, rfl, rfl, zs.getD i 0, 1 + M, by rfl, by omega, by omega, (hz i).1, (hz i).2, fun p H8 hp s8 hl8 => ?_⟩
          have s38 := s36.trans s8
          have r8 := hr3.same s38
          obtain ⟨as', q1, q2, q3⟩ := r8
          have npR : p ≠ Rw := fun z => by
            have := s36 _ _ r1
            rw [← z, hp] at this
            cases this
          refine ⟨Rw, _, _, rfl, rfl, q1, by rw [List.length_map, q2]; omega, ?_⟩
          refine ⟨_, _, rfl, same_up (s3.trans s38) hRn, as' ++ [p], by rw [upd_same, List.map_append]; rfl, by rw [List.length_append, q2]; rfl, fun j hj => ?_⟩
          by_cases e : j < i
          · obtain ⟨p', k, w1, w2, w3, w4, w5⟩ := q3 j e
            exact ⟨p', k, by rw [List.getElem?_append_left (by omega)]; exact w1, w2.updN w4, w3, w4, w5⟩
          · have : j = i := by omega
            subst this
            refine ⟨p, 1 + M, by rw [List.getElem?_append_right (by omega), q2, Nat.sub_self]; rfl, hl8.updN npR, by omega, npR, fun v hv1 => ?_⟩
            have := hall _ (List.mem_cons_of_mem _ (List.mem_map.mpr ⟨v, hv1, rfl⟩))
            omega
      · rintro σ H2 ⟨a4, a5, rfl, s2, hr2⟩
        rw [List.length_map, hzl] at hr2
        exact hD' _ _ ⟨a4, a5, rfl, s2, hr2⟩
    clear s1 hr1
    rintro σ H2 ⟨a4, a5, rfl, s2, hr2⟩
    have hd2 := s2 _ _ hd
    refine seq_by (fun σ H3 => ∃ a6 a7 a8 a9 : Option V, σ = [some (.ref d), some (.ref t), some (.ref Rw), some (.int (smF f zs m (vecs m b))), a4, a5, a6, a7, a8, a9] ∧ Same H H3) (fun D' hD' => ?_) ?_
    · refine ⟨d, _, hd2, trivial, fun od => ⟨_, rfl, d, od, rfl, .inr ⟨_, upd_same, ?_⟩⟩⟩
      have nRd : Rw ≠ d := fun z => by
        rw [z, hd] at hRn
        cases hRn
      have hrF : RowsAt (upd H2 d (.frz od (.dT (kvL (vecs m b) f)))) Rw m b zs m := by
        obtain ⟨as, e1, e2, e3⟩ := hr2
        refine ⟨as, lock_ne nRd e1, e2, fun i hi => ?_⟩
        obtain ⟨p, k, w1, w2, w3, w4, w5⟩ := e3 i hi
        exact ⟨p, k, w1, w2.updN (ne_of w2 hd2 (by intro z; cases z)), w3, w4, w5⟩
      refine for_it walk_keysT (fun j σ H5 => ∃ a6 a7 a8 a9 : Option V, σ = [some (.ref d), some (.ref t), some (.ref Rw), some (.int (smF f zs m ((vecs m b).take j))), a4, a5, a6, a7, a8, a9] ∧ Same (upd H2 d (.frz od (.dT (kvL (vecs m b) f)))) H5)
        ⟨none, none, none, none, rfl, fun _ _ e => e⟩ (fun j σ H5 _ h => by obtain ⟨_, _, _, _, _, h⟩ := h; exact h _ _ upd_same) ?_ ?_
      · rintro j x σ H5 H5' hj ⟨a6, a7, a8, a9, rfl, s5⟩ ⟨hHH, k, v, q, hk, rfl, hq⟩
        rw [hHH]
        clear hHH H5'
        obtain ⟨u, hu1, rfl, rfl⟩ := hkat hk
        have hum := List.mem_of_getElem? hu1
        have hul := vecs_mem _ _ u hum
        have hd5 : H5 d = some (.frz od (.dT (kvL (vecs m b) f))) := s5 _ _ upd_same
        have hrow := hrF.same s5
        obtain ⟨as, e1, e2, e3⟩ := id hrow
        refine seq_by (fun σ H6 => H6 = H5 ∧ σ = [some (.ref d), some (.ref t), some (.ref Rw), some (.int (smF f zs m ((vecs m b).take j))), a4, a5, some (.ref q), some (.int (f u)), a8, a9]) (fun D'' hD'' => ?_) ?_
        · exact ⟨_, rfl, _, rfl, d, _, rfl, .inr ⟨_, kyOf u, q, .inr ⟨od, hd5⟩, rfl, hq, (kv_at hum).symm⟩, hD'' _ _ ⟨rfl, rfl⟩⟩
        rintro σ H6 ⟨rfl, rfl⟩
        rw [kyOf_kV] at hq
        have hdu : ((dI u).map V.int).length = m := by rw [List.length_map]; unfold dI; rw [List.length_map, hul]
        have hasl : (as.map V.ref).length = m := by rw [List.length_map, e2]
        have hfb : (f u).natAbs < 2 ^ 128 := by
          have h1 := hf.lo u
          have h2 := hf.hi u
          have e1 : (2 : Int) ^ 128 = 340282366920938463463374607431768211456 := by decide
          have e2 : (2 : Nat) ^ 128 = 340282366920938463463374607431768211456 := by decide
          omega
        have hu70 : ∀ i, u.getD i 0 ≤ 70 := fun i => by have := hent u hum i; omega
        refine seq_by (fun σ H7 => ∃ a8 a9 : Option V, σ = [some (.ref d), some (.ref t), some (.ref Rw), some (.int (smF f zs m ((vecs m b).take j))), a4, a5, some (.ref q), some (.int (f u * prB zs u m)), a8, a9] ∧ Same H6 H7) (fun D'' hD'' => ?_) ?_
        · refine ⟨_, rfl, _, rfl, false, true, Rw, q, _, _, rfl, sqK_l (SqL.of e1), sqK_t (SqT.of hq), ?_⟩
          refine for_it (walk_zipK (xs := as.map V.ref) (ys := (dI u).map V.int) (by rw [hasl, hdu])) (fun i σ H7 => ∃ a8 a9 : Option V, σ = [some (.ref d), some (.ref t), some (.ref Rw), some (.int (smF f zs m ((vecs m b).take j))), a4, a5, some (.ref q), some (.int (f u * prB zs u i)), a8, a9] ∧ Same H6 H7)
            ⟨a8, a9, by rw [show prB zs u 0 = 1 from rfl, Int.mul_one], fun _ _ e => e⟩ (fun i σ H7 _ h => by obtain ⟨_, _, _, h⟩ := h; exact ⟨sqK_l (SqL.of (h _ _ e1)), sqK_t (SqT.of (h _ _ hq))⟩) ?_ ?_
          · rintro i x σ H7 H8 hi ⟨b8, b9, rfl, s7⟩ ⟨T', x1, x2, rfl, hT, rfl, hx1, hx2⟩
            rw [hasl] at hi
            have hx1 : (as.map V.ref)[i]? = some x1 := hx1
            have hx2 : ((dI u).map V.int)[i]? = some x2 := hx2
            obtain ⟨p, k, w1, w2, w3, w4, w5⟩ := e3 i hi
            rw [List.getElem?_map, w1] at hx1
            obtain rfl := Option.some.inj hx1
            have hui : (dI u)[i]? = some ((u.getD i 0 : Nat) : Int) := by
              unfold dI
              rw [List.getElem?_map, List.getD_eq_getElem?_getD, List.getElem?_eq_getElem (show i < u.length by omega)]
              rfl
            rw [map_at_int hui] at hx2
            obtain rfl := Option.some.inj hx2
            have s8 := s7.trans (new_same (o := .tup [V.ref p, .int ((u.getD i 0 : Nat) : Int)]) hT)
            refine ⟨T', _, rfl, SqT.of upd_same, rfl, _, _, rfl, _, _, rfl, rfl, ?_⟩
            generalize upd H7 T' (.tup [V.ref p, .int ((u.getD i 0 : Nat) : Int)]) = H8 at s8 ⊢
            have hbn : (bnL (zs.getD i 0) k)[u.getD i 0]? = some (bn (zs.getD i 0) (u.getD i 0)) := at_range (w5 u hum)
            refine ⟨_, rfl, _, rfl, _, rfl, p, _, _, _, rfl, rfl, SqL.of (w2.same s8), atI_nat (map_at_int hbn), _, _, rfl, rfl, mulx_ok (term_bits hfb hz hu70 i) (bn_bits' (hz i).1 (hz i).2 (hu70 i)) (by omega), some (.ref p), some (.int ((u.getD i 0 : Nat) : Int)), ?_, s8⟩
            have e : f u * prB zs u (i + 1) = f u * prB zs u i * bn (zs.getD i 0) (u.getD i 0) := by
              show f u * (prB zs u i * bn (zs.getD i 0) (u.getD i 0)) = _
              rw [Int.mul_assoc]
            rw [e]
            rfl
          · rintro σ H7 ⟨b8, b9, rfl, s7⟩
            rw [hasl]
            exact hD'' _ _ ⟨b8, b9, rfl, s7⟩
        rintro σ H7 ⟨b8, b9, rfl, s7⟩
        refine ⟨_, rfl, _, rfl, _, _, rfl, rfl, some (.ref q), some (.int (f u * prB zs u m)), b8, b9, ?_, s5.trans s7⟩
        have e : smF f zs m ((vecs m b).take (j + 1)) = smF f zs m ((vecs m b).take j) + f u * prB zs u m := by
          rw [List.take_succ, hu1]
          exact smF_app
        rw [e]
        rfl
      · rintro σ H5 ⟨a6, a7, a8, a9, rfl, s5⟩
        rw [hkl, List.take_length]
        exact ⟨s5 _ _ upd_same, hD' _ _ ⟨a6, a7, a8, a9, rfl, s2.trans (unlock_same hd2 s5)⟩⟩
    rintro σ H3 ⟨a6, a7, a8, a9, rfl, s3⟩
    exact ⟨_, rfl, kq H3 s3⟩
end
end My

set_option pp.maxSteps 300
set_option Elab.async false
set_option linter.all false
set_option maxRecDepth 100000
set_option maxHeartbeats 1000000
namespace My
open PySem L2 MyR
theorem smI_nw' {j n : Nat} {c : Nat → Int} (h : j < n) : smI n (fun k => c k * bn (j : Int) k) = nw c j := by
  have e := smI_nw j n (fun k => if k < n then c k else 0) (fun k hk => if_neg (by omega))
  have e1 : smI n (fun k => (if k < n then c k else 0) * bn (j : Int) k) = smI n (fun k => c k * bn (j : Int) k) := smI_congr fun i hi => by rw [if_pos hi]
  have e2 : nw (fun k => if k < n then c k else 0) j = nw c j := nw_congr j fun q hq => if_pos (by omega)
  rw [← e1, e, e2]
theorem val1_at {b j : Nat} {c : Nat → Nat → Int} (h : j < W b) : val1 b c (j : Int) = gv c 0 j % 2 ^ b := by
  unfold val1
  rw [smI_nw' h]
  rfl
theorem val2_at {b r j : Nat} {c : Nat → Nat → Int} (hr : r < W b) (h : j < W (b - tw r)) : val2 b c (r : Int) (j : Int) = gv c r j % 2 ^ b := by
  unfold val2
  have e : (smI (W b) fun p => smI (W (b - tw p)) fun q => c p q * (bn (j : Int) q * bn (r : Int) p)) = smI (W b) fun p => (smI (W (b - tw p)) fun q => c p q * bn (j : Int) q) * bn (r : Int) p := smI_congr fun p _ => by
    rw [smI_mul]
    exact smI_congr fun q _ => by rw [Int.mul_assoc]
  rw [e, smI_nw' (c := fun p => smI (W (b - tw p)) fun q => c p q * bn (j : Int) q) hr]
  unfold gv
  rw [nw_congr r (f := fun p => nw (c p) j) fun p hp => ?_]
  have := tw_mono r p hp
  have := W_mono (show b - tw r ≤ b - tw p by omega)
  exact smI_nw' (by omega)
theorem sum_flat {α : Type} (g : Nat → List α) (h : α → Int) : ∀ n, (((List.range n).flatMap g).map h).sum = smI n fun j => ((g j).map h).sum
  | 0 => rfl
  | n + 1 => by
    rw [List.range_succ, List.flatMap_append, List.map_append, List.sum_append, sum_flat g h n]
    show _ + (([n].flatMap g).map h).sum = _ + ((g n).map h).sum
    rw [List.flatMap_cons, List.flatMap_nil, List.append_nil]
def csOf (m : Nat) (f : List Nat → Int) : Nat → Nat → Int := fun r q => if m = 2 then f [r, q] else f [q]
theorem csOf_div {m b : Nat} {f : List Nat → Int} (hm : m = 1 ∨ m = 2) (h : FOk f) : DivC m b (csOf m f) := fun r q hr hq => by
  unfold csOf
  rcases hm with rfl | rfl
  · rw [if_neg (by decide)]
    have hr : r < 1 := hr
    have : r = 0 := by omega
    subst this
    have e : twS [q] = tw 0 + tw q := by
      show tw q + 0 = tw 0 + tw q
      rw [show tw 0 = 0 by decide]
      omega
    rw [← e]
    exact h.d [q]
  · rw [if_pos rfl]
    exact h.d [r, q]
theorem smF_one {b : Nat} {f : List Nat → Int} {z : Int} : smF f [z] 1 (vecs 1 b) % 2 ^ b = val1 b (csOf 1 f) z := by
  unfold smF val1
  congr 1
  show (((List.range (W b)).flatMap fun j => (vecs 0 (b - tw j)).map (j :: ·)).map fun v => f v * prB [z] v 1).sum = _
  rw [sum_flat]
  refine smI_congr fun j _ => ?_
  show f [j] * (1 * bn z j) + 0 = f [j] * bn z j
  rw [Int.one_mul, Int.add_zero]
theorem smF_two {b : Nat} {f : List Nat → Int} {z1 z2 : Int} : smF f [z1, z2] 2 (vecs 2 b) % 2 ^ b = val2 b (csOf 2 f) z1 z2 := by
  unfold smF val2
  congr 1
  show (((List.range (W b)).flatMap fun j => (vecs 1 (b - tw j)).map (j :: ·)).map fun v => f v * prB [z1, z2] v 2).sum = _
  rw [sum_flat]
  refine smI_congr fun j _ => ?_
  rw [List.map_map]
  show (((List.range (W (b - tw j))).flatMap fun k => (vecs 0 (b - tw j - tw k)).map (k :: ·)).map ((fun v => f v * prB [z1, z2] v 2) ∘ (j :: ·))).sum = _
  rw [sum_flat]
  refine smI_congr fun k _ => ?_
  show f [j, k] * (1 * bn z1 j * bn z2 k) + 0 = f [j, k] * (bn z2 k * bn z1 j)
  rw [Int.one_mul, Int.add_zero, Int.mul_comm (bn z1 j)]
/-- what the law's sum tells is what the table tells -/
theorem sum_val {b : Nat} {ds : List Nat} {xs : List Int} (fs : Nat → List Nat → Int) (hm : ds.length = 1 ∨ ds.length = 2) (hx : xs.length = ds.length) :
    smF (fs (gA ds xs ds.length).toNat) ((List.range ds.length).map (vrI ds xs)) ds.length (vecs ds.length b) % 2 ^ b = valT b (fun g => csOf ds.length (fs g)) ds xs := by
  rcases hm with e | e
  · match ds, xs, e, hx with
    | [d], [x], _, _ => exact smF_one
  · match ds, xs, e, hx with
    | [d1, d2], [x1, x2], _, _ => exact smF_two
theorem fm_congr {α β : Type} {f g : α → List β} : ∀ {xs : List α}, (∀ x ∈ xs, f x = g x) → xs.flatMap f = xs.flatMap g
  | [], _ => rfl
  | x :: xs, h => by rw [List.flatMap_cons, List.flatMap_cons, h x (List.mem_cons_self ..), fm_congr fun y hy => h y (List.mem_cons_of_mem _ hy)]
theorem fm_single {α β : Type} {f : α → β} : ∀ {xs : List α}, (xs.flatMap fun x => [f x]) = xs.map f
  | [] => rfl
  | x :: xs => by rw [List.flatMap_cons, fm_single, List.map_cons]; rfl
theorem range_mul {β : Type} (F : Nat → List β) (c : Nat) : ∀ a, (List.range (a * c)).flatMap F = (List.range a).flatMap fun x => (List.range c).flatMap fun y => F (x * c + y)
  | 0 => by rw [Nat.zero_mul]; rfl
  | a + 1 => by
    rw [Nat.succ_mul, List.range_add, List.flatMap_append, range_mul F c a, List.range_succ, List.flatMap_append, List.flatMap_map]
    congr 1
    rw [List.flatMap_cons, List.flatMap_nil, List.append_nil]
theorem vecs_one_eq (b : Nat) : vecs 1 b = (List.range (W b)).map fun j => [j] := by
  show ((List.range (W b)).flatMap fun j => [[j]]) = _
  exact fm_single
theorem spot_mod {x j : Int} {d : Nat} (h0 : 0 ≤ x) (h1 : x < 2 ^ d) : (x + j * 2 ^ d) % 2 ^ d = x ∧ (x + j * 2 ^ d) / 2 ^ d = j := by
  have hp := p2_pos d
  constructor
  · rw [Int.add_mul_emod_self_right, Int.emod_eq_of_lt h0 h1]
  · rw [Int.add_mul_ediv_right _ _ (by omega), Int.ediv_eq_zero_of_lt h0 h1, Int.zero_add]
theorem pow_cast (d : Nat) : ((2 ^ d : Nat) : Int) = (2 : Int) ^ d := by
  rw [Int.natCast_pow]
  rfl
theorem entries_one {b d : Nat} (cs : Nat → Nat → Nat → Int) : (spotsL [d] b).map (valT b cs [d]) = allE 1 b cs (2 ^ d) := by
  unfold spotsL allE
  rw [List.map_flatMap]
  show (([[]] : List (List Int)).flatMap fun r => (List.range (2 ^ d)).map fun (x : Nat) => r ++ [(x : Int)]).flatMap _ = _
  rw [List.flatMap_cons, List.flatMap_nil, List.append_nil, List.flatMap_map]
  refine fm_congr fun x hx => ?_
  have hx := List.mem_range.mp hx
  have hx1 : (x : Int) < 2 ^ d := by rw [← pow_cast]; omega
  show ((dV b 1).map (spotI [d] [(x : Int)])).map (valT b cs [d]) = (List.range 1).flatMap (rowC 1 b (cs x))
  rw [show (List.range 1).flatMap (rowC 1 b (cs x)) = rowC 1 b (cs x) 0 from by rw [show List.range 1 = [0] from rfl, List.flatMap_cons, List.flatMap_nil, List.append_nil]]
  unfold dV rowC
  rw [vecs_one_eq, List.map_map, List.map_map, List.map_map]
  refine List.map_congr_left fun j hj => ?_
  have hj : j < W b := List.mem_range.mp hj
  obtain ⟨m1, m2⟩ := spot_mod (j := (j : Int)) (Int.natCast_nonneg x) hx1
  show val1 b (cs (0 * 2 ^ d + ((x : Int) + (j : Int) * 2 ^ d) % 2 ^ d).toNat) (((x : Int) + (j : Int) * 2 ^ d) / 2 ^ d) = gv (cs x) 0 j % 2 ^ b
  rw [m1, m2, Int.zero_mul, Int.zero_add, Int.toNat_natCast, val1_at hj]
theorem entries_two {b d1 d2 : Nat} (cs : Nat → Nat → Nat → Int) : (spotsL [d1, d2] b).map (valT b cs [d1, d2]) = allE 2 b cs (2 ^ (d1 + d2)) := by
  unfold spotsL allE
  rw [List.map_flatMap, Nat.pow_add, range_mul]
  show ((([[]] : List (List Int)).flatMap fun r => (List.range (2 ^ d1)).map fun (x : Nat) => r ++ [(x : Int)]).flatMap fun r => (List.range (2 ^ d2)).map fun (x : Nat) => r ++ [(x : Int)]).flatMap _ = _
  rw [List.flatMap_cons, List.flatMap_nil, List.append_nil, List.flatMap_map, List.flatMap_assoc]
  refine fm_congr fun x hx => ?_
  rw [List.flatMap_map]
  refine fm_congr fun y hy => ?_
  have hx := List.mem_range.mp hx
  have hy := List.mem_range.mp hy
  have hx1 : (x : Int) < 2 ^ d1 := by rw [← pow_cast]; omega
  have hy1 : (y : Int) < 2 ^ d2 := by rw [← pow_cast]; omega
  show ((dV b 2).map (spotI [d1, d2] [(x : Int), (y : Int)])).map (valT b cs [d1, d2]) = (List.range (W b)).flatMap (rowC 2 b (cs (x * 2 ^ d2 + y)))
  unfold dV
  rw [List.map_map, List.map_map]
  show ((List.range (W b)).flatMap fun r => (vecs 1 (b - tw r)).map (r :: ·)).map _ = _
  rw [List.map_flatMap]
  refine fm_congr fun r hr => ?_
  have hr : r < W b := List.mem_range.mp hr
  unfold rowC
  rw [vecs_one_eq, List.map_map, List.map_map]
  refine List.map_congr_left fun j hj => ?_
  have hj : j < W (b - tw r) := List.mem_range.mp hj
  obtain ⟨m1, m2⟩ := spot_mod (j := (r : Int)) (Int.natCast_nonneg x) hx1
  obtain ⟨n1, n2⟩ := spot_mod (j := (j : Int)) (Int.natCast_nonneg y) hy1
  show val2 b (cs ((0 * 2 ^ d1 + ((x : Int) + (r : Int) * 2 ^ d1) % 2 ^ d1) * 2 ^ d2 + ((y : Int) + (j : Int) * 2 ^ d2) % 2 ^ d2).toNat) (((x : Int) + (r : Int) * 2 ^ d1) / 2 ^ d1) (((y : Int) + (j : Int) * 2 ^ d2) / 2 ^ d2) = gv (cs (x * 2 ^ d2 + y)) r j % 2 ^ b
  rw [m1, m2, n1, n2, Int.zero_mul, Int.zero_add, val2_at hr hj, show ((x : Int) * 2 ^ d2 + (y : Int)).toNat = x * 2 ^ d2 + y from by
    rw [← pow_cast, ← Int.natCast_mul, ← Int.natCast_add, Int.toNat_natCast]]
theorem entries_all {b : Nat} {ds : List Nat} (cs : Nat → Nat → Nat → Int) (hm : ds.length = 1 ∨ ds.length = 2) : (spotsL ds b).map (valT b cs ds) = allE ds.length b cs (2 ^ ds.sum) := by
  rcases hm with e | e
  · match ds, e with
    | [d], _ => exact entries_one cs
  · match ds, e with
    | [d1, d2], _ => exact entries_two cs
end My

set_option pp.maxSteps 300
set_option Elab.async false
set_option linter.all false
set_option maxRecDepth 100000
set_option maxHeartbeats 1000000
namespace My
open PySem L2 MyR
/-! ### coefficients of any entries -/
def dlt (e : Nat → Int) : Nat → Int := fun j => e (j + 1) - e j
def invN : Nat → (Nat → Int) → Int
  | 0, e => e 0
  | q + 1, e => invN q (dlt e)
theorem nw_inv : ∀ (j : Nat) (e : Nat → Int), nw (fun q => invN q e) j = e j
  | 0, e => rfl
  | j + 1, e => by
    show nw (fun q => invN q e) j + nw (fun q => invN (q + 1) e) j = _
    rw [nw_inv j e, show (fun q => invN (q + 1) e) = fun q => invN q (dlt e) from rfl, nw_inv j (dlt e)]
    unfold dlt
    omega
theorem invN_bits : ∀ (q : Nat) (e : Nat → Int) (B : Nat), (∀ j, (e j).natAbs ≤ B) → (invN q e).natAbs ≤ 2 ^ q * B
  | 0, e, B, h => by
    rw [Nat.pow_zero, Nat.one_mul]
    exact h 0
  | q + 1, e, B, h => by
    have := invN_bits q (dlt e) (2 * B) fun j => by
      unfold dlt
      have h1 := h j
      have h2 := h (j + 1)
      omega
    rw [Nat.pow_succ, Nat.mul_assoc]
    exact this
def coF (m : Nat) (G : List Nat → Int) : List Nat → Int := fun v => if m = 2 then invN (v.getD 0 0) (fun r => invN (v.getD 1 0) fun j => G [r, j]) else invN (v.getD 0 0) fun j => G [j]
theorem gv_two (G : List Nat → Int) (r j : Nat) : gv (csOf 2 (coF 2 G)) r j = G [r, j] := by
  unfold gv
  rw [nw_swap]
  have e : (fun q => nw (fun p => csOf 2 (coF 2 G) p q) r) = fun q => invN q fun j => G [r, j] := funext fun q => by
    show nw (fun p => invN p fun r => invN q fun j => G [r, j]) r = _
    rw [nw_inv]
  rw [e, nw_inv]
theorem gv_one (G : List Nat → Int) (j : Nat) : gv (csOf 1 (coF 1 G)) 0 j = G [j] := by
  show nw (fun q => invN q fun j => G [j]) j = _
  rw [nw_inv]
theorem coF_bits {m B : Nat} {G : List Nat → Int} (h : ∀ v, (G v).natAbs < 2 ^ B) {v : List Nat} (hv : ∀ i, v.getD i 0 < 66) : (coF m G v).natAbs < 2 ^ (132 + B) := by
  have p : ∀ n : Nat, 0 < 2 ^ n := fun n => Nat.pos_of_ne_zero (by simp)
  have a0 := hv 0
  have a1 := hv 1
  have c1 : ∀ n : Nat, n < 66 → (2 : Nat) ^ n ≤ 2 ^ 66 := fun n hn => Nat.pow_le_pow_right (by decide) (by omega)
  have hB := p B
  have hle : (2 : Nat) ^ 66 * (2 ^ 66 * (2 ^ B - 1)) < 2 ^ (132 + B) := by
    rw [show 132 + B = 66 + (66 + B) by omega, Nat.pow_add, Nat.pow_add 2 66 B]
    exact Nat.mul_lt_mul_of_pos_left (Nat.mul_lt_mul_of_pos_left (by omega) (p 66)) (p 66)
  unfold coF
  split
  · have h1 : ∀ r, (invN (v.getD 1 0) fun j => G [r, j]).natAbs ≤ 2 ^ 66 * (2 ^ B - 1) := fun r => by
      refine Nat.le_trans (invN_bits _ _ (2 ^ B - 1) fun j => ?_) (Nat.mul_le_mul_right _ (c1 _ a1))
      have := h [r, j]
      omega
    refine Nat.lt_of_le_of_lt (Nat.le_trans (invN_bits _ _ _ h1) (Nat.mul_le_mul_right _ (c1 _ a0))) hle
  · have h1 : ∀ j, ((fun j => G [j]) j).natAbs ≤ 2 ^ B - 1 := fun j => by
      have := h [j]
      show (G [j]).natAbs ≤ _
      omega
    refine Nat.lt_of_le_of_lt (Nat.le_trans (invN_bits _ _ _ h1) (Nat.mul_le_mul_right _ (c1 _ a0))) (Nat.lt_of_le_of_lt ?_ hle)
    exact Nat.mul_le_mul_left _ (Nat.le_mul_of_pos_left _ (p 66))
/-! ### rows and places -/
theorem rows_vecs {α : Type} {m b : Nat} (hm : m = 1 ∨ m = 2) (h : Nat → Nat → α) : (List.range (nR m b)).flatMap (fun r => (List.range (wd m b r)).map (h r)) = (vecs m b).map fun v => if m = 2 then h (v.getD 0 0) (v.getD 1 0) else h 0 (v.getD 0 0) := by
  rcases hm with rfl | rfl
  · rw [show nR 1 b = 1 from rfl, show List.range 1 = [0] from rfl, List.flatMap_cons, List.flatMap_nil, List.append_nil, vecs_one_eq, List.map_map]
    rfl
  · show (List.range (W b)).flatMap _ = ((List.range (W b)).flatMap fun r => (vecs 1 (b - tw r)).map (r :: ·)).map _
    rw [List.map_flatMap]
    refine fm_congr fun r _ => ?_
    rw [vecs_one_eq, List.map_map, List.map_map]
    rfl
theorem vec_form {m b : Nat} {v : List Nat} (h : v ∈ vecs m b) : (m = 2 → v = [v.getD 0 0, v.getD 1 0]) ∧ (m = 1 → v = [v.getD 0 0]) := by
  have hl := vecs_mem m b v h
  constructor
  · intro e
    match v, hl.trans e with
    | [a, c], _ => rfl
  · intro e
    match v, hl.trans e with
    | [a], _ => rfl
theorem entC_G {m b : Nat} (hm : m = 1 ∨ m = 2) (G : List Nat → Int) : entC m b (csOf m (coF m G)) = (vecs m b).map fun v => G v % 2 ^ b := by
  unfold entC flatC
  rw [show (rowC m b (csOf m (coF m G))) = fun r => (List.range (wd m b r)).map fun j => gv (csOf m (coF m G)) r j % 2 ^ b from rfl, rows_vecs hm]
  refine List.map_congr_left fun v hv => ?_
  obtain ⟨h2, h1⟩ := vec_form hv
  rcases hm with e | e
  · rw [if_neg (by omega)]
    subst e
    rw [gv_one, ← h1 rfl]
  · rw [if_pos e]
    subst e
    rw [gv_two, ← h2 rfl]
def ixL : List (List Nat) → List Nat → Nat
  | [], _ => 0
  | x :: xs, v => if x = v then 0 else ixL xs v + 1
theorem ixL_at : ∀ {xs : List (List Nat)} {k : Nat} {v : List Nat}, xs.Nodup → xs[k]? = some v → ixL xs v = k
  | x :: xs, 0, v, _, h => by
    cases h
    exact if_pos rfl
  | x :: xs, k + 1, v, nd, h => by
    have h : xs[k]? = some v := h
    have hx : x ≠ v := fun e => by
      have := (List.nodup_cons.mp nd).1
      rw [e] at this
      exact this (List.mem_of_getElem? h)
    show (if x = v then 0 else ixL xs v + 1) = k + 1
    rw [if_neg hx, ixL_at (List.nodup_cons.mp nd).2 h]
/-- the entries by classes and places -/
def GE (m b : Nat) (es : List Int) (g : Nat) : List Nat → Int := fun v => es.getD (g * (vecs m b).length + ixL (vecs m b) v) 0
def fE (m b : Nat) (es : List Int) (g : Nat) : List Nat → Int := coF m (GE m b es g)
def csE (m b : Nat) (es : List Int) (g : Nat) : Nat → Nat → Int := csOf m (fE m b es g)
theorem GE_at {m b : Nat} {es : List Int} {g k : Nat} {v : List Nat} (h : (vecs m b)[k]? = some v) : GE m b es g v = es.getD (g * (vecs m b).length + k) 0 := by
  unfold GE
  rw [ixL_at (vecs_nodup m b) h]
theorem allE_es {m b : Nat} (hm : m = 1 ∨ m = 2) (es : List Int) : ∀ N, N * (vecs m b).length ≤ es.length → allE m b (csE m b es) N = (es.take (N * (vecs m b).length)).map (· % 2 ^ b)
  | 0, _ => by rw [Nat.zero_mul]; rfl
  | N + 1, h => by
    have h' := h
    rw [Nat.succ_mul] at h'
    rw [allE_succ, allE_es hm es N (by omega), Nat.succ_mul, List.take_add, List.map_append]
    congr 1
    show entC m b (csOf m (coF m (GE m b es N))) = _
    rw [entC_G hm]
    refine List.ext_getElem? fun k => ?_
    rw [List.getElem?_map, List.getElem?_map, List.getElem?_take]
    by_cases hk : k < (vecs m b).length
    · have e := List.getElem?_eq_getElem hk
      rw [e, if_pos hk, List.getElem?_drop]
      show some (GE m b es N _ % 2 ^ b) = _
      rw [GE_at e, List.getD_eq_getElem?_getD, List.getElem?_eq_getElem (show N * (vecs m b).length + k < es.length by omega)]
      rfl
    · rw [List.getElem?_eq_none (by omega), if_neg hk]
      rfl
/-! ### what may stand -/
def okB (m b : Nat) (c : Nat → Nat → Int) : List Bool := (List.range (nR m b)).flatMap fun r => (List.range (wd m b r)).map fun q => decide ((2 : Int) ^ (tw r + tw q) ∣ c r q)
def okV (m b : Nat) (f : List Nat → Int) : List Bool := (vecs m b).map fun v => decide ((2 : Int) ^ twS v ∣ f v)
theorem okB_okV {m b : Nat} (hm : m = 1 ∨ m = 2) (f : List Nat → Int) : okB m b (csOf m f) = okV m b f := by
  unfold okB okV
  rw [rows_vecs hm]
  refine List.map_congr_left fun v hv => ?_
  obtain ⟨h2, h1⟩ := vec_form hv
  rcases hm with e | e
  · rw [if_neg (by omega)]
    subst e
    have e1 := h1 rfl
    generalize v.getD 0 0 = a at e1
    subst e1
    have : twS [a] = tw 0 + tw a := by
      show tw a + 0 = tw 0 + tw a
      rw [show tw 0 = 0 by decide]
      omega
    rw [this]
    rfl
  · rw [if_pos e]
    subst e
    have e1 := h2 rfl
    generalize v.getD 0 0 = a at e1
    generalize v.getD 1 0 = c at e1
    subst e1
    rfl
def FirstAt (L : List Bool) (n : Nat) : Prop := L[n]? = some false ∧ ∀ i, i < n → L[i]? = some true
def AllT (L : List Bool) : Prop := ∀ x ∈ L, x = true
theorem FirstAt.uniq {L : List Bool} {n k : Nat} (h : FirstAt L n) (g : FirstAt L k) : n = k := by
  rcases Nat.lt_trichotomy n k with l | l | l
  · have := g.2 n l
    rw [h.1] at this
    cases this
  · exact l
  · have := h.2 k l
    rw [g.1] at this
    cases this
theorem FirstAt.not_all {L : List Bool} {n : Nat} (h : FirstAt L n) (g : AllT L) : False := by
  have := g false (List.mem_of_getElem? h.1)
  cases this
def okA (m b : Nat) (es : List Int) (N : Nat) : List Bool := (List.range N).flatMap fun g => okV m b (fE m b es g)
theorem okV_len (m b : Nat) (f : List Nat → Int) : (okV m b f).length = (vecs m b).length := by unfold okV; rw [List.length_map]
theorem okA_succ (m b : Nat) (es : List Int) (N : Nat) : okA m b es (N + 1) = okA m b es N ++ okV m b (fE m b es N) := by
  unfold okA
  rw [List.range_succ, List.flatMap_append]
  simp
theorem okA_len (m b : Nat) (es : List Int) : ∀ N, (okA m b es N).length = N * (vecs m b).length
  | 0 => by rw [Nat.zero_mul]; rfl
  | N + 1 => by rw [okA_succ, List.length_append, okA_len m b es N, okV_len, Nat.succ_mul]
theorem okA_pre (m b : Nat) (es : List Int) (g : Nat) : ∀ N, g ≤ N → ∃ t, okA m b es N = okA m b es g ++ t
  | 0, h => ⟨[], by rw [show g = 0 by omega, List.append_nil]⟩
  | N + 1, h => by
    by_cases e : g = N + 1
    · exact ⟨[], by rw [e, List.append_nil]⟩
    · obtain ⟨t, q⟩ := okA_pre m b es g N (by omega)
      exact ⟨t ++ okV m b (fE m b es N), by rw [okA_succ, q, List.append_assoc]⟩
theorem FirstAt.app {L M : List Bool} {n : Nat} (h : AllT L) (g : FirstAt M n) : FirstAt (L ++ M) (L.length + n) := by
  refine ⟨by rw [List.getElem?_append_right (by omega), Nat.add_sub_cancel_left]; exact g.1, fun i hi => ?_⟩
  by_cases e : i < L.length
  · rw [List.getElem?_append_left e, List.getElem?_eq_getElem e, h _ (List.getElem_mem e)]
  · rw [List.getElem?_append_right (by omega)]
    exact g.2 _ (by omega)
theorem FirstAt.pre {L M : List Bool} {n : Nat} (g : FirstAt L n) : FirstAt (L ++ M) n := by
  have hn := (List.getElem?_eq_some_iff.mp g.1).1
  refine ⟨by rw [List.getElem?_append_left hn]; exact g.1, fun i hi => ?_⟩
  rw [List.getElem?_append_left (by omega)]
  exact g.2 i hi
theorem AllT.app {L M : List Bool} (h : AllT L) (g : AllT M) : AllT (L ++ M) := fun x hx => (List.mem_append.mp hx).elim (h x) (g x)
theorem okA_first {m b : Nat} {es : List Int} {g N n : Nat} (hg : g < N) (h : AllT (okA m b es g)) (f : FirstAt (okV m b (fE m b es g)) n) : FirstAt (okA m b es N) (g * (vecs m b).length + n) := by
  obtain ⟨t, e⟩ := okA_pre m b es (g + 1) N (by omega)
  rw [e, okA_succ]
  have := FirstAt.app h f
  rw [okA_len] at this
  exact this.pre
/-! ### the sum so far -/
theorem bn_top : ∀ (j k : Nat), (j < k → bn (j : Int) k = 0) ∧ (j = k → bn (j : Int) k = 1)
  | 0, 0 => ⟨fun h => absurd h (Nat.lt_irrefl _), fun _ => rfl⟩
  | 0, k + 1 => ⟨fun _ => bn_zero k, fun h => by omega⟩
  | j + 1, 0 => ⟨fun h => by omega, fun h => by omega⟩
  | j + 1, k + 1 => by
    obtain ⟨a1, a2⟩ := bn_top j (k + 1)
    obtain ⟨b1, b2⟩ := bn_top j k
    have e : ((j + 1 : Nat) : Int) = (j : Int) + 1 := rfl
    rw [e, bn_pascal]
    refine ⟨fun h => ?_, fun h => ?_⟩
    · rw [a1 (by omega), b1 (by omega)]
      rfl
    · rw [a1 (by omega), b2 (by omega)]
      rfl
theorem dI_two (a c : Nat) : dI [a, c] = [(a : Int), (c : Int)] := rfl
theorem vecs_pair {m : Nat} (hm : m = 1 ∨ m = 2) (b : Nat) : (vecs m b).Pairwise fun u v => prB (dI u) v m = 0 := by
  have one : ∀ (b : Nat) (z : Int), ((List.range (W b)).map fun j => [j]).Pairwise fun u v => bn (u.getD 0 0 : Nat) (v.getD 0 0) = 0 := fun b z => by
    refine List.pairwise_map.mpr ?_
    exact List.pairwise_lt_range.imp fun {a c} h => (bn_top a c).1 h
  rcases hm with rfl | rfl
  · rw [vecs_one_eq]
    refine List.pairwise_map.mpr ?_
    refine List.pairwise_lt_range.imp fun {a c} h => ?_
    show 1 * bn (a : Int) c = 0
    rw [(bn_top a c).1 h, Int.mul_zero]
  · show ((List.range (W b)).flatMap fun r => (vecs 1 (b - tw r)).map (r :: ·)).Pairwise _
    refine List.pairwise_flatMap.mpr ⟨fun r _ => ?_, ?_⟩
    · rw [vecs_one_eq, List.map_map]
      refine List.pairwise_map.mpr ?_
      refine List.pairwise_lt_range.imp fun {a c} h => ?_
      show 1 * bn (r : Int) r * bn (a : Int) c = 0
      rw [(bn_top a c).1 h, Int.mul_zero]
    · refine List.pairwise_lt_range.imp fun {r s} h x hx y hy => ?_
      obtain ⟨x', _, rfl⟩ := List.mem_map.mp hx
      obtain ⟨y', _, rfl⟩ := List.mem_map.mp hy
      show 1 * bn (r : Int) s * bn _ _ = 0
      rw [(bn_top r s).1 h, Int.mul_zero, Int.zero_mul]
theorem prB_self {m b : Nat} (hm : m = 1 ∨ m = 2) {u : List Nat} (h : u ∈ vecs m b) : prB (dI u) u m = 1 := by
  obtain ⟨h2, h1⟩ := vec_form h
  rcases hm with rfl | rfl
  · rw [h1 rfl]
    show 1 * bn ((u.getD 0 0 : Nat) : Int) (u.getD 0 0) = 1
    rw [(bn_top _ _).2 rfl]
    rfl
  · rw [h2 rfl]
    show 1 * bn ((u.getD 0 0 : Nat) : Int) (u.getD 0 0) * bn ((u.getD 1 0 : Nat) : Int) (u.getD 1 0) = 1
    rw [(bn_top _ _).2 rfl, (bn_top _ _).2 rfl]
    rfl
theorem smF_whole {m b : Nat} (hm : m = 1 ∨ m = 2) {f : List Nat → Int} {u : List Nat} (h : u ∈ vecs m b) : smF f (dI u) m (vecs m b) = if m = 2 then gv (csOf m f) (u.getD 0 0) (u.getD 1 0) else gv (csOf m f) 0 (u.getD 0 0) := by
  obtain ⟨h2, h1⟩ := vec_form h
  rcases hm with rfl | rfl
  · have e := h1 rfl
    rw [if_neg (by decide)]
    generalize u.getD 0 0 = j at e ⊢
    subst e
    have hj : j < W b := by
      rw [vecs_one_eq] at h
      obtain ⟨k, hk, e⟩ := List.mem_map.mp h
      have := List.mem_range.mp hk
      cases e
      exact this
    unfold smF
    show (((List.range (W b)).flatMap fun j => (vecs 0 (b - tw j)).map (j :: ·)).map fun v => f v * prB [(j : Int)] v 1).sum = _
    rw [sum_flat]
    have : (smI (W b) fun q => (((vecs 0 (b - tw q)).map (q :: ·)).map fun v => f v * prB [(j : Int)] v 1).sum) = smI (W b) fun q => f [q] * bn (j : Int) q := smI_congr fun q _ => by
      show f [q] * (1 * bn (j : Int) q) + 0 = _
      rw [Int.one_mul, Int.add_zero]
    rw [this, smI_nw' (c := fun q => f [q]) hj]
    rfl
  · have e := h2 rfl
    rw [if_pos rfl]
    generalize u.getD 0 0 = r at e ⊢
    generalize u.getD 1 0 = j at e ⊢
    subst e
    have hrj : r < W b ∧ j < W (b - tw r) := by
      have h : [r, j] ∈ (List.range (W b)).flatMap fun r => (vecs 1 (b - tw r)).map (r :: ·) := h
      obtain ⟨p, hp, h⟩ := List.mem_flatMap.mp h
      rw [vecs_one_eq] at h
      obtain ⟨x, hx, e⟩ := List.mem_map.mp h
      obtain ⟨q, hq, rfl⟩ := List.mem_map.mp hx
      cases e
      exact ⟨List.mem_range.mp hp, List.mem_range.mp hq⟩
    obtain ⟨hr, hj⟩ := hrj
    unfold smF
    show (((List.range (W b)).flatMap fun j => (vecs 1 (b - tw j)).map (j :: ·)).map fun v => f v * prB [(r : Int), (j : Int)] v 2).sum = _
    rw [sum_flat]
    have e1 : (smI (W b) fun p => (((vecs 1 (b - tw p)).map (p :: ·)).map fun v => f v * prB [(r : Int), (j : Int)] v 2).sum) = smI (W b) fun p => (smI (W (b - tw p)) fun q => f [p, q] * bn (j : Int) q) * bn (r : Int) p := smI_congr fun p _ => by
      rw [List.map_map]
      show (((List.range (W (b - tw p))).flatMap fun k => (vecs 0 (b - tw p - tw k)).map (k :: ·)).map ((fun v => f v * prB [(r : Int), (j : Int)] v 2) ∘ (p :: ·))).sum = _
      rw [sum_flat, smI_mul]
      refine smI_congr fun k _ => ?_
      show f [p, k] * (1 * bn (r : Int) p * bn (j : Int) k) + 0 = f [p, k] * bn (j : Int) k * bn (r : Int) p
      rw [Int.one_mul, Int.add_zero, Int.mul_comm (bn (r : Int) p), Int.mul_assoc]
    rw [e1, smI_nw' (c := fun p => smI (W (b - tw p)) fun q => f [p, q] * bn (j : Int) q) hr]
    unfold gv
    refine nw_congr r fun p hp => ?_
    have := tw_mono r p hp
    have := W_mono (show b - tw r ≤ b - tw p by omega)
    exact smI_nw' (c := fun q => f [p, q]) (by omega)
theorem smF_zero {f : List Nat → Int} {zs : List Int} {m : Nat} : ∀ {vs : List (List Nat)}, (∀ v ∈ vs, prB zs v m = 0) → smF f zs m vs = 0
  | [], _ => rfl
  | v :: vs, h => by
    show f v * prB zs v m + smF f zs m vs = 0
    rw [h v (List.mem_cons_self ..), smF_zero fun x hx => h x (List.mem_cons_of_mem _ hx), Int.mul_zero]
    rfl
theorem part_sum {m b : Nat} (hm : m = 1 ∨ m = 2) (G : List Nat → Int) {k : Nat} {u : List Nat} (h : (vecs m b)[k]? = some u) : smF (coF m G) (dI u) m ((vecs m b).take k) = G u - coF m G u := by
  have hu := List.mem_of_getElem? h
  have hw := smF_whole hm (f := coF m G) hu
  have hG : (if m = 2 then gv (csOf m (coF m G)) (u.getD 0 0) (u.getD 1 0) else gv (csOf m (coF m G)) 0 (u.getD 0 0)) = G u := by
    obtain ⟨h2, h1⟩ := vec_form hu
    rcases hm with e | e
    · rw [if_neg (by omega)]
      subst e
      rw [gv_one, ← h1 rfl]
    · rw [if_pos e]
      subst e
      rw [gv_two, ← h2 rfl]
  rw [hG] at hw
  have hk := (List.getElem?_eq_some_iff.mp h).1
  have hsp : vecs m b = (vecs m b).take k ++ u :: (vecs m b).drop (k + 1) := by
    have e := (List.getElem?_eq_some_iff.mp h).2
    rw [← e, ← List.drop_eq_getElem_cons hk, List.take_append_drop]
  have pw := vecs_pair hm b
  rw [hsp] at hw pw
  have hz : ∀ v ∈ (vecs m b).drop (k + 1), prB (dI u) v m = 0 := fun v hv => (List.pairwise_cons.mp (List.pairwise_append.mp pw).2.1).1 v hv
  have app : ∀ (xs : List (List Nat)), smF (coF m G) (dI u) m (xs ++ u :: (vecs m b).drop (k + 1)) = smF (coF m G) (dI u) m xs + (coF m G u * prB (dI u) u m + smF (coF m G) (dI u) m ((vecs m b).drop (k + 1))) := fun xs => by
    unfold smF
    rw [List.map_append, List.sum_append, List.map_cons, List.sum_cons]
  rw [app, prB_self hm hu, smF_zero hz] at hw
  omega
end My

set_option Elab.async false
set_option linter.all false
set_option maxRecDepth 100000
set_option maxHeartbeats 1000000
namespace My
open PySem L2 MyR
/-! ### polynomials in two variables -/
inductive Pol : (Int → Int → Int) → Prop
  | const (a : Int) : Pol fun _ _ => a
  | x : Pol fun z _ => z
  | y : Pol fun _ z => z
  | add {f g : Int → Int → Int} : Pol f → Pol g → Pol fun z1 z2 => f z1 z2 + g z1 z2
  | mul {f g : Int → Int → Int} : Pol f → Pol g → Pol fun z1 z2 => f z1 z2 * g z1 z2
theorem Pol.sub {f g : Int → Int → Int} (hf : Pol f) (hg : Pol g) : Pol fun z1 z2 => f z1 z2 - g z1 z2 := by
  have e : (fun z1 z2 => f z1 z2 - g z1 z2) = fun z1 z2 => f z1 z2 + (fun z1 z2 => (fun _ _ => (-1 : Int)) z1 z2 * g z1 z2) z1 z2 := funext fun z1 => funext fun z2 => by
    show f z1 z2 - g z1 z2 = f z1 z2 + -1 * g z1 z2
    omega
  rw [e]
  exact .add hf (.mul (.const _) hg)
theorem Pol.subst (s1 e1 s2 e2 : Int) {f : Int → Int → Int} (h : Pol f) : Pol fun z1 z2 => f (s1 + e1 * z1) (s2 + e2 * z2) := by
  induction h with
  | const a => exact .const a
  | x => exact .add (.const s1) (.mul (.const e1) .x)
  | y => exact .add (.const s2) (.mul (.const e2) .y)
  | add _ _ a b => exact .add a b
  | mul _ _ a b => exact .mul a b
theorem Pol.fall1 : ∀ k, Pol fun z1 _ => fall z1 k
  | 0 => .const 1
  | k + 1 => .mul (Pol.fall1 k) (.sub .x (.const _))
theorem Pol.fall2 : ∀ k, Pol fun _ z2 => fall z2 k
  | 0 => .const 1
  | k + 1 => .mul (Pol.fall2 k) (.sub .y (.const _))
theorem Pol.smI {n : Nat} {f : Nat → Int → Int → Int} (h : ∀ i, Pol (f i)) : Pol fun z1 z2 => smI n fun i => f i z1 z2 := by
  induction n with
  | zero => exact .const 0
  | succ n ih => exact .add ih (h n)
/-- sums of falling products -/
inductive Fal : (Int → Int → Int) → Prop
  | base (a : Int) (i j : Nat) : Fal fun z1 z2 => a * (fall z1 i * fall z2 j)
  | add {f g : Int → Int → Int} : Fal f → Fal g → Fal fun z1 z2 => f z1 z2 + g z1 z2
theorem Fal.scale (c : Int) {f : Int → Int → Int} (h : Fal f) : Fal fun z1 z2 => f z1 z2 * c := by
  induction h with
  | base a i j =>
    have e : (fun z1 z2 => a * (fall z1 i * fall z2 j) * c) = fun z1 z2 => (a * c) * (fall z1 i * fall z2 j) := funext fun z1 => funext fun z2 => by
      rw [Int.mul_assoc, Int.mul_comm _ c, Int.mul_assoc]
    rw [e]
    exact .base _ _ _
  | @add f g _ _ a b =>
    have e : (fun z1 z2 => (f z1 z2 + g z1 z2) * c) = fun z1 z2 => f z1 z2 * c + g z1 z2 * c := funext fun z1 => funext fun z2 => Int.add_mul ..
    rw [e]
    exact .add a b
theorem fall_times (z : Int) (k : Nat) : fall z k * z = fall z (k + 1) + (k : Int) * fall z k := by
  show fall z k * z = fall z k * (z - (k : Int)) + (k : Int) * fall z k
  rw [Int.mul_sub, Int.mul_comm (k : Int)]
  omega
theorem Fal.timesX {f : Int → Int → Int} (h : Fal f) : Fal fun z1 z2 => f z1 z2 * z1 := by
  induction h with
  | base a i j =>
    have e : (fun z1 z2 => a * (fall z1 i * fall z2 j) * z1) = fun z1 z2 => a * (fall z1 (i + 1) * fall z2 j) + (a * (i : Int)) * (fall z1 i * fall z2 j) := funext fun z1 => funext fun z2 => by
      have h := fall_times z1 i
      rw [Int.mul_assoc, Int.mul_right_comm (fall z1 i), h, Int.add_mul, Int.mul_add, Int.mul_assoc a, Int.mul_assoc (i : Int)]
    rw [e]
    exact .add (.base _ _ _) (.base _ _ _)
  | @add f g _ _ a b =>
    have e : (fun z1 z2 => (f z1 z2 + g z1 z2) * z1) = fun z1 z2 => f z1 z2 * z1 + g z1 z2 * z1 := funext fun z1 => funext fun z2 => Int.add_mul ..
    rw [e]
    exact .add a b
theorem Fal.timesY {f : Int → Int → Int} (h : Fal f) : Fal fun z1 z2 => f z1 z2 * z2 := by
  induction h with
  | base a i j =>
    have e : (fun z1 z2 => a * (fall z1 i * fall z2 j) * z2) = fun z1 z2 => a * (fall z1 i * fall z2 (j + 1)) + (a * (j : Int)) * (fall z1 i * fall z2 j) := funext fun z1 => funext fun z2 => by
      have h := fall_times z2 j
      rw [Int.mul_assoc, Int.mul_assoc, h, Int.mul_add, Int.mul_add, Int.mul_assoc a, Int.mul_left_comm (fall z1 i)]
    rw [e]
    exact .add (.base _ _ _) (.base _ _ _)
  | @add f g _ _ a b =>
    have e : (fun z1 z2 => (f z1 z2 + g z1 z2) * z2) = fun z1 z2 => f z1 z2 * z2 + g z1 z2 * z2 := funext fun z1 => funext fun z2 => Int.add_mul ..
    rw [e]
    exact .add a b
theorem Fal.mul {g : Int → Int → Int} (hg : Pol g) : ∀ {f : Int → Int → Int}, Fal f → Fal fun z1 z2 => f z1 z2 * g z1 z2 := by
  induction hg with
  | const a => exact fun h => h.scale a
  | x => exact fun h => h.timesX
  | y => exact fun h => h.timesY
  | @add g1 g2 _ _ a b =>
    intro f h
    have e : (fun z1 z2 => f z1 z2 * (g1 z1 z2 + g2 z1 z2)) = fun z1 z2 => f z1 z2 * g1 z1 z2 + f z1 z2 * g2 z1 z2 := funext fun z1 => funext fun z2 => Int.mul_add ..
    rw [e]
    exact .add (a h) (b h)
  | @mul g1 g2 _ _ a b =>
    intro f h
    have e : (fun z1 z2 => f z1 z2 * (g1 z1 z2 * g2 z1 z2)) = fun z1 z2 => f z1 z2 * g1 z1 z2 * g2 z1 z2 := funext fun z1 => funext fun z2 => (Int.mul_assoc ..).symm
    rw [e]
    exact b (a h)
theorem Pol.fal {f : Int → Int → Int} (h : Pol f) : Fal f := by
  have := Fal.mul h (.base 1 0 0)
  have e : (fun z1 z2 => 1 * (fall z1 0 * fall z2 0) * f z1 z2) = f := funext fun z1 => funext fun z2 => by
    show 1 * (1 * 1) * f z1 z2 = f z1 z2
    omega
  rw [e] at this
  exact this
/-! ### factorials and twos -/
theorem fac_up : ∀ n, fac n ∣ fac (n + 1)
  | n => ⟨(n : Int) + 1, by show ((n : Int) + 1) * fac n = _; rw [Int.mul_comm]⟩
theorem fac_le : ∀ {n m : Nat}, n ≤ m → fac n ∣ fac m
  | n, 0, h => by rw [show n = 0 by omega]; exact Int.dvd_refl _
  | n, m + 1, h => by
    by_cases e : n = m + 1
    · rw [e]; exact Int.dvd_refl _
    · exact Int.dvd_trans (fac_le (by omega)) (fac_up m)
theorem fac_two {i j b : Nat} (hb : b ≤ 64) (h : b ≤ tw i + tw j) : (2 : Int) ^ b ∣ fac i * fac j := by
  have big : ∀ k, 66 ≤ k → (2 : Int) ^ b ∣ fac k := fun k hk => by
    have h66 : (2 : Int) ^ tw 66 ∣ fac 66 := ⟨odP 66, fac_od 66 (Nat.le_refl _)⟩
    exact Int.dvd_trans (p2_dvd (show b ≤ tw 66 from Nat.le_trans hb (by decide))) (Int.dvd_trans h66 (fac_le hk))
  by_cases hi : 66 ≤ i
  · exact Int.dvd_trans (big i hi) ⟨fac j, rfl⟩
  by_cases hj : 66 ≤ j
  · exact Int.dvd_trans (big j hj) ⟨fac i, Int.mul_comm ..⟩
  rw [fac_od i (by omega), fac_od j (by omega)]
  refine Int.dvd_trans (p2_dvd h) ⟨odP i * odP j, ?_⟩
  rw [Int.pow_add]
  generalize (2 : Int) ^ tw i = P
  generalize (2 : Int) ^ tw j = Q
  simp only [Int.mul_assoc, Int.mul_comm, Int.mul_left_comm]
theorem fac_div {i j : Nat} (hi : i ≤ 66) (hj : j ≤ 66) : (2 : Int) ^ (tw i + tw j) ∣ fac i * fac j := by
  rw [fac_od i hi, fac_od j hj, Int.pow_add]
  refine ⟨odP i * odP j, ?_⟩
  generalize (2 : Int) ^ tw i = P
  generalize (2 : Int) ^ tw j = Q
  simp only [Int.mul_assoc, Int.mul_comm, Int.mul_left_comm]
theorem smI_single {n i : Nat} (g : Nat → Int) : smI n (fun k => if k = i then g k else 0) = if i < n then g i else 0 := by
  induction n with
  | zero => rfl
  | succ n ih =>
    show smI n (fun k => if k = i then g k else 0) + (if n = i then g n else 0) = _
    rw [ih]
    by_cases e : n = i
    · subst e
      rw [if_neg (Nat.lt_irrefl _), if_pos rfl, if_pos (Nat.lt_succ_self _)]
      omega
    · rw [if_neg e]
      by_cases h : i < n
      · rw [if_pos h, if_pos (by omega)]
        omega
      · rw [if_neg h, if_neg (by omega)]
        rfl
/-! ### a polynomial has coefficients -/
theorem val2_add {b : Nat} {c d : Nat → Nat → Int} {z1 z2 : Int} : val2 b (fun p q => c p q + d p q) z1 z2 = (val2 b c z1 z2 + val2 b d z1 z2) % 2 ^ b := by
  unfold val2
  rw [← Int.add_emod]
  congr 1
  rw [← smI_add]
  refine smI_congr fun p _ => ?_
  rw [← smI_add]
  exact smI_congr fun q _ => Int.add_mul ..
theorem Fal.coef {b : Nat} (hb : b ≤ 64) {f : Int → Int → Int} (h : Fal f) : ∃ c, DivC 2 b c ∧ ∀ z1 z2, f z1 z2 % 2 ^ b = val2 b c z1 z2 := by
  induction h with
  | base a i j =>
    refine ⟨fun p q => if p = i then (if q = j then a * (fac i * fac j) else 0) else 0, fun r q hr hq => ?_, fun z1 z2 => ?_⟩
    · have hW := W_66 hb
      have hr : r < W b := hr
      have hq := q_lt hq
      dsimp only
      split
      · rename_i e
        subst e
        split
        · rename_i e
          subst e
          exact Int.dvd_trans (fac_div (by omega) (by omega)) ⟨a, Int.mul_comm ..⟩
        · exact Int.dvd_zero _
      · exact Int.dvd_zero _
    · unfold val2
      have e1 : (smI (W b) fun p => smI (W (b - tw p)) fun q => (if p = i then (if q = j then a * (fac i * fac j) else 0) else 0) * (bn z2 q * bn z1 p)) = smI (W b) fun p => if p = i then (if j < W (b - tw p) then a * (fac i * fac j) * (bn z2 j * bn z1 p) else 0) else 0 := smI_congr fun p _ => by
        by_cases e : p = i
        · rw [if_pos e]
          have e2 : (smI (W (b - tw p)) fun q => (if p = i then (if q = j then a * (fac i * fac j) else 0) else 0) * (bn z2 q * bn z1 p)) = smI (W (b - tw p)) fun q => if q = j then a * (fac i * fac j) * (bn z2 q * bn z1 p) else 0 := smI_congr fun q _ => by
            rw [if_pos e]
            split
            · rfl
            · exact Int.zero_mul _
          rw [e2, smI_single fun q => a * (fac i * fac j) * (bn z2 q * bn z1 p)]
        · rw [if_neg e]
          have e2 : (smI (W (b - tw p)) fun q => (if p = i then (if q = j then a * (fac i * fac j) else 0) else 0) * (bn z2 q * bn z1 p)) = smI (W (b - tw p)) fun _ => 0 := smI_congr fun q _ => by
            rw [if_neg e]
            exact Int.zero_mul _
          rw [e2, smI_zero]
      rw [e1, smI_single fun p => if j < W (b - tw p) then a * (fac i * fac j) * (bn z2 j * bn z1 p) else 0]
      have ef : a * (fac i * fac j) * (bn z2 j * bn z1 i) = a * (fall z1 i * fall z2 j) := by
        rw [← fac_bn i z1, ← fac_bn j z2]
        generalize fac i = A
        generalize fac j = B
        simp only [Int.mul_assoc, Int.mul_comm, Int.mul_left_comm]
      rw [ef]
      by_cases hin : tw i + tw j < b
      · have hi : i < W b := W_iff.mp (by omega)
        have hj : j < W (b - tw i) := W_iff.mp (by omega)
        rw [if_pos hi, if_pos hj]
      · have hz : a * (fall z1 i * fall z2 j) % 2 ^ b = 0 := by
          refine Int.emod_eq_zero_of_dvd ?_
          rw [← ef]
          exact Int.dvd_trans (fac_two (i := i) (j := j) hb (by omega)) ⟨a * (bn z2 j * bn z1 i), by rw [Int.mul_comm a, Int.mul_assoc]⟩
        rw [hz]
        split
        · split
          · exact hz.symm
          · rfl
        · rfl
  | @add f g _ _ a1 a2 =>
    obtain ⟨c, c1, c2⟩ := a1
    obtain ⟨d, d1, d2⟩ := a2
    refine ⟨fun p q => c p q + d p q, fun r q hr hq => Int.dvd_add (c1 r q hr hq) (d1 r q hr hq), fun z1 z2 => ?_⟩
    rw [val2_add, ← c2, ← d2, ← Int.add_emod]
/-! ### what a class tells is a polynomial -/
theorem odd_inv {o : Int} (ho : o % 2 = 1) : ∀ t : Nat, ∃ x : Int, (2 : Int) ^ (t + 1) ∣ o * x - 1
  | 0 => ⟨1, by
    rw [Int.mul_one]
    exact Int.dvd_of_emod_eq_zero (show (o - 1) % 2 ^ 1 = 0 by show (o - 1) % 2 = 0; omega)⟩
  | t + 1 => by
    obtain ⟨x, q, e⟩ := odd_inv ho t
    refine ⟨x * (2 - o * x), ?_⟩
    have e1 : o * (x * (2 - o * x)) - 1 = -((o * x - 1) * (o * x - 1)) := by
      rw [← Int.mul_assoc]
      generalize o * x = y
      have h1 : y * (2 - y) = y * 2 - y * y := Int.mul_sub ..
      have h2 : (y - 1) * (y - 1) = y * y - y - (y - 1) := by rw [Int.sub_mul, Int.mul_sub]; omega
      rw [h1, h2]
      omega
    rw [e1, e]
    refine Int.dvd_neg.mpr (Int.dvd_trans (p2_dvd (show t + 1 + 1 ≤ (t + 1) + (t + 1) by omega)) ⟨q * q, ?_⟩)
    rw [Int.pow_add (2 : Int) (t + 1) (t + 1)]
    generalize (2 : Int) ^ (t + 1) = P
    simp only [Int.mul_assoc, Int.mul_comm, Int.mul_left_comm]
theorem inv_ex {b : Nat} {o : Int} (ho : o % 2 = 1) : ∃ x, InvOf b o x := by
  obtain ⟨x, hx⟩ := odd_inv ho b
  have hp := p2_pos b
  refine ⟨x % 2 ^ b, Int.emod_nonneg _ (by omega), Int.emod_lt_of_pos _ hp, ?_⟩
  have e2 : x % 2 ^ b = x - 2 ^ b * (x / 2 ^ b) := Int.emod_def ..
  rw [e2, Int.mul_sub]
  have e3 : o * x - o * (2 ^ b * (x / 2 ^ b)) - 1 = (o * x - 1) - o * (2 ^ b * (x / 2 ^ b)) := by omega
  rw [e3]
  refine Int.dvd_sub (Int.dvd_trans (p2_dvd (by omega)) hx) ⟨o * (x / 2 ^ b), ?_⟩
  rw [← Int.mul_assoc, Int.mul_comm o, Int.mul_assoc]
theorem val2_pol {b : Nat} (hb1 : 1 ≤ b) (hb : b ≤ 64) {c : Nat → Nat → Int} (hd : DivC 2 b c) : ∃ P, Pol P ∧ ∀ z1 z2, val2 b c z1 z2 = P z1 z2 % 2 ^ b := by
  have hW := W_66 hb
  have ex : ∀ p q, ∃ k : Int, p < W b → q < W (b - tw p) → ∀ z1 z2, (k * (fall z2 q * fall z1 p)) % 2 ^ b = (c p q * (bn z2 q * bn z1 p)) % 2 ^ b := fun p q => by
    by_cases hp : p < W b
    · by_cases hq : q < W (b - tw p)
      · have hqW : q < W b := q_lt (m := 2) (show q < wd 2 b p from hq)
        obtain ⟨x, hx⟩ := inv_ex (b := b) (odP_odd p (by omega))
        obtain ⟨y, hy⟩ := inv_ex (b := b) (odP_odd q (by omega))
        have hlt := sum_lt (m := 2) (.inr rfl) (show p < nR 2 b from hp) (show q < wd 2 b p from hq)
        exact ⟨_, fun _ _ z1 z2 => coef_bn (z1 := z1) (z2 := z2) (by omega) (by omega) (Nat.le_of_lt hlt) hx hy (hd p q hp hq)⟩
      · exact ⟨0, fun _ h => absurd h hq⟩
    · exact ⟨0, fun h _ => absurd h hp⟩
  refine ⟨fun z1 z2 => smI (W b) fun p => smI (W (b - tw p)) fun q => Classical.choose (ex p q) * (fall z2 q * fall z1 p), ?_, fun z1 z2 => ?_⟩
  · exact .smI fun p => .smI fun q => .mul (.const _) (.mul (.fall2 q) (.fall1 p))
  · unfold val2
    refine smI_mod fun p hp => ?_
    refine smI_mod fun q hq => ?_
    exact (Classical.choose_spec (ex p q) hp hq z1 z2).symm
theorem val2_zero {b : Nat} (hb1 : 1 ≤ b) (c : Nat → Nat → Int) (z : Int) : val2 b c 0 z = val1 b c z := by
  unfold val2 val1
  congr 1
  obtain ⟨n, hn⟩ : ∃ n, W b = n + 1 := ⟨W b - 1, by have := W_pos hb1; omega⟩
  rw [hn, smI_front]
  have e : (smI n fun i => smI (W (b - tw (i + 1))) fun q => c (i + 1) q * (bn z q * bn 0 (i + 1))) = smI n fun _ => 0 := smI_congr fun i _ => by
    have : (smI (W (b - tw (i + 1))) fun q => c (i + 1) q * (bn z q * bn 0 (i + 1))) = smI (W (b - tw (i + 1))) fun _ => 0 := smI_congr fun q _ => by
      rw [bn_zero, Int.mul_zero, Int.mul_zero]
    rw [this, smI_zero]
  rw [e, smI_zero, Int.add_zero, show b - tw 0 = b from rfl, hn]
  exact smI_congr fun q _ => by
    show c 0 q * (bn z q * 1) = c 0 q * bn z q
    rw [Int.mul_one]
theorem val1_two {b : Nat} (hb1 : 1 ≤ b) (c : Nat → Nat → Int) (z : Int) : val1 b c z = val2 b (fun p q => if p = 0 then c 0 q else 0) 0 z := by
  rw [val2_zero hb1]
  rfl
/-! ### functions that tables can tell -/
def PolM (b : Nat) (f : Int → Int → Int) : Prop := ∃ P, Pol P ∧ ∀ z1 z2, f z1 z2 % 2 ^ b = P z1 z2 % 2 ^ b
theorem PolM.coef {b : Nat} (hb : b ≤ 64) {f : Int → Int → Int} (h : PolM b f) : ∃ c, DivC 2 b c ∧ ∀ z1 z2, f z1 z2 % 2 ^ b = val2 b c z1 z2 := by
  obtain ⟨P, hP, e⟩ := h
  obtain ⟨c, c1, c2⟩ := hP.fal.coef hb
  exact ⟨c, c1, fun z1 z2 => (e z1 z2).trans (c2 z1 z2)⟩
theorem PolM.add {b : Nat} {f g : Int → Int → Int} (h : PolM b f) (k : PolM b g) : PolM b fun z1 z2 => f z1 z2 + g z1 z2 := by
  obtain ⟨P, hP, e⟩ := h
  obtain ⟨Q, hQ, e2⟩ := k
  exact ⟨_, .add hP hQ, fun z1 z2 => em_add (e z1 z2) (e2 z1 z2)⟩
theorem PolM.sub {b : Nat} {f g : Int → Int → Int} (h : PolM b f) (k : PolM b g) : PolM b fun z1 z2 => f z1 z2 - g z1 z2 := by
  obtain ⟨P, hP, e⟩ := h
  obtain ⟨Q, hQ, e2⟩ := k
  exact ⟨_, .sub hP hQ, fun z1 z2 => em_sub (e z1 z2) (e2 z1 z2)⟩
theorem PolM.mul {b : Nat} {f g : Int → Int → Int} (h : PolM b f) (k : PolM b g) : PolM b fun z1 z2 => f z1 z2 * g z1 z2 := by
  obtain ⟨P, hP, e⟩ := h
  obtain ⟨Q, hQ, e2⟩ := k
  exact ⟨_, .mul hP hQ, fun z1 z2 => em_mul (e z1 z2) (e2 z1 z2)⟩
theorem PolM.const (b : Nat) (a : Int) : PolM b fun _ _ => a := ⟨_, .const a, fun _ _ => rfl⟩
theorem PolM.subst {b : Nat} (s1 e1 s2 e2 : Int) {f : Int → Int → Int} (h : PolM b f) : PolM b fun z1 z2 => f (s1 + e1 * z1) (s2 + e2 * z2) := by
  obtain ⟨P, hP, e⟩ := h
  exact ⟨_, hP.subst s1 e1 s2 e2, fun z1 z2 => e _ _⟩
/-- a function, class by class a polynomial -/
def LocP (ds : List Nat) (b : Nat) (f : List Int → Int) : Prop :=
  (∀ d, ds = [d] → ∀ r : Int, PolM b fun _ z => f [r + z * 2 ^ d]) ∧ ∀ d1 d2, ds = [d1, d2] → ∀ r1 r2 : Int, PolM b fun z1 z2 => f [r1 + z1 * 2 ^ d1, r2 + z2 * 2 ^ d2]
theorem LocP.add {ds : List Nat} {b : Nat} {f g : List Int → Int} (h : LocP ds b f) (k : LocP ds b g) : LocP ds b fun xs => f xs + g xs := ⟨fun d e r => (h.1 d e r).add (k.1 d e r), fun d1 d2 e r1 r2 => (h.2 d1 d2 e r1 r2).add (k.2 d1 d2 e r1 r2)⟩
theorem LocP.sub {ds : List Nat} {b : Nat} {f g : List Int → Int} (h : LocP ds b f) (k : LocP ds b g) : LocP ds b fun xs => f xs - g xs := ⟨fun d e r => (h.1 d e r).sub (k.1 d e r), fun d1 d2 e r1 r2 => (h.2 d1 d2 e r1 r2).sub (k.2 d1 d2 e r1 r2)⟩
theorem LocP.mul {ds : List Nat} {b : Nat} {f g : List Int → Int} (h : LocP ds b f) (k : LocP ds b g) : LocP ds b fun xs => f xs * g xs := ⟨fun d e r => (h.1 d e r).mul (k.1 d e r), fun d1 d2 e r1 r2 => (h.2 d1 d2 e r1 r2).mul (k.2 d1 d2 e r1 r2)⟩
theorem LocP.const (ds : List Nat) (b : Nat) (a : Int) : LocP ds b fun _ => a := ⟨fun _ _ _ => PolM.const b a, fun _ _ _ _ _ => PolM.const b a⟩
/-- deeper or as deep in each place -/
def DeepL : List Nat → List Nat → Prop
  | [], [] => True
  | d :: ds, e :: es => d ≤ e ∧ DeepL ds es
  | _, _ => False
theorem pow_split {d e : Nat} (h : d ≤ e) : (2 : Int) ^ e = 2 ^ (e - d) * 2 ^ d := by rw [← Int.pow_add, show e - d + d = e by omega]
theorem LocP.deep {ds es : List Nat} {b : Nat} {f : List Int → Int} (h : LocP ds b f) (hd : DeepL ds es) : LocP es b f := by
  constructor
  · rintro e rfl r
    match ds, hd with
    | [d], ⟨hd, _⟩ =>
      have := (h.1 d rfl r).subst 0 0 0 (2 ^ (e - d))
      have q : (fun (z1 z2 : Int) => (fun (_ z : Int) => f [r + z * 2 ^ d]) (0 + 0 * z1) (0 + 2 ^ (e - d) * z2)) = fun _ z => f [r + z * 2 ^ e] := funext fun z1 => funext fun z2 => by
        show f [r + (0 + 2 ^ (e - d) * z2) * 2 ^ d] = f [r + z2 * 2 ^ e]
        rw [Int.zero_add, pow_split hd, Int.mul_comm _ z2, Int.mul_assoc]
      rw [q] at this
      exact this
  · rintro e1 e2 rfl r1 r2
    match ds, hd with
    | [d1, d2], ⟨hd1, hd2, _⟩ =>
      have := (h.2 d1 d2 rfl r1 r2).subst 0 (2 ^ (e1 - d1)) 0 (2 ^ (e2 - d2))
      have q : (fun (z1 z2 : Int) => (fun (z1 z2 : Int) => f [r1 + z1 * 2 ^ d1, r2 + z2 * 2 ^ d2]) (0 + 2 ^ (e1 - d1) * z1) (0 + 2 ^ (e2 - d2) * z2)) = fun z1 z2 => f [r1 + z1 * 2 ^ e1, r2 + z2 * 2 ^ e2] := funext fun z1 => funext fun z2 => by
        show f [r1 + (0 + 2 ^ (e1 - d1) * z1) * 2 ^ d1, r2 + (0 + 2 ^ (e2 - d2) * z2) * 2 ^ d2] = f [r1 + z1 * 2 ^ e1, r2 + z2 * 2 ^ e2]
        rw [Int.zero_add, Int.zero_add, pow_split hd1, pow_split hd2, Int.mul_comm _ z1, Int.mul_comm _ z2, Int.mul_assoc, Int.mul_assoc]
      rw [q] at this
      exact this
theorem emod_add {r z : Int} {d : Nat} : (r + z * 2 ^ d) % 2 ^ d = r % 2 ^ d ∧ (r + z * 2 ^ d) / 2 ^ d = r / 2 ^ d + z := by
  have hp := p2_pos d
  exact ⟨Int.add_mul_emod_self_right .., Int.add_mul_ediv_right _ _ (by omega)⟩
/-- what a table tells is class by class a polynomial -/
theorem valT_loc {ds : List Nat} {b : Nat} (hb1 : 1 ≤ b) (hb : b ≤ 64) {cs : Nat → Nat → Nat → Int} (hd : ∀ g, DivC ds.length b (cs g)) : LocP ds b (valT b cs ds) := by
  constructor
  · rintro d rfl r
    obtain ⟨P, hP, e⟩ := val2_pol hb1 hb (c := fun p q => if p = 0 then cs (0 * 2 ^ d + r % 2 ^ d).toNat 0 q else 0) (fun p q hp hq => by
      dsimp only
      split
      · rename_i e
        subst e
        exact hd _ 0 q (Nat.zero_lt_one) (q_lt hq)
      · exact Int.dvd_zero _)
    have hS := (show PolM b P from ⟨P, hP, fun _ _ => rfl⟩).subst 0 0 (r / 2 ^ d) 1
    obtain ⟨Q, hQ, eQ⟩ := hS
    refine ⟨Q, hQ, fun z1 z => ?_⟩
    rw [← eQ]
    obtain ⟨m1, m2⟩ := emod_add (r := r) (z := z) (d := d)
    show val1 b (cs (0 * 2 ^ d + (r + z * 2 ^ d) % 2 ^ d).toNat) ((r + z * 2 ^ d) / 2 ^ d) % 2 ^ b = P (0 + 0 * z1) (r / 2 ^ d + 1 * z) % 2 ^ b
    rw [show (0 + 0 * z1 : Int) = 0 by omega, m1, m2, val1_two hb1, Int.zero_mul, Int.zero_add, Int.one_mul]
    rw [Int.zero_mul, Int.zero_add] at e
    rw [e]
    exact em_self
  · rintro d1 d2 rfl r1 r2
    obtain ⟨P, hP, e⟩ := val2_pol hb1 hb (hd ((0 * 2 ^ d1 + r1 % 2 ^ d1) * 2 ^ d2 + r2 % 2 ^ d2).toNat)
    obtain ⟨Q, hQ, eQ⟩ := (show PolM b P from ⟨P, hP, fun _ _ => rfl⟩).subst (r1 / 2 ^ d1) 1 (r2 / 2 ^ d2) 1
    refine ⟨Q, hQ, fun z1 z2 => ?_⟩
    rw [← eQ]
    obtain ⟨m1, m2⟩ := emod_add (r := r1) (z := z1) (d := d1)
    obtain ⟨n1, n2⟩ := emod_add (r := r2) (z := z2) (d := d2)
    show val2 b (cs ((0 * 2 ^ d1 + (r1 + z1 * 2 ^ d1) % 2 ^ d1) * 2 ^ d2 + (r2 + z2 * 2 ^ d2) % 2 ^ d2).toNat) ((r1 + z1 * 2 ^ d1) / 2 ^ d1) ((r2 + z2 * 2 ^ d2) / 2 ^ d2) % 2 ^ b = P (r1 / 2 ^ d1 + 1 * z1) (r2 / 2 ^ d2 + 1 * z2) % 2 ^ b
    rw [m1, m2, n1, n2, Int.one_mul, Int.one_mul, e]
    exact em_self
/-- and so a table can tell such a function -/
theorem LocP.table {ds : List Nat} {b : Nat} (hm : ds.length = 1 ∨ ds.length = 2) (hb1 : 1 ≤ b) (hb : b ≤ 64) {f : List Int → Int} (h : LocP ds b f) : ∃ cs : Nat → Nat → Nat → Int, (∀ g, DivC ds.length b (cs g)) ∧ ∀ xs, xs.length = ds.length → valT b cs ds xs = f xs % 2 ^ b := by
  rcases hm with e | e
  · match ds, e with
    | [d], _ =>
      have ex : ∀ g : Nat, ∃ c, DivC 2 b c ∧ ∀ z1 z2, f [(g : Int) + z2 * 2 ^ d] % 2 ^ b = val2 b c z1 z2 := fun g => (h.1 d rfl (g : Int)).coef hb
      refine ⟨fun g => Classical.choose (ex g), fun g r q hr hq => ?_, fun xs hx => ?_⟩
      · have hr : r < 1 := hr
        have : r = 0 := by omega
        subst this
        exact (Classical.choose_spec (ex g)).1 0 q (W_pos hb1) hq
      · match xs, hx with
        | [x], _ =>
          have hp := p2_pos d
          have h0 := Int.emod_nonneg x (show (2 : Int) ^ d ≠ 0 by omega)
          obtain ⟨g, hg⟩ : ∃ g : Nat, x % 2 ^ d = (g : Int) := ⟨(x % 2 ^ d).toNat, by omega⟩
          show val1 b (Classical.choose (ex (0 * 2 ^ d + x % 2 ^ d).toNat)) (x / 2 ^ d) = f [x] % 2 ^ b
          rw [Int.zero_mul, Int.zero_add, hg, Int.toNat_natCast, ← val2_zero hb1, ← (Classical.choose_spec (ex g)).2 0 (x / 2 ^ d), ← hg, show x % 2 ^ d + x / 2 ^ d * 2 ^ d = x from by rw [Int.mul_comm]; exact Int.emod_add_mul_ediv x (2 ^ d)]
  · match ds, e with
    | [d1, d2], _ =>
      have ex : ∀ g : Nat, ∃ c, DivC 2 b c ∧ ∀ z1 z2, f [((g : Int) / 2 ^ d2) + z1 * 2 ^ d1, ((g : Int) % 2 ^ d2) + z2 * 2 ^ d2] % 2 ^ b = val2 b c z1 z2 := fun g => (h.2 d1 d2 rfl _ _).coef hb
      refine ⟨fun g => Classical.choose (ex g), fun g => (Classical.choose_spec (ex g)).1, fun xs hx => ?_⟩
      match xs, hx with
      | [x1, x2], _ =>
        have hp1 := p2_pos d1
        have hp2 := p2_pos d2
        have h1 := Int.emod_nonneg x1 (show (2 : Int) ^ d1 ≠ 0 by omega)
        have h2 := Int.emod_nonneg x2 (show (2 : Int) ^ d2 ≠ 0 by omega)
        have h3 := Int.emod_lt_of_pos x2 hp2
        have h4 : 0 ≤ x1 % 2 ^ d1 * 2 ^ d2 := Int.mul_nonneg h1 (by omega)
        obtain ⟨g, hg⟩ : ∃ g : Nat, (0 * 2 ^ d1 + x1 % 2 ^ d1) * 2 ^ d2 + x2 % 2 ^ d2 = (g : Int) := ⟨((0 * 2 ^ d1 + x1 % 2 ^ d1) * 2 ^ d2 + x2 % 2 ^ d2).toNat, by rw [Int.zero_mul, Int.zero_add]; omega⟩
        show val2 b (Classical.choose (ex ((0 * 2 ^ d1 + x1 % 2 ^ d1) * 2 ^ d2 + x2 % 2 ^ d2).toNat)) (x1 / 2 ^ d1) (x2 / 2 ^ d2) = f [x1, x2] % 2 ^ b
        rw [hg, Int.toNat_natCast, ← (Classical.choose_spec (ex g)).2 (x1 / 2 ^ d1) (x2 / 2 ^ d2), ← hg, Int.zero_mul, Int.zero_add]
        have e1 : (x1 % 2 ^ d1 * 2 ^ d2 + x2 % 2 ^ d2) / 2 ^ d2 = x1 % 2 ^ d1 := by
          rw [Int.add_comm, Int.add_mul_ediv_right _ _ (by omega), Int.ediv_eq_zero_of_lt h2 h3, Int.zero_add]
        have e2 : (x1 % 2 ^ d1 * 2 ^ d2 + x2 % 2 ^ d2) % 2 ^ d2 = x2 % 2 ^ d2 := by
          rw [Int.add_comm, Int.add_mul_emod_self_right, Int.emod_eq_of_lt h2 h3]
        rw [e1, e2, show x1 % 2 ^ d1 + x1 / 2 ^ d1 * 2 ^ d1 = x1 from by rw [Int.mul_comm]; exact Int.emod_add_mul_ediv x1 (2 ^ d1), show x2 % 2 ^ d2 + x2 / 2 ^ d2 * 2 ^ d2 = x2 from by rw [Int.mul_comm]; exact Int.emod_add_mul_ediv x2 (2 ^ d2)]
end My

set_option pp.maxSteps 300
set_option Elab.async false
set_option linter.all false
set_option maxRecDepth 100000
set_option maxHeartbeats 1000000
namespace My
open PySem L2 MyR
theorem dv_bounds {x : Int} (d : Nat) (h1 : -(2 ^ 110) < x) (h2 : x < 2 ^ 110) : -(2 ^ 110) < x / 2 ^ d ∧ x / 2 ^ d < 2 ^ 110 := by
  have hp := p2_pos d
  by_cases h : 0 ≤ x
  · have a := Int.ediv_nonneg h (show (0 : Int) ≤ 2 ^ d by omega)
    have c := Int.ediv_le_self (2 ^ d) h
    have : (0 : Int) < 2 ^ 110 := by decide
    omega
  · have a := Int.ediv_neg_of_neg_of_pos (show x < 0 by omega) hp
    have c : x ≤ x / 2 ^ d := by
      refine Int.le_ediv_of_mul_le hp ?_
      have := Int.mul_le_mul_of_nonpos_left (a := x) (b := 2 ^ d) (c := 1) (by omega) (by omega)
      rw [Int.mul_one] at this
      exact this
    have : (0 : Int) < 2 ^ 110 := by decide
    omega
def spAt : Sp := fun vs H Q _ => ∃ (L lt pt : Addr) (ds : List Nat) (xs : List Int) (b : Nat) (fs : Nat → List Nat → Int), vs = [.ref L, .ref lt, .ref pt, .int (b : Int)] ∧ MadeAt H L ds.length b fs (2 ^ ds.sum) ∧ (∀ g, FOk (fs g)) ∧ TupI H lt (dI ds) ∧ TupI H pt xs ∧ xs.length = ds.length ∧ (ds.length = 1 ∨ ds.length = 2) ∧ ds.sum ≤ 8 ∧ 1 ≤ b ∧ b ≤ 64 ∧ (vecs ds.length b).length < 5000 ∧
  (∀ i, -(2 ^ 110) < xs.getD i 0 ∧ xs.getD i 0 < 2 ^ 110) ∧ ∀ H', Same H H' → Q (.int (valT b (fun g => csOf ds.length (fs g)) ds xs)) H'
def spEntries : Sp := fun vs H Q _ => ∃ (L lt : Addr) (ds : List Nat) (b : Nat) (fs : Nat → List Nat → Int), vs = [.ref L, .ref lt, .int (b : Int)] ∧ MadeAt H L ds.length b fs (2 ^ ds.sum) ∧ (∀ g, FOk (fs g)) ∧ TupI H lt (dI ds) ∧ (ds.length = 1 ∨ ds.length = 2) ∧ ds.sum ≤ 8 ∧ 1 ≤ b ∧ b ≤ 64 ∧ (vecs ds.length b).length < 5000 ∧
  ∀ (E : Addr) H', H E = none → Same H H' → LI H' E (allE ds.length b (fun g => csOf ds.length (fs g)) (2 ^ ds.sum)) → Q (.ref E) H'
theorem MadeAt.same {H H' : Hp} {L : Addr} {m b n : Nat} {fs : Nat → List Nat → Int} (h : MadeAt H L m b fs n) (s : Same H H') : MadeAt H' L m b fs n := let ⟨as, e1, e2, e3⟩ := h; ⟨as, s _ _ e1, e2, fun g hg => let ⟨p, q1, q2⟩ := e3 g hg; ⟨p, q1, s _ _ q2⟩⟩
section
variable {P : Program} {w : World} {K : PySem.W.Frag} {mg : Str → Option Value} {base : Heap}
abbrev s_law_at : Stmt := top 38
abbrev N_law_at : List Str := ["_law_made_here", "_law_depths", "_law_spot", "_law_wide", "_law_at_here", "_law_variables"]
theorem sc_law_at : FnScope N_law_at ["_law_made_here", "_law_depths", "_law_spot", "_law_wide"] (defScope s_law_at) := ⟨rfl, rfl, rfl, by decide +kernel, rfl, by decide +kernel, by decide +kernel⟩
theorem ok_law_at {f : Addr} {fd : FuncData} (F : Fun K "_law_at" "_law_at" s_law_at f fd) (D_law_class : Df P w K mg base 1 "_law_class" ["_law_spot", "_law_depths"] spClass) (D_law_sum : Df P w K mg base 2 "_law_sum" ["_law_factors", "_law_variables"] spSum) :
    FnOk P w K mg base CX0 3 f fd ["_law_made_here", "_law_depths", "_law_spot", "_law_wide"] spAt := by
  refine F.ok sc_law_at (fun vs H Q E h => ?_) (fun cdv A outer s H vs Q E hr h => ?_)
  · obtain ⟨L, lt, pt, ds, xs, b, fs, rfl, _⟩ := h
    rfl
  · obtain ⟨L, lt, pt, ds, xs, b, fs, rfl, mk, hfs, hl, hp, hxl, hm, hs8, hb1, hb, hv, hx, kq⟩ := h
    have nd := sc_law_at.nd
    refine ⟨_, (pss_cons (ps_asg (pe_call D_law_class.ok (hr.mono (by decide)) (by rfl) D_law_class.g D_law_class.kp D_law_class.b .nil pass0 (pa_cons (pv 2) (pa_cons (pv 1) pa_nil))) (pg_tup (by rfl) (pgs_cons (pg_name (i := 4) nd rfl (Or.inl rfl)) (pgs_cons (pg_name (i := 5) nd rfl (Or.inl rfl)) pgs_nil))))
    (pss_one (ps_ret (pe_op op_mod (pe_call D_law_sum.ok (hr.mono (by decide)) (by rfl) D_law_sum.g D_law_sum.kp D_law_sum.b .nil pass0 (pa_cons (pe_ix ix_list (pv 0) (pv 4) (fun _ _ => rfl)) (pa_cons (pv 5) pa_nil))) (pe_op op_shl pe_int (pv 3)))))), ?_⟩
    refine seq_by (fun σ H1 => ∃ t2 : Addr, σ = [some (.ref L), some (.ref lt), some (.ref pt), some (.int (b : Int)), some (.int (gA ds xs ds.length)), some (.ref t2)] ∧ Same H H1 ∧ TupI H1 t2 ((List.range ds.length).map (vrI ds xs))) (fun D' hD' => ?_) ?_
    · refine ⟨_, rfl, _, rfl, pt, lt, ds, xs, rfl, hp, hl, hxl, hm, hs8, fun T t2 H1 s1 hT ht => ?_⟩
      exact ⟨T, _, rfl, SqT.of hT, rfl, _, _, rfl, _, _, rfl, rfl, hD' _ _ ⟨t2, rfl, s1, ht⟩⟩
    rintro σ H1 ⟨t2, rfl, s1, ht⟩
    obtain ⟨g1, g2⟩ := gA_lt ds xs ds.length
    rw [(sA_le hm hs8 0 (Nat.zero_le _)).2] at g2
    obtain ⟨g, hg⟩ : ∃ g : Nat, gA ds xs ds.length = (g : Int) := ⟨(gA ds xs ds.length).toNat, by omega⟩
    have hgl : g < 2 ^ ds.sum := by
      rw [hg, ← pow_cast] at g2
      omega
    obtain ⟨as, e1, e2, e3⟩ := mk.same s1
    obtain ⟨p, q1, q2⟩ := e3 g hgl
    have hpp : (as.map V.ref)[g]? = some (.ref p) := by rw [List.getElem?_map, q1]; rfl
    rw [hg]
    refine ⟨_, rfl, _, rfl, L, _, _, _, rfl, rfl, SqL.of e1, atI_nat hpp, _, rfl, p, t2, ds.length, b, fs g, _, rfl, q2, ht, by rw [List.length_map, List.length_range], hm, hb1, hb, hv, hfs g, fun i => ?_, fun H2 s2 => ?_⟩
    · by_cases hi : i < ds.length
      · rw [List.getD_eq_getElem?_getD, at_range hi]
        exact dv_bounds _ (hx i).1 (hx i).2
      · rw [List.getD_eq_getElem?_getD, List.getElem?_eq_none (by rw [List.length_map, List.length_range]; omega)]
        exact ⟨by decide, by decide⟩
    · have hp2 := p2_pos b
      refine ⟨_, rfl, _, _, rfl, rfl, ⟨by omega, by omega, by decide⟩, _, _, rfl, rfl, ?_, ?_⟩
      · rw [Int.toNat_natCast, Int.one_mul]
        exact hp2
      · rw [Int.toNat_natCast, Int.one_mul]
        have e := sum_val (b := b) fs hm hxl
        rw [hg, Int.toNat_natCast] at e
        show Q (.int (smF (fs g) ((List.range ds.length).map (vrI ds xs)) ds.length (vecs ds.length b) % 2 ^ b)) H2
        rw [e]
        exact kq H2 (s1.trans s2)
abbrev s_law_entries : Stmt := top 39
abbrev N_law_entries : List Str := ["_law_made_here", "_law_depths", "_law_wide", "_law_spot"]
theorem sc_law_entries : FnScope N_law_entries ["_law_made_here", "_law_depths", "_law_wide"] (defScope s_law_entries) := ⟨rfl, rfl, rfl, by decide +kernel, rfl, by decide +kernel, by decide +kernel⟩
theorem resL_ent {ds : List Nat} (hm : ds.length = 1 ∨ ds.length = 2) (hs8 : ds.sum ≤ 8) : ∀ i, i ≤ ds.length → ∀ r, r ∈ resL ds i → ∀ k, 0 ≤ r.getD k 0 ∧ r.getD k 0 < 256
  | 0, _, r, h, k => by
    rw [List.mem_singleton.mp h]
    exact ⟨by simp, by simp⟩
  | i + 1, hi, r, h, k => by
    obtain ⟨q, hq, h⟩ := List.mem_flatMap.mp h
    obtain ⟨x, hx, rfl⟩ := List.mem_map.mp h
    have hx := List.mem_range.mp hx
    have hd8 := d_le8 hm hs8 i (by omega)
    have hN : (2 : Nat) ^ ds.getD i 0 ≤ 256 := by
      have := Nat.pow_le_pow_right (n := 2) (by decide) hd8
      exact Nat.le_trans this (by decide)
    by_cases e : k < q.length
    · rw [List.getD_eq_getElem?_getD, List.getElem?_append_left e, ← List.getD_eq_getElem?_getD]
      exact resL_ent hm hs8 i (by omega) q hq k
    · rw [List.getD_eq_getElem?_getD, List.getElem?_append_right (by omega)]
      by_cases e2 : k - q.length = 0
      · rw [e2]
        show 0 ≤ (x : Int) ∧ (x : Int) < 256
        omega
      · rw [List.getElem?_eq_none (by show 1 ≤ k - q.length; omega)]
        exact ⟨by decide, by decide⟩
theorem spot_bounds {ds : List Nat} {b : Nat} (hm : ds.length = 1 ∨ ds.length = 2) (hs8 : ds.sum ≤ 8) (hb : b ≤ 64) {x : List Int} (h : x ∈ spotsL ds b) : x.length = ds.length ∧ ∀ i, -(2 ^ 110) < x.getD i 0 ∧ x.getD i 0 < 2 ^ 110 := by
  obtain ⟨r, hr, h⟩ := List.mem_flatMap.mp h
  obtain ⟨v, hv, rfl⟩ := List.mem_map.mp h
  obtain ⟨u, hu, rfl⟩ := List.mem_map.mp hv
  refine ⟨by unfold spotI; rw [List.length_map, List.length_range], fun i => ?_⟩
  by_cases hi : i < ds.length
  · unfold spotI
    rw [List.getD_eq_getElem?_getD, at_range hi]
    show -(2 ^ 110) < r.getD i 0 + (dI u).getD i 0 * 2 ^ ds.getD i 0 ∧ r.getD i 0 + (dI u).getD i 0 * 2 ^ ds.getD i 0 < 2 ^ 110
    have h1 : 0 ≤ (dI u).getD i 0 ∧ (dI u).getD i 0 < 66 := by
      have hul := vecs_mem _ _ u hu
      have e : (dI u)[i]? = some ((u[i] : Nat) : Int) := by unfold dI; rw [List.getElem?_map, List.getElem?_eq_getElem (show i < u.length by omega)]; rfl
      rw [List.getD_eq_getElem?_getD, e]
      have := vecs_ent hb _ _ u (Nat.le_refl _) hu _ (List.getElem_mem (show i < u.length by omega))
      show 0 ≤ ((u[i] : Nat) : Int) ∧ ((u[i] : Nat) : Int) < 66
      omega
    have h2 := resL_ent hm hs8 _ (Nat.le_refl _) r hr i
    have hd8 := d_le8 hm hs8 i hi
    have h3 : (2 : Int) ^ ds.getD i 0 ≤ 2 ^ 8 := Int.le_of_dvd (by decide) (p2_dvd hd8)
    have h4 := p2_pos (ds.getD i 0)
    have h5 : (dI u).getD i 0 * 2 ^ ds.getD i 0 ≤ 66 * 2 ^ 8 := Int.mul_le_mul (by omega) h3 (by omega) (by decide)
    have h6 : 0 ≤ (dI u).getD i 0 * 2 ^ ds.getD i 0 := Int.mul_nonneg h1.1 (by omega)
    have h7 : (2 : Int) ^ 110 = 1298074214633706907132624082305024 := by decide
    omega
  · rw [List.getD_eq_getElem?_getD, List.getElem?_eq_none (by unfold spotI; rw [List.length_map, List.length_range]; omega)]
    exact ⟨by decide, by decide⟩
theorem ok_law_entries {f : Addr} {fd : FuncData} (F : Fun K "_law_entries" "_law_entries" s_law_entries f fd) (D_law_spots : Df P w K mg base 5 "_law_spots" ["_law_depths", "_law_wide"] spSpots) (D_law_at : Df P w K mg base 3 "_law_at" ["_law_made_here", "_law_depths", "_law_spot", "_law_wide"] spAt) :
    FnOk P w K mg base CX0 6 f fd ["_law_made_here", "_law_depths", "_law_wide"] spEntries := by
  refine F.ok sc_law_entries (fun vs H Q E h => ?_) (fun cdv A outer s H vs Q E hr h => ?_)
  · obtain ⟨L, lt, ds, b, fs, rfl, _⟩ := h
    rfl
  · obtain ⟨L, lt, ds, b, fs, rfl, mk, hfs, hl, hm, hs8, hb1, hb, hv, kq⟩ := h
    have nd := sc_law_entries.nd
    refine ⟨_, (pss_one (ps_ret (pe_lc (own := [("_law_spot", 3)]) (g := gName 3) (tt := tYes) rfl nd (pi_list (pe_call D_law_spots.ok (hr.mono (by decide)) (by rfl) D_law_spots.g D_law_spots.kp D_law_spots.b .nil pass0 (pa_cons (pv 1) (pa_cons (pv 2) pa_nil)))) (blkOk_by (N := N_law_entries) (sc := defScope s_law_entries) (by decide +kernel)) (fun _ _ _ _ _ => pg_name (i := 3) nd rfl (Or.inl rfl)) (fun _ _ _ _ _ => pts_nil) (fun _ _ _ _ _ => (pe_call D_law_at.ok (hr.mono (by decide)) (by rfl) D_law_at.g D_law_at.kp D_law_at.b .nil pass0 (pa_cons (pv 0) (pa_cons (pv 1) (pa_cons (pv 3) (pa_cons (pv 2) pa_nil))))))))), ?_⟩
    have zl : 16777216 = sizeLine := sizeLine_eq.symm
    refine ⟨_, rfl, _, rfl, lt, ds, b, rfl, hl, hm, hs8, hb1, hb, hv, fun S H1 hS s1 hl1 => ?_⟩
    obtain ⟨us, hus⟩ : ∃ us, LTV H1 S us (spotsL ds b) := hl1.lenV
    have hN : (2 : Nat) ^ ds.sum ≤ 256 := Nat.pow_le_pow_right (n := 2) (by decide) hs8
    have hsl : (spotsL ds b).length ≤ 256 * 5000 := by
      have e := congrArg List.length (entries_all (b := b) (ds := ds) (fun g => csOf ds.length (fs g)) hm)
      rw [List.length_map, allE_len hm] at e
      rw [e]
      exact Nat.mul_le_mul hN (Nat.le_of_lt hv)
    refine ⟨S, rfl, ⟨_, SqL.of hus.1⟩, fun D hD => ?_⟩
    refine lc_list (xs := us) (fun i H2 => Same H1 H2 ∧ LI H2 D (((spotsL ds b).take i).map (valT b (fun g => csOf ds.length (fs g)) ds))) ⟨new_same hD, upd_same⟩ (fun i H2 _ h => SqL.of (hus.same h.1).1) ?_ ?_
    · rintro i x H2 hx ⟨s2, h2⟩
      obtain ⟨p, xs, hi, hxi, rfl, hp⟩ := (hus.same s2).at hx
      obtain ⟨b1, b2⟩ := spot_bounds hm hs8 hb (List.mem_of_getElem? hxi)
      refine ⟨rfl, ?_⟩
      dsimp only [tYes]
      rw [if_pos rfl]
      have s12 := s1.trans s2
      refine ⟨_, rfl, _, rfl, _, rfl, _, rfl, L, lt, p, ds, xs, b, fs, rfl, mk.same s12, hfs, hl.same s12, hp, b1, hm, hs8, hb1, hb, hv, b2, fun H3 s3 => ?_⟩
      refine ⟨_, h2.same s3, by rw [List.length_map, List.length_map, List.length_take]; omega, same_up (s2.trans s3) hD, ?_⟩
      rw [List.take_succ, hxi, List.map_append]
      exact li_snoc
    · rintro H2 ⟨s2, h2⟩
      rw [hus.2.1, List.take_length, entries_all _ hm] at h2
      exact kq D H2 (same_free s1 hD) (s1.trans s2) h2
end
end My

set_option pp.maxSteps 400
set_option Elab.async false
set_option linter.all false
set_option maxRecDepth 100000
set_option maxHeartbeats 1000000
namespace My
open PySem L2 MyR RT
theorem walk_revT {K : PySem.W.Frag} {a : Addr} {xs : List V} : Walk (ItvT K a xs.length) xs.length (fun H => SqT K H a xs) (fun i H x H' => H' = H ∧ xs[xs.length - 1 - i]? = some x) :=
  ⟨fun i _ hi q => ⟨hi, xs, xs[xs.length - 1 - i]'(by omega), q, by simp [show xs.length - 1 - i < xs.length by omega]⟩, fun _ _ => Nat.le_refl _, fun _ _ _ _ _ q y => ⟨y.1, y.2 xs q⟩⟩
/-! ### residues -/
def leftR : List Nat → Int → Int
  | [], n => n
  | d :: r, n => leftR r (n / 2 ^ d)
def resR : List Nat → Int → List Int
  | [], _ => []
  | d :: r, n => n % 2 ^ d :: resR r (n / 2 ^ d)
theorem resR_snoc : ∀ (xs : List Nat) (d : Nat) (n : Int), resR (xs ++ [d]) n = resR xs n ++ [leftR xs n % 2 ^ d] ∧ leftR (xs ++ [d]) n = leftR xs n / 2 ^ d
  | [], d, n => ⟨rfl, rfl⟩
  | x :: xs, d, n => by
    obtain ⟨h1, h2⟩ := resR_snoc xs d (n / 2 ^ x)
    exact ⟨by show _ :: resR (xs ++ [d]) (n / 2 ^ x) = _; rw [h1]; rfl, h2⟩
theorem resR_len : ∀ (xs : List Nat) (n : Int), (resR xs n).length = xs.length
  | [], _ => rfl
  | x :: xs, n => by
    show (resR xs (n / 2 ^ x)).length + 1 = xs.length + 1
    rw [resR_len xs]
def resI (ds : List Nat) (n : Int) : List Int := (resR ds.reverse n).reverse
def spRes : Sp := fun vs H Q _ => ∃ (lt : Addr) (ds : List Nat) (n : Int), vs = [.ref lt, .int n] ∧ TupI H lt (dI ds) ∧ (∀ d ∈ ds, d ≤ 1000) ∧ ds.length ≤ 1000 ∧ ∀ (L : Addr) H', H L = none → Same H H' → LI H' L (resI ds n) → Q (.ref L) H'
/-- the greater depth in each place -/
def mxL (ds es : List Nat) : List Nat := (List.range ds.length).map fun i => if es.getD i 0 > ds.getD i 0 then es.getD i 0 else ds.getD i 0
def spGr : Sp := fun vs H Q _ => ∃ (a c : Addr) (ds es : List Nat), vs = [.ref a, .ref c] ∧ TupI H a (dI ds) ∧ TupI H c (dI es) ∧ ds.length = es.length ∧ ds.length ≤ 1000 ∧ ∀ (t : Addr) H', H t = none → Same H H' → TupI H' t (dI (mxL ds es)) → Q (.ref t) H'
section
variable {P : Program} {w : World} {K : PySem.W.Frag} {mg : Str → Option Value} {base : Heap}
abbrev s_residues : Stmt := top 13
abbrev N_residues : List Str := ["loss", "number", "found", "left", "depth"]
theorem sc_residues : FnScope N_residues ["loss", "number"] (defScope s_residues) := ⟨rfl, rfl, rfl, by decide +kernel, rfl, by decide +kernel, by decide +kernel⟩
theorem ok_residues {f : Addr} {fd : FuncData} (F : Fun K "residues" "residues" s_residues f fd) (T : Glob mg) : FnOk P w K mg base CX0 1 f fd ["loss", "number"] spRes := by
  refine F.ok sc_residues (fun vs H Q E h => ?_) (fun cdv A outer s H vs Q E hr h => ?_)
  · obtain ⟨lt, ds, n, rfl, _⟩ := h
    rfl
  · obtain ⟨lt, ds, n, rfl, hl, hd, hm, kq⟩ := h
    have nd := sc_residues.nd
    refine ⟨_, (pss_cons (ps_set (i := 2) nd rfl (Or.inl rfl) (pe_lst pa_nil))
    (pss_cons (ps_set (i := 3) nd rfl (Or.inl rfl) (pv 1))
    (pss_cons (ps_for PassesOwn.never rfl (pi_revA (by rfl) T.g_reversed (pv 0)) (pg_name (i := 4) nd rfl (Or.inl rfl))
    (pss_cons (ps_expr (pe_bm PySem.F.plainAttrs_list PySem.F.slot_list_append PySem.F.type_list_append mt_append (pv 2) (pa_cons (pe_op op_andM (pv 3) (pe_op op_sub (pe_op op_shl pe_int (pv 4)) pe_int)) pa_nil)))
    (pss_one (ps_set (i := 3) nd rfl (Or.inl rfl) (pe_op op_shrN (pv 3) (pv 4))))))
    (pss_one (ps_ret (pe_revL (pv 2))))))), ?_⟩
    have zl : 16777216 = sizeLine := sizeLine_eq.symm
    refine seq_by (fun σ H1 => ∃ L : Addr, σ = [some (.ref lt), some (.int n), some (.ref L), none, none] ∧ Same H H1 ∧ LI H1 L [] ∧ H L = none) (fun D' hD' => ?_) ?_
    · exact ⟨(by show 0 ≤ sizeLine; omega), fun L hL => hD' _ _ ⟨L, rfl, new_same hL, upd_same, hL⟩⟩
    rintro σ H1 ⟨L, rfl, s1, h1, hLn⟩
    refine seq_by (fun σ H2 => H2 = H1 ∧ σ = [some (.ref lt), some (.int n), some (.ref L), some (.int n), none]) (fun D' hD' => ?_) ?_
    · exact ⟨_, rfl, hD' _ _ ⟨rfl, rfl⟩⟩
    rintro σ H2 ⟨rfl, rfl⟩
    have hdl : ((dI ds).map V.int).length = ds.length := by rw [List.length_map]; unfold dI; rw [List.length_map]
    refine ⟨_, rfl, lt, (dI ds).map V.int, rfl, .inr ⟨SqT.of (hl.same s1), ?_⟩⟩
    refine for_it walk_revT (fun i σ H3 => ∃ a4 : Option V, σ = [some (.ref lt), some (.int n), some (.ref L), some (.int (leftR (ds.reverse.take i) n)), a4] ∧ Same H H3 ∧ LI H3 L (resR (ds.reverse.take i) n))
      ⟨none, rfl, s1, h1⟩ (fun i σ H3 _ h => by obtain ⟨_, _, h, _⟩ := h; exact SqT.of (hl.same h)) ?_ ?_
    · rintro i x σ H3 H4 hi ⟨a4, rfl, s3, h3⟩ ⟨rfl, hx⟩
      rw [hdl] at hi
      have hi2 : i < ds.reverse.length := by rw [List.length_reverse]; exact hi
      have hr : ds.reverse[i]? = some ds.reverse[i] := List.getElem?_eq_getElem hi2
      have hx' : x = .int ((ds.reverse[i] : Nat) : Int) := by
        rw [hdl] at hx
        have e : ds[ds.length - 1 - i]? = some ds.reverse[i] := by
          rw [← hr, List.getElem?_reverse hi]
        have e2 : (dI ds)[ds.length - 1 - i]? = some ((ds.reverse[i] : Nat) : Int) := by unfold dI; rw [List.getElem?_map, e]; rfl
        rw [map_at_int e2] at hx
        exact (Option.some.inj hx).symm
      subst hx'
      have hd1 := hd ds.reverse[i] (List.mem_reverse.mp (List.getElem_mem hi2))
      obtain ⟨r1, r2⟩ := resR_snoc (ds.reverse.take i) ds.reverse[i] n
      have htk : ds.reverse.take (i + 1) = ds.reverse.take i ++ [ds.reverse[i]] := by
        rw [List.take_succ, hr]
        rfl
      have hlen : (resR (ds.reverse.take i) n).length ≤ 1000 := by
        rw [resR_len, List.length_take]
        omega
      refine ⟨_, rfl, .inl ⟨rfl, _, SqL.of h3⟩, _, rfl, _, rfl, _, _, rfl, rfl, ⟨by omega, by omega, by decide⟩, _, _, rfl, rfl, _, ds.reverse[i], rfl, ?_, ?_⟩
      · rw [Int.toNat_natCast, Int.one_mul]
      refine ⟨L, _, _, rfl, rfl, h3, by rw [List.length_map]; omega, ?_⟩
      refine ⟨_, rfl, _, rfl, _, ds.reverse[i], rfl, rfl, ?_⟩
      refine ⟨some (.int ((ds.reverse[i] : Nat) : Int)), ?_, same_up s3 hLn, ?_⟩
      · rw [htk, r2]
        rfl
      · rw [htk, r1]
        exact li_snoc
    · rintro σ H3 ⟨a4, rfl, s3, h3⟩
      rw [hdl, List.take_of_length_le (by rw [List.length_reverse]; omega)] at h3
      refine ⟨_, rfl, L, _, rfl, SqL.of h3, fun p hp => ?_⟩
      refine kq p _ (same_free s3 hp) (s3.trans (new_same hp)) ?_
      show upd _ p _ p = _
      rw [upd_same]
      unfold resI
      rw [List.map_reverse]
abbrev s_greater_loss : Stmt := top 17
abbrev N_greater_loss : List Str := ["one", "other", "first", "second"]
theorem sc_greater_loss : FnScope N_greater_loss ["one", "other"] (defScope s_greater_loss) := ⟨rfl, rfl, rfl, by decide +kernel, rfl, by decide +kernel, by decide +kernel⟩
theorem ok_greater_loss {f : Addr} {fd : FuncData} (F : Fun K "greater_loss" "greater_loss" s_greater_loss f fd) (T : Glob mg) : FnOk P w K mg base CX0 1 f fd ["one", "other"] spGr := by
  refine F.ok sc_greater_loss (fun vs H Q E h => ?_) (fun cdv A outer s H vs Q E hr h => ?_)
  · obtain ⟨a, c, ds, es, rfl, _⟩ := h
    rfl
  · obtain ⟨a, c, ds, es, rfl, ha, hc, hde, hl, kq⟩ := h
    have nd := sc_greater_loss.nd
    refine ⟨_, (pss_one (ps_ret (pe_callTy call_tuple_of (by rfl) T.g_tuple (by decide +kernel) (pa_cons (pe_lc (own := [("first", 2), ("second", 3)]) (g := gTup K 2 (gCons (gName 2) (gCons (gName 3) gNil))) (tt := tYes) rfl nd (pi_zipK (by rfl) T.g_zip (pa_cons (pv 0) (pa_cons (pv 1) pa_nil))) (blkOk_by (N := N_greater_loss) (sc := defScope s_greater_loss) (by decide +kernel)) (fun _ _ _ _ _ => pg_tup (by rfl) (pgs_cons (pg_name (i := 2) nd rfl (Or.inl rfl)) (pgs_cons (pg_name (i := 3) nd rfl (Or.inl rfl)) pgs_nil))) (fun _ _ _ _ _ => pts_nil) (fun _ _ _ _ _ => (pe_callB (call_max2 rfl) (by rfl) T.g_max (by decide +kernel) (pa_cons (pv 2) (pa_cons (pv 3) pa_nil))))) pa_nil)))), ?_⟩
    have zl : 16777216 = sizeLine := sizeLine_eq.symm
    have hdl : ((dI ds).map V.int).length = ds.length := by rw [List.length_map]; unfold dI; rw [List.length_map]
    have hel : ((dI es).map V.int).length = es.length := by rw [List.length_map]; unfold dI; rw [List.length_map]
    refine ⟨_, rfl, _, rfl, true, true, a, c, _, _, rfl, sqK_t (SqT.of ha), sqK_t (SqT.of hc), fun D hD => ?_⟩
    refine lc_it (walk_zipK (xs := (dI ds).map V.int) (ys := (dI es).map V.int) (by rw [hdl, hel, hde])) (fun i H1 => Same H H1 ∧ LI H1 D (dI ((List.range i).map fun i => if es.getD i 0 > ds.getD i 0 then es.getD i 0 else ds.getD i 0))) ⟨new_same hD, upd_same⟩ (fun i H1 _ h => ⟨sqK_t (SqT.of (ha.same h.1)), sqK_t (SqT.of (hc.same h.1))⟩) ?_ ?_
    · rintro i x H1 H2 hi ⟨s1, h1⟩ ⟨T', x1, x2, rfl, hT, rfl, hx1, hx2⟩
      rw [hdl] at hi
      have gt : ∀ (xs : List Nat), i < xs.length → ((dI xs).map V.int)[i]? = some (.int ((xs.getD i 0 : Nat) : Int)) := fun xs h => by
        have e : (dI xs)[i]? = some ((xs.getD i 0 : Nat) : Int) := by
          unfold dI
          rw [List.getElem?_map, List.getD_eq_getElem?_getD, List.getElem?_eq_getElem h]
          rfl
        exact map_at_int e
      have hx1 : ((dI ds).map V.int)[i]? = some x1 := hx1
      have hx2 : ((dI es).map V.int)[i]? = some x2 := hx2
      rw [gt ds hi] at hx1
      rw [gt es (by omega)] at hx2
      obtain rfl := Option.some.inj hx1
      obtain rfl := Option.some.inj hx2
      have st := new_same (o := .tup [V.int ((ds.getD i 0 : Nat) : Int), .int ((es.getD i 0 : Nat) : Int)]) hT
      have s2 := s1.trans st
      have h2 := h1.same st
      refine ⟨T', _, rfl, SqT.of upd_same, rfl, _, _, rfl, _, _, rfl, rfl, rfl, ?_⟩
      dsimp only [tYes]
      rw [if_pos rfl]
      generalize upd H1 T' (.tup [V.int ((ds.getD i 0 : Nat) : Int), .int ((es.getD i 0 : Nat) : Int)]) = H3 at s2 h2 ⊢
      refine ⟨_, rfl, _, rfl, _, _, rfl, ?_⟩
      refine ⟨_, h2, by rw [List.length_map]; unfold dI; rw [List.length_map, List.length_map, List.length_range]; omega, same_up s2 hD, ?_⟩
      have e : (if ((es.getD i 0 : Nat) : Int) > ((ds.getD i 0 : Nat) : Int) then ((es.getD i 0 : Nat) : Int) else ((ds.getD i 0 : Nat) : Int)) = ((if es.getD i 0 > ds.getD i 0 then es.getD i 0 else ds.getD i 0 : Nat) : Int) := by
        split
        · rename_i q
          rw [if_pos (by omega)]
        · rename_i q
          rw [if_neg (by omega)]
      rw [e]
      unfold dI
      rw [List.range_succ, List.map_append, List.map_append]
      exact li_snoc
    · rintro H1 ⟨s1, h1⟩
      rw [hdl] at h1
      refine ⟨D, _, rfl, .inl ⟨SqL.of h1, fun t ht => ?_⟩⟩
      exact kq t _ (same_free s1 ht) (s1.trans (new_same ht)) upd_same
abbrev s_vector_list : Stmt := top 11
abbrev N_vector_list : List Str := ["count", "bits", "found", "first", "used", "others"]
theorem sc_vector_list : FnScope N_vector_list ["count", "bits"] (defScope s_vector_list) := ⟨rfl, rfl, rfl, by decide +kernel, rfl, by decide +kernel, by decide +kernel⟩
theorem ok_vector_list {f : Addr} {fd : FuncData} (F : Fun K "vector_list" "vector_list" s_vector_list f fd) (T : Glob mg) (D_shares : Df P w K mg base 2 "shares" ["bits"] spShares) (g : mg "vector_list" = some (.ref f)) (kp : PySem.W.keepIn K (.ref f) = true) (bb : Binds K fd ["count", "bits"] []) :
    ∀ m, FnOk P w K mg base CX0 (m + 3) f fd ["count", "bits"] (spVecs m)
  | 0 => by
    refine F.ok sc_vector_list (fun vs H Q E h => ?_) (fun cdv A outer s H vs Q E hr h => ?_)
    · obtain ⟨b, rfl, _⟩ := h
      rfl
    · obtain ⟨b, rfl, hb1, hb, hv, hm, kq⟩ := h
      have nd := sc_vector_list.nd
      refine ⟨_, (pss_cons (ps_if (pt_cmpR op_eq (pv 0) pe_int (nomark _))
      (pss_one (ps_ret (pe_lst (pa_cons (pe_tup pa_nil) pa_nil))))
      pss_nil)
      (pss_cons ps_never (pss_cons ps_never (pss_one ps_never)))), ?_⟩
      refine ⟨_, rfl, rfl, _, rfl, iteT ?_⟩
      refine ⟨(by show 0 ≤ sizeLine; decide), fun t ht => ⟨(by show 1 ≤ sizeLine; decide), fun L hL => ?_⟩⟩
      have s1 := new_same (o := .tup []) ht
      have s2 := new_same (o := .lst [.ref t]) hL
      refine kq L _ (same_free s1 hL) (s1.trans s2) ⟨[t], upd_same, rfl, fun i xs e => ?_⟩
      match i, e with
      | 0, e =>
        cases e
        exact ⟨t, rfl, s2 _ _ upd_same⟩
      | i + 1, e => simp [dV, vecs] at e
  | m + 1 => by
    have ih := ok_vector_list F T D_shares g kp bb m
    refine F.ok sc_vector_list (fun vs H Q E h => ?_) (fun cdv A outer s H vs Q E hr h => ?_)
    · obtain ⟨b, rfl, _⟩ := h
      rfl
    · obtain ⟨b, rfl, hb1, hb, hv, hm, kq⟩ := h
      have nd := sc_vector_list.nd
      refine ⟨_, (pss_cons (ps_if (pt_cmpR op_eq (pv 0) pe_int (nomark _))
      (pss_one ps_never)
      pss_nil)
      (pss_cons (ps_set (i := 2) nd rfl (Or.inl rfl) (pe_lst pa_nil))
      (pss_cons (ps_for PassesOwn.never rfl (pi_enum (by rfl) T.g_enumerate (pa_cons (pe_call D_shares.ok (hr.mono (by omega)) (by rfl) D_shares.g D_shares.kp D_shares.b .nil pass0 (pa_cons (pv 1) pa_nil)) pa_nil)) (pg_tup (by rfl) (pgs_cons (pg_name (i := 3) nd rfl (Or.inl rfl)) (pgs_cons (pg_name (i := 4) nd rfl (Or.inl rfl)) pgs_nil)))
      (pss_one (ps_for PassesOwn.never rfl (pi_list (pe_call ih hr (by rfl) g kp bb .nil pass0 (pa_cons (pe_op op_sub (pv 0) pe_int) (pa_cons (pe_op op_sub (pv 1) (pv 4)) pa_nil)))) (pg_name (i := 5) nd rfl (Or.inl rfl))
      (pss_one (ps_expr (pe_bm PySem.F.plainAttrs_list PySem.F.slot_list_append PySem.F.type_list_append mt_append (pv 2) (pa_cons (pe_tup (pa_cons (pv 3) (StX.pa_star (pv 5) pa_nil))) pa_nil)))))))
      (pss_one (ps_ret (pv 2)))))), ?_⟩
      have zl : 16777216 = sizeLine := sizeLine_eq.symm
      have hm1 : ((m + 1 : Nat) : Int) ≠ 0 := by omega
      refine seq_by (fun σ H1 => H1 = H ∧ σ = [some (.int ((m + 1 : Nat) : Int)), some (.int (b : Int)), none, none, none, none]) (fun D' hD' => ?_) ?_
      · refine ⟨_, rfl, rfl, _, rfl, ?_⟩
        rw [decide_eq_false (fun z => hm1 (V.int.inj z))]
        exact iteF (hD' _ _ ⟨rfl, rfl⟩)
      rintro σ H1 ⟨rfl, rfl⟩
      refine seq_by (fun σ H2 => ∃ L : Addr, σ = [some (.int ((m + 1 : Nat) : Int)), some (.int (b : Int)), some (.ref L), none, none, none] ∧ Same H1 H2 ∧ LTI H2 L [] ∧ H1 L = none) (fun D' hD' => ?_) ?_
      · exact ⟨(by show 0 ≤ sizeLine; omega), fun L hL => hD' _ _ ⟨L, rfl, new_same hL, ⟨[], upd_same, rfl, fun i xs e => by simp at e⟩, hL⟩⟩
      rintro σ H2 ⟨L, rfl, s2, hl2, hLn⟩
      have hW := W_66 hb
      have htot : (vecsTo m b (W b)).length < 5000 := hv
      refine ⟨_, rfl, b, rfl, hb, fun S H3 hS s3 hl3 => ?_⟩
      have hsl : ((sharesL b).map V.int).length = W b := by rw [List.length_map]; unfold sharesL; rw [List.length_map, List.length_range]
      refine ⟨S, _, rfl, SqL.of hl3, ?_⟩
      refine for_it walk_enum (fun k σ H4 => ∃ a3 a4 a5 : Option V, σ = [some (.int ((m + 1 : Nat) : Int)), some (.int (b : Int)), some (.ref L), a3, a4, a5] ∧ Same H1 H4 ∧ LI H4 S (sharesL b) ∧ LTI H4 L ((vecsTo m b k).map dI) ∧ L ≠ S)
        ⟨none, none, none, rfl, s2.trans s3, hl3, hl2.same s3, (by obtain ⟨as, e1, _⟩ := hl2; exact ne_of_none e1 hS)⟩ (fun k σ H4 _ h => by obtain ⟨_, _, _, _, _, h, _⟩ := h; exact SqL.of h) ?_ ?_
      · rintro k x σ H4 H5 hk ⟨a3, a4, a5, rfl, s4, hS4, hl4, nLS⟩ ⟨T', x1, x2, rfl, hT, rfl, hx1, hx2⟩
        rw [hsl] at hk
        have htw := W_iff.mpr hk
        obtain rfl := Option.some.inj hx1
        have hx2 : ((sharesL b).map V.int)[k]? = some x2 := hx2
        rw [show ((sharesL b).map V.int)[k]? = some (V.int (tw k : Int)) from map_at_int (at_range (f := fun j => (tw j : Int)) hk)] at hx2
        obtain rfl := Option.some.inj hx2
        have st := new_same (o := .tup [V.int (k : Nat), .int (tw k : Int)]) hT
        have s5 := s4.trans st
        have hS5 := hS4.same st
        have hl5 := hl4.same st
        refine ⟨T', _, rfl, SqT.of upd_same, rfl, _, _, rfl, _, _, rfl, rfl, ?_⟩
        generalize upd H4 T' (.tup [V.int (k : Nat), .int (tw k : Int)]) = H5 at s5 hS5 hl5 ⊢
        have hle := vecsTo_le m b (k + 1) (W b) hk
        rw [vecsTo_succ, List.length_append, List.length_map] at hle
        refine ⟨_, rfl, _, _, rfl, rfl, _, rfl, _, rfl, _, _, rfl, rfl, b - tw k, ?_, by omega, by omega, by omega, by omega, fun V1 H6 hV1 s6 hl6 => ?_⟩
        · show [V.int (((m + 1 : Nat) : Int) - 1), V.int ((b : Int) - (tw k : Int))] ++ [] = _
          rw [show ((m + 1 : Nat) : Int) - 1 = (m : Int) by omega, show (b : Int) - (tw k : Int) = ((b - tw k : Nat) : Int) by omega]
          rfl
        obtain ⟨ws, hws⟩ : ∃ ws, LTV H6 V1 ws (dV (b - tw k) m) := hl6.lenV
        have nLV : L ≠ V1 := by obtain ⟨as, e1, _⟩ := hl5; exact ne_of_none e1 hV1
        refine ⟨V1, rfl, ⟨_, SqL.of hws.1⟩, ?_⟩
        refine for_list (xs := ws) (fun j σ H7 => ∃ a5 : Option V, σ = [some (.int ((m + 1 : Nat) : Int)), some (.int (b : Int)), some (.ref L), some (.int (k : Int)), some (.int (tw k : Int)), a5] ∧ Same H1 H7 ∧ LI H7 S (sharesL b) ∧ LTI H7 L (((vecsTo m b k) ++ ((vecs m (b - tw k)).take j).map (k :: ·)).map dI) ∧ LTV H7 V1 ws (dV (b - tw k) m))
          ⟨a5, rfl, s5.trans s6, hS5.same s6, by rw [List.take_zero, List.map_nil, List.append_nil]; exact hl5.same s6, hws⟩ (fun j σ H7 _ h => by obtain ⟨_, _, _, _, _, h⟩ := h; exact SqL.of h.1) ?_ ?_
        · rintro j x σ H7 hx ⟨b5, rfl, s7, hS7, hl7, hws7⟩
          obtain ⟨p, v, hj, hvj, rfl, hp7⟩ := hws7.at hx
          have hvv := hvj
          unfold dV at hvv
          rw [List.getElem?_map] at hvv
          obtain ⟨u, hu1, rfl⟩ := Option.map_eq_some_iff.mp hvv
          have hul := vecs_mem _ _ u (List.mem_of_getElem? hu1)
          have hjl := (List.getElem?_eq_some_iff.mp hu1).1
          obtain ⟨as7, e7, _⟩ := id hl7
          refine ⟨_, rfl, .inl ⟨rfl, _, SqL.of e7⟩, _, rfl, _, rfl, p, _, rfl, .inl (SqT.of hp7), ?_, fun t ht => ?_⟩
          · rw [List.length_cons, List.append_nil, List.length_map]
            unfold dI
            rw [List.length_map, hul]
            omega
          have st2 := new_same (o := .tup (V.int (k : Int) :: (((dI u).map V.int) ++ []))) ht
          have hn : TupI (upd H7 t (.tup (V.int (k : Int) :: (((dI u).map V.int) ++ [])))) t (dI (k :: u)) := by
            show upd _ t _ t = _
            rw [upd_same, List.append_nil]
            rfl
          obtain ⟨acc, b1, b2, b3⟩ := lti_app (hl7.same st2) hn (by
            rw [List.length_map, List.length_append, List.length_map, List.length_take]
            omega)
          refine ⟨L, _, _, rfl, rfl, b1, b2, ?_⟩
          refine ⟨_, rfl, same_up (s7.trans st2) hLn, (hS7.same st2).updN (Ne.symm nLS), ?_, (hws7.same st2).updL (Ne.symm nLV) b1⟩
          rw [List.take_succ, hu1]
          simp only [Option.toList_some, List.map_append, List.map_cons, List.map_nil]
          rw [List.map_append] at b3
          rw [← List.append_assoc]
          exact b3
        · rintro σ H7 ⟨b5, rfl, s7, hS7, hl7, hws7⟩
          have hwl : ws.length = (vecs m (b - tw k)).length := by rw [hws.2.1]; unfold dV; rw [List.length_map]
          rw [hwl, List.take_length, ← vecsTo_succ] at hl7
          exact ⟨_, _, _, rfl, s7, hS7, hl7, nLS⟩
      · rintro σ H4 ⟨a3, a4, a5, rfl, s4, _, hl4, _⟩
        rw [hsl] at hl4
        exact ⟨_, rfl, kq L H4 hLn s4 hl4⟩
end
end My

set_option pp.maxSteps 400
set_option Elab.async false
set_option linter.all false
set_option maxRecDepth 100000
set_option maxHeartbeats 1000000
namespace My
open PySem L2 MyR RT
/-! ### comprehensions with two for -/
section
variable {J J1 : It} {n n1 : Nat} {G G1 : Hp → Prop} {Y Y1 : Nat → Hp → V → Hp → Prop}
def InW (g1 : TG) (tt1 : TT) (te : TE) (vs1 : List Nat) (D : Addr) (σ2 : L2.St) (Nx : Hp → Prop) (J1 : It) (H4 : Hp) : Prop :=
  ∃ W1 : Nat → Nat → Hp → Prop, (∃ m, W1 0 m H4) ∧ ∀ j k H, W1 j k H →
      (J1.stop j H ∧ Nx H) ∨ (J1.go j H ∧ ∃ Nx1 : Hp → Prop, (∀ H', Nx1 H' → ∃ k', k' < k ∧ W1 (j + 1) k' H') ∧ ∀ x H', J1.yld j H x H' → g1 x (wipe σ2 vs1) H' fun σ3 H5 => wipe σ3 vs1 = wipe σ2 vs1 ∧ tt1 σ3 H5 fun b H6 =>
        if b = true then te σ3 H6 fun y H7 => ∃ acc, H7 D = some (.lst acc) ∧ acc.length < sizeLine ∧ Nx1 (upd H7 D (.lst (acc ++ [y]))) else Nx1 H6)
theorem lc2_it (w : Walk J n G Y) {wi1 : TI} {g g1 : TG} {tt tt1 : TT} {te : TE} {vs vs1 : List Nat} {σ : L2.St} {H1 : Hp} {D : Addr} {Qd : Hp → Prop} (Pv : Nat → Hp → Prop) (h0 : Pv 0 (upd H1 D (.lst []))) (hG : ∀ i H, i ≤ n → Pv i H → G H)
    (hs : ∀ i x H H', i < n → Pv i H → Y i H x H' → g x (wipe σ vs) H' fun σ2 H2 => wipe σ2 vs = wipe σ vs ∧ tt σ2 H2 fun b H3 =>
      if b = true then wi1 σ2 H3 fun J1 H4 => InW g1 tt1 te vs1 D σ2 (Pv (i + 1)) J1 H4 else Pv (i + 1) H3) (hd : ∀ H, Pv n H → Qd H) :
    ∃ W : Nat → Nat → Hp → Prop, (∃ m, W 0 m (upd H1 D (.lst []))) ∧ ∀ i m H, W i m H →
      (J.stop i H ∧ Qd H) ∨ (J.go i H ∧ ∃ Nx : Hp → Prop, (∀ H', Nx H' → ∃ m', m' < m ∧ W (i + 1) m' H') ∧ ∀ x H', J.yld i H x H' → g x (wipe σ vs) H' fun σ2 H2 => wipe σ2 vs = wipe σ vs ∧ tt σ2 H2 fun b H3 =>
        if b = true then wi1 σ2 H3 fun J1 H4 => InW g1 tt1 te vs1 D σ2 Nx J1 H4 else Nx H3) := by
  refine ⟨fun i m H => m = n - i ∧ i ≤ n ∧ Pv i H, ⟨n, by simp, Nat.zero_le _, h0⟩, ?_⟩
  rintro i m H ⟨rfl, hi, p⟩
  have q := hG i H hi p
  by_cases hlt : i < n
  · exact .inr ⟨w.goes i H hlt q, Pv (i + 1), fun H' p' => ⟨n - (i + 1), by omega, rfl, hlt, p'⟩, fun x H' y => hs i x H H' hlt p (w.yields i H x H' hlt q y)⟩
  · have e : i = n := by omega
    subst e
    exact .inl ⟨w.stops H q, hd H p⟩
theorem lc2_in (w : Walk J1 n1 G1 Y1) {g1 : TG} {tt1 : TT} {te : TE} {vs1 : List Nat} {σ2 : L2.St} {H4 : Hp} {D : Addr} {Nx : Hp → Prop} (Pv : Nat → Hp → Prop) (h0 : Pv 0 H4) (hG : ∀ i H, i ≤ n1 → Pv i H → G1 H)
    (hs : ∀ i x H H', i < n1 → Pv i H → Y1 i H x H' → g1 x (wipe σ2 vs1) H' fun σ3 H5 => wipe σ3 vs1 = wipe σ2 vs1 ∧ tt1 σ3 H5 fun b H6 =>
      if b = true then te σ3 H6 fun y H7 => ∃ acc, H7 D = some (.lst acc) ∧ acc.length < sizeLine ∧ Pv (i + 1) (upd H7 D (.lst (acc ++ [y]))) else Pv (i + 1) H6) (hd : ∀ H, Pv n1 H → Nx H) : InW g1 tt1 te vs1 D σ2 Nx J1 H4 := by
  refine ⟨fun i m H => m = n1 - i ∧ i ≤ n1 ∧ Pv i H, ⟨n1, by simp, Nat.zero_le _, h0⟩, ?_⟩
  rintro i m H ⟨rfl, hi, p⟩
  have q := hG i H hi p
  by_cases hlt : i < n1
  · exact .inr ⟨w.goes i H hlt q, Pv (i + 1), fun H' p' => ⟨n1 - (i + 1), by omega, rfl, hlt, p'⟩, fun x H' y => hs i x H H' hlt p (w.yields i H x H' hlt q y)⟩
  · have e : i = n1 := by omega
    subst e
    exact .inl ⟨w.stops H q, hd H p⟩
end
theorem call_tupleN {X : Cx} {K : PySem.W.Frag} (h : X.K = K) : CallR X (.type "tuple") (fun xs H Q => ∃ p ys, xs = [.ref p] ∧ ((SqL K H p ys ∧ ∀ l, H l = none → Q (.ref l) (upd H l (.tup ys))) ∨ (SqT K H p ys ∧ Q (.ref p) H))) := h ▸ call_tuple_of
/-! ### the list of points -/
theorem res_all {ds : List Nat} (hm : ds.length = 1 ∨ ds.length = 2) : (List.range (2 ^ ds.sum)).map (fun (n : Nat) => resI ds (n : Int)) = resL ds ds.length := by
  rcases hm with e | e
  · match ds, e with
    | [d], _ =>
      show (List.range (2 ^ (d + 0))).map _ = ([[]] : List (List Int)).flatMap fun r => (List.range (2 ^ d)).map fun (x : Nat) => r ++ [(x : Int)]
      rw [Nat.add_zero, List.flatMap_cons, List.flatMap_nil, List.append_nil]
      refine List.map_congr_left fun x hx => ?_
      have hx := List.mem_range.mp hx
      have hx1 : (x : Int) < 2 ^ d := by rw [← pow_cast]; omega
      show [(x : Int) % 2 ^ d] = [] ++ [(x : Int)]
      rw [Int.emod_eq_of_lt (by omega) hx1]
      rfl
  · match ds, e with
    | [d1, d2], _ =>
      show (List.range (2 ^ (d1 + (d2 + 0)))).map _ = (([[]] : List (List Int)).flatMap fun r => (List.range (2 ^ d1)).map fun (x : Nat) => r ++ [(x : Int)]).flatMap fun r => (List.range (2 ^ d2)).map fun (x : Nat) => r ++ [(x : Int)]
      rw [Nat.add_zero, List.flatMap_cons, List.flatMap_nil, List.append_nil, List.flatMap_map, Nat.pow_add, ← fm_single, range_mul]
      refine fm_congr fun x hx => ?_
      rw [fm_single]
      refine List.map_congr_left fun y hy => ?_
      have hx := List.mem_range.mp hx
      have hy := List.mem_range.mp hy
      have hx1 : (x : Int) < 2 ^ d1 := by rw [← pow_cast]; omega
      have hy1 : (y : Int) < 2 ^ d2 := by rw [← pow_cast]; omega
      have hp2 := p2_pos d2
      show [(((x * 2 ^ d2 + y : Nat) : Int) / 2 ^ d2) % 2 ^ d1, ((x * 2 ^ d2 + y : Nat) : Int) % 2 ^ d2] = ([] ++ [(x : Int)]) ++ [(y : Int)]
      have e0 : ((x * 2 ^ d2 + y : Nat) : Int) = (y : Int) + (x : Int) * 2 ^ d2 := by
        rw [Int.natCast_add, Int.natCast_mul, pow_cast, Int.add_comm]
      rw [e0, Int.add_mul_ediv_right _ _ (by omega), Int.ediv_eq_zero_of_lt (by omega) hy1, Int.zero_add, Int.emod_eq_of_lt (by omega) hx1, Int.add_mul_emod_self_right, Int.emod_eq_of_lt (by omega) hy1]
      rfl
structure AskOk (ds : List Nat) (b : Nat) : Prop where
  m : ds.length = 1 ∨ ds.length = 2
  s : ds.sum ≤ 8
  b1 : 1 ≤ b
  b64 : b ≤ 64
  v : (vecs ds.length b).length < 5000
def spPts : Sp := fun vs H Q _ => ∃ (lt : Addr) (ds : List Nat) (b : Nat), vs = [.ref lt, .int (b : Int)] ∧ TupI H lt (dI ds) ∧ AskOk ds b ∧ ∀ (L : Addr) H', H L = none → Same H H' → LTI H' L (spotsL ds b) → Q (.ref L) H'
/-- a list of lists of numbers, its values told -/
def LLV (H : Hp) (R : Addr) (us : List V) (xss : List (List Int)) : Prop := H R = some (.lst us) ∧ us.length = xss.length ∧ ∀ (i : Nat) xs, xss[i]? = some xs → ∃ p, us[i]? = some (.ref p) ∧ LI H p xs
theorem LLV.same {H H' : Hp} {R : Addr} {us : List V} {xss : List (List Int)} (h : LLV H R us xss) (s : Same H H') : LLV H' R us xss := ⟨s _ _ h.1, h.2.1, fun i xs e => let ⟨p, q1, q2⟩ := h.2.2 i xs e; ⟨p, q1, q2.same s⟩⟩
theorem spots_len {ds : List Nat} {b : Nat} (hm : ds.length = 1 ∨ ds.length = 2) : (spotsL ds b).length = 2 ^ ds.sum * (vecs ds.length b).length := by
  have e := congrArg List.length (entries_all (b := b) (ds := ds) (fun _ _ _ => 0) hm)
  rw [List.length_map, allE_len hm] at e
  exact e
section
variable {P : Program} {w : World} {K : PySem.W.Frag} {mg : Str → Option Value} {base : Heap}
abbrev s_point_list : Stmt := top 15
abbrev N_point_list : List Str := ["loss", "bits", "inputs", "firsts", "number", "places", "at", "first", "place"]
theorem sc_point_list : FnScope N_point_list ["loss", "bits"] (defScope s_point_list) := ⟨rfl, rfl, rfl, by decide +kernel, rfl, by decide +kernel, by decide +kernel⟩
theorem ok_point_list {f : Addr} {fd : FuncData} (F : Fun K "point_list" "point_list" s_point_list f fd) (T : Glob mg) (g_sum : mg "sum" = none) (D_residues : Df P w K mg base 1 "residues" ["loss", "number"] spRes) (D_vector_list : Df P w K mg base 5 "vector_list" ["count", "bits"] spVec12) : FnOk P w K mg base CX0 6 f fd ["loss", "bits"] spPts := by
  refine F.ok sc_point_list (fun vs H Q E h => ?_) (fun cdv A outer s H vs Q E hr h => ?_)
  · obtain ⟨lt, ds, b, rfl, _⟩ := h
    rfl
  · obtain ⟨lt, ds, b, rfl, hl, ok, kq⟩ := h
    have nd := sc_point_list.nd
    refine ⟨_, (pss_cons (ps_set (i := 2) nd rfl (Or.inr rfl) (pe_callB call_len_seq (by rfl) T.g_len PySem.boot_len (pa_cons (pv 0) pa_nil)))
    (pss_cons (ps_setLc (i := 3) (own := [("number", 4)]) (g := gName 4) (tt := tYes) rfl nd rfl rfl (sw_true rfl rfl rfl (by decide +kernel)) (pi_range1 (by rfl) T.g_range (pa_cons (pe_op op_shl pe_int (pe_callB (cr_sumK (K := K) rfl rfl) (by rfl) g_sum (by decide +kernel) (pa_cons (pv 0) pa_nil))) pa_nil)) (blkOk_by (N := N_point_list) (sc := defScope s_point_list) (by decide +kernel)) (fun _ _ _ _ _ => pg_name (i := 4) nd rfl (Or.inl rfl)) (fun _ _ _ _ _ => pts_nil) (fun _ _ _ _ _ => (pe_call D_residues.ok (hr.mono (by decide)) (by rfl) D_residues.g D_residues.kp D_residues.b .nil pass0 (pa_cons (pv 0) (pa_cons (pv 4) pa_nil)))))
    (pss_cons (ps_set (i := 5) nd rfl (Or.inr rfl) (pe_call D_vector_list.ok (hr.mono (by decide)) (by rfl) D_vector_list.g D_vector_list.kp D_vector_list.b .nil pass0 (pa_cons (pv 2) (pa_cons (pv 1) pa_nil))))
    (pss_one (ps_ret (pe_lc2 (own := [("first", 7), ("place", 8)]) (vs1 := [8]) (g := gName 7) (g1 := gName 8) (tt := tYes) (tt1 := tYes) rfl nd (pi_list (pv 3)) (blkOk_by (N := N_point_list) (sc := defScope s_point_list) (by decide +kernel)) (by decide) (fun _ _ _ _ _ => by first | exact pg_name (i := 7) nd rfl (Or.inl rfl) | exact pg_name (i := 7) nd rfl (Or.inr rfl)) (fun _ _ _ _ _ => pts_nil)
      (fun _ _ _ _ _ => pi_listN (K := K) rfl (pv 5)) (fun _ _ _ _ _ => by first | exact pg_name (i := 8) nd rfl (Or.inl rfl) | exact pg_name (i := 8) nd rfl (Or.inr rfl)) (fun _ _ _ _ _ => pts_nil)
      (fun _ _ _ _ _ => (pe_callTy (call_tupleN (K := K) rfl) (by rfl) T.g_tuple (by decide +kernel) (pa_cons (pe_lc (own := [("at", 6)]) (g := gName 6) (tt := tYes) rfl nd (pi_range1 (by rfl) T.g_range (pa_cons (pv 2) pa_nil)) (blkOk_by (N := N_point_list) (sc := relabS (lcScope s_point_list 3) (defScope s_point_list)) (by decide +kernel)) (fun _ _ _ _ _ => by first | exact pg_name (i := 6) nd rfl (Or.inl rfl) | exact pg_name (i := 6) nd rfl (Or.inr rfl)) (fun _ _ _ _ _ => pts_nil) (fun _ _ _ _ _ => (pe_op op_add (pe_ix (ix_listN (K := K) rfl) (pv 7) (pv 6) (fun _ _ => rfl)) (pe_op op_shl (pe_ix (ix_tupN (K := K) rfl) (pv 8) (pv 6) (fun _ _ => rfl)) (pe_ix (ix_tupN (K := K) rfl) (pv 0) (pv 6) (fun _ _ => rfl)))))) pa_nil))))))))), ?_⟩
    have zl : 16777216 = sizeLine := sizeLine_eq.symm
    have hm := ok.m
    have hb1 := ok.b1
    have hb := ok.b64
    have hv := ok.v
    have hs8 := ok.s
    have hdl : ((dI ds).map V.int).length = ds.length := by rw [List.length_map]; unfold dI; rw [List.length_map]
    obtain ⟨N, hNN⟩ : ∃ N : Nat, N = 2 ^ ds.sum := ⟨_, rfl⟩
    have hN : N ≤ 256 := by rw [hNN]; exact Nat.pow_le_pow_right (n := 2) (by decide) hs8
    have hNi : (1 : Int) * 2 ^ (ds.sum : Int).toNat = (N : Int) := by
      rw [hNN, Int.toNat_natCast, Int.one_mul, Int.natCast_pow]
      rfl
    have hsum : (dI ds).sum = (ds.sum : Int) := nat_sum ds
    have hmem : ∀ d ∈ ds, d ≤ 1000 := fun d hd => by
      have : ∀ {ds : List Nat} {d : Nat}, d ∈ ds → d ≤ ds.sum := by
        intro ds
        induction ds with
        | nil => intro d h; cases h
        | cons x xs ih =>
          intro d h
          rw [List.sum_cons]
          rcases List.mem_cons.mp h with rfl | h
          · omega
          · have := ih h
            omega
      have := this hd
      omega
    refine seq_by (fun σ H1 => H1 = H ∧ σ = [some (.ref lt), some (.int (b : Int)), some (.int (ds.length : Int)), none, none, none, none, none, none]) (fun D' hD' => ?_) ?_
    · refine ⟨_, rfl, lt, _, rfl, .inr (SqT.of hl), hD' _ _ ⟨rfl, ?_⟩⟩
      rw [hdl]
      rfl
    rintro σ H1 ⟨rfl, rfl⟩
    refine seq_by (fun σ H2 => ∃ (Fs : Addr) (us : List V) (a4 : Option V), σ = [some (.ref lt), some (.int (b : Int)), some (.int (ds.length : Int)), some (.ref Fs), a4, none, none, none, none] ∧ Same H1 H2 ∧ LLV H2 Fs us ((List.range N).map fun (n : Nat) => resI ds (n : Int))) (fun D' hD' => ?_) ?_
    · refine ⟨_, rfl, true, lt, _, rfl, sqK_t (SqT.of hl), ?_⟩
      rw [hsum]
      refine ⟨_, _, rfl, rfl, ⟨by omega, by omega, by decide⟩, (N : Int), by show [V.int _] = [V.int _]; rw [hNi], by omega, by omega, fun D hD => ?_⟩
      rw [Int.toNat_natCast]
      refine lc_it (n := N) walk_range (fun i H2 => Same H1 H2 ∧ LLI H2 D ((List.range i).map fun (n : Nat) => resI ds (n : Int))) ⟨new_same hD, [], upd_same, rfl, fun i xs e => by simp at e⟩ (fun _ _ _ _ => trivial) ?_ ?_
      · rintro i x H2 H3 hi ⟨s2, h2⟩ ⟨rfl, rfl⟩
        have e0 : (0 : Int) + (i : Int) = (i : Int) := by omega
        refine ⟨rfl, ?_⟩
        dsimp only [tYes]
        rw [if_pos rfl]
        refine ⟨_, rfl, _, rfl, lt, ds, (i : Int), by rw [e0]; rfl, hl.same s2, hmem, by omega, fun L H4 hL s4 hl4 => ?_⟩
        have hn : L ≠ D := fun z => by
          obtain ⟨as, q1, _⟩ := h2
          rw [z, q1] at hL
          cases hL
        obtain ⟨acc, a1, a2, a3⟩ := lli_app (h2.same s4) hl4 hn (by rw [List.length_map, List.length_range]; omega)
        refine ⟨acc, a1, a2, same_up (s2.trans s4) hD, ?_⟩
        rw [List.range_succ, List.map_append]
        exact a3
      · rintro H2 ⟨s2, h2⟩
        obtain ⟨us, e1, e2, e3⟩ := h2.lenV
        exact hD' _ _ ⟨D, us, _, rfl, s2, e1, e2, e3⟩
    rintro σ H2 ⟨Fs, us, a4, rfl, s2, hF2⟩
    refine seq_by (fun σ H3 => ∃ (Pl : Addr) (ws : List V), σ = [some (.ref lt), some (.int (b : Int)), some (.int (ds.length : Int)), some (.ref Fs), a4, some (.ref Pl), none, none, none] ∧ Same H1 H3 ∧ LLV H3 Fs us ((List.range N).map fun (n : Nat) => resI ds (n : Int)) ∧ LTV H3 Pl ws (dV b ds.length)) (fun D' hD' => ?_) ?_
    · refine ⟨_, rfl, _, rfl, ds.length, hm, b, rfl, hb1, hb, hv, by omega, fun Pl H3 hP s3 hl3 => ?_⟩
      obtain ⟨ws, hws⟩ : ∃ ws, LTV H3 Pl ws (dV b ds.length) := hl3.lenV
      exact hD' _ _ ⟨Pl, ws, rfl, s2.trans s3, hF2.same s3, hws⟩
    clear s2 hF2
    rintro σ H3 ⟨Pl, ws, rfl, s3, hF3, hP3⟩
    have hul : us.length = N := by rw [hF3.2.1, List.length_map, List.length_range]
    have hwl : ws.length = (vecs ds.length b).length := by rw [hP3.2.1]; unfold dV; rw [List.length_map]
    have htot : N * (vecs ds.length b).length ≤ 256 * 5000 := Nat.mul_le_mul hN (Nat.le_of_lt hv)
    obtain ⟨rw_, hrw⟩ : ∃ rw_ : Nat → List (List Int), rw_ = fun (n : Nat) => (dV b ds.length).map (spotI ds (resI ds (n : Int))) := ⟨_, rfl⟩
    have hrl : ∀ n, (rw_ n).length = (vecs ds.length b).length := fun n => by rw [hrw]; dsimp only; rw [List.length_map]; unfold dV; rw [List.length_map]
    have hfl : ∀ i, ((List.range i).flatMap rw_).length = i * (vecs ds.length b).length := fun i => by
      rw [fm_const (n := (vecs ds.length b).length) fun n _ => hrl n, List.length_range]
    refine ⟨_, rfl, Fs, rfl, ⟨_, SqL.of hF3.1⟩, fun D hD => ?_⟩
    refine lc2_it (walk_list (xs := us)) (fun i H4 => Same H3 H4 ∧ LTI H4 D ((List.range i).flatMap rw_)) ⟨new_same hD, [], upd_same, rfl, fun i xs e => by simp at e⟩ (fun i H4 _ h => SqL.of (hF3.same h.1).1) ?_ ?_
    · rintro i x H4 H5 hi ⟨s4, h4⟩ ⟨rfl, hx⟩
      rw [hul] at hi
      obtain ⟨p, p1, p2⟩ := hF3.2.2 i _ (at_range (f := fun (n : Nat) => resI ds (n : Int)) hi)
      rw [p1] at hx
      obtain rfl := Option.some.inj hx
      refine ⟨rfl, ?_⟩
      dsimp only [tYes]
      rw [if_pos rfl]
      refine ⟨_, rfl, Pl, rfl, ⟨_, SqL.of (hP3.same s4).1⟩, ?_⟩
      refine lc2_in (walk_list (xs := ws)) (fun j H6 => Same H3 H6 ∧ LTI H6 D ((List.range i).flatMap rw_ ++ (rw_ i).take j)) ⟨s4, by rw [List.take_zero, List.append_nil]; exact h4⟩ (fun j H6 _ h => SqL.of (hP3.same h.1).1) ?_ ?_
      · rintro j y H6 H7 hj ⟨s6, h6⟩ ⟨rfl, hy⟩
        obtain ⟨q, v, hvl, hvj, rfl, hq⟩ := (hP3.same s6).at hy
        have hvv := hvj
        unfold dV at hvv
        rw [List.getElem?_map] at hvv
        obtain ⟨u, hu1, rfl⟩ := Option.map_eq_some_iff.mp hvv
        have hum := List.mem_of_getElem? hu1
        have hul2 := vecs_mem _ _ u hum
        refine ⟨rfl, ?_⟩
        dsimp only [tYes]
        rw [if_pos rfl]
        refine ⟨_, rfl, (ds.length : Int), rfl, by omega, by omega, fun G hG => ?_⟩
        rw [Int.toNat_natCast]
        have p6 := p2.same s6
        have l6 := (hl.same s3).same s6
        have rl : (resI ds (i : Int)).length = ds.length := by unfold resI; rw [List.length_reverse, resR_len, List.length_reverse]
        refine lc_it (n := ds.length) walk_range (fun k H8 => Same H7 H8 ∧ LI H8 G ((List.range k).map fun a => (resI ds (i : Int)).getD a 0 + (dI u).getD a 0 * 2 ^ ds.getD a 0)) ⟨new_same hG, upd_same⟩ (fun _ _ _ _ => trivial) ?_ ?_
        · rintro a z H8 H9 ha ⟨s8, h8⟩ ⟨rfl, rfl⟩
          have e0 : (0 : Int) + (a : Int) = (a : Int) := by omega
          have g1 : (resI ds (i : Int))[a]? = some ((resI ds (i : Int)).getD a 0) := by rw [List.getD_eq_getElem?_getD, List.getElem?_eq_getElem (show a < (resI ds (i : Int)).length by omega)]; rfl
          have dul : (dI u).length = ds.length := by unfold dI; rw [List.length_map, hul2]
          have g2 : (dI u)[a]? = some ((dI u).getD a 0) := by rw [List.getD_eq_getElem?_getD, List.getElem?_eq_getElem (show a < (dI u).length by omega)]; rfl
          have g3 : (dI ds)[a]? = some ((ds.getD a 0 : Nat) : Int) := by
            unfold dI
            rw [List.getElem?_map, List.getD_eq_getElem?_getD, List.getElem?_eq_getElem (show a < ds.length by omega)]
            rfl
          have at1 : atI ((resI ds (i : Int)).map V.int) (0 + (a : Int)) = some (.int ((resI ds (i : Int)).getD a 0)) := by rw [e0]; exact atI_nat (map_at_int g1)
          have at2 : atI ((dI u).map V.int) (0 + (a : Int)) = some (.int ((dI u).getD a 0)) := by rw [e0]; exact atI_nat (map_at_int g2)
          have at3 : atI ((dI ds).map V.int) (0 + (a : Int)) = some (.int ((ds.getD a 0 : Nat) : Int)) := by rw [e0]; exact atI_nat (map_at_int g3)
          have hd8 := d_le8 hm hs8 a ha
          have b2 : ((dI u).getD a 0).natAbs < 2 ^ 64 := by
            have e : (dI u).getD a 0 = ((u.getD a 0 : Nat) : Int) := by
              unfold dI
              rw [List.getD_eq_getElem?_getD, List.getD_eq_getElem?_getD, List.getElem?_map]
              cases u[a]? <;> rfl
            rw [e]
            have : u.getD a 0 < 66 := by
              rw [List.getD_eq_getElem?_getD, List.getElem?_eq_getElem (show a < u.length by omega)]
              exact vecs_ent hb _ b u (Nat.le_refl _) hum _ (List.getElem_mem (show a < u.length by omega))
            omega
          refine ⟨rfl, ?_⟩
          dsimp only [tYes]
          rw [if_pos rfl]
          refine ⟨_, rfl, _, rfl, p, _, _, _, rfl, rfl, SqL.of (p6.same s8), at1, _, rfl, _, rfl, q, _, _, _, rfl, rfl, SqT.of (hq.same s8), at2, _, rfl, _, rfl, lt, _, _, _, rfl, rfl, SqT.of (l6.same s8), at3, _, _, rfl, rfl, ⟨by omega, by omega, b2⟩, _, _, rfl, rfl, ?_⟩
          refine ⟨_, h8, by rw [List.length_map, List.length_map, List.length_range]; omega, same_up s8 hG, ?_⟩
          rw [List.range_succ, List.map_append, Int.toNat_natCast]
          exact li_snoc
        · rintro H8 ⟨s8, h8⟩
          refine ⟨G, _, rfl, .inl ⟨SqL.of h8, fun t ht => ?_⟩⟩
          have st := new_same (o := .tup (((List.range ds.length).map fun a => (resI ds (i : Int)).getD a 0 + (dI u).getD a 0 * 2 ^ ds.getD a 0).map V.int)) ht
          have ht8 : TupI (upd H8 t (.tup (((List.range ds.length).map fun a => (resI ds (i : Int)).getD a 0 + (dI u).getD a 0 * 2 ^ ds.getD a 0).map V.int))) t (spotI ds (resI ds (i : Int)) (dI u)) := upd_same
          have s9 := s8.trans st
          obtain ⟨acc, a1, a2, a3⟩ := lti_app (h6.same s9) ht8 (by
            rw [List.length_append, hfl, List.length_take, hrl]
            have : i * (vecs ds.length b).length ≤ N * (vecs ds.length b).length := Nat.mul_le_mul_right _ (Nat.le_of_lt hi)
            omega)
          refine ⟨acc, a1, a2, same_up (s6.trans s9) hD, ?_⟩
          have hrj : (rw_ i)[j]? = some (spotI ds (resI ds (i : Int)) (dI u)) := by
            rw [hrw]
            dsimp only
            rw [List.getElem?_map, hvj]
            rfl
          rw [List.take_succ, hrj]
          simp only [Option.toList_some]
          rw [← List.append_assoc]
          exact a3
      · rintro H6 ⟨s6, h6⟩
        refine ⟨s6, ?_⟩
        rw [hwl, ← hrl i, List.take_length] at h6
        rw [List.range_succ, List.flatMap_append, List.flatMap_cons, List.flatMap_nil, List.append_nil]
        exact h6
    · rintro H4 ⟨s4, h4⟩
      rw [hul] at h4
      refine kq D H4 (same_free s3 hD) (s3.trans s4) ?_
      have e : (List.range N).flatMap rw_ = spotsL ds b := by
        unfold spotsL
        rw [← res_all hm, hrw, hNN, List.flatMap_map]
      rw [← e]
      exact h4
end
end My

set_option pp.maxSteps 400
set_option Elab.async false
set_option linter.all false
set_option maxRecDepth 100000
set_option maxHeartbeats 1000000
namespace My
open PySem L2 MyR
/-! ### whole numbers as data -/
def zD (xs : List Int) : List PyData := xs.map PyData.int
theorem zD_dp {K : PySem.W.Frag} {H : Hp} : ∀ xs : List Int, DpAll K H (xs.map V.int) (zD xs)
  | [] => .nil
  | x :: xs => .cons (.int x) (zD_dp xs)
theorem zD_lay : ∀ xs : List Int, PyData.canLayAll0 (zD xs) = true
  | [] => by simp [zD, PyData.canLayAll0]
  | x :: xs => by
    show PyData.canLayAll0 (.int x :: zD xs) = true
    rw [PyData.canLayAll0, PyData.canLay0, zD_lay xs]
    rfl
theorem zD_dep : ∀ xs : List Int, PyData.depthAll (zD xs) = 0
  | [] => by simp [zD, PyData.depthAll]
  | x :: xs => by
    show PyData.depthAll (.int x :: zD xs) = 0
    rw [PyData.depthAll, PyData.depth, zD_dep xs]
    rfl
theorem zD_layT (xs : List Int) : (PyData.tuple (zD xs)).canLay0 = true := by rw [PyData.canLay0]; exact zD_lay xs
theorem zD_shapeT (xs : List Int) : SeqAt.shaped (.tuple (zD xs)) = true := by
  unfold SeqAt.shaped
  rw [zD_layT, Bool.true_and]
  refine decide_eq_true ?_
  rw [PyData.depth, zD_dep]
  decide
theorem zD_eqT (xs ys : List Int) : PyData.eqv (.tuple (zD xs)) (.tuple (zD ys)) = decide (xs = ys) := by
  have e : PyData.eqv (.tuple (zD xs)) (.tuple (zD ys)) = PyData.eqvAll (zD xs) (zD ys) := by rw [PyData.eqv]
  rw [e]
  exact PySem.W.ked_eqvAll xs ys
theorem dI_inj : ∀ {xs ys : List Nat}, dI xs = dI ys → xs = ys
  | [], [], _ => rfl
  | [], _ :: _, h => by cases h
  | _ :: _, [], h => by cases h
  | x :: xs, y :: ys, h => by
    have h1 : (x : Int) :: dI xs = (y : Int) :: dI ys := h
    obtain ⟨h2, h3⟩ := List.cons.inj h1
    rw [dI_inj h3, Int.ofNat.inj h2]
/-- the entries may be any numbers whose residues tell the table -/
def spTableV (C : Addr) : Sp := fun vs H Q _ => ∃ (p dx lt e : Addr) (ds : List Nat) (b : Nat) (cs : Nat → Nat → Nat → Int) (es : List Int), vs = [.ref p, .ref lt, .int (b : Int), .ref e] ∧ H p = some (.ins C dx []) ∧ TupI H lt (dI ds) ∧ LI H e es ∧ es.map (· % 2 ^ b) = allE ds.length b cs (2 ^ ds.sum) ∧ TbOk ds b cs ∧
  ∀ et ct H', TbAt C H' p ds b cs dx lt et ct → SameP p H H' → FrL H H' ct → Q .non H'
theorem allE_modL {m b : Nat} {cs : Nat → Nat → Nat → Int} {n : Nat} : (allE m b cs n).map (· % 2 ^ b) = allE m b cs n := by
  have : ∀ xs : List Int, (∀ x ∈ xs, x % 2 ^ b = x) → xs.map (· % 2 ^ b) = xs := fun xs => by
    induction xs with
    | nil => exact fun _ => rfl
    | cons x xs ih =>
      intro h
      rw [List.map_cons, h x (List.mem_cons_self ..), ih fun y hy => h y (List.mem_cons_of_mem _ hy)]
  exact this _ fun x hx => allE_mod hx
section
variable {P : Program} {w : World} {K : PySem.W.Frag} {mg : Str → Option Value} {base : Heap}
theorem ok_Table_initV {f C : Addr} {fd : FuncData} (F : Fun K "__init__" "Table.__init__" s_Table_init f fd) (T : Glob mg) (C0 : TbC K C) (D_count_points : Df P w K mg base 4 "count_points" ["loss", "bits"] spCountQ) (D_classes_of : Df P w K mg base 5 "classes_of" ["loss", "bits", "entries"] spClasses) : FnOk P w K mg base CX0 6 f fd ["self", "loss", "bits", "entries"] (spTableV C) := by
  refine F.ok sc_Table_init (fun vs H Q E h => ?_) (fun cdv A outer s H vs Q E hr h => ?_)
  · obtain ⟨p, dx, lt, e, ds, b, cs, es, rfl, _⟩ := h
    rfl
  · obtain ⟨p, dx, lt, e, ds, b, cs, es, rfl, hp, hl, he, hes, ok, kq⟩ := h
    have nd := sc_Table_init.nd
    refine ⟨_, (pss_cons (ps_if (pt_cmpR op_ne (pe_callB call_len_seq (by rfl) T.g_len PySem.boot_len (pa_cons (pv 3) pa_nil)) (pe_call D_count_points.ok (hr.mono (by decide)) (by rfl) D_count_points.g D_count_points.kp D_count_points.b .nil pass0 (pa_cons (pv 1) (pa_cons (pv 2) pa_nil))) (nomark _))
    (pss_one ps_never)
    pss_nil)
    (pss_cons (ps_fld (pv 0) (pe_callTy call_tuple_of (by rfl) T.g_tuple (by decide +kernel) (pa_cons (pv 1) pa_nil)) rfl)
    (pss_cons (ps_fld (pv 0) (pv 2) rfl)
    (pss_cons (ps_fld (pv 0) (pe_callTy call_tuple_of (by rfl) T.g_tuple (by decide +kernel) (pa_cons (pe_lc (own := [("entry", 4)]) (g := gName 4) (tt := tYes) rfl nd (pi_list (pv 3)) (blkOk_by (N := N_Table_init) (sc := defScope s_Table_init) (by decide +kernel)) (fun _ _ _ _ _ => pg_name (i := 4) nd rfl (Or.inl rfl)) (fun _ _ _ _ _ => pts_nil) (fun _ _ _ _ _ => (pe_op op_andM (pv 4) (pe_op op_sub (pe_op op_shl pe_int (pv 2)) pe_int)))) pa_nil)) rfl)
    (pss_cons (ps_fld (pv 0) (pe_callB call_len_seq (by rfl) T.g_len PySem.boot_len (pa_cons (pe_fld (pv 0) rfl) pa_nil)) rfl)
    (pss_cons (ps_fld (pv 0) (pv 2) rfl)
    (pss_one (ps_fld (pv 0) (pe_call D_classes_of.ok (hr.mono (by decide)) (by rfl) D_classes_of.g D_classes_of.kp D_classes_of.b .nil pass0 (pa_cons (pe_fld (pv 0) rfl) (pa_cons (pv 2) (pa_cons (pe_fld (pv 0) rfl) pa_nil)))) rfl)))))))), ?_⟩
    have zl : 16777216 = sizeLine := sizeLine_eq.symm
    have hm := ok.m
    have hb1 := ok.b1
    have hb := ok.b64
    have hv := ok.v
    have hpow : (2 : Nat) ^ ds.sum ≤ 256 := Nat.pow_le_pow_right (n := 2) (by decide) ok.s
    have hel : es.length = 2 ^ ds.sum * (vecs ds.length b).length := by
      have e1 := congrArg List.length hes
      rw [List.length_map, allE_len hm] at e1
      exact e1
    have hmul : 2 ^ ds.sum * (vecs ds.length b).length ≤ 256 * 5000 := Nat.mul_le_mul hpow (Nat.le_of_lt hv)
    have n_lp : lt ≠ p := fun z => by
      have hl : H lt = _ := hl
      rw [z, hp] at hl
      cases hl
    have n_ep : e ≠ p := fun z => by
      have he : H e = _ := he
      rw [z, hp] at he
      cases he
    refine seq_by (fun σ H1 => σ = [some (.ref p), some (.ref lt), some (.int (b : Int)), some (.ref e), none] ∧ Same H H1) (fun D' hD' => ?_) ?_
    · refine ⟨_, rfl, e, _, rfl, .inl (SqL.of he), _, rfl, _, rfl, lt, ds, b, rfl, hl, by omega, by have := ok.s; omega, hb1, hb, hv, fun H1 s1 => ?_⟩
      refine ⟨rfl, _, rfl, iteNS ?_ (hD' _ _ ⟨rfl, s1⟩)⟩
      congr 1
      rw [List.length_map, hel, Int.natCast_mul, Int.mul_comm, Int.natCast_pow]
      rfl
    rintro σ H1 ⟨rfl, s1⟩
    refine seq_by (fun σ H2 => σ = [some (.ref p), some (.ref lt), some (.int (b : Int)), some (.ref e), none] ∧ H2 p = some (.ins C dx [("loss", .ref lt)]) ∧ SameP p H H2) (fun D' hD' => ?_) ?_
    · exact ⟨_, rfl, lt, _, rfl, .inr ⟨SqT.of (hl.same s1), _, rfl, p, C, dx, _, rfl, s1 _ _ hp, C0.cl, C0.n1, (by show 0 < 1000; decide), hD' _ _ ⟨rfl, upd_same, (SameP.of s1).up⟩⟩⟩
    clear s1
    rintro σ H2 ⟨rfl, h2, s2⟩
    refine seq_by (fun σ H3 => σ = [some (.ref p), some (.ref lt), some (.int (b : Int)), some (.ref e), none] ∧ H3 p = some (.ins C dx [("loss", .ref lt), ("bits", .int (b : Int))]) ∧ SameP p H H3) (fun D' hD' => ?_) ?_
    · exact ⟨_, rfl, _, rfl, p, C, dx, _, rfl, h2, C0.cl, C0.n2, (by show 1 < 1000; decide), hD' _ _ ⟨rfl, upd_same, s2.up⟩⟩
    clear h2 s2
    rintro σ H3 ⟨rfl, h3, s3⟩
    refine seq_by (fun σ H4 => ∃ et : Addr, σ = [some (.ref p), some (.ref lt), some (.int (b : Int)), some (.ref e), none] ∧ H4 p = some (.ins C dx [("loss", .ref lt), ("bits", .int (b : Int)), ("entries", .ref et)]) ∧ SameP p H H4 ∧ TupI H4 et (allE ds.length b cs (2 ^ ds.sum)) ∧ et ≠ p) (fun D' hD' => ?_) ?_
    · have he3 : LI H3 e _ := he.sp s3 n_ep
      refine ⟨_, rfl, e, rfl, ⟨_, SqL.of he3⟩, fun D hD => ?_⟩
      refine lc_list (xs := es.map V.int) (fun i H4 => Same H3 H4 ∧ LI H4 D ((es.take i).map (· % 2 ^ b))) ⟨new_same hD, upd_same⟩ (fun i H4 _ h => SqL.of (he3.same h.1)) ?_ ?_
      · rintro i x H4 hx ⟨s4, h4⟩
        have hi : i < es.length := by
          have := (List.getElem?_eq_some_iff.mp hx).1
          rw [List.length_map] at this
          exact this
        have hai := List.getElem?_eq_getElem hi
        rw [map_at_int hai] at hx
        obtain rfl := Option.some.inj hx
        refine ⟨rfl, ?_⟩
        dsimp only [tYes]
        rw [if_pos rfl]
        refine ⟨_, rfl, _, rfl, _, _, rfl, rfl, ⟨by omega, by omega, by decide⟩, _, _, rfl, rfl, _, b, rfl, ?_, ?_⟩
        · rw [Int.toNat_natCast, Int.one_mul]
        refine ⟨_, h4, by rw [List.length_map, List.length_map, List.length_take]; omega, same_up s4 hD, ?_⟩
        rw [List.take_succ, hai, List.map_append]
        exact li_snoc
      · rintro H4 ⟨s4, h4⟩
        rw [List.length_map, List.take_length, hes] at h4
        refine ⟨D, _, rfl, .inl ⟨SqL.of h4, fun t ht => ?_⟩⟩
        have n_tp : t ≠ p := fun z => by
          rw [z, s4 _ _ h3] at ht
          cases ht
        have s5 := s4.trans (new_same (o := .tup ((allE ds.length b cs (2 ^ ds.sum)).map V.int)) ht)
        exact ⟨_, rfl, p, C, dx, _, rfl, s5 _ _ h3, C0.cl, C0.n3, (by show 2 < 1000; decide), hD' _ _ ⟨t, rfl, upd_same, (s3.trans (SameP.of s5)).up, by show upd _ p _ t = _; rw [upd_ne n_tp]; exact upd_same, n_tp⟩⟩
    clear h3 s3
    rintro σ H4 ⟨et, rfl, h4, s4, he4, n_tp⟩
    refine seq_by (fun σ H5 => σ = [some (.ref p), some (.ref lt), some (.int (b : Int)), some (.ref e), none] ∧ H5 p = some (.ins C dx [("loss", .ref lt), ("bits", .int (b : Int)), ("entries", .ref et), ("inputs", .int (ds.length : Int))]) ∧ SameP p H H5 ∧ TupI H5 et (allE ds.length b cs (2 ^ ds.sum))) (fun D' hD' => ?_) ?_
    · refine ⟨_, rfl, p, C, dx, _, _, rfl, h4, C0.cl, C0.n1, rfl, lt, _, rfl, .inr (SqT.of (hl.sp s4 n_lp)), _, rfl, p, C, dx, _, rfl, h4, C0.cl, C0.n4, (by show 3 < 1000; decide), hD' _ _ ⟨rfl, ?_, s4.up, he4.sp (SameP.up fun _ _ e _ => e) n_tp⟩⟩
      unfold dI
      rw [List.length_map, List.length_map]
      exact upd_same
    clear h4 s4 he4
    rintro σ H5 ⟨rfl, h5, s5, he5⟩
    refine seq_by (fun σ H6 => σ = [some (.ref p), some (.ref lt), some (.int (b : Int)), some (.ref e), none] ∧ H6 p = some (.ins C dx [("loss", .ref lt), ("bits", .int (b : Int)), ("entries", .ref et), ("inputs", .int (ds.length : Int)), ("most", .int (b : Int))]) ∧ SameP p H H6 ∧ TupI H6 et (allE ds.length b cs (2 ^ ds.sum))) (fun D' hD' => ?_) ?_
    · exact ⟨_, rfl, _, rfl, p, C, dx, _, rfl, h5, C0.cl, C0.n5, (by show 4 < 1000; decide), hD' _ _ ⟨rfl, upd_same, s5.up, he5.sp (SameP.up fun _ _ e _ => e) n_tp⟩⟩
    clear h5 s5 he5
    rintro σ H6 ⟨rfl, h6, s6, he6⟩
    have hl6 := hl.sp s6 n_lp
    refine ⟨_, rfl, p, C, dx, _, _, rfl, h6, C0.cl, C0.n1, rfl, _, rfl, _, rfl, p, C, dx, _, _, rfl, h6, C0.cl, C0.n3, rfl, lt, et, ds.length, b, ds, cs, rfl, hl6, rfl, ok.s, he6, hb1, hb, hm, hv, ok.d, fun L H7 s7 hL hF => ?_⟩
    refine ⟨_, rfl, p, C, dx, _, rfl, s7 _ _ h6, C0.cl, C0.n6, (by show 5 < 1000; decide), ?_⟩
    have fr : ∀ q : Addr, H6 q = none → H q = none := fun q hq => by
      by_cases z : q = p
      · rw [z, h6] at hq
        cases hq
      · cases e : H q with
        | none => rfl
        | some o => rw [s6 q o e z] at hq; cases hq
    have np : ∀ q : Addr, H6 q = none → q ≠ p := fun q hq z => by
      rw [z, h6] at hq
      cases hq
    refine kq et L _ ⟨upd_same, (hl6.same s7).sp (SameP.up fun _ _ e _ => e) n_lp, (he6.same s7).sp (SameP.up fun _ _ e _ => e) n_tp, ?_⟩ (s6.trans (SameP.of s7)).up ?_
    rotate_left
    · obtain ⟨f1, f2⟩ := hF
      refine ⟨fr _ f1, fun as ha q hq => ?_⟩
      rw [upd_ne (np _ f1)] at ha
      obtain ⟨g1, g2⟩ := f2 as ha q hq
      refine ⟨fr _ g1, fun bs hb u hu => ?_⟩
      rw [upd_ne (np _ g1)] at hb
      exact fr _ (g2 bs hb u hu)
    have nt : ∀ (q : Addr) (vs : List V), H7 q = some (.lst vs) → q ≠ p := fun q vs hq z => by
      rw [z, s7 _ _ h6] at hq
      cases hq
    obtain ⟨as, e1, e2, e3⟩ := hL
    refine ⟨as, by rw [upd_ne (nt _ _ e1)]; exact e1, e2, fun g hg => ?_⟩
    obtain ⟨q, rows, q1, ⟨bs, b1, b2, b3⟩, q3⟩ := e3 g hg
    exact ⟨q, rows, q1, ⟨bs, by rw [upd_ne (nt _ _ b1)]; exact b1, b2, fun i xs hi => let ⟨u, u1, u2⟩ := b3 i xs hi; ⟨u, u1, u2.updN (nt _ _ u2)⟩⟩, q3⟩
end
end My

set_option pp.maxSteps 400
set_option Elab.async false
set_option linter.all false
set_option maxRecDepth 100000
set_option maxHeartbeats 1000000
namespace My
open PySem L2 MyR
def spListed (K : PySem.W.Frag) (C : Addr) : Sp := fun vs H Q _ => ∃ (t l2 : Addr) (ds es : List Nat) (b : Nat) (cs : Nat → Nat → Nat → Int) (dx lt et ct : Addr), vs = [.ref t, .ref l2] ∧ TbAt C H t ds b cs dx lt et ct ∧ TbOk ds b cs ∧ TupI H l2 (dI es) ∧ AskOk es b ∧ es.length = ds.length ∧
  ∀ (k : Bool) (a : Addr) H', Same H H' → SqK k K H' a (((spotsL es b).map (valT b cs ds)).map V.int) → Q (.ref a) H'
section
variable {P : Program} {w : World} {K : PySem.W.Frag} {mg : Str → Option Value} {base : Heap}
abbrev s_Table_listed : Stmt := inClass (top 29) 7
abbrev N_Table_listed : List Str := ["self", "loss", "point"]
theorem sc_Table_listed : FnScope N_Table_listed ["self", "loss"] (defScope s_Table_listed) := ⟨rfl, rfl, rfl, by decide +kernel, rfl, by decide +kernel, by decide +kernel⟩
theorem ok_Table_listed {f C : Addr} {fd : FuncData} (F : Fun K "listed" "Table.listed" s_Table_listed f fd) (C0 : TbC K C) (D_point_list : Df P w K mg base 6 "point_list" ["loss", "bits"] spPts) (MW : Mt P w K mg base C 3 "worth" ["self", "point"] (spWorth K C)) : FnOk P w K mg base CX0 7 f fd ["self", "loss"] (spListed K C) := by
  refine F.ok sc_Table_listed (fun vs H Q E h => ?_) (fun cdv A outer s H vs Q E hr h => ?_)
  · obtain ⟨t, l2, ds, es, b, cs, dx, lt, et, ct, rfl, _⟩ := h
    rfl
  · obtain ⟨t, l2, ds, es, b, cs, dx, lt, et, ct, rfl, tb, ok, hl2, ask, hel, kq⟩ := h
    have nd := sc_Table_listed.nd
    refine ⟨_, (pss_cons (ps_if (pt_cmpR (op_eqD hr.units) (pv 1) (pe_fld (pv 0) rfl) (nomark _))
    (pss_one (ps_ret (pe_fld (pv 0) rfl)))
    pss_nil)
    (pss_one (ps_ret (pe_lc (own := [("point", 2)]) (g := gName 2) (tt := tYes) rfl nd (pi_list (pe_call D_point_list.ok (hr.mono (by decide)) (by rfl) D_point_list.g D_point_list.kp D_point_list.b .nil pass0 (pa_cons (pv 1) (pa_cons (pe_fld (pv 0) rfl) pa_nil)))) (blkOk_by (N := N_Table_listed) (sc := defScope s_Table_listed) (by decide +kernel)) (fun _ _ _ _ _ => pg_name (i := 2) nd rfl (Or.inl rfl)) (fun _ _ _ _ _ => pts_nil) (fun _ _ _ _ _ => (pe_meth (pv 0) C0.cl MW.m MW.ok (hr.mono (by decide)) MW.b .nil pass0 (pa_cons (pv 2) pa_nil))))))), ?_⟩
    have zl : 16777216 = sizeLine := sizeLine_eq.symm
    refine ⟨_, rfl, _, rfl, t, C, dx, _, _, rfl, tb.o, C0.cl, C0.n1, rfl, _, _, .tup (SqT.of hl2) (zD_dp _), .tup (SqT.of tb.l) (zD_dp _), zD_shapeT _, zD_shapeT _, ?_⟩
    rw [zD_eqT]
    refine ⟨_, rfl, ite2 (fun he => ?_) (fun he => ?_)⟩
    · have e : es = ds := dI_inj (of_decide_eq_true he)
      subst e
      refine ⟨_, rfl, t, C, dx, _, _, rfl, tb.o, C0.cl, C0.n3, rfl, ?_⟩
      refine kq true et H (fun _ _ e => e) ?_
      rw [entries_all cs ask.m]
      exact sqK_t (SqT.of tb.e)
    · refine ⟨_, rfl, _, rfl, t, C, dx, _, _, rfl, tb.o, C0.cl, C0.n2, rfl, l2, es, b, rfl, hl2, ask, fun L H1 hL s1 hl1 => ?_⟩
      obtain ⟨us, hus⟩ : ∃ us, LTV H1 L us (spotsL es b) := hl1.lenV
      have hlen := spots_len (b := b) ask.m
      have hpow : (2 : Nat) ^ es.sum ≤ 256 := Nat.pow_le_pow_right (n := 2) (by decide) ask.s
      have hmul : 2 ^ es.sum * (vecs es.length b).length ≤ 256 * 5000 := Nat.mul_le_mul hpow (Nat.le_of_lt ask.v)
      refine ⟨_, rfl, ⟨_, SqL.of hus.1⟩, fun D hD => ?_⟩
      refine lc_it (walk_list (xs := us)) (fun i H2 => Same H1 H2 ∧ LI H2 D (((spotsL es b).take i).map (valT b cs ds))) ⟨new_same hD, upd_same⟩ (fun i H2 _ h => SqL.of (hus.same h.1).1) ?_ ?_
      · rintro i x H2 H3 hi ⟨s2, h2⟩ ⟨rfl, hx⟩
        obtain ⟨p, xs, hk, hks, rfl, hp⟩ := (hus.same s2).at hx
        have hxl := (spot_bounds ask.m ask.s ask.b64 (List.mem_of_getElem? hks)).1
        refine ⟨rfl, ?_⟩
        dsimp only [tYes]
        rw [if_pos rfl]
        have tb3 := (tb.same s1).same s2
        refine ⟨_, rfl, t, dx, _, rfl, tb3.o, rfl, _, rfl, t, p, true, ds, xs, b, cs, dx, lt, et, ct, rfl, tb3, ok, sqK_t (SqT.of hp), by omega, fun H4 s4 => ?_⟩
        refine ⟨_, h2.same s4, by rw [List.length_map, List.length_map, List.length_take]; omega, same_up (s2.trans s4) hD, ?_⟩
        rw [List.take_succ, hks, List.map_append]
        exact li_snoc
      · rintro H2 ⟨s2, h2⟩
        rw [hus.2.1, List.take_length] at h2
        exact kq false D H2 ((s1.trans s2)) (SqL.of h2)
end
end My

set_option pp.maxSteps 400
set_option Elab.async false
set_option linter.all false
set_option maxRecDepth 100000
set_option maxHeartbeats 1000000
namespace My
open PySem L2 MyR
theorem mxL_len (ds es : List Nat) : (mxL ds es).length = ds.length := by unfold mxL; rw [List.length_map, List.length_range]
theorem mx_le (d e : Nat) : d ≤ (if e > d then e else d) ∧ e ≤ (if e > d then e else d) ∧ (if e > d then e else d) ≤ d + e := by
  by_cases h : e > d
  · rw [if_pos h]; omega
  · rw [if_neg h]; omega
theorem mxL_deep {ds es : List Nat} (hm : ds.length = 1 ∨ ds.length = 2) (he : ds.length = es.length) : DeepL ds (mxL ds es) ∧ DeepL es (mxL ds es) ∧ (mxL ds es).sum ≤ ds.sum + es.sum := by
  rcases hm with e | e
  · match ds, es, e, he with
    | [d], [e], _, _ =>
      obtain ⟨h1, h2, h3⟩ := mx_le d e
      refine ⟨⟨h1, trivial⟩, ⟨h2, trivial⟩, ?_⟩
      show (if e > d then e else d) + 0 ≤ (d + 0) + (e + 0)
      omega
  · match ds, es, e, he with
    | [d, d'], [e, e'], _, _ =>
      obtain ⟨h1, h2, h3⟩ := mx_le d e
      obtain ⟨g1, g2, g3⟩ := mx_le d' e'
      refine ⟨⟨h1, g1, trivial⟩, ⟨h2, g2, trivial⟩, ?_⟩
      show (if e > d then e else d) + ((if e' > d' then e' else d') + 0) ≤ (d + (d' + 0)) + (e + (e' + 0))
      omega
/-- the class Table -/
structure TbV (P : Program) (w : World) (K : PySem.W.Frag) (mg : Str → Option Value) (base : Heap) (C : Addr) where
  f : Addr
  fd : FuncData
  m : Mk K C f
  ok : FnOk P w K mg base CX0 6 f fd ["self", "loss", "bits", "entries"] (spTableV C)
  g : mg "Table" = some (.ref C)
  b : Binds K fd ["self", "loss", "bits", "entries"] []
theorem FrL.back {H0 H H' : Hp} {L : Addr} (s : Same H0 H) (h : FrL H H' L) : FrL H0 H' L := ⟨same_free s h.1, fun as ha p hp => ⟨same_free s (h.2 as ha p hp).1, fun bs hb q hq => same_free s ((h.2 as ha p hp).2 bs hb q hq)⟩⟩
/-- what a function that is class by class a polynomial says at the points tells the table -/
theorem table_of {ds : List Nat} {b : Nat} (ask : AskOk ds b) {f : List Int → Int} (h : LocP ds b f) : ∃ cs, TbOk ds b cs ∧ ((spotsL ds b).map f).map (· % 2 ^ b) = allE ds.length b cs (2 ^ ds.sum) ∧ ∀ xs : List Int, xs.length = ds.length → valT b cs ds xs = f xs % 2 ^ b := by
  obtain ⟨cs, c1, c2⟩ := h.table ask.m ask.b1 ask.b64
  refine ⟨cs, ⟨ask.m, ask.s, ask.b1, ask.b64, ask.v, c1⟩, ?_, c2⟩
  rw [← entries_all cs ask.m, List.map_map]
  refine List.map_congr_left fun x hx => ?_
  exact (c2 x (spot_bounds ask.m ask.s ask.b64 hx).1).symm
theorem pt_at {α : Type} {xs : List α} {f : α → Int} {i : Nat} {x : α} (h : xs[i]? = some x) : ((xs.map f).map V.int)[i]? = some (.int (f x)) := by
  rw [List.getElem?_map, List.getElem?_map, h]
  rfl
theorem rep_flat {α : Type} (x : α) : ∀ n, (List.replicate n [x]).flatten = List.replicate n x
  | 0 => rfl
  | n + 1 => by rw [List.replicate_succ, List.flatten_cons, rep_flat x n, List.replicate_succ]; rfl
theorem const_map {α : Type} (v : Int) : ∀ xs : List α, (xs.map fun _ => v) = List.replicate xs.length v
  | [] => rfl
  | x :: xs => by rw [List.map_cons, const_map v xs, List.length_cons, List.replicate_succ]
theorem rep_case {m : Nat} {t0 : Addr} {H0 : Hp} {Q : V → Hp → Prop} (hm : m = 1 ∨ m = 2) (h0 : H0 t0 = some (.tup [V.int 0])) (go : ∀ lt H1, Same H0 H1 → TupI H1 lt (dI (List.replicate m 0)) → Q (.ref lt) H1) :
    ((m : Int) = 1 ∧ Q (.ref t0) H0) ∨ (2 ≤ (m : Int) ∧ (m : Int) ≤ 1000 ∧ [V.int 0].length ≤ 1000 ∧ ∀ p, H0 p = none → Q (.ref p) (upd H0 p (.tup (List.replicate (m : Int).toNat [V.int 0]).flatten))) := by
  rcases hm with rfl | rfl
  · exact .inl ⟨rfl, go t0 H0 (fun _ _ e => e) h0⟩
  · exact .inr ⟨by decide, by decide, by decide, fun p hp => go p _ (new_same hp) upd_same⟩
theorem neg_zs (z : Int) : V.int (-z) = V.int (0 - z) := by rw [Int.zero_sub]
/-- a table of one number -/
theorem const_table {ds : List Nat} {b : Nat} (ask : AskOk ds b) (v : Int) : ∃ cs, TbOk ds b cs ∧ (List.replicate (2 ^ ds.sum * (vecs ds.length b).length) v).map (· % 2 ^ b) = allE ds.length b cs (2 ^ ds.sum) := by
  obtain ⟨cs, c1, c2, _⟩ := table_of ask (LocP.const ds b v)
  refine ⟨cs, c1, ?_⟩
  rw [← c2, ← spots_len ask.m, const_map]
theorem mk_const {ds : List Nat} {b : Nat} {n : Nat} {v : Int} (h : n = 2 ^ ds.sum * (vecs ds.length b).length) : (List.replicate n [V.int v]).flatten = ((List.replicate (2 ^ ds.sum * (vecs ds.length b).length) v)).map V.int := by
  rw [rep_flat, h, List.map_replicate]
/-! ### values tell the coefficients modulo 2 to the bits -/
theorem nw_uniq {M : Int} {n : Nat} {e f : Nat → Int} (h : ∀ j, j < n → nw e j % M = nw f j % M) : ∀ q, q < n → e q % M = f q % M := by
  have e1 := diff_nw M n e
  have e2 := diff_nw M n f
  have e3 : ((List.range n).map fun j => nw e j % M) = (List.range n).map fun j => nw f j % M := List.map_congr_left fun j hj => h j (List.mem_range.mp hj)
  rw [e3, e2] at e1
  intro q hq
  have := congrArg (fun l : List Int => l[q]?) e1
  simp only [List.getElem?_map, List.getElem?_range hq, Option.map_some] at this
  exact (Option.some.inj this).symm
theorem wd_anti {m b p r : Nat} (h : p ≤ r) : wd m b r ≤ wd m b p := by
  unfold wd
  split
  · have := tw_mono r p h
    exact W_mono (by omega)
  · exact Nat.le_refl _
theorem gv_uniq {M : Int} {m b : Nat} {c c' : Nat → Nat → Int} (h : ∀ r, r < nR m b → ∀ j, j < wd m b r → gv c r j % M = gv c' r j % M) : ∀ r, r < nR m b → ∀ q, q < wd m b r → c r q % M = c' r q % M := by
  intro r hr
  refine nw_uniq fun j hj => ?_
  exact nw_uniq (n := r + 1) (e := fun p => nw (c p) j) (f := fun p => nw (c' p) j) (fun p hp => h p (by omega) j (Nat.lt_of_lt_of_le hj (wd_anti (by omega)))) r (by omega)
theorem flat_inj {α : Type} {f g : Nat → List α} : ∀ n, (∀ r, r < n → (f r).length = (g r).length) → (List.range n).flatMap f = (List.range n).flatMap g → ∀ r, r < n → f r = g r
  | 0, _, _, r, hr => absurd hr (Nat.not_lt_zero _)
  | n + 1, hl, h, r, hr => by
    rw [List.range_succ, List.flatMap_append, List.flatMap_append] at h
    simp only [List.flatMap_cons, List.flatMap_nil, List.append_nil] at h
    obtain ⟨h1, h2⟩ := List.append_inj' h (hl n (by omega))
    by_cases e : r = n
    · rw [e]; exact h2
    · exact flat_inj n (fun r hr => hl r (by omega)) h1 r (by omega)
theorem ent_uniq {m b : Nat} {c c' : Nat → Nat → Int} (h : entC m b c = entC m b c') : ∀ r, r < nR m b → ∀ q, q < wd m b r → c r q % 2 ^ b = c' r q % 2 ^ b := by
  refine gv_uniq fun r hr j hj => ?_
  have := flat_inj (f := rowC m b c) (g := rowC m b c') (nR m b) (fun r _ => by rw [rowC_len, rowC_len]) h r hr
  have := congrArg (fun l : List Int => l[j]?) this
  unfold rowC at this
  simp only [List.getElem?_map, List.getElem?_range hj, Option.map_some] at this
  exact Option.some.inj this
theorem allE_uniq {m b N : Nat} (hm : m = 1 ∨ m = 2) {c c' : Nat → Nat → Nat → Int} (h : allE m b c N = allE m b c' N) : ∀ g, g < N → ∀ r, r < nR m b → ∀ q, q < wd m b r → c g r q % 2 ^ b = c' g r q % 2 ^ b := by
  intro g hg
  have hl : ∀ c : Nat → Nat → Int, (entC m b c).length = (vecs m b).length := fun c => by
    have := allE_len (b := b) (cs := fun _ => c) hm 1
    unfold allE at this
    simpa using this
  exact ent_uniq (flat_inj (f := fun g => entC m b (c g)) (g := fun g => entC m b (c' g)) N (fun g _ => by rw [hl, hl]) h g hg)
theorem val1_uniq {b : Nat} {c c' : Nat → Nat → Int} (h : ∀ q, q < W b → c 0 q % 2 ^ b = c' 0 q % 2 ^ b) (z : Int) : val1 b c z = val1 b c' z := by
  unfold val1
  exact smI_mod fun q hq => em_mul (h q hq) rfl
theorem val2_uniq {b : Nat} {c c' : Nat → Nat → Int} (h : ∀ r, r < W b → ∀ q, q < W (b - tw r) → c r q % 2 ^ b = c' r q % 2 ^ b) (z1 z2 : Int) : val2 b c z1 z2 = val2 b c' z1 z2 := by
  unfold val2
  exact smI_mod fun r hr => smI_mod fun q hq => em_mul (h r hr q hq) rfl
theorem valT_uniq {b : Nat} {ds : List Nat} (hm : ds.length = 1 ∨ ds.length = 2) {c c' : Nat → Nat → Nat → Int} (h : ∀ g, g < 2 ^ ds.sum → ∀ r, r < nR ds.length b → ∀ q, q < wd ds.length b r → c g r q % 2 ^ b = c' g r q % 2 ^ b) {xs : List Int} (hx : xs.length = ds.length) : valT b c ds xs = valT b c' ds xs := by
  rcases hm with e | e
  · match ds, e, xs, hx with
    | [d], _, [x], _ =>
      refine val1_uniq (fun q hq => h _ ?_ 0 (show 0 < 1 by decide) q hq) _
      have hp := p2_pos d
      have h0 := Int.emod_nonneg x (show (2 : Int) ^ d ≠ 0 by omega)
      have h1 := Int.emod_lt_of_pos x hp
      show (0 * 2 ^ d + x % 2 ^ d).toNat < 2 ^ (d + 0)
      rw [Int.zero_mul, Int.zero_add, Nat.add_zero]
      have := pow_cast d
      omega
  · match ds, e, xs, hx with
    | [d1, d2], _, [x1, x2], _ =>
      refine val2_uniq (fun r hr q hq => h _ ?_ r hr q hq) _ _
      have g := gA_lt [d1, d2] [x1, x2] 2
      have es : sA [d1, d2] 2 = d1 + d2 := by show 0 + d1 + d2 = d1 + d2; omega
      rw [es] at g
      have g1 : (0 * 2 ^ d1 + x1 % 2 ^ d1) * 2 ^ d2 + x2 % 2 ^ d2 = gA [d1, d2] [x1, x2] 2 := rfl
      show ((0 * 2 ^ d1 + x1 % 2 ^ d1) * 2 ^ d2 + x2 % 2 ^ d2).toNat < 2 ^ (d1 + (d2 + 0))
      rw [g1, Nat.add_zero]
      have := pow_cast (d1 + d2)
      omega
/-- two tables tell the same at the points of a deeper loss just if they tell the same everywhere -/
theorem rows_iff {L ds es : List Nat} {b : Nat} {c1 c2 : Nat → Nat → Nat → Int} (ask : AskOk L b) (ok1 : TbOk ds b c1) (ok2 : TbOk es b c2) (h1 : DeepL ds L) (h2 : DeepL es L) :
    ((spotsL L b).map (valT b c1 ds) = (spotsL L b).map (valT b c2 es)) ↔ ∀ xs : List Int, xs.length = L.length → valT b c1 ds xs = valT b c2 es xs := by
  constructor
  · intro h xs hx
    obtain ⟨c3, ok3, e3, v3⟩ := table_of ask ((valT_loc ok1.b1 ok1.b64 ok1.d).deep h1)
    obtain ⟨c4, ok4, e4, v4⟩ := table_of ask ((valT_loc ok2.b1 ok2.b64 ok2.d).deep h2)
    rw [h, e4] at e3
    have := valT_uniq ask.m (allE_uniq ask.m e3) hx
    rw [v3 xs hx, v4 xs hx] at this
    obtain ⟨a0, a1⟩ := valT_lt b c1 ds xs
    obtain ⟨b0, b1⟩ := valT_lt b c2 es xs
    rw [Int.emod_eq_of_lt a0 a1, Int.emod_eq_of_lt b0 b1] at this
    exact this.symm
  · intro h
    exact List.map_congr_left fun x hx => h x (spot_bounds ask.m ask.s ask.b64 hx).1
/-! ### functions made of multiples: divisible, not too great -/
structure FX (n : Nat) (f : List Nat → Int) : Prop where
  d : ∀ v, (2 : Int) ^ twS v ∣ f v
  b : ∀ v, (f v).natAbs < 2 ^ n
theorem FOk.fx {f : List Nat → Int} (h : FOk f) : FX 128 f := ⟨h.d, fun v => by
  have h1 := h.lo v
  have h2 := h.hi v
  have e1 : (2 : Int) ^ 128 = 340282366920938463463374607431768211456 := by decide
  have e2 : (2 : Nat) ^ 128 = 340282366920938463463374607431768211456 := by decide
  omega⟩
theorem FX.mono {n k : Nat} {f : List Nat → Int} (h : FX n f) (hk : n ≤ k) : FX k f := ⟨h.d, fun v => Nat.lt_of_lt_of_le (h.b v) (Nat.pow_le_pow_right (by decide) hk)⟩
theorem csOf_divX {m b n : Nat} {f : List Nat → Int} (hm : m = 1 ∨ m = 2) (h : FX n f) : DivC m b (csOf m f) := fun r q hr hq => by
  rcases hm with rfl | rfl
  · have hr : r < 1 := hr
    have : r = 0 := by omega
    subst this
    have := h.d [q]
    show (2 : Int) ^ (tw 0 + tw q) ∣ f [q]
    have e : twS [q] = tw 0 + tw q := by show tw q + 0 = 0 + tw q; omega
    rw [← e]
    exact this
  · have := h.d [r, q]
    show (2 : Int) ^ (tw r + tw q) ∣ f [r, q]
    have e : twS [r, q] = tw r + tw q := by show tw r + (tw q + 0) = tw r + tw q; omega
    rw [← e]
    exact this
/-- Newton's differences of what a table tells are such a function -/
theorem newton_fx {ds : List Nat} {b : Nat} (ask : AskOk ds b) {f : List Int → Int} (h : LocP ds b f) (h0 : ∀ x, x ∈ spotsL ds b → 0 ≤ f x ∧ f x < 2 ^ b) :
    ∀ g, g < 2 ^ ds.sum → ∀ v, v ∈ vecs ds.length b → (2 : Int) ^ twS v ∣ fE ds.length b ((spotsL ds b).map f) g v := by
  obtain ⟨c, ok, e, _⟩ := table_of ask h
  have hl : ((spotsL ds b).map f).length = 2 ^ ds.sum * (vecs ds.length b).length := by rw [List.length_map, spots_len ask.m]
  have e2 := allE_es ask.m ((spotsL ds b).map f) (2 ^ ds.sum) (by rw [hl]; exact Nat.le_refl _)
  rw [← hl, List.take_length, e] at e2
  have u := allE_uniq ask.m e2
  intro g hg v hv
  have ht := vecs_tw _ _ v ask.b1 hv
  have key : ∀ r q, r < nR ds.length b → q < wd ds.length b r → tw r + tw q < b → (2 : Int) ^ (tw r + tw q) ∣ csE ds.length b ((spotsL ds b).map f) g r q := fun r q hr hq hlt => by
    have e3 := u g hg r hr q hq
    have d1 := ok.d g r q hr hq
    refine Int.dvd_of_emod_eq_zero ?_
    have := congrArg (fun x : Int => x % (2 : Int) ^ (tw r + tw q)) e3
    have this : csE ds.length b ((spotsL ds b).map f) g r q % 2 ^ b % 2 ^ (tw r + tw q) = c g r q % 2 ^ b % 2 ^ (tw r + tw q) := this
    rw [Int.emod_emod_of_dvd _ (p2_dvd (by omega)), Int.emod_emod_of_dvd _ (p2_dvd (by omega)), Int.emod_eq_zero_of_dvd d1] at this
    exact this
  obtain ⟨v2, v1⟩ := vec_form hv
  rcases ask.m with hm | hm
  · have ev := v1 hm
    rw [hm] at key hv ⊢
    rw [ev] at hv ht ⊢
    have e1 : twS [v.getD 0 0] = tw 0 + tw (v.getD 0 0) := by show tw _ + 0 = 0 + tw _; omega
    rw [e1] at ht ⊢
    have hq : v.getD 0 0 < W b := W_iff.mp (by have : tw 0 = 0 := rfl; omega)
    exact key 0 (v.getD 0 0) (show 0 < 1 by decide) hq ht
  · have ev := v2 hm
    rw [hm] at key hv ⊢
    rw [ev] at hv ht ⊢
    have e1 : twS [v.getD 0 0, v.getD 1 0] = tw (v.getD 0 0) + tw (v.getD 1 0) := by show tw _ + (tw _ + 0) = _; omega
    rw [e1] at ht ⊢
    have hr : v.getD 0 0 < W b := W_iff.mp (by omega)
    have hq : v.getD 1 0 < W (b - tw (v.getD 0 0)) := W_iff.mp (by omega)
    exact key (v.getD 0 0) (v.getD 1 0) hr hq ht
end My

set_option pp.maxSteps 400
set_option Elab.async false
set_option linter.all false
set_option maxRecDepth 100000
set_option maxHeartbeats 1000000
namespace My
open PySem L2 MyR
def spConst (C : Addr) : Sp := fun vs H Q _ => ∃ (v : Int) (m b : Nat), vs = [.ref C, .int v, .int (m : Int), .int (b : Int)] ∧ (m = 1 ∨ m = 2) ∧ 1 ≤ b ∧ b ≤ 64 ∧ (vecs m b).length < 5000 ∧
  ∀ (R dx lt et ct : Addr) (cs : Nat → Nat → Nat → Int) H', Same H H' → TbAt C H' R (List.replicate m 0) b cs dx lt et ct → TbOk (List.replicate m 0) b cs → FrL H H' ct → Q (.ref R) H'
theorem sqK_or {k : Bool} {K : PySem.W.Frag} {H : Hp} {a : Addr} {xs : List V} (h : SqK k K H a xs) : SqL K H a xs ∨ SqT K H a xs := by
  cases k with
  | true => exact .inr h
  | false => exact .inl h
theorem zD_shapeL (xs : List Int) : SeqAt.shaped (.list (zD xs)) = true := by
  unfold SeqAt.shaped
  rw [show (PyData.list (zD xs)).canLay0 = true from by rw [PyData.canLay0]; exact zD_lay xs, Bool.true_and]
  refine decide_eq_true ?_
  rw [PyData.depth, zD_dep]
  decide
theorem zD_eqL (xs ys : List Int) : PyData.eqv (.list (zD xs)) (.list (zD ys)) = decide (xs = ys) := by
  have e : PyData.eqv (.list (zD xs)) (.list (zD ys)) = PyData.eqvAll (zD xs) (zD ys) := by rw [PyData.eqv]
  rw [e]
  exact PySem.W.ked_eqvAll xs ys
structure ClsN (K : PySem.W.Frag) (C : Addr) : Prop where
  ca : PySem.W.findIn K (.ref C) "__class__" = some (some (.builtin "object.__class__"))
  cn : PySem.W.specialIn K (.builtin "object.__class__") "__get__" = some (some (.builtin "getset_descriptor.__get__"))
  ct : PySem.W.takesIn K (.builtin "object.__class__") = some true
  cm : PySem.W.mroIn K C (.type "object") = some true
  kit : PySem.W.kitOne K (.ref C) (.ref C) = some true
/-- two tables are the same function -/
def SameT (ds es : List Nat) (b c : Nat) (cs cs2 : Nat → Nat → Nat → Int) : Prop := ds.length = es.length ∧ b = c ∧ ∀ xs : List Int, xs.length = ds.length → valT b cs ds xs = valT c cs2 es xs
def spSame (C : Addr) : Sp := fun vs H Q _ => ∃ (t1 t2 : Addr) (ds es : List Nat) (b c : Nat) (cs cs2 : Nat → Nat → Nat → Int) (dx lt et ct dx2 lt2 et2 ct2 : Addr), vs = [.ref t1, .ref t2] ∧ TbAt C H t1 ds b cs dx lt et ct ∧ TbOk ds b cs ∧ TbAt C H t2 es c cs2 dx2 lt2 et2 ct2 ∧ TbOk es c cs2 ∧
  (ds.length = es.length → b = c → (mxL ds es).sum ≤ 8) ∧ ∀ (r : Bool) H', Same H H' → (r = true ↔ SameT ds es b c cs cs2) → Q (.bl r) H'
def spEqT (K : PySem.W.Frag) (C : Addr) : Sp := fun vs H Q _ => ∃ (t1 : Addr) (y : V) (ds : List Nat) (b : Nat) (cs : Nat → Nat → Nat → Int) (dx lt et ct : Addr), vs = [.ref t1, y] ∧ TbAt C H t1 ds b cs dx lt et ct ∧ TbOk ds b cs ∧
  ((∃ (t2 : Addr) (es : List Nat) (c : Nat) (cs2 : Nat → Nat → Nat → Int) (dx2 lt2 et2 ct2 : Addr), y = .ref t2 ∧ TbAt C H t2 es c cs2 dx2 lt2 et2 ct2 ∧ TbOk es c cs2 ∧ (ds.length = es.length → b = c → (mxL ds es).sum ≤ 8) ∧ ∀ (r : Bool) H', Same H H' → (r = true ↔ SameT ds es b c cs cs2) → Q (.bl r) H') ∨
    ((∃ u, TyX K H y u ∧ PySem.W.kitOne K u (.ref C) = some false) ∧ Q (.bl false) H))
theorem ne_int {i j : Nat} (h : i ≠ j) : (!decide (V.int (i : Int) = V.int (j : Int))) = true := by
  rw [decide_eq_false fun q => h (by have := V.int.inj q; omega)]
  rfl
theorem mx_ask {ds es : List Nat} {b : Nat} {cs : Nat → Nat → Nat → Int} (ok : TbOk ds b cs) (hs : (mxL ds es).sum ≤ 8) : AskOk (mxL ds es) b := ⟨by rw [mxL_len]; exact ok.m, hs, ok.b1, ok.b64, by rw [mxL_len]; exact ok.v⟩
section
variable {P : Program} {w : World} {K : PySem.W.Frag} {mg : Str → Option Value} {base : Heap}
abbrev s_Table_constant : Stmt := inClass (top 29) 2
abbrev N_Table_constant : List Str := ["cls", "value", "inputs", "bits"]
theorem sc_Table_constant : FnScope N_Table_constant ["cls", "value", "inputs", "bits"] (defScope s_Table_constant) := ⟨rfl, rfl, rfl, by decide +kernel, rfl, by decide +kernel, by decide +kernel⟩
theorem ok_Table_constant {f C : Addr} {fd : FuncData} (F : Fun K "constant" "Table.constant" s_Table_constant f fd) (TV : TbV P w K mg base C) (D_count_vectors : Df P w K mg base 3 "count_vectors" ["count", "bits"] spCountV) : FnOk P w K mg base CX0 8 f fd ["cls", "value", "inputs", "bits"] (spConst C) := by
  refine F.ok sc_Table_constant (fun vs H Q E h => ?_) (fun cdv A outer s H vs Q E hr h => ?_)
  · obtain ⟨v, m, b, rfl, _⟩ := h
    rfl
  · obtain ⟨v, m, b, rfl, hm, hb1, hb, hv, go⟩ := h
    have nd := sc_Table_constant.nd
    refine ⟨_, (pss_one (ps_ret (pe_makeLS (i := 0) (E := fun _ _ _ _ => False) TV.m TV.ok (hr.mono (by decide)) rfl (.inl rfl) TV.b (fun σ pins H s e s' I c => pass0 pins σ H s e s' I c) (pa_cons (pe_op op_repTB (pe_tup (pa_cons pe_int pa_nil)) (pv 2)) (pa_cons (pv 3) (pa_cons (pe_op op_rep (pe_lst (pa_cons (pv 1) pa_nil)) (pe_call D_count_vectors.ok (hr.mono (by decide)) (by rfl) D_count_vectors.g D_count_vectors.kp D_count_vectors.b .nil pass0 (pa_cons (pv 2) (pa_cons (pv 3) pa_nil)))) pa_nil)))))), ?_⟩
    have zl : 16777216 = sizeLine := sizeLine_eq.symm
    have ask : AskOk (List.replicate m 0) b := by
      refine ⟨by rw [List.length_replicate]; exact hm, ?_, hb1, hb, by rw [List.length_replicate]; exact hv⟩
      rcases hm with rfl | rfl <;> decide
    have hsum : (List.replicate m 0).sum = 0 := by rcases hm with rfl | rfl <;> rfl
    have hcnt : (vecs m b).length = 2 ^ (List.replicate m 0).sum * (vecs (List.replicate m 0).length b).length := by
      rw [hsum, List.length_replicate, Nat.pow_zero, Nat.one_mul]
    obtain ⟨cs3, ok3, e3⟩ := const_table ask v
    refine ⟨rfl, ?_⟩
    refine ⟨(by show 1 ≤ sizeLine; omega), fun t0 ht0 => ?_⟩
    have s0 := new_same (o := .tup [V.int 0]) ht0
    have h0 : upd H t0 (.tup [V.int 0]) t0 = some (.tup [V.int 0]) := upd_same
    generalize upd H t0 (.tup [V.int 0]) = H0 at s0 h0 ⊢
    refine ⟨_, rfl, t0, (m : Int), _, rfl, rfl, SqT.of h0, by simp, ?_⟩
    have hm' := hm
    rcases hm' with hm1 | hm1
    · refine .inl ⟨by omega, ?_⟩
      have hlt : TupI H0 t0 (dI (List.replicate m 0)) := by rw [hm1]; exact h0
      generalize t0 = lt at hlt ⊢
      obtain ⟨H1, hH1, s1⟩ : ∃ H1, H1 = H0 ∧ Same H0 H1 := ⟨_, rfl, fun _ _ e => e⟩
      rw [← hH1] at hlt ⊢
      refine ⟨_, rfl, _, rfl, (by show 1 ≤ sizeLine; omega), fun z hz => ?_⟩
      have s2 := new_same (o := .lst [V.int v]) hz
      have hz2 : upd H1 z (.lst [V.int v]) z = some (.lst [V.int v]) := upd_same
      have hlt2 := hlt.same s2
      generalize upd H1 z (.lst [V.int v]) = H2 at s2 hz2 hlt2 ⊢
      refine ⟨_, rfl, _, rfl, m, b, rfl, by omega, hb1, hb, fun H3 s3 => ?_⟩
      refine ⟨z, _, _, rfl, rfl, s3 _ _ hz2, by omega, by omega, by show 1 * _ ≤ sizeLine; omega, fun D hD => ?_⟩
      rw [Int.toNat_natCast, mk_const hcnt]
      have s4 := new_same (o := .lst ((List.replicate (2 ^ (List.replicate m 0).sum * (vecs (List.replicate m 0).length b).length) v).map V.int)) hD
      have h4 : LI (upd H3 D (.lst ((List.replicate (2 ^ (List.replicate m 0).sum * (vecs (List.replicate m 0).length b).length) v).map V.int))) D (List.replicate (2 ^ (List.replicate m 0).sum * (vecs (List.replicate m 0).length b).length) v) := upd_same
      have sA := s0.trans (s1.trans (s2.trans (s3.trans s4)))
      have hlt4 := (hlt2.same s3).same s4
      generalize upd H3 D (.lst ((List.replicate (2 ^ (List.replicate m 0).sum * (vecs (List.replicate m 0).length b).length) v).map V.int)) = H4 at h4 sA hlt4 ⊢
      refine fun R dR hR hdR nR => ?_
      have s0 : Same H4 (upd (upd H4 dR (.own R)) R (.ins C dR [])) := fun a o e => by rw [upd_ne (ne_of_none e hR), upd_ne (ne_of_none e hdR)]; exact e
      refine ⟨R, dR, lt, D, _, b, cs3, _, rfl, upd_same, hlt4.same s0, h4.same s0, e3, ok3, fun et' ct' H6 tb6 sp fr => ⟨rfl, ?_⟩⟩
      have s6 : Same H4 H6 := fun a o e => sp a o (s0 a o e) (ne_of_none e hR)
      exact go R dR lt et' ct' cs3 H6 (sA.trans s6) tb6 ok3 (FrL.back (sA.trans s0) fr)
    · refine .inr ⟨by omega, by omega, by decide, fun lt hp => ?_⟩
      have s1 := new_same (o := .tup (List.replicate (m : Int).toNat [V.int 0]).flatten) hp
      have hlt : TupI (upd H0 lt (.tup (List.replicate (m : Int).toNat [V.int 0]).flatten)) lt (dI (List.replicate m 0)) := by
        show upd _ _ _ _ = _
        rw [upd_same, hm1]
        rfl
      generalize upd H0 lt (.tup (List.replicate (m : Int).toNat [V.int 0]).flatten) = H1 at s1 hlt ⊢
      refine ⟨_, rfl, _, rfl, (by show 1 ≤ sizeLine; omega), fun z hz => ?_⟩
      have s2 := new_same (o := .lst [V.int v]) hz
      have hz2 : upd H1 z (.lst [V.int v]) z = some (.lst [V.int v]) := upd_same
      have hlt2 := hlt.same s2
      generalize upd H1 z (.lst [V.int v]) = H2 at s2 hz2 hlt2 ⊢
      refine ⟨_, rfl, _, rfl, m, b, rfl, by omega, hb1, hb, fun H3 s3 => ?_⟩
      refine ⟨z, _, _, rfl, rfl, s3 _ _ hz2, by omega, by omega, by show 1 * _ ≤ sizeLine; omega, fun D hD => ?_⟩
      rw [Int.toNat_natCast, mk_const hcnt]
      have s4 := new_same (o := .lst ((List.replicate (2 ^ (List.replicate m 0).sum * (vecs (List.replicate m 0).length b).length) v).map V.int)) hD
      have h4 : LI (upd H3 D (.lst ((List.replicate (2 ^ (List.replicate m 0).sum * (vecs (List.replicate m 0).length b).length) v).map V.int))) D (List.replicate (2 ^ (List.replicate m 0).sum * (vecs (List.replicate m 0).length b).length) v) := upd_same
      have sA := s0.trans (s1.trans (s2.trans (s3.trans s4)))
      have hlt4 := (hlt2.same s3).same s4
      generalize upd H3 D (.lst ((List.replicate (2 ^ (List.replicate m 0).sum * (vecs (List.replicate m 0).length b).length) v).map V.int)) = H4 at h4 sA hlt4 ⊢
      refine fun R dR hR hdR nR => ?_
      have s0 : Same H4 (upd (upd H4 dR (.own R)) R (.ins C dR [])) := fun a o e => by rw [upd_ne (ne_of_none e hR), upd_ne (ne_of_none e hdR)]; exact e
      refine ⟨R, dR, lt, D, _, b, cs3, _, rfl, upd_same, hlt4.same s0, h4.same s0, e3, ok3, fun et' ct' H6 tb6 sp fr => ⟨rfl, ?_⟩⟩
      have s6 : Same H4 H6 := fun a o e => sp a o (s0 a o e) (ne_of_none e hR)
      exact go R dR lt et' ct' cs3 H6 (sA.trans s6) tb6 ok3 (FrL.back (sA.trans s0) fr)
abbrev s_Table_is_same : Stmt := inClass (top 29) 9
abbrev N_Table_is_same : List Str := ["self", "other", "loss"]
theorem sc_Table_is_same : FnScope N_Table_is_same ["self", "other"] (defScope s_Table_is_same) := ⟨rfl, rfl, rfl, by decide +kernel, rfl, by decide +kernel, by decide +kernel⟩
theorem ok_Table_is_same {f C : Addr} {fd : FuncData} (F : Fun K "is_same" "Table.is_same" s_Table_is_same f fd) (T : Glob mg) (C0 : TbC K C) (D_greater_loss : Df P w K mg base 1 "greater_loss" ["one", "other"] spGr) (ML : Mt P w K mg base C 7 "listed" ["self", "loss"] (spListed K C)) : FnOk P w K mg base CX0 8 f fd ["self", "other"] (spSame C) := by
  refine F.ok sc_Table_is_same (fun vs H Q E h => ?_) (fun cdv A outer s H vs Q E hr h => ?_)
  · obtain ⟨t1, t2, ds, es, b, c, cs, cs2, dx, lt, et, ct, dx2, lt2, et2, ct2, rfl, _⟩ := h
    rfl
  · obtain ⟨t1, t2, ds, es, b, c, cs, cs2, dx, lt, et, ct, dx2, lt2, et2, ct2, rfl, tb, ok, tb2, ok2, hs8, kq⟩ := h
    have nd := sc_Table_is_same.nd
    refine ⟨_, (pss_cons (ps_if (PW.pt (pw_or (pt_cmpR op_ne (pe_fld (pv 0) rfl) (pe_fld (pv 1) rfl) (nomark _)) (pw_or1 (pt_cmpR op_ne (pe_fld (pv 0) rfl) (pe_fld (pv 1) rfl) (nomark _)))))
    (pss_one (ps_ret pe_bl))
    pss_nil)
    (pss_cons (ps_set (i := 2) nd rfl (Or.inl rfl) (pe_call D_greater_loss.ok (hr.mono (by decide)) (by rfl) D_greater_loss.g D_greater_loss.kp D_greater_loss.b .nil pass0 (pa_cons (pe_fld (pv 0) rfl) (pa_cons (pe_fld (pv 1) rfl) pa_nil))))
    (pss_one (ps_ret (pe_cmpR (op_eqD hr.units) (pe_callTy call_list_of (by rfl) T.g_list (by decide +kernel) (pa_cons (pe_meth (pv 0) C0.cl ML.m ML.ok (hr.mono (by decide)) ML.b .nil pass0 (pa_cons (pv 2) pa_nil)) pa_nil)) (pe_callTy call_list_of (by rfl) T.g_list (by decide +kernel) (pa_cons (pe_meth (pv 1) C0.cl ML.m ML.ok (hr.mono (by decide)) ML.b .nil pass0 (pa_cons (pv 2) pa_nil)) pa_nil)) (nomark _)))))), ?_⟩
    refine ⟨_, rfl, t1, C, dx, _, _, rfl, tb.o, C0.cl, C0.n4, rfl, _, rfl, t2, C, dx2, _, _, rfl, tb2.o, C0.cl, C0.n4, rfl, rfl, _, rfl, ?_⟩
    by_cases hlen : ds.length = es.length
    rotate_left
    · refine ite2 (fun _ => ?_) (fun z => absurd (ne_int hlen) z)
      exact kq false H (fun _ _ e => e) ⟨fun h => Bool.noConfusion h, fun h => absurd h.1 hlen⟩
    refine iteNS (by rw [hlen]) ?_
    refine ⟨_, rfl, t1, C, dx, _, _, rfl, tb.o, C0.cl, C0.n2, rfl, _, rfl, t2, C, dx2, _, _, rfl, tb2.o, C0.cl, C0.n2, rfl, rfl, _, rfl, ?_⟩
    by_cases hb : b = c
    rotate_left
    · refine ite2 (fun _ => ?_) (fun z => absurd (ne_int hb) z)
      exact kq false H (fun _ _ e => e) ⟨fun h => Bool.noConfusion h, fun h => absurd h.2.1 hb⟩
    refine iteNS (by rw [hb]) ?_
    subst hb
    have ask := mx_ask ok (hs8 hlen rfl)
    obtain ⟨hd1, hd2, _⟩ := mxL_deep ok.m hlen
    have hml := mxL_len ds es
    refine ⟨_, rfl, t1, C, dx, _, _, rfl, tb.o, C0.cl, C0.n1, rfl, _, rfl, t2, C, dx2, _, _, rfl, tb2.o, C0.cl, C0.n1, rfl, lt, lt2, ds, es, rfl, tb.l, tb2.l, hlen, by have := ok.m; omega, fun t H1 _ s1 ht => ?_⟩
    have tb1 := tb.same s1
    refine ⟨_, rfl, t1, dx, _, rfl, tb1.o, rfl, _, rfl, t1, t, ds, mxL ds es, b, cs, dx, lt, et, ct, rfl, tb1, ok, ht, ask, hml, fun k1 a1 H2 s2 h1 => ?_⟩
    refine ⟨a1, _, rfl, sqK_or h1, fun q1 hq1 => ?_⟩
    have s3 := new_same (o := .lst (((spotsL (mxL ds es) b).map (valT b cs ds)).map V.int)) hq1
    have hl3 : upd H2 q1 (.lst (((spotsL (mxL ds es) b).map (valT b cs ds)).map V.int)) q1 = some (.lst (((spotsL (mxL ds es) b).map (valT b cs ds)).map V.int)) := upd_same
    have s13 := s1.trans (s2.trans s3)
    have ht3 := (ht.same s2).same s3
    generalize upd H2 q1 (.lst (((spotsL (mxL ds es) b).map (valT b cs ds)).map V.int)) = H3 at s3 hl3 s13 ht3 ⊢
    have tb3 := tb2.same s13
    refine ⟨_, rfl, t2, dx2, _, rfl, tb3.o, rfl, _, rfl, t2, t, es, mxL ds es, b, cs2, dx2, lt2, et2, ct2, rfl, tb3, ok2, ht3, ask, by rw [hml, hlen], fun k2 a2 H4 s4 h2 => ?_⟩
    refine ⟨a2, _, rfl, sqK_or h2, fun q2 hq2 => ?_⟩
    have s5 := new_same (o := .lst (((spotsL (mxL ds es) b).map (valT b cs2 es)).map V.int)) hq2
    have hl5 : upd H4 q2 (.lst (((spotsL (mxL ds es) b).map (valT b cs2 es)).map V.int)) q2 = some (.lst (((spotsL (mxL ds es) b).map (valT b cs2 es)).map V.int)) := upd_same
    have s15 := s13.trans (s4.trans s5)
    refine ⟨_, _, .lst (SqL.of (s5 _ _ (s4 _ _ hl3))) (zD_dp _), .lst (SqL.of hl5) (zD_dp _), zD_shapeL _, zD_shapeL _, ?_⟩
    rw [zD_eqL]
    have iff := rows_iff ask ok ok2 hd1 hd2
    rw [hml] at iff
    refine kq _ _ s15 ⟨fun h => ⟨hlen, rfl, iff.mp (of_decide_eq_true h)⟩, fun h => decide_eq_true (iff.mpr h.2.2)⟩
abbrev s_Table_eq : Stmt := inClass (top 29) 15
abbrev N_Table_eq : List Str := ["self", "other"]
theorem sc_Table_eq : FnScope N_Table_eq ["self", "other"] (defScope s_Table_eq) := ⟨rfl, rfl, rfl, by decide +kernel, rfl, by decide +kernel, by decide +kernel⟩
theorem ok_Table_eq {f C : Addr} {fd : FuncData} (F : Fun K "__eq__" "Table.__eq__" s_Table_eq f fd) (T : Glob mg) (C0 : TbC K C) (nm : ClsN K C) (hC : mg "Table" = some (.ref C)) (MS : Mt P w K mg base C 8 "is_same" ["self", "other"] (spSame C)) : FnOk P w K mg base CX0 9 f fd ["self", "other"] (spEqT K C) := by
  refine F.ok sc_Table_eq (fun vs H Q E h => ?_) (fun cdv A outer s H vs Q E hr h => ?_)
  · obtain ⟨t1, y, ds, b, cs, dx, lt, et, ct, rfl, _⟩ := h
    rfl
  · obtain ⟨t1, y, ds, b, cs, dx, lt, et, ct, rfl, tb, ok, h⟩ := h
    have nd := sc_Table_eq.nd
    refine ⟨_, (pss_one (ps_ret (pe_and (pe_callB call_isi (by rfl) T.g_isinstance (by decide +kernel) (pa_cons (pv 1) (pa_cons (pe_glob (v := .ref C) rfl hC rfl) pa_nil))) (pe_one (pe_meth (pv 0) C0.cl MS.m MS.ok (hr.mono (by decide)) MS.b .nil pass0 (pa_cons (pv 1) pa_nil)))))), ?_⟩
    rcases h with ⟨t2, es, c, cs2, dx2, lt2, et2, ct2, rfl, tb2, ok2, hs8, k⟩ | ⟨⟨u, hu, hk⟩, k⟩
    · refine ⟨_, rfl, _, _, _, _, true, rfl, .own C, .base (.ins tb2.o C0.cl nm.ca nm.cn nm.ct nm.cm), nm.kit, ?_⟩
      refine ⟨true, rfl, ?_⟩
      exact ⟨_, rfl, t1, dx, _, rfl, tb.o, rfl, _, rfl, t1, t2, ds, es, b, c, cs, cs2, dx, lt, et, ct, dx2, lt2, et2, ct2, rfl, tb, ok, tb2, ok2, hs8, k⟩
    · refine ⟨_, rfl, _, _, u, _, false, rfl, .own C, hu, hk, ?_⟩
      exact ⟨false, rfl, k⟩
end
end My

set_option Elab.async false
set_option linter.all false
set_option maxRecDepth 100000
set_option maxHeartbeats 1000000
namespace MyR
open PySem PySem.Spec PyProof.Rows L2
/-! ### dict(xs) of a list of pairs whose keys are tuples, all different -/
section
variable {X : Cx} {pins : List (Addr × Obj)} {σ : L2.St} {H : Hp} {s : Shared}
abbrev Trip := Addr × Addr × (List Key × V)
def TripOk (H : Hp) (x : Trip) : Prop := H x.1 = some (.tup [.ref x.2.1, x.2.2.2]) ∧ H x.2.1 = some (.tup (x.2.2.1.map kV))
theorem trips_of (I : Inv X pins σ H s) : ∀ {ts : List Trip}, (∀ x ∈ ts, TripOk H x) →
    ∃ vals : List (List Key × Addr × Value), KT H (ts.map (·.2.2)) vals ∧ vals.length = ts.length ∧ ∀ (j : Nat) x, ts[j]? = some x → ∃ y : Value, vals[j]? = some (x.2.2.1, x.2.1, y) ∧ s.heap.IsTuple x.1 #[Value.ref x.2.1, y]
  | [], _ => ⟨[], .nil, rfl, fun j x e => by simp at e⟩
  | t :: ts, h => by
    obtain ⟨vals, r, hl, hp⟩ := trips_of I (ts := ts) fun x hx => h x (List.mem_cons_of_mem _ hx)
    obtain ⟨h1, h2⟩ := h t (List.mem_cons_self ..)
    obtain ⟨its, rv, ht, _⟩ := I.tuple (SqT.of h1)
    obtain ⟨u, y, ei, ru, ry⟩ := vals2 rv
    subst ei
    cases (show u = Value.ref t.2.1 from ru)
    refine ⟨(t.2.2.1, t.2.1, y) :: vals, .cons ⟨rfl, h2, ry⟩ r, by rw [List.length_cons, List.length_cons, hl], fun j x e => ?_⟩
    cases j with
    | zero =>
      have e' : t = x := Option.some.inj e
      subst e'
      exact ⟨y, rfl, ht⟩
    | succ j => exact hp j x (by simpa using e)
end
def rDictT (K : PySem.W.Frag) : List V → Hp → VK → Prop := fun xs H Q => ∃ (a : Addr) (ts : List Trip), xs = [.ref a] ∧ SqL K H a ((ts.map (·.1)).map V.ref) ∧ (∀ x ∈ ts, TripOk H x) ∧ (ts.map (·.2.2.1)).Nodup ∧
  ∀ p, H p = none → Q (.ref p) (upd H p (.dT (ts.map (·.2.2))))
theorem call_dictT {X : Cx} (hu : X.A.units + 64 < cLine) (hcalm : X.calm = true) : CallR X (.type "dict") (rDictT X.K) := by
  intro pins s σ H xs us Q I r q
  obtain ⟨a, ts, ex, hq, hT, hn, q⟩ := q
  subst ex
  obtain ⟨u, eu, rx⟩ := vals1 r
  subst eu
  cases rx
  obtain ⟨its, rv, pl, hz⟩ := I.list hq
  have ei := refs_at rv
  subst ei
  rw [List.length_map, List.length_map] at hz
  obtain ⟨vals, rel, hl, hv⟩ := trips_of I hT
  obtain ⟨o, n, ho, hc, hd, hdat⟩ := pl
  have hkeys : vals.map (·.1) = ts.map (·.2.2.1) := by
    refine List.ext_getElem? fun j => ?_
    rw [List.getElem?_map, List.getElem?_map]
    cases e : ts[j]? with
    | none =>
      have : vals[j]? = none := List.getElem?_eq_none (by rw [hl]; exact List.getElem?_eq_none_iff.mp e)
      rw [this]
      rfl
    | some x =>
      obtain ⟨y, hy, _⟩ := hv j x e
      rw [hy]
      rfl
  let Ts : Nat → Addr := fun j => match ts[j]? with | some x => x.1 | none => a
  let ps : List (Value × Value) := vals.map fun x => (.ref x.2.1, x.2.2)
  have hps : ps.length = ts.length := by show (vals.map _).length = _; rw [List.length_map, hl]
  have psAt : ∀ j k v, ps[j]? = some (k, v) → ∃ (x : Trip) (y : Value), ts[j]? = some x ∧ vals[j]? = some (x.2.2.1, x.2.1, y) ∧ k = Value.ref x.2.1 ∧ v = y ∧ s.heap.IsTuple x.1 #[Value.ref x.2.1, y] := fun j k v e => by
    have hj : j < ts.length := by rw [← hps]; exact (List.getElem?_eq_some_iff.mp e).1
    obtain ⟨y, hy, ht⟩ := hv j ts[j] (List.getElem?_eq_getElem hj)
    refine ⟨ts[j], y, List.getElem?_eq_getElem hj, hy, ?_⟩
    have e : (vals.map fun x => ((.ref x.2.1 : Value), x.2.2))[j]? = some (k, v) := e
    rw [List.getElem?_map, hy] at e
    have e := Option.some.inj e
    exact ⟨(Prod.mk.inj e).1.symm, (Prod.mk.inj e).2.symm, ht⟩
  refine PySem.call_dict_pairsH (knd := tupleKind (mixKind X.prog X.w)) (ps := vals) (PairArg.list a _ Ts ps) (I.ok.hd hcalm) (show X.A.in1.units + 1 < cLine from ?_) ⟨⟨o, n, ho, hc, hd, hdat⟩, ?_, fun j k v e => ?_⟩ ⟨by rw [hl, hps], fun i key v e => ?_⟩ (fun h' hk x hx => ?_) (by rw [hps]; exact hz) fun h' tk hd' hk => ?_
  · show X.A.units + 1 + 1 < cLine
    omega
  · rw [hps]
    simp
  · obtain ⟨x, y, h1, h2, h3, h4, h5⟩ := psAt j k v e
    subst h3 h4
    have eT : Ts j = x.1 := by show (match ts[j]? with | some x => x.1 | none => a) = _; rw [h1]
    rw [eT]
    refine ⟨?_, .inl h5⟩
    simp [h1]
  · obtain ⟨x, y, h1, h2, h3, h4, h5⟩ := psAt i key v e
    subst h3 h4
    exact ⟨_, _, h2, rfl⟩
  · have key : (tupleKind (mixKind X.prog X.w)).is s.heap x.1 x.2.1 := by
      obtain ⟨j, hj⟩ := List.mem_iff_getElem?.mp hx
      have hjl : j < ts.length := by rw [← hl]; exact (List.getElem?_eq_some_iff.mp hj).1
      obtain ⟨y, hy, _⟩ := hv j ts[j] (List.getElem?_eq_getElem hjl)
      rw [hj] at hy
      cases hy
      exact key_of I.hok (hT ts[j] (List.getElem_mem hjl)).2
    obtain ⟨o2, i2, n2, g1, g2, g3, g4⟩ := key
    exact ⟨o2, i2, n2, hk _ _ (Nat.ne_of_lt (Heap.lt_size g1)) (by simp) g1, g2, g3, g4⟩
  · rw [PySem.storedAllH_nil_of_nodup vals (by rw [hkeys]; exact hn)] at hd'
    have hm : (s.heap.objs.size == sysModules) = false := beq_eq_false_iff_ne.mpr (Nat.ne_of_gt I.big)
    obtain ⟨o3, es, ep, h1, h2, h3, h4, _, h5⟩ := hd'
    refine ⟨.ref s.heap.objs.size, upd H s.heap.objs.size (.dT (ts.map (·.2.2))), I.laid (t' := tk) (fun b o e => hk b o (by simp) e) (Nat.le_refl _) ?_, rfl, q _ (I.hok.fresh (Nat.le_refl _))⟩
    refine ⟨by rw [List.length_map]; exact hz, hm, vals, rel.keeps fun c ys ec => ?_, o3, es, ep, h1, h2, h3, h4, h5⟩
    rw [upd_ne (ne_of_none ec (I.hok.fresh (Nat.le_refl _)))]
    exact ec
end MyR

set_option pp.maxSteps 400
set_option Elab.async false
set_option linter.all false
set_option maxRecDepth 100000
set_option maxHeartbeats 1000000
namespace My
open PySem L2 MyR
def RowsL (H : Hp) (Rw : Addr) (vsl : List (List Nat)) (zs : List Int) (n : Nat) : Prop := ∃ as : List Addr, H Rw = some (.lst (as.map V.ref)) ∧ as.length = n ∧ ∀ i, i < n → ∃ p k, as[i]? = some p ∧ LI H p (bnL (zs.getD i 0) k) ∧ k ≤ 70 ∧ p ≠ Rw ∧ ∀ v ∈ vsl, v.getD i 0 < k
theorem RowsL.same {H H' : Hp} {Rw : Addr} {vsl : List (List Nat)} {n : Nat} {zs : List Int} (h : RowsL H Rw vsl zs n) (s : Same H H') : RowsL H' Rw vsl zs n := let ⟨as, e1, e2, e3⟩ := h; ⟨as, s _ _ e1, e2, fun i hi => let ⟨p, k, q1, q2, q3, q4, q5⟩ := e3 i hi; ⟨p, k, q1, q2.same s, q3, q4, q5⟩⟩
theorem term_bitsB {zs : List Int} {v : List Nat} {x : Int} (hx : x.natAbs < 2 ^ 220) (hz : ∀ i, -(2 ^ 110) < zs.getD i 0 ∧ zs.getD i 0 < 2 ^ 110) (hv : ∀ i, v.getD i 0 ≤ 70) : ∀ i, (x * prB zs v i).natAbs < 2 ^ (220 + 7771 * i)
  | 0 => by
    show (x * 1).natAbs < 2 ^ 220
    rw [Int.mul_one]
    exact hx
  | i + 1 => by
    have ih := term_bitsB hx hz hv i
    show (x * (prB zs v i * bn (zs.getD i 0) (v.getD i 0))).natAbs < _
    rw [← Int.mul_assoc, Int.natAbs_mul, show 220 + 7771 * (i + 1) = 220 + 7771 * i + 7771 by omega, Nat.pow_add]
    exact Nat.mul_lt_mul'' ih (bn_bits' (hz i).1 (hz i).2 (hv i))
def spSumX : Sp := fun vs H Q _ => ∃ (d t : Addr) (m : Nat) (vsl : List (List Nat)) (f : List Nat → Int) (zs : List Int), vs = [.ref d, .ref t] ∧ H d = some (.dT (kvL vsl f)) ∧ TupI H t zs ∧ zs.length = m ∧ (m = 1 ∨ m = 2) ∧ (∀ v ∈ vsl, v.length = m ∧ ∀ i, v.getD i 0 < 66) ∧ vsl.length < 5000 ∧ (∀ v ∈ vsl, (f v).natAbs < 2 ^ 220) ∧ (∀ i, -(2 ^ 110) < zs.getD i 0 ∧ zs.getD i 0 < 2 ^ 110) ∧
  ∀ H', Same H H' → Q (.int (smF f zs m vsl)) H'
section
variable {P : Program} {w : World} {K : PySem.W.Frag} {mg : Str → Option Value} {base : Heap}
theorem ok_law_sumX {f : Addr} {fd : FuncData} (F : Fun K "_law_sum" "_law_sum" s_law_sum f fd) (T : Glob mg) (D_law_row : Df P w K mg base 1 "_law_row" ["_law_top", "_law_many"] spBin) : FnOk P w K mg base CX0 2 f fd ["_law_factors", "_law_variables"] spSumX := by
  refine F.ok sc_law_sum (fun vs H Q E h => ?_) (fun cdv A outer s H vs Q E hr h => ?_)
  · obtain ⟨d, t, m, vsl, f, zs, rfl, _⟩ := h
    rfl
  · obtain ⟨d, t, m, vsl, f, zs, rfl, hd, ht, hzl, hm, hvs, hv, hf, hz, kq⟩ := h
    have hu := hu_of hr
    have nd := sc_law_sum.nd
    refine ⟨_, (pss_cons (ps_par (i := 2) (j := 3) rfl nd rfl rfl (by decide) rfl rfl (pa_cons (pe_lst pa_nil) (pa_cons pe_int pa_nil)) (by rfl))
    (pss_cons (ps_for PassesOwn.never rfl (pi_enumT (by rfl) T.g_enumerate (pa_cons (pv 1) pa_nil)) (pg_tup (by rfl) (pgs_cons (pg_name (i := 4) nd rfl (Or.inr rfl)) (pgs_cons (pg_name (i := 5) nd rfl (Or.inl rfl)) pgs_nil)))
    (pss_one (ps_expr (pe_bm PySem.F.plainAttrs_list PySem.F.slot_list_append PySem.F.type_list_append mt_append (pv 2) (pa_cons (pe_call D_law_row.ok (hr.mono (by decide)) (by rfl) D_law_row.g D_law_row.kp D_law_row.b .nil pass0 (pa_cons (pv 5) (pa_cons (pe_op op_add pe_int (pe_callB (cr_max rfl) (by rfl) T.g_max (by decide +kernel) (pa_cons (pe_op op_cat (pe_lst (pa_cons pe_int pa_nil)) (pe_lock (pe_lc (own := [("_law_place", 6)]) (g := gName 6) (tt := tYes) rfl nd (pi_keys (pv 0)) (blkOk_by (N := N_law_sum) (sc := defScope s_law_sum) (by decide +kernel)) (fun _ _ _ _ _ => pg_name (i := 6) nd rfl (Or.inl rfl)) (fun _ _ _ _ _ => pts_nil) (fun _ _ _ _ _ => (pe_ix (ix_tupN (K := K) rfl) (pv 6) (pv 4) (fun _ _ => rfl)))))) pa_nil))) pa_nil))) pa_nil)))))
    (pss_cons (ps_lock (ps_for PassesOwn.never rfl (pi_keys (pv 0)) (pg_name (i := 6) nd rfl (Or.inl rfl))
    (pss_cons (ps_set (i := 7) nd rfl (Or.inl rfl) (pe_dget hu (pv 0) (pv 6) (fun _ _ => rfl)))
    (pss_cons (ps_for PassesOwn.never rfl (pi_zipK (by rfl) T.g_zip (pa_cons (pv 2) (pa_cons (pv 6) pa_nil))) (pg_tup (by rfl) (pgs_cons (pg_name (i := 8) nd rfl (Or.inl rfl)) (pgs_cons (pg_name (i := 9) nd rfl (Or.inl rfl)) pgs_nil)))
    (pss_one (ps_set (i := 7) nd rfl (Or.inl rfl) (pe_op op_mulX (pv 7) (pe_ix ix_list (pv 8) (pv 9) (fun _ _ => rfl))))))
    (pss_one (ps_set (i := 3) nd rfl (Or.inl rfl) (pe_op op_add (pv 3) (pv 7))))))))
    (pss_one (ps_ret (pv 3)))))), ?_⟩
    have zl : 16777216 = sizeLine := sizeLine_eq.symm
    have hkl : (kvL (vsl) f).length = (vsl).length := by unfold kvL; rw [List.length_map]
    have hent : ∀ v ∈ vsl, ∀ i, v.getD i 0 < 66 := fun v hv i => (hvs v hv).2 i
    have hkat : ∀ {i : Nat} {k : List Key} {x : V}, (kvL (vsl) f)[i]? = some (k, x) → ∃ u, (vsl)[i]? = some u ∧ k = kyOf u ∧ x = .int (f u) := fun {i k x} e => by
      unfold kvL at e
      rw [List.getElem?_map] at e
      obtain ⟨u, h1, h2⟩ := Option.map_eq_some_iff.mp e
      exact ⟨u, h1, (Prod.mk.inj h2).1.symm, (Prod.mk.inj h2).2.symm⟩
    refine seq_by (fun σ H1 => ∃ Rw : Addr, σ = [some (.ref d), some (.ref t), some (.ref Rw), some (.int 0), none, none, none, none, none, none] ∧ Same H H1 ∧ RowsL H1 Rw vsl zs 0 ∧ H Rw = none) (fun D' hD' => ?_) ?_
    · exact ⟨(by show 0 ≤ sizeLine; omega), fun Rw hR => ⟨_, _, rfl, hD' _ _ ⟨Rw, rfl, new_same hR, ⟨[], upd_same, rfl, fun i hi => absurd hi (Nat.not_lt_zero _)⟩, hR⟩⟩⟩
    rintro σ H1 ⟨Rw, rfl, s1, hr1, hRn⟩
    refine seq_by (fun σ H2 => ∃ a4 a5 : Option V, σ = [some (.ref d), some (.ref t), some (.ref Rw), some (.int 0), a4, a5, none, none, none, none] ∧ Same H H2 ∧ RowsL H2 Rw vsl zs m) (fun D' hD' => ?_) ?_
    · refine ⟨_, rfl, t, _, rfl, SqT.of (ht.same s1), ?_⟩
      refine for_it walk_enumT (fun i σ H2 => ∃ a4 a5 : Option V, σ = [some (.ref d), some (.ref t), some (.ref Rw), some (.int 0), a4, a5, none, none, none, none] ∧ Same H H2 ∧ RowsL H2 Rw vsl zs i)
        ⟨none, none, rfl, s1, hr1⟩ (fun i σ H2 _ h => by obtain ⟨_, _, _, h, _⟩ := h; exact SqT.of (ht.same h)) ?_ ?_
      · rintro i x σ H2 H3 hi ⟨a4, a5, rfl, s2, hr2⟩ ⟨T', x1, x2, rfl, hT, rfl, hx1, hx2⟩
        rw [List.length_map, hzl] at hi
        obtain rfl := Option.some.inj hx1
        have hzi : zs[i]? = some (zs.getD i 0) := by rw [List.getD_eq_getElem?_getD, List.getElem?_eq_getElem (show i < zs.length by omega)]; rfl
        have hx2 : (zs.map V.int)[i]? = some x2 := hx2
        rw [map_at_int hzi] at hx2
        obtain rfl := Option.some.inj hx2
        have s3' := new_same (o := .tup [V.int (i : Nat), .int (zs.getD i 0)]) hT
        have s3 := s2.trans s3'
        have hr3 := hr2.same s3'
        refine ⟨T', _, rfl, SqT.of upd_same, rfl, _, _, rfl, _, _, rfl, rfl, ?_⟩
        generalize upd H2 T' (.tup [V.int (i : Nat), .int (zs.getD i 0)]) = H3 at s3 hr3 ⊢
        obtain ⟨as, r1, r2, r3⟩ := id hr3
        refine ⟨_, rfl, .inl ⟨rfl, _, SqL.of r1⟩, _, rfl, (by show 1 ≤ sizeLine; omega), fun Z hZ => ?_⟩
        have sz := new_same (o := .lst [V.int 0]) hZ
        have hdZ : upd H3 Z (.lst [V.int 0]) d = some (.dT (kvL (vsl) f)) := (s3.trans sz) _ _ hd
        have hZZ : upd H3 Z (.lst [V.int 0]) Z = some (.lst [V.int 0]) := upd_same
        generalize upd H3 Z (.lst [V.int 0]) = H4 at sz hdZ hZZ ⊢
        refine ⟨d, _, hdZ, trivial, fun od => ⟨_, rfl, d, od, rfl, .inr ⟨_, upd_same, fun D hD => ?_⟩⟩⟩
        refine lc_it walk_keysT (fun j H5 => Same (upd H4 d (.frz od (.dT (kvL (vsl) f)))) H5 ∧ LI H5 D (((vsl).take j).map fun v => ((v.getD i 0 : Nat) : Int))) ⟨new_same hD, upd_same⟩ (fun j H5 _ h => h.1 _ _ upd_same) ?_ ?_
        · rintro j x H5 H6 hj ⟨s5, h5⟩ ⟨rfl, k, v, q, hk, rfl, hq⟩
          obtain ⟨u, hu1, rfl, rfl⟩ := hkat hk
          rw [kyOf_kV] at hq
          have hum := List.mem_of_getElem? hu1
          have hul := (hvs u hum).1
          refine ⟨rfl, ?_⟩
          dsimp only [tYes]
          rw [if_pos rfl]
          have hui : (dI u)[i]? = some ((u.getD i 0 : Nat) : Int) := by
            unfold dI
            rw [List.getElem?_map, List.getD_eq_getElem?_getD, List.getElem?_eq_getElem (show i < u.length by omega)]
            rfl
          refine ⟨_, rfl, _, rfl, q, _, _, _, rfl, rfl, SqT.of hq, atI_nat (map_at_int hui), ?_⟩
          refine ⟨_, h5, by rw [List.length_map, List.length_map, List.length_take]; omega, same_up s5 hD, ?_⟩
          rw [List.take_succ, hu1, List.map_append]
          exact li_snoc
        · rintro H5 ⟨s5, h5⟩
          rw [hkl, List.take_length] at h5
          have hd5 : H5 d = some (.frz od (.dT (kvL (vsl) f))) := s5 _ _ upd_same
          have nDd : D ≠ d := fun z => by
            rw [z, upd_same] at hD
            cases hD
          have s45 := unlock_same hdZ s5
          have h6 : LI (upd H5 d (.dT (kvL (vsl) f))) D ((vsl).map fun v => ((v.getD i 0 : Nat) : Int)) := by
            show upd _ _ _ _ = _
            rw [upd_ne nDd]
            exact h5
          generalize upd H5 d (.dT (kvL (vsl) f)) = H6 at s45 h6 ⊢
          refine ⟨hd5, Z, D, [V.int 0], _, rfl, rfl, s45 _ _ hZZ, h6, ?_, fun C hC => ?_⟩
          · rw [List.length_map, List.length_map]
            show 1 + _ ≤ sizeLine
            omega
          have sC := new_same (o := .lst ([V.int 0] ++ ((vsl).map fun v => ((v.getD i 0 : Nat) : Int)).map V.int)) hC
          have s36 := (sz.trans s45).trans sC
          refine ⟨C, 0 :: ((vsl).map fun v => ((v.getD i 0 : Nat) : Int)), rfl, SqL.of upd_same, Nat.zero_lt_succ _, fun mx hmx hall => ?_⟩
          have hmx' : 0 ≤ mx ∧ mx < 66 := by
            rcases List.mem_cons.mp hmx with rfl | e
            · omega
            · obtain ⟨v, hv1, rfl⟩ := List.mem_map.mp e
              have := hent v hv1 i
              omega
          obtain ⟨M, rfl⟩ : ∃ M : Nat, mx = (M : Int) := ⟨mx.toNat, by omega⟩
          refine ⟨_, _, rfl, rfl, zs.getD i 0, 1 + M, by rfl, by omega, by omega, (hz i).1, (hz i).2, fun p H8 hp s8 hl8 => ?_⟩
          have s38 := s36.trans s8
          have r8 := hr3.same s38
          obtain ⟨as', q1, q2, q3⟩ := r8
          have npR : p ≠ Rw := fun z => by
            have := s36 _ _ r1
            rw [← z, hp] at this
            cases this
          refine ⟨Rw, _, _, rfl, rfl, q1, by rw [List.length_map, q2]; omega, ?_⟩
          refine ⟨_, _, rfl, same_up (s3.trans s38) hRn, as' ++ [p], by rw [upd_same, List.map_append]; rfl, by rw [List.length_append, q2]; rfl, fun j hj => ?_⟩
          by_cases e : j < i
          · obtain ⟨p', k, w1, w2, w3, w4, w5⟩ := q3 j e
            exact ⟨p', k, by rw [List.getElem?_append_left (by omega)]; exact w1, w2.updN w4, w3, w4, w5⟩
          · have : j = i := by omega
            subst this
            refine ⟨p, 1 + M, by rw [List.getElem?_append_right (by omega), q2, Nat.sub_self]; rfl, hl8.updN npR, by omega, npR, fun v hv1 => ?_⟩
            have := hall _ (List.mem_cons_of_mem _ (List.mem_map.mpr ⟨v, hv1, rfl⟩))
            omega
      · rintro σ H2 ⟨a4, a5, rfl, s2, hr2⟩
        rw [List.length_map, hzl] at hr2
        exact hD' _ _ ⟨a4, a5, rfl, s2, hr2⟩
    clear s1 hr1
    rintro σ H2 ⟨a4, a5, rfl, s2, hr2⟩
    have hd2 := s2 _ _ hd
    refine seq_by (fun σ H3 => ∃ a6 a7 a8 a9 : Option V, σ = [some (.ref d), some (.ref t), some (.ref Rw), some (.int (smF f zs m (vsl))), a4, a5, a6, a7, a8, a9] ∧ Same H H3) (fun D' hD' => ?_) ?_
    · refine ⟨d, _, hd2, trivial, fun od => ⟨_, rfl, d, od, rfl, .inr ⟨_, upd_same, ?_⟩⟩⟩
      have nRd : Rw ≠ d := fun z => by
        rw [z, hd] at hRn
        cases hRn
      have hrF : RowsL (upd H2 d (.frz od (.dT (kvL (vsl) f)))) Rw vsl zs m := by
        obtain ⟨as, e1, e2, e3⟩ := hr2
        refine ⟨as, lock_ne nRd e1, e2, fun i hi => ?_⟩
        obtain ⟨p, k, w1, w2, w3, w4, w5⟩ := e3 i hi
        exact ⟨p, k, w1, w2.updN (ne_of w2 hd2 (by intro z; cases z)), w3, w4, w5⟩
      refine for_it walk_keysT (fun j σ H5 => ∃ a6 a7 a8 a9 : Option V, σ = [some (.ref d), some (.ref t), some (.ref Rw), some (.int (smF f zs m ((vsl).take j))), a4, a5, a6, a7, a8, a9] ∧ Same (upd H2 d (.frz od (.dT (kvL (vsl) f)))) H5)
        ⟨none, none, none, none, rfl, fun _ _ e => e⟩ (fun j σ H5 _ h => by obtain ⟨_, _, _, _, _, h⟩ := h; exact h _ _ upd_same) ?_ ?_
      · rintro j x σ H5 H5' hj ⟨a6, a7, a8, a9, rfl, s5⟩ ⟨hHH, k, v, q, hk, rfl, hq⟩
        rw [hHH]
        clear hHH H5'
        obtain ⟨u, hu1, rfl, rfl⟩ := hkat hk
        have hum := List.mem_of_getElem? hu1
        have hul := (hvs u hum).1
        have hd5 : H5 d = some (.frz od (.dT (kvL (vsl) f))) := s5 _ _ upd_same
        have hrow := hrF.same s5
        obtain ⟨as, e1, e2, e3⟩ := id hrow
        refine seq_by (fun σ H6 => H6 = H5 ∧ σ = [some (.ref d), some (.ref t), some (.ref Rw), some (.int (smF f zs m ((vsl).take j))), a4, a5, some (.ref q), some (.int (f u)), a8, a9]) (fun D'' hD'' => ?_) ?_
        · exact ⟨_, rfl, _, rfl, d, _, rfl, .inr ⟨_, kyOf u, q, .inr ⟨od, hd5⟩, rfl, hq, (kv_at hum).symm⟩, hD'' _ _ ⟨rfl, rfl⟩⟩
        rintro σ H6 ⟨rfl, rfl⟩
        rw [kyOf_kV] at hq
        have hdu : ((dI u).map V.int).length = m := by rw [List.length_map]; unfold dI; rw [List.length_map, hul]
        have hasl : (as.map V.ref).length = m := by rw [List.length_map, e2]
        have hfb : (f u).natAbs < 2 ^ 220 := hf u hum
        have hu70 : ∀ i, u.getD i 0 ≤ 70 := fun i => by have := hent u hum i; omega
        refine seq_by (fun σ H7 => ∃ a8 a9 : Option V, σ = [some (.ref d), some (.ref t), some (.ref Rw), some (.int (smF f zs m ((vsl).take j))), a4, a5, some (.ref q), some (.int (f u * prB zs u m)), a8, a9] ∧ Same H6 H7) (fun D'' hD'' => ?_) ?_
        · refine ⟨_, rfl, _, rfl, false, true, Rw, q, _, _, rfl, sqK_l (SqL.of e1), sqK_t (SqT.of hq), ?_⟩
          refine for_it (walk_zipK (xs := as.map V.ref) (ys := (dI u).map V.int) (by rw [hasl, hdu])) (fun i σ H7 => ∃ a8 a9 : Option V, σ = [some (.ref d), some (.ref t), some (.ref Rw), some (.int (smF f zs m ((vsl).take j))), a4, a5, some (.ref q), some (.int (f u * prB zs u i)), a8, a9] ∧ Same H6 H7)
            ⟨a8, a9, by rw [show prB zs u 0 = 1 from rfl, Int.mul_one], fun _ _ e => e⟩ (fun i σ H7 _ h => by obtain ⟨_, _, _, h⟩ := h; exact ⟨sqK_l (SqL.of (h _ _ e1)), sqK_t (SqT.of (h _ _ hq))⟩) ?_ ?_
          · rintro i x σ H7 H8 hi ⟨b8, b9, rfl, s7⟩ ⟨T', x1, x2, rfl, hT, rfl, hx1, hx2⟩
            rw [hasl] at hi
            have hx1 : (as.map V.ref)[i]? = some x1 := hx1
            have hx2 : ((dI u).map V.int)[i]? = some x2 := hx2
            obtain ⟨p, k, w1, w2, w3, w4, w5⟩ := e3 i hi
            rw [List.getElem?_map, w1] at hx1
            obtain rfl := Option.some.inj hx1
            have hui : (dI u)[i]? = some ((u.getD i 0 : Nat) : Int) := by
              unfold dI
              rw [List.getElem?_map, List.getD_eq_getElem?_getD, List.getElem?_eq_getElem (show i < u.length by omega)]
              rfl
            rw [map_at_int hui] at hx2
            obtain rfl := Option.some.inj hx2
            have s8 := s7.trans (new_same (o := .tup [V.ref p, .int ((u.getD i 0 : Nat) : Int)]) hT)
            refine ⟨T', _, rfl, SqT.of upd_same, rfl, _, _, rfl, _, _, rfl, rfl, ?_⟩
            generalize upd H7 T' (.tup [V.ref p, .int ((u.getD i 0 : Nat) : Int)]) = H8 at s8 ⊢
            have hbn : (bnL (zs.getD i 0) k)[u.getD i 0]? = some (bn (zs.getD i 0) (u.getD i 0)) := at_range (w5 u hum)
            refine ⟨_, rfl, _, rfl, _, rfl, p, _, _, _, rfl, rfl, SqL.of (w2.same s8), atI_nat (map_at_int hbn), _, _, rfl, rfl, mulx_ok (term_bitsB hfb hz hu70 i) (bn_bits' (hz i).1 (hz i).2 (hu70 i)) (by omega), some (.ref p), some (.int ((u.getD i 0 : Nat) : Int)), ?_, s8⟩
            have e : f u * prB zs u (i + 1) = f u * prB zs u i * bn (zs.getD i 0) (u.getD i 0) := by
              show f u * (prB zs u i * bn (zs.getD i 0) (u.getD i 0)) = _
              rw [Int.mul_assoc]
            rw [e]
            rfl
          · rintro σ H7 ⟨b8, b9, rfl, s7⟩
            rw [hasl]
            exact hD'' _ _ ⟨b8, b9, rfl, s7⟩
        rintro σ H7 ⟨b8, b9, rfl, s7⟩
        refine ⟨_, rfl, _, rfl, _, _, rfl, rfl, some (.ref q), some (.int (f u * prB zs u m)), b8, b9, ?_, s5.trans s7⟩
        have e : smF f zs m ((vsl).take (j + 1)) = smF f zs m ((vsl).take j) + f u * prB zs u m := by
          rw [List.take_succ, hu1]
          exact smF_app
        rw [e]
        rfl
      · rintro σ H5 ⟨a6, a7, a8, a9, rfl, s5⟩
        rw [hkl, List.take_length]
        exact ⟨s5 _ _ upd_same, hD' _ _ ⟨a6, a7, a8, a9, rfl, s2.trans (unlock_same hd2 s5)⟩⟩
    rintro σ H3 ⟨a6, a7, a8, a9, rfl, s3⟩
    exact ⟨_, rfl, kq H3 s3⟩
end
end My

set_option pp.maxSteps 400
set_option Elab.async false
set_option linter.all false
set_option maxRecDepth 100000
set_option maxHeartbeats 1000000
namespace My
open PySem L2 MyR
def spAtX : Sp := fun vs H Q _ => ∃ (L lt pt : Addr) (ds : List Nat) (xs : List Int) (b : Nat) (fs : Nat → List Nat → Int), vs = [.ref L, .ref lt, .ref pt, .int (b : Int)] ∧ MadeAt H L ds.length b fs (2 ^ ds.sum) ∧ (∀ g, FX 220 (fs g)) ∧ TupI H lt (dI ds) ∧ TupI H pt xs ∧ xs.length = ds.length ∧ (ds.length = 1 ∨ ds.length = 2) ∧ ds.sum ≤ 8 ∧ 1 ≤ b ∧ b ≤ 64 ∧ (vecs ds.length b).length < 5000 ∧
  (∀ i, -(2 ^ 110) < xs.getD i 0 ∧ xs.getD i 0 < 2 ^ 110) ∧ ∀ H', Same H H' → Q (.int (valT b (fun g => csOf ds.length (fs g)) ds xs)) H'
def spEntriesX : Sp := fun vs H Q _ => ∃ (L lt : Addr) (ds : List Nat) (b : Nat) (fs : Nat → List Nat → Int), vs = [.ref L, .ref lt, .int (b : Int)] ∧ MadeAt H L ds.length b fs (2 ^ ds.sum) ∧ (∀ g, FX 220 (fs g)) ∧ TupI H lt (dI ds) ∧ (ds.length = 1 ∨ ds.length = 2) ∧ ds.sum ≤ 8 ∧ 1 ≤ b ∧ b ≤ 64 ∧ (vecs ds.length b).length < 5000 ∧
  ∀ (E : Addr) H', H E = none → Same H H' → LI H' E (allE ds.length b (fun g => csOf ds.length (fs g)) (2 ^ ds.sum)) → Q (.ref E) H'
theorem vec66 {m b : Nat} (hb : b ≤ 64) {v : List Nat} (hv : v ∈ vecs m b) (i : Nat) : v.getD i 0 < 66 := by
  by_cases hi : i < v.length
  · rw [List.getD_eq_getElem?_getD, List.getElem?_eq_getElem hi]
    exact vecs_ent hb m b v (Nat.le_refl _) hv _ (List.getElem_mem hi)
  · rw [List.getD_eq_getElem?_getD, List.getElem?_eq_none (by omega)]
    show 0 < 66
    omega
def spEntAt : Sp := fun vs H Q _ => ∃ (L lt lo : Addr) (ds es : List Nat) (b : Nat) (fs : Nat → List Nat → Int), vs = [.ref L, .ref lt, .ref lo, .int (b : Int)] ∧ MadeAt H L ds.length b fs (2 ^ ds.sum) ∧ (∀ g, FX 220 (fs g)) ∧ TupI H lt (dI ds) ∧ TupI H lo (dI es) ∧ AskOk ds b ∧ AskOk es b ∧ es.length = ds.length ∧
  ∀ (E : Addr) H', H E = none → Same H H' → LI H' E ((spotsL es b).map (valT b (fun g => csOf ds.length (fs g)) ds)) → Q (.ref E) H'
section
variable {P : Program} {w : World} {K : PySem.W.Frag} {mg : Str → Option Value} {base : Heap}
theorem ok_law_atX {f : Addr} {fd : FuncData} (F : Fun K "_law_at" "_law_at" s_law_at f fd) (D_law_class : Df P w K mg base 1 "_law_class" ["_law_spot", "_law_depths"] spClass) (D_law_sum : Df P w K mg base 2 "_law_sum" ["_law_factors", "_law_variables"] spSumX) :
    FnOk P w K mg base CX0 3 f fd ["_law_made_here", "_law_depths", "_law_spot", "_law_wide"] spAtX := by
  refine F.ok sc_law_at (fun vs H Q E h => ?_) (fun cdv A outer s H vs Q E hr h => ?_)
  · obtain ⟨L, lt, pt, ds, xs, b, fs, rfl, _⟩ := h
    rfl
  · obtain ⟨L, lt, pt, ds, xs, b, fs, rfl, mk, hfs, hl, hp, hxl, hm, hs8, hb1, hb, hv, hx, kq⟩ := h
    have nd := sc_law_at.nd
    refine ⟨_, (pss_cons (ps_asg (pe_call D_law_class.ok (hr.mono (by decide)) (by rfl) D_law_class.g D_law_class.kp D_law_class.b .nil pass0 (pa_cons (pv 2) (pa_cons (pv 1) pa_nil))) (pg_tup (by rfl) (pgs_cons (pg_name (i := 4) nd rfl (Or.inl rfl)) (pgs_cons (pg_name (i := 5) nd rfl (Or.inl rfl)) pgs_nil))))
    (pss_one (ps_ret (pe_op op_mod (pe_call D_law_sum.ok (hr.mono (by decide)) (by rfl) D_law_sum.g D_law_sum.kp D_law_sum.b .nil pass0 (pa_cons (pe_ix ix_list (pv 0) (pv 4) (fun _ _ => rfl)) (pa_cons (pv 5) pa_nil))) (pe_op op_shl pe_int (pv 3)))))), ?_⟩
    refine seq_by (fun σ H1 => ∃ t2 : Addr, σ = [some (.ref L), some (.ref lt), some (.ref pt), some (.int (b : Int)), some (.int (gA ds xs ds.length)), some (.ref t2)] ∧ Same H H1 ∧ TupI H1 t2 ((List.range ds.length).map (vrI ds xs))) (fun D' hD' => ?_) ?_
    · refine ⟨_, rfl, _, rfl, pt, lt, ds, xs, rfl, hp, hl, hxl, hm, hs8, fun T t2 H1 s1 hT ht => ?_⟩
      exact ⟨T, _, rfl, SqT.of hT, rfl, _, _, rfl, _, _, rfl, rfl, hD' _ _ ⟨t2, rfl, s1, ht⟩⟩
    rintro σ H1 ⟨t2, rfl, s1, ht⟩
    obtain ⟨g1, g2⟩ := gA_lt ds xs ds.length
    rw [(sA_le hm hs8 0 (Nat.zero_le _)).2] at g2
    obtain ⟨g, hg⟩ : ∃ g : Nat, gA ds xs ds.length = (g : Int) := ⟨(gA ds xs ds.length).toNat, by omega⟩
    have hgl : g < 2 ^ ds.sum := by
      rw [hg, ← pow_cast] at g2
      omega
    obtain ⟨as, e1, e2, e3⟩ := mk.same s1
    obtain ⟨p, q1, q2⟩ := e3 g hgl
    have hpp : (as.map V.ref)[g]? = some (.ref p) := by rw [List.getElem?_map, q1]; rfl
    rw [hg]
    refine ⟨_, rfl, _, rfl, L, _, _, _, rfl, rfl, SqL.of e1, atI_nat hpp, _, rfl, p, t2, ds.length, vecs ds.length b, fs g, _, rfl, q2, ht, by rw [List.length_map, List.length_range], hm, fun v hv' => ⟨vecs_mem _ _ v hv', vec66 hb hv'⟩, hv, fun v _ => (hfs g).b v, fun i => ?_, fun H2 s2 => ?_⟩
    · by_cases hi : i < ds.length
      · rw [List.getD_eq_getElem?_getD, at_range hi]
        exact dv_bounds _ (hx i).1 (hx i).2
      · rw [List.getD_eq_getElem?_getD, List.getElem?_eq_none (by rw [List.length_map, List.length_range]; omega)]
        exact ⟨by decide, by decide⟩
    · have hp2 := p2_pos b
      refine ⟨_, rfl, _, _, rfl, rfl, ⟨by omega, by omega, by decide⟩, _, _, rfl, rfl, ?_, ?_⟩
      · rw [Int.toNat_natCast, Int.one_mul]
        exact hp2
      · rw [Int.toNat_natCast, Int.one_mul]
        have e := sum_val (b := b) fs hm hxl
        rw [hg, Int.toNat_natCast] at e
        show Q (.int (smF (fs g) ((List.range ds.length).map (vrI ds xs)) ds.length (vecs ds.length b) % 2 ^ b)) H2
        rw [e]
        exact kq H2 (s1.trans s2)
theorem ok_law_entriesX {f : Addr} {fd : FuncData} (F : Fun K "_law_entries" "_law_entries" s_law_entries f fd) (D_law_spots : Df P w K mg base 5 "_law_spots" ["_law_depths", "_law_wide"] spSpots) (D_law_at : Df P w K mg base 3 "_law_at" ["_law_made_here", "_law_depths", "_law_spot", "_law_wide"] spAtX) :
    FnOk P w K mg base CX0 6 f fd ["_law_made_here", "_law_depths", "_law_wide"] spEntriesX := by
  refine F.ok sc_law_entries (fun vs H Q E h => ?_) (fun cdv A outer s H vs Q E hr h => ?_)
  · obtain ⟨L, lt, ds, b, fs, rfl, _⟩ := h
    rfl
  · obtain ⟨L, lt, ds, b, fs, rfl, mk, hfs, hl, hm, hs8, hb1, hb, hv, kq⟩ := h
    have nd := sc_law_entries.nd
    refine ⟨_, (pss_one (ps_ret (pe_lc (own := [("_law_spot", 3)]) (g := gName 3) (tt := tYes) rfl nd (pi_list (pe_call D_law_spots.ok (hr.mono (by decide)) (by rfl) D_law_spots.g D_law_spots.kp D_law_spots.b .nil pass0 (pa_cons (pv 1) (pa_cons (pv 2) pa_nil)))) (blkOk_by (N := N_law_entries) (sc := defScope s_law_entries) (by decide +kernel)) (fun _ _ _ _ _ => pg_name (i := 3) nd rfl (Or.inl rfl)) (fun _ _ _ _ _ => pts_nil) (fun _ _ _ _ _ => (pe_call D_law_at.ok (hr.mono (by decide)) (by rfl) D_law_at.g D_law_at.kp D_law_at.b .nil pass0 (pa_cons (pv 0) (pa_cons (pv 1) (pa_cons (pv 3) (pa_cons (pv 2) pa_nil))))))))), ?_⟩
    have zl : 16777216 = sizeLine := sizeLine_eq.symm
    refine ⟨_, rfl, _, rfl, lt, ds, b, rfl, hl, hm, hs8, hb1, hb, hv, fun S H1 hS s1 hl1 => ?_⟩
    obtain ⟨us, hus⟩ : ∃ us, LTV H1 S us (spotsL ds b) := hl1.lenV
    have hN : (2 : Nat) ^ ds.sum ≤ 256 := Nat.pow_le_pow_right (n := 2) (by decide) hs8
    have hsl : (spotsL ds b).length ≤ 256 * 5000 := by
      have e := congrArg List.length (entries_all (b := b) (ds := ds) (fun g => csOf ds.length (fs g)) hm)
      rw [List.length_map, allE_len hm] at e
      rw [e]
      exact Nat.mul_le_mul hN (Nat.le_of_lt hv)
    refine ⟨S, rfl, ⟨_, SqL.of hus.1⟩, fun D hD => ?_⟩
    refine lc_list (xs := us) (fun i H2 => Same H1 H2 ∧ LI H2 D (((spotsL ds b).take i).map (valT b (fun g => csOf ds.length (fs g)) ds))) ⟨new_same hD, upd_same⟩ (fun i H2 _ h => SqL.of (hus.same h.1).1) ?_ ?_
    · rintro i x H2 hx ⟨s2, h2⟩
      obtain ⟨p, xs, hi, hxi, rfl, hp⟩ := (hus.same s2).at hx
      obtain ⟨b1, b2⟩ := spot_bounds hm hs8 hb (List.mem_of_getElem? hxi)
      refine ⟨rfl, ?_⟩
      dsimp only [tYes]
      rw [if_pos rfl]
      have s12 := s1.trans s2
      refine ⟨_, rfl, _, rfl, _, rfl, _, rfl, L, lt, p, ds, xs, b, fs, rfl, mk.same s12, hfs, hl.same s12, hp, b1, hm, hs8, hb1, hb, hv, b2, fun H3 s3 => ?_⟩
      refine ⟨_, h2.same s3, by rw [List.length_map, List.length_map, List.length_take]; omega, same_up (s2.trans s3) hD, ?_⟩
      rw [List.take_succ, hxi, List.map_append]
      exact li_snoc
    · rintro H2 ⟨s2, h2⟩
      rw [hus.2.1, List.take_length, entries_all _ hm] at h2
      exact kq D H2 (same_free s1 hD) (s1.trans s2) h2
abbrev s_law_entries_at : Stmt := top 47
abbrev N_law_entries_at : List Str := ["_law_made_here", "_law_depths", "_law_other", "_law_wide", "_law_found", "_law_spot"]
theorem sc_law_entries_at : FnScope N_law_entries_at ["_law_made_here", "_law_depths", "_law_other", "_law_wide"] (defScope s_law_entries_at) := ⟨rfl, rfl, rfl, by decide +kernel, rfl, by decide +kernel, by decide +kernel⟩
theorem ok_law_entries_at {f : Addr} {fd : FuncData} (F : Fun K "_law_entries_at" "_law_entries_at" s_law_entries_at f fd) (D_law_spots : Df P w K mg base 5 "_law_spots" ["_law_depths", "_law_wide"] spSpots) (D_law_at : Df P w K mg base 3 "_law_at" ["_law_made_here", "_law_depths", "_law_spot", "_law_wide"] spAtX) :
    FnOk P w K mg base CX0 6 f fd ["_law_made_here", "_law_depths", "_law_other", "_law_wide"] spEntAt := by
  refine F.ok sc_law_entries_at (fun vs H Q E h => ?_) (fun cdv A outer s H vs Q E hr h => ?_)
  · obtain ⟨L, lt, lo, ds, es, b, fs, rfl, _⟩ := h
    rfl
  · obtain ⟨L, lt, lo, ds, es, b, fs, rfl, mk, hfs, hl, hlo, ok, ask, hel, kq⟩ := h
    have nd := sc_law_entries_at.nd
    refine ⟨_, (pss_cons (ps_set (i := 4) nd rfl (Or.inl rfl) (pe_lst pa_nil))
    (pss_cons (ps_for PassesOwn.never rfl (pi_list (pe_call D_law_spots.ok (hr.mono (by decide)) (by rfl) D_law_spots.g D_law_spots.kp D_law_spots.b .nil pass0 (pa_cons (pv 2) (pa_cons (pv 3) pa_nil)))) (pg_name (i := 5) nd rfl (Or.inl rfl))
    (pss_one (ps_expr (pe_bm PySem.F.plainAttrs_list PySem.F.slot_list_append PySem.F.type_list_append mt_append (pv 4) (pa_cons (pe_call D_law_at.ok (hr.mono (by decide)) (by rfl) D_law_at.g D_law_at.kp D_law_at.b .nil pass0 (pa_cons (pv 0) (pa_cons (pv 1) (pa_cons (pv 5) (pa_cons (pv 3) pa_nil))))) pa_nil)))))
    (pss_one (ps_ret (pv 4))))), ?_⟩
    have zl : 16777216 = sizeLine := sizeLine_eq.symm
    refine seq_by (fun σ H1 => ∃ D : Addr, σ = [some (.ref L), some (.ref lt), some (.ref lo), some (.int (b : Int)), some (.ref D), none] ∧ Same H H1 ∧ LI H1 D [] ∧ H D = none) (fun D' hD' => ?_) ?_
    · exact ⟨(by show 0 ≤ sizeLine; omega), fun D hD => hD' _ _ ⟨D, rfl, new_same hD, upd_same, hD⟩⟩
    rintro σ H1 ⟨D, rfl, s1, h1, hDn⟩
    refine ⟨_, rfl, _, rfl, lo, es, b, rfl, hlo.same s1, ask.m, ask.s, ask.b1, ask.b64, ask.v, fun S H2 hS s2 hl2 => ?_⟩
    obtain ⟨us, hus⟩ : ∃ us, LTV H2 S us (spotsL es b) := hl2.lenV
    have nSD : S ≠ D := fun z => by
      rw [z] at hS
      have h1 : H1 D = some _ := h1
      rw [h1] at hS
      cases hS
    have hlen0 := spots_len (b := b) ask.m
    have hmul : 2 ^ es.sum * (vecs es.length b).length ≤ 256 * 5000 := Nat.mul_le_mul (Nat.pow_le_pow_right (n := 2) (by decide) ask.s) (Nat.le_of_lt ask.v)
    refine ⟨S, rfl, ⟨_, SqL.of hus.1⟩, ?_⟩
    refine for_list (xs := us) (fun i σ H3 => ∃ a5 : Option V, σ = [some (.ref L), some (.ref lt), some (.ref lo), some (.int (b : Int)), some (.ref D), a5] ∧ Same H H3 ∧ LTV H3 S us (spotsL es b) ∧ LI H3 D (((spotsL es b).take i).map (valT b (fun g => csOf ds.length (fs g)) ds)))
      ⟨none, rfl, s1.trans s2, hus, h1.same s2⟩ (fun i σ H3 _ h => by obtain ⟨_, _, _, h, _⟩ := h; exact SqL.of h.1) ?_ ?_
    · rintro i x σ H3 hx ⟨a5, rfl, s3, hus3, h3⟩
      obtain ⟨p, xs, hi, hxi, rfl, hp⟩ := hus3.at hx
      obtain ⟨b1, b2⟩ := spot_bounds ask.m ask.s ask.b64 (List.mem_of_getElem? hxi)
      refine ⟨_, rfl, .inl ⟨rfl, _, SqL.of h3⟩, _, rfl, _, rfl, _, rfl, _, rfl, L, lt, p, ds, xs, b, fs, rfl, mk.same s3, hfs, hl.same s3, hp, by omega, ok.m, ok.s, ok.b1, ok.b64, ok.v, b2, fun H4 s4 => ?_⟩
      refine ⟨D, _, _, rfl, rfl, h3.same s4, by rw [List.length_map, List.length_map, List.length_take]; omega, ?_⟩
      refine ⟨_, rfl, same_up (s3.trans s4) hDn, (hus3.same s4).updL nSD (h3.same s4), ?_⟩
      rw [List.take_succ, hxi, List.map_append]
      exact li_snoc
    · rintro σ H3 ⟨a5, rfl, s3, hus3, h3⟩
      rw [hus.2.1, List.take_length] at h3
      exact ⟨_, rfl, kq D H3 hDn s3 h3⟩
end
end My

set_option pp.maxSteps 400
set_option Elab.async false
set_option linter.all false
set_option maxRecDepth 100000
set_option maxHeartbeats 1000000
namespace My
open PySem L2 MyR
/-- Newton's differences, and 0 where none are -/
def fN (m b N : Nat) (es : List Int) (g : Nat) : List Nat → Int := fun v => if g < N ∧ v ∈ vecs m b then fE m b es g v else 0
theorem GE_bits {m b g B : Nat} {es : List Int} (h : ∀ x ∈ es, x.natAbs < 2 ^ B) (v : List Nat) : (GE m b es g v).natAbs < 2 ^ B := by
  unfold GE
  generalize g * (vecs m b).length + ixL (vecs m b) v = i
  rw [List.getD_eq_getElem?_getD]
  cases e : es[i]? with
  | none => show (0 : Int).natAbs < 2 ^ B; exact Nat.pow_pos (by decide)
  | some x => exact h x (List.mem_of_getElem? e)
theorem fN_fx {ds : List Nat} {b : Nat} (ask : AskOk ds b) {f : List Int → Int} (h : LocP ds b f) (h0 : ∀ x, x ∈ spotsL ds b → 0 ≤ f x ∧ f x < 2 ^ b) (g : Nat) : FX 196 (fN ds.length b (2 ^ ds.sum) ((spotsL ds b).map f) g) := by
  have pb : (2 : Int) ^ b ≤ 2 ^ 64 := Int.le_of_dvd (by decide) (p2_dvd ask.b64)
  have q1 : (2 : Int) ^ 64 = 18446744073709551616 := by decide
  have q2 : (2 : Nat) ^ 64 = 18446744073709551616 := by decide
  constructor
  · intro v
    unfold fN
    split
    · rename_i e
      exact newton_fx ask h h0 g e.1 v e.2
    · exact Int.dvd_zero _
  · intro v
    unfold fN
    split
    · rename_i e
      refine Nat.lt_of_lt_of_le (coF_bits (B := 64) (GE_bits fun x hx => ?_) (vec66 ask.b64 e.2)) (Nat.pow_le_pow_right (by decide) (by decide))
      obtain ⟨p, hp, rfl⟩ := List.mem_map.mp hx
      have := h0 p hp
      omega
    · show (0 : Int).natAbs < 2 ^ 196
      decide
theorem SameP.of' {p : Addr} {H H' : Hp} (s : Same H H') : SameP p H H' := fun a o e _ => s a o e
theorem MadeAt.sp {H H' : Hp} {F L : Addr} {m b n : Nat} {fs : Nat → List Nat → Int} {xs : List V} (h : MadeAt H F m b fs n) (s : SameP L H H') (nF : F ≠ L) (hL : H L = some (.lst xs)) : MadeAt H' F m b fs n :=
  let ⟨as, e1, e2, e3⟩ := h
  ⟨as, s _ _ e1 nF, e2, fun g hg => let ⟨p, q1, q2⟩ := e3 g hg; ⟨p, q1, s _ _ q2 (ne_of q2 hL (by intro z; cases z))⟩⟩
theorem LTV.sp {H H' : Hp} {R L : Addr} {us : List V} {xss : List (List Int)} {xs : List V} (h : LTV H R us xss) (s : SameP L H H') (nR : R ≠ L) (hL : H L = some (.lst xs)) : LTV H' R us xss :=
  ⟨s _ _ h.1 nR, h.2.1, fun i ys e => let ⟨p, q1, q2⟩ := h.2.2 i ys e; ⟨p, q1, s _ _ q2 (ne_of (show H p = some (.tup _) from q2) hL (by intro z; cases z))⟩⟩
theorem MadeAt.push {H : Hp} {F D : Addr} {m b n : Nat} {fs : Nat → List Nat → Int} (h : MadeAt H F m b fs n) (hD : H D = some (.dT (kvL (vecs m b) (fs n)))) : ∃ as : List Addr, H F = some (.lst (as.map V.ref)) ∧ as.length = n ∧ MadeAt (upd H F (.lst (as.map V.ref ++ [.ref D]))) F m b fs (n + 1) := by
  obtain ⟨as, e1, e2, e3⟩ := h
  refine ⟨as, e1, e2, as ++ [D], by rw [List.map_append]; exact upd_same, by rw [List.length_append, e2]; rfl, fun g hg => ?_⟩
  by_cases hgn : g < n
  · obtain ⟨p, q1, q2⟩ := e3 g hgn
    refine ⟨p, by rw [List.getElem?_append_left (by omega)]; exact q1, ?_⟩
    rw [upd_ne (ne_of q2 e1 (by intro z; cases z))]
    exact q2
  · have : g = n := by omega
    subst this
    refine ⟨D, by rw [List.getElem?_append_right (by omega), e2, Nat.sub_self]; rfl, ?_⟩
    rw [upd_ne (ne_of hD e1 (by intro z; cases z))]
    exact hD
def spNt (K : PySem.W.Frag) : Sp := fun vs H Q _ => ∃ (lt e : Addr) (ds : List Nat) (b : Nat) (es : List Int), vs = [.ref lt, .int (b : Int), .ref e] ∧ TupI H lt (dI ds) ∧ LI H e es ∧ AskOk ds b ∧ es.length = 2 ^ ds.sum * (vecs ds.length b).length ∧ (∀ x ∈ es, x.natAbs < 2 ^ 64) ∧
  ∀ (L : Addr) H', H L = none → Same H H' → MadeAt H' L ds.length b (fN ds.length b (2 ^ ds.sum) es) (2 ^ ds.sum) → Q (.ref L) H'
section
variable {P : Program} {w : World} {K : PySem.W.Frag} {mg : Str → Option Value} {base : Heap}
abbrev s_law_newton : Stmt := top 46
abbrev N_law_newton : List Str := ["_law_depths", "_law_wide", "_law_entries_here", "_law_places", "_law_found", "_law_left", "_law_at_here", "_law_factors", "_law_place"]
theorem sc_law_newton : FnScope N_law_newton ["_law_depths", "_law_wide", "_law_entries_here"] (defScope s_law_newton) := ⟨rfl, rfl, rfl, by decide +kernel, rfl, by decide +kernel, by decide +kernel⟩
theorem ok_law_newton {f : Addr} {fd : FuncData} (F : Fun K "_law_newton" "_law_newton" s_law_newton f fd) (T : Glob mg) (g_sum : mg "sum" = none) (D_law_vectors : Df P w K mg base 4 "_law_vectors" ["_law_many", "_law_wide"] spVec12) (D_law_sum : Df P w K mg base 2 "_law_sum" ["_law_factors", "_law_variables"] spSumX) :
    FnOk P w K mg base CX0 5 f fd ["_law_depths", "_law_wide", "_law_entries_here"] (spNt K) := by
  refine F.ok sc_law_newton (fun vs H Q E h => ?_) (fun cdv A outer s H vs Q E hr h => ?_)
  · obtain ⟨lt, e, ds, b, es, rfl, _⟩ := h
    rfl
  · obtain ⟨lt, eA, ds, b, es, rfl, hl, he, ask, hlen, hbits, kq⟩ := h
    have hu := hu_of hr
    have nd := sc_law_newton.nd
    refine ⟨_, (pss_cons (ps_par3 (i := 3) (j := 4) (l := 5) rfl nd rfl rfl rfl (by decide) (by decide) (by decide) rfl rfl rfl (pa_cons (pe_call D_law_vectors.ok (hr.mono (by decide)) (by rfl) D_law_vectors.g D_law_vectors.kp D_law_vectors.b .nil pass0 (pa_cons (pe_callB call_len_seq (by rfl) T.g_len PySem.boot_len (pa_cons (pv 0) pa_nil)) (pa_cons (pv 1) pa_nil))) (pa_cons (pe_lst pa_nil) (pa_cons (pe_callTy call_list_of (by rfl) T.g_list (by decide +kernel) (pa_cons (pv 2) pa_nil)) pa_nil))) (by rfl))
    (pss_cons (ps_for PassesOwn.never rfl (pi_range1 (by rfl) T.g_range (pa_cons (pe_op op_shl pe_int (pe_callB (cr_sumK (K := K) rfl rfl) (by rfl) g_sum (by decide +kernel) (pa_cons (pv 0) pa_nil))) pa_nil)) (pg_name (i := 6) nd rfl (Or.inl rfl))
    (pss_cons (ps_set (i := 7) nd rfl (Or.inl rfl) pe_dnewT)
    (pss_cons (ps_for PassesOwn.never rfl (pi_list (pv 3)) (pg_name (i := 8) nd rfl (Or.inl rfl))
    (pss_one (ps_dput hu (pv 7) (pv 8) (pe_op op_sub (pe_bm PySem.F.plainAttrs_list PySem.F.slot_list_pop PySem.F.type_list_pop mt_popAt (pv 5) (pa_cons pe_int pa_nil)) (pe_call D_law_sum.ok (hr.mono (by decide)) (by rfl) D_law_sum.g D_law_sum.kp D_law_sum.b .nil pass0 (pa_cons (pv 7) (pa_cons (pv 8) pa_nil)))) rfl)))
    (pss_one (ps_expr (pe_bm PySem.F.plainAttrs_list PySem.F.slot_list_append PySem.F.type_list_append mt_append (pv 4) (pa_cons (pv 7) pa_nil)))))))
    (pss_one (ps_ret (pv 4))))), ?_⟩
    have zl : 16777216 = sizeLine := sizeLine_eq.symm
    have hdl : ((dI ds).map V.int).length = ds.length := by rw [List.length_map]; unfold dI; rw [List.length_map]
    have hm := ask.m
    have hb1 := ask.b1
    have hb := ask.b64
    have hv := ask.v
    obtain ⟨m, hmm⟩ : ∃ m, m = ds.length := ⟨_, rfl⟩
    obtain ⟨N, hNN⟩ : ∃ N : Nat, N = 2 ^ ds.sum := ⟨_, rfl⟩
    obtain ⟨n, hnn⟩ : ∃ n, n = (vecs m b).length := ⟨_, rfl⟩
    rw [← hmm] at hm hv kq hdl hlen
    rw [← hNN] at kq hlen
    rw [← hnn] at hlen hv
    have hN : N ≤ 256 := by rw [hNN]; exact Nat.pow_le_pow_right (n := 2) (by decide) ask.s
    have hs8 := ask.s
    have hNi : (1 : Int) * 2 ^ (ds.sum : Int).toNat = (N : Int) := by
      rw [hNN, Int.toNat_natCast, Int.one_mul, Int.natCast_pow]
      rfl
    have hsum : (dI ds).sum = (ds.sum : Int) := nat_sum ds
    refine seq_by (fun σ H1 => ∃ (V1 F0 L : Addr) (ws : List V), σ = [some (.ref lt), some (.int (b : Int)), some (.ref eA), some (.ref V1), some (.ref F0), some (.ref L), none, none, none] ∧ Same H H1 ∧ LTV H1 V1 ws (dV b m) ∧ MadeAt H1 F0 m b (fE m b es) 0 ∧ LI H1 L es ∧ H F0 = none ∧ H L = none ∧ V1 ≠ F0 ∧ V1 ≠ L ∧ F0 ≠ L) (fun D' hD' => ?_) ?_
    · refine ⟨_, rfl, lt, _, rfl, .inr (SqT.of hl), _, rfl, m, hm, b, by rw [hdl]; rfl, hb1, hb, by rw [← hnn]; exact hv, by omega, fun V1 H1 hV1 s1 hl1 => ?_⟩
      obtain ⟨ws, hws⟩ : ∃ ws, LTV H1 V1 ws (dV b m) := hl1.lenV
      refine ⟨(by show 0 ≤ sizeLine; omega), fun F0 hF0 => ?_⟩
      have s2 := new_same (o := .lst []) hF0
      have hF2 : upd H1 F0 (.lst []) F0 = some (.lst []) := upd_same
      have hws2 := hws.same s2
      generalize upd H1 F0 (.lst []) = H2 at s2 hF2 hws2 ⊢
      refine ⟨_, rfl, eA, _, rfl, .inl (SqL.of ((he.same s1).same s2)), fun L hL => ?_⟩
      have s3 := new_same (o := .lst (es.map V.int)) hL
      exact ⟨_, _, _, rfl, hD' _ _ ⟨V1, F0, L, ws, rfl, s1.trans (s2.trans s3), hws2.same s3, ⟨[], s3 _ _ hF2, rfl, fun g hg => absurd hg (Nat.not_lt_zero _)⟩, upd_same, same_free s1 hF0, same_free (s1.trans s2) hL, ne_of_none hws.1 hF0, ne_of_none hws2.1 hL, ne_of_none hF2 hL⟩⟩
    rintro σ H1 ⟨V1, F0, L, ws, rfl, s1, hws1, hM1, hL1, hFn, hLn, nVF, nVL, nFL⟩
    have hwl : ws.length = n := by rw [hws1.2.1, hnn]; unfold dV; rw [List.length_map]
    refine seq_by (fun σ H2 => ∃ a6 a7 a8 : Option V, σ = [some (.ref lt), some (.int (b : Int)), some (.ref eA), some (.ref V1), some (.ref F0), some (.ref L), a6, a7, a8] ∧ Same H H2 ∧ MadeAt H2 F0 m b (fE m b es) N) (fun D' hD' => ?_) ?_
    rotate_left
    · rintro σ H2 ⟨a6, a7, a8, rfl, s2, hM2⟩
      refine ⟨_, rfl, kq F0 H2 hFn s2 ?_⟩
      obtain ⟨as, e1, e2, e3⟩ := hM2
      refine ⟨as, e1, e2, fun g hg => ?_⟩
      obtain ⟨p, q1, q2⟩ := e3 g hg
      refine ⟨p, q1, ?_⟩
      rw [q2]
      congr 2
      unfold kvL
      refine List.map_congr_left fun v hv' => ?_
      unfold fN
      rw [if_pos ⟨hg, hv'⟩]
    refine ⟨_, rfl, true, lt, _, rfl, sqK_t (SqT.of (hl.same s1)), ?_⟩
    rw [hsum]
    refine ⟨_, _, rfl, rfl, ⟨by omega, by omega, by decide⟩, (N : Int), by show [V.int _] = [V.int _]; rw [hNi], by omega, by omega, ?_⟩
    rw [Int.toNat_natCast]
    refine for_range (lo := 0) (n := N) (fun g σ H4 => ∃ a6 a7 a8 : Option V, σ = [some (.ref lt), some (.int (b : Int)), some (.ref eA), some (.ref V1), some (.ref F0), some (.ref L), a6, a7, a8] ∧ Same H H4 ∧ LTV H4 V1 ws (dV b m) ∧ MadeAt H4 F0 m b (fE m b es) g ∧ LI H4 L (es.drop (g * n)))
      ⟨none, none, none, rfl, s1, hws1, hM1, by rw [Nat.zero_mul]; exact hL1⟩ ?_ ?_
    rotate_left
    · rintro σ H4 ⟨a6, a7, a8, rfl, s4, _, hM4, _⟩
      exact hD' _ _ ⟨a6, a7, a8, rfl, s4, hM4⟩
    clear s1 hws1 hM1 hL1
    rintro g σ H4 hg ⟨a6, a7, a8, rfl, s4, hws4, hM4, hL4⟩
    generalize hTn : some (V.int (0 + (g : Int))) = tn
    have hgn : g * n + n ≤ es.length := by
      rw [hlen]
      have : (g + 1) * n ≤ N * n := Nat.mul_le_mul_right _ hg
      rw [Nat.succ_mul] at this
      exact this
    refine seq_by (fun σ H5 => ∃ D : Addr, σ = [some (.ref lt), some (.int (b : Int)), some (.ref eA), some (.ref V1), some (.ref F0), some (.ref L), tn, some (.ref D), a8] ∧ Same H4 H5 ∧ H4 D = none ∧ H5 D = some (.dT [])) (fun D'' hD'' => ?_) ?_
    · exact fun D hD => hD'' _ _ ⟨D, by rw [← hTn]; rfl, new_same hD, hD, upd_same⟩
    rintro σ H5 ⟨D, rfl, s5, hDn, hd5⟩
    refine seq_by (fun σ H6 => ∃ a8 : Option V, σ = [some (.ref lt), some (.int (b : Int)), some (.ref eA), some (.ref V1), some (.ref F0), some (.ref L), tn, some (.ref D), a8] ∧ SameP L H4 H6 ∧ LI H6 L (es.drop ((g + 1) * n)) ∧ H6 D = some (.dT (kvL (vecs m b) (fE m b es g)))) (fun D'' hD'' => ?_) ?_
    · refine ⟨_, rfl, V1, rfl, ⟨_, SqL.of (hws4.same s5).1⟩, ?_⟩
      refine for_list (xs := ws) (fun k σ H7 => ∃ a8 : Option V, σ = [some (.ref lt), some (.int (b : Int)), some (.ref eA), some (.ref V1), some (.ref F0), some (.ref L), tn, some (.ref D), a8] ∧ SameP L H4 H7 ∧ LI H7 L (es.drop (g * n + k)) ∧ H7 D = some (.dT (kvL ((vecs m b).take k) (fE m b es g))))
        ⟨a8, rfl, SameP.of' s5, hL4.same s5, hd5⟩ (fun k σ H7 _ h => by obtain ⟨_, _, h, _⟩ := h; exact SqL.of (hws4.sp h nVL hL4).1) ?_ ?_
      · clear a8
        rintro k x σ H7 hx ⟨a8, rfl, p7, hL7, hd7⟩
        obtain ⟨p, v, hkv, hkv2, rfl, hp7⟩ := (hws4.sp p7 nVL hL4).at hx
        have hvv := hkv2
        unfold dV at hvv
        rw [List.getElem?_map] at hvv
        obtain ⟨u, hu1, rfl⟩ := Option.map_eq_some_iff.mp hvv
        have hum := List.mem_of_getElem? hu1
        have hiL := (List.getElem?_eq_some_iff.mp hu1).1
        have hul := vecs_mem _ _ u hum
        have hkn : k < n := by rw [hnn]; exact hiL
        have hnot : u ∉ (vecs m b).take k := fun z => by
          have nn := vecs_nodup m b
          rw [← List.take_append_drop k (vecs m b)] at nn
          have h2 := (List.nodup_append.mp nn).2.2
          refine h2 u z u ?_ rfl
          rw [List.drop_eq_getElem_cons hiL]
          have : (vecs m b)[k] = u := by
            have := List.getElem?_eq_getElem hiL
            rw [hu1] at this
            exact (Option.some.inj this).symm
          rw [this]
          exact List.mem_cons_self ..
        have htk : (vecs m b).take (k + 1) = (vecs m b).take k ++ [u] := by
          rw [List.take_succ, hu1]
          rfl
        have hin : g * n + k < es.length := by omega
        have hdrop : es.drop (g * n + k) = GE m b es g u :: es.drop (g * n + (k + 1)) := by
          rw [List.drop_eq_getElem_cons hin, GE_at hu1, ← hnn, List.getD_eq_getElem?_getD, List.getElem?_eq_getElem hin]
          rfl
        have hL7' : H7 L = some (.lst ((es.drop (g * n + k)).map V.int)) := hL7
        rw [hdrop, List.map_cons] at hL7'
        have nDL : D ≠ L := ne_of hd7 hL7' (by intro z; cases z)
        have npL : p ≠ L := ne_of (show H7 p = some (.tup _) from hp7) hL7' (by intro z; cases z)
        refine ⟨_, rfl, .inl ⟨rfl, _, SqL.of hL7'⟩, L, _, 0, 0, _, rfl, rfl, hL7', by decide, by decide, (seqIndex_of (k := 0) (by decide) (by rw [List.length_cons]; omega)), rfl, ?_⟩
        have hL8 : LI (upd H7 L (.lst ((V.int (GE m b es g u) :: (es.drop (g * n + (k + 1))).map V.int).eraseIdx 0))) L (es.drop (g * n + (k + 1))) := upd_same
        have hd8 : upd H7 L (.lst ((V.int (GE m b es g u) :: (es.drop (g * n + (k + 1))).map V.int).eraseIdx 0)) D = _ := (upd_ne nDL).trans hd7
        have hp8 : TupI (upd H7 L (.lst ((V.int (GE m b es g u) :: (es.drop (g * n + (k + 1))).map V.int).eraseIdx 0))) p (dI u) := (upd_ne npL).trans hp7
        have p8 : SameP L H4 (upd H7 L (.lst ((V.int (GE m b es g u) :: (es.drop (g * n + (k + 1))).map V.int).eraseIdx 0))) := fun a o e na => by rw [upd_ne na]; exact p7 a o e na
        generalize upd H7 L (.lst ((V.int (GE m b es g u) :: (es.drop (g * n + (k + 1))).map V.int).eraseIdx 0)) = H8 at hL8 hd8 hp8 p8 ⊢
        refine ⟨_, rfl, _, rfl, D, p, m, (vecs m b).take k, fE m b es g, dI u, rfl, hd8, hp8, by unfold dI; rw [List.length_map, hul], hm, fun v hv2 => ⟨vecs_mem _ _ v (List.mem_of_mem_take hv2), vec66 hb (List.mem_of_mem_take hv2)⟩, by rw [List.length_take]; omega, fun v hv2 => ?_, fun i => ?_, fun H9 s9 => ?_⟩
        · refine Nat.lt_of_lt_of_le (coF_bits (B := 64) (GE_bits hbits) (vec66 hb (List.mem_of_mem_take hv2))) (Nat.pow_le_pow_right (by decide) (by omega))
        · have h66 := vec66 hb hum i
          have e : (dI u).getD i 0 = ((u.getD i 0 : Nat) : Int) := by
            unfold dI
            rw [List.getD_eq_getElem?_getD, List.getD_eq_getElem?_getD, List.getElem?_map]
            cases u[i]? <;> rfl
          rw [e]
          have : (2 : Int) ^ 110 = 1298074214633706907132624082305024 := by decide
          omega
        · have hpt := part_sum hm (GE m b es g) hu1
          have e : GE m b es g u - smF (fE m b es g) (dI u) m ((vecs m b).take k) = fE m b es g u := by
            unfold fE
            rw [hpt]
            omega
          have hd9 := s9 _ _ hd8
          have hp9 := hp8.same s9
          refine ⟨_, _, rfl, rfl, ?_⟩
          dsimp only
          rw [e]
          refine ⟨_, rfl, _, rfl, D, _, rfl, DPut.t (k := kyOf u) hd9 (by rw [kyOf_kV]; exact hp9) (by unfold kvL; rw [List.length_map, List.length_take]; omega), ?_⟩
          rw [put_new hnot]
          have ekv : kvL ((vecs m b).take k ++ [u]) (upF (fE m b es g) u (fE m b es g u)) = kvL ((vecs m b).take (k + 1)) (fE m b es g) := by
            rw [htk]
            unfold kvL
            refine List.map_congr_left fun v _ => ?_
            unfold upF
            split
            · rename_i q
              rw [q]
            · rfl
          rw [ekv]
          refine ⟨_, rfl, fun a o e na => ?_, ?_, upd_same⟩
          · rw [upd_ne (ne_of_none e hDn)]
            exact s9 _ _ (p8 a o e na)
          · show upd H9 D _ L = _
            rw [upd_ne (Ne.symm nDL)]
            exact s9 _ _ hL8
      · rintro σ H7 ⟨a8, rfl, p7, hL7, hd7⟩
        rw [hwl] at hL7 hd7
        refine hD'' _ _ ⟨a8, rfl, p7, ?_, ?_⟩
        · rw [Nat.succ_mul]; exact hL7
        · rw [hnn, List.take_length] at hd7; exact hd7
    clear a8 s5 hd5
    rintro σ H6 ⟨a8, rfl, p6, hL6, hd6⟩
    have hM6 := hM4.sp p6 nFL hL4
    have hws6 := hws4.sp p6 nVL hL4
    obtain ⟨as, f1, f2, f3⟩ := hM6.push hd6
    refine ⟨_, rfl, .inl ⟨rfl, _, SqL.of f1⟩, _, rfl, F0, _, _, rfl, rfl, f1, by rw [List.length_map]; omega, ?_⟩
    refine ⟨_, _, a8, rfl, fun a o e => ?_, hws6.updL nVF f1, f3, ?_⟩
    · rw [upd_ne (ne_of_none e hFn)]
      exact p6 a o (s4 a o e) (ne_of_none e hLn)
    · show upd H6 F0 _ L = _
      rw [upd_ne (Ne.symm nFL)]
      exact hL6
end
end My

set_option pp.maxSteps 400
set_option Elab.async false
set_option linter.all false
set_option maxRecDepth 100000
set_option maxHeartbeats 1000000
namespace My
open PySem L2 MyR
theorem call_dictTN {X : Cx} {K : PySem.W.Frag} (h : X.K = K) (hu : X.A.units + 64 < cLine) (hc : X.calm = true) : CallR X (.type "dict") (rDictT K) := h ▸ call_dictT hu hc
theorem kvL_keys (vs : List (List Nat)) (f : List Nat → Int) : (kvL vs f).map (·.1) = vs.map kyOf := by
  unfold kvL
  rw [List.map_map]
  rfl
theorem kyOf_nodup : ∀ {vs : List (List Nat)}, vs.Nodup → (vs.map kyOf).Nodup
  | [], _ => List.nodup_nil
  | v :: vs, h => by
    rw [List.nodup_cons] at h
    rw [List.map_cons, List.nodup_cons]
    refine ⟨fun hm => ?_, kyOf_nodup h.2⟩
    obtain ⟨u, hu, e⟩ := List.mem_map.mp hm
    rw [kyOf_inj e] at hu
    exact h.1 hu
/-- new dicts of functions, all different -/
def NewMade (H H' : Hp) (L : Addr) (m b : Nat) (fs : Nat → List Nat → Int) (N : Nat) (as : List Addr) : Prop :=
  H' L = some (.lst (as.map V.ref)) ∧ as.length = N ∧ (∀ g, g < N → ∃ p, as[g]? = some p ∧ H' p = some (.dT (kvL (vecs m b) (fs g)))) ∧ (∀ p ∈ as, H p = none) ∧ as.Nodup
def spCopied : Sp := fun vs H Q _ => ∃ (L : Addr) (m b : Nat) (fs : Nat → List Nat → Int) (N : Nat), vs = [.ref L] ∧ MadeAt H L m b fs N ∧ (vecs m b).length < 5000 ∧ N ≤ 256 ∧
  ∀ (L' : Addr) (as : List Addr) H', H L' = none → Same H H' → NewMade H H' L' m b fs N as → Q (.ref L') H'
def spChg : Sp := fun vs H Q _ => ∃ (dl l mk lt : Addr) (ds : List Nat) (b n : Nat) (fs : Nat → List Nat → Int), vs = [.ref dl, .ref mk, .ref lt, .int (b : Int)] ∧ Deal H dl l ∧ MadeAt H mk ds.length b fs (2 ^ ds.sum) ∧ mk ≠ l ∧ (∀ g, FX n (fs g)) ∧ 128 ≤ n ∧ TupI H lt (dI ds) ∧ AskOk ds b ∧
  ∀ (L : Addr) H' fs', H L = none → Deal H' dl l → Kept dl l H H' → MadeAt H' L ds.length b fs' (2 ^ ds.sum) → (∀ g, FX (n + 1) (fs' g)) → Q (.ref L) H'
theorem FX.up {n : Nat} {f : List Nat → Int} (h : FX n f) (hn : 128 ≤ n) {u : List Nat} {k : Nat} (hk : twS u ≤ k) (hk2 : k ≤ 100) : FX (n + 1) (upF f u (f u + 2 ^ k)) := by
  have h0 : 2 ^ n + 2 ^ n = 2 ^ (n + 1) := by rw [Nat.pow_succ]; omega
  have h1 : 2 ^ k ≤ 2 ^ n := Nat.pow_le_pow_right (by decide) (by omega)
  constructor
  · intro v
    unfold upF
    split
    · rename_i e
      rw [e]
      exact Int.dvd_add (h.d u) (p2_dvd hk)
    · exact h.d v
  · intro v
    unfold upF
    split
    · have h2 := h.b u
      have h3 := Int.natAbs_add_le (f u) (2 ^ k)
      have h4 : ((2 : Int) ^ k).natAbs = 2 ^ k := by rw [← pow_cast]; rfl
      omega
    · have := h.b v
      omega
section
variable {P : Program} {w : World} {K : PySem.W.Frag} {mg : Str → Option Value} {base : Heap}
abbrev s_law_copied : Stmt := top 43
abbrev N_law_copied : List Str := ["_law_made_here", "_law_place", "_law_one"]
theorem sc_law_copied : FnScope N_law_copied ["_law_made_here"] (defScope s_law_copied) := ⟨rfl, rfl, rfl, by decide +kernel, rfl, by decide +kernel, by decide +kernel⟩
theorem ok_law_copied {f : Addr} {fd : FuncData} (F : Fun K "_law_copied" "_law_copied" s_law_copied f fd) (T : Glob mg) (g_dict : mg "dict" = none) : FnOk P w K mg base CX0 1 f fd ["_law_made_here"] spCopied := by
  refine F.ok sc_law_copied (fun vs H Q E h => ?_) (fun cdv A outer s H vs Q E hr h => ?_)
  · obtain ⟨L, m, b, fs, N, rfl, _⟩ := h
    rfl
  · obtain ⟨L, m, b, fs, N, rfl, mk, hv, hN, kq⟩ := h
    have hu := hu_of hr
    have nd := sc_law_copied.nd
    refine ⟨_, (pss_one (ps_ret (pe_lc (own := [("_law_one", 2)]) (g := gName 2) (tt := tYes) rfl nd (pi_list (pv 0)) (blkOk_by (N := N_law_copied) (sc := defScope s_law_copied) (by decide +kernel)) (fun _ _ _ _ _ => by first | exact pg_name (i := 2) nd rfl (Or.inl rfl) | exact pg_name (i := 2) nd rfl (Or.inr rfl)) (fun _ _ _ _ _ => pts_nil)
      (fun _ _ _ _ _ => (pe_callTy (call_dictTN (K := K) rfl hr.units rfl) (by rfl) g_dict (by decide +kernel) (pa_cons (pe_lock (pe_lc (own := [("_law_place", 1)]) (g := gName 1) (tt := tYes) rfl nd (pi_keys (pv 2)) (blkOk_by (N := N_law_copied) (sc := relabS (lcScope s_law_copied 0) (defScope s_law_copied)) (by decide +kernel)) (fun _ _ _ _ _ => by first | exact pg_name (i := 1) nd rfl (Or.inl rfl) | exact pg_name (i := 1) nd rfl (Or.inr rfl)) (fun _ _ _ _ _ => pts_nil)
        (fun _ _ _ _ _ => (pe_tup (pa_cons (pv 1) (pa_cons (pe_dget hu (pv 2) (pv 1) (fun _ _ => rfl)) pa_nil)))))) pa_nil)))))), ?_⟩
    have zl : 16777216 = sizeLine := sizeLine_eq.symm
    have hkl : ∀ f, (kvL (vecs m b) f).length = (vecs m b).length := fun f => by unfold kvL; rw [List.length_map]
    obtain ⟨as0, e1, e2, e3⟩ := mk
    refine ⟨_, rfl, L, rfl, ⟨_, SqL.of e1⟩, fun D hD => ?_⟩
    refine lc_it (walk_list (xs := as0.map V.ref)) (fun i H1 => Same H H1 ∧ ∃ as : List Addr, H1 D = some (.lst (as.map V.ref)) ∧ as.length = i ∧ (∀ g, g < i → ∃ p, as[g]? = some p ∧ H1 p = some (.dT (kvL (vecs m b) (fs g)))) ∧ (∀ p ∈ as, H p = none) ∧ as.Nodup)
      ⟨new_same hD, [], upd_same, rfl, fun g hg => absurd hg (Nat.not_lt_zero _), fun p hp => (by cases hp), List.nodup_nil⟩ (fun i H1 _ h => SqL.of (h.1 _ _ e1)) ?_ ?_
    · rintro i x H1 H2 hi ⟨s1, as, hD1, hasl, hat, hfree, hnd⟩ ⟨rfl, hx⟩
      rw [List.length_map, e2] at hi
      obtain ⟨d, q1, q2⟩ := e3 i hi
      have hx : (as0.map V.ref)[i]? = some x := hx
      rw [List.getElem?_map, q1] at hx
      obtain rfl := Option.some.inj hx
      have hd := s1 _ _ q2
      refine ⟨rfl, ?_⟩
      dsimp only [tYes]
      rw [if_pos rfl]
      refine ⟨d, _, hd, trivial, fun od => ⟨_, rfl, d, od, rfl, .inr ⟨_, upd_same, fun G hG => ?_⟩⟩⟩
      refine lc_it walk_keysT (fun j H5 => Same (upd H2 d (.frz od (.dT (kvL (vecs m b) (fs i))))) H5 ∧ ∃ ts : List Trip, H5 G = some (.lst ((ts.map (·.1)).map V.ref)) ∧ ts.map (·.2.2) = (kvL (vecs m b) (fs i)).take j ∧ ∀ x ∈ ts, TripOk H5 x)
        ⟨new_same hG, [], upd_same, rfl, fun x hx => by cases hx⟩ (fun j H5 _ h => h.1 _ _ upd_same) ?_ ?_
      · rintro j x H5 H6 hj ⟨s5, ts, h5, hts, hok⟩ ⟨rfl, k, v, q, hk, rfl, hq⟩
        have hd5 : H6 d = some (.frz od (.dT (kvL (vecs m b) (fs i)))) := s5 _ _ upd_same
        have hk' := hk
        unfold kvL at hk
        rw [List.getElem?_map] at hk
        obtain ⟨u, hu1, hu2⟩ := Option.map_eq_some_iff.mp hk
        obtain ⟨hu3, hu4⟩ := Prod.mk.inj hu2
        subst hu3 hu4
        have hum := List.mem_of_getElem? hu1
        rw [hkl] at hj
        refine ⟨rfl, ?_⟩
        dsimp only [tYes]
        rw [if_pos rfl]
        refine ⟨_, rfl, _, rfl, _, rfl, d, _, rfl, .inr ⟨_, kyOf u, q, .inr ⟨od, hd5⟩, rfl, hq, (kv_at hum).symm⟩, (by show 2 ≤ sizeLine; omega), fun tp htp => ?_⟩
        have st := new_same (o := .tup [V.ref q, .int (fs i u)]) htp
        have hG6 := st _ _ h5
        have htl : ts.length = j := by
          have := congrArg List.length hts
          rw [List.length_map, List.length_take, hkl] at this
          omega
        have ht6 : upd H6 tp (.tup [V.ref q, .int (fs i u)]) tp = some (.tup [V.ref q, .int (fs i u)]) := upd_same
        have hq6 := st _ _ hq
        have s6 := s5.trans st
        have hok6 : ∀ x ∈ ts, TripOk (upd H6 tp (.tup [V.ref q, .int (fs i u)])) x := fun x hx => ⟨st _ _ (hok x hx).1, st _ _ (hok x hx).2⟩
        generalize upd H6 tp (.tup [V.ref q, .int (fs i u)]) = H7 at hG6 ht6 hq6 s6 hok6 ⊢
        have tne : ∀ {a : Addr} {xs : List V} {o : HO}, H7 a = some (.tup xs) → upd H7 G o a = some (.tup xs) := fun {a xs o} e => by
          rw [upd_ne (ne_of e hG6 (by intro z; cases z))]
          exact e
        refine ⟨_, hG6, by rw [List.length_map, List.length_map, htl]; omega, same_up s6 hG, ts ++ [(tp, q, (kyOf u, .int (fs i u)))], ?_, ?_, fun x hx => ?_⟩
        · show upd _ _ _ _ = _
          rw [upd_same, List.map_append, List.map_append]
          rfl
        · rw [List.map_append, hts, List.take_succ, hk']
          rfl
        · rcases List.mem_append.mp hx with hx | hx
          · exact ⟨tne (hok6 x hx).1, tne (hok6 x hx).2⟩
          · rw [List.mem_singleton.mp hx]
            exact ⟨tne ht6, tne hq6⟩
      · rintro H5 ⟨s5, ts, h5, hts, hok⟩
        have hd5 : H5 d = some (.frz od (.dT (kvL (vecs m b) (fs i)))) := s5 _ _ upd_same
        have nGd : G ≠ d := fun z => by
          rw [z, upd_same] at hG
          cases hG
        have s25 := unlock_same hd s5
        rw [List.take_length] at hts
        have hok6 : ∀ x ∈ ts, TripOk (upd H5 d (.dT (kvL (vecs m b) (fs i)))) x := fun x hx => by
          obtain ⟨w1, w2⟩ := hok x hx
          exact ⟨by rw [upd_ne (ne_of w1 hd5 (by intro z; cases z))]; exact w1, by rw [upd_ne (ne_of w2 hd5 (by intro z; cases z))]; exact w2⟩
        have h6 : upd H5 d (.dT (kvL (vecs m b) (fs i))) G = some (.lst ((ts.map (·.1)).map V.ref)) := by rw [upd_ne nGd]; exact h5
        generalize upd H5 d (.dT (kvL (vecs m b) (fs i))) = H6 at s25 hok6 h6 ⊢
        have hkeys : ts.map (·.2.2.1) = (vecs m b).map kyOf := by
          rw [← kvL_keys (vecs m b) (fs i), ← hts, List.map_map]
          rfl
        refine ⟨hd5, G, ts, rfl, SqL.of h6, hok6, by rw [hkeys]; exact kyOf_nodup (vecs_nodup m b), fun p hp => ?_⟩
        rw [hts]
        have sp := new_same (o := .dT (kvL (vecs m b) (fs i))) hp
        have s27 := s25.trans sp
        have hp7 : upd H6 p (.dT (kvL (vecs m b) (fs i))) p = some (.dT (kvL (vecs m b) (fs i))) := upd_same
        generalize upd H6 p (.dT (kvL (vecs m b) (fs i))) = H7 at sp s27 hp7 ⊢
        have hD7 := s27 _ _ hD1
        have hpn : p ∉ as := fun z => by
          obtain ⟨g, hg⟩ := List.mem_iff_getElem?.mp z
          obtain ⟨p', w1, w2⟩ := hat g (by have := (List.getElem?_eq_some_iff.mp hg).1; omega)
          rw [hg] at w1
          obtain rfl := Option.some.inj w1
          rw [s25 _ _ w2] at hp
          cases hp
        refine ⟨_, hD7, by rw [List.length_map, hasl]; omega, same_up (s1.trans s27) hD, as ++ [p], ?_, by rw [List.length_append, hasl]; rfl, fun g hg => ?_, fun x hx => ?_, ?_⟩
        · show upd _ _ _ _ = _
          rw [upd_same, List.map_append]
          rfl
        · have dne : ∀ {a : Addr} {kvs : List (List Key × V)} {o : HO}, H7 a = some (.dT kvs) → upd H7 D o a = some (.dT kvs) := fun {a kvs o} e => by
            rw [upd_ne (ne_of e hD7 (by intro z; cases z))]
            exact e
          by_cases hgi : g < i
          · obtain ⟨p', w1, w2⟩ := hat g hgi
            exact ⟨p', by rw [List.getElem?_append_left (by omega)]; exact w1, dne (s27 _ _ w2)⟩
          · have : g = i := by omega
            subst this
            exact ⟨p, by rw [List.getElem?_append_right (by omega), hasl, Nat.sub_self]; rfl, dne hp7⟩
        · rcases List.mem_append.mp hx with hx | hx
          · exact hfree x hx
          · rw [List.mem_singleton.mp hx]
            exact same_free (s1.trans s25) hp
        · refine List.nodup_append.mpr ⟨hnd, List.nodup_cons.mpr ⟨by simp, List.nodup_nil⟩, fun x hx y hy e => ?_⟩
          rw [List.mem_singleton.mp hy] at e
          rw [e] at hx
          exact hpn hx
    · rintro H1 ⟨s1, as, hD1, hasl, hat, hfree, hnd⟩
      rw [List.length_map, e2] at hasl hat
      exact kq D as H1 hD s1 ⟨hD1, hasl, hat, hfree, hnd⟩
end
end My

set_option pp.maxSteps 400
set_option Elab.async false
set_option linter.all false
set_option maxRecDepth 100000
set_option maxHeartbeats 1000000
namespace My
open PySem L2 MyR
theorem vecs_pos {m b : Nat} (hm : m = 1 ∨ m = 2) (hb1 : 1 ≤ b) : 1 ≤ (vecs m b).length := by
  rcases hm with e | e
  · rw [e, vecs_one]
    exact W_pos hb1
  · rw [e, vecs_len]
    have hW := W_pos hb1
    obtain ⟨n, hn⟩ : ∃ n, W b = n + 1 := ⟨W b - 1, by omega⟩
    have h0 : 1 ≤ (vecs 1 (b - tw 0)).length := by
      rw [vecs_one]
      exact W_pos hb1
    have mono : ∀ n, 1 ≤ smN (n + 1) fun j => (vecs 1 (b - tw j)).length := fun n => by
      induction n with
      | zero => exact Nat.le_trans h0 (Nat.le_add_left _ _)
      | succ n ih => exact Nat.le_trans ih (Nat.le_add_right _ _)
    rw [hn]
    exact mono n
section
variable {P : Program} {w : World} {K : PySem.W.Frag} {mg : Str → Option Value} {base : Heap}
abbrev s_law_changed : Stmt := top 44
abbrev N_law_changed : List Str := ["_law_deal_here", "_law_made_here", "_law_depths", "_law_wide", "_law_found", "_law_places", "_law_part", "_law_place", "_law_by", "_law_j"]
theorem sc_law_changed : FnScope N_law_changed ["_law_deal_here", "_law_made_here", "_law_depths", "_law_wide"] (defScope s_law_changed) := ⟨rfl, rfl, rfl, by decide +kernel, rfl, by decide +kernel, by decide +kernel⟩
theorem ok_law_changed {f : Addr} {fd : FuncData} (F : Fun K "_law_changed" "_law_changed" s_law_changed f fd) (T : Glob mg) (g_sum : mg "sum" = none) (D_law_vectors : Df P w K mg base 4 "_law_vectors" ["_law_many", "_law_wide"] spVec12) (D_law_draw : Df P w K mg base 1 "_law_draw" ["_law_deal_here", "_law_many"] spDraw) (D_law_twos : Df P w K mg base 1 "_law_twos" ["_law_number"] spTw) (D_law_copied : Df P w K mg base 1 "_law_copied" ["_law_made_here"] spCopied) : FnOk P w K mg base CX0 5 f fd ["_law_deal_here", "_law_made_here", "_law_depths", "_law_wide"] spChg := by
  refine F.ok sc_law_changed (fun vs H Q E h => ?_) (fun cdv A outer s H vs Q E hr h => ?_)
  · obtain ⟨dl, l, mk, lt, ds, b, n, fs, rfl, _⟩ := h
    rfl
  · obtain ⟨dl, l, mk, lt, ds, b, n, fs, rfl, D0, hmk, nml, hfs, hn, hlt, ask, kq⟩ := h
    have hu := hu_of hr
    have nd := sc_law_changed.nd
    refine ⟨_, (pss_cons (ps_par (i := 4) (j := 5) rfl nd rfl rfl (by decide) rfl rfl (pa_cons (pe_call D_law_copied.ok (hr.mono (by decide)) (by rfl) D_law_copied.g D_law_copied.kp D_law_copied.b .nil pass0 (pa_cons (pv 1) pa_nil)) (pa_cons (pe_call D_law_vectors.ok (hr.mono (by decide)) (by rfl) D_law_vectors.g D_law_vectors.kp D_law_vectors.b .nil pass0 (pa_cons (pe_callB call_len_seq (by rfl) T.g_len PySem.boot_len (pa_cons (pv 2) pa_nil)) (pa_cons (pv 3) pa_nil))) pa_nil)) (by rfl))
    (pss_cons (ps_par (i := 6) (j := 7) rfl nd rfl rfl (by decide) rfl rfl (pa_cons (pe_ix ix_list (pv 4) (pe_call D_law_draw.ok (hr.mono (by decide)) (by rfl) D_law_draw.g D_law_draw.kp D_law_draw.b .nil pass0 (pa_cons (pv 0) (pa_cons (pe_callB call_len_seq (by rfl) T.g_len PySem.boot_len (pa_cons (pv 4) pa_nil)) pa_nil))) (fun _ _ => rfl)) (pa_cons (pe_ix ix_list (pv 5) (pe_call D_law_draw.ok (hr.mono (by decide)) (by rfl) D_law_draw.g D_law_draw.kp D_law_draw.b .nil pass0 (pa_cons (pv 0) (pa_cons (pe_callB call_len_seq (by rfl) T.g_len PySem.boot_len (pa_cons (pv 5) pa_nil)) pa_nil))) (fun _ _ => rfl)) pa_nil)) (by rfl))
    (pss_cons (ps_set (i := 8) nd rfl (Or.inl rfl) (pe_op op_add (pe_callB (cr_sumK (K := K) rfl rfl) (by rfl) g_sum (by decide +kernel) (pa_cons (pe_lc (own := [("_law_j", 9)]) (g := gName 9) (tt := tYes) rfl nd (pi_tup (pv 7)) (blkOk_by (N := N_law_changed) (sc := defScope s_law_changed) (by decide +kernel)) (fun _ _ _ _ _ => pg_name (i := 9) nd rfl (Or.inl rfl)) (fun _ _ _ _ _ => pts_nil) (fun _ _ _ _ _ => (pe_call D_law_twos.ok (hr.mono (by decide)) (by rfl) D_law_twos.g D_law_twos.kp D_law_twos.b .nil pass0 (pa_cons (pv 9) pa_nil)))) pa_nil)) (pe_call D_law_draw.ok (hr.mono (by decide)) (by rfl) D_law_draw.g D_law_draw.kp D_law_draw.b .nil pass0 (pa_cons (pv 0) (pa_cons pe_int pa_nil)))))
    (pss_cons (ps_dput hu (pv 6) (pv 7) (pe_op op_add (pe_dget hu (pv 6) (pv 7) (fun _ _ => rfl)) (pe_op op_shl pe_int (pv 8))) rfl)
    (pss_one (ps_ret (pv 4))))))), ?_⟩
    have zl : 16777216 = sizeLine := sizeLine_eq.symm
    have hdl : ((dI ds).map V.int).length = ds.length := by rw [List.length_map]; unfold dI; rw [List.length_map]
    have hm := ask.m
    have hb1 := ask.b1
    have hb := ask.b64
    have hv := ask.v
    obtain ⟨m, hmm⟩ : ∃ m, m = ds.length := ⟨_, rfl⟩
    obtain ⟨N, hNN⟩ : ∃ N : Nat, N = 2 ^ ds.sum := ⟨_, rfl⟩
    rw [← hmm] at hm hv kq hdl hmk
    rw [← hNN] at kq hmk
    have hN : N ≤ 256 := by rw [hNN]; exact Nat.pow_le_pow_right (n := 2) (by decide) ask.s
    have hN1 : 1 ≤ N := by rw [hNN]; exact Nat.pow_pos (by decide)
    have hl0 : ∃ xs : List V, H l = some (.lst xs) := by
      obtain ⟨z, n', nss, _, hll, _⟩ := D0.ex
      exact ⟨_, hll⟩
    have hd0 : ∃ o, H dl = some (.dK o) := by
      obtain ⟨z, n', nss, hdd, _⟩ := D0.ex
      exact ⟨_, hdd⟩
    refine seq_by (fun σ H1 => ∃ (L V1 : Addr) (as : List Addr) (ws : List V), σ = [some (.ref dl), some (.ref mk), some (.ref lt), some (.int (b : Int)), some (.ref L), some (.ref V1), none, none, none, none] ∧ Same H H1 ∧ NewMade H H1 L m b fs N as ∧ H L = none ∧ LTV H1 V1 ws (dV b m) ∧ H V1 = none) (fun D' hD' => ?_) ?_
    · refine ⟨_, rfl, mk, m, b, fs, N, rfl, hmk, hv, hN, fun L as H1 hL s1 nm => ?_⟩
      refine ⟨_, rfl, lt, _, rfl, .inr (SqT.of (hlt.same s1)), _, rfl, m, hm, b, by rw [hdl]; rfl, hb1, hb, hv, by omega, fun V1 H2 hV1 s2 hl2 => ?_⟩
      obtain ⟨ws, hws⟩ : ∃ ws, LTV H2 V1 ws (dV b m) := hl2.lenV
      obtain ⟨n1, n2, n3, n4, n5⟩ := nm
      exact ⟨_, _, rfl, hD' _ _ ⟨L, V1, as, ws, rfl, s1.trans s2, ⟨s2 _ _ n1, n2, fun g hg => let ⟨p, q1, q2⟩ := n3 g hg; ⟨p, q1, s2 _ _ q2⟩, n4, n5⟩, hL, hws, same_free s1 hV1⟩⟩
    rintro σ H1 ⟨L, V1, as, ws, rfl, s1, ⟨n1, n2, n3, n4, n5⟩, hLn, hws1, hVn⟩
    have hwl : ws.length = (vecs m b).length := by rw [hws1.2.1]; unfold dV; rw [List.length_map]
    have hvp := vecs_pos hm hb1
    obtain ⟨xl, hxl⟩ := hl0
    obtain ⟨od, hod⟩ := hd0
    have nLl : L ≠ l := (ne_of_none hxl hLn).symm
    have nLd : L ≠ dl := (ne_of_none hod hLn).symm
    have nVl : V1 ≠ l := (ne_of_none hxl hVn).symm
    have nVd : V1 ≠ dl := (ne_of_none hod hVn).symm
    have hal : (as.map V.ref).length = N := by rw [List.length_map, n2]
    refine seq_by (fun σ H3 => ∃ (p q : Addr) (g0 : Nat) (u : List Nat), σ = [some (.ref dl), some (.ref mk), some (.ref lt), some (.int (b : Int)), some (.ref L), some (.ref V1), some (.ref p), some (.ref q), none, none] ∧ Deal H3 dl l ∧ Kept dl l H1 H3 ∧ g0 < N ∧ as[g0]? = some p ∧ u ∈ vecs m b ∧ TupI H3 q (dI u)) (fun D' hD' => ?_) ?_
    · have D1 := D0.same s1
      refine ⟨_, rfl, _, rfl, _, rfl, L, _, rfl, .inl (SqL.of n1), dl, l, _, rfl, D1, by rw [hal]; omega, by rw [hal]; omega, fun r H2 h0 h1 D2 k2 => ?_⟩
      obtain ⟨g0, rfl⟩ : ∃ n : Nat, r = (n : Int) := ⟨r.toNat, by omega⟩
      have hg0 : g0 < N := by rw [hal] at h1; omega
      obtain ⟨p, q1, q2⟩ := n3 g0 hg0
      have hL2 : H2 L = some (.lst (as.map V.ref)) := k2 _ _ n1 nLd nLl
      have hws2 := hws1.kept k2 D1 nVl
      refine ⟨L, _, _, _, rfl, rfl, SqL.of hL2, atI_nat (by rw [List.getElem?_map, q1]; rfl), ?_⟩
      refine ⟨_, rfl, _, rfl, _, rfl, V1, _, rfl, .inl (SqL.of hws2.1), dl, l, _, rfl, D2, by omega, by omega, fun r2 H3 h2 h3 D3 k3 => ?_⟩
      obtain ⟨k, rfl⟩ : ∃ n : Nat, r2 = (n : Int) := ⟨r2.toNat, by omega⟩
      have hk : k < ws.length := by omega
      have hws3 := hws2.kept k3 D2 nVl
      obtain ⟨q, v, hkv, hkv2, e, hq⟩ := hws3.at (List.getElem?_eq_getElem hk)
      have hvv := hkv2
      unfold dV at hvv
      rw [List.getElem?_map] at hvv
      obtain ⟨u, hu1, rfl⟩ := Option.map_eq_some_iff.mp hvv
      refine ⟨V1, _, _, _, rfl, rfl, SqL.of hws3.1, atI_nat (by rw [List.getElem?_eq_getElem hk, e]), ?_⟩
      exact ⟨_, _, rfl, hD' _ _ ⟨p, q, g0, u, rfl, D3, k2.trans k3, hg0, q1, List.mem_of_getElem? hu1, hq⟩⟩
    rintro σ H3 ⟨p, q, g0, u, rfl, D3, k3, hg0, hpa, hum, hq⟩
    have hul := vecs_mem _ _ u hum
    have htw := vecs_tw m b u hb1 hum
    refine seq_by (fun σ H4 => ∃ kk : Nat, σ = [some (.ref dl), some (.ref mk), some (.ref lt), some (.int (b : Int)), some (.ref L), some (.ref V1), some (.ref p), some (.ref q), some (.int (kk : Int)), none] ∧ Deal H4 dl l ∧ Kept dl l H1 H4 ∧ TupI H4 q (dI u) ∧ twS u ≤ kk ∧ kk ≤ 100) (fun D' hD' => ?_) ?_
    · have hdu : ((dI u).map V.int).length = u.length := by rw [List.length_map]; unfold dI; rw [List.length_map]
      refine ⟨_, rfl, q, rfl, ⟨_, SqT.of hq⟩, fun G hG => ?_⟩
      refine lc_tup (xs := (dI u).map V.int) (fun j H11 => Same H3 H11 ∧ LI H11 G ((u.take j).map fun (x : Nat) => (tw x : Int))) ⟨new_same hG, upd_same⟩ (fun j H11 _ h => SqT.of (hq.same h.1)) ?_ ?_
      · rintro j x H11 hx ⟨s11, h11⟩
        have hj : j < u.length := by
          have := (List.getElem?_eq_some_iff.mp hx).1
          omega
        have huj := List.getElem?_eq_getElem hj
        have hdj : (dI u)[j]? = some ((u[j] : Nat) : Int) := by unfold dI; rw [List.getElem?_map, huj]; rfl
        rw [map_at_int hdj] at hx
        obtain rfl := Option.some.inj hx
        refine ⟨rfl, ?_⟩
        dsimp only [tYes]
        rw [if_pos rfl]
        refine ⟨_, rfl, u[j], rfl, ?_⟩
        refine ⟨_, h11, by rw [List.length_map, List.length_map, List.length_take]; omega, same_up s11 hG, ?_⟩
        rw [List.take_succ, huj, List.map_append]
        exact li_snoc
      · rintro H11 ⟨s11, h11⟩
        rw [hdu, List.take_length] at h11
        have hsu : (u.map fun (x : Nat) => (tw x : Int)).sum = (twS u : Int) := by
          unfold twS
          rw [← nat_sum, List.map_map]
          rfl
        have D11 := D3.same s11
        refine ⟨false, G, _, rfl, sqK_l (SqL.of h11), ?_⟩
        rw [hsu]
        refine ⟨_, rfl, dl, l, 2, rfl, D11, by decide, by decide, fun r H12 h0 h1 D12 k12 => ?_⟩
        obtain ⟨n0, rfl⟩ : ∃ n : Nat, r = (n : Int) := ⟨r.toNat, by omega⟩
        refine ⟨_, _, rfl, rfl, hD' _ _ ⟨twS u + n0, by rw [show ((twS u + n0 : Nat) : Int) = (twS u : Int) + (n0 : Int) from by omega]; rfl, D12, k3.trans ((Kept.of s11).trans k12), (hq.same s11).kept k12 D11, by omega, by omega⟩⟩
    clear k3 D3 hq
    rintro σ H4 ⟨kk, rfl, D4, k4, hq, hkk1, hkk2⟩
    obtain ⟨p', w1, w2⟩ := n3 g0 hg0
    rw [hpa] at w1
    obtain rfl := Option.some.inj w1
    have npl : p ≠ l := by
      intro z
      have := n4 p (List.mem_of_getElem? hpa)
      rw [z, hxl] at this
      cases this
    have npd : p ≠ dl := by
      intro z
      have := n4 p (List.mem_of_getElem? hpa)
      rw [z, hod] at this
      cases this
    have hp4 : H4 p = some (.dT (kvL (vecs m b) (fs g0))) := k4 _ _ w2 npd npl
    have hq' : H4 q = some (.tup ((kyOf u).map kV)) := by rw [kyOf_kV]; exact hq
    have kl : (kvL (vecs m b) (fs g0)).length < sizeLine := by unfold kvL; rw [List.length_map]; omega
    refine seq_by (fun σ H5 => σ = [some (.ref dl), some (.ref mk), some (.ref lt), some (.int (b : Int)), some (.ref L), some (.ref V1), some (.ref p), some (.ref q), some (.int (kk : Int)), none] ∧ H5 = upd H4 p (.dT (kvL (vecs m b) (upF (fs g0) u (fs g0 u + 2 ^ kk))))) (fun D' hD' => ?_) ?_
    · refine ⟨_, rfl, _, rfl, p, _, rfl, .inr ⟨_, kyOf u, q, .inl hp4, rfl, hq', (kv_at hum).symm⟩, _, rfl, _, _, rfl, rfl, ⟨by omega, by omega, by decide⟩, _, _, rfl, rfl, ?_⟩
      have e2 : fs g0 u + (1 : Int) * 2 ^ ((kk : Nat) : Int).toNat = fs g0 u + 2 ^ kk := by rw [Int.toNat_natCast, Int.one_mul]
      dsimp only
      rw [e2]
      refine ⟨_, rfl, _, rfl, p, _, rfl, DPut.t (k := kyOf u) hp4 hq' kl, ?_⟩
      rw [put_old hum]
      exact hD' _ _ ⟨rfl, rfl⟩
    rintro σ H5 ⟨rfl, rfl⟩
    have hL4 : H4 L = some (.lst (as.map V.ref)) := k4 _ _ n1 nLd nLl
    have nLp : L ≠ p := ne_of hL4 hp4 (by intro z; cases z)
    refine ⟨_, rfl, kq L _ (fun g => if g = g0 then upF (fs g0) u (fs g0 u + 2 ^ kk) else fs g) hLn (D4.other npd npl) (fun a o e na nl => ?_) ⟨as, by rw [upd_ne nLp]; exact hL4, n2, fun g hg => ?_⟩ (fun g => ?_)⟩
    · have nap : a ≠ p := fun z => by
        have := n4 p (List.mem_of_getElem? hpa)
        rw [← z, e] at this
        cases this
      rw [upd_ne nap]
      exact k4 a o (s1 a o e) na nl
    · obtain ⟨p2, v1, v2⟩ := n3 g hg
      dsimp only
      by_cases e : g = g0
      · subst e
        rw [if_pos rfl]
        rw [hpa] at v1
        obtain rfl := Option.some.inj v1
        exact ⟨p, hpa, upd_same⟩
      · rw [if_neg e]
        have np2 : p2 ≠ p := fun z => by
          rw [z] at v1
          have i1 := (List.getElem?_eq_some_iff.mp v1).1
          exact e ((List.getElem?_inj i1 n5).mp (v1.trans hpa.symm))
        have np2l : p2 ≠ l := by
          intro z
          have := n4 p2 (List.mem_of_getElem? v1)
          rw [z, hxl] at this
          cases this
        have np2d : p2 ≠ dl := by
          intro z
          have := n4 p2 (List.mem_of_getElem? v1)
          rw [z, hod] at this
          cases this
        exact ⟨p2, v1, by rw [upd_ne np2]; exact k4 _ _ v2 np2d np2l⟩
    · split
      · exact (hfs g0).up hn hkk1 hkk2
      · exact (hfs g).mono (by omega)
end
end My

set_option pp.maxSteps 400
set_option Elab.async false
set_option linter.all false
set_option maxRecDepth 100000
set_option maxHeartbeats 1000000
namespace My
open PySem L2 MyR
theorem LI.kept {H H' : Hp} {L d l : Addr} {xs : List Int} (h : LI H L xs) (k : Kept d l H H') (D : Deal H d l) (nl : L ≠ l) : LI H' L xs := by
  obtain ⟨z, n', ns, hd, hl, _⟩ := D.ex
  exact k _ _ h (ne_of (show H L = some (.lst _) from h) hd (by intro z; cases z)) nl
theorem DeepL.len : ∀ {xs ys : List Nat}, DeepL xs ys → xs.length = ys.length
  | [], [], _ => rfl
  | _ :: _, _ :: _, ⟨_, h⟩ => by rw [List.length_cons, List.length_cons, DeepL.len h]
  | [], _ :: _, h => h.elim
  | _ :: _, [], h => h.elim
theorem DeepL.snoc : ∀ {xs ys : List Nat} {d e : Nat}, DeepL xs ys → d ≤ e → DeepL (xs ++ [d]) (ys ++ [e])
  | [], [], _, _, _, h => ⟨h, trivial⟩
  | _ :: _, _ :: _, _, _, ⟨h1, h2⟩, h => ⟨h1, DeepL.snoc h2 h⟩
  | [], _ :: _, _, _, h, _ => h.elim
  | _ :: _, [], _, _, h, _ => h.elim
theorem DeepL.sum : ∀ {xs ys : List Nat}, DeepL xs ys → xs.sum ≤ ys.sum
  | [], [], _ => Nat.le_refl _
  | _ :: _, _ :: _, ⟨h1, h2⟩ => by rw [List.sum_cons, List.sum_cons]; exact Nat.add_le_add h1 (DeepL.sum h2)
  | [], _ :: _, h => h.elim
  | _ :: _, [], h => h.elim
/-- the depths are not too great -/
structure FnD (m b : Nat) (W ds : List Nat) : Prop where
  ask : AskOk ds b
  w : DeepL ds W
  m : ds.length = m
theorem fnd_of {m b : Nat} {W ds : List Nat} (hW : AskOk W b) (hWm : W.length = m) (h : DeepL ds W) : FnD m b W ds := by
  have hl := h.len
  have hs := h.sum
  have h1 := hW.s
  exact ⟨⟨by rw [hl]; exact hW.m, by omega, hW.b1, hW.b64, by rw [hl]; exact hW.v⟩, h, by rw [hl, hWm]⟩
/-- a function with its depths -/
structure FnP (n : Nat) (H : Hp) (l mk lt : Addr) (b : Nat) (ds : List Nat) (fs : Nat → List Nat → Int) : Prop where
  k : MadeAt H mk ds.length b fs (2 ^ ds.sum)
  t : TupI H lt (dI ds)
  f : ∀ g, FX n (fs g)
  nl : mk ≠ l
theorem FnP.same {n : Nat} {H H' : Hp} {l mk lt : Addr} {b : Nat} {ds : List Nat} {fs : Nat → List Nat → Int} (h : FnP n H l mk lt b ds fs) (s : Same H H') : FnP n H' l mk lt b ds fs := ⟨h.k.same s, h.t.same s, h.f, h.nl⟩
theorem FnP.kept {n : Nat} {H H' : Hp} {dl l mk lt : Addr} {b : Nat} {ds : List Nat} {fs : Nat → List Nat → Int} (h : FnP n H l mk lt b ds fs) (k : Kept dl l H H') (D : Deal H dl l) : FnP n H' l mk lt b ds fs := ⟨h.k.kept k D h.nl, h.t.kept k D, h.f, h.nl⟩
theorem FnP.mono {n k : Nat} {H : Hp} {l mk lt : Addr} {b : Nat} {ds : List Nat} {fs : Nat → List Nat → Int} (h : FnP n H l mk lt b ds fs) (hk : n ≤ k) : FnP k H l mk lt b ds fs := ⟨h.k, h.t, fun g => (h.f g).mono hk, h.nl⟩
theorem FnP.updL {n : Nat} {H : Hp} {l mk lt S : Addr} {b : Nat} {ds : List Nat} {fs : Nat → List Nat → Int} {vs : List V} {o : HO} (h : FnP n H l mk lt b ds fs) (hS : H S = some (.lst vs)) (ns : mk ≠ S) : FnP n (upd H S o) l mk lt b ds fs := by
  obtain ⟨as, e1, e2, e3⟩ := h.k
  refine ⟨⟨as, by rw [upd_ne ns]; exact e1, e2, fun g hg => ?_⟩, ?_, h.f, h.nl⟩
  · obtain ⟨p, q1, q2⟩ := e3 g hg
    exact ⟨p, q1, by rw [upd_ne (ne_of q2 hS (by intro z; cases z))]; exact q2⟩
  · show upd H S o lt = _
    rw [upd_ne (ne_of (show H lt = some (.tup _) from h.t) hS (by intro z; cases z))]
    exact h.t
/-- what stands in the list of functions (S: a list that is none of its own) -/
def FnAt (H : Hp) (l S : Addr) (m b : Nat) (W : List Nat) (v : V) : Prop := ∃ (T mk lt : Addr) (ds : List Nat) (fs : Nat → List Nat → Int), v = .ref T ∧ H T = some (.tup [.ref mk, .ref lt]) ∧ FnP 220 H l mk lt b ds fs ∧ FnD m b W ds ∧ mk ≠ S
theorem FnAt.same {H H' : Hp} {l S : Addr} {m b : Nat} {W : List Nat} {v : V} (h : FnAt H l S m b W v) (s : Same H H') : FnAt H' l S m b W v := let ⟨T, mk, lt, ds, fs, e, h1, h2, h3, h4⟩ := h; ⟨T, mk, lt, ds, fs, e, s _ _ h1, h2.same s, h3, h4⟩
theorem FnAt.kept {H H' : Hp} {dl l S : Addr} {m b : Nat} {W : List Nat} {v : V} (h : FnAt H l S m b W v) (k : Kept dl l H H') (D : Deal H dl l) : FnAt H' l S m b W v := by
  obtain ⟨T, mk, lt, ds, fs, e, h1, h2, h3, h4⟩ := h
  obtain ⟨n1, n2⟩ := D.nt h1
  exact ⟨T, mk, lt, ds, fs, e, k _ _ h1 n1 n2, h2.kept k D, h3, h4⟩
theorem FnAt.new {H : Hp} {l S0 S : Addr} {m b : Nat} {W : List Nat} {v : V} (h : FnAt H l S0 m b W v) (hS : H S = none) : FnAt H l S m b W v := by
  obtain ⟨T, mk, lt, ds, fs, e, h1, h2, h3, h4⟩ := h
  refine ⟨T, mk, lt, ds, fs, e, h1, h2, h3, ?_⟩
  obtain ⟨as, e1, _⟩ := h2.k
  exact ne_of_none e1 hS
theorem FnAt.own {H : Hp} {l S : Addr} {m b : Nat} {W : List Nat} {v : V} (h : FnAt H l S m b W v) : FnAt H l l m b W v := let ⟨T, mk, lt, ds, fs, e, h1, h2, h3, _⟩ := h; ⟨T, mk, lt, ds, fs, e, h1, h2, h3, h2.nl⟩
theorem FnAt.updL {H : Hp} {l S : Addr} {m b : Nat} {W : List Nat} {v : V} {vs : List V} {o : HO} (h : FnAt H l S m b W v) (hS : H S = some (.lst vs)) : FnAt (upd H S o) l S m b W v := by
  obtain ⟨T, mk, lt, ds, fs, e, h1, h2, h3, h4⟩ := h
  exact ⟨T, mk, lt, ds, fs, e, by rw [upd_ne (ne_of h1 hS (by intro z; cases z))]; exact h1, h2.updL hS h4, h3, h4⟩
def spFns : Sp := fun vs H Q _ => ∃ (dl l lt : Addr) (ds : List Nat) (b : Nat), vs = [.ref dl, .int (b : Int), .ref lt] ∧ Deal H dl l ∧ TupI H lt (dI ds) ∧ AskOk (ds.map (· + 1)) b ∧
  ∀ (S : Addr) H' vs, Kept dl l H H' → H' S = some (.lst vs) → vs.length = 5 → (∀ v ∈ vs, FnAt H' l l ds.length b (ds.map (· + 1)) v) → Q (.ref S) H'
section
variable {P : Program} {w : World} {K : PySem.W.Frag} {mg : Str → Option Value} {base : Heap}
abbrev s_law_functions : Stmt := top 45
abbrev N_law_functions : List Str := ["_law_deal_here", "_law_wide", "_law_depths", "_law_made_here", "_law_wider", "_law_depth", "_law_again", "_law_other", "_law_found", "_law_flat", "_law_fifth"]
theorem sc_law_functions : FnScope N_law_functions ["_law_deal_here", "_law_wide", "_law_depths"] (defScope s_law_functions) := ⟨rfl, rfl, rfl, by decide +kernel, rfl, by decide +kernel, by decide +kernel⟩
theorem ok_law_functions {f : Addr} {fd : FuncData} (F : Fun K "_law_functions" "_law_functions" s_law_functions f fd) (T : Glob mg) (D_law_draw : Df P w K mg base 1 "_law_draw" ["_law_deal_here", "_law_many"] spDraw) (D_law_made : Df P w K mg base 5 "_law_made" ["_law_deal_here", "_law_depths", "_law_wide"] spMade) (D_law_newton : Df P w K mg base 5 "_law_newton" ["_law_depths", "_law_wide", "_law_entries_here"] (spNt K))
    (D_law_entries_at : Df P w K mg base 6 "_law_entries_at" ["_law_made_here", "_law_depths", "_law_other", "_law_wide"] spEntAt) (D_law_changed : Df P w K mg base 5 "_law_changed" ["_law_deal_here", "_law_made_here", "_law_depths", "_law_wide"] spChg) (D_law_spots : Df P w K mg base 5 "_law_spots" ["_law_depths", "_law_wide"] spSpots) : FnOk P w K mg base CX0 7 f fd ["_law_deal_here", "_law_wide", "_law_depths"] spFns := by
  refine F.ok sc_law_functions (fun vs H Q E h => ?_) (fun cdv A outer s H vs Q E hr h => ?_)
  · obtain ⟨dl, l, lt, ds, b, rfl, _⟩ := h
    rfl
  · obtain ⟨dl, l, lt, ds, b, rfl, D0, hlt, hW, kq⟩ := h
    have nd := sc_law_functions.nd
    refine ⟨_, (pss_cons (ps_set (i := 3) nd rfl (Or.inl rfl) (pe_call D_law_made.ok (hr.mono (by decide)) (by rfl) D_law_made.g D_law_made.kp D_law_made.b .nil pass0 (pa_cons (pv 0) (pa_cons (pv 2) (pa_cons (pv 1) pa_nil)))))
    (pss_cons (ps_set (i := 4) nd rfl (Or.inl rfl) (pe_callTy call_tuple_of (by rfl) T.g_tuple (by decide +kernel) (pa_cons (pe_lc (own := [("_law_depth", 5)]) (g := gName 5) (tt := tYes) rfl nd (pi_tup (pv 2)) (blkOk_by (N := N_law_functions) (sc := defScope s_law_functions) (by decide +kernel)) (fun _ _ _ _ _ => pg_name (i := 5) nd rfl (Or.inl rfl)) (fun _ _ _ _ _ => pts_nil) (fun _ _ _ _ _ => (pe_op op_add (pv 5) (pe_call D_law_draw.ok (hr.mono (by decide)) (by rfl) D_law_draw.g D_law_draw.kp D_law_draw.b .nil pass0 (pa_cons (pv 0) (pa_cons pe_int pa_nil)))))) pa_nil)))
    (pss_cons (ps_set (i := 6) nd rfl (Or.inl rfl) (pe_call D_law_newton.ok (hr.mono (by decide)) (by rfl) D_law_newton.g D_law_newton.kp D_law_newton.b .nil pass0 (pa_cons (pv 4) (pa_cons (pv 1) (pa_cons (pe_call D_law_entries_at.ok (hr.mono (by decide)) (by rfl) D_law_entries_at.g D_law_entries_at.kp D_law_entries_at.b .nil pass0 (pa_cons (pv 3) (pa_cons (pv 2) (pa_cons (pv 4) (pa_cons (pv 1) pa_nil))))) pa_nil)))))
    (pss_cons (ps_set (i := 7) nd rfl (Or.inl rfl) (pe_callTy call_tuple_of (by rfl) T.g_tuple (by decide +kernel) (pa_cons (pe_lc (own := [("_law_depth", 5)]) (g := gName 5) (tt := tYes) rfl nd (pi_tup (pv 2)) (blkOk_by (N := N_law_functions) (sc := defScope s_law_functions) (by decide +kernel)) (fun _ _ _ _ _ => pg_name (i := 5) nd rfl (Or.inl rfl)) (fun _ _ _ _ _ => pts_nil) (fun _ _ _ _ _ => (pe_call D_law_draw.ok (hr.mono (by decide)) (by rfl) D_law_draw.g D_law_draw.kp D_law_draw.b .nil pass0 (pa_cons (pv 0) (pa_cons pe_int pa_nil))))) pa_nil)))
    (pss_cons (ps_set (i := 8) nd rfl (Or.inl rfl) (pe_lst (pa_cons (pe_tup (pa_cons (pv 3) (pa_cons (pv 2) pa_nil))) (pa_cons (pe_tup (pa_cons (pv 6) (pa_cons (pv 4) pa_nil))) (pa_cons (pe_tup (pa_cons (pe_call D_law_changed.ok (hr.mono (by decide)) (by rfl) D_law_changed.g D_law_changed.kp D_law_changed.b .nil pass0 (pa_cons (pv 0) (pa_cons (pv 3) (pa_cons (pv 2) (pa_cons (pv 1) pa_nil))))) (pa_cons (pv 2) pa_nil))) pa_nil)))))
    (pss_cons (ps_expr (pe_bm PySem.F.plainAttrs_list PySem.F.slot_list_append PySem.F.type_list_append mt_append (pv 8) (pa_cons (pe_tup (pa_cons (pe_call D_law_changed.ok (hr.mono (by decide)) (by rfl) D_law_changed.g D_law_changed.kp D_law_changed.b .nil pass0 (pa_cons (pv 0) (pa_cons (pv 6) (pa_cons (pv 4) (pa_cons (pv 1) pa_nil))))) (pa_cons (pv 4) pa_nil))) pa_nil)))
    (pss_cons (ps_set (i := 9) nd rfl (Or.inl rfl) (pe_op op_rep (pe_lst (pa_cons (pe_call D_law_draw.ok (hr.mono (by decide)) (by rfl) D_law_draw.g D_law_draw.kp D_law_draw.b .nil pass0 (pa_cons (pv 0) (pa_cons (pe_op op_shl pe_int (pv 1)) pa_nil))) pa_nil)) (pe_callB call_len_seq (by rfl) T.g_len PySem.boot_len (pa_cons (pe_call D_law_spots.ok (hr.mono (by decide)) (by rfl) D_law_spots.g D_law_spots.kp D_law_spots.b .nil pass0 (pa_cons (pv 7) (pa_cons (pv 1) pa_nil))) pa_nil))))
    (pss_cons (ps_set (i := 10) nd rfl (Or.inl rfl) (pe_ifExp (pt_cmpR op_eq (pe_call D_law_draw.ok (hr.mono (by decide)) (by rfl) D_law_draw.g D_law_draw.kp D_law_draw.b .nil pass0 (pa_cons (pv 0) (pa_cons pe_int pa_nil))) pe_int (nomark _)) (pe_call D_law_newton.ok (hr.mono (by decide)) (by rfl) D_law_newton.g D_law_newton.kp D_law_newton.b .nil pass0 (pa_cons (pv 7) (pa_cons (pv 1) (pa_cons (pv 9) pa_nil)))) (pe_call D_law_made.ok (hr.mono (by decide)) (by rfl) D_law_made.g D_law_made.kp D_law_made.b .nil pass0 (pa_cons (pv 0) (pa_cons (pv 7) (pa_cons (pv 1) pa_nil))))))
    (pss_one (ps_ret (pe_op op_cat (pv 8) (pe_lst (pa_cons (pe_tup (pa_cons (pv 10) (pa_cons (pv 7) pa_nil))) pa_nil))))))))))))), ?_⟩
    have zl : 16777216 = sizeLine := sizeLine_eq.symm
    obtain ⟨W, hWd⟩ : ∃ W, W = ds.map (· + 1) := ⟨_, rfl⟩
    rw [← hWd] at hW kq
    have hWl : W.length = ds.length := by rw [hWd, List.length_map]
    have hdl : ((dI ds).map V.int).length = ds.length := by rw [List.length_map]; unfold dI; rw [List.length_map]
    have hb1 := hW.b1
    have hb := hW.b64
    have dW : ∀ i, DeepL (ds.take i) ((ds.take i).map (· + 1)) := fun i => by
      generalize ds.take i = xs
      induction xs with
      | nil => trivial
      | cons x xs ih => exact ⟨Nat.le_succ _, ih⟩
    have fD : FnD ds.length b W ds := fnd_of hW hWl (by have := dW ds.length; rw [List.take_length] at this; rw [hWd]; exact this)
    have ask := fD.ask
    have hm := ask.m
    have tkS : ∀ {i : Nat} (h : i < ds.length), ds.take (i + 1) = ds.take i ++ [ds[i]] := fun {i} h => by
      rw [List.take_succ, List.getElem?_eq_getElem h]
      rfl
    have dIat : ∀ {i : Nat} (h : i < ds.length), ((dI ds).map V.int)[i]? = some (.int ((ds[i] : Nat) : Int)) := fun {i} h => by
      have : (dI ds)[i]? = some ((ds[i] : Nat) : Int) := by unfold dI; rw [List.getElem?_map, List.getElem?_eq_getElem h]; rfl
      exact map_at_int this
    refine seq_by (fun σ H1 => ∃ (mk : Addr) (f0 : Nat → List Nat → Int), σ = [some (.ref dl), some (.int (b : Int)), some (.ref lt), some (.ref mk), none, none, none, none, none, none, none] ∧ Deal H1 dl l ∧ Kept dl l H H1 ∧ FnP 128 H1 l mk lt b ds f0) (fun D' hD' => ?_) ?_
    · exact ⟨_, rfl, _, rfl, _, rfl, dl, l, lt, ds, b, rfl, D0, hlt, hm, ask.s, hb1, hb, ask.v, fun L H1 fs hLn D1 k1 m1 o1 => hD' _ _ ⟨L, fs, rfl, D1, k1, m1, hlt.kept k1 D0, fun g => (o1 g).fx, (D0.free hLn).2⟩⟩
    rintro σ H1 ⟨mk, f0, rfl, D1, k1, P1⟩
    refine seq_by (fun σ H2 => ∃ (lw : Addr) (ws : List Nat), σ = [some (.ref dl), some (.int (b : Int)), some (.ref lt), some (.ref mk), some (.ref lw), none, none, none, none, none, none] ∧ Deal H2 dl l ∧ Kept dl l H H2 ∧ FnP 128 H2 l mk lt b ds f0 ∧ TupI H2 lw (dI ws) ∧ DeepL ds ws ∧ DeepL ws W) (fun D' hD' => ?_) ?_
    · have DD := D1
      have PP := P1
      refine ⟨_, rfl, lt, rfl, ⟨_, SqT.of P1.t⟩, fun D hD => ?_⟩
      obtain ⟨nDd, nDl⟩ := D1.free hD
      refine lc_it (walk_tup (xs := (dI ds).map V.int)) (fun i H5 => Deal H5 dl l ∧ Kept dl l H1 H5 ∧ ∃ ns : List Nat, LI H5 D (dI ns) ∧ ns.length = i ∧ DeepL (ds.take i) ns ∧ DeepL ns ((ds.take i).map (· + 1))) ⟨DD.new hD, Kept.of (new_same hD), [], upd_same, rfl, trivial, trivial⟩ (fun i H5 _ h => SqT.of (PP.t.kept h.2.1 DD)) ?_ ?_
      · rintro i x H5 H6 hi ⟨D5, k5, ns, h5, hnl, hn1, hn2⟩ ⟨rfl, hx⟩
        rw [hdl] at hi
        have hx : ((dI ds).map V.int)[i]? = some x := hx
        rw [dIat hi] at hx
        obtain rfl := Option.some.inj hx
        refine ⟨rfl, ?_⟩
        dsimp only [tYes]
        rw [if_pos rfl]
        refine ⟨_, rfl, _, rfl, dl, l, 2, rfl, D5, by decide, by decide, fun r H7 hr0 hr1 D7 k7 => ?_⟩
        obtain ⟨n, rfl⟩ : ∃ n : Nat, r = (n : Int) := ⟨r.toNat, by omega⟩
        have h7 := h5.kept k7 D5 nDl
        refine ⟨_, _, rfl, rfl, _, h7, by rw [List.length_map]; unfold dI; rw [List.length_map]; have := hm; omega, D7.other nDd nDl, fun a o e h1 h2 => by rw [upd_ne (ne_of_none e hD)]; exact (k5.trans k7) a o e h1 h2, ns ++ [ds[i] + n], ?_, by rw [List.length_append, hnl]; rfl, by rw [tkS hi]; exact hn1.snoc (by omega), by rw [tkS hi, List.map_append]; exact hn2.snoc (by show _ ≤ ds[i] + 1; omega)⟩
        show upd _ _ _ _ = _
        rw [upd_same]
        unfold dI
        rw [List.map_append, List.map_append]
        rfl
      · rintro H5 ⟨D5, k5, ns, h5, hnl, hn1, hn2⟩
        rw [hdl] at hnl hn1 hn2
        rw [List.take_length] at hn1 hn2
        refine ⟨D, _, rfl, .inl ⟨SqL.of h5, fun t ht => ?_⟩⟩
        have st := new_same (o := .tup ((dI ns).map V.int)) ht
        exact hD' _ _ ⟨t, ns, rfl, D5.new ht, k1.trans (k5.trans (Kept.of st)), (P1.kept k5 D1).same st, upd_same, hn1, by rw [hWd]; exact hn2⟩
    clear k1 D1 P1
    rintro σ H2 ⟨lw, ws, rfl, D2, k2, P2, hw2, dw1, dw2⟩
    have fW : FnD ds.length b W ws := fnd_of hW hWl dw2
    have c0 : TbOk ds b (fun g => csOf ds.length (f0 g)) := ⟨hm, ask.s, hb1, hb, ask.v, fun g => csOf_divX hm (P2.f g)⟩
    refine seq_by (fun σ H3 => ∃ (ma : Addr) (f1 : Nat → List Nat → Int), σ = [some (.ref dl), some (.int (b : Int)), some (.ref lt), some (.ref mk), some (.ref lw), none, some (.ref ma), none, none, none, none] ∧ Deal H3 dl l ∧ Kept dl l H H3 ∧ FnP 128 H3 l mk lt b ds f0 ∧ FnP 196 H3 l ma lw b ws f1) (fun D' hD' => ?_) ?_
    · refine ⟨_, rfl, _, rfl, _, rfl, _, rfl, _, rfl, _, rfl, mk, lt, lw, ds, ws, b, f0, rfl, P2.k, fun g => (P2.f g).mono (by decide), P2.t, hw2, ask, fW.ask, fW.m, fun E3 H3 hE s3 hE3 => ?_⟩
      have hbits : ∀ x ∈ (spotsL ws b).map (valT b (fun g => csOf ds.length (f0 g)) ds), x.natAbs < 2 ^ 64 := fun x hx => by
        obtain ⟨p, _, rfl⟩ := List.mem_map.mp hx
        obtain ⟨a0, a1⟩ := valT_lt b (fun g => csOf ds.length (f0 g)) ds p
        have pb : (2 : Int) ^ b ≤ 2 ^ 64 := Int.le_of_dvd (by decide) (p2_dvd hb)
        have q1 : (2 : Int) ^ 64 = 18446744073709551616 := by decide
        have q2 : (2 : Nat) ^ 64 = 18446744073709551616 := by decide
        omega
      refine ⟨lw, E3, ws, b, _, rfl, hw2.same s3, hE3, fW.ask, by rw [List.length_map, spots_len fW.ask.m], hbits, fun L H4 hL s4 m4 => ?_⟩
      have s34 := s3.trans s4
      exact hD' _ _ ⟨L, _, rfl, D2.same s34, k2.trans (Kept.of s34), P2.same s34, m4, hw2.same s34, fun g => fN_fx fW.ask ((valT_loc hb1 hb c0.d).deep dw1) (fun x _ => valT_lt b _ ds x) g, (D2.free (same_free s3 hL)).2⟩
    clear k2 D2 P2 hw2
    rintro σ H3 ⟨ma, f1, rfl, D3, k3, P3, A3⟩
    refine seq_by (fun σ H4 => ∃ (lo : Addr) (os : List Nat), σ = [some (.ref dl), some (.int (b : Int)), some (.ref lt), some (.ref mk), some (.ref lw), none, some (.ref ma), some (.ref lo), none, none, none] ∧ Deal H4 dl l ∧ Kept dl l H H4 ∧ FnP 128 H4 l mk lt b ds f0 ∧ FnP 196 H4 l ma lw b ws f1 ∧ TupI H4 lo (dI os) ∧ DeepL os W) (fun D' hD' => ?_) ?_
    · have DD := D3
      have PP := P3
      refine ⟨_, rfl, lt, rfl, ⟨_, SqT.of P3.t⟩, fun D hD => ?_⟩
      obtain ⟨nDd, nDl⟩ := D3.free hD
      refine lc_it (walk_tup (xs := (dI ds).map V.int)) (fun i H5 => Deal H5 dl l ∧ Kept dl l H3 H5 ∧ ∃ ns : List Nat, LI H5 D (dI ns) ∧ ns.length = i ∧ DeepL ns ((ds.take i).map (· + 1))) ⟨DD.new hD, Kept.of (new_same hD), [], upd_same, rfl, trivial⟩ (fun i H5 _ h => SqT.of (PP.t.kept h.2.1 DD)) ?_ ?_
      · rintro i x H5 H6 hi ⟨D5, k5, ns, h5, hnl, hn2⟩ ⟨rfl, hx⟩
        rw [hdl] at hi
        have hx : ((dI ds).map V.int)[i]? = some x := hx
        rw [dIat hi] at hx
        obtain rfl := Option.some.inj hx
        refine ⟨rfl, ?_⟩
        dsimp only [tYes]
        rw [if_pos rfl]
        refine ⟨_, rfl, dl, l, 2, rfl, D5, by decide, by decide, fun r H7 hr0 hr1 D7 k7 => ?_⟩
        obtain ⟨n, rfl⟩ : ∃ n : Nat, r = (n : Int) := ⟨r.toNat, by omega⟩
        have h7 := h5.kept k7 D5 nDl
        refine ⟨_, h7, by rw [List.length_map]; unfold dI; rw [List.length_map]; have := hm; omega, D7.other nDd nDl, fun a o e h1 h2 => by rw [upd_ne (ne_of_none e hD)]; exact (k5.trans k7) a o e h1 h2, ns ++ [n], ?_, by rw [List.length_append, hnl]; rfl, by rw [tkS hi, List.map_append]; exact hn2.snoc (by show _ ≤ ds[i] + 1; omega)⟩
        show upd _ _ _ _ = _
        rw [upd_same]
        unfold dI
        rw [List.map_append, List.map_append]
        rfl
      · rintro H5 ⟨D5, k5, ns, h5, hnl, hn2⟩
        rw [hdl] at hnl hn2
        rw [List.take_length] at hn2
        refine ⟨D, _, rfl, .inl ⟨SqL.of h5, fun t ht => ?_⟩⟩
        have st := new_same (o := .tup ((dI ns).map V.int)) ht
        exact hD' _ _ ⟨t, ns, rfl, D5.new ht, k3.trans (k5.trans (Kept.of st)), (P3.kept k5 D3).same st, (A3.kept k5 D3).same st, upd_same, by rw [hWd]; exact hn2⟩
    clear k3 D3 P3 A3
    rintro σ H4 ⟨lo, os, rfl, D4, k4, P4, A4, ho4, do2⟩
    have fO : FnD ds.length b W os := fnd_of hW hWl do2
    refine seq_by (fun σ H5 => ∃ (S : Addr) (vs : List V), σ = [some (.ref dl), some (.int (b : Int)), some (.ref lt), some (.ref mk), some (.ref lw), none, some (.ref ma), some (.ref lo), some (.ref S), none, none] ∧ Deal H5 dl l ∧ Kept dl l H H5 ∧ FnP 196 H5 l ma lw b ws f1 ∧ TupI H5 lo (dI os) ∧ H5 S = some (.lst vs) ∧ vs.length = 3 ∧ (∀ v ∈ vs, FnAt H5 l S ds.length b W v) ∧ ma ≠ S ∧ S ≠ l ∧ S ≠ dl ∧ H S = none) (fun D' hD' => ?_) ?_
    · refine ⟨_, rfl, _, rfl, (by show 2 ≤ sizeLine; omega), fun T1 hT1 => ?_⟩
      have n1 := new_same (o := .tup [V.ref mk, .ref lt]) hT1
      have hT1' : upd H4 T1 (.tup [V.ref mk, .ref lt]) T1 = some (.tup [V.ref mk, .ref lt]) := upd_same
      have D5 := D4.same n1
      have P5 := P4.same n1
      have A5 := A4.same n1
      have ho5 := ho4.same n1
      have k5 := k4.trans (Kept.of n1)
      generalize upd H4 T1 (.tup [V.ref mk, .ref lt]) = H5 at hT1' D5 P5 A5 ho5 k5 ⊢
      refine ⟨_, rfl, _, rfl, (by show 2 ≤ sizeLine; omega), fun T2 hT2 => ?_⟩
      have n2 := new_same (o := .tup [V.ref ma, .ref lw]) hT2
      have hT2' : upd H5 T2 (.tup [V.ref ma, .ref lw]) T2 = some (.tup [V.ref ma, .ref lw]) := upd_same
      have hT16 := n2 _ _ hT1'
      have D6 := D5.same n2
      have P6 := P5.same n2
      have A6 := A5.same n2
      have ho6 := ho5.same n2
      have k6 := k5.trans (Kept.of n2)
      generalize upd H5 T2 (.tup [V.ref ma, .ref lw]) = H6 at hT2' hT16 D6 P6 A6 ho6 k6 ⊢
      have F1 : FnAt H6 l l ds.length b W (.ref T1) := ⟨T1, mk, lt, ds, f0, rfl, hT16, P6.mono (by decide), fD, P6.nl⟩
      have F2 : FnAt H6 l l ds.length b W (.ref T2) := ⟨T2, ma, lw, ws, f1, rfl, hT2', A6.mono (by decide), fW, A6.nl⟩
      refine ⟨_, rfl, _, rfl, _, rfl, _, rfl, dl, l, mk, lt, ds, b, 128, f0, rfl, D6, P6.k, P6.nl, P6.f, by decide, P6.t, ask, fun L H7 f3 hL D7 k7 m7 o7 => ?_⟩
      have nLl := (D6.free hL).2
      refine ⟨_, rfl, (by show 2 ≤ sizeLine; omega), fun T3 hT3 => ?_⟩
      have n3 := new_same (o := .tup [V.ref L, .ref lt]) hT3
      have F3 : FnAt (upd H7 T3 (.tup [V.ref L, .ref lt])) l l ds.length b W (.ref T3) := ⟨T3, L, lt, ds, f3, rfl, upd_same, ⟨m7.same n3, (P6.t.kept k7 D6).same n3, fun g => (o7 g).mono (by decide), nLl⟩, fD, nLl⟩
      have F1' := (F1.kept k7 D6).same n3
      have F2' := (F2.kept k7 D6).same n3
      have D8 := D7.same n3
      have A8 := (A6.kept k7 D6).same n3
      have ho8 := (ho6.kept k7 D6).same n3
      have k8 := k6.trans (k7.trans (Kept.of n3))
      generalize upd H7 T3 (.tup [V.ref L, .ref lt]) = H8 at F3 F1' F2' D8 A8 ho8 k8 ⊢
      refine ⟨(by show 3 ≤ sizeLine; omega), fun S hS => ?_⟩
      have n4 := new_same (o := .lst [V.ref T1, .ref T2, .ref T3]) hS
      have nmS : ma ≠ S := by
        obtain ⟨as, e1, _⟩ := A8.k
        exact ne_of_none e1 hS
      refine hD' _ _ ⟨S, _, rfl, D8.same n4, k8.trans (Kept.of n4), A8.same n4, ho8.same n4, upd_same, rfl, fun v hv => ?_, nmS, (D8.free hS).2, (D8.free hS).1, k8.free D8 hS⟩
      rcases List.mem_cons.mp hv with rfl | hv
      · exact (F1'.new hS).same n4
      rcases List.mem_cons.mp hv with rfl | hv
      · exact (F2'.new hS).same n4
      rw [List.mem_singleton.mp hv]
      exact (F3.new hS).same n4
    clear k4 D4 P4 A4 ho4
    rintro σ H5 ⟨S, vs, rfl, D5, k5, A5, ho5, hS5, hvl, hvs, nmS, nSl, nSd, hSn⟩
    refine seq_by (fun σ H6 => ∃ (vs : List V), σ = [some (.ref dl), some (.int (b : Int)), some (.ref lt), some (.ref mk), some (.ref lw), none, some (.ref ma), some (.ref lo), some (.ref S), none, none] ∧ Deal H6 dl l ∧ Kept dl l H H6 ∧ TupI H6 lo (dI os) ∧ H6 S = some (.lst vs) ∧ vs.length = 4 ∧ (∀ v ∈ vs, FnAt H6 l l ds.length b W v)) (fun D' hD' => ?_) ?_
    · refine ⟨_, rfl, .inl ⟨rfl, _, SqL.of hS5⟩, _, rfl, _, rfl, _, rfl, _, rfl, dl, l, ma, lw, ws, b, 196, f1, rfl, D5, A5.k, A5.nl, A5.f, by decide, A5.t, fW.ask, fun L H6 f3 hL D6 k6 m6 o6 => ?_⟩
      have nLl := (D5.free hL).2
      have nLS : L ≠ S := (ne_of_none hS5 hL).symm
      have hS6 := k6 _ _ hS5 nSd nSl
      refine ⟨_, rfl, (by show 2 ≤ sizeLine; omega), fun T3 hT3 => ?_⟩
      have n3 := new_same (o := .tup [V.ref L, .ref lw]) hT3
      have P3 : FnP 220 (upd H6 T3 (.tup [V.ref L, .ref lw])) l L lw b ws f3 := ⟨m6.same n3, (A5.t.kept k6 D5).same n3, fun g => (o6 g).mono (by decide), nLl⟩
      have hT3' : upd H6 T3 (.tup [V.ref L, .ref lw]) T3 = some (.tup [V.ref L, .ref lw]) := upd_same
      have D7 := D6.same n3
      have ho7 := (ho5.kept k6 D5).same n3
      have k7 := k5.trans (k6.trans (Kept.of n3))
      have hS7 := n3 _ _ hS6
      have hvs7 : ∀ v ∈ vs, FnAt (upd H6 T3 (.tup [V.ref L, .ref lw])) l S ds.length b W v := fun v hv => ((hvs v hv).kept k6 D5).same n3
      generalize upd H6 T3 (.tup [V.ref L, .ref lw]) = H7 at P3 hT3' D7 ho7 k7 hS7 hvs7 ⊢
      refine ⟨S, _, _, rfl, rfl, hS7, by omega, hD' _ _ ⟨_, rfl, D7.other nSd nSl, fun a o e h1 h2 => ?_, ?_, upd_same, by rw [List.length_append, hvl]; rfl, fun v hv => ?_⟩⟩
      · rw [upd_ne (ne_of_none e hSn)]
        exact k7 a o e h1 h2
      · show upd H7 S _ lo = _
        rw [upd_ne (ne_of (show H7 lo = some (.tup _) from ho7) hS7 (by intro z; cases z))]
        exact ho7
      · rcases List.mem_append.mp hv with hv | hv
        · exact ((hvs7 v hv).updL hS7).own
        · rw [List.mem_singleton.mp hv]
          exact (FnAt.updL (S := S) ⟨T3, L, lw, ws, f3, rfl, hT3', P3, fW, nLS⟩ hS7).own
    clear D5 k5 A5 ho5 hS5 hvl hvs vs
    rintro σ H6 ⟨vs, rfl, D6, k6, ho6, hS6, hvl, hvs⟩
    have pb : (2 : Int) ^ b ≤ 2 ^ 64 := Int.le_of_dvd (by decide) (p2_dvd hb)
    have q1 : (2 : Int) ^ 64 = 18446744073709551616 := by decide
    have q2 : (2 : Nat) ^ 64 = 18446744073709551616 := by decide
    have q3 : (2 : Nat) ^ 110 = 1298074214633706907132624082305024 := by decide
    have hp2 := p2_pos b
    have eS : (1 : Int) * 2 ^ ((b : Nat) : Int).toNat = 2 ^ b := by rw [Int.toNat_natCast, Int.one_mul]
    have hsl := spots_len (b := b) fO.ask.m
    have hsmul : 2 ^ os.sum * (vecs os.length b).length ≤ 256 * 5000 := Nat.mul_le_mul (Nat.pow_le_pow_right (n := 2) (by decide) fO.ask.s) (Nat.le_of_lt fO.ask.v)
    refine seq_by (fun σ H7 => ∃ (FL : Addr) (v : Int), σ = [some (.ref dl), some (.int (b : Int)), some (.ref lt), some (.ref mk), some (.ref lw), none, some (.ref ma), some (.ref lo), some (.ref S), some (.ref FL), none] ∧ Deal H7 dl l ∧ Kept dl l H H7 ∧ TupI H7 lo (dI os) ∧ H7 S = some (.lst vs) ∧ (∀ v ∈ vs, FnAt H7 l l ds.length b W v) ∧ LI H7 FL ((spotsL os b).map fun _ => v) ∧ 0 ≤ v ∧ v < 2 ^ b ∧ FL ≠ l) (fun D' hD' => ?_) ?_
    · refine ⟨_, rfl, _, rfl, _, _, rfl, rfl, ⟨by omega, by omega, by decide⟩, dl, l, _, rfl, D6, by rw [eS]; exact hp2, by rw [eS]; omega, fun v H7 h0 h1 D7 k7 => ?_⟩
      rw [eS] at h1
      have hS7 := k6
      refine ⟨(by show 1 ≤ sizeLine; omega), fun z hz => ?_⟩
      have nz := new_same (o := .lst [V.int v]) hz
      have ho8 := (ho6.kept k7 D6).same nz
      have D8 := D7.same nz
      have k8 := k6.trans (k7.trans (Kept.of nz))
      have S8 : upd H7 z (.lst [V.int v]) S = some (.lst vs) := nz _ _ (k7 _ _ hS6 nSd nSl)
      have v8 : ∀ w ∈ vs, FnAt (upd H7 z (.lst [V.int v])) l l ds.length b W w := fun w hw => ((hvs w hw).kept k7 D6).same nz
      have z8 : upd H7 z (.lst [V.int v]) z = some (.lst [V.int v]) := upd_same
      generalize upd H7 z (.lst [V.int v]) = H8 at ho8 D8 k8 S8 v8 z8 ⊢
      refine ⟨_, rfl, _, rfl, lo, os, b, rfl, ho8, fO.ask.m, fO.ask.s, hb1, hb, fO.ask.v, fun SP H9 hSP s9 hl9 => ?_⟩
      obtain ⟨us, hus⟩ : ∃ us, LTV H9 SP us (spotsL os b) := hl9.lenV
      refine ⟨SP, _, rfl, .inl (SqL.of hus.1), z, _, _, rfl, rfl, s9 _ _ z8, by omega, by rw [hus.2.1]; omega, by rw [hus.2.1]; show 1 * _ ≤ sizeLine; omega, fun FL hFL => ?_⟩
      rw [Int.toNat_natCast, hus.2.1]
      have eF : (List.replicate (spotsL os b).length [V.int v]).flatten = ((spotsL os b).map fun _ => v).map V.int := by rw [rep_flat, const_map, List.map_replicate]
      rw [eF]
      have sL := new_same (o := .lst (((spotsL os b).map fun _ => v).map V.int)) hFL
      have s89 := s9.trans sL
      exact hD' _ _ ⟨FL, v, rfl, D8.same s89, k8.trans (Kept.of s89), ho8.same s89, s89 _ _ S8, fun w hw => (v8 w hw).same s89, upd_same, h0, h1, ((D8.same s9).free hFL).2⟩
    clear D6 k6 ho6 hS6 hvs
    rintro σ H7 ⟨FL, v, rfl, D7, k7, ho7, hS7, hvs, hFL, hv0, hv1, nFl⟩
    refine seq_by (fun σ H8 => ∃ (mf : Addr) (ff : Nat → List Nat → Int), σ = [some (.ref dl), some (.int (b : Int)), some (.ref lt), some (.ref mk), some (.ref lw), none, some (.ref ma), some (.ref lo), some (.ref S), some (.ref FL), some (.ref mf)] ∧ Kept dl l H H8 ∧ H8 S = some (.lst vs) ∧ (∀ v ∈ vs, FnAt H8 l l ds.length b W v) ∧ FnP 220 H8 l mf lo b os ff) (fun D' hD' => ?_) ?_
    · refine ⟨_, rfl, dl, l, 2, rfl, D7, by decide, by decide, fun r H8 h0 h1 D8 k8 => ⟨rfl, _, rfl, ?_⟩⟩
      have ho8 := ho7.kept k8 D7
      have hS8 := k8 _ _ hS7 nSd nSl
      have hvs8 : ∀ w ∈ vs, FnAt H8 l l ds.length b W w := fun w hw => (hvs w hw).kept k8 D7
      have hFL8 := hFL.kept k8 D7 nFl
      have k08 := k7.trans k8
      refine ite2 (fun _ => ?_) (fun _ => ?_)
      · have hbits : ∀ x ∈ (spotsL os b).map (fun _ => v), x.natAbs < 2 ^ 64 := fun x hx => by
          obtain ⟨p, _, rfl⟩ := List.mem_map.mp hx
          omega
        refine ⟨_, rfl, _, rfl, _, rfl, lo, FL, os, b, _, rfl, ho8, hFL8, fO.ask, by rw [List.length_map, hsl], hbits, fun L H9 hL s9 m9 => ?_⟩
        exact hD' _ _ ⟨L, _, rfl, k08.trans (Kept.of s9), s9 _ _ hS8, fun w hw => (hvs8 w hw).same s9, m9, ho8.same s9, fun g => (fN_fx fO.ask (LocP.const os b v) (fun _ _ => ⟨hv0, hv1⟩) g).mono (by decide), (D8.free hL).2⟩
      · refine ⟨_, rfl, _, rfl, _, rfl, dl, l, lo, os, b, rfl, D8, ho8, fO.ask.m, fO.ask.s, hb1, hb, fO.ask.v, fun L H9 fs hLn D9 k9 m9 o9 => ?_⟩
        exact hD' _ _ ⟨L, _, rfl, k08.trans k9, k9 _ _ hS8 nSd nSl, fun w hw => (hvs8 w hw).kept k9 D8, m9, ho8.kept k9 D8, fun g => (o9 g).fx.mono (by decide), (D8.free hLn).2⟩
    clear D7 k7 ho7 hS7 hvs hFL
    rintro σ H8 ⟨mf, ff, rfl, k8, hS8, hvs, PF⟩
    refine ⟨_, rfl, _, rfl, _, rfl, (by show 2 ≤ sizeLine; omega), fun T1 hT1 => ?_⟩
    have n1 := new_same (o := .tup [V.ref mf, .ref lo]) hT1
    have F1 : FnAt (upd H8 T1 (.tup [V.ref mf, .ref lo])) l l ds.length b W (.ref T1) := ⟨T1, mf, lo, os, ff, rfl, upd_same, PF.same n1, fO, PF.nl⟩
    have S9 := n1 _ _ hS8
    have v9 : ∀ w ∈ vs, FnAt (upd H8 T1 (.tup [V.ref mf, .ref lo])) l l ds.length b W w := fun w hw => (hvs w hw).same n1
    have k9 := k8.trans (Kept.of n1)
    generalize upd H8 T1 (.tup [V.ref mf, .ref lo]) = H9 at F1 S9 v9 k9 ⊢
    refine ⟨(by show 1 ≤ sizeLine; omega), fun z hz => ?_⟩
    have n2 := new_same (o := .lst [V.ref T1]) hz
    refine ⟨S, z, vs, _, rfl, rfl, n2 _ _ S9, upd_same, by show vs.length + 1 ≤ sizeLine; omega, fun p hp => ?_⟩
    have n3 := new_same (o := .lst (vs ++ [V.ref T1])) hp
    have n23 := n2.trans n3
    refine kq p _ _ (k9.trans (Kept.of n23)) upd_same (by rw [List.length_append, hvl]; rfl) fun w hw => ?_
    rcases List.mem_append.mp hw with hw | hw
    · exact (v9 w hw).same n23
    · rw [List.mem_singleton.mp hw]
      exact F1.same n23
end
end My

set_option pp.maxSteps 300
set_option Elab.async false
set_option linter.all false
set_option maxRecDepth 100000
set_option maxHeartbeats 1000000
namespace My
open PySem L2 MyR
structure SpOk (ds : List Nat) (b : Nat) : Prop where
  m : ds.length = 1 ∨ ds.length = 2
  s : ds.sum ≤ 8
  b1 : 1 ≤ b
  b64 : b ≤ 64
  v : (vecs ds.length b).length < 5000
  w : (ds.map (· + 1)).sum ≤ 8
  n : 2 ^ ds.sum * (vecs ds.length b).length ≤ 200
theorem sp1 {d b : Nat} (hd : d = 0 ∨ d ≤ 3 ∧ b ≤ 10) (h1 : 1 ≤ b) (h2 : b ≤ 64) : SpOk [d] b := by
  have hv : (vecs 1 b).length = W b := vecs_one b
  have h66 := W_66 h2
  have hle := W_le b
  refine ⟨.inl rfl, by show d + 0 ≤ 8; omega, h1, h2, by show (vecs 1 b).length < 5000; omega, by show d + 1 + 0 ≤ 8; omega, ?_⟩
  show 2 ^ (d + 0) * (vecs 1 b).length ≤ 200
  rw [hv, Nat.add_zero]
  rcases hd with rfl | ⟨hd, hb⟩
  · omega
  · have h8 : (2 : Nat) ^ d ≤ 2 ^ 3 := Nat.pow_le_pow_right (by decide) hd
    exact Nat.le_trans (Nat.mul_le_mul h8 (show W b ≤ 22 by omega)) (by decide)
theorem vec2 {b : Nat} (h1 : 1 ≤ b) (h2 : b ≤ 8) : (vecs 2 b).length ≤ 80 ∧ (b ≤ 3 → (vecs 2 b).length ≤ 16) := by
  have : b = 1 ∨ b = 2 ∨ b = 3 ∨ b = 4 ∨ b = 5 ∨ b = 6 ∨ b = 7 ∨ b = 8 := by omega
  rcases this with rfl | rfl | rfl | rfl | rfl | rfl | rfl | rfl <;> decide +kernel
theorem sp2 {d1 d2 b : Nat} (hd : d1 + d2 ≤ 2 ∧ b ≤ 3 ∨ d1 + d2 = 0 ∧ b ≤ 8) (h1 : 1 ≤ b) (h2 : b ≤ 8) : SpOk [d1, d2] b := by
  obtain ⟨v1, v2⟩ := vec2 h1 h2
  refine ⟨.inr rfl, by show d1 + (d2 + 0) ≤ 8; omega, h1, by omega, by show (vecs 2 b).length < 5000; omega, by show d1 + 1 + (d2 + 1 + 0) ≤ 8; omega, ?_⟩
  show 2 ^ (d1 + (d2 + 0)) * (vecs 2 b).length ≤ 200
  rw [Nat.add_zero]
  rcases hd with ⟨hd, hb⟩ | ⟨hd, hb⟩
  · have h8 : (2 : Nat) ^ (d1 + d2) ≤ 2 ^ 2 := Nat.pow_le_pow_right (by decide) hd
    exact Nat.le_trans (Nat.mul_le_mul h8 (v2 hb)) (by decide)
  · rw [hd]
    omega
/-- a pair of depths and a width -/
def ShA (H : Hp) (v : V) : Prop := ∃ (T lt : Addr) (ds : List Nat) (b : Nat), v = .ref T ∧ H T = some (.tup [.ref lt, .int (b : Int)]) ∧ TupI H lt (dI ds) ∧ SpOk ds b
theorem ShA.kept {H H' : Hp} {d l : Addr} {v : V} (h : ShA H v) (k : Kept d l H H') (D : Deal H d l) : ShA H' v := by
  obtain ⟨T, lt, ds, b, e, h1, h2, h3⟩ := h
  obtain ⟨n1, n2⟩ := D.nt h1
  exact ⟨T, lt, ds, b, e, k _ _ h1 n1 n2, h2.kept k D, h3⟩
structure Good (dl l : Addr) (H0 H : Hp) (vs : List V) : Prop where
  d : Deal H dl l
  k : Kept dl l H0 H
  a : ∀ v ∈ vs, ShA H v
theorem Good.go {dl l : Addr} {H0 H H' : Hp} {vs : List V} (G : Good dl l H0 H vs) (D : Deal H' dl l) (k : Kept dl l H H') : Good dl l H0 H' vs := ⟨D, G.k.trans k, fun v hv => (G.a v hv).kept k G.d⟩
theorem Good.sm {dl l : Addr} {H0 H H' : Hp} {vs : List V} (G : Good dl l H0 H vs) (s : Same H H') : Good dl l H0 H' vs := G.go (G.d.same s) (Kept.of s)
theorem Good.el {dl l : Addr} {H0 H H1 : Hp} {vs : List V} {t T : Addr} {ds : List Nat} {b : Nat} {z : Int} {us : List V} (G : Good dl l H0 H vs) (ht : H t = none) (eu : us = (dI ds).map V.int) (D1 : Deal H1 dl l) (k1 : Kept dl l (upd H t (.tup us)) H1) (hT : H1 T = none) (ok : SpOk ds b) (ez : z = (b : Int)) :
    Good dl l H0 (upd H1 T (.tup [.ref t, .int z])) (vs ++ [.ref T]) := by
  subst eu ez
  have G1 := G.sm (new_same (o := .tup ((dI ds).map V.int)) ht)
  have G2 := (G1.go D1 k1).sm (new_same (o := .tup [.ref t, .int (b : Int)]) hT)
  refine ⟨G2.d, G2.k, fun v hv => ?_⟩
  rcases List.mem_append.mp hv with hv | hv
  · exact G2.a v hv
  · refine ⟨T, t, ds, b, List.mem_singleton.mp hv, upd_same, ?_, ok⟩
    have h1 : TupI (upd H t (.tup ((dI ds).map V.int))) t (dI ds) := upd_same
    exact (h1.kept k1 G1.d).same (new_same hT)
def spShp : Sp := fun vs H Q _ => ∃ (dl l : Addr), vs = [.ref dl] ∧ Deal H dl l ∧ ∀ (T lt : Addr) (ds : List Nat) (b : Nat) H', Deal H' dl l → Kept dl l H H' → H' T = some (.tup [.ref lt, .int (b : Int)]) → TupI H' lt (dI ds) → SpOk ds b → Q (.ref T) H'
theorem li_kept {H H' : Hp} {L d l : Addr} {xs : List V} (h : H L = some (.lst xs)) (k : Kept d l H H') (n1 : L ≠ d) (n2 : L ≠ l) : H' L = some (.lst xs) := k _ _ h n1 n2
section
variable {P : Program} {w : World} {K : PySem.W.Frag} {mg : Str → Option Value} {base : Heap}
abbrev s_law_shape : Stmt := top 40
abbrev N_law_shape : List Str := ["_law_deal_here", "_law_some"]
theorem sc_law_shape : FnScope N_law_shape ["_law_deal_here"] (defScope s_law_shape) := ⟨rfl, rfl, rfl, by decide +kernel, rfl, by decide +kernel, by decide +kernel⟩
theorem ok_law_shape {f : Addr} {fd : FuncData} (F : Fun K "_law_shape" "_law_shape" s_law_shape f fd) (D_law_draw : Df P w K mg base 1 "_law_draw" ["_law_deal_here", "_law_many"] spDraw) : FnOk P w K mg base CX0 2 f fd ["_law_deal_here"] spShp := by
  refine F.ok sc_law_shape (fun vs H Q E h => ?_) (fun cdv A outer s H vs Q E hr h => ?_)
  · obtain ⟨dl, l, rfl, _⟩ := h
    rfl
  · obtain ⟨dl, l, rfl, D0, kq⟩ := h
    have nd := sc_law_shape.nd
    have zl : 16777216 = sizeLine := sizeLine_eq.symm
    refine ⟨_, (pss_cons (ps_set (i := 1) nd rfl (Or.inl rfl) (pe_lst (pa_cons (pe_tup (pa_cons (pe_tup (pa_cons pe_int pa_nil)) (pa_cons (pe_op op_add pe_int (pe_call D_law_draw.ok (hr.mono (by decide)) (by rfl) D_law_draw.g D_law_draw.kp D_law_draw.b .nil pass0 (pa_cons (pv 0) (pa_cons pe_int pa_nil)))) pa_nil))) (pa_cons (pe_tup (pa_cons (pe_tup (pa_cons pe_int pa_nil)) (pa_cons (pe_op op_add pe_int (pe_call D_law_draw.ok (hr.mono (by decide)) (by rfl) D_law_draw.g D_law_draw.kp D_law_draw.b .nil pass0 (pa_cons (pv 0) (pa_cons pe_int pa_nil)))) pa_nil))) pa_nil))))
        (pss_cons (ps_set (i := 1) nd rfl (Or.inl rfl) (pe_op op_cat (pv 1) (pe_lst (pa_cons (pe_tup (pa_cons (pe_tup (pa_cons pe_int pa_nil)) (pa_cons (pe_op op_add pe_int (pe_call D_law_draw.ok (hr.mono (by decide)) (by rfl) D_law_draw.g D_law_draw.kp D_law_draw.b .nil pass0 (pa_cons (pv 0) (pa_cons pe_int pa_nil)))) pa_nil))) (pa_cons (pe_tup (pa_cons (pe_tup (pa_cons pe_int pa_nil)) (pa_cons (pe_op op_add pe_int (pe_call D_law_draw.ok (hr.mono (by decide)) (by rfl) D_law_draw.g D_law_draw.kp D_law_draw.b .nil pass0 (pa_cons (pv 0) (pa_cons pe_int pa_nil)))) pa_nil))) pa_nil)))))
        (pss_cons (ps_set (i := 1) nd rfl (Or.inl rfl) (pe_op op_cat (pv 1) (pe_lst (pa_cons (pe_tup (pa_cons (pe_tup (pa_cons pe_int (pa_cons pe_int pa_nil))) (pa_cons (pe_op op_add pe_int (pe_call D_law_draw.ok (hr.mono (by decide)) (by rfl) D_law_draw.g D_law_draw.kp D_law_draw.b .nil pass0 (pa_cons (pv 0) (pa_cons pe_int pa_nil)))) pa_nil))) (pa_cons (pe_tup (pa_cons (pe_tup (pa_cons pe_int (pa_cons pe_int pa_nil))) (pa_cons (pe_op op_add pe_int (pe_call D_law_draw.ok (hr.mono (by decide)) (by rfl) D_law_draw.g D_law_draw.kp D_law_draw.b .nil pass0 (pa_cons (pv 0) (pa_cons pe_int pa_nil)))) pa_nil))) pa_nil)))))
        (pss_cons (ps_set (i := 1) nd rfl (Or.inl rfl) (pe_op op_cat (pv 1) (pe_lst (pa_cons (pe_tup (pa_cons (pe_tup (pa_cons pe_int (pa_cons pe_int pa_nil))) (pa_cons (pe_op op_add pe_int (pe_call D_law_draw.ok (hr.mono (by decide)) (by rfl) D_law_draw.g D_law_draw.kp D_law_draw.b .nil pass0 (pa_cons (pv 0) (pa_cons pe_int pa_nil)))) pa_nil))) (pa_cons (pe_tup (pa_cons (pe_tup (pa_cons pe_int (pa_cons pe_int pa_nil))) (pa_cons pe_int pa_nil))) (pa_cons (pe_tup (pa_cons (pe_tup (pa_cons pe_int (pa_cons pe_int pa_nil))) (pa_cons (pe_op op_add pe_int (pe_call D_law_draw.ok (hr.mono (by decide)) (by rfl) D_law_draw.g D_law_draw.kp D_law_draw.b .nil pass0 (pa_cons (pv 0) (pa_cons pe_int pa_nil)))) pa_nil))) pa_nil))))))
        (pss_cons (ps_expr (pe_bm PySem.F.plainAttrs_list PySem.F.slot_list_append PySem.F.type_list_append mt_append (pv 1) (pa_cons (pe_tup (pa_cons (pe_tup (pa_cons pe_int pa_nil)) (pa_cons (pe_ix ix_list (pe_lst (pa_cons pe_int (pa_cons pe_int (pa_cons pe_int pa_nil)))) (pe_call D_law_draw.ok (hr.mono (by decide)) (by rfl) D_law_draw.g D_law_draw.kp D_law_draw.b .nil pass0 (pa_cons (pv 0) (pa_cons pe_int pa_nil))) (fun _ _ => rfl)) pa_nil))) pa_nil)))
        (pss_one (ps_ret (pe_ix ix_list (pv 1) (pe_call D_law_draw.ok (hr.mono (by decide)) (by rfl) D_law_draw.g D_law_draw.kp D_law_draw.b .nil pass0 (pa_cons (pv 0) (pa_cons pe_int pa_nil))) (fun _ _ => rfl))))))))), ?_⟩
    refine seq_by (fun σ K2 => ∃ (L : Addr) (vs : List V), σ = [some (.ref dl), some (.ref L)] ∧ Good dl l H K2 vs ∧ K2 L = some (.lst vs) ∧ vs.length = 2 ∧ H L = none ∧ L ≠ dl ∧ L ≠ l) (fun D' hD' => ?_) ?_
    · have G : Good dl l H H [] := ⟨D0, Kept.refl, fun v hv => by cases hv⟩
      refine ⟨(by show 1 ≤ sizeLine; omega), fun t1 ht1 => ?_⟩
      have S1 := G.sm (new_same (o := .tup [V.int 0]) ht1)
      refine ⟨_, rfl, dl, l, 8, rfl, S1.d, by decide, by decide, fun r1 H1 hr1 hs1 D1 k1 => ⟨_, _, rfl, rfl, (by show 2 ≤ sizeLine; omega), fun T1 hT1 => ?_⟩⟩
      have G1 := G.el (ds := [0]) (b := (1 + r1).toNat) (z := 1 + r1) ht1 rfl D1 k1 hT1 (sp1 (by omega) (by omega) (by omega)) (by omega)
      refine ⟨(by show 1 ≤ sizeLine; omega), fun t2 ht2 => ?_⟩
      have S2 := G1.sm (new_same (o := .tup [V.int 1]) ht2)
      refine ⟨_, rfl, dl, l, 6, rfl, S2.d, by decide, by decide, fun r2 H2 hr2 hs2 D2 k2 => ⟨_, _, rfl, rfl, (by show 2 ≤ sizeLine; omega), fun T2 hT2 => ?_⟩⟩
      have G2 := G1.el (ds := [1]) (b := (1 + r2).toNat) (z := 1 + r2) ht2 rfl D2 k2 hT2 (sp1 (by omega) (by omega) (by omega)) (by omega)
      refine ⟨(by show 2 ≤ sizeLine; omega), fun L hL => hD' _ _ ⟨L, _, rfl, G2.sm (new_same hL), upd_same, rfl, G2.k.free G2.d hL, G2.d.free hL⟩⟩
    rintro σ K2 ⟨L, vs, rfl, G, hL, hvl, hLn, nLd, nLl⟩
    refine seq_by (fun σ K4 => ∃ (L : Addr) (vs : List V), σ = [some (.ref dl), some (.ref L)] ∧ Good dl l H K4 vs ∧ K4 L = some (.lst vs) ∧ vs.length = 4 ∧ H L = none ∧ L ≠ dl ∧ L ≠ l) (fun D' hD' => ?_) ?_
    · refine ⟨_, rfl, ?_⟩
      refine ⟨(by show 1 ≤ sizeLine; omega), fun t3 ht3 => ?_⟩
      have S3 := G.sm (new_same (o := .tup [V.int 2]) ht3)
      refine ⟨_, rfl, dl, l, 4, rfl, S3.d, by decide, by decide, fun r3 H3 hr3 hs3 D3 k3 => ⟨_, _, rfl, rfl, (by show 2 ≤ sizeLine; omega), fun T3 hT3 => ?_⟩⟩
      have G3 := G.el (ds := [2]) (b := (1 + r3).toNat) (z := 1 + r3) ht3 rfl D3 k3 hT3 (sp1 (by omega) (by omega) (by omega)) (by omega)
      refine ⟨(by show 1 ≤ sizeLine; omega), fun t4 ht4 => ?_⟩
      have S4 := G3.sm (new_same (o := .tup [V.int 3]) ht4)
      refine ⟨_, rfl, dl, l, 2, rfl, S4.d, by decide, by decide, fun r4 H4 hr4 hs4 D4 k4 => ⟨_, _, rfl, rfl, (by show 2 ≤ sizeLine; omega), fun T4 hT4 => ?_⟩⟩
      have G4 := G3.el (ds := [3]) (b := (1 + r4).toNat) (z := 1 + r4) ht4 rfl D4 k4 hT4 (sp1 (by omega) (by omega) (by omega)) (by omega)
      refine ⟨(by show 2 ≤ sizeLine; omega), fun Z hZ => ?_⟩
      have sZ := new_same (o := .lst [V.ref T3, V.ref T4]) hZ
      refine ⟨L, Z, vs, [V.ref T3, V.ref T4], rfl, rfl, ?_, upd_same, ?_, fun p hp => hD' _ _ ⟨p, _, rfl, ?_, upd_same, ?_, (G4.sm sZ).k.free (G4.sm sZ).d hp, (G4.sm sZ).d.free hp⟩⟩
      · refine sZ _ _ ?_
        refine new_same hT4 _ _ ?_
        refine k4 _ _ ?_ nLd nLl
        refine new_same ht4 _ _ ?_
        refine new_same hT3 _ _ ?_
        refine k3 _ _ ?_ nLd nLl
        refine new_same ht3 _ _ ?_
        exact hL
      · rw [hvl]
        show 2 + 2 ≤ sizeLine
        omega
      · have GG := (G4.sm sZ).sm (new_same (o := .lst (vs ++ [V.ref T3, V.ref T4])) hp)
        simpa only [List.append_assoc, List.cons_append, List.nil_append] using GG
      · rw [List.length_append, hvl]
        rfl
    rintro σ K4 ⟨L, vs, rfl, G, hL, hvl, hLn, nLd, nLl⟩
    refine seq_by (fun σ K6 => ∃ (L : Addr) (vs : List V), σ = [some (.ref dl), some (.ref L)] ∧ Good dl l H K6 vs ∧ K6 L = some (.lst vs) ∧ vs.length = 6 ∧ H L = none ∧ L ≠ dl ∧ L ≠ l) (fun D' hD' => ?_) ?_
    · refine ⟨_, rfl, ?_⟩
      refine ⟨(by show 2 ≤ sizeLine; omega), fun t5 ht5 => ?_⟩
      have S5 := G.sm (new_same (o := .tup [V.int 0, V.int 0]) ht5)
      refine ⟨_, rfl, dl, l, 3, rfl, S5.d, by decide, by decide, fun r5 H5 hr5 hs5 D5 k5 => ⟨_, _, rfl, rfl, (by show 2 ≤ sizeLine; omega), fun T5 hT5 => ?_⟩⟩
      have G5 := G.el (ds := [0, 0]) (b := (1 + r5).toNat) (z := 1 + r5) ht5 rfl D5 k5 hT5 (sp2 (by omega) (by omega) (by omega)) (by omega)
      refine ⟨(by show 2 ≤ sizeLine; omega), fun t6 ht6 => ?_⟩
      have S6 := G5.sm (new_same (o := .tup [V.int 1, V.int 0]) ht6)
      refine ⟨_, rfl, dl, l, 3, rfl, S6.d, by decide, by decide, fun r6 H6 hr6 hs6 D6 k6 => ⟨_, _, rfl, rfl, (by show 2 ≤ sizeLine; omega), fun T6 hT6 => ?_⟩⟩
      have G6 := G5.el (ds := [1, 0]) (b := (1 + r6).toNat) (z := 1 + r6) ht6 rfl D6 k6 hT6 (sp2 (by omega) (by omega) (by omega)) (by omega)
      refine ⟨(by show 2 ≤ sizeLine; omega), fun Z hZ => ?_⟩
      have sZ := new_same (o := .lst [V.ref T5, V.ref T6]) hZ
      refine ⟨L, Z, vs, [V.ref T5, V.ref T6], rfl, rfl, ?_, upd_same, ?_, fun p hp => hD' _ _ ⟨p, _, rfl, ?_, upd_same, ?_, (G6.sm sZ).k.free (G6.sm sZ).d hp, (G6.sm sZ).d.free hp⟩⟩
      · refine sZ _ _ ?_
        refine new_same hT6 _ _ ?_
        refine k6 _ _ ?_ nLd nLl
        refine new_same ht6 _ _ ?_
        refine new_same hT5 _ _ ?_
        refine k5 _ _ ?_ nLd nLl
        refine new_same ht5 _ _ ?_
        exact hL
      · rw [hvl]
        show 4 + 2 ≤ sizeLine
        omega
      · have GG := (G6.sm sZ).sm (new_same (o := .lst (vs ++ [V.ref T5, V.ref T6])) hp)
        simpa only [List.append_assoc, List.cons_append, List.nil_append] using GG
      · rw [List.length_append, hvl]
        rfl
    rintro σ K6 ⟨L, vs, rfl, G, hL, hvl, hLn, nLd, nLl⟩
    refine seq_by (fun σ K9 => ∃ (L : Addr) (vs : List V), σ = [some (.ref dl), some (.ref L)] ∧ Good dl l H K9 vs ∧ K9 L = some (.lst vs) ∧ vs.length = 9 ∧ H L = none ∧ L ≠ dl ∧ L ≠ l) (fun D' hD' => ?_) ?_
    · refine ⟨_, rfl, ?_⟩
      refine ⟨(by show 2 ≤ sizeLine; omega), fun t7 ht7 => ?_⟩
      have S7 := G.sm (new_same (o := .tup [V.int 0, V.int 1]) ht7)
      refine ⟨_, rfl, dl, l, 2, rfl, S7.d, by decide, by decide, fun r7 H7 hr7 hs7 D7 k7 => ⟨_, _, rfl, rfl, (by show 2 ≤ sizeLine; omega), fun T7 hT7 => ?_⟩⟩
      have G7 := G.el (ds := [0, 1]) (b := (1 + r7).toNat) (z := 1 + r7) ht7 rfl D7 k7 hT7 (sp2 (by omega) (by omega) (by omega)) (by omega)
      refine ⟨(by show 2 ≤ sizeLine; omega), fun t8 ht8 => ?_⟩
      have S8 := G7.sm (new_same (o := .tup [V.int 1, V.int 1]) ht8)
      refine ⟨(by show 2 ≤ sizeLine; omega), fun T8 hT8 => ?_⟩
      have G8 := G7.el (ds := [1, 1]) (b := 1) (z := 1) ht8 rfl S8.d Kept.refl hT8 (sp2 (by omega) (by omega) (by omega)) (by omega)
      refine ⟨(by show 2 ≤ sizeLine; omega), fun t9 ht9 => ?_⟩
      have S9 := G8.sm (new_same (o := .tup [V.int 0, V.int 0]) ht9)
      refine ⟨_, rfl, dl, l, 2, rfl, S9.d, by decide, by decide, fun r9 H9 hr9 hs9 D9 k9 => ⟨_, _, rfl, rfl, (by show 2 ≤ sizeLine; omega), fun T9 hT9 => ?_⟩⟩
      have G9 := G8.el (ds := [0, 0]) (b := (4 + r9).toNat) (z := 4 + r9) ht9 rfl D9 k9 hT9 (sp2 (by omega) (by omega) (by omega)) (by omega)
      refine ⟨(by show 3 ≤ sizeLine; omega), fun Z hZ => ?_⟩
      have sZ := new_same (o := .lst [V.ref T7, V.ref T8, V.ref T9]) hZ
      refine ⟨L, Z, vs, [V.ref T7, V.ref T8, V.ref T9], rfl, rfl, ?_, upd_same, ?_, fun p hp => hD' _ _ ⟨p, _, rfl, ?_, upd_same, ?_, (G9.sm sZ).k.free (G9.sm sZ).d hp, (G9.sm sZ).d.free hp⟩⟩
      · refine sZ _ _ ?_
        refine new_same hT9 _ _ ?_
        refine k9 _ _ ?_ nLd nLl
        refine new_same ht9 _ _ ?_
        refine new_same hT8 _ _ ?_
        refine new_same ht8 _ _ ?_
        refine new_same hT7 _ _ ?_
        refine k7 _ _ ?_ nLd nLl
        refine new_same ht7 _ _ ?_
        exact hL
      · rw [hvl]
        show 6 + 3 ≤ sizeLine
        omega
      · have GG := (G9.sm sZ).sm (new_same (o := .lst (vs ++ [V.ref T7, V.ref T8, V.ref T9])) hp)
        simpa only [List.append_assoc, List.cons_append, List.nil_append] using GG
      · rw [List.length_append, hvl]
        rfl
    rintro σ K9 ⟨L, vs, rfl, G, hL, hvl, hLn, nLd, nLl⟩
    refine seq_by (fun σ K10 => ∃ (L : Addr) (vs : List V), σ = [some (.ref dl), some (.ref L)] ∧ Good dl l H K10 vs ∧ K10 L = some (.lst vs) ∧ vs.length = 10 ∧ H L = none ∧ L ≠ dl ∧ L ≠ l) (fun D' hD' => ?_) ?_
    · refine ⟨_, rfl, .inl ⟨rfl, _, SqL.of hL⟩, (by show 1 ≤ sizeLine; omega), fun t ht => ?_⟩
      have S := G.sm (new_same (o := .tup [V.int 0]) ht)
      refine ⟨(by show 3 ≤ sizeLine; omega), fun Z hZ => ?_⟩
      have sZ := new_same (o := .lst [V.int 16, .int 33, .int 64]) hZ
      obtain ⟨nZd, nZl⟩ := S.d.free hZ
      refine ⟨_, rfl, dl, l, 3, rfl, (S.sm sZ).d, by decide, by decide, fun r H1 hr0 hr1 D1 k1 => ?_⟩
      have hsel : ∃ b : Nat, atI [V.int 16, .int 33, .int 64] r = some (.int (b : Int)) ∧ 1 ≤ b ∧ b ≤ 64 := by
        have : r = 0 ∨ r = 1 ∨ r = 2 := by omega
        rcases this with rfl | rfl | rfl
        · exact ⟨16, rfl, by decide, by decide⟩
        · exact ⟨33, rfl, by decide, by decide⟩
        · exact ⟨64, rfl, by decide, by decide⟩
      obtain ⟨b, m1, m2, m3⟩ := hsel
      refine ⟨Z, _, _, _, rfl, rfl, SqL.of (k1 _ _ upd_same nZd nZl), m1, (by show 2 ≤ sizeLine; omega), fun T hT => ?_⟩
      have k2 := (Kept.of (d := dl) (l := l) sZ).trans k1
      have G2 := G.el (ds := [0]) (b := b) (z := (b : Int)) ht rfl D1 k2 hT (sp1 (by omega) m2 m3) rfl
      have hL2 : upd H1 T (.tup [.ref t, .int (b : Int)]) L = some (.lst vs) := by
        refine new_same hT _ _ ?_
        refine k2 _ _ ?_ nLd nLl
        exact new_same ht _ _ hL
      refine ⟨L, _, _, rfl, rfl, hL2, by rw [hvl]; omega, hD' _ _ ⟨L, _, rfl, ⟨G2.d.other nLd nLl, ?_, fun v hv => ?_⟩, upd_same, by rw [List.length_append, hvl]; rfl, hLn, nLd, nLl⟩⟩
      · exact G2.k.new hLn
      · obtain ⟨T', lt, ds', b', e, h1, h2, h3⟩ := G2.a v hv
        refine ⟨T', lt, ds', b', e, ?_, ?_, h3⟩
        · rw [upd_ne (ne_of h1 hL2 (by intro z; cases z))]
          exact h1
        · show upd _ L _ lt = _
          rw [upd_ne (ne_of (show _ = some (.tup _) from h2) hL2 (by intro z; cases z))]
          exact h2
    rintro σ K10 ⟨L, vs, rfl, G, hL, hvl, hLn, nLd, nLl⟩
    refine ⟨_, rfl, _, rfl, dl, l, 10, rfl, G.d, by decide, by decide, fun r H1 hr0 hr1 D1 k1 => ?_⟩
    obtain ⟨i, rfl⟩ : ∃ i : Nat, r = (i : Int) := ⟨r.toNat, by omega⟩
    have hi : i < vs.length := by omega
    obtain ⟨T, lt, ds, b, e, h1, h2, h3⟩ := (G.go D1 k1).a vs[i] (List.getElem_mem hi)
    refine ⟨L, vs, _, _, rfl, rfl, SqL.of (k1 _ _ hL nLd nLl), atI_nat (List.getElem?_eq_getElem hi), ?_⟩
    rw [e]
    exact kq T lt ds b H1 D1 (G.k.trans k1) h1 h2 h3
end
end My

set_option pp.maxSteps 400
set_option Elab.async false
set_option linter.all false
set_option maxRecDepth 100000
set_option maxHeartbeats 1000000
namespace My
open PySem L2 MyR
/-- but the list at x (and dicts of texts) all stands as it was -/
def MvX (x : Addr) (H H' : Hp) : Prop := ∀ a o, H a = some o → (∀ xs, o = .lst xs → a ≠ x) → (∀ kvs, o ≠ .dK kvs) → H' a = some o
theorem MvX.of {x : Addr} {H H' : Hp} (s : Same H H') : MvX x H H' := fun a o e _ _ => s a o e
theorem MvX.kept {d l : Addr} {H H' : Hp} (k : Kept d l H H') (D : Deal H d l) : MvX l H H' := fun a o e h1 h2 => by
  obtain ⟨z, n, ns, hd, hl, _⟩ := D.ex
  refine k a o e (fun q => ?_) (fun q => ?_)
  · subst q
    rw [hd] at e
    exact h2 _ (Option.some.inj e).symm
  · subst q
    rw [hl] at e
    exact h1 _ (Option.some.inj e).symm rfl
theorem MvX.up {x : Addr} {H : Hp} {vs : List V} {o : HO} (hx : H x = some (.lst vs)) : MvX x H (upd H x o) := fun a o' e h1 h2 => by
  rw [upd_ne]
  · exact e
  · intro q
    subst q
    rw [hx] at e
    exact h1 _ (Option.some.inj e).symm rfl
theorem MvX.tup {x a : Addr} {H H' : Hp} {xs : List V} (k : MvX x H H') (e : H a = some (.tup xs)) : H' a = some (.tup xs) := k a _ e (fun _ z => by cases z) (fun _ z => by cases z)
theorem MvX.ins {x a C dx : Addr} {H H' : Hp} {fs : List (Str × V)} (k : MvX x H H') (e : H a = some (.ins C dx fs)) : H' a = some (.ins C dx fs) := k a _ e (fun _ z => by cases z) (fun _ z => by cases z)
theorem MvX.lst {x a : Addr} {H H' : Hp} {xs : List V} (k : MvX x H H') (e : H a = some (.lst xs)) (n : a ≠ x) : H' a = some (.lst xs) := k a _ e (fun _ _ => n) (fun _ z => by cases z)
theorem MvX.dT {x a : Addr} {H H' : Hp} {kvs : List (List Key × V)} (k : MvX x H H') (e : H a = some (.dT kvs)) : H' a = some (.dT kvs) := k a _ e (fun _ z => by cases z) (fun _ z => by cases z)
/-- the lists within are none of x -/
def NL (x : Addr) (H : Hp) (L : Addr) : Prop := L ≠ x ∧ ∀ as, H L = some (.lst as) → ∀ p, V.ref p ∈ as → p ≠ x ∧ ∀ bs, H p = some (.lst bs) → ∀ q, V.ref q ∈ bs → q ≠ x
theorem NL.of {x L : Addr} {H0 H : Hp} {o : HO} (h : FrL H0 H L) (hx : H0 x = some o) : NL x H L := by
  have ne : ∀ q : Addr, H0 q = none → q ≠ x := fun q hq z => by
    rw [z, hx] at hq
    cases hq
  exact ⟨ne _ h.1, fun as ha p hp => ⟨ne _ (h.2 as ha p hp).1, fun bs hb q hq => ne _ ((h.2 as ha p hp).2 bs hb q hq)⟩⟩
theorem ClsAt.mv {x L : Addr} {H H' : Hp} {m b n : Nat} {cs : Nat → Nat → Nat → Int} (h : ClsAt H L m b cs n) (nl : NL x H L) (k : MvX x H H') : ClsAt H' L m b cs n ∧ ∀ y, NL y H L → NL y H' L := by
  obtain ⟨as, e1, e2, e3⟩ := h
  have hL := k.lst e1 nl.1
  have hin : ∀ p, V.ref p ∈ as.map V.ref → ∃ bs : List Addr, H p = some (.lst (bs.map V.ref)) ∧ H' p = some (.lst (bs.map V.ref)) := fun p hp => by
    obtain ⟨p', hp', e⟩ := List.mem_map.mp hp
    obtain rfl := V.ref.inj e
    obtain ⟨g, hg⟩ := List.mem_iff_getElem?.mp hp'
    obtain ⟨p2, rows, w1, ⟨bs, b1, _⟩, _⟩ := e3 g (by have := (List.getElem?_eq_some_iff.mp hg).1; omega)
    rw [hg] at w1
    obtain rfl := Option.some.inj w1
    exact ⟨bs, b1, k.lst b1 (nl.2 _ e1 _ hp).1⟩
  refine ⟨⟨as, hL, e2, fun g hg => ?_⟩, fun y ny => ⟨ny.1, fun as' ha p hp => ?_⟩⟩
  · obtain ⟨p, rows, q1, ⟨bs, b1, b2, b3⟩, q3⟩ := e3 g hg
    have hpm : V.ref p ∈ as.map V.ref := List.mem_map.mpr ⟨p, List.mem_of_getElem? q1, rfl⟩
    obtain ⟨n1, n2⟩ := nl.2 _ e1 _ hpm
    refine ⟨p, rows, q1, ⟨bs, k.lst b1 n1, b2, fun i xs hi => ?_⟩, q3⟩
    obtain ⟨u, u1, u2⟩ := b3 i xs hi
    exact ⟨u, u1, k.lst u2 (n2 _ b1 _ (List.mem_map.mpr ⟨u, List.mem_of_getElem? u1, rfl⟩))⟩
  · rw [hL] at ha
    rw [← HO.lst.inj (Option.some.inj ha)] at hp
    obtain ⟨w1, w2⟩ := ny.2 _ e1 p hp
    refine ⟨w1, fun bs' hb q hq => ?_⟩
    obtain ⟨bs, z1, z2⟩ := hin p hp
    rw [z2] at hb
    rw [← HO.lst.inj (Option.some.inj hb)] at hq
    exact w2 _ z1 q hq
theorem MadeAt.mv {x L : Addr} {H H' : Hp} {m b n : Nat} {fs : Nat → List Nat → Int} (h : MadeAt H L m b fs n) (nl : L ≠ x) (k : MvX x H H') : MadeAt H' L m b fs n := let ⟨as, e1, e2, e3⟩ := h; ⟨as, k.lst e1 nl, e2, fun g hg => let ⟨p, q1, q2⟩ := e3 g hg; ⟨p, q1, k.dT q2⟩⟩
theorem NL.new {x L : Addr} {H : Hp} {m b n : Nat} {cs : Nat → Nat → Nat → Int} (h : ClsAt H L m b cs n) (hx : H x = none) : NL x H L := by
  have ne : ∀ {q : Addr} {o : HO}, H q = some o → q ≠ x := fun {q o} hq z => by
    rw [z, hx] at hq
    cases hq
  obtain ⟨as, e1, e2, e3⟩ := h
  refine ⟨ne e1, fun as' ha p hp => ?_⟩
  rw [e1] at ha
  rw [← HO.lst.inj (Option.some.inj ha)] at hp
  obtain ⟨p', hp', e⟩ := List.mem_map.mp hp
  obtain rfl := V.ref.inj e
  obtain ⟨g, hg⟩ := List.mem_iff_getElem?.mp hp'
  obtain ⟨p2, rows, w1, ⟨bs, b1, b2, b3⟩, _⟩ := e3 g (by have := (List.getElem?_eq_some_iff.mp hg).1; omega)
  rw [hg] at w1
  obtain rfl := Option.some.inj w1
  refine ⟨ne b1, fun bs' hb q hq => ?_⟩
  rw [b1] at hb
  rw [← HO.lst.inj (Option.some.inj hb)] at hq
  obtain ⟨u, hu, e⟩ := List.mem_map.mp hq
  obtain rfl := V.ref.inj e
  obtain ⟨i, hi⟩ := List.mem_iff_getElem?.mp hu
  obtain ⟨u2, v1, v2⟩ := b3 i _ (List.getElem?_eq_getElem (show i < rows.length by have := (List.getElem?_eq_some_iff.mp hi).1; omega))
  rw [hi] at v1
  obtain rfl := Option.some.inj v1
  exact ne v2
/-- a table whose lists are none of X -/
def TbN (C : Addr) (X : List Addr) (H : Hp) (t : Addr) (ds : List Nat) (b : Nat) (cs : Nat → Nat → Nat → Int) (dx lt et ct : Addr) : Prop := TbAt C H t ds b cs dx lt et ct ∧ ∀ x ∈ X, NL x H ct
theorem TbN.mv {C t dx lt et ct x : Addr} {X : List Addr} {H H' : Hp} {ds : List Nat} {b : Nat} {cs : Nat → Nat → Nat → Int} (h : TbN C X H t ds b cs dx lt et ct) (hx : x ∈ X) (k : MvX x H H') : TbN C X H' t ds b cs dx lt et ct := by
  obtain ⟨h1, h2⟩ := h
  obtain ⟨c1, c2⟩ := h1.c.mv (h2 x hx) k
  exact ⟨⟨k.ins h1.o, k.tup h1.l, k.tup h1.e, c1⟩, fun y hy => c2 y (h2 y hy)⟩
theorem TbN.more {C t dx lt et ct x : Addr} {X : List Addr} {H : Hp} {ds : List Nat} {b : Nat} {cs : Nat → Nat → Nat → Int} (h : TbN C X H t ds b cs dx lt et ct) (hx : H x = none) : TbN C (x :: X) H t ds b cs dx lt et ct :=
  ⟨h.1, fun y hy => by
    rcases List.mem_cons.mp hy with rfl | hy
    · exact NL.new h.1.c hx
    · exact h.2 y hy⟩
theorem TbN.less {C t dx lt et ct x : Addr} {X : List Addr} {H : Hp} {ds : List Nat} {b : Nat} {cs : Nat → Nat → Nat → Int} (h : TbN C (x :: X) H t ds b cs dx lt et ct) : TbN C X H t ds b cs dx lt et ct := ⟨h.1, fun y hy => h.2 y (List.mem_cons_of_mem _ hy)⟩
theorem TbN.same {C t dx lt et ct : Addr} {X : List Addr} {H H' : Hp} {ds : List Nat} {b : Nat} {cs : Nat → Nat → Nat → Int} (h : TbN C X H t ds b cs dx lt et ct) (s : Same H H') : TbN C X H' t ds b cs dx lt et ct :=
  ⟨h.1.same s, fun y hy => (h.1.c.mv (h.2 y hy) (MvX.of s)).2 y (h.2 y hy)⟩
/-! ### a table against anything, whatever runs around -/
def rEqX0 (P : Program) (w : World) (K : PySem.W.Frag) (mg : Str → Option Value) (base : Heap) (A : Around) (neg : Bool) : R2 := fun x y H Q => ∃ (a C dx : Addr) (fs : List (Str × V)) (f : Addr) (fd : FuncData) (ps : List Str) (sp : Sp) (k : Nat) (E : XK) (t : Value), x = .ref a ∧ H a = some (.ins C dx fs) ∧ TyX K H y t ∧ PySem.W.notFirst K C t = true ∧ EqC K C f ∧
  FnOk P w K mg base CX0 k f fd ps sp ∧ Room (k + 1) A ∧ Binds K fd ps [] ∧ sp [.ref a, y] H (fun v H' => ∃ t : Bool, v = .bl t ∧ Q (.bl (if neg = true then !t else t)) H') E
theorem op_eqX0 {X : Cx} : OpR X (compareOp .Eq) (rEqX0 X.prog X.w X.K X.mg X.base X.A false) := fun pins s σ H x y u v Q I rx ry h => by
  obtain ⟨a, C, dx, fs, f, fd, ps, sp, k, E, t, e1, ha, ty, nf, c, F, hr, hbd, hsp⟩ := h
  exact op_eqA pins s σ H x y u v Q I rx ry ⟨a, C, dx, fs, f, fd, ps, sp, k, CX0, E, t, e1, ha, ty, nf, c, F, hr, hbd, pass0, hsp⟩
theorem op_neX0 {X : Cx} : OpR X (compareOp .NotEq) (fun x y H Q => rEqX0 X.prog X.w X.K X.mg X.base X.A false x y H fun v H' => ∃ t : Bool, v = .bl t ∧ Q (.bl (!t)) H') := fun pins s σ H x y u v Q I rx ry h => by
  obtain ⟨a, C, dx, fs, f, fd, ps, sp, k, E, t, e1, ha, ty, nf, c, F, hr, hbd, hsp⟩ := h
  exact op_neA pins s σ H x y u v Q I rx ry ⟨a, C, dx, fs, f, fd, ps, sp, k, CX0, E, t, e1, ha, ty, nf, c, F, hr, hbd, pass0, hsp⟩
def rNeX0 (P : Program) (w : World) (K : PySem.W.Frag) (mg : Str → Option Value) (base : Heap) (A : Around) : R2 := fun x y H Q => rEqX0 P w K mg base A false x y H fun v H' => ∃ t : Bool, v = .bl t ∧ Q (.bl (!t)) H'
/-! ### bools, and rows of them -/
def bD (bs : List Bool) : List PyData := bs.map PyData.bool
def mD (M : List (List Bool)) : PyData := .list (M.map fun r => .list (bD r))
theorem bD_dp {K : PySem.W.Frag} {H : Hp} : ∀ bs : List Bool, DpAll K H (bs.map V.bl) (bD bs)
  | [] => .nil
  | b :: bs => .cons (.bl b) (bD_dp bs)
/-- rows of bools -/
def MatAt (H : Hp) (D : Addr) (M : List (List Bool)) : Prop := ∃ as : List Addr, H D = some (.lst (as.map V.ref)) ∧ as.length = M.length ∧ ∀ (i : Nat) r, M[i]? = some r → ∃ q, as[i]? = some q ∧ H q = some (.lst (r.map V.bl)) ∧ q ≠ D
theorem MatAt.same {H H' : Hp} {D : Addr} {M : List (List Bool)} (h : MatAt H D M) (s : Same H H') : MatAt H' D M := let ⟨as, e1, e2, e3⟩ := h; ⟨as, s _ _ e1, e2, fun i r hi => let ⟨q, q1, q2, q3⟩ := e3 i r hi; ⟨q, q1, s _ _ q2, q3⟩⟩
theorem MatAt.app {H : Hp} {D q : Addr} {M : List (List Bool)} {r : List Bool} (h : MatAt H D M) (hq : H q = some (.lst (r.map V.bl))) (n : q ≠ D) : ∃ acc, H D = some (.lst acc) ∧ acc.length = M.length ∧ MatAt (upd H D (.lst (acc ++ [.ref q]))) D (M ++ [r]) := by
  obtain ⟨as, e1, e2, e3⟩ := h
  refine ⟨_, e1, by rw [List.length_map, e2], as ++ [q], by rw [List.map_append]; exact upd_same, by rw [List.length_append, List.length_append, e2]; rfl, fun i r' hi => ?_⟩
  by_cases hlt : i < M.length
  · rw [List.getElem?_append_left hlt] at hi
    obtain ⟨p, p1, p2, p3⟩ := e3 i r' hi
    exact ⟨p, by rw [List.getElem?_append_left (by omega)]; exact p1, by rw [upd_ne p3]; exact p2, p3⟩
  · have hl := (List.getElem?_eq_some_iff.mp hi).1
    rw [List.length_append] at hl
    have hl : i < M.length + 1 := hl
    have : i = M.length := by omega
    subst this
    rw [List.getElem?_append_right (Nat.le_refl _), Nat.sub_self] at hi
    cases hi
    exact ⟨q, by rw [List.getElem?_append_right (by omega), e2, Nat.sub_self]; rfl, by rw [upd_ne n]; exact hq, n⟩
theorem rows_dp {K : PySem.W.Frag} {H : Hp} : ∀ {as : List Addr} {M : List (List Bool)}, as.length = M.length → (∀ (i : Nat) r, M[i]? = some r → ∃ q, as[i]? = some q ∧ H q = some (.lst (r.map V.bl))) → DpAll K H (as.map V.ref) (M.map fun r => .list (bD r))
  | [], [], _, _ => .nil
  | a :: as, r :: M, hl, h => by
    obtain ⟨q, q1, q2⟩ := h 0 r rfl
    have q1 : a = q := Option.some.inj q1
    subst q1
    exact .cons (.lst (SqL.of q2) (bD_dp r)) (rows_dp (Nat.succ.inj hl) fun i r' hi => h (i + 1) r' hi)
  | [], _ :: _, hl, _ => by cases hl
  | _ :: _, [], hl, _ => by cases hl
theorem MatAt.dp {K : PySem.W.Frag} {H : Hp} {D : Addr} {M : List (List Bool)} (h : MatAt H D M) : Dp K H (.ref D) (mD M) := by
  obtain ⟨as, e1, e2, e3⟩ := h
  exact .lst (SqL.of e1) (rows_dp e2 fun i r hi => let ⟨q, q1, q2, _⟩ := e3 i r hi; ⟨q, q1, q2⟩)
theorem bD_lay : ∀ bs : List Bool, PyData.canLayAll0 (bD bs) = true
  | [] => by simp [bD, PyData.canLayAll0]
  | b :: bs => by
    show PyData.canLayAll0 (.bool b :: bD bs) = true
    rw [PyData.canLayAll0, PyData.canLay0, bD_lay bs]
    rfl
theorem bD_dep : ∀ bs : List Bool, PyData.depthAll (bD bs) = 0
  | [] => by simp [bD, PyData.depthAll]
  | b :: bs => by
    show PyData.depthAll (.bool b :: bD bs) = 0
    rw [PyData.depthAll, PyData.depth, bD_dep bs]
    rfl
theorem mD_layA : ∀ M : List (List Bool), PyData.canLayAll0 (M.map fun r => .list (bD r)) = true
  | [] => by simp [PyData.canLayAll0]
  | r :: M => by
    rw [List.map_cons, PyData.canLayAll0, PyData.canLay0, bD_lay r, mD_layA M]
    rfl
theorem mD_lay (M : List (List Bool)) : (mD M).canLay0 = true := by
  unfold mD
  rw [PyData.canLay0]
  exact mD_layA M
theorem mD_depA : ∀ M : List (List Bool), PyData.depthAll (M.map fun r => .list (bD r)) ≤ 1
  | [] => by simp [PyData.depthAll]
  | r :: M => by
    rw [List.map_cons, PyData.depthAll, PyData.depth, bD_dep r]
    have := mD_depA M
    omega
theorem mD_dep (M : List (List Bool)) : (mD M).depth ≤ 2 := by
  unfold mD
  rw [PyData.depth]
  have := mD_depA M
  omega
theorem mD_shape (M : List (List Bool)) : SeqAt.shaped (mD M) = true := by
  unfold SeqAt.shaped
  rw [mD_lay, Bool.true_and]
  refine decide_eq_true ?_
  have := mD_dep M
  omega
/-! ### what may be shown -/
structure RepOk (x : PyData) : Prop where
  s : x.showable = true
  n : x.hasDict = false
  d : x.depth ≤ 60
  l : x.shown.length ≤ sizeLine
theorem bD_sh : ∀ bs : List Bool, PyData.showableAll (bD bs) = true
  | [] => rfl
  | b :: bs => by
    show (PyData.showable (.bool b) && PyData.showableAll (bD bs)) = true
    rw [bD_sh bs]
    cases b <;> rfl
theorem bD_nd : ∀ bs : List Bool, PyData.hasDictAll (bD bs) = false
  | [] => rfl
  | _ :: bs => bD_nd bs
theorem bD_lv : ∀ bs : List Bool, PyData.leavesShortAll 100 (bD bs) = true
  | [] => rfl
  | b :: bs => by
    show (PyData.leavesShort 100 (.bool b) && PyData.leavesShortAll 100 (bD bs)) = true
    rw [bD_lv bs]
    cases b <;> rfl
theorem bD_blk : ∀ bs : List Bool, PyData.bulkAll (bD bs) = bs.length
  | [] => rfl
  | b :: bs => by
    show 0 + 1 + PyData.bulkAll (bD bs) = bs.length + 1
    rw [bD_blk bs]
    omega
theorem mD_shA : ∀ M : List (List Bool), PyData.showableAll (M.map fun r => .list (bD r)) = true
  | [] => rfl
  | r :: M => by
    show (PyData.showableAll (bD r) && PyData.showableAll (M.map fun r => .list (bD r))) = true
    rw [bD_sh, mD_shA M]
    rfl
theorem mD_ndA : ∀ M : List (List Bool), PyData.hasDictAll (M.map fun r => .list (bD r)) = false
  | [] => rfl
  | r :: M => by
    show (PyData.hasDictAll (bD r) || PyData.hasDictAll (M.map fun r => .list (bD r))) = false
    rw [bD_nd, mD_ndA M]
    rfl
theorem mD_lvA : ∀ M : List (List Bool), PyData.leavesShortAll 100 (M.map fun r => .list (bD r)) = true
  | [] => rfl
  | r :: M => by
    show (PyData.leavesShortAll 100 (bD r) && PyData.leavesShortAll 100 (M.map fun r => .list (bD r))) = true
    rw [bD_lv, mD_lvA M]
    rfl
theorem mD_blkA {n : Nat} : ∀ {M : List (List Bool)}, (∀ r ∈ M, r.length ≤ n) → PyData.bulkAll (M.map fun r => .list (bD r)) ≤ M.length * (n + 1)
  | [], _ => Nat.zero_le _
  | r :: M, h => by
    show PyData.bulkAll (bD r) + 1 + PyData.bulkAll (M.map fun r => .list (bD r)) ≤ (M.length + 1) * (n + 1)
    rw [bD_blk]
    have h1 := h r (List.mem_cons_self ..)
    have h2 := mD_blkA (M := M) fun q hq => h q (List.mem_cons_of_mem _ hq)
    rw [Nat.succ_mul]
    omega
theorem mD_rep {M : List (List Bool)} (hl : M.length ≤ 5) (h : ∀ r ∈ M, r.length ≤ 5) : RepOk (mD M) := by
  have zl : 16777216 = sizeLine := sizeLine_eq.symm
  have hb := mD_blkA h
  have hm : M.length * (5 + 1) ≤ 5 * 6 := Nat.mul_le_mul_right _ hl
  refine ⟨mD_shA M, mD_ndA M, by have := mD_dep M; omega, ?_⟩
  have := PyData.shown_le_bulk 100 (by decide) (mD M) (mD_lvA M)
  have e : PyData.bulk (mD M) = PyData.bulkAll (M.map fun r => .list (bD r)) := rfl
  rw [e] at this
  omega
/-! ### the five functions told -/
structure FV where
  ml : Addr
  lt : Addr
  ds : List Nat
  fs : Nat → List Nat → Int
def FV.cs (x : FV) : Nat → Nat → Nat → Int := fun g => csOf x.ds.length (x.fs g)
def FnV (H : Hp) (l : Addr) (m b : Nat) (W : List Nat) (v : V) (x : FV) : Prop := ∃ T : Addr, v = .ref T ∧ H T = some (.tup [.ref x.ml, .ref x.lt]) ∧ FnP 220 H l x.ml x.lt b x.ds x.fs ∧ FnD m b W x.ds
theorem FnV.same {H H' : Hp} {l : Addr} {m b : Nat} {W : List Nat} {v : V} {x : FV} (h : FnV H l m b W v x) (s : Same H H') : FnV H' l m b W v x := let ⟨T, e, h1, h2, h3⟩ := h; ⟨T, e, s _ _ h1, h2.same s, h3⟩
theorem FnV.ok {H : Hp} {l : Addr} {m b : Nat} {W : List Nat} {v : V} {x : FV} (h : FnV H l m b W v x) : TbOk x.ds b x.cs := by
  obtain ⟨T, e, h1, h2, h3⟩ := h
  exact ⟨h3.ask.m, h3.ask.s, h3.ask.b1, h3.ask.b64, h3.ask.v, fun g => csOf_divX h3.ask.m (h2.f g)⟩
def FnsV (H : Hp) (l : Addr) (m b : Nat) (W : List Nat) (vs : List V) (X : List FV) : Prop := vs.length = X.length ∧ ∀ (i : Nat) x, X[i]? = some x → ∃ v, vs[i]? = some v ∧ FnV H l m b W v x
theorem FnsV.same {H H' : Hp} {l : Addr} {m b : Nat} {W : List Nat} {vs : List V} {X : List FV} (h : FnsV H l m b W vs X) (s : Same H H') : FnsV H' l m b W vs X := ⟨h.1, fun i x hi => let ⟨v, v1, v2⟩ := h.2 i x hi; ⟨v, v1, v2.same s⟩⟩
theorem fns_list {H : Hp} {l S : Addr} {m b : Nat} {W : List Nat} : ∀ {vs : List V}, (∀ v ∈ vs, FnAt H l S m b W v) → ∃ X : List FV, FnsV H l m b W vs X
  | [], _ => ⟨[], rfl, fun i x hi => by simp at hi⟩
  | v :: vs, h => by
    obtain ⟨X, h1, h2⟩ := fns_list fun w hw => h w (List.mem_cons_of_mem _ hw)
    obtain ⟨T, mk, lt, ds, fs, e, a1, a2, a3, _⟩ := h v (List.mem_cons_self ..)
    refine ⟨⟨mk, lt, ds, fs⟩ :: X, by rw [List.length_cons, List.length_cons, h1], fun i x hi => ?_⟩
    cases i with
    | zero =>
      cases Option.some.inj hi
      exact ⟨v, rfl, T, e, a1, a2, a3⟩
    | succ i => exact h2 i x hi
theorem FnsV.at {H : Hp} {l : Addr} {m b : Nat} {W : List Nat} {vs : List V} {X : List FV} (h : FnsV H l m b W vs X) {i : Nat} {v : V} (hv : vs[i]? = some v) : ∃ x, X[i]? = some x ∧ FnV H l m b W v x := by
  have hi := (List.getElem?_eq_some_iff.mp hv).1
  have hi2 : i < X.length := by rw [← h.1]; exact hi
  have hx : X[i]? = some X[i] := List.getElem?_eq_getElem hi2
  obtain ⟨v', v1, v2⟩ := h.2 i _ hx
  rw [hv] at v1
  obtain rfl := Option.some.inj v1
  exact ⟨_, hx, v2⟩
/-- the same function -/
noncomputable def eqF (m b : Nat) (x y : FV) : Bool := @decide (∀ xs : List Int, xs.length = m → valT b x.cs x.ds xs = valT b y.cs y.ds xs) (Classical.propDecidable _)
theorem eqF_iff {m b : Nat} {x y : FV} : eqF m b x y = true ↔ ∀ xs : List Int, xs.length = m → valT b x.cs x.ds xs = valT b y.cs y.ds xs := by
  unfold eqF
  exact @decide_eq_true_iff _ (Classical.propDecidable _)
theorem bool_ext {p q : Bool} (h : p = true ↔ q = true) : p = q := by
  cases p <;> cases q <;> simp_all
theorem DeepL.mx {ds es W : List Nat} (hm : W.length = 1 ∨ W.length = 2) (h1 : DeepL ds W) (h2 : DeepL es W) : DeepL (mxL ds es) W ∧ DeepL ds (mxL ds es) ∧ DeepL es (mxL ds es) := by
  have l1 := h1.len
  have l2 := h2.len
  rcases hm with e | e
  · match W, e, ds, es, h1, h2, l1, l2 with
    | [w], _, [d], [e], h1, h2, _, _ =>
      obtain ⟨g1, g2, g3⟩ := mx_le d e
      have a1 : d ≤ w := h1.1
      have a2 : e ≤ w := h2.1
      have g4 : (if e > d then e else d) ≤ w := by split <;> omega
      exact ⟨⟨g4, trivial⟩, ⟨g1, trivial⟩, ⟨g2, trivial⟩⟩
  · match W, e, ds, es, h1, h2, l1, l2 with
    | [w, w'], _, [d, d'], [e, e'], h1, h2, _, _ =>
      obtain ⟨g1, g2, g3⟩ := mx_le d e
      obtain ⟨f1, f2, f3⟩ := mx_le d' e'
      have a1 : d ≤ w := h1.1
      have a2 : e ≤ w := h2.1
      have b1 : d' ≤ w' := h1.2.1
      have b2 : e' ≤ w' := h2.2.1
      have g4 : (if e > d then e else d) ≤ w := by split <;> omega
      have f4 : (if e' > d' then e' else d') ≤ w' := by split <;> omega
      exact ⟨⟨g4, f4, trivial⟩, ⟨g1, f1, trivial⟩, ⟨g2, f2, trivial⟩⟩
theorem DeepL.trans : ∀ {xs ys zs : List Nat}, DeepL xs ys → DeepL ys zs → DeepL xs zs
  | [], [], [], _, _ => trivial
  | _ :: _, _ :: _, _ :: _, ⟨h1, h2⟩, ⟨g1, g2⟩ => ⟨Nat.le_trans h1 g1, DeepL.trans h2 g2⟩
  | [], _ :: _, _, h, _ => h.elim
  | _ :: _, [], _, h, _ => h.elim
  | [], [], _ :: _, _, h => h.elim
  | _ :: _, _ :: _, [], _, h => h.elim
theorem vec10 {m b : Nat} (hm : m = 1 ∨ m = 2) (h1 : 1 ≤ b) (h2 : b ≤ 10) : (vecs m b).length < 5000 := by
  rcases hm with rfl | rfl
  · rw [vecs_one]
    have := W_66 (show b ≤ 64 by omega)
    omega
  · have : b = 1 ∨ b = 2 ∨ b = 3 ∨ b = 4 ∨ b = 5 ∨ b = 6 ∨ b = 7 ∨ b = 8 ∨ b = 9 ∨ b = 10 := by omega
    rcases this with rfl | rfl | rfl | rfl | rfl | rfl | rfl | rfl | rfl | rfl <;> decide +kernel
theorem same_kept {d l : Addr} {H H1 H2 : Hp} (s : Same H H1) (hd : H d = none) (hl : H l = none) (k : Kept d l H1 H2) : Same H H2 := fun a o e => k a o (s a o e) (ne_of_none e hd) (ne_of_none e hl)
theorem deep0 : ∀ W : List Nat, DeepL (List.replicate W.length 0) W
  | [] => trivial
  | _ :: W => ⟨Nat.zero_le _, deep0 W⟩
/-- the tables of the functions -/
def TldV (C : Addr) (Y : List Addr) (H : Hp) (b : Nat) (us : List V) (X : List FV) (n : Nat) : Prop := us.length = n ∧ ∀ (k : Nat) x, k < n → X[k]? = some x → ∃ t dx lt et ct, us[k]? = some (.ref t) ∧ TbN C Y H t x.ds b x.cs dx lt et ct
theorem TldV.same {C : Addr} {Y : List Addr} {H H' : Hp} {b : Nat} {us : List V} {X : List FV} {n : Nat} (h : TldV C Y H b us X n) (s : Same H H') : TldV C Y H' b us X n := ⟨h.1, fun k x hk hx => let ⟨t, dx, lt, et, ct, a1, a2⟩ := h.2 k x hk hx; ⟨t, dx, lt, et, ct, a1, a2.same s⟩⟩
theorem TldV.mv {C y : Addr} {Y : List Addr} {H H' : Hp} {b : Nat} {us : List V} {X : List FV} {n : Nat} (h : TldV C Y H b us X n) (hy : y ∈ Y) (m : MvX y H H') : TldV C Y H' b us X n := ⟨h.1, fun k x hk hx => let ⟨t, dx, lt, et, ct, a1, a2⟩ := h.2 k x hk hx; ⟨t, dx, lt, et, ct, a1, a2.mv hy m⟩⟩
/-- the values of the functions at the points -/
def RwsV (H : Hp) (D : Addr) (mo : List Nat) (b : Nat) (us : List V) (X : List FV) (n : Nat) : Prop := us.length = n ∧ ∀ (k : Nat) x, k < n → X[k]? = some x → ∃ r, us[k]? = some (.ref r) ∧ LI H r ((spotsL mo b).map (valT b x.cs x.ds)) ∧ r ≠ D
theorem RwsV.same {H H' : Hp} {D : Addr} {mo : List Nat} {b : Nat} {us : List V} {X : List FV} {n : Nat} (h : RwsV H D mo b us X n) (s : Same H H') : RwsV H' D mo b us X n := ⟨h.1, fun k x hk hx => let ⟨r, a1, a2, a3⟩ := h.2 k x hk hx; ⟨r, a1, a2.same s, a3⟩⟩
theorem RwsV.app {H : Hp} {D r : Addr} {mo : List Nat} {b : Nat} {us : List V} {X : List FV} {n : Nat} {x : FV} {o : HO} (h : RwsV H D mo b us X n) (hx : X[n]? = some x) (hr : LI H r ((spotsL mo b).map (valT b x.cs x.ds))) (nr : r ≠ D) : RwsV (upd H D o) D mo b (us ++ [.ref r]) X (n + 1) := by
  refine ⟨by rw [List.length_append, h.1]; rfl, fun k y hk hy => ?_⟩
  by_cases e : k < n
  · obtain ⟨r', a1, a2, a3⟩ := h.2 k y e hy
    exact ⟨r', by rw [List.getElem?_append_left (by rw [h.1]; exact e)]; exact a1, a2.updN a3, a3⟩
  · have : k = n := by omega
    subst this
    rw [hx] at hy
    obtain rfl := Option.some.inj hy
    exact ⟨r, by rw [List.getElem?_append_right (by rw [h.1]; exact Nat.le_refl _), h.1, Nat.sub_self]; rfl, hr.updN nr, nr⟩
theorem TldV.app {C D t dx lt et ct : Addr} {Y : List Addr} {H : Hp} {b : Nat} {us vs : List V} {X : List FV} {n : Nat} {x : FV} {o : HO} (h : TldV C Y H b us X n) (hx : X[n]? = some x) (ht : TbN C Y H t x.ds b x.cs dx lt et ct) (hD : H D = some (.lst vs)) (hy : D ∈ Y) : TldV C Y (upd H D o) b (us ++ [.ref t]) X (n + 1) := by
  have m : MvX D H (upd H D o) := MvX.up hD
  refine ⟨by rw [List.length_append, h.1]; rfl, fun k y hk hy' => ?_⟩
  by_cases e : k < n
  · obtain ⟨t', dx', lt', et', ct', a1, a2⟩ := h.2 k y e hy'
    exact ⟨t', dx', lt', et', ct', by rw [List.getElem?_append_left (by rw [h.1]; exact e)]; exact a1, a2.mv hy m⟩
  · have : k = n := by omega
    subst this
    rw [hx] at hy'
    obtain rfl := Option.some.inj hy'
    exact ⟨t, dx, lt, et, ct, by rw [List.getElem?_append_right (by rw [h.1]; exact Nat.le_refl _), h.1, Nat.sub_self]; rfl, ht.mv hy m⟩
noncomputable def matE (m b : Nat) (X : List FV) : List (List Bool) := X.map fun x => X.map fun y => eqF m b x y
noncomputable def matN (m b : Nat) (X : List FV) : List (List Bool) := X.map fun x => X.map fun y => !eqF m b x y
end My

set_option pp.maxSteps 400
set_option Elab.async false
set_option linter.all false
set_option maxRecDepth 100000
set_option maxHeartbeats 1000000
namespace My
open PySem L2 MyR
structure ConB (P : Program) (w : World) (K : PySem.W.Frag) (mg : Str → Option Value) (base : Heap) (C : Addr) where
  f : Addr
  mc : Value
  p : Addr
  rd : ClX.CRead K C mc
  cm : ClX.CMet K C mc "constant" p f
  fnr : FnR P w K mg base CX0 8 f (spConst C)
/-- == of Table, and what is no table -/
structure EqB (P : Program) (w : World) (K : PySem.W.Frag) (mg : Str → Option Value) (base : Heap) (C : Addr) where
  f : Addr
  fd : FuncData
  e : EqC K C f
  ok : FnOk P w K mg base CX0 9 f fd ["self", "other"] (spEqT K C)
  b : Binds K fd ["self", "other"] []
  nt : PySem.W.notFirst K C (.type "tuple") = true
  kt : PySem.W.kitOne K (.type "tuple") (.ref C) = some false
  ni : PySem.W.notFirst K C (.type "int") = true
  ki : PySem.W.kitOne K (.type "int") (.ref C) = some false
  ns : PySem.W.notFirst K C (.type "str") = true
  ks : PySem.W.kitOne K (.type "str") (.ref C) = some false
  nn : PySem.W.notFirst K C (.type "NoneType") = true
  kn : PySem.W.kitOne K (.type "NoneType") (.ref C) = some false
def spLaw (K : PySem.W.Frag) : Sp := fun vs H Q _ => ∃ (a : Addr) (ns : List Int), vs = [.ref a] ∧ SqL K H a (ns.map V.int) ∧ ns.length ≤ 63 ∧ ∀ H', Q (.bl true) H'
section
variable {P : Program} {w : World} {K : PySem.W.Frag} {mg : Str → Option Value} {base : Heap}
abbrev s_law : Stmt := top 48
abbrev N_law : List Str := ["_law_script", "_law_base", "_law_deal_here", "_law_depths", "_law_wide", "_law_most", "_law_some", "_law_made_here", "_law_deep", "_law_one", "_law_other", "_law_told", "_law_rows", "_law_due", "_law_row_here", "_law_zero", "_law_less", "_law_strange"]
theorem sc_law : FnScope N_law ["_law_script"] (defScope s_law) := ⟨rfl, rfl, rfl, by decide +kernel, rfl, by decide +kernel, by decide +kernel⟩
def lawFor : List Stmt := match defBody s_law with
  | .For _ _ b _ _ :: _ => b
  | _ => []
def lcsOf : Expr → List Scope
  | .ListComp _ _ sc _ => [sc]
  | .Call _ [a] _ _ => (lcOf a).elim [] fun x => [x.1]
  | .Compare l _ [r] _ => (match l with | .Call _ [a] _ _ => (lcOf a).elim [] fun x => [x.1] | e => (lcOf e).elim [] fun x => [x.1]) ++ (lcOf r).elim [] fun x => [x.1]
  | _ => []
def lawSc (i j : Nat) : Scope := match lawFor[i]? with
  | some (.Assign _ e _) => (lcsOf e)[j]?.getD (defScope s_law)
  | some (.If t _ _ _) => (lcsOf t)[j]?.getD (defScope s_law)
  | _ => defScope s_law
theorem ok_law {f C : Addr} {fd : FuncData} (F : Fun K "law" "law" s_law f fd) (T : Glob mg) (g_min : mg "min" = none) (g_repr : mg "repr" = none) (C0 : TbC K C) (nm : ClsN K C) (TX : TbV P w K mg base C) (EB : EqB P w K mg base C) (MC : ConB P w K mg base C)
    (D_law_deal : Df P w K mg base 1 "_law_deal" ["_law_script", "_law_base"] (spDealB K)) (D_law_shape : Df P w K mg base 2 "_law_shape" ["_law_deal_here"] spShp) (D_law_functions : Df P w K mg base 7 "_law_functions" ["_law_deal_here", "_law_wide", "_law_depths"] spFns)
    (D_law_entries : Df P w K mg base 6 "_law_entries" ["_law_made_here", "_law_depths", "_law_wide"] spEntriesX) (D_law_entries_at : Df P w K mg base 6 "_law_entries_at" ["_law_made_here", "_law_depths", "_law_other", "_law_wide"] spEntAt) : FnOkG P w K mg base CX0 11 f fd ["_law_script"] (spLaw K) := by
  refine okG F sc_law (fun vs H Q E h => ?_) (fun cdv A hgd outer s H vs Q E hr h => ?_)
  · obtain ⟨a, ns, rfl, _⟩ := h
    rfl
  · obtain ⟨sA, ns, rfl, hS, hlen, kq⟩ := h
    have nd := sc_law.nd
    refine ⟨_, (pss_cons (ps_for PassesOwn.never rfl (pi_range1 (by rfl) T.g_range (pa_cons pe_int pa_nil)) (pg_name (i := 1) nd rfl (Or.inl rfl))
    (pss_cons (ps_set (i := 2) nd rfl (Or.inl rfl) (pe_call D_law_deal.ok (hr.mono (by decide)) (by rfl) D_law_deal.g D_law_deal.kp D_law_deal.b .nil pass0 (pa_cons (pv 0) (pa_cons (pv 1) pa_nil))))
    (pss_cons (ps_asg (pe_call D_law_shape.ok (hr.mono (by decide)) (by rfl) D_law_shape.g D_law_shape.kp D_law_shape.b .nil pass0 (pa_cons (pv 2) pa_nil)) (pg_tup (by rfl) (pgs_cons (pg_name (i := 3) nd rfl (Or.inl rfl)) (pgs_cons (pg_name (i := 4) nd rfl (Or.inr rfl)) pgs_nil))))
    (pss_cons (ps_asg (pe_tup (pa_cons (pe_callB (call_min2 rfl) (by rfl) g_min (by decide +kernel) (pa_cons (pv 4) (pa_cons pe_int pa_nil))) (pa_cons (pe_op op_repTB (pe_tup (pa_cons pe_int pa_nil)) (pe_callB call_len_seq (by rfl) T.g_len PySem.boot_len (pa_cons (pv 3) pa_nil))) pa_nil))) (pg_tup (by rfl) (pgs_cons (pg_name (i := 4) nd rfl (Or.inr rfl)) (pgs_cons (pg_name (i := 5) nd rfl (Or.inr rfl)) pgs_nil))))
    (pss_cons (ps_set (i := 6) nd rfl (Or.inl rfl) (pe_call D_law_functions.ok (hr.mono (by decide)) (by rfl) D_law_functions.g D_law_functions.kp D_law_functions.b .nil pass0 (pa_cons (pv 2) (pa_cons (pv 4) (pa_cons (pv 3) pa_nil)))))
    (pss_cons (ps_for PassesOwn.never rfl (pi_list (pv 6)) (pg_tup (by rfl) (pgs_cons (pg_name (i := 7) nd rfl (Or.inl rfl)) (pgs_cons (pg_name (i := 8) nd rfl (Or.inl rfl)) pgs_nil)))
    (pss_one (ps_set (i := 5) nd rfl (Or.inr rfl) (pe_callTy call_tuple_of (by rfl) T.g_tuple (by decide +kernel) (pa_cons (pe_lc (own := [("_law_one", 9), ("_law_other", 10)]) (g := gTup K 2 (gCons (gName 9) (gCons (gName 10) gNil))) (tt := tYes) rfl nd (pi_zipK (by rfl) T.g_zip (pa_cons (pv 5) (pa_cons (pv 8) pa_nil))) (blkOk_by (N := N_law) (sc := defScope s_law) (by decide +kernel)) (fun _ _ _ _ _ => pg_tup (by rfl) (pgs_cons ((by first | exact pg_name (i := 9) nd rfl (Or.inl rfl) | exact pg_name (i := 9) nd rfl (Or.inr rfl))) (pgs_cons ((by first | exact pg_name (i := 10) nd rfl (Or.inl rfl) | exact pg_name (i := 10) nd rfl (Or.inr rfl))) pgs_nil))) (fun _ _ _ _ _ => pts_nil) (fun _ _ _ _ _ => (pe_callB (call_max2 rfl) (by rfl) T.g_max (by decide +kernel) (pa_cons (pv 9) (pa_cons (pv 10) pa_nil))))) pa_nil)))))
    (pss_cons (ps_set (i := 11) nd rfl (Or.inr rfl) (pe_lc (own := [("_law_made_here", 7), ("_law_deep", 8)]) (g := gTup K 2 (gCons (gName 7) (gCons (gName 8) gNil))) (tt := tYes) rfl nd (pi_list (pv 6)) (blkOk_by (N := N_law) (sc := defScope s_law) (by decide +kernel)) (fun _ _ _ _ _ => pg_tup (by rfl) (pgs_cons (pg_name (i := 7) nd rfl (Or.inl rfl)) (pgs_cons (pg_name (i := 8) nd rfl (Or.inl rfl)) pgs_nil))) (fun _ _ _ _ _ => pts_nil) (fun _ _ _ _ _ => (pe_make TX.m TX.ok (hr.mono (by decide)) (by rfl) TX.g TX.b .nil pass0 (pa_cons (pv 8) (pa_cons (pv 4) (pa_cons (pe_call D_law_entries.ok (hr.mono (by decide)) (by rfl) D_law_entries.g D_law_entries.kp D_law_entries.b .nil pass0 (pa_cons (pv 7) (pa_cons (pv 8) (pa_cons (pv 4) pa_nil)))) pa_nil)))))))
    (pss_cons (ps_set (i := 12) nd rfl (Or.inr rfl) (pe_lc (own := [("_law_made_here", 7), ("_law_deep", 8)]) (g := gTup K 2 (gCons (gName 7) (gCons (gName 8) gNil))) (tt := tYes) rfl nd (pi_list (pv 6)) (blkOk_by (N := N_law) (sc := defScope s_law) (by decide +kernel)) (fun _ _ _ _ _ => pg_tup (by rfl) (pgs_cons (pg_name (i := 7) nd rfl (Or.inl rfl)) (pgs_cons (pg_name (i := 8) nd rfl (Or.inl rfl)) pgs_nil))) (fun _ _ _ _ _ => pts_nil) (fun _ _ _ _ _ => (pe_call D_law_entries_at.ok (hr.mono (by decide)) (by rfl) D_law_entries_at.g D_law_entries_at.kp D_law_entries_at.b .nil pass0 (pa_cons (pv 7) (pa_cons (pv 8) (pa_cons (pv 5) (pa_cons (pv 4) pa_nil))))))))
    (pss_cons (ps_setLc (i := 13) (own := [("_law_one", 9)]) (g := gName 9) (tt := tYes) rfl nd rfl rfl (sw_true rfl rfl rfl (by decide +kernel)) (pi_list (pv 12)) (blkOk_by (N := N_law) (sc := defScope s_law) (by decide +kernel)) (fun _ _ _ _ _ => (by first | exact pg_name (i := 9) nd rfl (Or.inl rfl) | exact pg_name (i := 9) nd rfl (Or.inr rfl))) (fun _ _ _ _ _ => pts_nil) (fun _ _ _ _ _ => (pe_lc (own := [("_law_other", 10)]) (g := gName 10) (tt := tYes) rfl nd (pi_listN (K := K) rfl (pv 12)) (blkOk_by (N := N_law) (sc := relabS (lawSc 7 0) (defScope s_law)) (by decide +kernel)) (fun _ _ _ _ _ => (by first | exact pg_name (i := 10) nd rfl (Or.inl rfl) | exact pg_name (i := 10) nd rfl (Or.inr rfl))) (fun _ _ _ _ _ => pts_nil) (fun _ _ _ _ _ => (pe_cmpR (r := rEqD K) (op_eqD hr.units) (pv 9) (pv 10) (nomark _))))))
    (pss_cons (ps_if (pt_cmpR op_ne (pe_callB (call_reprD hgd hr.units) (by rfl) g_repr (by decide +kernel) (pa_cons (pe_lc (own := [("_law_one", 9)]) (g := gName 9) (tt := tYes) rfl nd (pi_list (pv 11)) (blkOk_by (N := N_law) (sc := defScope s_law) (by decide +kernel)) (fun _ _ _ _ _ => (by first | exact pg_name (i := 9) nd rfl (Or.inl rfl) | exact pg_name (i := 9) nd rfl (Or.inr rfl))) (fun _ _ _ _ _ => pts_nil) (fun _ _ _ _ _ => (pe_lc (own := [("_law_other", 10)]) (g := gName 10) (tt := tYes) rfl nd (pi_listN (K := K) rfl (pv 11)) (blkOk_by (N := N_law) (sc := relabS (lawSc 8 0) (defScope s_law)) (by decide +kernel)) (fun _ _ _ _ _ => (by first | exact pg_name (i := 10) nd rfl (Or.inl rfl) | exact pg_name (i := 10) nd rfl (Or.inr rfl))) (fun _ _ _ _ _ => pts_nil) (fun _ _ _ _ _ => (pe_cmpR (r := rEqX0 P w K mg base (A.deeper (PyProof.Rows.envOfC "law" (defScope s_law) s.heap.objs.size f cdv)) false) op_eqX0 (pv 9) (pv 10) (nomark _)))))) pa_nil)) (pe_callB (call_reprD hgd hr.units) (by rfl) g_repr (by decide +kernel) (pa_cons (pv 13) pa_nil)) (nomark _))
    (pss_one ps_never)
    pss_nil)
    (pss_cons (ps_if (pt_cmpR (op_neD hr.units) (pe_lc (own := [("_law_one", 9)]) (g := gName 9) (tt := tYes) rfl nd (pi_list (pv 11)) (blkOk_by (N := N_law) (sc := defScope s_law) (by decide +kernel)) (fun _ _ _ _ _ => (by first | exact pg_name (i := 9) nd rfl (Or.inl rfl) | exact pg_name (i := 9) nd rfl (Or.inr rfl))) (fun _ _ _ _ _ => pts_nil) (fun _ _ _ _ _ => (pe_lc (own := [("_law_other", 10)]) (g := gName 10) (tt := tYes) rfl nd (pi_listN (K := K) rfl (pv 11)) (blkOk_by (N := N_law) (sc := relabS (lawSc 9 0) (defScope s_law)) (by decide +kernel)) (fun _ _ _ _ _ => (by first | exact pg_name (i := 10) nd rfl (Or.inl rfl) | exact pg_name (i := 10) nd rfl (Or.inr rfl))) (fun _ _ _ _ _ => pts_nil) (fun _ _ _ _ _ => (pe_cmpR (r := rNeX0 P w K mg base (A.deeper (PyProof.Rows.envOfC "law" (defScope s_law) s.heap.objs.size f cdv))) op_neX0 (pv 9) (pv 10) (nomark _)))))) (pe_lc (own := [("_law_row_here", 14)]) (g := gName 14) (tt := tYes) rfl nd (pi_list (pv 13)) (blkOk_by (N := N_law) (sc := defScope s_law) (by decide +kernel)) (fun _ _ _ _ _ => pg_name (i := 14) nd rfl (Or.inl rfl)) (fun _ _ _ _ _ => pts_nil) (fun _ _ _ _ _ => (pe_lc (own := [("_law_one", 9)]) (g := gName 9) (tt := tYes) rfl nd (pi_listN (K := K) rfl (pv 14)) (blkOk_by (N := N_law) (sc := relabS (lawSc 9 1) (defScope s_law)) (by decide +kernel)) (fun _ _ _ _ _ => (by first | exact pg_name (i := 9) nd rfl (Or.inl rfl) | exact pg_name (i := 9) nd rfl (Or.inr rfl))) (fun _ _ _ _ _ => pts_nil) (fun _ _ _ _ _ => (pe_not (pv 9)))))) (nomark _))
    (pss_one ps_never)
    pss_nil)
    (pss_cons (ps_asg (pe_tup (pa_cons (ClX.pe_cmeth (pe_glob (v := .ref C) (by rfl) TX.g (by rfl)) MC.rd MC.cm MC.fnr (hr.mono (by decide)) pass0 (pa_cons pe_int (pa_cons (pe_callB call_len_seq (by rfl) T.g_len PySem.boot_len (pa_cons (pv 3) pa_nil)) (pa_cons (pv 4) pa_nil)))) (pa_cons (ClX.pe_cmeth (pe_glob (v := .ref C) (by rfl) TX.g (by rfl)) MC.rd MC.cm MC.fnr (hr.mono (by decide)) pass0 (pa_cons pe_int (pa_cons (pe_callB call_len_seq (by rfl) T.g_len PySem.boot_len (pa_cons (pv 3) pa_nil)) (pa_cons (pe_op op_add (pv 4) pe_int) pa_nil)))) pa_nil))) (pg_tup (by rfl) (pgs_cons (pg_name (i := 15) nd rfl (Or.inr rfl)) (pgs_cons (pg_name (i := 16) nd rfl (Or.inl rfl)) pgs_nil))))
    (pss_cons (ps_set (i := 17) nd rfl (Or.inl rfl) (pe_lst (pa_cons (pv 16) (pa_cons (ClX.pe_cmeth (pe_glob (v := .ref C) (by rfl) TX.g (by rfl)) MC.rd MC.cm MC.fnr (hr.mono (by decide)) pass0 (pa_cons pe_int (pa_cons (pe_op op_sub pe_int (pe_callB call_len_seq (by rfl) T.g_len PySem.boot_len (pa_cons (pv 3) pa_nil))) (pa_cons (pv 4) pa_nil)))) (pa_cons pe_non (pa_cons pe_int (pa_cons (pe_fld (pv 15) rfl) (pa_cons pe_str pa_nil))))))))
    (pss_one (ps_if (pt_cmpR (op_neD hr.units) (pe_lc (own := [("_law_one", 9)]) (g := gName 9) rfl nd (pi_list (pv 17)) (blkOk_by (N := N_law) (sc := defScope s_law) (by decide +kernel)) (fun _ _ _ _ _ => (by first | exact pg_name (i := 9) nd rfl (Or.inl rfl) | exact pg_name (i := 9) nd rfl (Or.inr rfl))) (fun _ _ _ _ _ => pts_one (PW.pt (pw_or (pt_cmpR (r := rEqX0 P w K mg base (A.deeper (PyProof.Rows.envOfC "law" (defScope s_law) s.heap.objs.size f cdv)) false) op_eqX0 (pv 15) (pv 9) (nomark _)) (pw_or1 (pt_not (pt_cmpR (r := rNeX0 P w K mg base (A.deeper (PyProof.Rows.envOfC "law" (defScope s_law) s.heap.objs.size f cdv))) op_neX0 (pv 15) (pv 9) (nomark _))))))) (fun _ _ _ _ _ => (pv 9))) (pe_lst pa_nil) (nomark _))
    (pss_one ps_never)
    pss_nil)))))))))))))))
    (pss_one (ps_ret pe_bl))), ?_⟩
    have zl : 16777216 = sizeLine := sizeLine_eq.symm
    refine ⟨2, rfl, by decide, by decide, ?_⟩
    refine for_range (lo := 0) (n := 2) (fun i σ H1 => ∃ (a1 a2 a3 a4 a5 a6 a7 a8 a9 a10 a11 a12 a13 a14 a15 a16 a17 : Option V), σ = [some (.ref sA), a1, a2, a3, a4, a5, a6, a7, a8, a9, a10, a11, a12, a13, a14, a15, a16, a17] ∧ Same H H1)
      ⟨none, none, none, none, none, none, none, none, none, none, none, none, none, none, none, none, none, rfl, fun _ _ e => e⟩ ?_ ?_
    rotate_left
    · rintro σ H1 ⟨a1, a2, a3, a4, a5, a6, a7, a8, a9, a10, a11, a12, a13, a14, a15, a16, a17, rfl, s1⟩
      exact kq H1
    rintro i σ H1 hi ⟨a1, a2, a3, a4, a5, a6, a7, a8, a9, a10, a11, a12, a13, a14, a15, a16, a17, rfl, s1⟩
    generalize hTn : some (V.int (0 + (i : Int))) = tn
    refine seq_by (fun σ H2 => ∃ (dl l : Addr), σ = [some (.ref sA), tn, some (.ref dl), a3, a4, a5, a6, a7, a8, a9, a10, a11, a12, a13, a14, a15, a16, a17] ∧ Same H H2 ∧ Deal H2 dl l ∧ H dl = none ∧ H l = none) (fun D' hD' => ?_) ?_
    · exact ⟨_, rfl, _, rfl, sA, ns, 0 + (i : Int), rfl, by omega, by omega, SqL.ext hS s1, hlen, fun dl l H2 hd hl s2 D2 => hD' _ _ ⟨dl, l, by rw [← hTn]; rfl, s1.trans s2, D2, same_free s1 hd, same_free s1 hl⟩⟩
    clear s1
    rintro σ H2 ⟨dl, l, rfl, s2, D2, fd, fl⟩
    refine seq_by (fun σ H3 => ∃ (lt : Addr) (ds : List Nat) (b0 : Nat), σ = [some (.ref sA), tn, some (.ref dl), some (.ref lt), some (.int (b0 : Int)), a5, a6, a7, a8, a9, a10, a11, a12, a13, a14, a15, a16, a17] ∧ Same H H3 ∧ Deal H3 dl l ∧ TupI H3 lt (dI ds) ∧ SpOk ds b0) (fun D' hD' => ?_) ?_
    · exact ⟨_, rfl, dl, l, rfl, D2, fun T' lt ds b H3 D3 k3 h1 h2 h3 => ⟨T', _, rfl, SqT.of h1, rfl, _, _, rfl, _, _, rfl, rfl, hD' _ _ ⟨lt, ds, b, rfl, same_kept s2 fd fl k3, D3, h2, h3⟩⟩⟩
    clear s2 D2
    rintro σ H3 ⟨lt, ds, b0, rfl, s3, D3, hlt, ok⟩
    have hdl : ((dI ds).map V.int).length = ds.length := by rw [List.length_map]; unfold dI; rw [List.length_map]
    have hm := ok.m
    have h1 := ok.b1
    have h64 := ok.b64
    obtain ⟨b, hb⟩ : ∃ b, b = min b0 9 := ⟨_, rfl⟩
    have hb1 : 1 ≤ b := by omega
    have hb9 : b ≤ 9 := by omega
    have ebI : (if (9 : Int) < (b0 : Int) then (9 : Int) else (b0 : Int)) = (b : Int) := by split <;> omega
    obtain ⟨W, hWd⟩ : ∃ W, W = ds.map (· + 1) := ⟨_, rfl⟩
    have hWl : W.length = ds.length := by rw [hWd, List.length_map]
    have hW : AskOk W b := ⟨by rw [hWl]; exact hm, by rw [hWd]; exact ok.w, hb1, by omega, by rw [hWl]; exact vec10 hm hb1 (by omega)⟩
    refine seq_by (fun σ H4 => ∃ t0 : Addr, σ = [some (.ref sA), tn, some (.ref dl), some (.ref lt), some (.int (b : Int)), some (.ref t0), a6, a7, a8, a9, a10, a11, a12, a13, a14, a15, a16, a17] ∧ Same H3 H4 ∧ TupI H4 t0 (dI (List.replicate ds.length 0))) (fun D' hD' => ?_) ?_
    · refine ⟨_, rfl, _, _, rfl, ?_⟩
      rw [ebI]
      refine ⟨(by show 1 ≤ sizeLine; omega), fun z hz => ?_⟩
      have sz := new_same (o := .tup [V.int 0]) hz
      have hlt4 := hlt.same sz
      have hz4 : upd H3 z (.tup [V.int 0]) z = some (.tup [V.int 0]) := upd_same
      generalize upd H3 z (.tup [V.int 0]) = H4 at sz hlt4 hz4 ⊢
      refine ⟨_, rfl, lt, _, rfl, .inr (SqT.of hlt4), ?_⟩
      rw [hdl]
      refine ⟨z, _, _, rfl, rfl, SqT.of hz4, by simp, ?_⟩
      rcases hm with e | e
      · refine .inl ⟨by omega, (by show 2 ≤ sizeLine; omega), fun T' hT' => ?_⟩
        have sT := new_same (o := .tup [V.int (b : Int), .ref z]) hT'
        exact ⟨T', _, rfl, SqT.of upd_same, rfl, _, _, rfl, _, _, rfl, rfl, hD' _ _ ⟨z, rfl, sz.trans sT, by rw [e]; exact sT _ _ hz4⟩⟩
      · refine .inr ⟨by omega, by omega, by decide, fun p hp => ⟨(by show 2 ≤ sizeLine; omega), fun T' hT' => ?_⟩⟩
        have sp := new_same (o := .tup (List.replicate (ds.length : Int).toNat [V.int 0]).flatten) hp
        have sT := new_same (o := .tup [V.int (b : Int), .ref p]) hT'
        have hp5 : upd H4 p (.tup (List.replicate (ds.length : Int).toNat [V.int 0]).flatten) p = some (.tup ((dI (List.replicate ds.length 0)).map V.int)) := by
          rw [upd_same, e]
          rfl
        exact ⟨T', _, rfl, SqT.of upd_same, rfl, _, _, rfl, _, _, rfl, rfl, hD' _ _ ⟨p, rfl, sz.trans (sp.trans sT), sT _ _ hp5⟩⟩
    rintro σ H4 ⟨t0, rfl, s4, ht0⟩
    refine seq_by (fun σ H5 => ∃ (S : Addr) (vs : List V) (X : List FV), σ = [some (.ref sA), tn, some (.ref dl), some (.ref lt), some (.int (b : Int)), some (.ref t0), some (.ref S), a7, a8, a9, a10, a11, a12, a13, a14, a15, a16, a17] ∧ Same H H5 ∧ TupI H5 lt (dI ds) ∧ TupI H5 t0 (dI (List.replicate ds.length 0)) ∧ H5 S = some (.lst vs) ∧ X.length = 5 ∧ FnsV H5 l ds.length b W vs X) (fun D' hD' => ?_) ?_
    · have D4 := D3.same s4
      refine ⟨_, rfl, _, rfl, _, rfl, dl, l, lt, ds, b, rfl, D4, hlt.same s4, by rw [← hWd]; exact hW, fun S H5 vs k5 hS5 hl5 hv5 => ?_⟩
      rw [← hWd] at hv5
      obtain ⟨X, hX⟩ := fns_list hv5
      exact hD' _ _ ⟨S, vs, X, rfl, same_kept (s3.trans s4) fd fl k5, (hlt.same s4).kept k5 D4, ht0.kept k5 D4, hS5, by rw [← hX.1, hl5], hX⟩
    clear s3 D3 hlt s4 ht0
    rintro σ H5 ⟨S, vs, X, rfl, s5, hlt, ht0, hS5, hXl, hX⟩
    have hvl : vs.length = 5 := by rw [hX.1, hXl]
    refine seq_by (fun σ H6 => ∃ (a7 a8 a9 a10 a11 a12 a13 a14 a15 a16 a17 : Option V) (mA : Addr) (mo : List Nat), σ = [some (.ref sA), tn, some (.ref dl), some (.ref lt), some (.int (b : Int)), some (.ref mA), some (.ref S), a7, a8, a9, a10, a11, a12, a13, a14, a15, a16, a17] ∧ Same H5 H6 ∧ TupI H6 mA (dI mo) ∧ DeepL mo W ∧ ∀ (k : Nat) x, X[k]? = some x → DeepL x.ds mo) (fun D' hD' => ?_) ?_
    · refine ⟨_, rfl, S, rfl, ⟨_, SqL.of hS5⟩, ?_⟩
      refine for_list (xs := vs) (fun j σ H6 => ∃ (a7 a8 a9 a10 a11 a12 a13 a14 a15 a16 a17 : Option V) (mA : Addr) (mo : List Nat), σ = [some (.ref sA), tn, some (.ref dl), some (.ref lt), some (.int (b : Int)), some (.ref mA), some (.ref S), a7, a8, a9, a10, a11, a12, a13, a14, a15, a16, a17] ∧ Same H5 H6 ∧ TupI H6 mA (dI mo) ∧ DeepL mo W ∧ ∀ (k : Nat) x, k < j → X[k]? = some x → DeepL x.ds mo)
        ⟨_, _, _, _, _, _, _, _, _, _, _, t0, _, rfl, fun _ _ e => e, ht0, by rw [← hWl]; exact deep0 W, fun k x hk => absurd hk (Nat.not_lt_zero _)⟩ (fun j σ H6 _ h => by obtain ⟨_, _, _, _, _, _, _, _, _, _, _, _, _, _, h, _⟩ := h; exact SqL.of (h _ _ hS5)) ?_ ?_
      · rintro j v σ H6 hj ⟨a7, a8, a9, a10, a11, a12, a13, a14, a15, a16, a17, mA, mo, rfl, s6, hmA, hmo, hdeep⟩
        obtain ⟨x, hxj, Fv⟩ := hX.at hj
        obtain ⟨T1, rfl, hT1, P1, F1⟩ := Fv.same s6
        refine ⟨T1, _, rfl, SqT.of hT1, rfl, _, _, rfl, _, _, rfl, rfl, ?_⟩
        obtain ⟨g1, g2, g3⟩ := DeepL.mx hW.m hmo F1.w
        have hml := hmo.len
        have hel := F1.w.len
        have hmol : ((dI mo).map V.int).length = mo.length := by rw [List.length_map]; unfold dI; rw [List.length_map]
        refine ⟨_, rfl, _, rfl, true, true, mA, x.lt, _, _, rfl, sqK_t (SqT.of hmA), sqK_t (SqT.of P1.t), fun D hD => ?_⟩
        refine lc_it (walk_zipK (xs := (dI mo).map V.int) (ys := (dI x.ds).map V.int) (by rw [hmol, List.length_map]; unfold dI; rw [List.length_map]; omega)) (fun i H1 => Same H6 H1 ∧ LI H1 D (dI ((List.range i).map fun i => if x.ds.getD i 0 > mo.getD i 0 then x.ds.getD i 0 else mo.getD i 0))) ⟨new_same hD, upd_same⟩ (fun i H1 _ h => ⟨sqK_t (SqT.of (hmA.same h.1)), sqK_t (SqT.of (P1.t.same h.1))⟩) ?_ ?_
        · rintro i xx H1 H2 hi ⟨s1, h1⟩ ⟨T', x1, x2, rfl, hT, rfl, hx1, hx2⟩
          rw [hmol] at hi
          have gt : ∀ (xs : List Nat), i < xs.length → ((dI xs).map V.int)[i]? = some (.int ((xs.getD i 0 : Nat) : Int)) := fun xs h => by
            have e : (dI xs)[i]? = some ((xs.getD i 0 : Nat) : Int) := by
              unfold dI
              rw [List.getElem?_map, List.getD_eq_getElem?_getD, List.getElem?_eq_getElem h]
              rfl
            exact map_at_int e
          have hx1 : ((dI mo).map V.int)[i]? = some x1 := hx1
          have hx2 : ((dI x.ds).map V.int)[i]? = some x2 := hx2
          rw [gt mo hi] at hx1
          rw [gt x.ds (by omega)] at hx2
          obtain rfl := Option.some.inj hx1
          obtain rfl := Option.some.inj hx2
          have st := new_same (o := .tup [V.int ((mo.getD i 0 : Nat) : Int), .int ((x.ds.getD i 0 : Nat) : Int)]) hT
          have s2 := s1.trans st
          have h2 := h1.same st
          refine ⟨T', _, rfl, SqT.of upd_same, rfl, _, _, rfl, _, _, rfl, rfl, rfl, ?_⟩
          dsimp only [tYes]
          rw [if_pos rfl]
          generalize upd H1 T' (.tup [V.int ((mo.getD i 0 : Nat) : Int), .int ((x.ds.getD i 0 : Nat) : Int)]) = H3 at s2 h2 ⊢
          refine ⟨_, rfl, _, rfl, _, _, rfl, ?_⟩
          refine ⟨_, h2, by rw [List.length_map]; unfold dI; rw [List.length_map, List.length_map, List.length_range]; omega, same_up s2 hD, ?_⟩
          have e : (if ((x.ds.getD i 0 : Nat) : Int) > ((mo.getD i 0 : Nat) : Int) then ((x.ds.getD i 0 : Nat) : Int) else ((mo.getD i 0 : Nat) : Int)) = ((if x.ds.getD i 0 > mo.getD i 0 then x.ds.getD i 0 else mo.getD i 0 : Nat) : Int) := by
            split
            · rename_i q
              rw [if_pos (by omega)]
            · rename_i q
              rw [if_neg (by omega)]
          rw [e]
          unfold dI
          rw [List.range_succ, List.map_append, List.map_append]
          exact li_snoc
        · rintro H1 ⟨s1, h1⟩
          rw [hmol] at h1
          refine ⟨D, _, rfl, .inl ⟨SqL.of h1, fun t ht => ?_⟩⟩
          have s7 := s1.trans (new_same (o := .tup ((dI (mxL mo x.ds)).map V.int)) ht)
          refine ⟨_, _, _, _, _, _, _, _, _, _, _, t, mxL mo x.ds, rfl, s6.trans s7, upd_same, g1, fun k y hk hy => ?_⟩
          by_cases e : k < j
          · exact (hdeep k y e hy).trans g2
          · have : k = j := by omega
            subst this
            rw [hxj] at hy
            obtain rfl := Option.some.inj hy
            exact g3
      · rintro σ H6 ⟨a7, a8, a9, a10, a11, a12, a13, a14, a15, a16, a17, mA, mo, rfl, s6, hmA, hmo, hdeep⟩
        exact hD' _ _ ⟨_, _, _, _, _, _, _, _, _, _, _, mA, mo, rfl, s6, hmA, hmo, fun k x hx => hdeep k x (by rw [hvl, ← hXl]; exact (List.getElem?_eq_some_iff.mp hx).1) hx⟩
    rintro σ H6 ⟨a7, a8, a9, a10, a11, a12, a13, a14, a15, a16, a17, mA, mo, rfl, s6, hmA, hmo, hdeep⟩
    have s06 := s5.trans s6
    have hS6 := s6 _ _ hS5
    have hX6 := hX.same s6
    have hlt6 := hlt.same s6
    have fM := fnd_of hW hWl hmo
    have hmol := hmo.len
    clear s5 hlt ht0 hS5 hX s6
    refine seq_by (fun σ H7 => ∃ (Tl : Addr) (us : List V), σ = [some (.ref sA), tn, some (.ref dl), some (.ref lt), some (.int (b : Int)), some (.ref mA), some (.ref S), a7, a8, a9, a10, some (.ref Tl), a12, a13, a14, a15, a16, a17] ∧ Same H6 H7 ∧ H7 Tl = some (.lst us) ∧ TldV C [Tl] H7 b us X 5) (fun D' hD' => ?_) ?_
    · refine ⟨_, rfl, S, rfl, ⟨_, SqL.of hS6⟩, fun D hD => ?_⟩
      refine lc_it (walk_list (xs := vs)) (fun j H7 => Same H6 H7 ∧ ∃ us, H7 D = some (.lst us) ∧ TldV C [D] H7 b us X j) ⟨new_same hD, [], upd_same, rfl, fun k x hk => absurd hk (Nat.not_lt_zero _)⟩ (fun j H7 _ h => SqL.of (h.1 _ _ hS6)) ?_ ?_
      · rintro j v H7 H8 hj ⟨s7, us, hD7, hT7⟩ ⟨rfl, hv⟩
        obtain ⟨x, hxj, Fv⟩ := hX6.at hv
        have okx := Fv.ok
        obtain ⟨T1, rfl, hT1, P1, F1⟩ := Fv.same s7
        refine ⟨T1, _, rfl, SqT.of hT1, rfl, _, _, rfl, _, _, rfl, rfl, rfl, ?_⟩
        dsimp only [tYes]
        rw [if_pos rfl]
        refine ⟨_, rfl, _, rfl, _, rfl, _, rfl, _, rfl, x.ml, x.lt, x.ds, b, x.fs, rfl, P1.k, P1.f, P1.t, F1.ask.m, F1.ask.s, F1.ask.b1, F1.ask.b64, F1.ask.v, fun E5 H9 hE s9 hl9 y dx hy hdx ny => ?_⟩
        have s0 : Same H9 (upd (upd H9 dx (.own y)) y (.ins C dx [])) := fun a o e => by rw [upd_ne (ne_of_none e hy), upd_ne (ne_of_none e hdx)]; exact e
        refine ⟨y, dx, x.lt, E5, x.ds, b, _, _, rfl, upd_same, P1.t.same (s9.trans s0), hl9.same s0, allE_modL, okx, fun et ct H10 tb sp fr => ⟨rfl, ?_⟩⟩
        have s910 : Same H9 H10 := fun a o e => sp a o (s0 a o e) (ne_of_none e hy)
        have s8 := s9.trans s910
        have hD10 := s8 _ _ hD7
        have hD9' := (s9.trans s0) _ _ hD7
        refine ⟨us, hD10, by rw [hT7.1]; omega, same_up (s7.trans s8) hD, _, upd_same, (hT7.same s8).app hxj ⟨tb, fun z hz => by rw [List.mem_singleton.mp hz]; exact NL.of fr hD9'⟩ hD10 (List.mem_singleton.mpr rfl)⟩
      · rintro H7 ⟨s7, us, hD7, hT7⟩
        rw [hvl] at hT7
        exact hD' _ _ ⟨D, us, rfl, s7, hD7, hT7⟩
    rintro σ H7 ⟨Tl, us, rfl, s7, hTl, hT7⟩
    have s07 := s06.trans s7
    have hS7 := s7 _ _ hS6
    have hX7 := hX6.same s7
    have hlt7 := hlt6.same s7
    have hmA7 := hmA.same s7
    clear s06 hS6 hX6 hlt6 hmA s7
    refine seq_by (fun σ H8 => ∃ (Rl : Addr) (rs : List V), σ = [some (.ref sA), tn, some (.ref dl), some (.ref lt), some (.int (b : Int)), some (.ref mA), some (.ref S), a7, a8, a9, a10, some (.ref Tl), some (.ref Rl), a13, a14, a15, a16, a17] ∧ Same H7 H8 ∧ H8 Rl = some (.lst rs) ∧ RwsV H8 Rl mo b rs X 5) (fun D' hD' => ?_) ?_
    · refine ⟨_, rfl, S, rfl, ⟨_, SqL.of hS7⟩, fun D hD => ?_⟩
      refine lc_it (walk_list (xs := vs)) (fun j H8 => Same H7 H8 ∧ ∃ rs, H8 D = some (.lst rs) ∧ RwsV H8 D mo b rs X j) ⟨new_same hD, [], upd_same, rfl, fun k x hk => absurd hk (Nat.not_lt_zero _)⟩ (fun j H8 _ h => SqL.of (h.1 _ _ hS7)) ?_ ?_
      · rintro j v H8 H9 hj ⟨s8, rs, hD8, hR8⟩ ⟨rfl, hv⟩
        obtain ⟨x, hxj, Fv⟩ := hX7.at hv
        obtain ⟨T1, rfl, hT1, P1, F1⟩ := Fv.same s8
        refine ⟨T1, _, rfl, SqT.of hT1, rfl, _, _, rfl, _, _, rfl, rfl, rfl, ?_⟩
        dsimp only [tYes]
        rw [if_pos rfl]
        refine ⟨_, rfl, _, rfl, _, rfl, _, rfl, x.ml, x.lt, mA, x.ds, mo, b, x.fs, rfl, P1.k, P1.f, P1.t, hmA7.same s8, F1.ask, fM.ask, by rw [fM.m, F1.m], fun E5 H10 hE s10 hl10 => ?_⟩
        have hD10 := s10 _ _ hD8
        refine ⟨rs, hD10, by rw [hR8.1]; omega, same_up (s8.trans s10) hD, _, upd_same, (hR8.same s10).app hxj hl10 (ne_of_none hD8 hE).symm⟩
      · rintro H8 ⟨s8, rs, hD8, hR8⟩
        rw [hvl] at hR8
        exact hD' _ _ ⟨D, rs, rfl, s8, hD8, hR8⟩
    rintro σ H8 ⟨Rl, rs, rfl, s8, hRl, hR8⟩
    have s08 := s07.trans s8
    have hT8 := hT7.same s8
    have hTl8 := s8 _ _ hTl
    have hlt8 := hlt7.same s8
    clear s07 hS7 hlt7 hmA7 hT7 hTl
    refine seq_by (fun σ H9 => ∃ Du : Addr, σ = [some (.ref sA), tn, some (.ref dl), some (.ref lt), some (.int (b : Int)), some (.ref mA), some (.ref S), a7, a8, a9, a10, some (.ref Tl), some (.ref Rl), some (.ref Du), a14, a15, a16, a17] ∧ Same H8 H9 ∧ MatAt H9 Du (matE ds.length b X)) (fun D' hD' => ?_) ?_
    · refine ⟨_, rfl, Rl, rfl, ⟨_, SqL.of hRl⟩, fun D hD => ?_⟩
      refine lc_it (walk_list (xs := rs)) (fun i H9 => Same H8 H9 ∧ MatAt H9 D ((matE ds.length b X).take i)) ⟨new_same hD, [], upd_same, rfl, fun i r hi => by simp at hi⟩ (fun i H9 _ h => SqL.of (h.1 _ _ hRl)) ?_ ?_
      · rintro i v H9 H9' hi ⟨s9, hM9⟩ ⟨rfl, hv⟩
        have hi5 : i < 5 := by have := hR8.1; omega
        have hxi : X[i]? = some X[i] := List.getElem?_eq_getElem (by omega)
        generalize X[i] = x at hxi
        obtain ⟨v0, hv0, Fx⟩ := hX7.2 i x hxi
        have okx := Fx.ok
        obtain ⟨_, _, _, _, Fdx⟩ := Fx
        obtain ⟨r1, p1, p2, p3⟩ := hR8.2 i x hi5 hxi
        have hv : rs[i]? = some v := hv
        rw [p1] at hv
        obtain rfl := Option.some.inj hv
        refine ⟨rfl, ?_⟩
        dsimp only [tYes]
        rw [if_pos rfl]
        refine ⟨_, rfl, Rl, rfl, ⟨_, SqL.of (s9 _ _ hRl)⟩, fun G hG => ?_⟩
        have nGD : G ≠ D := by
          obtain ⟨as, e1, _⟩ := hM9
          exact (ne_of_none e1 hG).symm
        refine lc_it (walk_list (xs := rs)) (fun j H10 => Same H9' H10 ∧ H10 G = some (.lst (((X.take j).map fun y => eqF ds.length b x y).map V.bl))) ⟨new_same hG, upd_same⟩ (fun j H10 _ h => SqL.of (h.1 _ _ (s9 _ _ hRl))) ?_ ?_
        · rintro j w H10 H10' hj ⟨s10, hG10⟩ ⟨rfl, hw⟩
          have hj5 : j < 5 := by have := hR8.1; omega
          have hyj : X[j]? = some X[j] := List.getElem?_eq_getElem (by omega)
          generalize X[j] = y at hyj
          obtain ⟨w0, hw0, Fy⟩ := hX7.2 j y hyj
          have oky := Fy.ok
          obtain ⟨_, _, _, _, Fdy⟩ := Fy
          have s910 := s9.trans s10
          refine ⟨rfl, ?_⟩
          dsimp only [tYes]
          rw [if_pos rfl]
          have push : ∀ H11, Same H10' H11 → ∃ acc, H11 G = some (.lst acc) ∧ acc.length < sizeLine ∧ Same H9' (upd H11 G (.lst (acc ++ [.bl (eqF ds.length b x y)]))) ∧ upd H11 G (.lst (acc ++ [.bl (eqF ds.length b x y)])) G = some (.lst (((X.take (j + 1)).map fun y => eqF ds.length b x y).map V.bl)) := fun H11 s11 => by
            refine ⟨_, s11 _ _ hG10, by rw [List.length_map, List.length_map, List.length_take]; omega, same_up (s10.trans s11) hG, ?_⟩
            rw [upd_same, List.take_succ, hyj, List.map_append, List.map_append]
            rfl
          obtain ⟨r2, q1, q2, q3⟩ := hR8.2 j y hj5 hyj
          have hw : rs[j]? = some w := hw
          rw [q1] at hw
          obtain rfl := Option.some.inj hw
          refine ⟨_, rfl, _, rfl, _, _, .lst (SqL.of (p2.same s910)) (zD_dp _), .lst (SqL.of (q2.same s910)) (zD_dp _), zD_shapeL _, zD_shapeL _, ?_⟩
          rw [zD_eqL]
          have ee : decide ((spotsL mo b).map (valT b x.cs x.ds) = (spotsL mo b).map (valT b y.cs y.ds)) = eqF ds.length b x y := by
            refine bool_ext (decide_eq_true_iff.trans ((rows_iff fM.ask okx oky (hdeep i x hxi) (hdeep j y hyj)).trans ?_))
            rw [fM.m]
            exact eqF_iff.symm
          rw [ee]
          exact push _ (fun _ _ e => e)
        · rintro H10 ⟨s10, hG10⟩
          have h5 : (rs).length = X.length := by rw [hR8.1, hXl]
          rw [h5, List.take_length] at hG10
          obtain ⟨acc, a1, a2, a3⟩ := (hM9.same s10).app hG10 nGD
          refine ⟨acc, a1, ?_, same_up (s9.trans s10) hD, ?_⟩
          · rw [a2, List.length_take]; omega
          · have e : (matE ds.length b X).take (i + 1) = (matE ds.length b X).take i ++ [X.map fun y => eqF ds.length b x y] := by
              rw [List.take_succ]
              congr 1
              unfold matE
              rw [List.getElem?_map, hxi]
              rfl
            rw [e]
            exact a3
      · rintro H9 ⟨s9, hM9⟩
        have h5 : (rs).length = (matE ds.length b X).length := by unfold matE; rw [hR8.1, List.length_map, hXl]
        rw [h5, List.take_length] at hM9
        exact hD' _ _ ⟨D, rfl, s9, hM9⟩
    rintro σ H9 ⟨Du, rfl, s9, hDu⟩
    have s09 := s08.trans s9
    have hT9 := hT8.same s9
    have hTl9 := s9 _ _ hTl8
    have hlt9 := hlt8.same s9
    have mrep : RepOk (mD (matE ds.length b X)) := mD_rep (by unfold matE; rw [List.length_map]; omega) fun r hr => by
      obtain ⟨x, _, rfl⟩ := List.mem_map.mp hr
      rw [List.length_map]
      omega
    have hrepr : ∀ {H : Hp} {a : Addr} {d : PyData} {Q : VK}, Dp K H (.ref a) d → RepOk d → Q (.str d.shown) H → rReprD K [.ref a] H Q := fun {H a d Q} h1 h2 h3 => .inr ⟨a, d, rfl, h1, h2.s, h2.n, h2.d, h2.l, h3⟩
    clear s08 hT8 hTl8 hlt8 hR8 hRl
    refine seq_by (fun σ H10 => σ = [some (.ref sA), tn, some (.ref dl), some (.ref lt), some (.int (b : Int)), some (.ref mA), some (.ref S), a7, a8, a9, a10, some (.ref Tl), some (.ref Rl), some (.ref Du), a14, a15, a16, a17] ∧ Same H9 H10) (fun D' hD' => ?_) ?_
    · obtain ⟨HA, hHA⟩ : ∃ HA, HA = H9 := ⟨_, rfl⟩
      have hTA := hT9
      have hTlA := hTl9
      have hDuA := hDu
      rw [← hHA] at hTA hTlA hDuA hD' ⊢
      refine ⟨_, rfl, Tl, rfl, ⟨_, SqL.of hTlA⟩, fun D hD => ?_⟩
      refine lc_it (walk_list (xs := us)) (fun i H9 => Same HA H9 ∧ MatAt H9 D ((matE ds.length b X).take i)) ⟨new_same hD, [], upd_same, rfl, fun i r hi => by simp at hi⟩ (fun i H9 _ h => SqL.of (h.1 _ _ hTlA)) ?_ ?_
      · rintro i v H9 H9' hi ⟨s9, hM9⟩ ⟨rfl, hv⟩
        have hi5 : i < 5 := by have := hTA.1; omega
        have hxi : X[i]? = some X[i] := List.getElem?_eq_getElem (by omega)
        generalize X[i] = x at hxi
        obtain ⟨v0, hv0, Fx⟩ := hX7.2 i x hxi
        have okx := Fx.ok
        obtain ⟨_, _, _, _, Fdx⟩ := Fx
        obtain ⟨t1, dx1, lt1, et1, ct1, p1, p2, _⟩ := hTA.2 i x hi5 hxi
        have hv : us[i]? = some v := hv
        rw [p1] at hv
        obtain rfl := Option.some.inj hv
        refine ⟨rfl, ?_⟩
        dsimp only [tYes]
        rw [if_pos rfl]
        refine ⟨_, rfl, Tl, rfl, ⟨_, SqL.of (s9 _ _ hTlA)⟩, fun G hG => ?_⟩
        have nGD : G ≠ D := by
          obtain ⟨as, e1, _⟩ := hM9
          exact (ne_of_none e1 hG).symm
        refine lc_it (walk_list (xs := us)) (fun j H10 => Same H9' H10 ∧ H10 G = some (.lst (((X.take j).map fun y => eqF ds.length b x y).map V.bl))) ⟨new_same hG, upd_same⟩ (fun j H10 _ h => SqL.of (h.1 _ _ (s9 _ _ hTlA))) ?_ ?_
        · rintro j w H10 H10' hj ⟨s10, hG10⟩ ⟨rfl, hw⟩
          have hj5 : j < 5 := by have := hTA.1; omega
          have hyj : X[j]? = some X[j] := List.getElem?_eq_getElem (by omega)
          generalize X[j] = y at hyj
          obtain ⟨w0, hw0, Fy⟩ := hX7.2 j y hyj
          have oky := Fy.ok
          obtain ⟨_, _, _, _, Fdy⟩ := Fy
          have s910 := s9.trans s10
          refine ⟨rfl, ?_⟩
          dsimp only [tYes]
          rw [if_pos rfl]
          have push : ∀ H11, Same H10' H11 → ∃ acc, H11 G = some (.lst acc) ∧ acc.length < sizeLine ∧ Same H9' (upd H11 G (.lst (acc ++ [.bl (eqF ds.length b x y)]))) ∧ upd H11 G (.lst (acc ++ [.bl (eqF ds.length b x y)])) G = some (.lst (((X.take (j + 1)).map fun y => eqF ds.length b x y).map V.bl)) := fun H11 s11 => by
            refine ⟨_, s11 _ _ hG10, by rw [List.length_map, List.length_map, List.length_take]; omega, same_up (s10.trans s11) hG, ?_⟩
            rw [upd_same, List.take_succ, hyj, List.map_append, List.map_append]
            rfl
          obtain ⟨t2, dx2, lt2, et2, ct2, q1, q2, _⟩ := hTA.2 j y hj5 hyj
          have hw : us[j]? = some w := hw
          rw [q1] at hw
          obtain rfl := Option.some.inj hw
          have A1 := p2.same s910
          have A2 := q2.same s910
          refine ⟨_, rfl, _, rfl, t1, C, dx1, _, EB.f, EB.fd, _, _, 9, E, .ref C, rfl, A1.o, .base (.ins A2.o C0.cl nm.ca nm.cn nm.ct nm.cm), by simp [PySem.W.notFirst], EB.e, EB.ok, hr.mono (by decide), EB.b, t1, .ref t2, x.ds, b, x.cs, dx1, lt1, et1, ct1, rfl, A1, okx, .inl ⟨t2, y.ds, b, y.cs, dx2, lt2, et2, ct2, rfl, A2, oky, fun _ _ => ?_, fun r H11 s11 hr11 => ?_⟩⟩
          · obtain ⟨g1, _, _⟩ := DeepL.mx hW.m Fdx.w Fdy.w
            have := g1.sum
            have := hW.s
            omega
          have er : r = eqF ds.length b x y := bool_ext (hr11.trans ⟨fun h => eqF_iff.mpr fun xs hxs => h.2.2 xs (by rw [hxs, Fdx.m]), fun h => ⟨by rw [Fdx.m, Fdy.m], rfl, fun xs hxs => eqF_iff.mp h xs (by rw [hxs, Fdx.m])⟩⟩)
          subst er
          exact ⟨_, rfl, push H11 s11⟩
        · rintro H10 ⟨s10, hG10⟩
          have h5 : (us).length = X.length := by rw [hTA.1, hXl]
          rw [h5, List.take_length] at hG10
          obtain ⟨acc, a1, a2, a3⟩ := (hM9.same s10).app hG10 nGD
          refine ⟨acc, a1, ?_, same_up (s9.trans s10) hD, ?_⟩
          · rw [a2, List.length_take]; omega
          · have e : (matE ds.length b X).take (i + 1) = (matE ds.length b X).take i ++ [X.map fun y => eqF ds.length b x y] := by
              rw [List.take_succ]
              congr 1
              unfold matE
              rw [List.getElem?_map, hxi]
              rfl
            rw [e]
            exact a3
      · rintro H9 ⟨s9, hM9⟩
        have h5 : (us).length = (matE ds.length b X).length := by unfold matE; rw [hTA.1, List.length_map, hXl]
        rw [h5, List.take_length] at hM9
        dsimp only [tNil]
        refine hrepr (hM9.dp) mrep ?_
        refine ⟨_, rfl, ?_⟩
        dsimp only [tNil]
        refine hrepr (hDuA.same s9).dp mrep ?_
        exact ⟨rfl, _, rfl, iteNS rfl (hD' _ _ ⟨rfl, s9⟩)⟩
    rintro σ H10 ⟨rfl, s10⟩
    have s0A := s09.trans s10
    have hTB := hT9.same s10
    have hTlB := s10 _ _ hTl9
    have hltB := hlt9.same s10
    have hDuB := hDu.same s10
    clear s09 hT9 hTl9 hlt9 hDu s10
    refine seq_by (fun σ H11 => σ = [some (.ref sA), tn, some (.ref dl), some (.ref lt), some (.int (b : Int)), some (.ref mA), some (.ref S), a7, a8, a9, a10, some (.ref Tl), some (.ref Rl), some (.ref Du), a14, a15, a16, a17] ∧ Same H10 H11) (fun D' hD' => ?_) ?_
    · refine ⟨_, rfl, Tl, rfl, ⟨_, SqL.of hTlB⟩, fun D hD => ?_⟩
      refine lc_it (walk_list (xs := us)) (fun i H9 => Same H10 H9 ∧ MatAt H9 D ((matN ds.length b X).take i)) ⟨new_same hD, [], upd_same, rfl, fun i r hi => by simp at hi⟩ (fun i H9 _ h => SqL.of (h.1 _ _ hTlB)) ?_ ?_
      · rintro i v H9 H9' hi ⟨s9, hM9⟩ ⟨rfl, hv⟩
        have hi5 : i < 5 := by have := hTB.1; omega
        have hxi : X[i]? = some X[i] := List.getElem?_eq_getElem (by omega)
        generalize X[i] = x at hxi
        obtain ⟨v0, hv0, Fx⟩ := hX7.2 i x hxi
        have okx := Fx.ok
        obtain ⟨_, _, _, _, Fdx⟩ := Fx
        obtain ⟨t1, dx1, lt1, et1, ct1, p1, p2, _⟩ := hTB.2 i x hi5 hxi
        have hv : us[i]? = some v := hv
        rw [p1] at hv
        obtain rfl := Option.some.inj hv
        refine ⟨rfl, ?_⟩
        dsimp only [tYes]
        rw [if_pos rfl]
        refine ⟨_, rfl, Tl, rfl, ⟨_, SqL.of (s9 _ _ hTlB)⟩, fun G hG => ?_⟩
        have nGD : G ≠ D := by
          obtain ⟨as, e1, _⟩ := hM9
          exact (ne_of_none e1 hG).symm
        refine lc_it (walk_list (xs := us)) (fun j HQ => Same H9' HQ ∧ HQ G = some (.lst (((X.take j).map fun y => !eqF ds.length b x y).map V.bl))) ⟨new_same hG, upd_same⟩ (fun j HQ _ h => SqL.of (h.1 _ _ (s9 _ _ hTlB))) ?_ ?_
        · rintro j w HQ HQ' hj ⟨s10, hG10⟩ ⟨rfl, hw⟩
          have hj5 : j < 5 := by have := hTB.1; omega
          have hyj : X[j]? = some X[j] := List.getElem?_eq_getElem (by omega)
          generalize X[j] = y at hyj
          obtain ⟨w0, hw0, Fy⟩ := hX7.2 j y hyj
          have oky := Fy.ok
          obtain ⟨_, _, _, _, Fdy⟩ := Fy
          have s910 := s9.trans s10
          refine ⟨rfl, ?_⟩
          dsimp only [tYes]
          rw [if_pos rfl]
          have push : ∀ H11, Same HQ' H11 → ∃ acc, H11 G = some (.lst acc) ∧ acc.length < sizeLine ∧ Same H9' (upd H11 G (.lst (acc ++ [.bl (!eqF ds.length b x y)]))) ∧ upd H11 G (.lst (acc ++ [.bl (!eqF ds.length b x y)])) G = some (.lst (((X.take (j + 1)).map fun y => !eqF ds.length b x y).map V.bl)) := fun H11 s11 => by
            refine ⟨_, s11 _ _ hG10, by rw [List.length_map, List.length_map, List.length_take]; omega, same_up (s10.trans s11) hG, ?_⟩
            rw [upd_same, List.take_succ, hyj, List.map_append, List.map_append]
            rfl
          obtain ⟨t2, dx2, lt2, et2, ct2, q1, q2, _⟩ := hTB.2 j y hj5 hyj
          have hw : us[j]? = some w := hw
          rw [q1] at hw
          obtain rfl := Option.some.inj hw
          have A1 := p2.same s910
          have A2 := q2.same s910
          refine ⟨_, rfl, _, rfl, t1, C, dx1, _, EB.f, EB.fd, _, _, 9, E, .ref C, rfl, A1.o, .base (.ins A2.o C0.cl nm.ca nm.cn nm.ct nm.cm), by simp [PySem.W.notFirst], EB.e, EB.ok, hr.mono (by decide), EB.b, t1, .ref t2, x.ds, b, x.cs, dx1, lt1, et1, ct1, rfl, A1, okx, .inl ⟨t2, y.ds, b, y.cs, dx2, lt2, et2, ct2, rfl, A2, oky, fun _ _ => ?_, fun r H11 s11 hr11 => ?_⟩⟩
          · obtain ⟨g1, _, _⟩ := DeepL.mx hW.m Fdx.w Fdy.w
            have := g1.sum
            have := hW.s
            omega
          have er : r = eqF ds.length b x y := bool_ext (hr11.trans ⟨fun h => eqF_iff.mpr fun xs hxs => h.2.2 xs (by rw [hxs, Fdx.m]), fun h => ⟨by rw [Fdx.m, Fdy.m], rfl, fun xs hxs => eqF_iff.mp h xs (by rw [hxs, Fdx.m])⟩⟩)
          subst er
          exact ⟨_, rfl, _, rfl, push H11 s11⟩
        · rintro HQ ⟨s10, hG10⟩
          have h5 : (us).length = X.length := by rw [hTB.1, hXl]
          rw [h5, List.take_length] at hG10
          obtain ⟨acc, a1, a2, a3⟩ := (hM9.same s10).app hG10 nGD
          refine ⟨acc, a1, ?_, same_up (s9.trans s10) hD, ?_⟩
          · rw [a2, List.length_take]; omega
          · have e : (matN ds.length b X).take (i + 1) = (matN ds.length b X).take i ++ [X.map fun y => !eqF ds.length b x y] := by
              rw [List.take_succ]
              congr 1
              unfold matN
              rw [List.getElem?_map, hxi]
              rfl
            rw [e]
            exact a3
      · rintro H9 ⟨s9, hM9⟩
        have h5 : (us).length = (matN ds.length b X).length := by unfold matN; rw [hTB.1, List.length_map, hXl]
        rw [h5, List.take_length] at hM9
        obtain ⟨as, dq1, dq2, dq3⟩ := id (hDuB.same s9)
        refine ⟨_, rfl, Du, rfl, ⟨_, SqL.of dq1⟩, fun D2 hD2 => ?_⟩
        refine lc_it (walk_list (xs := as.map V.ref)) (fun i HC => Same H9 HC ∧ MatAt HC D2 ((matN ds.length b X).take i)) ⟨new_same hD2, [], upd_same, rfl, fun i r hi => by simp at hi⟩ (fun i HC _ h => SqL.of (h.1 _ _ dq1)) ?_ ?_
        · rintro i v HC HC' hi ⟨sC, hN⟩ ⟨rfl, hv⟩
          have hi5 : i < X.length := by
            rw [List.length_map, dq2] at hi
            unfold matE at hi
            rw [List.length_map] at hi
            exact hi
          have hxi : X[i]? = some X[i] := List.getElem?_eq_getElem hi5
          generalize X[i] = x at hxi
          have hrow : (matE ds.length b X)[i]? = some (X.map fun y => eqF ds.length b x y) := by
            unfold matE
            rw [List.getElem?_map, hxi]
            rfl
          obtain ⟨q, w1, w2, _⟩ := dq3 i _ hrow
          have hv : (as.map V.ref)[i]? = some v := hv
          rw [List.getElem?_map, w1] at hv
          obtain rfl := Option.some.inj hv
          refine ⟨rfl, ?_⟩
          dsimp only [tYes]
          rw [if_pos rfl]
          refine ⟨_, rfl, q, rfl, ⟨_, SqL.of (sC _ _ w2)⟩, fun G hG => ?_⟩
          have nGD : G ≠ D2 := by
            obtain ⟨as', e1, _⟩ := hN
            exact (ne_of_none e1 hG).symm
          refine lc_it (walk_list (xs := (X.map fun y => eqF ds.length b x y).map V.bl)) (fun j HE => Same HC' HE ∧ HE G = some (.lst (((X.take j).map fun y => !eqF ds.length b x y).map V.bl))) ⟨new_same hG, upd_same⟩ (fun j HE _ h => SqL.of (h.1 _ _ (sC _ _ w2))) ?_ ?_
          · rintro j u HE HE' hj ⟨sE, hGE⟩ ⟨rfl, hu⟩
            rw [List.length_map, List.length_map] at hj
            have hyj : X[j]? = some X[j] := List.getElem?_eq_getElem hj
            generalize X[j] = y at hyj
            have hu : ((X.map fun y => eqF ds.length b x y).map V.bl)[j]? = some u := hu
            rw [List.getElem?_map, List.getElem?_map, hyj] at hu
            obtain rfl := Option.some.inj hu
            refine ⟨rfl, ?_⟩
            dsimp only [tYes]
            rw [if_pos rfl]
            refine ⟨_, rfl, _, rfl, _, hGE, by rw [List.length_map, List.length_map, List.length_take]; omega, same_up sE hG, ?_⟩
            rw [upd_same, List.take_succ, hyj, List.map_append, List.map_append]
            rfl
          · rintro HE ⟨sE, hGE⟩
            rw [List.length_map, List.length_map, List.take_length] at hGE
            obtain ⟨acc, a1, a2, a3⟩ := (hN.same sE).app hGE nGD
            refine ⟨acc, a1, ?_, same_up (sC.trans sE) hD2, ?_⟩
            · rw [a2, List.length_take]; omega
            · have e : (matN ds.length b X).take (i + 1) = (matN ds.length b X).take i ++ [X.map fun y => !eqF ds.length b x y] := by
                rw [List.take_succ]
                congr 1
                unfold matN
                rw [List.getElem?_map, hxi]
                rfl
              rw [e]
              exact a3
        · rintro HC ⟨sC, hN⟩
          have h5 : (as.map V.ref).length = (matN ds.length b X).length := by unfold matN; rw [List.length_map, dq2]; unfold matE; rw [List.length_map, List.length_map]
          rw [h5, List.take_length] at hN
          refine ⟨_, _, (hM9.same sC).dp, hN.dp, mD_shape _, mD_shape _, ?_⟩
          rw [SeqAt.eqv_refl _ (mD_lay _)]
          exact ⟨_, rfl, iteF (hD' _ _ ⟨rfl, s9.trans sC⟩)⟩
    rintro σ H11 ⟨rfl, s11⟩
    have s0B := s0A.trans s11
    have hltC := hltB.same s11
    clear s0A hTB hTlB hltB hDuB s11
    obtain ⟨zs, hzs⟩ : ∃ zs, zs = List.replicate ds.length 0 := ⟨_, rfl⟩
    obtain ⟨ys, hys⟩ : ∃ ys, ys = List.replicate (3 - ds.length) 0 := ⟨_, rfl⟩
    have hzl : zs.length = ds.length := by rw [hzs, List.length_replicate]
    have hyl : ys.length = 3 - ds.length := by rw [hys, List.length_replicate]
    have e3 : (3 : Int) - (ds.length : Int) = ((3 - ds.length : Nat) : Int) := by omega
    refine seq_by (fun σ H12 => ∃ (Z Le dxz ltz etz ctz dxl ltl etl ctl : Addr) (cz cl : Nat → Nat → Nat → Int), σ = [some (.ref sA), tn, some (.ref dl), some (.ref lt), some (.int (b : Int)), some (.ref mA), some (.ref S), a7, a8, a9, a10, some (.ref Tl), some (.ref Rl), some (.ref Du), a14, some (.ref Z), some (.ref Le), a17] ∧ Same H11 H12 ∧ TbAt C H12 Z zs b cz dxz ltz etz ctz ∧ TbOk zs b cz ∧ TbAt C H12 Le zs (b + 1) cl dxl ltl etl ctl ∧ TbOk zs (b + 1) cl) (fun D' hD' => ?_) ?_
    · refine ⟨rfl, _, rfl, lt, _, rfl, .inr (SqT.of hltC), _, rfl, 0, ds.length, b, by rw [hdl], hm, hb1, by omega, vec10 hm hb1 (by omega), fun Z dxz ltz etz ctz cz H12 s12 tz okz _ => ?_⟩
      rw [← hzs] at tz okz
      refine ⟨rfl, _, rfl, lt, _, rfl, .inr (SqT.of (hltC.same s12)), _, rfl, _, _, rfl, rfl, 0, ds.length, b + 1, by rw [hdl]; rfl, hm, by omega, by omega, vec10 hm (by omega) (by omega), fun Le dxl ltl etl ctl cl H13 s13 tl okl _ => ?_⟩
      rw [← hzs] at tl okl
      refine ⟨(by show 2 ≤ sizeLine; omega), fun T' hT' => ?_⟩
      have sT := new_same (o := .tup [V.ref Z, .ref Le]) hT'
      exact ⟨T', _, rfl, SqT.of upd_same, rfl, _, _, rfl, _, _, rfl, rfl, hD' _ _ ⟨Z, Le, dxz, ltz, etz, ctz, dxl, ltl, etl, ctl, cz, cl, rfl, s12.trans (s13.trans sT), (tz.same s13).same sT, okz, tl.same sT, okl⟩⟩
    rintro σ H12 ⟨Z, Le, dxz, ltz, etz, ctz, dxl, ltl, etl, ctl, cz, cl, rfl, s12, tz, okz, tl, okl⟩
    have s0C := s0B.trans s12
    have hltD := hltC.same s12
    clear s0B hltC s12
    refine seq_by (fun σ H13 => ∃ (S2 Z3 dx3 lt3 et3 ct3 : Addr) (c3 : Nat → Nat → Nat → Int), σ = [some (.ref sA), tn, some (.ref dl), some (.ref lt), some (.int (b : Int)), some (.ref mA), some (.ref S), a7, a8, a9, a10, some (.ref Tl), some (.ref Rl), some (.ref Du), a14, some (.ref Z), some (.ref Le), some (.ref S2)] ∧ Same H12 H13 ∧ TbAt C H13 Z3 ys b c3 dx3 lt3 et3 ct3 ∧ TbOk ys b c3 ∧ H13 S2 = some (.lst [.ref Le, .ref Z3, .non, .int 0, .ref etz, .str "table"])) (fun D' hD' => ?_) ?_
    · refine ⟨_, rfl, rfl, _, rfl, lt, _, rfl, .inr (SqT.of hltD), _, _, rfl, rfl, _, rfl, 0, 3 - ds.length, b, ?_, by omega, hb1, by omega, vec10 (by omega) hb1 (by omega), fun Z3 dx3 lt3 et3 ct3 c3 H13 s13 t3 ok3 _ => ?_⟩
      · rw [hdl]
        show [V.ref C, V.int 0, V.int ((3 : Int) - (ds.length : Int)), V.int (b : Int)] = _
        rw [e3]
      rw [← hys] at t3 ok3
      refine ⟨_, rfl, Z, C, dxz, _, _, rfl, (tz.same s13).o, C0.cl, C0.n3, rfl, (by show 6 ≤ sizeLine; omega), fun S2 hS2 => ?_⟩
      have sS := new_same (o := .lst [V.ref Le, .ref Z3, .non, .int 0, .ref etz, .str "table"]) hS2
      exact hD' _ _ ⟨S2, Z3, dx3, lt3, et3, ct3, c3, rfl, s13.trans sS, t3.same sS, ok3, upd_same⟩
    rintro σ H13 ⟨S2, Z3, dx3, lt3, et3, ct3, c3, rfl, s13, t3, ok3, hS2⟩
    have s0D := s0C.trans s13
    have tz3 := tz.same s13
    have tl3 := tl.same s13
    clear s0C hltD s13 tz tl
    have nq : ∀ v ∈ [V.ref Le, .ref Z3, .non, .int 0, .ref etz, .str "table"], ∀ H', Same H13 H' → ∃ u, TyX K H' v u ∧ PySem.W.notFirst K C u = true ∧ ∀ (Q : VK) (E : XK), (∀ H2, Same H' H2 → Q (.bl false) H2) → spEqT K C [.ref Z, v] H' Q E := fun v hv H' sH => by
      have A1 := tz3.same sH
      have A2 := tl3.same sH
      have A3 := t3.same sH
      have tabs : ∀ (t2 : Addr) (es : List Nat) (c : Nat) (cs2 : Nat → Nat → Nat → Int) (dx2 lt2 et2 ct2 : Addr), TbAt C H' t2 es c cs2 dx2 lt2 et2 ct2 → TbOk es c cs2 → (zs.length ≠ es.length ∨ b ≠ c) → ∃ u, TyX K H' (.ref t2) u ∧ PySem.W.notFirst K C u = true ∧ ∀ (Q : VK) (E : XK), (∀ H2, Same H' H2 → Q (.bl false) H2) → spEqT K C [.ref Z, .ref t2] H' Q E := fun t2 es c cs2 dx2 lt2 et2 ct2 B ok2 hne =>
        ⟨.ref C, .base (.ins B.o C0.cl nm.ca nm.cn nm.ct nm.cm), by simp [PySem.W.notFirst], fun Q E hQ => ⟨Z, .ref t2, zs, b, cz, dxz, ltz, etz, ctz, rfl, A1, okz, .inl ⟨t2, es, c, cs2, dx2, lt2, et2, ct2, rfl, B, ok2, fun h1 h2 => absurd (hne.elim (fun h => h h1) (fun h => h h2)) id, fun r H2 s2 hr2 => by
          cases r with
          | false => exact hQ H2 s2
          | true =>
            have := hr2.mp rfl
            exact absurd (hne.elim (fun h => h this.1) (fun h => h this.2.1)) id⟩⟩⟩
      have rest : ∀ (v : V) (u : Value), TyX K H' v u → PySem.W.notFirst K C u = true → PySem.W.kitOne K u (.ref C) = some false → ∃ u, TyX K H' v u ∧ PySem.W.notFirst K C u = true ∧ ∀ (Q : VK) (E : XK), (∀ H2, Same H' H2 → Q (.bl false) H2) → spEqT K C [.ref Z, v] H' Q E := fun v u h1 h2 h3 =>
        ⟨u, h1, h2, fun Q E hQ => ⟨Z, v, zs, b, cz, dxz, ltz, etz, ctz, rfl, A1, okz, .inr ⟨⟨u, h1, h3⟩, hQ H' (fun _ _ e => e)⟩⟩⟩
      rcases List.mem_cons.mp hv with rfl | hv
      · exact tabs Le zs (b + 1) cl dxl ltl etl ctl A2 okl (.inr (by omega))
      rcases List.mem_cons.mp hv with rfl | hv
      · exact tabs Z3 ys b c3 dx3 lt3 et3 ct3 A3 ok3 (.inl (by rw [hzl, hyl]; omega))
      rcases List.mem_cons.mp hv with rfl | hv
      · exact rest _ _ (.base .non) EB.nn EB.kn
      rcases List.mem_cons.mp hv with rfl | hv
      · exact rest _ _ (.base (.int 0)) EB.ni EB.ki
      rcases List.mem_cons.mp hv with rfl | hv
      · exact rest _ _ (.base (.tup A1.e)) EB.nt EB.kt
      rw [List.mem_singleton.mp hv]
      exact rest _ _ (.base (.str _)) EB.ns EB.ks
    refine ⟨_, rfl, S2, rfl, ⟨_, SqL.of hS2⟩, fun D hD => ?_⟩
    refine lc_it (walk_list (xs := [V.ref Le, .ref Z3, .non, .int 0, .ref etz, .str "table"])) (fun i H14 => Same H13 H14 ∧ H14 D = some (.lst [])) ⟨new_same hD, upd_same⟩ (fun i H14 _ h => SqL.of (h.1 _ _ hS2)) ?_ ?_
    · rintro i v H14 H14' hi ⟨s14, hD14⟩ ⟨rfl, hv⟩
      have hmem := List.mem_of_getElem? hv
      obtain ⟨u, hu1, hu2, hu3⟩ := nq v hmem _ s14
      refine ⟨rfl, ?_⟩
      refine ⟨_, rfl, _, rfl, Z, C, dxz, _, EB.f, EB.fd, _, _, 9, E, u, rfl, (tz3.same s14).o, hu1, hu2, EB.e, EB.ok, hr.mono (by decide), EB.b, hu3 _ _ fun H15 s15 => ⟨false, rfl, _, rfl, iteF ?_⟩⟩
      obtain ⟨u2, hw1, hw2, hw3⟩ := nq v hmem _ (s14.trans s15)
      refine ⟨_, rfl, _, rfl, Z, C, dxz, _, EB.f, EB.fd, _, _, 9, E, u2, rfl, ((tz3.same s14).same s15).o, hw1, hw2, EB.e, EB.ok, hr.mono (by decide), EB.b, hw3 _ _ fun H16 s16 => ⟨false, rfl, false, rfl, _, rfl, ?_⟩⟩
      exact iteF ⟨s14.trans (s15.trans s16), (s15.trans s16) _ _ hD14⟩
    · rintro H14 ⟨s14, hD14⟩
      refine ⟨(by show 0 ≤ sizeLine; omega), fun z hz => ?_⟩
      have sz := new_same (o := .lst ([] : List V)) hz
      refine ⟨.list (zD []), .list (zD []), .lst (SqL.of (sz _ _ hD14)) (zD_dp []), .lst (SqL.of upd_same) (zD_dp []), zD_shapeL [], zD_shapeL [], ?_⟩
      rw [zD_eqL, decide_eq_true rfl]
      exact ⟨_, rfl, iteF ⟨_, _, _, _, _, _, _, _, _, _, _, _, _, _, _, _, _, rfl, s0D.trans (s14.trans sz)⟩⟩
end
end My

set_option Elab.async false
set_option linter.all false
set_option maxRecDepth 100000
set_option maxHeartbeats 0
namespace My
open PySem L2 MyR
set_option pp.maxSteps 300
def intsAre : List Value → List Int → Bool
  | [], [] => true
  | .int x _ :: r, y :: s => x == y && intsAre r s
  | _, _ => false
theorem ints_vals : ∀ {us : List Value} {zs : List Int}, intsAre us zs = true → Vals (zs.map V.int) us
  | [], zs, h => by
    cases zs with
    | nil => exact .nil
    | cons z s => cases h
  | v :: r, zs, h => by
    cases v with
    | int x t =>
      cases zs with
      | nil => cases h
      | cons y s =>
        have h' : (x == y && intsAre r s) = true := h
        rw [Bool.and_eq_true] at h'
        obtain rfl := beq_iff_eq.mp h'.1
        exact .cons ⟨t, rfl⟩ (ints_vals h'.2)
    | _ => cases zs <;> cases h
theorem ble_size {n : Nat} (h : Nat.ble n 1000 = true) : n ≤ sizeLine := Nat.le_of_lt (small1000 (Nat.le_of_ble_eq_true h))
theorem kit_own {K : PySem.W.Frag} {C D : Addr} (h1 : PySem.W.isClsIn K D = true) (h2 : PySem.W.typeIn K (.ref D) = some (.type "type")) (h3 : PySem.W.subIn K (.ref C) (.ref D) = some true) : PySem.W.kitOne K (.ref C) (.ref D) = some true := by
  unfold PySem.W.kitOne
  by_cases e : ((Value.ref C) == (Value.ref D)) = true
  · rw [if_pos e]
  · rw [if_neg e]
    have h1' : (PySem.W.clsIn K D).isSome = true := h1
    show (if ((PySem.W.clsIn K D).isSome && PySem.W.typeIn K (.ref D) == some (.type "type")) = true then PySem.W.subIn K (.ref C) (.ref D) else none) = some true
    rw [h1', h2, if_pos (by rfl)]
    exact h3
theorem kit_not {K : PySem.W.Frag} {D : Addr} {t : Value} (h1 : PySem.W.isClsIn K D = true) (h2 : PySem.W.typeIn K (.ref D) = some (.type "type")) (h3 : PySem.W.subIn K t (.ref D) = some false) (ne : (t == .ref D) = false) : PySem.W.kitOne K t (.ref D) = some false := by
  unfold PySem.W.kitOne
  rw [if_neg (by rw [ne]; exact Bool.false_ne_true)]
  have h1' : (PySem.W.clsIn K D).isSome = true := h1
  show (if ((PySem.W.clsIn K D).isSome && PySem.W.typeIn K (.ref D) == some (.type "type")) = true then PySem.W.subIn K t (.ref D) else none) = some false
  rw [h1', h2, if_pos (by rfl)]
  exact h3
theorem nf_of {K : PySem.W.Frag} {C : Addr} {t : Value} (h : PySem.W.subIn K t (.ref C) = some false) : PySem.W.notFirst K C t = true := by
  unfold PySem.W.notFirst
  rw [h]
  exact Bool.or_true _
theorem ok_vec12 {P : Program} {w : World} {K : PySem.W.Frag} {mg : Str → Option Value} {base : Heap} {f : Addr} {fd : FuncData} {ps : List Str} (h : ∀ m, FnOk P w K mg base CX0 (m + 3) f fd ps (spVecs m)) : FnOk P w K mg base CX0 5 f fd ps spVec12 := by
  refine ⟨fun vs H Q E ⟨m, hm, e⟩ => (h m).len vs H Q E e, fun A outer s H args us vs Q E hr he hb hv ⟨m, hm, hs⟩ => ?_⟩
  exact ((h m).mono (show m + 3 ≤ 5 by omega)).run A outer s H args us vs Q E hr he hb hv hs
theorem all_mk {P : Program} {w : World} {K : PySem.W.Frag} {h : Heap} {mg : Str → Option Value} {fa : Addr} (X : K.In h) (G : h.Ns mainGlobals mg) (hfa : mg "law" = some (.ref fa))
    {f_twos f_shares f_vector_list f_count_vectors f_residues f_point_list f_count_points f_greater_loss f_inverse f_odd_inverses f_falling f_evaluated f_differences f_classes_of f_law_deal f_law_draw f_law_twos f_law_vectors f_law_spots f_law_class f_law_made f_law_sum f_law_row f_law_at f_law_entries f_law_shape f_law_copied f_law_changed f_law_functions f_law_newton f_law_entries_at f_law f_Shape_init f_Table_init f_Table_constant f_Table_eq f_Shape_in_rows f_Shape_spread f_Shape_first_wrong f_Shape_divided f_Shape_coefficients f_Table_worth f_Table_listed f_Table_is_same C_Shape C_Table pCon : Addr}
    {rest_con : List Value}
    {od_twos an_twos : Option Addr} {sl_twos : Array (Option Value)} {oc_twos kV_twos dc_twos pm_twos cd_twos ct_twos : Value}
    {od_shares an_shares : Option Addr} {sl_shares : Array (Option Value)} {oc_shares kV_shares dc_shares pm_shares cd_shares ct_shares : Value}
    {od_vector_list an_vector_list : Option Addr} {sl_vector_list : Array (Option Value)} {oc_vector_list kV_vector_list dc_vector_list pm_vector_list cd_vector_list ct_vector_list : Value}
    {od_count_vectors an_count_vectors : Option Addr} {sl_count_vectors : Array (Option Value)} {oc_count_vectors kV_count_vectors dc_count_vectors pm_count_vectors cd_count_vectors ct_count_vectors : Value}
    {od_residues an_residues : Option Addr} {sl_residues : Array (Option Value)} {oc_residues kV_residues dc_residues pm_residues cd_residues ct_residues : Value}
    {od_point_list an_point_list : Option Addr} {sl_point_list : Array (Option Value)} {oc_point_list kV_point_list dc_point_list pm_point_list cd_point_list ct_point_list : Value}
    {od_count_points an_count_points : Option Addr} {sl_count_points : Array (Option Value)} {oc_count_points kV_count_points dc_count_points pm_count_points cd_count_points ct_count_points : Value}
    {od_greater_loss an_greater_loss : Option Addr} {sl_greater_loss : Array (Option Value)} {oc_greater_loss kV_greater_loss dc_greater_loss pm_greater_loss cd_greater_loss ct_greater_loss : Value}
    {od_inverse an_inverse : Option Addr} {sl_inverse : Array (Option Value)} {oc_inverse kV_inverse dc_inverse pm_inverse cd_inverse ct_inverse : Value}
    {od_odd_inverses an_odd_inverses : Option Addr} {sl_odd_inverses : Array (Option Value)} {oc_odd_inverses kV_odd_inverses dc_odd_inverses pm_odd_inverses cd_odd_inverses ct_odd_inverses : Value}
    {od_falling an_falling : Option Addr} {sl_falling : Array (Option Value)} {oc_falling kV_falling dc_falling pm_falling cd_falling ct_falling : Value}
    {od_evaluated an_evaluated : Option Addr} {sl_evaluated : Array (Option Value)} {oc_evaluated kV_evaluated dc_evaluated pm_evaluated cd_evaluated ct_evaluated : Value}
    {od_differences an_differences : Option Addr} {sl_differences : Array (Option Value)} {oc_differences kV_differences dc_differences pm_differences cd_differences ct_differences : Value}
    {od_classes_of an_classes_of : Option Addr} {sl_classes_of : Array (Option Value)} {oc_classes_of kV_classes_of dc_classes_of pm_classes_of cd_classes_of ct_classes_of : Value}
    {od_law_deal an_law_deal : Option Addr} {sl_law_deal : Array (Option Value)} {oc_law_deal kV_law_deal dc_law_deal pm_law_deal cd_law_deal ct_law_deal : Value}
    {od_law_draw an_law_draw : Option Addr} {sl_law_draw : Array (Option Value)} {oc_law_draw kV_law_draw dc_law_draw pm_law_draw cd_law_draw ct_law_draw : Value}
    {od_law_twos an_law_twos : Option Addr} {sl_law_twos : Array (Option Value)} {oc_law_twos kV_law_twos dc_law_twos pm_law_twos cd_law_twos ct_law_twos : Value}
    {od_law_vectors an_law_vectors : Option Addr} {sl_law_vectors : Array (Option Value)} {oc_law_vectors kV_law_vectors dc_law_vectors pm_law_vectors cd_law_vectors ct_law_vectors : Value}
    {od_law_spots an_law_spots : Option Addr} {sl_law_spots : Array (Option Value)} {oc_law_spots kV_law_spots dc_law_spots pm_law_spots cd_law_spots ct_law_spots : Value}
    {od_law_class an_law_class : Option Addr} {sl_law_class : Array (Option Value)} {oc_law_class kV_law_class dc_law_class pm_law_class cd_law_class ct_law_class : Value}
    {od_law_made an_law_made : Option Addr} {sl_law_made : Array (Option Value)} {oc_law_made kV_law_made dc_law_made pm_law_made cd_law_made ct_law_made : Value}
    {od_law_sum an_law_sum : Option Addr} {sl_law_sum : Array (Option Value)} {oc_law_sum kV_law_sum dc_law_sum pm_law_sum cd_law_sum ct_law_sum : Value}
    {od_law_row an_law_row : Option Addr} {sl_law_row : Array (Option Value)} {oc_law_row kV_law_row dc_law_row pm_law_row cd_law_row ct_law_row : Value}
    {od_law_at an_law_at : Option Addr} {sl_law_at : Array (Option Value)} {oc_law_at kV_law_at dc_law_at pm_law_at cd_law_at ct_law_at : Value}
    {od_law_entries an_law_entries : Option Addr} {sl_law_entries : Array (Option Value)} {oc_law_entries kV_law_entries dc_law_entries pm_law_entries cd_law_entries ct_law_entries : Value}
    {od_law_shape an_law_shape : Option Addr} {sl_law_shape : Array (Option Value)} {oc_law_shape kV_law_shape dc_law_shape pm_law_shape cd_law_shape ct_law_shape : Value}
    {od_law_copied an_law_copied : Option Addr} {sl_law_copied : Array (Option Value)} {oc_law_copied kV_law_copied dc_law_copied pm_law_copied cd_law_copied ct_law_copied : Value}
    {od_law_changed an_law_changed : Option Addr} {sl_law_changed : Array (Option Value)} {oc_law_changed kV_law_changed dc_law_changed pm_law_changed cd_law_changed ct_law_changed : Value}
    {od_law_functions an_law_functions : Option Addr} {sl_law_functions : Array (Option Value)} {oc_law_functions kV_law_functions dc_law_functions pm_law_functions cd_law_functions ct_law_functions : Value}
    {od_law_newton an_law_newton : Option Addr} {sl_law_newton : Array (Option Value)} {oc_law_newton kV_law_newton dc_law_newton pm_law_newton cd_law_newton ct_law_newton : Value}
    {od_law_entries_at an_law_entries_at : Option Addr} {sl_law_entries_at : Array (Option Value)} {oc_law_entries_at kV_law_entries_at dc_law_entries_at pm_law_entries_at cd_law_entries_at ct_law_entries_at : Value}
    {od_law an_law : Option Addr} {sl_law : Array (Option Value)} {oc_law kV_law dc_law pm_law cd_law ct_law : Value}
    {od_Shape_init an_Shape_init : Option Addr} {sl_Shape_init : Array (Option Value)} {oc_Shape_init kV_Shape_init dc_Shape_init pm_Shape_init cd_Shape_init ct_Shape_init : Value}
    {od_Table_init an_Table_init : Option Addr} {sl_Table_init : Array (Option Value)} {oc_Table_init kV_Table_init dc_Table_init pm_Table_init cd_Table_init ct_Table_init : Value}
    {od_Table_constant an_Table_constant : Option Addr} {sl_Table_constant : Array (Option Value)} {oc_Table_constant kV_Table_constant dc_Table_constant pm_Table_constant cd_Table_constant ct_Table_constant : Value}
    {od_Table_eq an_Table_eq : Option Addr} {sl_Table_eq : Array (Option Value)} {oc_Table_eq kV_Table_eq dc_Table_eq pm_Table_eq cd_Table_eq ct_Table_eq : Value}
    {od_Shape_in_rows an_Shape_in_rows : Option Addr} {sl_Shape_in_rows : Array (Option Value)} {oc_Shape_in_rows kV_Shape_in_rows dc_Shape_in_rows pm_Shape_in_rows cd_Shape_in_rows ct_Shape_in_rows : Value}
    {od_Shape_spread an_Shape_spread : Option Addr} {sl_Shape_spread : Array (Option Value)} {oc_Shape_spread kV_Shape_spread dc_Shape_spread pm_Shape_spread cd_Shape_spread ct_Shape_spread : Value}
    {od_Shape_first_wrong an_Shape_first_wrong : Option Addr} {sl_Shape_first_wrong : Array (Option Value)} {oc_Shape_first_wrong kV_Shape_first_wrong dc_Shape_first_wrong pm_Shape_first_wrong cd_Shape_first_wrong ct_Shape_first_wrong : Value}
    {od_Shape_divided an_Shape_divided : Option Addr} {sl_Shape_divided : Array (Option Value)} {oc_Shape_divided kV_Shape_divided dc_Shape_divided pm_Shape_divided cd_Shape_divided ct_Shape_divided : Value}
    {od_Shape_coefficients an_Shape_coefficients : Option Addr} {sl_Shape_coefficients : Array (Option Value)} {oc_Shape_coefficients kV_Shape_coefficients dc_Shape_coefficients pm_Shape_coefficients cd_Shape_coefficients ct_Shape_coefficients : Value}
    {od_Table_worth an_Table_worth : Option Addr} {sl_Table_worth : Array (Option Value)} {oc_Table_worth kV_Table_worth dc_Table_worth pm_Table_worth cd_Table_worth ct_Table_worth : Value}
    {od_Table_listed an_Table_listed : Option Addr} {sl_Table_listed : Array (Option Value)} {oc_Table_listed kV_Table_listed dc_Table_listed pm_Table_listed cd_Table_listed ct_Table_listed : Value}
    {od_Table_is_same an_Table_is_same : Option Addr} {sl_Table_is_same : Array (Option Value)} {oc_Table_is_same kV_Table_is_same dc_Table_is_same pm_Table_is_same cd_Table_is_same ct_Table_is_same : Value}
    (a_twos : PySem.W.nsIn K mainGlobals "twos" = some (some (.ref f_twos)))
    (l_twos : K.lookup f_twos = some ⟨oc_twos, od_twos, .func (PySem.W.fnOf "twos" "twos" (defArgs s_twos) (defBody s_twos) (defScope s_twos) .none kV_twos dc_twos pm_twos an_twos cd_twos ct_twos), sl_twos⟩)
    (c_twos : PySem.W.codeIn K cd_twos "twos" = true)
    (k_twos : PySem.W.keepIn K (.ref f_twos) = true)
    (a_shares : PySem.W.nsIn K mainGlobals "shares" = some (some (.ref f_shares)))
    (l_shares : K.lookup f_shares = some ⟨oc_shares, od_shares, .func (PySem.W.fnOf "shares" "shares" (defArgs s_shares) (defBody s_shares) (defScope s_shares) .none kV_shares dc_shares pm_shares an_shares cd_shares ct_shares), sl_shares⟩)
    (c_shares : PySem.W.codeIn K cd_shares "shares" = true)
    (k_shares : PySem.W.keepIn K (.ref f_shares) = true)
    (a_vector_list : PySem.W.nsIn K mainGlobals "vector_list" = some (some (.ref f_vector_list)))
    (l_vector_list : K.lookup f_vector_list = some ⟨oc_vector_list, od_vector_list, .func (PySem.W.fnOf "vector_list" "vector_list" (defArgs s_vector_list) (defBody s_vector_list) (defScope s_vector_list) .none kV_vector_list dc_vector_list pm_vector_list an_vector_list cd_vector_list ct_vector_list), sl_vector_list⟩)
    (c_vector_list : PySem.W.codeIn K cd_vector_list "vector_list" = true)
    (k_vector_list : PySem.W.keepIn K (.ref f_vector_list) = true)
    (a_count_vectors : PySem.W.nsIn K mainGlobals "count_vectors" = some (some (.ref f_count_vectors)))
    (l_count_vectors : K.lookup f_count_vectors = some ⟨oc_count_vectors, od_count_vectors, .func (PySem.W.fnOf "count_vectors" "count_vectors" (defArgs s_count_vectors) (defBody s_count_vectors) (defScope s_count_vectors) .none kV_count_vectors dc_count_vectors pm_count_vectors an_count_vectors cd_count_vectors ct_count_vectors), sl_count_vectors⟩)
    (c_count_vectors : PySem.W.codeIn K cd_count_vectors "count_vectors" = true)
    (k_count_vectors : PySem.W.keepIn K (.ref f_count_vectors) = true)
    (a_residues : PySem.W.nsIn K mainGlobals "residues" = some (some (.ref f_residues)))
    (l_residues : K.lookup f_residues = some ⟨oc_residues, od_residues, .func (PySem.W.fnOf "residues" "residues" (defArgs s_residues) (defBody s_residues) (defScope s_residues) .none kV_residues dc_residues pm_residues an_residues cd_residues ct_residues), sl_residues⟩)
    (c_residues : PySem.W.codeIn K cd_residues "residues" = true)
    (k_residues : PySem.W.keepIn K (.ref f_residues) = true)
    (a_point_list : PySem.W.nsIn K mainGlobals "point_list" = some (some (.ref f_point_list)))
    (l_point_list : K.lookup f_point_list = some ⟨oc_point_list, od_point_list, .func (PySem.W.fnOf "point_list" "point_list" (defArgs s_point_list) (defBody s_point_list) (defScope s_point_list) .none kV_point_list dc_point_list pm_point_list an_point_list cd_point_list ct_point_list), sl_point_list⟩)
    (c_point_list : PySem.W.codeIn K cd_point_list "point_list" = true)
    (k_point_list : PySem.W.keepIn K (.ref f_point_list) = true)
    (a_count_points : PySem.W.nsIn K mainGlobals "count_points" = some (some (.ref f_count_points)))
    (l_count_points : K.lookup f_count_points = some ⟨oc_count_points, od_count_points, .func (PySem.W.fnOf "count_points" "count_points" (defArgs s_count_points) (defBody s_count_points) (defScope s_count_points) .none kV_count_points dc_count_points pm_count_points an_count_points cd_count_points ct_count_points), sl_count_points⟩)
    (c_count_points : PySem.W.codeIn K cd_count_points "count_points" = true)
    (k_count_points : PySem.W.keepIn K (.ref f_count_points) = true)
    (a_greater_loss : PySem.W.nsIn K mainGlobals "greater_loss" = some (some (.ref f_greater_loss)))
    (l_greater_loss : K.lookup f_greater_loss = some ⟨oc_greater_loss, od_greater_loss, .func (PySem.W.fnOf "greater_loss" "greater_loss" (defArgs s_greater_loss) (defBody s_greater_loss) (defScope s_greater_loss) .none kV_greater_loss dc_greater_loss pm_greater_loss an_greater_loss cd_greater_loss ct_greater_loss), sl_greater_loss⟩)
    (c_greater_loss : PySem.W.codeIn K cd_greater_loss "greater_loss" = true)
    (k_greater_loss : PySem.W.keepIn K (.ref f_greater_loss) = true)
    (a_inverse : PySem.W.nsIn K mainGlobals "inverse" = some (some (.ref f_inverse)))
    (l_inverse : K.lookup f_inverse = some ⟨oc_inverse, od_inverse, .func (PySem.W.fnOf "inverse" "inverse" (defArgs s_inverse) (defBody s_inverse) (defScope s_inverse) .none kV_inverse dc_inverse pm_inverse an_inverse cd_inverse ct_inverse), sl_inverse⟩)
    (c_inverse : PySem.W.codeIn K cd_inverse "inverse" = true)
    (k_inverse : PySem.W.keepIn K (.ref f_inverse) = true)
    (a_odd_inverses : PySem.W.nsIn K mainGlobals "odd_inverses" = some (some (.ref f_odd_inverses)))
    (l_odd_inverses : K.lookup f_odd_inverses = some ⟨oc_odd_inverses, od_odd_inverses, .func (PySem.W.fnOf "odd_inverses" "odd_inverses" (defArgs s_odd_inverses) (defBody s_odd_inverses) (defScope s_odd_inverses) .none kV_odd_inverses dc_odd_inverses pm_odd_inverses an_odd_inverses cd_odd_inverses ct_odd_inverses), sl_odd_inverses⟩)
    (c_odd_inverses : PySem.W.codeIn K cd_odd_inverses "odd_inverses" = true)
    (k_odd_inverses : PySem.W.keepIn K (.ref f_odd_inverses) = true)
    (a_falling : PySem.W.nsIn K mainGlobals "falling" = some (some (.ref f_falling)))
    (l_falling : K.lookup f_falling = some ⟨oc_falling, od_falling, .func (PySem.W.fnOf "falling" "falling" (defArgs s_falling) (defBody s_falling) (defScope s_falling) .none kV_falling dc_falling pm_falling an_falling cd_falling ct_falling), sl_falling⟩)
    (c_falling : PySem.W.codeIn K cd_falling "falling" = true)
    (k_falling : PySem.W.keepIn K (.ref f_falling) = true)
    (a_evaluated : PySem.W.nsIn K mainGlobals "evaluated" = some (some (.ref f_evaluated)))
    (l_evaluated : K.lookup f_evaluated = some ⟨oc_evaluated, od_evaluated, .func (PySem.W.fnOf "evaluated" "evaluated" (defArgs s_evaluated) (defBody s_evaluated) (defScope s_evaluated) .none kV_evaluated dc_evaluated pm_evaluated an_evaluated cd_evaluated ct_evaluated), sl_evaluated⟩)
    (c_evaluated : PySem.W.codeIn K cd_evaluated "evaluated" = true)
    (k_evaluated : PySem.W.keepIn K (.ref f_evaluated) = true)
    (a_differences : PySem.W.nsIn K mainGlobals "differences" = some (some (.ref f_differences)))
    (l_differences : K.lookup f_differences = some ⟨oc_differences, od_differences, .func (PySem.W.fnOf "differences" "differences" (defArgs s_differences) (defBody s_differences) (defScope s_differences) .none kV_differences dc_differences pm_differences an_differences cd_differences ct_differences), sl_differences⟩)
    (c_differences : PySem.W.codeIn K cd_differences "differences" = true)
    (k_differences : PySem.W.keepIn K (.ref f_differences) = true)
    (a_classes_of : PySem.W.nsIn K mainGlobals "classes_of" = some (some (.ref f_classes_of)))
    (l_classes_of : K.lookup f_classes_of = some ⟨oc_classes_of, od_classes_of, .func (PySem.W.fnOf "classes_of" "classes_of" (defArgs s_classes_of) (defBody s_classes_of) (defScope s_classes_of) .none kV_classes_of dc_classes_of pm_classes_of an_classes_of cd_classes_of ct_classes_of), sl_classes_of⟩)
    (c_classes_of : PySem.W.codeIn K cd_classes_of "classes_of" = true)
    (k_classes_of : PySem.W.keepIn K (.ref f_classes_of) = true)
    (a_law_deal : PySem.W.nsIn K mainGlobals "_law_deal" = some (some (.ref f_law_deal)))
    (l_law_deal : K.lookup f_law_deal = some ⟨oc_law_deal, od_law_deal, .func (PySem.W.fnOf "_law_deal" "_law_deal" (defArgs s_law_deal) (defBody s_law_deal) (defScope s_law_deal) .none kV_law_deal dc_law_deal pm_law_deal an_law_deal cd_law_deal ct_law_deal), sl_law_deal⟩)
    (c_law_deal : PySem.W.codeIn K cd_law_deal "_law_deal" = true)
    (k_law_deal : PySem.W.keepIn K (.ref f_law_deal) = true)
    (a_law_draw : PySem.W.nsIn K mainGlobals "_law_draw" = some (some (.ref f_law_draw)))
    (l_law_draw : K.lookup f_law_draw = some ⟨oc_law_draw, od_law_draw, .func (PySem.W.fnOf "_law_draw" "_law_draw" (defArgs s_law_draw) (defBody s_law_draw) (defScope s_law_draw) .none kV_law_draw dc_law_draw pm_law_draw an_law_draw cd_law_draw ct_law_draw), sl_law_draw⟩)
    (c_law_draw : PySem.W.codeIn K cd_law_draw "_law_draw" = true)
    (k_law_draw : PySem.W.keepIn K (.ref f_law_draw) = true)
    (a_law_twos : PySem.W.nsIn K mainGlobals "_law_twos" = some (some (.ref f_law_twos)))
    (l_law_twos : K.lookup f_law_twos = some ⟨oc_law_twos, od_law_twos, .func (PySem.W.fnOf "_law_twos" "_law_twos" (defArgs s_law_twos) (defBody s_law_twos) (defScope s_law_twos) .none kV_law_twos dc_law_twos pm_law_twos an_law_twos cd_law_twos ct_law_twos), sl_law_twos⟩)
    (c_law_twos : PySem.W.codeIn K cd_law_twos "_law_twos" = true)
    (k_law_twos : PySem.W.keepIn K (.ref f_law_twos) = true)
    (a_law_vectors : PySem.W.nsIn K mainGlobals "_law_vectors" = some (some (.ref f_law_vectors)))
    (l_law_vectors : K.lookup f_law_vectors = some ⟨oc_law_vectors, od_law_vectors, .func (PySem.W.fnOf "_law_vectors" "_law_vectors" (defArgs s_law_vectors) (defBody s_law_vectors) (defScope s_law_vectors) .none kV_law_vectors dc_law_vectors pm_law_vectors an_law_vectors cd_law_vectors ct_law_vectors), sl_law_vectors⟩)
    (c_law_vectors : PySem.W.codeIn K cd_law_vectors "_law_vectors" = true)
    (k_law_vectors : PySem.W.keepIn K (.ref f_law_vectors) = true)
    (a_law_spots : PySem.W.nsIn K mainGlobals "_law_spots" = some (some (.ref f_law_spots)))
    (l_law_spots : K.lookup f_law_spots = some ⟨oc_law_spots, od_law_spots, .func (PySem.W.fnOf "_law_spots" "_law_spots" (defArgs s_law_spots) (defBody s_law_spots) (defScope s_law_spots) .none kV_law_spots dc_law_spots pm_law_spots an_law_spots cd_law_spots ct_law_spots), sl_law_spots⟩)
    (c_law_spots : PySem.W.codeIn K cd_law_spots "_law_spots" = true)
    (k_law_spots : PySem.W.keepIn K (.ref f_law_spots) = true)
    (a_law_class : PySem.W.nsIn K mainGlobals "_law_class" = some (some (.ref f_law_class)))
    (l_law_class : K.lookup f_law_class = some ⟨oc_law_class, od_law_class, .func (PySem.W.fnOf "_law_class" "_law_class" (defArgs s_law_class) (defBody s_law_class) (defScope s_law_class) .none kV_law_class dc_law_class pm_law_class an_law_class cd_law_class ct_law_class), sl_law_class⟩)
    (c_law_class : PySem.W.codeIn K cd_law_class "_law_class" = true)
    (k_law_class : PySem.W.keepIn K (.ref f_law_class) = true)
    (a_law_made : PySem.W.nsIn K mainGlobals "_law_made" = some (some (.ref f_law_made)))
    (l_law_made : K.lookup f_law_made = some ⟨oc_law_made, od_law_made, .func (PySem.W.fnOf "_law_made" "_law_made" (defArgs s_law_made) (defBody s_law_made) (defScope s_law_made) .none kV_law_made dc_law_made pm_law_made an_law_made cd_law_made ct_law_made), sl_law_made⟩)
    (c_law_made : PySem.W.codeIn K cd_law_made "_law_made" = true)
    (k_law_made : PySem.W.keepIn K (.ref f_law_made) = true)
    (a_law_sum : PySem.W.nsIn K mainGlobals "_law_sum" = some (some (.ref f_law_sum)))
    (l_law_sum : K.lookup f_law_sum = some ⟨oc_law_sum, od_law_sum, .func (PySem.W.fnOf "_law_sum" "_law_sum" (defArgs s_law_sum) (defBody s_law_sum) (defScope s_law_sum) .none kV_law_sum dc_law_sum pm_law_sum an_law_sum cd_law_sum ct_law_sum), sl_law_sum⟩)
    (c_law_sum : PySem.W.codeIn K cd_law_sum "_law_sum" = true)
    (k_law_sum : PySem.W.keepIn K (.ref f_law_sum) = true)
    (a_law_row : PySem.W.nsIn K mainGlobals "_law_row" = some (some (.ref f_law_row)))
    (l_law_row : K.lookup f_law_row = some ⟨oc_law_row, od_law_row, .func (PySem.W.fnOf "_law_row" "_law_row" (defArgs s_law_row) (defBody s_law_row) (defScope s_law_row) .none kV_law_row dc_law_row pm_law_row an_law_row cd_law_row ct_law_row), sl_law_row⟩)
    (c_law_row : PySem.W.codeIn K cd_law_row "_law_row" = true)
    (k_law_row : PySem.W.keepIn K (.ref f_law_row) = true)
    (a_law_at : PySem.W.nsIn K mainGlobals "_law_at" = some (some (.ref f_law_at)))
    (l_law_at : K.lookup f_law_at = some ⟨oc_law_at, od_law_at, .func (PySem.W.fnOf "_law_at" "_law_at" (defArgs s_law_at) (defBody s_law_at) (defScope s_law_at) .none kV_law_at dc_law_at pm_law_at an_law_at cd_law_at ct_law_at), sl_law_at⟩)
    (c_law_at : PySem.W.codeIn K cd_law_at "_law_at" = true)
    (k_law_at : PySem.W.keepIn K (.ref f_law_at) = true)
    (a_law_entries : PySem.W.nsIn K mainGlobals "_law_entries" = some (some (.ref f_law_entries)))
    (l_law_entries : K.lookup f_law_entries = some ⟨oc_law_entries, od_law_entries, .func (PySem.W.fnOf "_law_entries" "_law_entries" (defArgs s_law_entries) (defBody s_law_entries) (defScope s_law_entries) .none kV_law_entries dc_law_entries pm_law_entries an_law_entries cd_law_entries ct_law_entries), sl_law_entries⟩)
    (c_law_entries : PySem.W.codeIn K cd_law_entries "_law_entries" = true)
    (k_law_entries : PySem.W.keepIn K (.ref f_law_entries) = true)
    (a_law_shape : PySem.W.nsIn K mainGlobals "_law_shape" = some (some (.ref f_law_shape)))
    (l_law_shape : K.lookup f_law_shape = some ⟨oc_law_shape, od_law_shape, .func (PySem.W.fnOf "_law_shape" "_law_shape" (defArgs s_law_shape) (defBody s_law_shape) (defScope s_law_shape) .none kV_law_shape dc_law_shape pm_law_shape an_law_shape cd_law_shape ct_law_shape), sl_law_shape⟩)
    (c_law_shape : PySem.W.codeIn K cd_law_shape "_law_shape" = true)
    (k_law_shape : PySem.W.keepIn K (.ref f_law_shape) = true)
    (a_law_copied : PySem.W.nsIn K mainGlobals "_law_copied" = some (some (.ref f_law_copied)))
    (l_law_copied : K.lookup f_law_copied = some ⟨oc_law_copied, od_law_copied, .func (PySem.W.fnOf "_law_copied" "_law_copied" (defArgs s_law_copied) (defBody s_law_copied) (defScope s_law_copied) .none kV_law_copied dc_law_copied pm_law_copied an_law_copied cd_law_copied ct_law_copied), sl_law_copied⟩)
    (c_law_copied : PySem.W.codeIn K cd_law_copied "_law_copied" = true)
    (k_law_copied : PySem.W.keepIn K (.ref f_law_copied) = true)
    (a_law_changed : PySem.W.nsIn K mainGlobals "_law_changed" = some (some (.ref f_law_changed)))
    (l_law_changed : K.lookup f_law_changed = some ⟨oc_law_changed, od_law_changed, .func (PySem.W.fnOf "_law_changed" "_law_changed" (defArgs s_law_changed) (defBody s_law_changed) (defScope s_law_changed) .none kV_law_changed dc_law_changed pm_law_changed an_law_changed cd_law_changed ct_law_changed), sl_law_changed⟩)
    (c_law_changed : PySem.W.codeIn K cd_law_changed "_law_changed" = true)
    (k_law_changed : PySem.W.keepIn K (.ref f_law_changed) = true)
    (a_law_functions : PySem.W.nsIn K mainGlobals "_law_functions" = some (some (.ref f_law_functions)))
    (l_law_functions : K.lookup f_law_functions = some ⟨oc_law_functions, od_law_functions, .func (PySem.W.fnOf "_law_functions" "_law_functions" (defArgs s_law_functions) (defBody s_law_functions) (defScope s_law_functions) .none kV_law_functions dc_law_functions pm_law_functions an_law_functions cd_law_functions ct_law_functions), sl_law_functions⟩)
    (c_law_functions : PySem.W.codeIn K cd_law_functions "_law_functions" = true)
    (k_law_functions : PySem.W.keepIn K (.ref f_law_functions) = true)
    (a_law_newton : PySem.W.nsIn K mainGlobals "_law_newton" = some (some (.ref f_law_newton)))
    (l_law_newton : K.lookup f_law_newton = some ⟨oc_law_newton, od_law_newton, .func (PySem.W.fnOf "_law_newton" "_law_newton" (defArgs s_law_newton) (defBody s_law_newton) (defScope s_law_newton) .none kV_law_newton dc_law_newton pm_law_newton an_law_newton cd_law_newton ct_law_newton), sl_law_newton⟩)
    (c_law_newton : PySem.W.codeIn K cd_law_newton "_law_newton" = true)
    (k_law_newton : PySem.W.keepIn K (.ref f_law_newton) = true)
    (a_law_entries_at : PySem.W.nsIn K mainGlobals "_law_entries_at" = some (some (.ref f_law_entries_at)))
    (l_law_entries_at : K.lookup f_law_entries_at = some ⟨oc_law_entries_at, od_law_entries_at, .func (PySem.W.fnOf "_law_entries_at" "_law_entries_at" (defArgs s_law_entries_at) (defBody s_law_entries_at) (defScope s_law_entries_at) .none kV_law_entries_at dc_law_entries_at pm_law_entries_at an_law_entries_at cd_law_entries_at ct_law_entries_at), sl_law_entries_at⟩)
    (c_law_entries_at : PySem.W.codeIn K cd_law_entries_at "_law_entries_at" = true)
    (k_law_entries_at : PySem.W.keepIn K (.ref f_law_entries_at) = true)
    (a_law : PySem.W.nsIn K mainGlobals "law" = some (some (.ref f_law)))
    (l_law : K.lookup f_law = some ⟨oc_law, od_law, .func (PySem.W.fnOf "law" "law" (defArgs s_law) (defBody s_law) (defScope s_law) .none kV_law dc_law pm_law an_law cd_law ct_law), sl_law⟩)
    (c_law : PySem.W.codeIn K cd_law "law" = true)
    (k_law : PySem.W.keepIn K (.ref f_law) = true)
    (a_Shape : PySem.W.nsIn K mainGlobals "Shape" = some (some (.ref C_Shape)))
    (a_Table : PySem.W.nsIn K mainGlobals "Table" = some (some (.ref C_Table)))
    (rd_con : PySem.W.readsIn K C_Table (.type "type") = true)
    (ga_con : PySem.W.specialIn K (.ref C_Table) "__getattribute__" = some (some (.builtin "type.__getattribute__")))
    (at_con : PySem.W.findCls K (.ref C_Table) (.type "type") "constant" = some (.get (.builtin "classmethod.__get__") (.ref pCon) .none (.ref C_Table)))
    (rc_con : PySem.W.recIn K pCon "classmethod" = some (.ref f_Table_constant :: rest_con))
    (fi_con : PySem.W.fnIn K f_Table_constant = true)
    (m_Shape_init : PySem.W.findIn K (.ref C_Shape) "__init__" = some (some (.ref f_Shape_init)))
    (l_Shape_init : K.lookup f_Shape_init = some ⟨oc_Shape_init, od_Shape_init, .func (PySem.W.fnOf "__init__" "Shape.__init__" (defArgs s_Shape_init) (defBody s_Shape_init) (defScope s_Shape_init) .none kV_Shape_init dc_Shape_init pm_Shape_init an_Shape_init cd_Shape_init ct_Shape_init), sl_Shape_init⟩)
    (c_Shape_init : PySem.W.codeIn K cd_Shape_init "Shape.__init__" = true)
    (k_Shape_init : PySem.W.keepIn K (.ref f_Shape_init) = true)
    (i_Shape_init : PySem.W.isFn K (.ref f_Shape_init) = true)
    (m_Table_init : PySem.W.findIn K (.ref C_Table) "__init__" = some (some (.ref f_Table_init)))
    (l_Table_init : K.lookup f_Table_init = some ⟨oc_Table_init, od_Table_init, .func (PySem.W.fnOf "__init__" "Table.__init__" (defArgs s_Table_init) (defBody s_Table_init) (defScope s_Table_init) .none kV_Table_init dc_Table_init pm_Table_init an_Table_init cd_Table_init ct_Table_init), sl_Table_init⟩)
    (c_Table_init : PySem.W.codeIn K cd_Table_init "Table.__init__" = true)
    (k_Table_init : PySem.W.keepIn K (.ref f_Table_init) = true)
    (i_Table_init : PySem.W.isFn K (.ref f_Table_init) = true)
    (l_Table_constant : K.lookup f_Table_constant = some ⟨oc_Table_constant, od_Table_constant, .func (PySem.W.fnOf "constant" "Table.constant" (defArgs s_Table_constant) (defBody s_Table_constant) (defScope s_Table_constant) .none kV_Table_constant dc_Table_constant pm_Table_constant an_Table_constant cd_Table_constant ct_Table_constant), sl_Table_constant⟩)
    (c_Table_constant : PySem.W.codeIn K cd_Table_constant "Table.constant" = true)
    (k_Table_constant : PySem.W.keepIn K (.ref f_Table_constant) = true)
    (m_Table_eq : PySem.W.findIn K (.ref C_Table) "__eq__" = some (some (.ref f_Table_eq)))
    (l_Table_eq : K.lookup f_Table_eq = some ⟨oc_Table_eq, od_Table_eq, .func (PySem.W.fnOf "__eq__" "Table.__eq__" (defArgs s_Table_eq) (defBody s_Table_eq) (defScope s_Table_eq) .none kV_Table_eq dc_Table_eq pm_Table_eq an_Table_eq cd_Table_eq ct_Table_eq), sl_Table_eq⟩)
    (c_Table_eq : PySem.W.codeIn K cd_Table_eq "Table.__eq__" = true)
    (k_Table_eq : PySem.W.keepIn K (.ref f_Table_eq) = true)
    (i_Table_eq : PySem.W.isFn K (.ref f_Table_eq) = true)
    (m_Shape_in_rows : PySem.W.findIn K (.ref C_Shape) "in_rows" = some (some (.ref f_Shape_in_rows)))
    (l_Shape_in_rows : K.lookup f_Shape_in_rows = some ⟨oc_Shape_in_rows, od_Shape_in_rows, .func (PySem.W.fnOf "in_rows" "Shape.in_rows" (defArgs s_Shape_in_rows) (defBody s_Shape_in_rows) (defScope s_Shape_in_rows) .none kV_Shape_in_rows dc_Shape_in_rows pm_Shape_in_rows an_Shape_in_rows cd_Shape_in_rows ct_Shape_in_rows), sl_Shape_in_rows⟩)
    (c_Shape_in_rows : PySem.W.codeIn K cd_Shape_in_rows "Shape.in_rows" = true)
    (k_Shape_in_rows : PySem.W.keepIn K (.ref f_Shape_in_rows) = true)
    (i_Shape_in_rows : PySem.W.isFn K (.ref f_Shape_in_rows) = true)
    (m_Shape_spread : PySem.W.findIn K (.ref C_Shape) "spread" = some (some (.ref f_Shape_spread)))
    (l_Shape_spread : K.lookup f_Shape_spread = some ⟨oc_Shape_spread, od_Shape_spread, .func (PySem.W.fnOf "spread" "Shape.spread" (defArgs s_Shape_spread) (defBody s_Shape_spread) (defScope s_Shape_spread) .none kV_Shape_spread dc_Shape_spread pm_Shape_spread an_Shape_spread cd_Shape_spread ct_Shape_spread), sl_Shape_spread⟩)
    (c_Shape_spread : PySem.W.codeIn K cd_Shape_spread "Shape.spread" = true)
    (k_Shape_spread : PySem.W.keepIn K (.ref f_Shape_spread) = true)
    (i_Shape_spread : PySem.W.isFn K (.ref f_Shape_spread) = true)
    (m_Shape_first_wrong : PySem.W.findIn K (.ref C_Shape) "first_wrong" = some (some (.ref f_Shape_first_wrong)))
    (l_Shape_first_wrong : K.lookup f_Shape_first_wrong = some ⟨oc_Shape_first_wrong, od_Shape_first_wrong, .func (PySem.W.fnOf "first_wrong" "Shape.first_wrong" (defArgs s_Shape_first_wrong) (defBody s_Shape_first_wrong) (defScope s_Shape_first_wrong) .none kV_Shape_first_wrong dc_Shape_first_wrong pm_Shape_first_wrong an_Shape_first_wrong cd_Shape_first_wrong ct_Shape_first_wrong), sl_Shape_first_wrong⟩)
    (c_Shape_first_wrong : PySem.W.codeIn K cd_Shape_first_wrong "Shape.first_wrong" = true)
    (k_Shape_first_wrong : PySem.W.keepIn K (.ref f_Shape_first_wrong) = true)
    (i_Shape_first_wrong : PySem.W.isFn K (.ref f_Shape_first_wrong) = true)
    (m_Shape_divided : PySem.W.findIn K (.ref C_Shape) "divided" = some (some (.ref f_Shape_divided)))
    (l_Shape_divided : K.lookup f_Shape_divided = some ⟨oc_Shape_divided, od_Shape_divided, .func (PySem.W.fnOf "divided" "Shape.divided" (defArgs s_Shape_divided) (defBody s_Shape_divided) (defScope s_Shape_divided) .none kV_Shape_divided dc_Shape_divided pm_Shape_divided an_Shape_divided cd_Shape_divided ct_Shape_divided), sl_Shape_divided⟩)
    (c_Shape_divided : PySem.W.codeIn K cd_Shape_divided "Shape.divided" = true)
    (k_Shape_divided : PySem.W.keepIn K (.ref f_Shape_divided) = true)
    (i_Shape_divided : PySem.W.isFn K (.ref f_Shape_divided) = true)
    (m_Shape_coefficients : PySem.W.findIn K (.ref C_Shape) "coefficients" = some (some (.ref f_Shape_coefficients)))
    (l_Shape_coefficients : K.lookup f_Shape_coefficients = some ⟨oc_Shape_coefficients, od_Shape_coefficients, .func (PySem.W.fnOf "coefficients" "Shape.coefficients" (defArgs s_Shape_coefficients) (defBody s_Shape_coefficients) (defScope s_Shape_coefficients) .none kV_Shape_coefficients dc_Shape_coefficients pm_Shape_coefficients an_Shape_coefficients cd_Shape_coefficients ct_Shape_coefficients), sl_Shape_coefficients⟩)
    (c_Shape_coefficients : PySem.W.codeIn K cd_Shape_coefficients "Shape.coefficients" = true)
    (k_Shape_coefficients : PySem.W.keepIn K (.ref f_Shape_coefficients) = true)
    (i_Shape_coefficients : PySem.W.isFn K (.ref f_Shape_coefficients) = true)
    (m_Table_worth : PySem.W.findIn K (.ref C_Table) "worth" = some (some (.ref f_Table_worth)))
    (l_Table_worth : K.lookup f_Table_worth = some ⟨oc_Table_worth, od_Table_worth, .func (PySem.W.fnOf "worth" "Table.worth" (defArgs s_Table_worth) (defBody s_Table_worth) (defScope s_Table_worth) .none kV_Table_worth dc_Table_worth pm_Table_worth an_Table_worth cd_Table_worth ct_Table_worth), sl_Table_worth⟩)
    (c_Table_worth : PySem.W.codeIn K cd_Table_worth "Table.worth" = true)
    (k_Table_worth : PySem.W.keepIn K (.ref f_Table_worth) = true)
    (i_Table_worth : PySem.W.isFn K (.ref f_Table_worth) = true)
    (m_Table_listed : PySem.W.findIn K (.ref C_Table) "listed" = some (some (.ref f_Table_listed)))
    (l_Table_listed : K.lookup f_Table_listed = some ⟨oc_Table_listed, od_Table_listed, .func (PySem.W.fnOf "listed" "Table.listed" (defArgs s_Table_listed) (defBody s_Table_listed) (defScope s_Table_listed) .none kV_Table_listed dc_Table_listed pm_Table_listed an_Table_listed cd_Table_listed ct_Table_listed), sl_Table_listed⟩)
    (c_Table_listed : PySem.W.codeIn K cd_Table_listed "Table.listed" = true)
    (k_Table_listed : PySem.W.keepIn K (.ref f_Table_listed) = true)
    (i_Table_listed : PySem.W.isFn K (.ref f_Table_listed) = true)
    (m_Table_is_same : PySem.W.findIn K (.ref C_Table) "is_same" = some (some (.ref f_Table_is_same)))
    (l_Table_is_same : K.lookup f_Table_is_same = some ⟨oc_Table_is_same, od_Table_is_same, .func (PySem.W.fnOf "is_same" "Table.is_same" (defArgs s_Table_is_same) (defBody s_Table_is_same) (defScope s_Table_is_same) .none kV_Table_is_same dc_Table_is_same pm_Table_is_same an_Table_is_same cd_Table_is_same ct_Table_is_same), sl_Table_is_same⟩)
    (c_Table_is_same : PySem.W.codeIn K cd_Table_is_same "Table.is_same" = true)
    (k_Table_is_same : PySem.W.keepIn K (.ref f_Table_is_same) = true)
    (i_Table_is_same : PySem.W.isFn K (.ref f_Table_is_same) = true)
    (ne_Table : PySem.W.findIn K (.ref C_Table) "__ne__" = some (some (.builtin "object.__ne__")))
    (st_Table : PySem.W.subIn K (.type "tuple") (.ref C_Table) = some false)
    (si_Table : PySem.W.subIn K (.type "int") (.ref C_Table) = some false)
    (ss_Table : PySem.W.subIn K (.type "str") (.ref C_Table) = some false)
    (sn_Table : PySem.W.subIn K (.type "NoneType") (.ref C_Table) = some false)
    (ca_Table : PySem.W.findIn K (.ref C_Table) "__class__" = some (some (.builtin "object.__class__")))
    (cm_Table : PySem.W.mroIn K C_Table (.type "object") = some true)
    (ty_Table : PySem.W.typeIn K (.ref C_Table) = some (.type "type"))
    (sb_Table : PySem.W.subIn K (.ref C_Table) (.ref C_Table) = some true)
    (cls_Table : PySem.W.isClsIn K C_Table = true)
    (cn : PySem.W.specialIn K (.builtin "object.__class__") "__get__" = some (some (.builtin "getset_descriptor.__get__")))
    (ct : PySem.W.takesIn K (.builtin "object.__class__") = some true)
    (pg_Shape : PySem.W.plainGet K C_Shape Str.empty = true)
    (hd_Shape : PySem.W.hasDictIn K C_Shape = true)
    (po_Shape : PySem.W.plainOver K C_Shape = true)
    (sa_Shape : PySem.W.findIn K (.ref C_Shape) "__setattr__" = some (some (.builtin "object.__setattr__")))
    (mk_Shape : PySem.W.makesIn K C_Shape = true)
    (kc_Shape : PySem.W.keepIn K (.ref C_Shape) = true)
    (pg_Table : PySem.W.plainGet K C_Table Str.empty = true)
    (hd_Table : PySem.W.hasDictIn K C_Table = true)
    (po_Table : PySem.W.plainOver K C_Table = true)
    (sa_Table : PySem.W.findIn K (.ref C_Table) "__setattr__" = some (some (.builtin "object.__setattr__")))
    (mk_Table : PySem.W.makesIn K C_Table = true)
    (kc_Table : PySem.W.keepIn K (.ref C_Table) = true)
    (ns_bits : PySem.W.findIn K (.ref C_Shape) "bits" = some none)
    (ns_mask : PySem.W.findIn K (.ref C_Shape) "mask" = some none)
    (ns_twos : PySem.W.findIn K (.ref C_Shape) "twos" = some none)
    (ns_widths : PySem.W.findIn K (.ref C_Shape) "widths" = some none)
    (ns_inverses : PySem.W.findIn K (.ref C_Shape) "inverses" = some none)
    (nt_loss : PySem.W.findIn K (.ref C_Table) "loss" = some none)
    (nt_bits : PySem.W.findIn K (.ref C_Table) "bits" = some none)
    (nt_entries : PySem.W.findIn K (.ref C_Table) "entries" = some none)
    (nt_inputs : PySem.W.findIn K (.ref C_Table) "inputs" = some none)
    (nt_most : PySem.W.findIn K (.ref C_Table) "most" = some none)
    (nt_classes : PySem.W.findIn K (.ref C_Table) "classes" = some none)
    (z_len : PySem.W.nsIn K mainGlobals "len" = some none)
    (z_max : PySem.W.nsIn K mainGlobals "max" = some none)
    (z_list : PySem.W.nsIn K mainGlobals "list" = some none)
    (z_tuple : PySem.W.nsIn K mainGlobals "tuple" = some none)
    (z_reversed : PySem.W.nsIn K mainGlobals "reversed" = some none)
    (z_range : PySem.W.nsIn K mainGlobals "range" = some none)
    (z_int : PySem.W.nsIn K mainGlobals "int" = some none)
    (z_str : PySem.W.nsIn K mainGlobals "str" = some none)
    (z_bool : PySem.W.nsIn K mainGlobals "bool" = some none)
    (z_isinstance : PySem.W.nsIn K mainGlobals "isinstance" = some none)
    (z_all : PySem.W.nsIn K mainGlobals "all" = some none)
    (z_enumerate : PySem.W.nsIn K mainGlobals "enumerate" = some none)
    (z_zip : PySem.W.nsIn K mainGlobals "zip" = some none)
    (z_sum : PySem.W.nsIn K mainGlobals "sum" = some none)
    (z_min : PySem.W.nsIn K mainGlobals "min" = some none)
    (z_repr : PySem.W.nsIn K mainGlobals "repr" = some none)
    (z_dict : PySem.W.nsIn K mainGlobals "dict" = some none) :
    ∃ fd : FuncData, (∀ (s : Shared) (v : Value), BindsTo s fd ⟨[v], []⟩ [("_law_script", v)]) ∧ ∀ base : Heap, K.In base → base.Ns mainGlobals mg → FnOkG P w K mg base CX0 11 fa fd ["_law_script"] (spLaw K) := by
  have e := hfa.symm.trans (PySem.W.mg_of X G a_law)
  cases e
  refine ⟨PySem.W.fnOf "law" "law" (defArgs s_law) (defBody s_law) (defScope s_law) .none kV_law dc_law pm_law an_law cd_law ct_law, fun s v => .of_eq rfl, fun base _ _ => ?_⟩
  have F_twos := fun_mk (st := s_twos) l_twos c_twos k_twos
  have F_shares := fun_mk (st := s_shares) l_shares c_shares k_shares
  have F_vector_list := fun_mk (st := s_vector_list) l_vector_list c_vector_list k_vector_list
  have F_count_vectors := fun_mk (st := s_count_vectors) l_count_vectors c_count_vectors k_count_vectors
  have F_residues := fun_mk (st := s_residues) l_residues c_residues k_residues
  have F_point_list := fun_mk (st := s_point_list) l_point_list c_point_list k_point_list
  have F_count_points := fun_mk (st := s_count_points) l_count_points c_count_points k_count_points
  have F_greater_loss := fun_mk (st := s_greater_loss) l_greater_loss c_greater_loss k_greater_loss
  have F_inverse := fun_mk (st := s_inverse) l_inverse c_inverse k_inverse
  have F_odd_inverses := fun_mk (st := s_odd_inverses) l_odd_inverses c_odd_inverses k_odd_inverses
  have F_falling := fun_mk (st := s_falling) l_falling c_falling k_falling
  have F_evaluated := fun_mk (st := s_evaluated) l_evaluated c_evaluated k_evaluated
  have F_differences := fun_mk (st := s_differences) l_differences c_differences k_differences
  have F_classes_of := fun_mk (st := s_classes_of) l_classes_of c_classes_of k_classes_of
  have F_law_deal := fun_mk (st := s_law_deal) l_law_deal c_law_deal k_law_deal
  have F_law_draw := fun_mk (st := s_law_draw) l_law_draw c_law_draw k_law_draw
  have F_law_twos := fun_mk (st := s_law_twos) l_law_twos c_law_twos k_law_twos
  have F_law_vectors := fun_mk (st := s_law_vectors) l_law_vectors c_law_vectors k_law_vectors
  have F_law_spots := fun_mk (st := s_law_spots) l_law_spots c_law_spots k_law_spots
  have F_law_class := fun_mk (st := s_law_class) l_law_class c_law_class k_law_class
  have F_law_made := fun_mk (st := s_law_made) l_law_made c_law_made k_law_made
  have F_law_sum := fun_mk (st := s_law_sum) l_law_sum c_law_sum k_law_sum
  have F_law_row := fun_mk (st := s_law_row) l_law_row c_law_row k_law_row
  have F_law_at := fun_mk (st := s_law_at) l_law_at c_law_at k_law_at
  have F_law_entries := fun_mk (st := s_law_entries) l_law_entries c_law_entries k_law_entries
  have F_law_shape := fun_mk (st := s_law_shape) l_law_shape c_law_shape k_law_shape
  have F_law_copied := fun_mk (st := s_law_copied) l_law_copied c_law_copied k_law_copied
  have F_law_changed := fun_mk (st := s_law_changed) l_law_changed c_law_changed k_law_changed
  have F_law_functions := fun_mk (st := s_law_functions) l_law_functions c_law_functions k_law_functions
  have F_law_newton := fun_mk (st := s_law_newton) l_law_newton c_law_newton k_law_newton
  have F_law_entries_at := fun_mk (st := s_law_entries_at) l_law_entries_at c_law_entries_at k_law_entries_at
  have F_law := fun_mk (st := s_law) l_law c_law k_law
  have F_Shape_init := fun_mk (st := s_Shape_init) l_Shape_init c_Shape_init k_Shape_init
  have F_Table_init := fun_mk (st := s_Table_init) l_Table_init c_Table_init k_Table_init
  have F_Table_constant := fun_mk (st := s_Table_constant) l_Table_constant c_Table_constant k_Table_constant
  have F_Table_eq := fun_mk (st := s_Table_eq) l_Table_eq c_Table_eq k_Table_eq
  have F_Shape_in_rows := fun_mk (st := s_Shape_in_rows) l_Shape_in_rows c_Shape_in_rows k_Shape_in_rows
  have F_Shape_spread := fun_mk (st := s_Shape_spread) l_Shape_spread c_Shape_spread k_Shape_spread
  have F_Shape_first_wrong := fun_mk (st := s_Shape_first_wrong) l_Shape_first_wrong c_Shape_first_wrong k_Shape_first_wrong
  have F_Shape_divided := fun_mk (st := s_Shape_divided) l_Shape_divided c_Shape_divided k_Shape_divided
  have F_Shape_coefficients := fun_mk (st := s_Shape_coefficients) l_Shape_coefficients c_Shape_coefficients k_Shape_coefficients
  have F_Table_worth := fun_mk (st := s_Table_worth) l_Table_worth c_Table_worth k_Table_worth
  have F_Table_listed := fun_mk (st := s_Table_listed) l_Table_listed c_Table_listed k_Table_listed
  have F_Table_is_same := fun_mk (st := s_Table_is_same) l_Table_is_same c_Table_is_same k_Table_is_same
  have b_twos := F_twos.binds (ps := ["n"]) fun _ _ _ _ _ _ us hl => match us, hl with | [_], _ => rfl
  have b_shares := F_shares.binds (ps := ["bits"]) fun _ _ _ _ _ _ us hl => match us, hl with | [_], _ => rfl
  have b_vector_list := F_vector_list.binds (ps := ["count", "bits"]) fun _ _ _ _ _ _ us hl => match us, hl with | [_, _], _ => rfl
  have b_count_vectors := F_count_vectors.binds (ps := ["count", "bits"]) fun _ _ _ _ _ _ us hl => match us, hl with | [_, _], _ => rfl
  have b_residues := F_residues.binds (ps := ["loss", "number"]) fun _ _ _ _ _ _ us hl => match us, hl with | [_, _], _ => rfl
  have b_point_list := F_point_list.binds (ps := ["loss", "bits"]) fun _ _ _ _ _ _ us hl => match us, hl with | [_, _], _ => rfl
  have b_count_points := F_count_points.binds (ps := ["loss", "bits"]) fun _ _ _ _ _ _ us hl => match us, hl with | [_, _], _ => rfl
  have b_greater_loss := F_greater_loss.binds (ps := ["one", "other"]) fun _ _ _ _ _ _ us hl => match us, hl with | [_, _], _ => rfl
  have b_inverse := F_inverse.binds (ps := ["odd", "bits"]) fun _ _ _ _ _ _ us hl => match us, hl with | [_, _], _ => rfl
  have b_odd_inverses := F_odd_inverses.binds (ps := ["count", "bits"]) fun _ _ _ _ _ _ us hl => match us, hl with | [_, _], _ => rfl
  have b_falling := F_falling.binds (ps := ["coefficients", "z", "mask"]) fun _ _ _ _ _ _ us hl => match us, hl with | [_, _, _], _ => rfl
  have b_evaluated := F_evaluated.binds (ps := ["rows", "place", "mask"]) fun _ _ _ _ _ _ us hl => match us, hl with | [_, _, _], _ => rfl
  have b_differences := F_differences.binds (ps := ["values", "mask"]) fun _ _ _ _ _ _ us hl => match us, hl with | [_, _], _ => rfl
  have b_classes_of := F_classes_of.binds (ps := ["loss", "bits", "entries"]) fun _ _ _ _ _ _ us hl => match us, hl with | [_, _, _], _ => rfl
  have b_law_deal := F_law_deal.binds (ps := ["_law_script", "_law_base"]) fun _ _ _ _ _ _ us hl => match us, hl with | [_, _], _ => rfl
  have b_law_draw := F_law_draw.binds (ps := ["_law_deal_here", "_law_many"]) fun _ _ _ _ _ _ us hl => match us, hl with | [_, _], _ => rfl
  have b_law_twos := F_law_twos.binds (ps := ["_law_number"]) fun _ _ _ _ _ _ us hl => match us, hl with | [_], _ => rfl
  have b_law_vectors := F_law_vectors.binds (ps := ["_law_many", "_law_wide"]) fun _ _ _ _ _ _ us hl => match us, hl with | [_, _], _ => rfl
  have b_law_spots := F_law_spots.binds (ps := ["_law_depths", "_law_wide"]) fun _ _ _ _ _ _ us hl => match us, hl with | [_, _], _ => rfl
  have b_law_class := F_law_class.binds (ps := ["_law_spot", "_law_depths"]) fun _ _ _ _ _ _ us hl => match us, hl with | [_, _], _ => rfl
  have b_law_made := F_law_made.binds (ps := ["_law_deal_here", "_law_depths", "_law_wide"]) fun _ _ _ _ _ _ us hl => match us, hl with | [_, _, _], _ => rfl
  have b_law_sum := F_law_sum.binds (ps := ["_law_factors", "_law_variables"]) fun _ _ _ _ _ _ us hl => match us, hl with | [_, _], _ => rfl
  have b_law_row := F_law_row.binds (ps := ["_law_top", "_law_many"]) fun _ _ _ _ _ _ us hl => match us, hl with | [_, _], _ => rfl
  have b_law_at := F_law_at.binds (ps := ["_law_made_here", "_law_depths", "_law_spot", "_law_wide"]) fun _ _ _ _ _ _ us hl => match us, hl with | [_, _, _, _], _ => rfl
  have b_law_entries := F_law_entries.binds (ps := ["_law_made_here", "_law_depths", "_law_wide"]) fun _ _ _ _ _ _ us hl => match us, hl with | [_, _, _], _ => rfl
  have b_law_shape := F_law_shape.binds (ps := ["_law_deal_here"]) fun _ _ _ _ _ _ us hl => match us, hl with | [_], _ => rfl
  have b_law_copied := F_law_copied.binds (ps := ["_law_made_here"]) fun _ _ _ _ _ _ us hl => match us, hl with | [_], _ => rfl
  have b_law_changed := F_law_changed.binds (ps := ["_law_deal_here", "_law_made_here", "_law_depths", "_law_wide"]) fun _ _ _ _ _ _ us hl => match us, hl with | [_, _, _, _], _ => rfl
  have b_law_functions := F_law_functions.binds (ps := ["_law_deal_here", "_law_wide", "_law_depths"]) fun _ _ _ _ _ _ us hl => match us, hl with | [_, _, _], _ => rfl
  have b_law_newton := F_law_newton.binds (ps := ["_law_depths", "_law_wide", "_law_entries_here"]) fun _ _ _ _ _ _ us hl => match us, hl with | [_, _, _], _ => rfl
  have b_law_entries_at := F_law_entries_at.binds (ps := ["_law_made_here", "_law_depths", "_law_other", "_law_wide"]) fun _ _ _ _ _ _ us hl => match us, hl with | [_, _, _, _], _ => rfl
  have b_law := F_law.binds (ps := ["_law_script"]) fun _ _ _ _ _ _ us hl => match us, hl with | [_], _ => rfl
  have b_Shape_init := F_Shape_init.binds (ps := ["self", "inputs", "bits"]) fun _ _ _ _ _ _ us hl => match us, hl with | [_, _, _], _ => rfl
  have b_Table_init := F_Table_init.binds (ps := ["self", "loss", "bits", "entries"]) fun _ _ _ _ _ _ us hl => match us, hl with | [_, _, _, _], _ => rfl
  have b_Table_constant := F_Table_constant.binds (ps := ["cls", "value", "inputs", "bits"]) fun _ _ _ _ _ _ us hl => match us, hl with | [_, _, _, _], _ => rfl
  have b_Table_eq := F_Table_eq.binds (ps := ["self", "other"]) fun _ _ _ _ _ _ us hl => match us, hl with | [_, _], _ => rfl
  have b_Shape_in_rows := F_Shape_in_rows.binds (ps := ["self", "values"]) fun _ _ _ _ _ _ us hl => match us, hl with | [_, _], _ => rfl
  have b_Shape_spread := F_Shape_spread.binds (ps := ["self", "values"]) fun _ _ _ _ _ _ us hl => match us, hl with | [_, _], _ => rfl
  have b_Shape_first_wrong := F_Shape_first_wrong.binds (ps := ["self", "found"]) fun _ _ _ _ _ _ us hl => match us, hl with | [_, _], _ => rfl
  have b_Shape_divided := F_Shape_divided.binds (ps := ["self", "row", "down"]) fun _ _ _ _ _ _ us hl => match us, hl with | [_, _, _], _ => rfl
  have b_Shape_coefficients := F_Shape_coefficients.binds (ps := ["self", "found"]) fun _ _ _ _ _ _ us hl => match us, hl with | [_, _], _ => rfl
  have b_Table_worth := F_Table_worth.binds (ps := ["self", "point"]) fun _ _ _ _ _ _ us hl => match us, hl with | [_, _], _ => rfl
  have b_Table_listed := F_Table_listed.binds (ps := ["self", "loss"]) fun _ _ _ _ _ _ us hl => match us, hl with | [_, _], _ => rfl
  have b_Table_is_same := F_Table_is_same.binds (ps := ["self", "other"]) fun _ _ _ _ _ _ us hl => match us, hl with | [_, _], _ => rfl
  have T : Glob mg := ⟨PySem.W.mg_none_of X G z_len, PySem.W.mg_none_of X G z_max, PySem.W.mg_none_of X G z_list, PySem.W.mg_none_of X G z_tuple, PySem.W.mg_none_of X G z_reversed, PySem.W.mg_none_of X G z_range, PySem.W.mg_none_of X G z_int, PySem.W.mg_none_of X G z_str, PySem.W.mg_none_of X G z_bool, PySem.W.mg_none_of X G z_isinstance, PySem.W.mg_none_of X G z_all, PySem.W.mg_none_of X G z_enumerate, PySem.W.mg_none_of X G z_zip⟩
  have gs : mg "sum" = none := PySem.W.mg_none_of X G z_sum
  have cl_Shape : Cls K C_Shape := ⟨pg_Shape, hd_Shape, po_Shape, sa_Shape⟩
  have cl_Table : Cls K C_Table := ⟨pg_Table, hd_Table, po_Table, sa_Table⟩
  have CS : ShC K C_Shape := ⟨cl_Shape, ns_bits, ns_mask, ns_twos, ns_widths, ns_inverses⟩
  have CT : TbC K C_Table := ⟨cl_Table, nt_loss, nt_bits, nt_entries, nt_inputs, nt_most, nt_classes⟩
  have NM : ClsN K C_Table := ⟨ca_Table, cn, ct, cm_Table, kit_own cls_Table ty_Table sb_Table⟩
  have D_twos : Df P w K mg base 1 "twos" ["n"] spTwos := ⟨f_twos, _, ok_twos F_twos, PySem.W.mg_of X G a_twos, k_twos, b_twos⟩
  have D_shares : Df P w K mg base 2 "shares" ["bits"] spShares := ⟨f_shares, _, ok_shares F_shares T D_twos, PySem.W.mg_of X G a_shares, k_shares, b_shares⟩
  have D_count_vectors : Df P w K mg base 3 "count_vectors" ["count", "bits"] spCountV := ⟨f_count_vectors, _, ok_count_vectors F_count_vectors T gs D_shares, PySem.W.mg_of X G a_count_vectors, k_count_vectors, b_count_vectors⟩
  have D_inverse : Df P w K mg base 1 "inverse" ["odd", "bits"] spInverse := ⟨f_inverse, _, ok_inverse F_inverse, PySem.W.mg_of X G a_inverse, k_inverse, b_inverse⟩
  have D_odd_inverses : Df P w K mg base 2 "odd_inverses" ["count", "bits"] spInverses := ⟨f_odd_inverses, _, ok_odd_inverses F_odd_inverses T D_inverse, PySem.W.mg_of X G a_odd_inverses, k_odd_inverses, b_odd_inverses⟩
  have D_falling : Df P w K mg base 1 "falling" ["coefficients", "z", "mask"] spFalling := ⟨f_falling, _, ok_falling F_falling T, PySem.W.mg_of X G a_falling, k_falling, b_falling⟩
  have D_evaluated : Df P w K mg base 2 "evaluated" ["rows", "place", "mask"] spEval := ⟨f_evaluated, _, ok_evaluated F_evaluated T D_falling, PySem.W.mg_of X G a_evaluated, k_evaluated, b_evaluated⟩
  have D_differences : Df P w K mg base 1 "differences" ["values", "mask"] (spDiff K) := ⟨f_differences, _, ok_differences F_differences T, PySem.W.mg_of X G a_differences, k_differences, b_differences⟩
  have D_count_points : Df P w K mg base 4 "count_points" ["loss", "bits"] spCountQ := ⟨f_count_points, _, ok_count_points F_count_points T gs D_count_vectors, PySem.W.mg_of X G a_count_points, k_count_points, b_count_points⟩
  have D_residues : Df P w K mg base 1 "residues" ["loss", "number"] spRes := ⟨f_residues, _, ok_residues F_residues T, PySem.W.mg_of X G a_residues, k_residues, b_residues⟩
  have D_greater_loss : Df P w K mg base 1 "greater_loss" ["one", "other"] spGr := ⟨f_greater_loss, _, ok_greater_loss F_greater_loss T, PySem.W.mg_of X G a_greater_loss, k_greater_loss, b_greater_loss⟩
  have D_vector_list : Df P w K mg base 5 "vector_list" ["count", "bits"] spVec12 := ⟨f_vector_list, _, ok_vec12 (ok_vector_list F_vector_list T D_shares (PySem.W.mg_of X G a_vector_list) k_vector_list b_vector_list), PySem.W.mg_of X G a_vector_list, k_vector_list, b_vector_list⟩
  have D_point_list : Df P w K mg base 6 "point_list" ["loss", "bits"] spPts := ⟨f_point_list, _, ok_point_list F_point_list T gs D_residues D_vector_list, PySem.W.mg_of X G a_point_list, k_point_list, b_point_list⟩
  have SX : ShX P w K mg base C_Shape := ⟨f_Shape_init, _, ⟨mk_Shape, m_Shape_init, i_Shape_init, kc_Shape⟩, ok_Shape_init F_Shape_init T CS D_shares D_odd_inverses, PySem.W.mg_of X G a_Shape, b_Shape_init, cl_Shape⟩
  have MR : Mt P w K mg base C_Shape 1 "in_rows" ["self", "values"] (spInRows C_Shape) := ⟨f_Shape_in_rows, _, ⟨m_Shape_in_rows, i_Shape_in_rows, k_Shape_in_rows⟩, ok_Shape_in_rows F_Shape_in_rows T CS, b_Shape_in_rows⟩
  have MS : Mt P w K mg base C_Shape 2 "spread" ["self", "values"] (spSpread C_Shape) := ⟨f_Shape_spread, _, ⟨m_Shape_spread, i_Shape_spread, k_Shape_spread⟩, ok_Shape_spread F_Shape_spread T CS MR D_differences, b_Shape_spread⟩
  have MW : Mt P w K mg base C_Shape 1 "first_wrong" ["self", "found"] (spWrongG C_Shape) := ⟨f_Shape_first_wrong, _, ⟨m_Shape_first_wrong, i_Shape_first_wrong, k_Shape_first_wrong⟩, ok_Shape_first_wrong F_Shape_first_wrong T CS, b_Shape_first_wrong⟩
  have MD : Mt P w K mg base C_Shape 1 "divided" ["self", "row", "down"] (spDivided C_Shape) := ⟨f_Shape_divided, _, ⟨m_Shape_divided, i_Shape_divided, k_Shape_divided⟩, ok_Shape_divided F_Shape_divided T CS, b_Shape_divided⟩
  have MC : Mt P w K mg base C_Shape 2 "coefficients" ["self", "found"] (spCoefs C_Shape) := ⟨f_Shape_coefficients, _, ⟨m_Shape_coefficients, i_Shape_coefficients, k_Shape_coefficients⟩, ok_Shape_coefficients F_Shape_coefficients T CS MD, b_Shape_coefficients⟩
  have D_classes_of : Df P w K mg base 5 "classes_of" ["loss", "bits", "entries"] spClasses := ⟨f_classes_of, _, ok_classes_of F_classes_of T gs SX MS MW MC D_count_vectors, PySem.W.mg_of X G a_classes_of, k_classes_of, b_classes_of⟩
  have TV : TbV P w K mg base C_Table := ⟨f_Table_init, _, ⟨mk_Table, m_Table_init, i_Table_init, kc_Table⟩, ok_Table_initV F_Table_init T CT D_count_points D_classes_of, PySem.W.mg_of X G a_Table, b_Table_init⟩
  have MO : Mt P w K mg base C_Table 3 "worth" ["self", "point"] (spWorth K C_Table) := ⟨f_Table_worth, _, ⟨m_Table_worth, i_Table_worth, k_Table_worth⟩, ok_Table_worth F_Table_worth T CT D_evaluated, b_Table_worth⟩
  have ML : Mt P w K mg base C_Table 7 "listed" ["self", "loss"] (spListed K C_Table) := ⟨f_Table_listed, _, ⟨m_Table_listed, i_Table_listed, k_Table_listed⟩, ok_Table_listed F_Table_listed CT D_point_list MO, b_Table_listed⟩
  have MSa : Mt P w K mg base C_Table 8 "is_same" ["self", "other"] (spSame C_Table) := ⟨f_Table_is_same, _, ⟨m_Table_is_same, i_Table_is_same, k_Table_is_same⟩, ok_Table_is_same F_Table_is_same T CT D_greater_loss ML, b_Table_is_same⟩
  have EB : EqB P w K mg base C_Table := ⟨f_Table_eq, _, ⟨m_Table_eq, ne_Table, i_Table_eq, cm_Table⟩, ok_Table_eq F_Table_eq T CT NM (PySem.W.mg_of X G a_Table) MSa, b_Table_eq, nf_of st_Table, kit_not cls_Table ty_Table st_Table (by rfl), nf_of si_Table, kit_not cls_Table ty_Table si_Table (by rfl), nf_of ss_Table, kit_not cls_Table ty_Table ss_Table (by rfl), nf_of sn_Table, kit_not cls_Table ty_Table sn_Table (by rfl)⟩
  have fnr : FnR P w K mg base CX0 8 f_Table_constant (spConst C_Table) := ((ok_Table_constant F_Table_constant TV D_count_vectors).raw b_Table_constant .nil).imp fun vs H Q E h => by
    rw [List.append_nil]
    exact h
  have CB : ConB P w K mg base C_Table := ⟨f_Table_constant, .type "type", pCon, ⟨rd_con, ga_con⟩, ⟨at_con, ⟨_, rc_con⟩, fi_con⟩, fnr⟩
  have D_law_deal : Df P w K mg base 1 "_law_deal" ["_law_script", "_law_base"] (spDealB K) := ⟨f_law_deal, _, ok_law_dealB F_law_deal T, PySem.W.mg_of X G a_law_deal, k_law_deal, b_law_deal⟩
  have D_law_draw : Df P w K mg base 1 "_law_draw" ["_law_deal_here", "_law_many"] spDraw := ⟨f_law_draw, _, ok_law_draw F_law_draw T, PySem.W.mg_of X G a_law_draw, k_law_draw, b_law_draw⟩
  have D_law_twos : Df P w K mg base 1 "_law_twos" ["_law_number"] spTw := ⟨f_law_twos, _, ok_law_twos F_law_twos, PySem.W.mg_of X G a_law_twos, k_law_twos, b_law_twos⟩
  have D_law_vectors : Df P w K mg base 4 "_law_vectors" ["_law_many", "_law_wide"] spVec12 := ⟨f_law_vectors, _, ok_law_vec12 (ok_law_vectors F_law_vectors T D_law_twos (PySem.W.mg_of X G a_law_vectors) k_law_vectors b_law_vectors), PySem.W.mg_of X G a_law_vectors, k_law_vectors, b_law_vectors⟩
  have D_law_spots : Df P w K mg base 5 "_law_spots" ["_law_depths", "_law_wide"] spSpots := ⟨f_law_spots, _, ok_law_spots F_law_spots T D_law_vectors, PySem.W.mg_of X G a_law_spots, k_law_spots, b_law_spots⟩
  have D_law_class : Df P w K mg base 1 "_law_class" ["_law_spot", "_law_depths"] spClass := ⟨f_law_class, _, ok_law_class F_law_class T, PySem.W.mg_of X G a_law_class, k_law_class, b_law_class⟩
  have D_law_made : Df P w K mg base 5 "_law_made" ["_law_deal_here", "_law_depths", "_law_wide"] spMade := ⟨f_law_made, _, ok_law_made F_law_made T gs D_law_vectors D_law_draw D_law_twos, PySem.W.mg_of X G a_law_made, k_law_made, b_law_made⟩
  have D_law_row : Df P w K mg base 1 "_law_row" ["_law_top", "_law_many"] spBin := ⟨f_law_row, _, ok_law_row F_law_row T, PySem.W.mg_of X G a_law_row, k_law_row, b_law_row⟩
  have D_law_sum : Df P w K mg base 2 "_law_sum" ["_law_factors", "_law_variables"] spSumX := ⟨f_law_sum, _, ok_law_sumX F_law_sum T D_law_row, PySem.W.mg_of X G a_law_sum, k_law_sum, b_law_sum⟩
  have D_law_at : Df P w K mg base 3 "_law_at" ["_law_made_here", "_law_depths", "_law_spot", "_law_wide"] spAtX := ⟨f_law_at, _, ok_law_atX F_law_at D_law_class D_law_sum, PySem.W.mg_of X G a_law_at, k_law_at, b_law_at⟩
  have D_law_entries : Df P w K mg base 6 "_law_entries" ["_law_made_here", "_law_depths", "_law_wide"] spEntriesX := ⟨f_law_entries, _, ok_law_entriesX F_law_entries D_law_spots D_law_at, PySem.W.mg_of X G a_law_entries, k_law_entries, b_law_entries⟩
  have D_law_entries_at : Df P w K mg base 6 "_law_entries_at" ["_law_made_here", "_law_depths", "_law_other", "_law_wide"] spEntAt := ⟨f_law_entries_at, _, ok_law_entries_at F_law_entries_at D_law_spots D_law_at, PySem.W.mg_of X G a_law_entries_at, k_law_entries_at, b_law_entries_at⟩
  have D_law_shape : Df P w K mg base 2 "_law_shape" ["_law_deal_here"] spShp := ⟨f_law_shape, _, ok_law_shape F_law_shape D_law_draw, PySem.W.mg_of X G a_law_shape, k_law_shape, b_law_shape⟩
  have D_law_newton : Df P w K mg base 5 "_law_newton" ["_law_depths", "_law_wide", "_law_entries_here"] (spNt K) := ⟨f_law_newton, _, ok_law_newton F_law_newton T gs D_law_vectors D_law_sum, PySem.W.mg_of X G a_law_newton, k_law_newton, b_law_newton⟩
  have D_law_copied : Df P w K mg base 1 "_law_copied" ["_law_made_here"] spCopied := ⟨f_law_copied, _, ok_law_copied F_law_copied T (PySem.W.mg_none_of X G z_dict), PySem.W.mg_of X G a_law_copied, k_law_copied, b_law_copied⟩
  have D_law_changed : Df P w K mg base 5 "_law_changed" ["_law_deal_here", "_law_made_here", "_law_depths", "_law_wide"] spChg := ⟨f_law_changed, _, ok_law_changed F_law_changed T gs D_law_vectors D_law_draw D_law_twos D_law_copied, PySem.W.mg_of X G a_law_changed, k_law_changed, b_law_changed⟩
  have D_law_functions : Df P w K mg base 7 "_law_functions" ["_law_deal_here", "_law_wide", "_law_depths"] spFns := ⟨f_law_functions, _, ok_law_functions F_law_functions T D_law_draw D_law_made D_law_newton D_law_entries_at D_law_changed D_law_spots, PySem.W.mg_of X G a_law_functions, k_law_functions, b_law_functions⟩
  exact ok_law F_law T (PySem.W.mg_none_of X G z_min) (PySem.W.mg_none_of X G z_repr) CT NM TV EB CB D_law_deal D_law_shape D_law_functions D_law_entries D_law_entries_at
end My

set_option Elab.async false
set_option linter.all false
set_option maxRecDepth 100000
set_option maxHeartbeats 1000000
namespace My
open PySem L2 MyR
theorem walk {l : PySem.W.OpenLaw} {q : Program} {loose : List Str} {XP : (Str → Option Value) → Heap → Prop} {YP : World → Heap → Prop} {d : DefRec} {K : Params → PySem.W.Frag} (hn : l.most = some 63) (hdf : d.params.defaults = [])
    (hY : ∀ (w : World) (h : Heap), YP w h → (K w.params).In h)
    (F : ∀ (w : World) (mg : Str → Option Value) (fa : Addr) (h : Heap), (K w.params).In h → h.Ns mainGlobals mg → mg d.name = some (.ref fa) →
      ∃ fd : FuncData, (∀ (s : Shared) (u : Value), BindsTo s fd ⟨[u], []⟩ [("_law_script", u)]) ∧ ∀ base : Heap, (K w.params).In base → base.Ns mainGlobals mg → FnOkG l.prog w (K w.params) mg base CX0 11 fa fd ["_law_script"] (spLaw (K w.params))) :
    PySem.W.WalkO q loose XP YP l.row.toRowW d [] (fun f vs => PySem.call f vs) :=
  walk_ofG (n := 63) (k := 11) (x := "_law_script") (CX := fun _ => CX0) (sp := fun w => spLaw (K w.params)) hn (by decide) hdf ⟨rfl, by decide, by decide⟩ hY F (fun _ _ a ns hl _ hS => ⟨a, ns, rfl, hS, hl, fun _ => rfl⟩) fun _ _ _ _ _ z => z
end My
open PySem PySem.W PyProof.Rows
set_option pp.maxSteps 300 in
set_option maxRecDepth 100000 in
set_option maxHeartbeats 0 in
theorem PySem.Challenge.cw_lowsure_k24_tables_that_are_equal_holds : PySem.Challenge.rw_lowsure_k24_tables_that_are_equal.Holds := by
  w_on; o_law; k_head; (case hw => w_witness2)
  k_fill
  refine My.walk (l := PySem.Challenge.rw_lowsure_k24_tables_that_are_equal) rfl rfl (fun w h Y => PySem.W.kIn_of Y) ?F
  case F =>
    intro w mg fa h KX G hmg
    refine' My.all_mk KX G hmg ?a_twos ?l_twos ?c_twos ?k_twos ?a_shares ?l_shares ?c_shares ?k_shares ?a_vector_list ?l_vector_list ?c_vector_list ?k_vector_list ?a_count_vectors ?l_count_vectors ?c_count_vectors ?k_count_vectors ?a_residues ?l_residues ?c_residues ?k_residues ?a_point_list ?l_point_list ?c_point_list ?k_point_list ?a_count_points ?l_count_points ?c_count_points ?k_count_points ?a_greater_loss ?l_greater_loss ?c_greater_loss ?k_greater_loss ?a_inverse ?l_inverse ?c_inverse ?k_inverse ?a_odd_inverses ?l_odd_inverses ?c_odd_inverses ?k_odd_inverses ?a_falling ?l_falling ?c_falling ?k_falling ?a_evaluated ?l_evaluated ?c_evaluated ?k_evaluated ?a_differences ?l_differences ?c_differences ?k_differences ?a_classes_of ?l_classes_of ?c_classes_of ?k_classes_of ?a_law_deal ?l_law_deal ?c_law_deal ?k_law_deal ?a_law_draw ?l_law_draw ?c_law_draw ?k_law_draw ?a_law_twos ?l_law_twos ?c_law_twos ?k_law_twos ?a_law_vectors ?l_law_vectors ?c_law_vectors ?k_law_vectors ?a_law_spots ?l_law_spots ?c_law_spots ?k_law_spots ?a_law_class ?l_law_class ?c_law_class ?k_law_class ?a_law_made ?l_law_made ?c_law_made ?k_law_made ?a_law_sum ?l_law_sum ?c_law_sum ?k_law_sum ?a_law_row ?l_law_row ?c_law_row ?k_law_row ?a_law_at ?l_law_at ?c_law_at ?k_law_at ?a_law_entries ?l_law_entries ?c_law_entries ?k_law_entries ?a_law_shape ?l_law_shape ?c_law_shape ?k_law_shape ?a_law_copied ?l_law_copied ?c_law_copied ?k_law_copied ?a_law_changed ?l_law_changed ?c_law_changed ?k_law_changed ?a_law_functions ?l_law_functions ?c_law_functions ?k_law_functions ?a_law_newton ?l_law_newton ?c_law_newton ?k_law_newton ?a_law_entries_at ?l_law_entries_at ?c_law_entries_at ?k_law_entries_at ?a_law ?l_law ?c_law ?k_law ?a_Shape ?a_Table ?rd_con ?ga_con ?at_con ?rc_con ?fi_con ?m_Shape_init ?l_Shape_init ?c_Shape_init ?k_Shape_init ?i_Shape_init ?m_Table_init ?l_Table_init ?c_Table_init ?k_Table_init ?i_Table_init ?l_Table_constant ?c_Table_constant ?k_Table_constant ?m_Table_eq ?l_Table_eq ?c_Table_eq ?k_Table_eq ?i_Table_eq ?m_Shape_in_rows ?l_Shape_in_rows ?c_Shape_in_rows ?k_Shape_in_rows ?i_Shape_in_rows ?m_Shape_spread ?l_Shape_spread ?c_Shape_spread ?k_Shape_spread ?i_Shape_spread ?m_Shape_first_wrong ?l_Shape_first_wrong ?c_Shape_first_wrong ?k_Shape_first_wrong ?i_Shape_first_wrong ?m_Shape_divided ?l_Shape_divided ?c_Shape_divided ?k_Shape_divided ?i_Shape_divided ?m_Shape_coefficients ?l_Shape_coefficients ?c_Shape_coefficients ?k_Shape_coefficients ?i_Shape_coefficients ?m_Table_worth ?l_Table_worth ?c_Table_worth ?k_Table_worth ?i_Table_worth ?m_Table_listed ?l_Table_listed ?c_Table_listed ?k_Table_listed ?i_Table_listed ?m_Table_is_same ?l_Table_is_same ?c_Table_is_same ?k_Table_is_same ?i_Table_is_same ?ne_Table ?st_Table ?si_Table ?ss_Table ?sn_Table ?ca_Table ?cm_Table ?ty_Table ?sb_Table ?cls_Table ?cn ?ct ?pg_Shape ?hd_Shape ?po_Shape ?sa_Shape ?mk_Shape ?kc_Shape ?pg_Table ?hd_Table ?po_Table ?sa_Table ?mk_Table ?kc_Table ?ns_bits ?ns_mask ?ns_twos ?ns_widths ?ns_inverses ?nt_loss ?nt_bits ?nt_entries ?nt_inputs ?nt_most ?nt_classes ?z_len ?z_max ?z_list ?z_tuple ?z_reversed ?z_range ?z_int ?z_str ?z_bool ?z_isinstance ?z_all ?z_enumerate ?z_zip ?z_sum ?z_min ?z_repr ?z_dict
    (case a_twos => k_is)
    (case l_twos => k_is)
    (case c_twos => k_is)
    (case k_twos => k_is)
    (case a_shares => k_is)
    (case l_shares => k_is)
    (case c_shares => k_is)
    (case k_shares => k_is)
    (case a_vector_list => k_is)
    (case l_vector_list => k_is)
    (case c_vector_list => k_is)
    (case k_vector_list => k_is)
    (case a_count_vectors => k_is)
    (case l_count_vectors => k_is)
    (case c_count_vectors => k_is)
    (case k_count_vectors => k_is)
    (case a_residues => k_is)
    (case l_residues => k_is)
    (case c_residues => k_is)
    (case k_residues => k_is)
    (case a_point_list => k_is)
    (case l_point_list => k_is)
    (case c_point_list => k_is)
    (case k_point_list => k_is)
    (case a_count_points => k_is)
    (case l_count_points => k_is)
    (case c_count_points => k_is)
    (case k_count_points => k_is)
    (case a_greater_loss => k_is)
    (case l_greater_loss => k_is)
    (case c_greater_loss => k_is)
    (case k_greater_loss => k_is)
    (case a_inverse => k_is)
    (case l_inverse => k_is)
    (case c_inverse => k_is)
    (case k_inverse => k_is)
    (case a_odd_inverses => k_is)
    (case l_odd_inverses => k_is)
    (case c_odd_inverses => k_is)
    (case k_odd_inverses => k_is)
    (case a_falling => k_is)
    (case l_falling => k_is)
    (case c_falling => k_is)
    (case k_falling => k_is)
    (case a_evaluated => k_is)
    (case l_evaluated => k_is)
    (case c_evaluated => k_is)
    (case k_evaluated => k_is)
    (case a_differences => k_is)
    (case l_differences => k_is)
    (case c_differences => k_is)
    (case k_differences => k_is)
    (case a_classes_of => k_is)
    (case l_classes_of => k_is)
    (case c_classes_of => k_is)
    (case k_classes_of => k_is)
    (case a_law_deal => k_is)
    (case l_law_deal => k_is)
    (case c_law_deal => k_is)
    (case k_law_deal => k_is)
    (case a_law_draw => k_is)
    (case l_law_draw => k_is)
    (case c_law_draw => k_is)
    (case k_law_draw => k_is)
    (case a_law_twos => k_is)
    (case l_law_twos => k_is)
    (case c_law_twos => k_is)
    (case k_law_twos => k_is)
    (case a_law_vectors => k_is)
    (case l_law_vectors => k_is)
    (case c_law_vectors => k_is)
    (case k_law_vectors => k_is)
    (case a_law_spots => k_is)
    (case l_law_spots => k_is)
    (case c_law_spots => k_is)
    (case k_law_spots => k_is)
    (case a_law_class => k_is)
    (case l_law_class => k_is)
    (case c_law_class => k_is)
    (case k_law_class => k_is)
    (case a_law_made => k_is)
    (case l_law_made => k_is)
    (case c_law_made => k_is)
    (case k_law_made => k_is)
    (case a_law_sum => k_is)
    (case l_law_sum => k_is)
    (case c_law_sum => k_is)
    (case k_law_sum => k_is)
    (case a_law_row => k_is)
    (case l_law_row => k_is)
    (case c_law_row => k_is)
    (case k_law_row => k_is)
    (case a_law_at => k_is)
    (case l_law_at => k_is)
    (case c_law_at => k_is)
    (case k_law_at => k_is)
    (case a_law_entries => k_is)
    (case l_law_entries => k_is)
    (case c_law_entries => k_is)
    (case k_law_entries => k_is)
    (case a_law_shape => k_is)
    (case l_law_shape => k_is)
    (case c_law_shape => k_is)
    (case k_law_shape => k_is)
    (case a_law_copied => k_is)
    (case l_law_copied => k_is)
    (case c_law_copied => k_is)
    (case k_law_copied => k_is)
    (case a_law_changed => k_is)
    (case l_law_changed => k_is)
    (case c_law_changed => k_is)
    (case k_law_changed => k_is)
    (case a_law_functions => k_is)
    (case l_law_functions => k_is)
    (case c_law_functions => k_is)
    (case k_law_functions => k_is)
    (case a_law_newton => k_is)
    (case l_law_newton => k_is)
    (case c_law_newton => k_is)
    (case k_law_newton => k_is)
    (case a_law_entries_at => k_is)
    (case l_law_entries_at => k_is)
    (case c_law_entries_at => k_is)
    (case k_law_entries_at => k_is)
    (case a_law => k_is)
    (case l_law => k_is)
    (case c_law => k_is)
    (case k_law => k_is)
    (case a_Shape => k_is)
    (case a_Table => k_is)
    (case rd_con => k_is)
    (case ga_con => k_is)
    (case at_con => k_is)
    (case rc_con => k_is)
    (case fi_con => k_is)
    (case m_Shape_init => k_is)
    (case l_Shape_init => k_is)
    (case c_Shape_init => k_is)
    (case k_Shape_init => k_is)
    (case i_Shape_init => k_is)
    (case m_Table_init => k_is)
    (case l_Table_init => k_is)
    (case c_Table_init => k_is)
    (case k_Table_init => k_is)
    (case i_Table_init => k_is)
    (case l_Table_constant => k_is)
    (case c_Table_constant => k_is)
    (case k_Table_constant => k_is)
    (case m_Table_eq => k_is)
    (case l_Table_eq => k_is)
    (case c_Table_eq => k_is)
    (case k_Table_eq => k_is)
    (case i_Table_eq => k_is)
    (case m_Shape_in_rows => k_is)
    (case l_Shape_in_rows => k_is)
    (case c_Shape_in_rows => k_is)
    (case k_Shape_in_rows => k_is)
    (case i_Shape_in_rows => k_is)
    (case m_Shape_spread => k_is)
    (case l_Shape_spread => k_is)
    (case c_Shape_spread => k_is)
    (case k_Shape_spread => k_is)
    (case i_Shape_spread => k_is)
    (case m_Shape_first_wrong => k_is)
    (case l_Shape_first_wrong => k_is)
    (case c_Shape_first_wrong => k_is)
    (case k_Shape_first_wrong => k_is)
    (case i_Shape_first_wrong => k_is)
    (case m_Shape_divided => k_is)
    (case l_Shape_divided => k_is)
    (case c_Shape_divided => k_is)
    (case k_Shape_divided => k_is)
    (case i_Shape_divided => k_is)
    (case m_Shape_coefficients => k_is)
    (case l_Shape_coefficients => k_is)
    (case c_Shape_coefficients => k_is)
    (case k_Shape_coefficients => k_is)
    (case i_Shape_coefficients => k_is)
    (case m_Table_worth => k_is)
    (case l_Table_worth => k_is)
    (case c_Table_worth => k_is)
    (case k_Table_worth => k_is)
    (case i_Table_worth => k_is)
    (case m_Table_listed => k_is)
    (case l_Table_listed => k_is)
    (case c_Table_listed => k_is)
    (case k_Table_listed => k_is)
    (case i_Table_listed => k_is)
    (case m_Table_is_same => k_is)
    (case l_Table_is_same => k_is)
    (case c_Table_is_same => k_is)
    (case k_Table_is_same => k_is)
    (case i_Table_is_same => k_is)
    (case ne_Table => k_is)
    (case st_Table => k_is)
    (case si_Table => k_is)
    (case ss_Table => k_is)
    (case sn_Table => k_is)
    (case ca_Table => k_is)
    (case cm_Table => k_is)
    (case ty_Table => k_is)
    (case sb_Table => k_is)
    (case cls_Table => k_is)
    (case cn => k_is)
    (case ct => k_is)
    (case pg_Shape => k_is)
    (case hd_Shape => k_is)
    (case po_Shape => k_is)
    (case sa_Shape => k_is)
    (case mk_Shape => k_is)
    (case kc_Shape => k_is)
    (case pg_Table => k_is)
    (case hd_Table => k_is)
    (case po_Table => k_is)
    (case sa_Table => k_is)
    (case mk_Table => k_is)
    (case kc_Table => k_is)
    (case ns_bits => k_is)
    (case ns_mask => k_is)
    (case ns_twos => k_is)
    (case ns_widths => k_is)
    (case ns_inverses => k_is)
    (case nt_loss => k_is)
    (case nt_bits => k_is)
    (case nt_entries => k_is)
    (case nt_inputs => k_is)
    (case nt_most => k_is)
    (case nt_classes => k_is)
    (case z_len => k_is)
    (case z_max => k_is)
    (case z_list => k_is)
    (case z_tuple => k_is)
    (case z_reversed => k_is)
    (case z_range => k_is)
    (case z_int => k_is)
    (case z_str => k_is)
    (case z_bool => k_is)
    (case z_isinstance => k_is)
    (case z_all => k_is)
    (case z_enumerate => k_is)
    (case z_zip => k_is)
    (case z_sum => k_is)
    (case z_min => k_is)
    (case z_repr => k_is)
    (case z_dict => k_is)
