import PyProof.Rows.All
import Wide.All
import OpenK.AllK
import Wide.FinOn
import PyProof.ReprRoads
import PyProof.ReprReads
import PyProof.CallFns
import HandS.ForMost
import HandS.Ends
import HandS.Rev
import HandS.Wide
import PySem.Challenge.RW_lowsure_k17_vectors_and_points
import HandS.Walk
import KE.GoesMore
import KE.GoesEnum
import KE.GoesZip
import HandS.IsInst
import HandS.More
import HandS.WideBits
import HandS.GenList
import HandS.Words
import HandS.TupAny
import HandS.Style
import HandS.Star
import HandS.Deep
set_option Elab.async false
set_option linter.all false
set_option maxRecDepth 100000
set_option maxHeartbeats 1000000
namespace MyR
open PySem PySem.Spec PyProof.Rows L2
/-! ### promises kept where no repr is on its way -/
section
variable {P : Program} {w : World} {K : PySem.W.Frag} {mg : Str → Option Value} {base : Heap} {CX : CXT} {k : Nat} {f : Addr} {fd : FuncData} {ps : List Str} {sp : Sp}
structure FnOkG (P : Program) (w : World) (K : PySem.W.Frag) (mg : Str → Option Value) (base : Heap) (CX : CXT) (k : Nat) (f : Addr) (fd : FuncData) (ps : List Str) (sp : Sp) : Prop where
  len : ∀ vs H Q E, sp vs H Q E → vs.length = ps.length
  run : ∀ (A : Around), A.guards = some [] → ∀ (outer : List Env) (s : Shared) (H : Hp) (args : Args) (us : List Value) (vs : List V) (Q : VK) (E : XK), Room k A → Env0 P w K mg base A outer s H → BindsTo s fd args (ps.zip us) → Vals vs us → sp vs H Q E →
    codeAny (model P w) A (.call (.ref f) args) (CR CX outer P w H s Q E) s
theorem FnOkG.of (F : FnOk P w K mg base CX k f fd ps sp) : FnOkG P w K mg base CX k f fd ps sp := ⟨F.len, fun A _ => F.run A⟩
theorem deeper_guards {A : Around} {env : Env} (h : A.guards = some []) : (A.deeper env).guards = some [] := h
/-- a def by its body, as Fun.ok; the body knows that no repr is on its way -/
theorem okG {x qual : Str} {st : Stmt} {N : List Str} (F : Fun K x qual st f fd) (S : FnScope N ps (defScope st)) (len : ∀ vs H Q E, sp vs H Q E → vs.length = ps.length)
    (body : ∀ (cdv : Value) (A : Around), A.guards = some [] → ∀ (outer : List Env) (s : Shared) (H : Hp) (vs : List V) (Q : VK) (E : XK), Room k (A.deeper (envOfC qual (defScope st) s.heap.objs.size f cdv)) → sp vs H Q E →
      ∃ t, PSs (cxOf CX0 P w K mg base N qual (defScope st) f cdv A outer s H E).nox (defBody st) t ∧ t { nx := fun _ H' => Q .non H', rt := Q } (start N vs) H) : FnOkG P w K mg base CX0 (k + 1) f fd ps sp where
  len := len
  run A hg outer s H args us vs Q E room env bind vals want := by
    obtain ⟨oc, od, kV, doc, pm, an, cdv, ct, osl, rfl, at_, code⟩ := F.ex
    obtain ⟨t, derived, reading⟩ := body cdv A hg outer s H vs Q E (room.deeper _) want
    have held : ∀ b o, base.get? b = some o → s.heap.get? b = some o := fun b o e => (env.bs b o e).1
    have written : K.In s.heap := env.mod.kin.keeps held
    have local_ : ∀ y ∈ ps.zip us, (defScope st).names.lookup y.1 = some .local ∨ ((defScope st).names.lookup y.1 = some .cell ∧ ((cellsFrom (s.heap.objs.size + 1) (defScope st).names []).lookup y.1).isSome = true) := by
      rintro ⟨n, v⟩ hy
      exact (S.par n (List.of_mem_zip hy).1).imp id fun q => ⟨q, PySem.W.cellsFrom_some _ _ _ (.inl q)⟩
    refine codeAny_call_function room.depth (written _ _ at_) rfl S.co S.gen rfl (PySem.W.codeRec_of written code) (bind _ _ _ _ ?_)
    refine wpAny_newFunctionEnv_cells S.kind local_ fun e he s1 entered => ?_
    subst he
    refine ⟨(env.mod.nolimit.keeps held).keeps entered.toInCall.keep, codeAny_func ?_⟩
    refine wpAny_mono (derived.nox.run [] s1 (start N vs) H _ (inv_start S room.hd env (len _ _ _ _ want) vals entered) reading) (fun fl s' hs => ?_) fun e s' hs => hs
    cases fl with
    | brk => exact (let ⟨_, _, _, z⟩ := hs; z).elim
    | cont => exact (let ⟨_, _, _, z⟩ := hs; z).elim
    | ret u =>
      obtain ⟨v, _, H', J, rv, q⟩ := hs
      exact ⟨v, H', J.os, J.bare, J.base, J.hok, rv, q⟩
    | next =>
      obtain ⟨_, H', J, q⟩ := hs
      exact ⟨.non, H', J.os, J.bare, J.base, J.hok, rfl, q⟩
end
section
variable {X : Cx} {CX : CXT} {k : Nat} {f : Addr} {fd : FuncData} {ps : List Str} {sp : Sp} {ds : List Value} {dvs : List V} {E : XK} {x : Str} {p pos : Pos} {e : Expr} {es : List Expr} {t : TA}
/-- f(e, ..) of such a def -/
theorem pe_callG (F : FnOkG X.prog X.w X.K X.mg X.base CX k f fd ps sp) (hgd : X.A.guards = some []) (hr : Room k X.A) (hg : Gl X x) (hm : X.mg x = some (.ref f)) (hk : PySem.W.keepIn X.K (.ref f) = true) (hb : Binds X.K fd ps ds) (hd : Vals dvs ds) (hx : Passes CX X E)
    (ha : PA X (e :: es) t) (hdb : (x == ("__debug__" : Str)) = false := by decide) (he : starEach (e :: es) X.env = (false, eval e X.env) :: starEach es X.env := by rfl) (hpl : (backTo pos (starEach es X.env)).any (·.1) = false := by rfl) :
    PE X (.Call (.Name x p) (e :: es) [] pos) (tCall sp dvs E t) where
  run pins s σ H Q I h := by
    refine wpAny_Call_Name_kw (ld_glob I hg hm (PySem.W.callWith_K (h₀ := X.base) I.ok.mod.kin hk (thn (ha.run pos pins s σ H _ I h) fun us s1 got => ?_) he hpl) hdb)
    obtain ⟨vs, H1, I1, r, q⟩ := got
    refine ⟨I1.kIn, wpAny_call ?_⟩
    have long : (us ++ ds).length = ps.length := by rw [← (r.append hd).length]; exact F.len _ _ _ _ q
    refine codeAny_mono (F.run X.A hgd X.stack s1 H1 ⟨us, []⟩ (us ++ ds) (vs ++ dvs) Q E hr I1.env0 (hb s1 us I1.kIn long) (r.append hd) q) fun res s' hq => ?_
    match res, hq with
    | .error e, hq => exact hx pins σ H1 s1 e s' I1 hq
    | .ok (.ret u), hq => exact I1.after hq
/-- repr of None, and of lists and tuples of data at any depth -/
def rReprD (K : PySem.W.Frag) : List V → Hp → VK → Prop := fun xs H Q => (xs = [.non] ∧ Q (.str "None") H) ∨
  ∃ (a : Addr) (d : PyData), xs = [.ref a] ∧ Dp K H (.ref a) d ∧ d.showable = true ∧ d.hasDict = false ∧ d.depth ≤ 60 ∧ d.shown.length ≤ sizeLine ∧ Q (.str d.shown) H
theorem call_reprD (hgd : X.A.guards = some []) (hu : X.A.units + 64 < cLine) : CallR X (.builtin "repr") (rReprD X.K) := by
  intro pins s σ H xs us Q I r h
  rcases h with ⟨rfl, q⟩ | ⟨a, d, rfl, hd, sh, nd, deep, long, q⟩
  · obtain ⟨u, rfl, ru⟩ := vals1 r
    obtain rfl : u = Value.none := ru
    exact PySem.P.repr_of_none ⟨.str "None", H, I.tok _, ⟨_, rfl⟩, q⟩
  · obtain ⟨u, rfl, ru⟩ := vals1 r
    obtain rfl : u = Value.ref a := ru
    obtain ⟨as, rd⟩ := Dp.reads I d _ _ hd rfl
    exact repr_of_reads' rd sh (fun e => by rw [nd] at e; cases e) hgd (by omega) (fun _ _ e => e) (fun h' u tk keep => ⟨.str d.shown, H, I.kept (t' := tk) keep, ⟨u, rfl⟩, q⟩) long
end
end MyR

set_option Elab.async false
set_option linter.all false
set_option maxRecDepth 100000
set_option maxHeartbeats 1000000
namespace MyR
open PySem PySem.Spec PyProof.Rows L2
/-! ### the end of a law whose def knows that no repr is on its way -/
section
variable {P : Program} {w : World} {K : PySem.W.Frag} {mg mb : Str → Option Value} {a : Addr} {s : Shared} {vs : List Value} {ns : List Int}
/-- the heap that the law begins with: the script alone, or nothing where the script is the module's own -/
theorem first_heap (written : K.In s.heap) (script : s.heap.get? a = some { cls := .type "list", data := .seq vs.toArray }) (whole : IntsAre vs ns) (fits : ns.length ≤ sizeLine) :
    ∃ H : Hp, Only H ∧ SqL K H a (ns.map V.int) ∧ HOk P w H s.heap ∧ ∀ b u, H b = some u → b = a ∧ K.lookup a = none ∧ u = .frz { cls := .type "list", data := .seq vs.toArray } (.lst (ns.map V.int)) := by
  have rv := vals_ints whole
  cases found : K.lookup a with
  | some o =>
    have same := written a o found
    rw [script] at same
    obtain rfl := Option.some.inj same
    refine ⟨fun _ => none, fun _ => .inl rfl, .inr ⟨_, vs.toArray, _, found, rfl, rfl, rfl, by rw [List.size_toArray, whole.length]; exact fits, by simpa using rv⟩, fun b u e => ?_, fun b u e => ?_⟩
    · exact absurd (show (none : Option HO) = some u from e) (by simp)
    · exact absurd (show (none : Option HO) = some u from e) (by simp)
  | none =>
    let o : Obj := { cls := .type "list", data := .seq vs.toArray }
    let one : HO := .frz o (.lst (ns.map V.int))
    have only : ∀ b u, (if b = a then some one else none : Option HO) = some u → b = a ∧ u = one := fun b u e => by
      split at e
      · exact ⟨by assumption, (Option.some.inj e).symm⟩
      · cases e
    refine ⟨fun b => if b = a then some one else none, fun b => ?_, .inl (.inr ⟨o, if_pos rfl⟩), fun b u e => ?_, fun b u e => ⟨(only b u e).1, rfl, (only b u e).2⟩⟩
    · by_cases hb : b = a
      · exact .inr ⟨_, _, if_pos hb⟩
      · exact .inl (if_neg hb)
    · obtain ⟨rfl, rfl⟩ := only b u e
      exact ⟨script, by rw [List.length_map]; exact fits, vs, _, rv, script⟩
variable {CX : CXT} {k : Nat} {fa : Addr} {fd : FuncData} {x : Str} {sp : Sp}
theorem law_callG (written : K.In s.heap) (names : s.heap.Ns mainGlobals mg) (blt : s.heap.Ns builtinsNs mb) (bltIs : ∀ x : Str, x ≠ "__name__" → mb x = bootBuiltins x) (free : s.heap.NoLimit) (noGens : s.gens = #[])
    (script : s.heap.get? a = some { cls := .type "list", data := .seq vs.toArray }) (whole : IntsAre vs ns) (fits : ns.length ≤ sizeLine) (room : Room k callerA)
    (F : ∀ base : Heap, K.In base → base.Ns mainGlobals mg → FnOkG P w K mg base CX k fa fd [x] sp) (bind : ∀ (s : Shared) (u : Value), BindsTo s fd ⟨[u], []⟩ [(x, u)])
    (want : ∀ H : Hp, Only H → SqL K H a (ns.map V.int) → sp [.ref a] H (fun v _ => v = .bl true) fun _ _ _ => False) (quiet : ∀ H e s', CX [] H s (fun _ _ _ => False) e s' → False) :
    codeAny (model P w) callerA (.call (.ref fa) ⟨[.ref a], []⟩) (fun r s' => r = .ok (.ret (.bool true)) ∧ OldK s.heap s'.heap ∧ s'.os = s.os ∧ AllBare s'.gens) s := by
  obtain ⟨H, only, sq, hok, known⟩ := first_heap (P := P) (w := w) written script whole fits
  -- what is no dict's or the written part's stands with the script hidden
  have hid : ∀ {b : Addr} {o : Obj}, s.heap.get? b = some o → (b = a → False) → (hidT s.heap H).get? b = some o := fun {b o} e nb => hidT_get e (by
    cases q : H b with
    | none => rfl
    | some u => exact (nb (known b u q).1).elim)
  have dicts : ∀ {b : Addr} {m : Str → Option Value}, s.heap.Ns b m → (hidT s.heap H).Ns b m := fun {b m} n => by
    obtain ⟨o, es, ep, e, d, r⟩ := n
    refine ⟨o, es, ep, hid e (fun z => ?_), d, r⟩
    subst z
    rw [script] at e
    obtain rfl := Option.some.inj e
    exact absurd (show Data.seq vs.toArray _ = Data.dict es ep from d) (by simp)
  have kin : K.In (hidT s.heap H) := fun b o e => hidT_get (written b o e) (by
    cases q : H b with
    | none => rfl
    | some u =>
      obtain ⟨rfl, no, _⟩ := known b u q
      rw [no] at e
      cases e)
  have mod : Mod K mg (hidT s.heap H) := ⟨kin, dicts names, ⟨mb, dicts blt, bltIs⟩, let ⟨mc, h1, h2⟩ := free; ⟨mc, dicts h1, h2⟩⟩
  have env : Env0 P w K mg (hidT s.heap H) callerA [] s H := ⟨rfl, mod, fun b o e => of_hidT e, Nat.le_of_eq (hidT_size _ _), trivial, fun b hb => (List.not_mem_nil (show b ∈ ([] : List Addr) from hb)).elim, hok, .of_eq noGens⟩
  refine codeAny_mono ((F _ kin (dicts names)).run callerA rfl [] s H ⟨[.ref a], []⟩ [.ref a] [.ref a] _ _ room env (bind s (.ref a)) (.cons rfl .nil) (want H only sq)) fun r s' h => ?_
  match r, h with
  | .error e, h => exact (quiet H e s' h).elim
  | .ok (.ret u), h =>
    obtain ⟨v, H', os, bare, un, hok', r', q⟩ := h
    obtain rfl : v = .bl true := q
    obtain rfl : u = Value.bool true := r'
    refine ⟨rfl, OldK.of_keep fun b o e => ?_, os, bare⟩
    cases q : H b with
    | none => exact un.keep b o e q (fun z => nomatch z) (by simp)
    | some u =>
      obtain ⟨rfl, _, rfl⟩ := known b u q
      have e2 := (hok' _ _ (un.frzs _ _ _ q)).1
      rw [script] at e
      rw [← Option.some.inj e]
      exact e2
end
theorem walk_ofG {l : PySem.W.OpenLaw} {n k : Nat} {q : Program} {loose : List Str} {XP : (Str → Option Value) → Heap → Prop} {YP : World → Heap → Prop} {d : DefRec} {K : Params → PySem.W.Frag} {CX : World → CXT} {sp : World → Sp} {x : Str}
    (most : l.most = some n) (line : n ≤ sizeLine) (plain : d.params.defaults = []) (room : Room k callerA) (top : ∀ (w : World) (h : Heap), YP w h → (K w.params).In h)
    (F : ∀ (w : World) (mg : Str → Option Value) (fa : Addr) (h : Heap), (K w.params).In h → h.Ns mainGlobals mg → mg d.name = some (.ref fa) →
      ∃ fd : FuncData, (∀ (s : Shared) (u : Value), BindsTo s fd ⟨[u], []⟩ [(x, u)]) ∧ ∀ base : Heap, (K w.params).In base → base.Ns mainGlobals mg → FnOkG l.prog w (K w.params) mg base (CX w) k fa fd [x] (sp w))
    (want : ∀ (w : World) (H : Hp) (a : Addr) (ns : List Int), ns.length ≤ n → Only H → SqL (K w.params) H a (ns.map V.int) → sp w [.ref a] H (fun v _ => v = .bl true) fun _ _ _ => False)
    (quiet : ∀ (w : World) (H : Hp) (s : Shared) (e : Value) (s' : Shared), CX w [] H s (fun _ _ _ => False) e s' → False) : PySem.W.WalkO q loose XP YP l.row.toRowW d [] (fun f vs => PySem.call f vs) :=
  Att.attach_call most plain fun w s₀ s₁ mg mb fa o pm cd doc a vs ns G Y _ _ _ hmg hobj hints hlen hgen => by
    obtain ⟨fd, bind, hF⟩ := F w mg fa _ (top w _ Y) G.T.g hmg
    exact law_callG (top w _ Y) G.T.g G.T.b G.T.builtins G.T.nolimit hgen hobj hints (Nat.le_trans hlen line) room hF bind (fun H only sq => want w H a ns hlen only sq) fun H e s' => quiet w H s₁ e s'
end MyR

set_option Elab.async false
set_option linter.all false
set_option maxRecDepth 100000
set_option maxHeartbeats 1000000
namespace MyR
open PySem PySem.Spec PyProof.Rows L2 RT
section
variable {prog : Program} {w : World} {A : Around} {E : Value → Shared → Prop} {s : Shared}
theorem extend_rev {R : Result → Shared → Prop} {S it l : Addr} {items : Array Value} {res : Value} {c0 : Nat} (hh : A.handled = none) (hit : s.heap.IsRevIter it l ((items.size : Int) - 1)) (hl : s.heap.IsList l items) (hne : l ≠ it) (hSi : S ≠ it) (hSl : S ≠ l) (hn : items.size ≤ sizeLine)
    (hS : s.heap.get? S = some { cls := .type "list", data := .seq #[] c0 })
    (hR : ∀ (s' : Shared) (acc : Array Value) (c' : Nat), (∀ b o, b ≠ it → b ≠ S → s.heap.get? b = some o → s'.heap.get? b = some o) → s' = { s with heap := s'.heap, toks := s'.toks } → s'.heap.get? S = some { cls := .type "list", dict := none, data := .seq acc c', slots := #[] } →
      ItemsOf (fun i v => items[items.size - 1 - i]? = some v) acc items.size → R (.ok (.ret res)) s') :
    wpAny (model prog w) A.in1 (Builtin.List.listExtendWith (.ref S) (.ref it) res)
      (fun fin s' => match fin with | .done f => R (.ok f) s' | .again c' => c'.quiet = true ∧ codeAny (model prog w) A c' R s') (fun e s' => R (.error e) s') s := by
  have W := (Walks.listRev (prog := prog) (w := w) (A := A.in1) hh it l hne items).toS
  have hSf : S ∉ [it, l] := by simp only [List.mem_cons, List.not_mem_nil, or_false, not_or]; exact ⟨hSi, hSl⟩
  have hT : s.TypeIs (.ref it) "list_reverseiterator" := hit.typeIs
  have h1 : Builtin.List.listSameRef (.ref S) (.ref it) = false := by simp [Builtin.List.listSameRef, hSi]
  unfold Builtin.List.listExtendWith
  refine wpAny_bind (wpAny_typeOf hT ?_)
  rw [if_neg (by rw [h1]; decide)]
  refine wpAny_bind (wpAny_pyIter_revIter hit ?_)
  refine wpAny_bind (wpAny_holding ?_)
  unfold Builtin.List.listLengthHint
  refine wpAny_bind (wpAny_specialOf hT nolen_lri ?_)
  show wpAny _ A.in1 (specialOf (Value.ref it) (Str.ofString "__length_hint__") >>= _) _ _ _
  refine wpAny_bind (wpAny_specialOf hT hint_lri ?_)
  generalize hid : ("list_reverseiterator.__length_hint__" : String) = id0
  wp_delta
  rw [show splitId id0 = some ("list_reverseiterator", "__length_hint__") from by subst hid; decide +kernel]
  subst hid
  refine wpAny_bind (wpAny_isInstance (b := true) hT (by rw [isSubtype_type]; kernel_rfl) ?_)
  refine wpAny_pure ?_
  rw [if_neg (by decide)]
  have e0 : ((items.size : Nat) : Int) - 1 - ((0 : Nat) : Int) = (items.size : Int) - 1 := by omega
  refine wpAny_pure ⟨plainId_quiet F.plain_extend_loop _, codeAny_extend_loopS W hn _ hSf _ items.size 0 _ _ _ rfl (Nat.zero_le _) ⟨Nat.zero_le _, by rw [e0]; exact hit, hl⟩ hS (ItemsOf.nil _) fun s' acc' c' hm hS' hacc => ?_⟩
  refine hR s' acc' c' (fun b o hb hb2 e => hm.heap b o (fun hmem => ?_) e) (Moved.eq_with hm) hS' hacc
  rcases List.mem_cons.mp hmem with e' | hmem
  · exact hb2 e'
  · exact hb (List.mem_singleton.mp hmem)
theorem list_init_rev {R : Result → Shared → Prop} {S it l : Addr} {items : Array Value} (hh : A.handled = none) (hit : s.heap.IsRevIter it l ((items.size : Int) - 1)) (hl : s.heap.IsList l items) (hne : l ≠ it) (hSi : S ≠ it) (hSl : S ≠ l) (hn : items.size ≤ sizeLine)
    (hS : s.heap.get? S = some { cls := .type "list", data := .seq #[] })
    (hR : ∀ (s' : Shared) (acc : Array Value) (c' : Nat), (∀ b o, b ≠ it → b ≠ S → s.heap.get? b = some o → s'.heap.get? b = some o) → s' = { s with heap := s'.heap, toks := s'.toks } → s'.heap.get? S = some { cls := .type "list", dict := none, data := .seq acc c', slots := #[] } →
      ItemsOf (fun i v => items[items.size - 1 - i]? = some v) acc items.size → R (.ok (.ret .none)) s') :
    wpAny (model prog w) A.in1 (Builtin.«list.__init__» ⟨[.ref S, .ref it], []⟩)
      (fun fin s' => match fin with | .done f => R (.ok f) s' | .again c' => c'.quiet = true ∧ codeAny (model prog w) A c' R s') (fun e s' => R (.error e) s') s := by
  show wpAny _ A.in1 (do let old ← Builtin.List.listItems (.ref S); Builtin.List.listUpdate (.ref S) (fun _ => #[]); letGo old.toList.reverse; Builtin.List.listExtendWith (.ref S) (.ref it) .none) _ _ s
  refine wpAny_bind ?_
  unfold Builtin.List.listItems
  refine wpAny_bind (wpAny_seqItems hS rfl (wpAny_pure ?_))
  show wpAny _ A.in1 (updateSeq S (fun _ => #[]) >>= fun _ => letGo (#[] : Array Value).toList.reverse >>= fun _ => Builtin.List.listExtendWith (.ref S) (.ref it) .none) _ _ s
  refine wpAny_bind (wpAny_updateSeq hS rfl ?_)
  have hS2 := Heap.get?_update_self (Obj.mapSeq (fun _ => (#[] : Array Value))) hS rfl
  have oth : ∀ b o, b ≠ S → s.heap.get? b = some o → (s.heap.update S (Obj.mapSeq (fun _ => (#[] : Array Value)))).get? b = some o :=
    fun b o hb e => (Heap.get?_update_other _ _ (Ne.symm hb)).trans e
  refine wpAny_bind (wpAny_letGo ?_)
  refine extend_rev hh (hit.at fun o e => oth it o (Ne.symm hSi) e) (hl.at fun o e => oth l o (Ne.symm hSl) e) hne hSi hSl hn hS2 fun s' acc c' hk hs hS' hi => ?_
  refine hR s' acc c' (fun b o h1 h2 e => hk b o h1 h2 (oth b o h2 e)) ?_ hS' hi
  exact hs
theorem call_list_rev {it l : Addr} {items : Array Value} {Q : Value → Shared → Prop} (hh : A.handled = none) (hit : s.heap.IsRevIter it l ((items.size : Int) - 1)) (hl : s.heap.IsList l items) (hne : l ≠ it) (hn : items.size ≤ sizeLine)
    (hQ : ∀ (s' : Shared) (acc : Array Value) (c' : Nat), (∀ b o, b ≠ it → s.heap.get? b = some o → s'.heap.get? b = some o) → s' = { s with heap := s'.heap, toks := s'.toks } → s'.heap.get? s.heap.objs.size = some { cls := .type "list", dict := none, data := .seq acc c', slots := #[] } →
      ItemsOf (fun i v => items[items.size - 1 - i]? = some v) acc items.size → Q (.ref s.heap.objs.size) s') :
    wpAny (model prog w) A (call (.type "list") [.ref it]) Q E s := by
  obtain ⟨oi, hoi, _⟩ := id hit
  obtain ⟨ol, hol, _⟩ := id hl
  have hSi : s.heap.objs.size ≠ it := Nat.ne_of_gt (Heap.lt_size hoi)
  have hSl : s.heap.objs.size ≠ l := Nat.ne_of_gt (Heap.lt_size hol)
  refine callType_codes (Q₁ := fun obj s₁ => obj = .ref s.heap.objs.size ∧ s₁ = { s with heap := s.heap.push { cls := .type "list", data := .seq #[] } }) F.called_list (F.typeCall_list_1 _) F.entry_list_init
    (code_list_new _ ⟨rfl, rfl⟩) fun obj s₁ h₁ => ?_
  obtain ⟨rfl, rfl⟩ := h₁
  have hS : (s.heap.push { cls := .type "list", data := .seq #[] }).get? s.heap.objs.size = some { cls := .type "list", data := .seq #[] } := Heap.get?_push_size _ rfl
  refine ⟨⟨_, hS, rfl⟩, F.args_list_init_2 _ _, list_init_rev (A := A.in1) hh (hit.at fun o e => Heap.get?_push_of_some _ e) (hl.push _) hne hSi hSl hn hS fun s' acc c' hk hs hS' hi => ?_⟩
  exact ⟨rfl, hQ s' acc c' (fun b o hb e => hk b o hb (Nat.ne_of_lt (Heap.lt_size e)) (Heap.get?_push_of_some _ e)) hs hS' hi⟩
end
/-- list(reversed(x)), x a list: a new list -/
def tLstRev (K : PySem.W.Frag) (te : TE) : TE := fun σ H Q => te σ H fun v H1 => ∃ (a : Addr) (xs : List V), v = .ref a ∧ SqL K H1 a xs ∧ ∀ q, H1 q = none → Q (.ref q) (upd H1 q (.lst xs.reverse))
section
variable {X : Cx}
theorem pe_lstRev {e : Expr} {te : TE} {p p2 pos pos2 : Pos} (hc : X.calm = true) (hg : Gl X "list") (hm : X.mg "list" = none) (hg2 : Gl X "reversed") (hm2 : X.mg "reversed" = none) (he : PE X e te)
    (hs : starEach [e] X.env = (false, eval e X.env) :: starEach [] X.env := by rfl)
    (hs2 : starEach [.Call (.Name "reversed" p2) [e] [] pos2] X.env = (false, eval (.Call (.Name "reversed" p2) [e] [] pos2) X.env) :: starEach [] X.env := by rfl) :
    PE X (.Call (.Name "list" p) [.Call (.Name "reversed" p2) [e] [] pos2] [] pos) (tLstRev X.K te) := by
  refine ⟨fun pins s σ H Q I h => ?_⟩
  refine Call_ (ld_blt I hg hm (show bootBuiltins "list" = some (.type "list") by decide +kernel) (PyProof.Rows.callWith_type1 (args_cons (Call_ (ld_blt I hg2 hm2 PyProof.Rows.boot_reversed (PyProof.Rows.callWith_type1 (args_cons (thn (he.run pins s σ H _ I h) fun u s1 ⟨v, H1, I1, r1, q1⟩ => args_nil ?_) hs) hs rfl))) hs2) hs2 rfl))
  obtain ⟨a, xs, ev, hq, q⟩ := q1
  subst ev
  obtain rfl : u = Value.ref a := r1
  obtain ⟨its, rv, p', hz⟩ := I1.list hq
  refine call_reversed_list p'.isList (args_nil ?_)
  have k0 : ∀ b o, s1.heap.get? b = some o → (s1.heap.push (revObj a ((its.toArray.size : Int) - 1))).get? b = some o := fun b o e => Heap.get?_push_of_some _ e
  have hl := p'.isList
  obtain ⟨ol, hol, _⟩ := id hl
  have hne : a ≠ s1.heap.objs.size := Nat.ne_of_lt (Heap.lt_size hol)
  have hn : its.toArray.size ≤ sizeLine := by rw [List.size_toArray, ← rv.length]; exact hz
  refine call_list_rev (s := { s1 with heap := s1.heap.push (revObj a ((its.toArray.size : Int) - 1)) }) (I1.ok.hd hc) ⟨_, Heap.get?_push_size _ rfl, rfl, rfl⟩ (hl.push _) hne hn fun s' acc c' hk hs' hS' hi => ?_
  have kk : ∀ b o, s1.heap.get? b = some o → s'.heap.get? b = some o := fun b o e => hk b o (Nat.ne_of_lt (Heap.lt_size e)) (k0 b o e)
  have hsz : s1.heap.objs.size ≤ (s1.heap.push (revObj a ((its.toArray.size : Int) - 1))).objs.size := by rw [Heap.size_push]; exact Nat.le_succ _
  have J := I1.laid (a := (s1.heap.push (revObj a ((its.toArray.size : Int) - 1))).objs.size) (o := .lst xs.reverse) (h' := s'.heap) (t' := s'.toks) kk hsz
    (show ObjOk X.prog X.w _ _ _ (.lst xs.reverse) from ⟨by rw [List.length_reverse]; exact hz, acc.toList, c', vals_rev rv hi, by rw [Array.toArray_toList]; exact hS'⟩)
  rw [hs']
  exact ⟨.ref _, _, J, rfl, q _ (I1.hok.fresh hsz)⟩
end
end MyR

set_option Elab.async false
set_option linter.all false
set_option maxRecDepth 100000
set_option maxHeartbeats 1000000
namespace My
open PySem L2 MyR
def top (i : Nat) : Stmt := PySem.Challenge.pw_lowsure_k17_vectors_and_points.main.body.getD i (.Pass ⟨0, 0, 0, 0⟩)
/-- what the module's names hold -/
structure Glob (mg : Str → Option Value) : Prop where
  g_len : mg "len" = none
  g_max : mg "max" = none
  g_list : mg "list" = none
  g_tuple : mg "tuple" = none
  g_reversed : mg "reversed" = none
  g_range : mg "range" = none
  g_int : mg "int" = none
  g_str : mg "str" = none
  g_bool : mg "bool" = none
  g_isinstance : mg "isinstance" = none
  g_all : mg "all" = none
  g_enumerate : mg "enumerate" = none
  g_zip : mg "zip" = none
/-! ### the source of draws -/
def dKV (s n : Int) (l : Addr) : List (Key × V) := [(.inr "seed", .int s), (.inr "number", .int n), (.inr "left", .ref l)]
theorem k_sn : ¬ ((.inr "seed" : Key) = .inr "number") := fun h => absurd (Sum.inr.inj h) (by decide +kernel)
theorem k_sl : ¬ ((.inr "seed" : Key) = .inr "left") := fun h => absurd (Sum.inr.inj h) (by decide +kernel)
theorem k_nl : ¬ ((.inr "number" : Key) = .inr "left") := fun h => absurd (Sum.inr.inj h) (by decide +kernel)
theorem d_seed {s n : Int} {l : Addr} : valV (dKV s n l) (.inr "seed") = some (.int s) := valV_pos rfl
theorem d_number {s n : Int} {l : Addr} : valV (dKV s n l) (.inr "number") = some (.int n) := by
  unfold dKV; rw [valV_neg k_sn, valV_pos rfl]
theorem d_left {s n : Int} {l : Addr} : valV (dKV s n l) (.inr "left") = some (.ref l) := by
  unfold dKV; rw [valV_neg k_sl, valV_neg k_nl, valV_pos rfl]
theorem d_put_seed {s n z : Int} {l : Addr} : putK (dKV s n l) (.inr "seed") (.int z) = dKV z n l := by
  unfold putK
  rw [valV_any, d_seed]
  rw [if_pos (show (some (V.int s)).isSome = true from rfl)]
  unfold dKV
  simp only [List.map_cons, List.map_nil, if_true, if_neg (Ne.symm k_sn), if_neg (Ne.symm k_sl)]
theorem d_put_number {s n z : Int} {l : Addr} : putK (dKV s n l) (.inr "number") (.int z) = dKV s z l := by
  unfold putK
  rw [valV_any, d_number]
  rw [if_pos (show (some (V.int n)).isSome = true from rfl)]
  unfold dKV
  simp only [List.map_cons, List.map_nil, if_true, if_neg k_sn, if_neg (Ne.symm k_nl)]
theorem d_merge {s n : Int} {l : Addr} : mergeK [] (dKV s n l) = dKV s n l := by
  unfold mergeK dKV
  simp only [List.foldl_cons, List.foldl_nil]
  have e1 : putK ([] : List (Key × V)) (.inr "seed") (.int s) = [(.inr "seed", .int s)] := putK_new _ valV_nil
  have e2 : putK ([(.inr "seed", .int s)] : List (Key × V)) (.inr "number") (.int n) = [(.inr "seed", .int s), (.inr "number", .int n)] := putK_new _ (by rw [valV_neg k_sn]; rfl)
  have e3 : putK ([(.inr "seed", .int s), (.inr "number", .int n)] : List (Key × V)) (.inr "left") (.ref l) = [(.inr "seed", .int s), (.inr "number", .int n), (.inr "left", .ref l)] := putK_new _ (by rw [valV_neg k_sl, valV_neg k_nl]; rfl)
  rw [e1, e2, e3]
theorem g_seed {H : Hp} {d l : Addr} {s n : Int} (h : H d = some (.dK (dKV s n l))) : DGet H d (.str "seed") (some (.int s)) := by
  have q := DGet.k (k := .inr "seed") h
  rw [d_seed] at q
  exact q
theorem g_number {H : Hp} {d l : Addr} {s n : Int} (h : H d = some (.dK (dKV s n l))) : DGet H d (.str "number") (some (.int n)) := by
  have q := DGet.k (k := .inr "number") h
  rw [d_number] at q
  exact q
theorem g_left {H : Hp} {d l : Addr} {s n : Int} (h : H d = some (.dK (dKV s n l))) : DGet H d (.str "left") (some (.ref l)) := by
  have q := DGet.k (k := .inr "left") h
  rw [d_left] at q
  exact q
theorem p_seed {H : Hp} {d l : Addr} {s n z : Int} (h : H d = some (.dK (dKV s n l))) : DPut H d (.str "seed") (.int z) (upd H d (.dK (dKV z n l))) := by
  have q := DPut.k (k := .inr "seed") (v := .int z) h (by show 3 < sizeLine; decide)
  rw [d_put_seed] at q
  exact q
theorem p_number {H : Hp} {d l : Addr} {s n z : Int} (h : H d = some (.dK (dKV s n l))) : DPut H d (.str "number") (.int z) (upd H d (.dK (dKV s z l))) := by
  have q := DPut.k (k := .inr "number") (v := .int z) h (by show 3 < sizeLine; decide)
  rw [d_put_number] at q
  exact q
/-- what holds between a statement and the rest -/
theorem seq_by {t u : TS} {D : Ends} {σ : St} {H : Hp} (Pv : St → Hp → Prop) (h1 : ∀ D' : Ends, (∀ σ H, Pv σ H → D'.nx σ H) → t D' σ H) (h2 : ∀ σ H, Pv σ H → u D σ H) : tSeq t u D σ H := h1 { D with nx := u D } h2
structure Deal (H : Hp) (d l : Addr) : Prop where
  ex : ∃ (s n : Int) (ns : List Int), H d = some (.dK (dKV s n l)) ∧ H l = some (.lst (ns.map V.int)) ∧ 0 ≤ s ∧ s < 2147483648
/-- what stood but at d and l stands as it was -/
def Kept (d l : Addr) (H H' : Hp) : Prop := ∀ b o, H b = some o → b ≠ d → b ≠ l → H' b = some o
theorem Kept.refl {d l : Addr} {H : Hp} : Kept d l H H := fun _ _ e _ _ => e
theorem Kept.trans {d l : Addr} {H H1 H2 : Hp} (a : Kept d l H H1) (b : Kept d l H1 H2) : Kept d l H H2 := fun c o e h1 h2 => b c o (a c o e h1 h2) h1 h2
theorem Kept.d {d l : Addr} {H H1 : Hp} {o : HO} (a : Kept d l H H1) : Kept d l H (upd H1 d o) := fun c o e h1 h2 => by rw [upd_ne h1]; exact a c o e h1 h2
theorem Kept.l {d l : Addr} {H H1 : Hp} {o : HO} (a : Kept d l H H1) : Kept d l H (upd H1 l o) := fun c o e h1 h2 => by rw [upd_ne h2]; exact a c o e h1 h2
def spDraw : Sp := fun vs H Q _ => ∃ (d l : Addr) (m : Int), vs = [.ref d, .int m] ∧ Deal H d l ∧ 0 < m ∧ m.natAbs < 2 ^ 110 ∧
  ∀ (r : Int) (H' : Hp), 0 ≤ r → r < m → Deal H' d l → Kept d l H H' → Q (.int r) H'
section
variable {P : Program} {w : World} {K : PySem.W.Frag} {mg : Str → Option Value} {base : Heap}
abbrev s_law_draw : Stmt := top 10
abbrev N_law_draw : List Str := ["_law_deal_here", "_law_many", "_law_number", "_law_one", "_law_other"]
theorem sc_law_draw : FnScope N_law_draw ["_law_deal_here", "_law_many"] (defScope s_law_draw) := ⟨rfl, rfl, rfl, by decide +kernel, rfl, by decide +kernel, by decide +kernel⟩
theorem ok_law_draw {f : Addr} {fd : FuncData} (F : Fun K "_law_draw" "_law_draw" s_law_draw f fd) (T : Glob mg) : FnOk P w K mg base CX0 1 f fd ["_law_deal_here", "_law_many"] spDraw := by
  refine F.ok sc_law_draw (fun vs H Q E h => ?_) (fun cdv A outer s H vs Q E hr h => ?_)
  · obtain ⟨d, l, m, rfl, _⟩ := h
    rfl
  · obtain ⟨d, l, m, rfl, D, hm, hb, k⟩ := h
    have hu := hu_of hr
    have nd := sc_law_draw.nd
    refine ⟨_, (pss_cons (ps_while PassesOwn.never (PW.pt (pw_and (pt_cmpR op_eq (pe_dget hu (pv 0) pe_str (fun _ _ => rfl)) pe_int (nomark _)) (pw_and1 (pt_cmpR op_gt (pe_callB call_len_seq (by rfl) T.g_len PySem.boot_len (pa_cons (pe_dget hu (pv 0) pe_str (fun _ _ => rfl)) pa_nil)) pe_int (nomark _)))))
      (pss_one (ps_dput hu (pv 0) pe_str (pe_bm0 PySem.F.plainAttrs_list PySem.F.slot_list_pop PySem.F.type_list_pop mt_pop (pe_dget hu (pv 0) pe_str (fun _ _ => rfl))) rfl)))
    (pss_cons (ps_set (i := 2) nd rfl (Or.inl rfl) (pe_dget hu (pv 0) pe_str (fun _ _ => rfl)))
    (pss_cons (ps_if (pt_cmpR op_gt (pv 2) pe_int (nomark _))
    (pss_cons (ps_dput hu (pv 0) pe_str (pe_op op_fdivW (pv 2) (pv 1)) rfl)
    (pss_one (ps_ret (pe_op op_mod (pv 2) (pv 1)))))
    pss_nil)
    (pss_cons (ps_set (i := 3) nd rfl (Or.inl rfl) (pe_op op_mod (pe_op op_add (pe_op op_mul (pe_dget hu (pv 0) pe_str (fun _ _ => rfl)) pe_int) pe_int) pe_int))
    (pss_cons (ps_dput hu (pv 0) pe_str (pe_op op_mod (pe_op op_add (pe_op op_mul (pv 3) pe_int) pe_int) pe_int) rfl)
    (pss_cons (ps_set (i := 4) nd rfl (Or.inl rfl) (pe_op op_mod (pe_op op_mul (pe_dget hu (pv 0) pe_str (fun _ _ => rfl)) (pe_dget hu (pv 0) pe_str (fun _ _ => rfl))) pe_int))
    (pss_one (ps_ret (pe_op op_mod (pe_op op_add (pe_op op_mul (pe_op op_mod (pe_op op_mul (pv 3) (pv 3)) pe_int) pe_int) (pv 4)) (pv 1)))))))))), ?_⟩
    refine seq_by (fun σ H1 => σ = [some (.ref d), some (.int m), none, none, none] ∧ Deal H1 d l ∧ Kept d l H H1) (fun D' hD' => ?_) ?_
    · refine while_by (fun σ H1 => σ = [some (.ref d), some (.int m), none, none, none] ∧ Deal H1 d l ∧ Kept d l H H1)
        (fun _ H1 => match H1 l with | some (.lst xs) => xs.length | _ => 0) ⟨rfl, D, Kept.refl⟩ ?_ ?_
      · rintro σ H1 ⟨rfl, D1, kp⟩
        obtain ⟨s0, n, ns, hd, hl, hs0, hs1⟩ := id D1
        have ndl : d ≠ l := ne_of hd hl (by intro z; cases z)
        refine ⟨_, rfl, d, _, rfl, g_number hd, rfl, _, rfl, ?_⟩
        refine ite2 (fun hz => ?_) (fun hz => ?_)
        · refine ⟨_, rfl, d, _, rfl, g_left hd, l, _, rfl, .inl (SqL.of hl), _, _, rfl, rfl, _, rfl, ?_⟩
          refine ite2 (fun hz2 => ?_) (fun hz2 => ?_)
          · have hp : 0 < ns.length := by
              have := of_decide_eq_true hz2
              rw [List.length_map] at this
              omega
            have hg : (ns.map V.int)[(ns.map V.int).length - 1]? = some (.int (ns[ns.length - 1])) := by
              rw [List.length_map, List.getElem?_map, List.getElem?_eq_getElem (by omega)]
              rfl
            refine ⟨_, rfl, d, _, rfl, g_left hd, .inl ⟨rfl, _, SqL.of hl⟩, l, _, _, rfl, rfl, hl, hg, _, rfl, d, _, rfl, p_number (by rw [upd_ne ndl]; exact hd), ?_⟩
            have e2 : (ns.map V.int).dropLast = ns.dropLast.map V.int := by rw [List.map_dropLast]
            refine ⟨⟨rfl, ⟨⟨s0, _, ns.dropLast, upd_same, by rw [upd_ne ndl.symm, upd_same, e2], hs0, hs1⟩⟩, kp.l.d⟩, ?_⟩
            rw [upd_ne ndl.symm, upd_same, hl]
            show (ns.map V.int).dropLast.length < (ns.map V.int).length
            rw [List.length_dropLast, List.length_map]
            omega
          · exact hD' _ _ ⟨rfl, D1, kp⟩
        · refine iteF ?_
          exact hD' _ _ ⟨rfl, D1, kp⟩
      · intro σ H1 Q1 Q2 hq hc
        obtain ⟨x, e1, a, v, e2, hg, sc, b1, eb, hc⟩ := hc
        refine ⟨x, e1, a, v, e2, hg, sc, b1, eb, ?_⟩
        revert hc
        cases b1 with
        | false => exact fun hc => hq _ _ hc
        | true =>
          intro hc
          obtain ⟨x2, e3, a2, v2, e4, hg2, p, ys, e5, sq, i1, j1, e6, e7, k1, e8, hc⟩ := hc
          exact ⟨x2, e3, a2, v2, e4, hg2, p, ys, e5, sq, i1, j1, e6, e7, k1, e8, hq _ _ hc⟩
    · rintro σ H1 ⟨rfl, D1, kp⟩
      obtain ⟨s0, n, ns, hd, hl, hs0, hs1⟩ := id D1
      have ndl : d ≠ l := ne_of hd hl (by intro z; cases z)
      refine ⟨_, rfl, d, _, rfl, g_number hd, _, rfl, _, _, rfl, rfl, _, rfl, ?_⟩
      refine ite2 (fun hz => ?_) (fun hz => ?_)
      · have h63 : 0 < m := hm
        refine ⟨_, rfl, _, rfl, _, _, rfl, rfl, wide_div hm hb (by decide) (by decide), _, rfl, d, _, rfl, p_number hd, ?_⟩
        refine ⟨_, rfl, _, rfl, _, _, rfl, rfl, hm, ?_⟩
        exact k _ _ (Int.emod_nonneg _ (by omega)) (Int.emod_lt_of_pos _ hm) ⟨⟨s0, _, ns, upd_same, by rw [upd_ne ndl.symm]; exact hl, hs0, hs1⟩⟩ kp.d
      · -- the seed turns
        have r1 : ∀ (x y : Int), 0 < y → 0 ≤ x % y ∧ x % y < y := fun x y hy => ⟨Int.emod_nonneg _ (by omega), Int.emod_lt_of_pos _ hy⟩
        have ha1 := r1 (s0 * 48271 + 7919) 2147483647 (by decide)
        have hb1 := r1 ((s0 * 48271 + 7919) % 2147483647 * 40692 + 104729) 2147483399 (by decide)
        have q := r1 ((s0 * 48271 + 7919) % 2147483647 * ((s0 * 48271 + 7919) % 2147483647)) 2147483629 (by decide)
        refine ⟨_, rfl, d, _, rfl, g_seed hd, _, _, rfl, rfl, .inl ⟨by omega, by omega⟩, _, _, rfl, rfl, _, _, rfl, rfl, (by show (0 : Int) < 2147483647; decide), ?_⟩
        refine ⟨_, rfl, _, _, rfl, rfl, .inl ⟨by omega, by omega⟩, _, _, rfl, rfl, _, _, rfl, rfl, (by show (0 : Int) < 2147483399; decide), ?_⟩
        refine ⟨_, rfl, d, _, rfl, p_seed hd, ?_⟩
        refine ⟨_, rfl, d, _, rfl, g_seed upd_same, _, rfl, d, _, rfl, g_seed upd_same, _, _, rfl, rfl, .inl ⟨by omega, by omega⟩, _, _, rfl, rfl, (by show (0 : Int) < 2147483563; decide), ?_⟩
        refine ⟨_, rfl, _, rfl, _, _, rfl, rfl, .inl ⟨by omega, by omega⟩, _, _, rfl, rfl, (by show (0 : Int) < 2147483629; decide), _, _, rfl, rfl, .inl ⟨by omega, by omega⟩, _, rfl, _, _, rfl, rfl, _, rfl, _, _, rfl, rfl, hm, ?_⟩
        exact k _ _ (Int.emod_nonneg _ (by omega)) (Int.emod_lt_of_pos _ hm) ⟨⟨_, n, ns, upd_same, by rw [upd_ne ndl.symm]; exact hl, hb1.1, by omega⟩⟩ kp.d
end
end My

set_option Elab.async false
set_option linter.all false
set_option maxRecDepth 100000
set_option maxHeartbeats 1000000
namespace My
/-! ### the twos in n!, and how many numbers have fewer than b -/
def twF : Nat → Nat → Nat
  | 0, _ => 0
  | k + 1, n => if n = 0 then 0 else n / 2 + twF k (n / 2)
def tw (n : Nat) : Nat := twF n n
theorem twF_more : ∀ (k l n : Nat), n ≤ k → n ≤ l → twF k n = twF l n
  | 0, l, n, h, _ => by
    have : n = 0 := by omega
    subst this
    cases l with
    | zero => rfl
    | succ l => show 0 = if (0 : Nat) = 0 then 0 else _; rw [if_pos rfl]
  | k + 1, 0, n, _, h => by
    have : n = 0 := by omega
    subst this
    show (if (0 : Nat) = 0 then 0 else _) = 0
    rw [if_pos rfl]
  | k + 1, l + 1, n, h, g => by
    show (if n = 0 then 0 else n / 2 + twF k (n / 2)) = if n = 0 then 0 else n / 2 + twF l (n / 2)
    split
    · rfl
    · rw [twF_more k l (n / 2) (by omega) (by omega)]
theorem tw_zero : tw 0 = 0 := rfl
theorem tw_pos {n : Nat} (h : n ≠ 0) : tw n = n / 2 + tw (n / 2) := by
  obtain ⟨k, rfl⟩ : ∃ k, n = k + 1 := ⟨n - 1, by omega⟩
  show (if k + 1 = 0 then 0 else (k + 1) / 2 + twF k ((k + 1) / 2)) = (k + 1) / 2 + twF ((k + 1) / 2) ((k + 1) / 2)
  rw [if_neg h, twF_more k ((k + 1) / 2) _ (by omega) (Nat.le_refl _)]
theorem tw_half (n : Nat) : n / 2 ≤ tw n := by
  by_cases h : n = 0
  · subst h
    exact Nat.le_refl _
  · rw [tw_pos h]
    omega
theorem tw_le : ∀ (n : Nat), tw n ≤ n := by
  intro n
  induction n using Nat.strongRecOn with
  | ind n ih =>
    by_cases h : n = 0
    · subst h
      exact Nat.le_refl _
    · rw [tw_pos h]
      have := ih (n / 2) (by omega)
      omega
theorem tw_mono : ∀ (b a : Nat), a ≤ b → tw a ≤ tw b := by
  intro b
  induction b using Nat.strongRecOn with
  | ind b ih =>
    intro a h
    by_cases hb : b = 0
    · have : a = 0 := by omega
      rw [this, hb]
      exact Nat.le_refl _
    · by_cases ha : a = 0
      · rw [ha]
        exact Nat.zero_le _
      · rw [tw_pos ha, tw_pos hb]
        have := ih (b / 2) (by omega) (a / 2) (by omega)
        omega
theorem filter_down (p : Nat → Bool) (hp : ∀ i j, i ≤ j → p j = true → p i = true) : ∀ n, (List.range n).filter p = List.range ((List.range n).filter p).length
  | 0 => rfl
  | n + 1 => by
    have ih := filter_down p hp n
    rw [List.range_succ, List.filter_append]
    by_cases h : p n = true
    · have h1 : (List.range n).filter p = List.range n := List.filter_eq_self.mpr fun i hi => hp i n (Nat.le_of_lt (List.mem_range.mp hi)) h
      have h2 : [n].filter p = [n] := by rw [List.filter_cons, if_pos h]; rfl
      rw [h1, h2, List.length_append, List.length_range]
      show _ = List.range (n + 1)
      rw [List.range_succ]
    · have h2 : [n].filter p = [] := by rw [List.filter_cons, if_neg h]; rfl
      rw [h2, List.append_nil]
      exact ih
/-- how many numbers have fewer than b twos -/
def W (b : Nat) : Nat := ((List.range (2 * b + 2)).filter fun j => decide (tw j < b)).length
theorem W_filter (b : Nat) : ((List.range (2 * b + 2)).filter fun j => decide (tw j < b)) = List.range (W b) :=
  filter_down _ (fun i j h hj => decide_eq_true (Nat.lt_of_le_of_lt (tw_mono j i h) (of_decide_eq_true hj))) _
theorem W_iff {b j : Nat} : tw j < b ↔ j < W b := by
  constructor
  · intro h
    have h1 := tw_half j
    have : j ∈ (List.range (2 * b + 2)).filter fun j => decide (tw j < b) := List.mem_filter.mpr ⟨List.mem_range.mpr (by omega), decide_eq_true h⟩
    rw [W_filter] at this
    exact List.mem_range.mp this
  · intro h
    have : j ∈ (List.range (2 * b + 2)).filter fun j => decide (tw j < b) := by rw [W_filter]; exact List.mem_range.mpr h
    exact of_decide_eq_true (List.mem_filter.mp this).2
theorem W_le (b : Nat) : W b ≤ 2 * b + 2 := by
  have := List.length_filter_le (fun j => decide (tw j < b)) (List.range (2 * b + 2))
  rw [List.length_range] at this
  exact this
theorem W_pos {b : Nat} (h : 1 ≤ b) : 1 ≤ W b := W_iff.mp (show tw 0 < b from h)
theorem W_two {b : Nat} (h : 1 ≤ b) : 2 ≤ W b := W_iff.mp (show tw 1 < b from h)
theorem W_mono {a b : Nat} (h : a ≤ b) : W a ≤ W b := by
  by_cases hz : W a = 0
  · omega
  · have h1 : tw (W a - 1) < a := W_iff.mpr (by omega)
    have h2 : W a - 1 < W b := W_iff.mp (by omega)
    omega
theorem W_66 {b : Nat} (h : b ≤ 64) : W b ≤ 66 := by
  have h1 := W_mono h
  have h2 : ¬ (66 < W 64) := fun z => absurd (W_iff.mpr z) (by decide)
  omega
theorem W_end (b : Nat) : ¬ tw (W b) < b := fun h => Nat.lt_irrefl _ (W_iff.mp h)
theorem W_zero : W 0 = 0 := by decide
/-- vectors of numbers with together fewer than b twos -/
def vecs : Nat → Nat → List (List Nat)
  | 0, _ => [[]]
  | m + 1, b => (List.range (W b)).flatMap fun j => (vecs m (b - tw j)).map (j :: ·)
/-! ### sums -/
def smN : Nat → (Nat → Nat) → Nat
  | 0, _ => 0
  | n + 1, f => smN n f + f n
theorem smN_congr : ∀ {n : Nat} {f g : Nat → Nat}, (∀ i, i < n → f i = g i) → smN n f = smN n g
  | 0, _, _, _ => rfl
  | n + 1, f, g, h => by
    show smN n f + f n = smN n g + g n
    rw [smN_congr fun i hi => h i (by omega), h n (by omega)]
theorem smN_add (n : Nat) (f g : Nat → Nat) : smN n (fun i => f i + g i) = smN n f + smN n g := by
  induction n with
  | zero => rfl
  | succ n ih =>
    show smN n (fun i => f i + g i) + (f n + g n) = smN n f + f n + (smN n g + g n)
    omega
theorem smN_zero (n : Nat) : smN n (fun _ => 0) = 0 := by
  induction n with
  | zero => rfl
  | succ n ih =>
    show smN n (fun _ => 0) + 0 = 0
    omega
theorem smN_swap (n m : Nat) (f : Nat → Nat → Nat) : smN n (fun i => smN m fun j => f i j) = smN m fun j => smN n fun i => f i j := by
  induction n with
  | zero =>
    show 0 = smN m fun _ => 0
    rw [smN_zero]
  | succ n ih =>
    show smN n (fun i => smN m fun j => f i j) + smN m (fun j => f n j) = smN m fun j => smN n (fun i => f i j) + f n j
    rw [ih, smN_add]
theorem smN_cut {n m : Nat} (f : Nat → Nat) (h : n ≤ m) (hz : ∀ i, n ≤ i → i < m → f i = 0) : smN m f = smN n f := by
  induction m with
  | zero =>
    have : n = 0 := by omega
    rw [this]
  | succ m ih =>
    by_cases e : n = m + 1
    · rw [e]
    · show smN m f + f m = _
      rw [ih (by omega) (fun i a b => hz i a (by omega)), hz m (by omega) (by omega)]
      rfl
/-- moved up by t, below b -/
theorem smN_shift (t : Nat) (g : Nat → Nat) : ∀ b, smN b (fun u => if t ≤ u then g (u - t) else 0) = smN (b - t) g
  | 0 => by rw [show 0 - t = 0 from Nat.zero_sub t]; rfl
  | b + 1 => by
    have ih := smN_shift t g b
    show smN b (fun u => if t ≤ u then g (u - t) else 0) + (if t ≤ b then g (b - t) else 0) = _
    rw [ih]
    by_cases h : t ≤ b
    · rw [if_pos h, show b + 1 - t = (b - t) + 1 by omega]
      rfl
    · rw [if_neg h, show b + 1 - t = b - t by omega]
      rfl
/-- vectors by their twos -/
def cn (b : Nat) : Nat → Nat → Nat
  | 0, u => if u = 0 then 1 else 0
  | c + 1, u => smN (W b) fun j => if tw j ≤ u then cn b c (u - tw j) else 0
theorem flat_len {α β : Type} (f : α → List β) (xs : List α) : (xs.flatMap f).length = (xs.map fun x => (f x).length).sum := by
  induction xs with
  | nil => rfl
  | cons x xs ih => simp [List.flatMap_cons, ih]
theorem sum_range (g : Nat → Nat) : ∀ n, ((List.range n).map g).sum = smN n g
  | 0 => rfl
  | n + 1 => by
    rw [List.range_succ, List.map_append, List.sum_append, sum_range g n]
    show smN n g + (g n + 0) = smN n g + g n
    omega
theorem vecs_len (m b : Nat) : (vecs (m + 1) b).length = smN (W b) fun j => (vecs m (b - tw j)).length := by
  show ((List.range (W b)).flatMap fun j => (vecs m (b - tw j)).map (j :: ·)).length = _
  rw [flat_len, sum_range]
  exact smN_congr fun j _ => List.length_map ..
theorem cn_sum (b : Nat) : ∀ (c b' : Nat), 1 ≤ b' → b' ≤ b → smN b' (cn b c) = (vecs c b').length
  | 0, b', h1, h2 => by
    show _ = 1
    have : smN b' (cn b 0) = smN 1 (cn b 0) := smN_cut _ h1 fun i a _ => by
      show (if i = 0 then 1 else 0) = 0
      rw [if_neg (by omega)]
    rw [this]
    rfl
  | c + 1, b', h1, h2 => by
    rw [vecs_len]
    show smN b' (fun u => smN (W b) fun j => if tw j ≤ u then cn b c (u - tw j) else 0) = _
    rw [smN_swap]
    have e : smN (W b) (fun j => smN b' fun u => if tw j ≤ u then cn b c (u - tw j) else 0) = smN (W b) fun j => smN (b' - tw j) (cn b c) := smN_congr fun j _ => smN_shift (tw j) (cn b c) b'
    rw [e, smN_cut (fun j => smN (b' - tw j) (cn b c)) (W_mono h2) (fun j a _ => by
      have : ¬ tw j < b' := fun z => by have := W_iff.mp z; omega
      rw [show b' - tw j = 0 by omega]
      rfl)]
    refine smN_congr fun j hj => ?_
    have : tw j < b' := W_iff.mpr hj
    exact cn_sum b c (b' - tw j) (by omega) (by omega)
end My

set_option Elab.async false
set_option linter.all false
set_option maxRecDepth 100000
set_option maxHeartbeats 1000000
namespace My
/-! ### binomials and falling products -/
def fall (z : Int) : Nat → Int
  | 0 => 1
  | k + 1 => fall z k * (z - (k : Int))
def fac : Nat → Int
  | 0 => 1
  | k + 1 => ((k : Int) + 1) * fac k
def bn (z : Int) : Nat → Int
  | 0 => 1
  | k + 1 => bn z k * (z - (k : Int)) / ((k : Int) + 1)
theorem fac_pos : ∀ k, 0 < fac k
  | 0 => by decide
  | k + 1 => Int.mul_pos (by omega) (fac_pos k)
theorem fall_shift (z : Int) : ∀ k, fall (z + 1) (k + 1) = (z + 1) * fall z k
  | 0 => by
    show 1 * (z + 1 - ((0 : Nat) : Int)) = (z + 1) * 1
    omega
  | k + 1 => by
    show fall (z + 1) (k + 1) * (z + 1 - ((k + 1 : Nat) : Int)) = (z + 1) * (fall z k * (z - (k : Int)))
    rw [fall_shift z k, show z + 1 - ((k + 1 : Nat) : Int) = z - (k : Int) by omega, Int.mul_assoc]
theorem fall_step (z : Int) (k : Nat) : fall (z + 1) (k + 1) = fall z (k + 1) + ((k : Int) + 1) * fall z k := by
  rw [fall_shift]
  show (z + 1) * fall z k = fall z k * (z - (k : Int)) + ((k : Int) + 1) * fall z k
  rw [Int.mul_comm (fall z k), ← Int.add_mul]
  congr 1
  omega
theorem fall_zero : ∀ k, fall 0 (k + 1) = 0
  | 0 => rfl
  | k + 1 => by
    show fall 0 (k + 1) * _ = 0
    rw [fall_zero k, Int.zero_mul]
theorem fac_dvd : ∀ (k : Nat) (z : Int), fac k ∣ fall z k
  | 0, z => ⟨fall z 0, by rw [show fac 0 = 1 from rfl, Int.one_mul]⟩
  | k + 1, z => by
    have st : ∀ z : Int, fac (k + 1) ∣ ((k : Int) + 1) * fall z k := fun z => by
      obtain ⟨q, e⟩ := fac_dvd k z
      exact ⟨q, by rw [e, ← Int.mul_assoc]; rfl⟩
    have up : ∀ n : Nat, fac (k + 1) ∣ fall (n : Int) (k + 1) := by
      intro n
      induction n with
      | zero => exact ⟨0, by rw [Int.mul_zero]; exact fall_zero k⟩
      | succ n ih =>
        rw [show ((n + 1 : Nat) : Int) = (n : Int) + 1 from rfl, fall_step]
        exact Int.dvd_add ih (st _)
    have down : ∀ n : Nat, fac (k + 1) ∣ fall (-(n : Int)) (k + 1) := by
      intro n
      induction n with
      | zero => exact up 0
      | succ n ih =>
        have e := fall_step (-((n + 1 : Nat) : Int)) k
        rw [show -((n + 1 : Nat) : Int) + 1 = -(n : Int) by omega] at e
        have h := Int.dvd_sub ih (st (-((n + 1 : Nat) : Int)))
        rw [e, Int.add_sub_cancel] at h
        exact h
    by_cases hz : 0 ≤ z
    · have := up z.toNat
      rwa [Int.toNat_of_nonneg hz] at this
    · have := down (-z).toNat
      rwa [Int.toNat_of_nonneg (by omega), Int.neg_neg] at this
theorem fac_bn : ∀ (k : Nat) (z : Int), fac k * bn z k = fall z k
  | 0, _ => rfl
  | k + 1, z => by
    have ih := fac_bn k z
    obtain ⟨q, e⟩ := fac_dvd (k + 1) z
    have h1 : fac k * (bn z k * (z - (k : Int))) = fac k * (((k : Int) + 1) * q) := by
      rw [← Int.mul_assoc, ih]
      show fall z (k + 1) = _
      rw [e]
      show ((k : Int) + 1) * fac k * q = _
      rw [Int.mul_comm ((k : Int) + 1), Int.mul_assoc]
    have h2 : bn z k * (z - (k : Int)) = ((k : Int) + 1) * q := Int.eq_of_mul_eq_mul_left (by have := fac_pos k; omega) h1
    have h3 : bn z (k + 1) = q := by
      show bn z k * (z - (k : Int)) / ((k : Int) + 1) = q
      rw [h2]
      exact Int.mul_ediv_cancel_left _ (by omega)
    rw [h3, e]
theorem bn_pascal (z : Int) (k : Nat) : bn (z + 1) (k + 1) = bn z (k + 1) + bn z k := by
  have h1 := fac_bn (k + 1) (z + 1)
  have h2 := fac_bn (k + 1) z
  have h3 := fac_bn k z
  refine Int.eq_of_mul_eq_mul_left (a := fac (k + 1)) (by have := fac_pos (k + 1); omega) ?_
  rw [h1, fall_step, Int.mul_add, h2]
  show _ = _ + ((k : Int) + 1) * fac k * bn z k
  rw [Int.mul_assoc, h3]
theorem bn_zero : ∀ k, bn 0 (k + 1) = 0
  | 0 => by decide
  | k + 1 => by
    show bn 0 (k + 1) * _ / _ = 0
    rw [bn_zero k, Int.zero_mul, Int.zero_ediv]
/-! ### Newton's form -/
def nw (e : Nat → Int) : Nat → Int
  | 0 => e 0
  | j + 1 => nw e j + nw (fun q => e (q + 1)) j
theorem nw_add (e f : Nat → Int) : ∀ j, nw (fun q => e q + f q) j = nw e j + nw f j := by
  intro j
  induction j generalizing e f with
  | zero => rfl
  | succ j ih =>
    show nw (fun q => e q + f q) j + nw (fun q => e (q + 1) + f (q + 1)) j = (nw e j + nw (fun q => e (q + 1)) j) + (nw f j + nw (fun q => f (q + 1)) j)
    rw [ih, ih]
    omega
theorem nw_congr : ∀ (j : Nat) {e f : Nat → Int}, (∀ q, q ≤ j → e q = f q) → nw e j = nw f j
  | 0, e, f, h => h 0 (Nat.le_refl _)
  | j + 1, e, f, h => by
    show nw e j + nw (fun q => e (q + 1)) j = nw f j + nw (fun q => f (q + 1)) j
    rw [nw_congr j fun q hq => h q (by omega), nw_congr j fun q hq => h (q + 1) (by omega)]
theorem nw_zero : ∀ j, nw (fun _ => 0) j = 0
  | 0 => rfl
  | j + 1 => by
    show nw (fun _ => 0) j + nw (fun _ => 0) j = 0
    rw [nw_zero j]
    rfl
/-- two axes in either order -/
theorem nw_swap : ∀ (i : Nat) (c : Nat → Nat → Int) (j : Nat), nw (fun p => nw (c p) j) i = nw (fun q => nw (fun p => c p q) i) j
  | 0, c, j => rfl
  | i + 1, c, j => by
    show nw (fun p => nw (c p) j) i + nw (fun p => nw (c (p + 1)) j) i = nw (fun q => nw (fun p => c p q) i + nw (fun p => c (p + 1) q) i) j
    rw [nw_add, nw_swap i c j, nw_swap i (fun p => c (p + 1)) j]
def smI : Nat → (Nat → Int) → Int
  | 0, _ => 0
  | n + 1, f => smI n f + f n
theorem smI_congr : ∀ {n : Nat} {f g : Nat → Int}, (∀ i, i < n → f i = g i) → smI n f = smI n g
  | 0, _, _, _ => rfl
  | n + 1, f, g, h => by
    show smI n f + f n = smI n g + g n
    rw [smI_congr fun i hi => h i (by omega), h n (by omega)]
theorem smI_add (n : Nat) (f g : Nat → Int) : smI n (fun i => f i + g i) = smI n f + smI n g := by
  induction n with
  | zero => rfl
  | succ n ih =>
    show smI n (fun i => f i + g i) + (f n + g n) = smI n f + f n + (smI n g + g n)
    omega
theorem smI_front (n : Nat) (f : Nat → Int) : smI (n + 1) f = f 0 + smI n fun i => f (i + 1) := by
  induction n with
  | zero =>
    show 0 + f 0 = f 0 + 0
    omega
  | succ n ih =>
    show smI (n + 1) f + f (n + 1) = f 0 + (smI n (fun i => f (i + 1)) + f (n + 1))
    rw [ih]
    omega
theorem smI_zero (n : Nat) : smI n (fun _ => 0) = 0 := by
  induction n with
  | zero => rfl
  | succ n ih =>
    show smI n (fun _ => 0) + 0 = 0
    omega
/-- the sum over binomials is Newton's form -/
theorem smI_nw : ∀ (j n : Nat) (c : Nat → Int), (∀ k, n ≤ k → c k = 0) → smI n (fun k => c k * bn (j : Int) k) = nw c j
  | j, 0, c, h => by
    have : nw c j = nw (fun _ => 0) j := nw_congr j fun q _ => h q (Nat.zero_le _)
    rw [this, nw_zero]
    rfl
  | 0, n + 1, c, h => by
    rw [smI_front]
    have : smI n (fun i => c (i + 1) * bn ((0 : Nat) : Int) (i + 1)) = smI n fun _ => 0 := smI_congr fun i _ => by
      show c (i + 1) * bn 0 (i + 1) = 0
      rw [bn_zero, Int.mul_zero]
    rw [this, smI_zero]
    show c 0 * 1 + 0 = c 0
    omega
  | j + 1, n + 1, c, h => by
    show _ = nw c j + nw (fun q => c (q + 1)) j
    rw [← smI_nw j (n + 1) c h, ← smI_nw j n (fun q => c (q + 1)) (fun k hk => h (k + 1) (by omega)), smI_front, smI_front]
    have e : smI n (fun i => c (i + 1) * bn ((j + 1 : Nat) : Int) (i + 1)) = smI n (fun i => c (i + 1) * bn (j : Int) (i + 1) + c (i + 1) * bn (j : Int) i) := smI_congr fun i _ => by
      rw [show ((j + 1 : Nat) : Int) = (j : Int) + 1 from rfl, bn_pascal, Int.mul_add]
    rw [e, smI_add]
    show c 0 * 1 + _ = c 0 * 1 + _ + _
    omega
/-! ### differences -/
def dfs (M : Int) : List Int → List Int
  | [] => []
  | [_] => []
  | a :: b :: r => (b - a) % M :: dfs M (b :: r)
theorem dfs_len (M : Int) : ∀ xs : List Int, (dfs M xs).length = xs.length - 1
  | [] => rfl
  | [_] => rfl
  | a :: b :: r => by
    show (dfs M (b :: r)).length + 1 = _
    rw [dfs_len M (b :: r)]
    show r.length + 1 - 1 + 1 = r.length + 1 + 1 - 1
    omega
/-- what `differences` gives -/
def diff (M : Int) : Nat → List Int → List Int
  | 0, _ => []
  | _ + 1, [] => []
  | k + 1, a :: r => a :: diff M k (dfs M (a :: r))
theorem mod_sub (a b M : Int) : (a % M - b % M) % M = (a - b) % M := by rw [← Int.sub_emod]
theorem dfs_nw (M : Int) (e : Nat → Int) : ∀ n s, dfs M ((List.range n).map fun j => nw e (s + j) % M) = (List.range (n - 1)).map fun j => nw (fun q => e (q + 1)) (s + j) % M
  | 0, _ => rfl
  | 1, _ => rfl
  | n + 2, s => by
    have ih := dfs_nw M e (n + 1) (s + 1)
    have e1 : ∀ (m : Nat) (f : Nat → Int), (List.range (m + 1)).map f = f 0 :: (List.range m).map fun j => f (j + 1) := fun m f => by
      rw [List.range_succ_eq_map, List.map_cons, List.map_map]
      rfl
    rw [e1 (n + 1), e1 n]
    show (nw e (s + (0 + 1)) % M - nw e (s + 0) % M) % M :: dfs M _ = _
    rw [show n + 2 - 1 = n + 1 from rfl, e1 n, mod_sub]
    have h0 : nw e (s + (0 + 1)) - nw e (s + 0) = nw (fun q => e (q + 1)) (s + 0) := by
      show nw e (s + 0) + nw (fun q => e (q + 1)) (s + 0) - nw e (s + 0) = _
      omega
    rw [h0]
    congr 1
    rw [← e1 n fun j => nw e (s + (j + 1)) % M]
    have h1 : (fun j => nw e (s + 1 + j) % M) = fun j => nw e (s + (j + 1)) % M := funext fun j => by rw [show s + 1 + j = s + (j + 1) by omega]
    rw [h1] at ih
    rw [ih, show n + 1 - 1 = n from rfl]
    refine List.map_congr_left fun j _ => ?_
    rw [show s + 1 + j = s + (j + 1) by omega]
theorem diff_nw (M : Int) : ∀ (n : Nat) (e : Nat → Int), diff M n ((List.range n).map fun j => nw e j % M) = (List.range n).map fun q => e q % M
  | 0, _ => rfl
  | n + 1, e => by
    have e1 : ∀ (m : Nat) (f : Nat → Int), (List.range (m + 1)).map f = f 0 :: (List.range m).map fun j => f (j + 1) := fun m f => by
      rw [List.range_succ_eq_map, List.map_cons, List.map_map]
      rfl
    have d := dfs_nw M e (n + 1) 0
    simp only [Nat.zero_add] at d
    rw [show n + 1 - 1 = n from rfl] at d
    have key : diff M (n + 1) ((List.range (n + 1)).map fun j => nw e j % M) = nw e 0 % M :: diff M n (dfs M ((List.range (n + 1)).map fun j => nw e j % M)) := by
      rw [e1 n]
      rfl
    rw [key, d, diff_nw M n fun q => e (q + 1), e1 n]
    rfl
end My

set_option Elab.async false
set_option linter.all false
set_option maxRecDepth 100000
set_option maxHeartbeats 1000000
namespace MyR
open PySem PySem.Spec PyProof.Rows L2

/-! ### what gives new pairs over things that stand: enumerate(tuple), zip(text, tuple), told once -/
/-- at turn i a walk of n turns is at hand whose next pair is of x and y -/
def PairAt (P : Program) (w : World) (A : Around) (I : Addr) (cs : List Addr) (own : Nat → Heap → Prop) (h : Heap) (i : Nat) (x y : V) (more : Prop) : Prop :=
  ∃ (n : Nat) (wr fp : List Addr) (Pt : Nat → Array Value → Prop) (St : Nat → Heap → Prop) (Mid : Nat → Addr → Heap → Prop), WalksT P w A I fp wr n Pt St Mid ∧ (∀ b ∈ wr, b ∈ cs) ∧ St i h ∧ (∀ j g, St j g → own j g) ∧
    ((more → i < n ∧ ∀ vals, Pt i vals → ∃ u v, vals = #[u, v] ∧ RelV x u ∧ RelV y v) ∧ (¬ more → i = n))
theorem turn_pairs {P : Program} {w : World} {K : PySem.W.Frag} {elts : List Expr} {kk : Nat} {tpos : Pos} {I : Addr} {cs : List Addr} {J : It} {own : Nat → Heap → Prop} (hI : I ∈ cs)
    (cells : ∀ i h, own i h → ∀ b ∈ cs, ∃ o, h.get? b = some o ∧ ∀ v, o.data ≠ .cell v)
    (stays : ∀ i g g', own i g → (∀ b ∈ cs, ∀ o, g.get? b = some o → g'.get? b = some o) → own i g')
    (again : ∀ (A : Around) (i : Nat) (s : Shared) (Q E : Value → Shared → Prop), own i s.heap → Q (.ref I) s → wpAny (model P w) A (pyIter (.ref I)) Q E s)
    (goes : ∀ (X : Cx) (pins : List (Addr × Obj)) (s : Shared) (σ : L2.St) (H : Hp) (i : Nat), X.prog = P → X.w = w → X.K = K → X.A.handled = none → Inv X pins σ H s → own i s.heap → J.go i H →
      ∃ x y, PairAt P w X.A I cs own s.heap i x y True ∧ ∀ T, H T = none → J.yld i H (.ref T) (upd H T (.tup [x, y])))
    (ends : ∀ (X : Cx) (pins : List (Addr × Obj)) (s : Shared) (σ : L2.St) (H : Hp) (i : Nat), X.prog = P → X.w = w → X.K = K → X.A.handled = none → Inv X pins σ H s → own i s.heap → J.stop i H → PairAt P w X.A I cs own s.heap i .non .non False) :
    Turn P w K (.Tuple elts kk tpos) J cs I own where
  mem := hI
  obj := cells
  keep := stays
  self := again
  item := by
    intro X eP ew eK calm i pins s σ H E inv free st more
    obtain ⟨x, y, ⟨n, wr, fp, Pt, St, Mid, W, sub, hst, hown, hmore, _⟩, hyld⟩ := goes X pins s σ H i eP ew eK (inv.ok.hd calm) inv st more
    obtain ⟨hin, hvals⟩ := hmore trivial
    subst eP ew eK
    refine W.item i s _ _ hin hst fun T vals h1 tk hP hT hTup hMid k1 => ?_
    obtain ⟨u, v, rfl, ru, rv⟩ := hvals vals hP
    refine ⟨.ref T, rfl, W.go elts kk tpos i T _ _ _ hMid fun h2 st2 k2 => ?_⟩
    have tup2 : h2.IsTuple T #[u, v] := hTup.at fun o e => k2 T o (W.apart i T h1 hMid) e
    have fresh : H T = none := inv.hok.fresh hT
    have inv2 : Inv X pins σ (upd H T (.tup [x, y])) { s with heap := h2, toks := tk } :=
      inv.turnedNew (ch := cs) (fun b o nb e => k2 b o (fun m => nb (sub b m)) (k1 b o (fun m => nb (sub b m)) e)) free hT ⟨(by show 2 ≤ sizeLine; decide), [u, v], .cons ru (.cons rv .nil), tup2⟩
    refine ⟨.ref T, _, inv2, rfl, hyld T fresh, hown _ _ st2, fun b hb => ?_⟩
    obtain ⟨o, ho, _⟩ := cells i _ st b hb
    rw [upd_ne (Nat.ne_of_lt (Nat.lt_of_lt_of_le (Heap.lt_size ho) hT))]
    exact (free b hb).1
  done := by
    intro X eP ew eK calm i pins s σ H E inv free st stop
    obtain ⟨n, wr, fp, Pt, St, Mid, W, sub, hst, _, _, hend⟩ := ends X pins s σ H i eP ew eK (inv.ok.hd calm) inv st stop
    obtain rfl := hend (fun f => f)
    subst eP ew eK
    exact W.done s _ _ hst fun h1 tk k1 => ⟨rfl, inv.turnedL (t' := tk) (ch := cs) (fun b o nb e => k1 b o (fun m => nb (sub b m)) e) free⟩

/-! ### enumerate(tuple) -/
/-- the tuple at a, each item in a new pair -/
def IteT (K : PySem.W.Frag) (a : Addr) : It where
  go i H := ∃ (xs : List V) (x : V), SqT K H a xs ∧ xs[i]? = some x
  yld i H v H' := ∃ T x, v = .ref T ∧ H T = none ∧ H' = upd H T (.tup [.int (i : Nat), x]) ∧ ∀ xs, SqT K H a xs → xs[i]? = some x
  stop i H := ∃ xs : List V, SqT K H a xs ∧ xs.length = i
/-- the two cells of an enumerate over the tuple at a, i items taken -/
def EnumT (a e it : Addr) (i : Nat) (h : Heap) : Prop := (∃ old, IsEnum h e it (0 + (i : Int)) old) ∧ h.IsTupleIter it a i
theorem turn_enumT {P : Program} {w : World} {K : PySem.W.Frag} {elts : List Expr} {kk : Nat} {tpos : Pos} {a e it : Addr} (hei : e ≠ it) (hai : a ≠ it) (hae : a ≠ e) : Turn P w K (.Tuple elts kk tpos) (IteT K a) [e, it] e (EnumT a e it) := by
  have W : ∀ (A : Around), A.handled = none → ∀ items : Array Value, _ := fun A hh items =>
    WalksT.enumFrom (prog := P) (w := w) (A := A) 0 (Draws.tuple (A := A.in1) hh it a hai items) e hei (by simp only [List.mem_cons, List.not_mem_nil, or_false, not_or]; exact ⟨hei, Ne.symm hae⟩) (List.mem_cons_self ..)
  refine turn_pairs (List.mem_cons_self ..) (fun i h st b hb => ?_) (fun i g g' st k => ?_) (fun A i s Q E st q => ?_) (fun X pins s σ H i eP ew eK hh inv st go => ?_) (fun X pins s σ H i eP ew eK hh inv st stop => ?_)
  · obtain ⟨⟨old, he⟩, o, ho, _, hd⟩ := st
    rcases List.mem_cons.mp hb with z | z
    · subst z
      exact ⟨_, he, fun v q => nomatch q⟩
    · exact ⟨o, by rw [List.mem_singleton.mp z]; exact ho, fun v q => by rw [hd] at q; cases q⟩
  · obtain ⟨⟨old, he⟩, hi⟩ := st
    exact ⟨⟨old, k e (List.mem_cons_self ..) _ he⟩, hi.at fun o q => k it (List.mem_cons_of_mem _ (List.mem_cons_self ..)) o q⟩
  · obtain ⟨⟨_, he⟩, _⟩ := st
    exact wpAny_pyIter_enum he q
  · obtain ⟨xs, x, hq, hx⟩ := go
    subst eK
    obtain ⟨its, rv, tup, _⟩ := inv.tuple hq
    obtain ⟨u, hu, ru⟩ := rv.get hx
    have hu' : its.toArray[i]? = some u := by simpa using hu
    have hin : i < its.toArray.size := (Array.getElem?_eq_some_iff.mp hu').1
    refine ⟨.int (i : Nat), x, ⟨_, _, _, _, _, _, W X.A hh its.toArray, fun b hb => hb, ⟨st.1, st.2, tup⟩, fun j g z => ⟨z.1, z.2.1⟩, fun _ => ⟨hin, fun vals hP => ?_⟩, fun f => absurd trivial f⟩, fun T hT => ⟨T, x, rfl, hT, rfl, fun ys hy => by rw [inv.tuple_inj hy hq]; exact hx⟩⟩
    obtain ⟨t, v, hv, rfl⟩ := hP
    refine ⟨_, v, rfl, ⟨t, by rw [Int.zero_add]⟩, ?_⟩
    have e1 : its.toArray[i]? = some v := hv
    rw [e1] at hu'
    rw [Option.some.inj hu']
    exact ru
  · obtain ⟨xs, hq, hx⟩ := stop
    subst eK
    obtain ⟨its, rv, tup, _⟩ := inv.tuple hq
    have hl := rv.length
    exact ⟨_, _, _, _, _, _, W X.A hh its.toArray, fun b hb => hb, ⟨st.1, st.2, tup⟩, fun j g z => ⟨z.1, z.2.1⟩, fun f => f.elim, fun _ => by rw [List.size_toArray]; omega⟩
set_option maxHeartbeats 1000000 in
/-- enumerate(v): an iterator over v, and the object itself -/
theorem meets_enum1 {v : Value} {o : Obj} {There : Heap → Prop} (B : Begins v o There) :
    Meets (Builtin.«enumerate.__new__» ⟨[.type "enumerate", v], []⟩) fun _ R s => There s.heap ∧
      R (.ok (.ret (.ref (s.heap.push o).objs.size))) { s with heap := (s.heap.push o).push { cls := .type "enumerate", data := .fields #[.none, .bool false, .ref s.heap.objs.size, rawInt 0, .none, .none] } } :=
  .of_wp fun prog w A R s there => by
    obtain ⟨there, after⟩ := there
    obtain ⟨hp, gens, drawn, toks, os⟩ := s
    have sub := sub_enumerate
    have begin_ : ∀ {A' : Around} {E Q : Value → Shared → Prop}, Q (.ref hp.objs.size) ⟨hp.push o, gens, drawn, toks, os⟩ → wpAny (model prog w) A' (pyIter v) Q E ⟨hp, gens, drawn, toks, os⟩ := fun q => B.iter prog w _ _ _ _ there q
    wp_walk using begin_
    refine wpAny_stack_any fun frames => wpAny_pure ?_
    split <;> (try (rename_i c _ _ _ _ _; cases (c == Value.type "enumerate"))) <;> (wp_walk using begin_; exact ⟨_, rfl, after⟩)
theorem enum_over {prog : Program} {w : World} {A : Around} {E : Value → Shared → Prop} {s : Shared} {a : Addr} {items : Array Value} {Q : Value → Shared → Prop} (tup : s.heap.IsTuple a items)
    (next : ∀ g, EnumT a (s.heap.objs.size + 1) s.heap.objs.size 0 g → (∀ b o, s.heap.get? b = some o → g.get? b = some o) → Q (.ref (s.heap.objs.size + 1)) { s with heap := g }) :
    wpAny (model prog w) A (call (.type "enumerate") [.ref a]) Q E s := by
  refine callType_new F.called_enumerate (by decide) (F.typeCall_enumerate_1 _) (F.newCall_enumerate_1 _) (fun obj => F.args_object_init_2 obj _) F.entry_enumerate_new (meets_enum1 (begins_tuple a items)) ⟨tup, ?_⟩
  generalize ho1 : ({ cls := .type "tuple_iterator", data := .fields #[.ref a, .int 0 0] } : Obj) = o1
  have n1 : (s.heap.push o1).objs.size = s.heap.objs.size + 1 := Heap.size_push ..
  have g2 := Heap.get?_push_size (s.heap.push o1) (o := { cls := .type "enumerate", data := .fields #[.none, .bool false, .ref s.heap.objs.size, rawInt 0, .none, .none] }) rfl
  have g1 := Heap.get?_push_of_some { cls := .type "enumerate", data := .fields #[.none, .bool false, .ref s.heap.objs.size, rawInt 0, .none, .none] } (Heap.get?_push_size s.heap (o := o1) (by subst ho1; rfl))
  show _ ∧ _
  rw [n1] at g2 ⊢
  subst ho1
  exact ⟨⟨_, g2, rfl⟩, next _ ⟨⟨_, g2⟩, _, g1, rfl, rfl⟩ fun b o e => Heap.get?_push_of_some _ (Heap.get?_push_of_some _ e)⟩
def iEnumT (K : PySem.W.Frag) (ta : TA) : TI := fun σ H R => ta σ H fun vs H1 => ∃ a xs, vs = [.ref a] ∧ SqT K H1 a xs ∧ R (IteT K a) H1
theorem pi_enumT {X : Cx} {e : Expr} {ta : TA} {p pos tpos : Pos} {elts : List Expr} {kk : Nat} (hg : Gl X "enumerate") (hm : X.mg "enumerate" = none) (ha : PA X [e] ta) (one : starEach [e] X.env = [(false, eval e X.env)] := by rfl) :
    PI X (.Tuple elts kk tpos) (.Call (.Name "enumerate" p) [e] [] pos) (iEnumT X.K ta) where
  run pins s σ H R inv h := by
    refine Call_ (ld_blt inv hg hm boot_enumerate (PyProof.Rows.callWith_type1 (thn (ha.run pos pins s σ H _ inv h) fun us s1 after => ?_) one rfl))
    obtain ⟨vs, H1, inv1, rel, a, xs, rfl, hq, q⟩ := after
    obtain ⟨u, rfl, ru⟩ := vals1 rel
    obtain rfl : u = Value.ref a := ru
    obtain ⟨its, _, tup, _⟩ := inv1.tuple hq
    have la : a < s1.heap.objs.size := by obtain ⟨oa, hoa, _⟩ := id tup; exact Heap.lt_size hoa
    refine enum_over tup fun g en k => ?_
    obtain ⟨⟨old, he⟩, _⟩ := id en
    refine wpAny_pyIter_enum he ?_
    refine ⟨s1.heap.objs.size + 1, [s1.heap.objs.size + 1, s1.heap.objs.size], EnumT a _ _, IteT X.K a, H1, rfl, inv1.kept (t' := s1.toks) k, turn_enumT (Nat.succ_ne_self _) (Nat.ne_of_lt la) (Nat.ne_of_lt (Nat.lt_succ_of_lt la)), en, fun b hb => ?_, q⟩
    have up : s1.heap.objs.size ≤ b := by
      rcases List.mem_cons.mp hb with z | z
      · exact z ▸ Nat.le_succ _
      · exact Nat.le_of_eq (List.mem_singleton.mp z).symm
    exact inv1.fpOk up (inv1.hok.fresh up)
theorem walk_enumT {K : PySem.W.Frag} {a : Addr} {xs : List V} : Walk (IteT K a) xs.length (fun H => SqT K H a xs) (YPair (fun i => some (.int (i : Nat))) (fun i => xs[i]?)) where
  goes i H hi q := ⟨xs, xs[i], q, List.getElem?_eq_getElem hi⟩
  stops H q := ⟨xs, q, rfl⟩
  yields i H v H' _ q y := let ⟨T, x, h1, h2, h3, h4⟩ := y; ⟨T, .int (i : Nat), x, h1, h2, h3, rfl, h4 xs q⟩

/-! ### zip(text, tuple) -/
def IzST (K : PySem.W.Frag) (z : Str) (b : Addr) : It where
  go i H := ∃ (ys : List V) (y : V), SqT K H b ys ∧ i < z.cps.size ∧ ys[i]? = some y
  yld i H v H' := ∃ T c y, v = .ref T ∧ H T = none ∧ H' = upd H T (.tup [.str ⟨#[c]⟩, y]) ∧ z.cps[i]? = some c ∧ ∀ ys, SqT K H b ys → ys[i]? = some y
  stop i H := ∃ ys : List V, SqT K H b ys ∧ i = min z.cps.size ys.length
/-- the five cells of a zip over the text x and the tuple at b, i pairs taken -/
def ZipST (x : Str) (t : Tok) (b z TI TO i1 i2 : Addr) (i : Nat) (h : Heap) : Prop := IsZip h z TI TO .none ∧ IsTupOf2 h TI (.ref i1) (.ref i2) ∧ (∃ a1 a2, IsTupOf2 h TO a1 a2) ∧ h.IsStrIter i1 (strIterType x) x t i ∧ h.IsTupleIter i2 b i
theorem turn_zipST {P : Program} {w : World} {K : PySem.W.Frag} {elts : List Expr} {kk : Nat} {tpos : Pos} {b z TI TO i1 i2 : Addr} {x : Str} {t : Tok} (S : ZipSep2 z TI TO i1 i2 [i1] [i2, b]) (hb : b ≠ i2) :
    Turn P w K (.Tuple elts kk tpos) (IzST K x b) [z, TO, i1, i2, TI] z (ZipST x t b z TI TO i1 i2) := by
  have W : ∀ (A : Around), A.handled = none → ∀ items : Array Value, _ := fun A hh items =>
    WalksT.zipD2 (prog := P) (w := w) (A := A) S (Draws.text (A := A.in1) hh i1 x t) (Draws.tuple (A := A.in1) hh i2 b hb items)
  have sub : ∀ c ∈ [z, TO, i1, i2], c ∈ [z, TO, i1, i2, TI] := fun c hc => List.mem_append_left [TI] hc
  have down : ∀ {items : Array Value} (j : Nat) (g : Heap), (IsZip g z TI TO .none ∧ IsTupOf2 g TI (.ref i1) (.ref i2) ∧ (∃ a1 a2, IsTupOf2 g TO a1 a2) ∧ g.IsStrIter i1 (strIterType x) x t j ∧ g.IsTupleIter i2 b j ∧ g.IsTuple b items) → ZipST x t b z TI TO i1 i2 j g := fun j g st => ⟨st.1, st.2.1, st.2.2.1, st.2.2.2.1, st.2.2.2.2.1⟩
  refine turn_pairs (List.mem_cons_self ..) (fun i h st c hc => ?_) (fun i g g' st k => ?_) (fun A i s Q E st q => wpAny_pyIter_zip st.1 q) (fun X pins s σ H i eP ew eK hh inv st go => ?_) (fun X pins s σ H i eP ew eK hh inv st stop => ?_)
  · obtain ⟨s1, s2, ⟨u1, u2, s3⟩, ⟨o1, p1, _, d1⟩, ⟨o2, p2, _, d2⟩⟩ := st
    simp only [List.mem_cons, List.not_mem_nil, or_false] at hc
    rcases hc with rfl | rfl | rfl | rfl | rfl
    · exact ⟨_, s1, fun v q => nomatch q⟩
    · exact ⟨_, s3, fun v q => nomatch q⟩
    · exact ⟨o1, p1, fun v q => by rw [d1] at q; cases q⟩
    · exact ⟨o2, p2, fun v q => by rw [d2] at q; cases q⟩
    · exact ⟨_, s2, fun v q => nomatch q⟩
  · obtain ⟨s1, s2, ⟨u1, u2, s3⟩, ⟨o1, p1, r1⟩, s5⟩ := st
    have kk : ∀ c, c ∈ [z, TO, i1, i2, TI] → ∀ o, g.get? c = some o → g'.get? c = some o := k
    simp only [List.mem_cons, List.not_mem_nil, or_false, forall_eq_or_imp, forall_eq] at kk
    obtain ⟨k1, k2, k3, k4, k5⟩ := kk
    exact ⟨k1 _ s1, k5 _ s2, ⟨u1, u2, k2 _ s3⟩, ⟨o1, k3 _ p1, r1⟩, s5.at fun o q => k4 o q⟩
  · obtain ⟨ys, y, hq, hx, hy⟩ := go
    subst eK
    obtain ⟨its, rv, tup, _⟩ := inv.tuple hq
    obtain ⟨u, hu, ru⟩ := rv.get hy
    have hu' : its.toArray[i]? = some u := by simpa using hu
    have hin : i < its.toArray.size := (Array.getElem?_eq_some_iff.mp hu').1
    have hc : x.cps[i]? = some x.cps[i] := Array.getElem?_eq_getElem hx
    refine ⟨.str ⟨#[x.cps[i]]⟩, y, ⟨_, _, _, _, _, _, W X.A hh its.toArray, sub, ⟨st.1, st.2.1, st.2.2.1, st.2.2.2.1, st.2.2.2.2, tup⟩, fun j g q => down j g q, fun _ => ⟨by omega, fun vals hP => ?_⟩, fun f => absurd trivial f⟩, fun T hT => ⟨T, x.cps[i], y, rfl, hT, rfl, hc, fun l hl => by rw [inv.tuple_inj hl hq]; exact hy⟩⟩
    obtain ⟨x1, x2, ⟨c, tc, e1, rfl⟩, e2, rfl⟩ := hP
    rw [hc] at e1
    have e2 : its.toArray[i]? = some x2 := e2
    rw [hu'] at e2
    refine ⟨_, x2, rfl, ⟨tc, by rw [Option.some.inj e1]⟩, by rw [← Option.some.inj e2]; exact ru⟩
  · obtain ⟨ys, hq, hi⟩ := stop
    subst eK
    obtain ⟨its, rv, tup, _⟩ := inv.tuple hq
    have hl := rv.length
    exact ⟨_, _, _, _, _, _, W X.A hh its.toArray, sub, ⟨st.1, st.2.1, st.2.2.1, st.2.2.2.1, st.2.2.2.2, tup⟩, fun j g q => down j g q, fun f => f.elim, fun _ => (show i = min x.cps.size its.toArray.size from by
      have e : its.toArray.size = ys.length := by simpa using hl.symm
      rw [e]
      exact hi)⟩
def iZipST (K : PySem.W.Frag) (ta : TA) : TI := fun σ H R => ta σ H fun vs H1 => ∃ z b ys, vs = [.str z, .ref b] ∧ SqT K H1 b ys ∧ R (IzST K z b) H1
theorem pi_zipST {X : Cx} {e e2 : Expr} {ta : TA} {p pos tpos : Pos} {elts : List Expr} {kk : Nat} (hg : Gl X "zip") (hm : X.mg "zip" = none) (ha : PA X [e, e2] ta)
    (s1 : starEach [e, e2] X.env = (false, eval e X.env) :: starEach [e2] X.env := by rfl) (s2 : (backTo pos (starEach [e2] X.env)).any (·.1) = false := by rfl) : PI X (.Tuple elts kk tpos) (.Call (.Name "zip" p) [e, e2] [] pos) (iZipST X.K ta) where
  run pins s σ H R inv h := by
    refine Call_ (ld_blt inv hg hm PyProof.Rows.boot_zip (PyProof.Rows.callWith_type1 (thn (ha.run pos pins s σ H _ inv h) fun us s1 after => ?_) s1 s2))
    obtain ⟨vs, H1, inv1, rel, z, b, ys, rfl, hq, q⟩ := after
    obtain ⟨n, hn⟩ : ∃ n, n = s1.heap.objs.size := ⟨_, rfl⟩
    match us, rel with
    | [_, _], .cons r1 (.cons r2 .nil) =>
      obtain ⟨t, rfl⟩ := r1
      cases r2
      obtain ⟨its, _, tup, _⟩ := inv1.tuple hq
      have lb : b < s1.heap.objs.size := by obtain ⟨ob, hob, _⟩ := id tup; exact Heap.lt_size hob
      refine zip_begins2 (begins_text z t) (begins_tuple b its.toArray) trivial tup fun g c1 c2 c3 c4 c5 _ k => wpAny_pyIter_zip c1 ?_
      have S : ZipSep2 (s1.heap.objs.size + 4) (s1.heap.objs.size + 2) (s1.heap.objs.size + 3) s1.heap.objs.size (s1.heap.objs.size + 1) [s1.heap.objs.size] [s1.heap.objs.size + 1, b] :=
        zip_sep2 (fp1 := []) (fp2 := [b]) (fun c hc => by cases hc) (fun c hc => by rw [List.mem_singleton.mp hc]; exact lb)
      refine ⟨_, [s1.heap.objs.size + 4, s1.heap.objs.size + 3, s1.heap.objs.size, s1.heap.objs.size + 1, s1.heap.objs.size + 2], ZipST z t b _ _ _ _ _, IzST X.K z b, H1, rfl, inv1.kept (t' := s1.toks) k, turn_zipST S (Nat.ne_of_lt (Nat.lt_succ_of_lt lb)), ⟨c1, c2, ⟨_, _, c3⟩, ⟨_, c4, rfl, rfl⟩, ⟨_, c5, rfl, rfl⟩⟩, fun c hc => ?_, q⟩
      have up : s1.heap.objs.size ≤ c := by
        simp only [List.mem_cons, List.not_mem_nil, or_false] at hc
        rcases hc with rfl | rfl | rfl | rfl | rfl <;> first | exact Nat.le_refl _ | exact Nat.le_add_right _ _
      exact inv1.fpOk up (inv1.hok.fresh up)
theorem walk_zipST {K : PySem.W.Frag} {z : Str} {b : Addr} {ys : List V} (hl : z.cps.size = ys.length) : Walk (IzST K z b) ys.length (fun H => SqT K H b ys) (YPair (fun i => (z.cps[i]?).map fun c => V.str ⟨#[c]⟩) (fun i => ys[i]?)) where
  goes i H hi q := ⟨ys, ys[i], q, by omega, List.getElem?_eq_getElem hi⟩
  stops H q := ⟨ys, q, by omega⟩
  yields i H v H' _ q y := let ⟨T, c, y, h1, h2, h3, h4, h5⟩ := y; ⟨T, .str ⟨#[c]⟩, y, h1, h2, h3, by show Option.map _ z.cps[i]? = _; rw [h4]; rfl, h5 ys q⟩
end MyR

set_option pp.maxSteps 400
set_option Elab.async false
set_option linter.all false
set_option maxRecDepth 100000
set_option maxHeartbeats 1000000
namespace MyR
open PySem PySem.Spec PyProof.Rows L2
/-! ### zip(text, list) -/
theorem plain_isL {h : Heap} {a : Addr} {its : Array Value} (x : PlainL h a its) : h.IsList a its := by
  obtain ⟨o, n, e, c, _, d⟩ := x
  exact ⟨o, e, c, n, d⟩
def IzSL (K : PySem.W.Frag) (z : Str) (b : Addr) : It where
  go i H := ∃ (ys : List V) (y : V), SqL K H b ys ∧ i < z.cps.size ∧ ys[i]? = some y
  yld i H v H' := ∃ T c y, v = .ref T ∧ H T = none ∧ H' = upd H T (.tup [.str ⟨#[c]⟩, y]) ∧ z.cps[i]? = some c ∧ ∀ ys, SqL K H b ys → ys[i]? = some y
  stop i H := ∃ ys : List V, SqL K H b ys ∧ i = min z.cps.size ys.length
/-- the five cells of a zip over the text x and the tuple at b, i pairs taken -/
def ZipSL (x : Str) (t : Tok) (b z TI TO i1 i2 : Addr) (i : Nat) (h : Heap) : Prop := IsZip h z TI TO .none ∧ IsTupOf2 h TI (.ref i1) (.ref i2) ∧ (∃ a1 a2, IsTupOf2 h TO a1 a2) ∧ h.IsStrIter i1 (strIterType x) x t i ∧ h.IsListIter i2 b i
theorem turn_zipSL {P : Program} {w : World} {K : PySem.W.Frag} {elts : List Expr} {kk : Nat} {tpos : Pos} {b z TI TO i1 i2 : Addr} {x : Str} {t : Tok} (S : ZipSep2 z TI TO i1 i2 [i1] [i2, b]) (hb : b ≠ i2) :
    Turn P w K (.Tuple elts kk tpos) (IzSL K x b) [z, TO, i1, i2, TI] z (ZipSL x t b z TI TO i1 i2) := by
  have W : ∀ (A : Around), A.handled = none → ∀ items : Array Value, _ := fun A hh items =>
    WalksT.zipD2 (prog := P) (w := w) (A := A) S (Draws.text (A := A.in1) hh i1 x t) (Draws.list (A := A.in1) hh i2 b hb items)
  have sub : ∀ c ∈ [z, TO, i1, i2], c ∈ [z, TO, i1, i2, TI] := fun c hc => List.mem_append_left [TI] hc
  have down : ∀ {items : Array Value} (j : Nat) (g : Heap), (IsZip g z TI TO .none ∧ IsTupOf2 g TI (.ref i1) (.ref i2) ∧ (∃ a1 a2, IsTupOf2 g TO a1 a2) ∧ g.IsStrIter i1 (strIterType x) x t j ∧ g.IsListIter i2 b j ∧ g.IsList b items) → ZipSL x t b z TI TO i1 i2 j g := fun j g st => ⟨st.1, st.2.1, st.2.2.1, st.2.2.2.1, st.2.2.2.2.1⟩
  refine turn_pairs (List.mem_cons_self ..) (fun i h st c hc => ?_) (fun i g g' st k => ?_) (fun A i s Q E st q => wpAny_pyIter_zip st.1 q) (fun X pins s σ H i eP ew eK hh inv st go => ?_) (fun X pins s σ H i eP ew eK hh inv st stop => ?_)
  · obtain ⟨s1, s2, ⟨u1, u2, s3⟩, ⟨o1, p1, _, d1⟩, ⟨o2, p2, _, d2⟩⟩ := st
    simp only [List.mem_cons, List.not_mem_nil, or_false] at hc
    rcases hc with rfl | rfl | rfl | rfl | rfl
    · exact ⟨_, s1, fun v q => nomatch q⟩
    · exact ⟨_, s3, fun v q => nomatch q⟩
    · exact ⟨o1, p1, fun v q => by rw [d1] at q; cases q⟩
    · exact ⟨o2, p2, fun v q => by rw [d2] at q; cases q⟩
    · exact ⟨_, s2, fun v q => nomatch q⟩
  · obtain ⟨s1, s2, ⟨u1, u2, s3⟩, ⟨o1, p1, r1⟩, s5⟩ := st
    have kk : ∀ c, c ∈ [z, TO, i1, i2, TI] → ∀ o, g.get? c = some o → g'.get? c = some o := k
    simp only [List.mem_cons, List.not_mem_nil, or_false, forall_eq_or_imp, forall_eq] at kk
    obtain ⟨k1, k2, k3, k4, k5⟩ := kk
    exact ⟨k1 _ s1, k5 _ s2, ⟨u1, u2, k2 _ s3⟩, ⟨o1, k3 _ p1, r1⟩, s5.at fun o q => k4 o q⟩
  · obtain ⟨ys, y, hq, hx, hy⟩ := go
    subst eK
    obtain ⟨its, rv, tup0, _⟩ := inv.list hq
    have tup := plain_isL tup0
    obtain ⟨u, hu, ru⟩ := rv.get hy
    have hu' : its.toArray[i]? = some u := by simpa using hu
    have hin : i < its.toArray.size := (Array.getElem?_eq_some_iff.mp hu').1
    have hc : x.cps[i]? = some x.cps[i] := Array.getElem?_eq_getElem hx
    refine ⟨.str ⟨#[x.cps[i]]⟩, y, ⟨_, _, _, _, _, _, W X.A hh its.toArray, sub, ⟨st.1, st.2.1, st.2.2.1, st.2.2.2.1, st.2.2.2.2, tup⟩, fun j g q => down j g q, fun _ => ⟨by omega, fun vals hP => ?_⟩, fun f => absurd trivial f⟩, fun T hT => ⟨T, x.cps[i], y, rfl, hT, rfl, hc, fun l hl => by rw [inv.list_inj hl hq]; exact hy⟩⟩
    obtain ⟨x1, x2, ⟨c, tc, e1, rfl⟩, e2, rfl⟩ := hP
    rw [hc] at e1
    have e2 : its.toArray[i]? = some x2 := e2
    rw [hu'] at e2
    refine ⟨_, x2, rfl, ⟨tc, by rw [Option.some.inj e1]⟩, by rw [← Option.some.inj e2]; exact ru⟩
  · obtain ⟨ys, hq, hi⟩ := stop
    subst eK
    obtain ⟨its, rv, tup0, _⟩ := inv.list hq
    have tup := plain_isL tup0
    have hl := rv.length
    exact ⟨_, _, _, _, _, _, W X.A hh its.toArray, sub, ⟨st.1, st.2.1, st.2.2.1, st.2.2.2.1, st.2.2.2.2, tup⟩, fun j g q => down j g q, fun f => f.elim, fun _ => (show i = min x.cps.size its.toArray.size from by
      have e : its.toArray.size = ys.length := by simpa using hl.symm
      rw [e]
      exact hi)⟩
def iZipSL (K : PySem.W.Frag) (ta : TA) : TI := fun σ H R => ta σ H fun vs H1 => ∃ z b ys, vs = [.str z, .ref b] ∧ SqL K H1 b ys ∧ R (IzSL K z b) H1
theorem pi_zipSL {X : Cx} {e e2 : Expr} {ta : TA} {p pos tpos : Pos} {elts : List Expr} {kk : Nat} (hg : Gl X "zip") (hm : X.mg "zip" = none) (ha : PA X [e, e2] ta)
    (s1 : starEach [e, e2] X.env = (false, eval e X.env) :: starEach [e2] X.env := by rfl) (s2 : (backTo pos (starEach [e2] X.env)).any (·.1) = false := by rfl) : PI X (.Tuple elts kk tpos) (.Call (.Name "zip" p) [e, e2] [] pos) (iZipSL X.K ta) where
  run pins s σ H R inv h := by
    refine Call_ (ld_blt inv hg hm PyProof.Rows.boot_zip (PyProof.Rows.callWith_type1 (thn (ha.run pos pins s σ H _ inv h) fun us s1 after => ?_) s1 s2))
    obtain ⟨vs, H1, inv1, rel, z, b, ys, rfl, hq, q⟩ := after
    obtain ⟨n, hn⟩ : ∃ n, n = s1.heap.objs.size := ⟨_, rfl⟩
    match us, rel with
    | [_, _], .cons r1 (.cons r2 .nil) =>
      obtain ⟨t, rfl⟩ := r1
      cases r2
      obtain ⟨its, _, tup0, _⟩ := inv1.list hq
      have tup := plain_isL tup0
      have lb : b < s1.heap.objs.size := by obtain ⟨ob, hob, _⟩ := id tup; exact Heap.lt_size hob
      refine zip_begins2 (begins_text z t) (begins_list b its.toArray) trivial tup fun g c1 c2 c3 c4 c5 _ k => wpAny_pyIter_zip c1 ?_
      have S : ZipSep2 (s1.heap.objs.size + 4) (s1.heap.objs.size + 2) (s1.heap.objs.size + 3) s1.heap.objs.size (s1.heap.objs.size + 1) [s1.heap.objs.size] [s1.heap.objs.size + 1, b] :=
        zip_sep2 (fp1 := []) (fp2 := [b]) (fun c hc => by cases hc) (fun c hc => by rw [List.mem_singleton.mp hc]; exact lb)
      refine ⟨_, [s1.heap.objs.size + 4, s1.heap.objs.size + 3, s1.heap.objs.size, s1.heap.objs.size + 1, s1.heap.objs.size + 2], ZipSL z t b _ _ _ _ _, IzSL X.K z b, H1, rfl, inv1.kept (t' := s1.toks) k, turn_zipSL S (Nat.ne_of_lt (Nat.lt_succ_of_lt lb)), ⟨c1, c2, ⟨_, _, c3⟩, ⟨_, c4, rfl, rfl⟩, ⟨_, c5, rfl, rfl⟩⟩, fun c hc => ?_, q⟩
      have up : s1.heap.objs.size ≤ c := by
        simp only [List.mem_cons, List.not_mem_nil, or_false] at hc
        rcases hc with rfl | rfl | rfl | rfl | rfl <;> first | exact Nat.le_refl _ | exact Nat.le_add_right _ _
      exact inv1.fpOk up (inv1.hok.fresh up)
theorem walk_zipSL {K : PySem.W.Frag} {z : Str} {b : Addr} {ys : List V} (hl : z.cps.size = ys.length) : Walk (IzSL K z b) ys.length (fun H => SqL K H b ys) (YPair (fun i => (z.cps[i]?).map fun c => V.str ⟨#[c]⟩) (fun i => ys[i]?)) where
  goes i H hi q := ⟨ys, ys[i], q, by omega, List.getElem?_eq_getElem hi⟩
  stops H q := ⟨ys, q, by omega⟩
  yields i H v H' _ q y := let ⟨T, c, y, h1, h2, h3, h4, h5⟩ := y; ⟨T, .str ⟨#[c]⟩, y, h1, h2, h3, by show Option.map _ z.cps[i]? = _; rw [h4]; rfl, h5 ys q⟩
end MyR

set_option Elab.async false
set_option linter.all false
set_option maxRecDepth 100000
set_option maxHeartbeats 1000000
namespace MyR
open PySem PySem.Spec PyProof.Rows L2
/-! ### zip over two or three sequences, each a list or a tuple, the target of any form -/
def TupAt (P : Program) (w : World) (A : Around) (I : Addr) (cs : List Addr) (own : Nat → Heap → Prop) (h : Heap) (i : Nat) (xs : List V) (more : Prop) : Prop :=
  ∃ (n : Nat) (wr fp : List Addr) (Pt : Nat → Array Value → Prop) (St : Nat → Heap → Prop) (Mid : Nat → Addr → Heap → Prop), WalksT P w A I fp wr n Pt St Mid ∧ (∀ b ∈ wr, b ∈ cs) ∧ St i h ∧ (∀ j g, St j g → own j g) ∧
    ((more → i < n ∧ ∀ vals, Pt i vals → ∃ us : List Value, vals = us.toArray ∧ Vals xs us) ∧ (¬ more → i = n))
theorem turn_tups {P : Program} {w : World} {K : PySem.W.Frag} {elts : List Expr} {kk : Nat} {tpos : Pos} {I : Addr} {cs : List Addr} {J : It} {own : Nat → Heap → Prop} (hI : I ∈ cs)
    (cells : ∀ i h, own i h → ∀ b ∈ cs, ∃ o, h.get? b = some o ∧ ∀ v, o.data ≠ .cell v)
    (stays : ∀ i g g', own i g → (∀ b ∈ cs, ∀ o, g.get? b = some o → g'.get? b = some o) → own i g')
    (again : ∀ (A : Around) (i : Nat) (s : Shared) (Q E : Value → Shared → Prop), own i s.heap → Q (.ref I) s → wpAny (model P w) A (pyIter (.ref I)) Q E s)
    (goes : ∀ (X : Cx) (pins : List (Addr × Obj)) (s : Shared) (σ : L2.St) (H : Hp) (i : Nat), X.prog = P → X.w = w → X.K = K → X.A.handled = none → Inv X pins σ H s → own i s.heap → J.go i H →
      ∃ xs : List V, xs.length ≤ 3 ∧ TupAt P w X.A I cs own s.heap i xs True ∧ ∀ T, H T = none → J.yld i H (.ref T) (upd H T (.tup xs)))
    (ends : ∀ (X : Cx) (pins : List (Addr × Obj)) (s : Shared) (σ : L2.St) (H : Hp) (i : Nat), X.prog = P → X.w = w → X.K = K → X.A.handled = none → Inv X pins σ H s → own i s.heap → J.stop i H → TupAt P w X.A I cs own s.heap i [] False) :
    Turn P w K (.Tuple elts kk tpos) J cs I own where
  mem := hI
  obj := cells
  keep := stays
  self := again
  item := by
    intro X eP ew eK calm i pins s σ H E inv free st more
    obtain ⟨xs, hx3, ⟨n, wr, fp, Pt, St, Mid, W, sub, hst, hown, hmore, _⟩, hyld⟩ := goes X pins s σ H i eP ew eK (inv.ok.hd calm) inv st more
    obtain ⟨hin, hvals⟩ := hmore trivial
    subst eP ew eK
    refine W.item i s _ _ hin hst fun T vals h1 tk hP hT hTup hMid k1 => ?_
    obtain ⟨us, rfl, rv⟩ := hvals vals hP
    refine ⟨.ref T, rfl, W.go elts kk tpos i T _ _ _ hMid fun h2 st2 k2 => ?_⟩
    have tup2 : h2.IsTuple T us.toArray := hTup.at fun o e => k2 T o (W.apart i T h1 hMid) e
    have fresh : H T = none := inv.hok.fresh hT
    have inv2 : Inv X pins σ (upd H T (.tup xs)) { s with heap := h2, toks := tk } :=
      inv.turnedNew (ch := cs) (fun b o nb e => k2 b o (fun m => nb (sub b m)) (k1 b o (fun m => nb (sub b m)) e)) free hT ⟨(by show xs.length ≤ sizeLine; rw [sizeLine_eq]; omega), us, rv, tup2⟩
    refine ⟨.ref T, _, inv2, rfl, hyld T fresh, hown _ _ st2, fun b hb => ?_⟩
    obtain ⟨o, ho, _⟩ := cells i _ st b hb
    rw [upd_ne (Nat.ne_of_lt (Nat.lt_of_lt_of_le (Heap.lt_size ho) hT))]
    exact (free b hb).1
  done := by
    intro X eP ew eK calm i pins s σ H E inv free st stop
    obtain ⟨n, wr, fp, Pt, St, Mid, W, sub, hst, _, _, hend⟩ := ends X pins s σ H i eP ew eK (inv.ok.hd calm) inv st stop
    obtain rfl := hend (fun f => f)
    subst eP ew eK
    exact W.done s _ _ hst fun h1 tk k1 => ⟨rfl, inv.turnedL (t' := tk) (ch := cs) (fun b o nb e => k1 b o (fun m => nb (sub b m)) e) free⟩
/-- a list (false) or a tuple (true) -/
def SqK (k : Bool) (K : PySem.W.Frag) (H : Hp) (a : Addr) (xs : List V) : Prop := if k = true then SqT K H a xs else SqL K H a xs
def IsK (k : Bool) (h : Heap) (a : Addr) (items : Array Value) : Prop := if k = true then h.IsTuple a items else h.IsList a items
def IterK (k : Bool) (h : Heap) (it a : Addr) (i : Nat) : Prop := if k = true then h.IsTupleIter it a i else h.IsListIter it a i
def oK (k : Bool) (a : Addr) : Obj := { cls := .type (if k = true then "tuple_iterator" else "list_iterator"), data := .fields #[.ref a, .int 0 0] }
theorem draws_k {prog : Program} {w : World} {A : Around} (k : Bool) (hh : A.handled = none) (it a : Addr) (hne : a ≠ it) (items : Array Value) :
    Draws prog w A it [it, a] items.size (fun i v => items[i]? = some v) (fun i h => IterK k h it a i ∧ IsK k h a items) := by
  cases k
  · exact Draws.list hh it a hne items
  · exact Draws.tuple hh it a hne items
theorem begins_k (k : Bool) (a : Addr) (items : Array Value) : Begins (.ref a) (oK k a) fun h => IsK k h a items := by
  cases k
  · exact begins_list a items
  · exact begins_tuple a items
theorem IterK.first {k : Bool} {h : Heap} {it a : Addr} (e : h.get? it = some (oK k a)) : IterK k h it a 0 := by
  cases k
  · exact ⟨_, e, rfl, rfl⟩
  · exact ⟨_, e, rfl, rfl⟩
theorem IterK.at {k : Bool} {h h' : Heap} {it a : Addr} {i : Nat} (x : IterK k h it a i) (f : ∀ o, h.get? it = some o → h'.get? it = some o) : IterK k h' it a i := by
  cases k
  · exact Heap.IsListIter.at x f
  · exact Heap.IsTupleIter.at x f
theorem IterK.cell {k : Bool} {h : Heap} {it a : Addr} {i : Nat} (x : IterK k h it a i) : ∃ o, h.get? it = some o ∧ ∀ v, o.data ≠ .cell v := by
  cases k
  · obtain ⟨o, e, _, d⟩ := x
    exact ⟨o, e, fun v q => by rw [d] at q; cases q⟩
  · obtain ⟨o, e, _, d⟩ := x
    exact ⟨o, e, fun v q => by rw [d] at q; cases q⟩
theorem SqK.is {X : Cx} {pins : List (Addr × Obj)} {σ : L2.St} {H : Hp} {s : Shared} {k : Bool} {a : Addr} {xs : List V} (I : Inv X pins σ H s) (h : SqK k X.K H a xs) : ∃ its : List Value, Vals xs its ∧ IsK k s.heap a its.toArray := by
  cases k
  · obtain ⟨its, rv, t0, _⟩ := I.list h
    exact ⟨its, rv, plain_isL t0⟩
  · obtain ⟨its, rv, t0, _⟩ := I.tuple h
    exact ⟨its, rv, t0⟩
theorem SqK.inj {X : Cx} {pins : List (Addr × Obj)} {σ : L2.St} {H : Hp} {s : Shared} {k : Bool} {a : Addr} {xs ys : List V} (I : Inv X pins σ H s) (h : SqK k X.K H a xs) (g : SqK k X.K H a ys) : xs = ys := by
  cases k
  · exact I.list_inj h g
  · exact I.tuple_inj h g
theorem IsK.lt {k : Bool} {h : Heap} {a : Addr} {its : Array Value} (x : IsK k h a its) : a < h.objs.size := by
  cases k
  · obtain ⟨o, e, _⟩ := x
    exact Heap.lt_size e
  · obtain ⟨o, e, _⟩ := x
    exact Heap.lt_size e
/-! two -/
def ItzK (k1 k2 : Bool) (K : PySem.W.Frag) (a b : Addr) : It where
  go i H := ∃ (xs ys : List V) (x y : V), SqK k1 K H a xs ∧ SqK k2 K H b ys ∧ xs[i]? = some x ∧ ys[i]? = some y
  yld i H v H' := ∃ T x y, v = .ref T ∧ H T = none ∧ H' = upd H T (.tup [x, y]) ∧ (∀ xs, SqK k1 K H a xs → xs[i]? = some x) ∧ ∀ ys, SqK k2 K H b ys → ys[i]? = some y
  stop i H := ∃ xs ys : List V, SqK k1 K H a xs ∧ SqK k2 K H b ys ∧ i = min xs.length ys.length
def ZipK2 (k1 k2 : Bool) (a b z TI TO i1 i2 : Addr) (i : Nat) (h : Heap) : Prop := IsZip h z TI TO .none ∧ IsTupOf2 h TI (.ref i1) (.ref i2) ∧ (∃ a1 a2, IsTupOf2 h TO a1 a2) ∧ IterK k1 h i1 a i ∧ IterK k2 h i2 b i
theorem turn_zipK {P : Program} {w : World} {K : PySem.W.Frag} {k1 k2 : Bool} {elts : List Expr} {kk : Nat} {tpos : Pos} {a b z TI TO i1 i2 : Addr} (S : ZipSep2 z TI TO i1 i2 [i1, a] [i2, b]) (ha : a ≠ i1) (hb : b ≠ i2) :
    Turn P w K (.Tuple elts kk tpos) (ItzK k1 k2 K a b) [z, TO, i1, i2, TI] z (ZipK2 k1 k2 a b z TI TO i1 i2) := by
  have W : ∀ (A : Around), A.handled = none → ∀ it1 it2 : Array Value, _ := fun A hh it1 it2 =>
    WalksT.zipD2 (prog := P) (w := w) (A := A) S (draws_k (A := A.in1) k1 hh i1 a ha it1) (draws_k (A := A.in1) k2 hh i2 b hb it2)
  have sub : ∀ c ∈ [z, TO, i1, i2], c ∈ [z, TO, i1, i2, TI] := fun c hc => List.mem_append_left [TI] hc
  have down : ∀ {it1 it2 : Array Value} (j : Nat) (g : Heap), (IsZip g z TI TO .none ∧ IsTupOf2 g TI (.ref i1) (.ref i2) ∧ (∃ a1 a2, IsTupOf2 g TO a1 a2) ∧ (IterK k1 g i1 a j ∧ IsK k1 g a it1) ∧ (IterK k2 g i2 b j ∧ IsK k2 g b it2)) → ZipK2 k1 k2 a b z TI TO i1 i2 j g := fun j g st => ⟨st.1, st.2.1, st.2.2.1, st.2.2.2.1.1, st.2.2.2.2.1⟩
  refine turn_tups (List.mem_cons_self ..) (fun i h st c hc => ?_) (fun i g g' st k => ?_) (fun A i s Q E st q => wpAny_pyIter_zip st.1 q) (fun X pins s σ H i eP ew eK hh inv st go => ?_) (fun X pins s σ H i eP ew eK hh inv st stop => ?_)
  · obtain ⟨s1, s2, ⟨u1, u2, s3⟩, s4, s5⟩ := st
    simp only [List.mem_cons, List.not_mem_nil, or_false] at hc
    rcases hc with rfl | rfl | rfl | rfl | rfl
    · exact ⟨_, s1, fun v q => nomatch q⟩
    · exact ⟨_, s3, fun v q => nomatch q⟩
    · exact s4.cell
    · exact s5.cell
    · exact ⟨_, s2, fun v q => nomatch q⟩
  · obtain ⟨s1, s2, ⟨u1, u2, s3⟩, s4, s5⟩ := st
    have kk : ∀ c, c ∈ [z, TO, i1, i2, TI] → ∀ o, g.get? c = some o → g'.get? c = some o := k
    simp only [List.mem_cons, List.not_mem_nil, or_false, forall_eq_or_imp, forall_eq] at kk
    obtain ⟨q1, q2, q3, q4, q5⟩ := kk
    exact ⟨q1 _ s1, q5 _ s2, ⟨u1, u2, q2 _ s3⟩, s4.at fun o q => q3 o q, s5.at fun o q => q4 o q⟩
  · obtain ⟨xs, ys, x, y, hq1, hq2, hx, hy⟩ := go
    subst eK
    obtain ⟨it1, rv1, t1⟩ := hq1.is inv
    obtain ⟨it2, rv2, t2⟩ := hq2.is inv
    obtain ⟨u1, hu1, ru1⟩ := rv1.get hx
    obtain ⟨u2, hu2, ru2⟩ := rv2.get hy
    have hu1' : it1.toArray[i]? = some u1 := by simpa using hu1
    have hu2' : it2.toArray[i]? = some u2 := by simpa using hu2
    have hin1 : i < it1.toArray.size := (Array.getElem?_eq_some_iff.mp hu1').1
    have hin2 : i < it2.toArray.size := (Array.getElem?_eq_some_iff.mp hu2').1
    refine ⟨[x, y], by show 2 ≤ 3; decide, ⟨_, _, _, _, _, _, W X.A hh it1.toArray it2.toArray, sub, ⟨st.1, st.2.1, st.2.2.1, ⟨st.2.2.2.1, t1⟩, ⟨st.2.2.2.2, t2⟩⟩, fun j g q => down j g q, fun _ => ⟨by omega, fun vals hP => ?_⟩, fun f => absurd trivial f⟩, fun T hT => ⟨T, x, y, rfl, hT, rfl, fun l hl => by rw [hl.inj inv hq1]; exact hx, fun l hl => by rw [hl.inj inv hq2]; exact hy⟩⟩
    obtain ⟨x1, x2, e1, e2, rfl⟩ := hP
    have e1 : it1.toArray[i]? = some x1 := e1
    have e2 : it2.toArray[i]? = some x2 := e2
    rw [hu1'] at e1
    rw [hu2'] at e2
    exact ⟨[x1, x2], rfl, .cons (by rw [← Option.some.inj e1]; exact ru1) (.cons (by rw [← Option.some.inj e2]; exact ru2) .nil)⟩
  · obtain ⟨xs, ys, hq1, hq2, hi⟩ := stop
    subst eK
    obtain ⟨it1, rv1, t1⟩ := hq1.is inv
    obtain ⟨it2, rv2, t2⟩ := hq2.is inv
    have l1 := rv1.length
    have l2 := rv2.length
    exact ⟨_, _, _, _, _, _, W X.A hh it1.toArray it2.toArray, sub, ⟨st.1, st.2.1, st.2.2.1, ⟨st.2.2.2.1, t1⟩, ⟨st.2.2.2.2, t2⟩⟩, fun j g q => down j g q, fun f => f.elim, fun _ => (show i = min it1.toArray.size it2.toArray.size from by
      rw [List.size_toArray, List.size_toArray, ← l1, ← l2]
      exact hi)⟩
def iZipK (K : PySem.W.Frag) (ta : TA) : TI := fun σ H R => ta σ H fun vs H1 => ∃ k1 k2 a b xs ys, vs = [.ref a, .ref b] ∧ SqK k1 K H1 a xs ∧ SqK k2 K H1 b ys ∧ R (ItzK k1 k2 K a b) H1
theorem pi_zipK {X : Cx} {e e2 : Expr} {ta : TA} {p pos tpos : Pos} {elts : List Expr} {kk : Nat} (hg : Gl X "zip") (hm : X.mg "zip" = none) (ha : PA X [e, e2] ta)
    (s1 : starEach [e, e2] X.env = (false, eval e X.env) :: starEach [e2] X.env := by rfl) (s2 : (backTo pos (starEach [e2] X.env)).any (·.1) = false := by rfl) : PI X (.Tuple elts kk tpos) (.Call (.Name "zip" p) [e, e2] [] pos) (iZipK X.K ta) where
  run pins s σ H R inv h := by
    refine Call_ (ld_blt inv hg hm PyProof.Rows.boot_zip (PyProof.Rows.callWith_type1 (thn (ha.run pos pins s σ H _ inv h) fun us s1 after => ?_) s1 s2))
    obtain ⟨vs, H1, inv1, rel, k1, k2, a, b, xs, ys, rfl, hq1, hq2, q⟩ := after
    match us, rel with
    | [_, _], .cons r1 (.cons r2 .nil) =>
      cases r1
      cases r2
      obtain ⟨it1, _, t1⟩ := hq1.is inv1
      obtain ⟨it2, _, t2⟩ := hq2.is inv1
      have la := t1.lt
      have lb := t2.lt
      refine zip_begins2 (begins_k k1 a it1.toArray) (begins_k k2 b it2.toArray) t1 t2 fun g c1 c2 c3 c4 c5 _ k => wpAny_pyIter_zip c1 ?_
      have S : ZipSep2 (s1.heap.objs.size + 4) (s1.heap.objs.size + 2) (s1.heap.objs.size + 3) s1.heap.objs.size (s1.heap.objs.size + 1) [s1.heap.objs.size, a] [s1.heap.objs.size + 1, b] :=
        zip_sep2 (fp1 := [a]) (fp2 := [b]) (fun c hc => by rw [List.mem_singleton.mp hc]; exact la) (fun c hc => by rw [List.mem_singleton.mp hc]; exact lb)
      refine ⟨_, [s1.heap.objs.size + 4, s1.heap.objs.size + 3, s1.heap.objs.size, s1.heap.objs.size + 1, s1.heap.objs.size + 2], ZipK2 k1 k2 a b _ _ _ _ _, ItzK k1 k2 X.K a b, H1, rfl, inv1.kept (t' := s1.toks) k, turn_zipK S (Nat.ne_of_lt la) (Nat.ne_of_lt (Nat.lt_succ_of_lt lb)), ⟨c1, c2, ⟨_, _, c3⟩, .first c4, .first c5⟩, fun c hc => ?_, q⟩
      have up : s1.heap.objs.size ≤ c := by
        simp only [List.mem_cons, List.not_mem_nil, or_false] at hc
        rcases hc with rfl | rfl | rfl | rfl | rfl <;> first | exact Nat.le_refl _ | exact Nat.le_add_right _ _
      exact inv1.fpOk up (inv1.hok.fresh up)
theorem walk_zipK {K : PySem.W.Frag} {k1 k2 : Bool} {a b : Addr} {xs ys : List V} (hl : xs.length = ys.length) : Walk (ItzK k1 k2 K a b) xs.length (fun H => SqK k1 K H a xs ∧ SqK k2 K H b ys) (YPair (fun i => xs[i]?) (fun i => ys[i]?)) where
  goes i H hi q := ⟨xs, ys, xs[i], ys[i], q.1, q.2, List.getElem?_eq_getElem hi, List.getElem?_eq_getElem (by omega)⟩
  stops H q := ⟨xs, ys, q.1, q.2, by omega⟩
  yields i H v H' _ q y := let ⟨T, x, y, h1, h2, h3, h4, h5⟩ := y; ⟨T, x, y, h1, h2, h3, h4 xs q.1, h5 ys q.2⟩
/-! three -/
def ItzK3 (k1 k2 k3 : Bool) (K : PySem.W.Frag) (a b c : Addr) : It where
  go i H := ∃ (xs ys zs : List V) (x y z : V), SqK k1 K H a xs ∧ SqK k2 K H b ys ∧ SqK k3 K H c zs ∧ xs[i]? = some x ∧ ys[i]? = some y ∧ zs[i]? = some z
  yld i H v H' := ∃ T x y z, v = .ref T ∧ H T = none ∧ H' = upd H T (.tup [x, y, z]) ∧ (∀ xs, SqK k1 K H a xs → xs[i]? = some x) ∧ (∀ ys, SqK k2 K H b ys → ys[i]? = some y) ∧ ∀ zs, SqK k3 K H c zs → zs[i]? = some z
  stop i H := ∃ xs ys zs : List V, SqK k1 K H a xs ∧ SqK k2 K H b ys ∧ SqK k3 K H c zs ∧ i = min (min xs.length ys.length) zs.length
def ZipK3 (k1 k2 k3 : Bool) (a b c z TI TO i1 i2 i3 : Addr) (i : Nat) (h : Heap) : Prop := IsZip h z TI TO .none ∧ IsTupOf3 h TI (.ref i1) (.ref i2) (.ref i3) ∧ (∃ a1 a2 a3, IsTupOf3 h TO a1 a2 a3) ∧ IterK k1 h i1 a i ∧ IterK k2 h i2 b i ∧ IterK k3 h i3 c i
theorem turn_zipK3 {P : Program} {w : World} {K : PySem.W.Frag} {k1 k2 k3 : Bool} {elts : List Expr} {kk : Nat} {tpos : Pos} {a b c z TI TO i1 i2 i3 : Addr} (S : ZipSep3 z TI TO i1 i2 i3 [i1, a] [i2, b] [i3, c]) (ha : a ≠ i1) (hb : b ≠ i2) (hc : c ≠ i3) :
    Turn P w K (.Tuple elts kk tpos) (ItzK3 k1 k2 k3 K a b c) [z, TO, i1, i2, i3, TI] z (ZipK3 k1 k2 k3 a b c z TI TO i1 i2 i3) := by
  have W : ∀ (A : Around), A.handled = none → ∀ it1 it2 it3 : Array Value, _ := fun A hh it1 it2 it3 =>
    WalksT.zipD3 (prog := P) (w := w) (A := A) S (draws_k (A := A.in1) k1 hh i1 a ha it1) (draws_k (A := A.in1) k2 hh i2 b hb it2) (draws_k (A := A.in1) k3 hh i3 c hc it3)
  have sub : ∀ c ∈ [z, TO, i1, i2, i3], c ∈ [z, TO, i1, i2, i3, TI] := fun c hc => List.mem_append_left [TI] hc
  have down : ∀ {it1 it2 it3 : Array Value} (j : Nat) (g : Heap), (IsZip g z TI TO .none ∧ IsTupOf3 g TI (.ref i1) (.ref i2) (.ref i3) ∧ (∃ a1 a2 a3, IsTupOf3 g TO a1 a2 a3) ∧ (IterK k1 g i1 a j ∧ IsK k1 g a it1) ∧ (IterK k2 g i2 b j ∧ IsK k2 g b it2) ∧ (IterK k3 g i3 c j ∧ IsK k3 g c it3)) → ZipK3 k1 k2 k3 a b c z TI TO i1 i2 i3 j g := fun j g st => ⟨st.1, st.2.1, st.2.2.1, st.2.2.2.1.1, st.2.2.2.2.1.1, st.2.2.2.2.2.1⟩
  refine turn_tups (List.mem_cons_self ..) (fun i h st c hc => ?_) (fun i g g' st k => ?_) (fun A i s Q E st q => wpAny_pyIter_zip st.1 q) (fun X pins s σ H i eP ew eK hh inv st go => ?_) (fun X pins s σ H i eP ew eK hh inv st stop => ?_)
  · obtain ⟨s1, s2, ⟨u1, u2, u3, s3⟩, s4, s5, s6⟩ := st
    simp only [List.mem_cons, List.not_mem_nil, or_false] at hc
    rcases hc with rfl | rfl | rfl | rfl | rfl | rfl
    · exact ⟨_, s1, fun v q => nomatch q⟩
    · exact ⟨_, s3, fun v q => nomatch q⟩
    · exact s4.cell
    · exact s5.cell
    · exact s6.cell
    · exact ⟨_, s2, fun v q => nomatch q⟩
  · obtain ⟨s1, s2, ⟨u1, u2, u3, s3⟩, s4, s5, s6⟩ := st
    have kk : ∀ c, c ∈ [z, TO, i1, i2, i3, TI] → ∀ o, g.get? c = some o → g'.get? c = some o := k
    simp only [List.mem_cons, List.not_mem_nil, or_false, forall_eq_or_imp, forall_eq] at kk
    obtain ⟨q1, q2, q3, q4, q5, q6⟩ := kk
    exact ⟨q1 _ s1, q6 _ s2, ⟨u1, u2, u3, q2 _ s3⟩, s4.at fun o q => q3 o q, s5.at fun o q => q4 o q, s6.at fun o q => q5 o q⟩
  · obtain ⟨xs, ys, zs, x, y, v, hq1, hq2, hq3, hx, hy, hv⟩ := go
    subst eK
    obtain ⟨it1, rv1, t1⟩ := hq1.is inv
    obtain ⟨it2, rv2, t2⟩ := hq2.is inv
    obtain ⟨it3, rv3, t3⟩ := hq3.is inv
    obtain ⟨u1, hu1, ru1⟩ := rv1.get hx
    obtain ⟨u2, hu2, ru2⟩ := rv2.get hy
    obtain ⟨u3, hu3, ru3⟩ := rv3.get hv
    have hu1' : it1.toArray[i]? = some u1 := by simpa using hu1
    have hu2' : it2.toArray[i]? = some u2 := by simpa using hu2
    have hu3' : it3.toArray[i]? = some u3 := by simpa using hu3
    have hin1 : i < it1.toArray.size := (Array.getElem?_eq_some_iff.mp hu1').1
    have hin2 : i < it2.toArray.size := (Array.getElem?_eq_some_iff.mp hu2').1
    have hin3 : i < it3.toArray.size := (Array.getElem?_eq_some_iff.mp hu3').1
    refine ⟨[x, y, v], by show 3 ≤ 3; decide, ⟨_, _, _, _, _, _, W X.A hh it1.toArray it2.toArray it3.toArray, sub, ⟨st.1, st.2.1, st.2.2.1, ⟨st.2.2.2.1, t1⟩, ⟨st.2.2.2.2.1, t2⟩, ⟨st.2.2.2.2.2, t3⟩⟩, fun j g q => down j g q, fun _ => ⟨by omega, fun vals hP => ?_⟩, fun f => absurd trivial f⟩, fun T hT => ⟨T, x, y, v, rfl, hT, rfl, fun l hl => by rw [hl.inj inv hq1]; exact hx, fun l hl => by rw [hl.inj inv hq2]; exact hy, fun l hl => by rw [hl.inj inv hq3]; exact hv⟩⟩
    obtain ⟨x1, x2, x3, e1, e2, e3, rfl⟩ := hP
    have e1 : it1.toArray[i]? = some x1 := e1
    have e2 : it2.toArray[i]? = some x2 := e2
    have e3 : it3.toArray[i]? = some x3 := e3
    rw [hu1'] at e1
    rw [hu2'] at e2
    rw [hu3'] at e3
    exact ⟨[x1, x2, x3], rfl, .cons (by rw [← Option.some.inj e1]; exact ru1) (.cons (by rw [← Option.some.inj e2]; exact ru2) (.cons (by rw [← Option.some.inj e3]; exact ru3) .nil))⟩
  · obtain ⟨xs, ys, zs, hq1, hq2, hq3, hi⟩ := stop
    subst eK
    obtain ⟨it1, rv1, t1⟩ := hq1.is inv
    obtain ⟨it2, rv2, t2⟩ := hq2.is inv
    obtain ⟨it3, rv3, t3⟩ := hq3.is inv
    have l1 := rv1.length
    have l2 := rv2.length
    have l3 := rv3.length
    exact ⟨_, _, _, _, _, _, W X.A hh it1.toArray it2.toArray it3.toArray, sub, ⟨st.1, st.2.1, st.2.2.1, ⟨st.2.2.2.1, t1⟩, ⟨st.2.2.2.2.1, t2⟩, ⟨st.2.2.2.2.2, t3⟩⟩, fun j g q => down j g q, fun f => f.elim, fun _ => (show i = min (min it1.toArray.size it2.toArray.size) it3.toArray.size from by
      rw [List.size_toArray, List.size_toArray, List.size_toArray, ← l1, ← l2, ← l3]
      exact hi)⟩
def iZipK3 (K : PySem.W.Frag) (ta : TA) : TI := fun σ H R => ta σ H fun vs H1 => ∃ k1 k2 k3 a b c xs ys zs, vs = [.ref a, .ref b, .ref c] ∧ SqK k1 K H1 a xs ∧ SqK k2 K H1 b ys ∧ SqK k3 K H1 c zs ∧ R (ItzK3 k1 k2 k3 K a b c) H1
theorem pi_zipK3 {X : Cx} {e e2 e3 : Expr} {ta : TA} {p pos tpos : Pos} {elts : List Expr} {kk : Nat} (hg : Gl X "zip") (hm : X.mg "zip" = none) (ha : PA X [e, e2, e3] ta)
    (s1 : starEach [e, e2, e3] X.env = (false, eval e X.env) :: starEach [e2, e3] X.env := by rfl) (s2 : (backTo pos (starEach [e2, e3] X.env)).any (·.1) = false := by rfl) : PI X (.Tuple elts kk tpos) (.Call (.Name "zip" p) [e, e2, e3] [] pos) (iZipK3 X.K ta) where
  run pins s σ H R inv h := by
    refine Call_ (ld_blt inv hg hm PyProof.Rows.boot_zip (PyProof.Rows.callWith_type1 (thn (ha.run pos pins s σ H _ inv h) fun us s1 after => ?_) s1 s2))
    obtain ⟨vs, H1, inv1, rel, k1, k2, k3, a, b, c, xs, ys, zs, rfl, hq1, hq2, hq3, q⟩ := after
    match us, rel with
    | [_, _, _], .cons r1 (.cons r2 (.cons r3 .nil)) =>
      cases r1
      cases r2
      cases r3
      obtain ⟨it1, _, t1⟩ := hq1.is inv1
      obtain ⟨it2, _, t2⟩ := hq2.is inv1
      obtain ⟨it3, _, t3⟩ := hq3.is inv1
      have la := t1.lt
      have lb := t2.lt
      have lc := t3.lt
      refine zip_begins3 (begins_k k1 a it1.toArray) (begins_k k2 b it2.toArray) (begins_k k3 c it3.toArray) t1 t2 t3 fun g c1 c2 c3 c4 c5 c6 _ k => wpAny_pyIter_zip c1 ?_
      have S : ZipSep3 (s1.heap.objs.size + 5) (s1.heap.objs.size + 3) (s1.heap.objs.size + 4) s1.heap.objs.size (s1.heap.objs.size + 1) (s1.heap.objs.size + 2) [s1.heap.objs.size, a] [s1.heap.objs.size + 1, b] [s1.heap.objs.size + 2, c] :=
        zip_sep3 (fp1 := [a]) (fp2 := [b]) (fp3 := [c]) (fun c hc => by rw [List.mem_singleton.mp hc]; exact la) (fun c hc => by rw [List.mem_singleton.mp hc]; exact lb) (fun c hc => by rw [List.mem_singleton.mp hc]; exact lc)
      refine ⟨_, [s1.heap.objs.size + 5, s1.heap.objs.size + 4, s1.heap.objs.size, s1.heap.objs.size + 1, s1.heap.objs.size + 2, s1.heap.objs.size + 3], ZipK3 k1 k2 k3 a b c _ _ _ _ _ _, ItzK3 k1 k2 k3 X.K a b c, H1, rfl, inv1.kept (t' := s1.toks) k, turn_zipK3 S (Nat.ne_of_lt la) (Nat.ne_of_lt (Nat.lt_succ_of_lt lb)) (Nat.ne_of_lt (Nat.lt_succ_of_lt (Nat.lt_succ_of_lt lc))), ⟨c1, c2, ⟨_, _, _, c3⟩, .first c4, .first c5, .first c6⟩, fun c hc => ?_, q⟩
      have up : s1.heap.objs.size ≤ c := by
        simp only [List.mem_cons, List.not_mem_nil, or_false] at hc
        rcases hc with rfl | rfl | rfl | rfl | rfl | rfl <;> first | exact Nat.le_refl _ | exact Nat.le_add_right _ _
      exact inv1.fpOk up (inv1.hok.fresh up)
def YTrip (f g k : Nat → Option V) : Nat → Hp → V → Hp → Prop := fun i H v H' => ∃ T x y z, v = .ref T ∧ H T = none ∧ H' = upd H T (.tup [x, y, z]) ∧ f i = some x ∧ g i = some y ∧ k i = some z
theorem walk_zipK3 {K : PySem.W.Frag} {k1 k2 k3 : Bool} {a b c : Addr} {xs ys zs : List V} (hl : xs.length = ys.length) (hl2 : xs.length = zs.length) : Walk (ItzK3 k1 k2 k3 K a b c) xs.length (fun H => SqK k1 K H a xs ∧ SqK k2 K H b ys ∧ SqK k3 K H c zs) (YTrip (fun i => xs[i]?) (fun i => ys[i]?) (fun i => zs[i]?)) where
  goes i H hi q := ⟨xs, ys, zs, xs[i], ys[i], zs[i], q.1, q.2.1, q.2.2, List.getElem?_eq_getElem hi, List.getElem?_eq_getElem (by omega), List.getElem?_eq_getElem (by omega)⟩
  stops H q := ⟨xs, ys, zs, q.1, q.2.1, q.2.2, by omega⟩
  yields i H v H' _ q y := let ⟨T, x, y, z, h1, h2, h3, h4, h5, h6⟩ := y; ⟨T, x, y, z, h1, h2, h3, h4 xs q.1, h5 ys q.2.1, h6 zs q.2.2⟩
/-- sum of a tuple of whole numbers: as of a list -/
theorem sqK_t {K : PySem.W.Frag} {H : Hp} {a : Addr} {xs : List V} (h : SqT K H a xs) : SqK true K H a xs := h
theorem sqK_l {K : PySem.W.Frag} {H : Hp} {a : Addr} {xs : List V} (h : SqL K H a xs) : SqK false K H a xs := h
end MyR

set_option pp.maxSteps 400
set_option Elab.async false
set_option linter.all false
set_option maxRecDepth 100000
set_option maxHeartbeats 1000000
namespace MyR
open PySem PySem.Spec PyProof.Rows L2
section
variable {prog : Program} {w : World} {A : Around} {E : Value → Shared → Prop} {s : Shared}
theorem sum_intTup {l : Addr} {xs : Array (Int × Tok)} {Q : Value → Shared → Prop} (hh : A.handled = none) (hl : s.heap.IsTuple l (intItems xs))
    (h : ∀ h' tk t', (∀ b o, s.heap.get? b = some o → h'.get? b = some o) → Q (.int (preSum (numAt xs) xs.size) t') { s with heap := h', toks := tk }) :
    wpAny (model prog w) A (call (.builtin "sum") [.ref l]) Q E s := by
  have hlt : l < s.heap.objs.size := by obtain ⟨_, e, _⟩ := hl; exact Heap.lt_size e
  refine call_sum_walkG (wpAny_pyIter_tuple hl ?_)
  refine ⟨_, _, _, _, _, _, numAt xs, rfl, Walks.tuple (A := A.in1) hh _ l (Nat.ne_of_lt hlt) (intItems xs), ⟨⟨_, Heap.get?_push_size _ rfl, rfl, rfl⟩, hl.push _⟩, fun b hb => ?_, (fun _ _ => intItems_at), fun h' tk t' hk => ?_⟩
  · show b < (s.heap.push _).objs.size
    rw [Heap.size_push]
    rcases List.mem_cons.mp hb with rfl | hb
    · exact Nat.lt_succ_self _
    · rcases List.mem_cons.mp hb with rfl | hb
      · exact Nat.lt_succ_of_lt hlt
      · cases hb
  · have := h h' tk t' fun b o e => hk b o (fun hm => absurd (List.mem_singleton.mp hm ▸ Heap.lt_size e) (Nat.lt_irrefl _)) (Heap.get?_push_of_some _ e)
    simpa [intItems] using this
theorem sum_rawT {l : Addr} {its : List Value} {ns : List Int} {Q : Value → Shared → Prop} (hh : A.handled = none) (hl : s.heap.IsTuple l its.toArray) (hi : IntsAre its ns)
    (h : ∀ h' tk t', (∀ b o, s.heap.get? b = some o → h'.get? b = some o) → Q (.int ns.sum t') { s with heap := h', toks := tk }) : wpAny (model prog w) A (call (.builtin "sum") [.ref l]) Q E s := by
  obtain ⟨xs, e⟩ := hi.allInts.items
  have hn : numsOf (intItems xs).toList = ns := by rw [← e]; exact hi.numsOf
  rw [nums_intItems] at hn
  rw [e] at hl
  refine sum_intTup hh hl fun h' tk t' hk => ?_
  have := h h' tk t' hk
  rw [preSum_eq, List.take_of_length_le (by simp), hn]; exact this
end
/-- sum of a list or a tuple of whole numbers -/
def rSumK (K : PySem.W.Frag) : List V → Hp → VK → Prop := fun vs H Q => ∃ (k : Bool) (a : Addr) (ns : List Int), vs = [V.ref a] ∧ SqK k K H a (ns.map V.int) ∧ Q (.int ns.sum) H
theorem cr_sumK {X : Cx} (hc : X.calm = true) {K : PySem.W.Frag} (hK : X.K = K) : CallR X (.builtin "sum") (rSumK K) := by
  intro pins s σ H vs us Q I r h
  subst hK
  obtain ⟨k, a, ns, rfl, hs, q⟩ := h
  cases k
  · exact cr_sum hc pins s σ H _ us Q I r ⟨a, ns, rfl, hs, q⟩
  · obtain ⟨its, rv, hl, _⟩ := I.tuple hs
    rw [Vals.ref1 r]
    exact sum_rawT (I.ok.hd hc) hl rv.ints fun h' tk t' hk => ⟨.int _, H, I.kept hk, ⟨_, rfl⟩, q⟩

end MyR

set_option Elab.async false
set_option linter.all false
set_option maxRecDepth 100000
set_option maxHeartbeats 1000000
namespace My
open PySem L2 MyR
/-- a new source of draws from the script -/
def spDeal (K : PySem.W.Frag) : Sp := fun vs H Q _ => ∃ (a : Addr) (ns : List Int), vs = [.ref a, .int 0] ∧ SqL K H a (ns.map V.int) ∧ ns.length ≤ 63 ∧
  ∀ (d l : Addr) (H' : Hp), H d = none → H l = none → Same H H' → Deal H' d l → Q (.ref d) H'
theorem cut_ints (ns : List Int) (lo hi : Option Int) : ∃ ms : List Int, cutV (ns.map V.int) lo hi = ms.map V.int ∧ ms.length ≤ ns.length := by
  unfold cutV
  rw [← List.map_drop, ← List.map_take]
  refine ⟨_, rfl, ?_⟩
  rw [List.length_take, List.length_drop]
  omega
theorem get_int {ms : List Int} {i : Nat} {x : V} (h : (ms.map V.int)[i]? = some x) : ∃ z, x = V.int z ∧ i < ms.length := by
  rw [List.getElem?_map] at h
  cases e : ms[i]? with
  | none => rw [e] at h; cases h
  | some z =>
    rw [e] at h
    exact ⟨z, (Option.some.inj h).symm, (List.getElem?_eq_some_iff.mp e).1⟩
theorem small63 {n : Nat} (h : n ≤ 63) : n < sizeLine := small1000 (by omega)
section
variable {P : Program} {w : World} {K : PySem.W.Frag} {mg : Str → Option Value} {base : Heap}
abbrev s_law_deal : Stmt := top 9
abbrev N_law_deal : List Str := ["_law_script", "_law_base", "_law_cells", "_law_cell", "_law_number"]
theorem sc_law_deal : FnScope N_law_deal ["_law_script", "_law_base"] (defScope s_law_deal) := ⟨rfl, rfl, rfl, by decide +kernel, rfl, by decide +kernel, by decide +kernel⟩
theorem ok_law_deal {f : Addr} {fd : FuncData} (F : Fun K "_law_deal" "_law_deal" s_law_deal f fd) (T : Glob mg) : FnOk P w K mg base CX0 1 f fd ["_law_script", "_law_base"] (spDeal K) := by
  refine F.ok sc_law_deal (fun vs H Q E h => ?_) (fun cdv A outer s H vs Q E hr h => ?_)
  · obtain ⟨a, ns, rfl, _⟩ := h
    rfl
  · obtain ⟨a, ns, rfl, hS, hlen, k⟩ := h
    have hu := hu_of hr
    have nd := sc_law_deal.nd
    refine ⟨_, (pss_cons (ps_setLc (i := 2) (own := [("_law_cell", 3)]) (g := gName 3) (tt := tYes) rfl nd rfl rfl (sw_true rfl rfl rfl (by decide +kernel)) (pi_list (pe_slice sl_list (pv 0) (po_some (pv 1)) (po_some pe_int))) (blkOk_by (N := N_law_deal) (sc := defScope s_law_deal) (by decide +kernel)) (fun _ _ _ _ _ => pg_name (i := 3) nd rfl (Or.inl rfl)) (fun _ _ _ _ _ => pts_nil) (fun _ _ _ _ _ => (pe_callB (call_max2 rfl) (by rfl) T.g_max (by decide +kernel) (pa_cons (pv 3) (pa_cons (pe_op op_sub pe_int (pv 3)) pa_nil)))))
    (pss_cons (ps_set (i := 4) nd rfl (Or.inl rfl) (pe_op op_add pe_int (pv 1)))
    (pss_cons (ps_for PassesOwn.never rfl (pi_list (pv 2)) (pg_name (i := 3) nd rfl (Or.inl rfl))
    (pss_one (ps_set (i := 4) nd rfl (Or.inl rfl) (pe_op op_mod (pe_op op_add (pe_op op_mul (pv 4) pe_int) (pe_op op_mod (pv 3) pe_int)) pe_int))))
    (pss_one (ps_ret (pe_disp (pps_cons pe_str (pv 4) (pps_cons pe_str pe_int (pps_cons pe_str (pe_lstRev rfl (by rfl) T.g_list (by rfl) T.g_reversed (pe_lc (own := [("_law_cell", 3)]) (g := gName 3) rfl nd (pi_list (pv 2)) (blkOk_by (N := N_law_deal) (sc := defScope s_law_deal) (by decide +kernel)) (fun _ _ _ _ _ => pg_name (i := 3) nd rfl (Or.inl rfl)) (fun _ _ _ _ _ => pts_one (pt_cmpR op_ge (pv 3) (pe_op op_pow pe_int pe_int) (nomark _))) (fun _ _ _ _ _ => (pv 3)))) pps_nil))) (by rfl) (by rfl) (fun z => by cases z) (by decide))))))), ?_⟩
    -- the cells
    refine ⟨_, rfl, _, rfl, _, rfl, _, rfl, a, _, rfl, hS, fun sl hsl => ?_⟩
    obtain ⟨ms, em, hml⟩ := cut_ints ns (some 0) (some 63)
    rw [em]
    refine ⟨sl, rfl, ⟨_, SqL.of upd_same⟩, fun D hD => ?_⟩
    have nDs : sl ≠ D := fun e => by rw [e, upd_same] at hD; cases hD
    have hD0 : H D = none := by rw [← upd_ne (H := H) (Ne.symm nDs)]; exact hD
    refine lc_list (K := K) (a := sl) (xs := ms.map V.int) (fun i H1 => Same H H1 ∧ H1 sl = some (.lst (ms.map V.int)) ∧ ∃ acc : List Int, H1 D = some (.lst (acc.map V.int)) ∧ acc.length = i)
      ⟨fun b o e => by rw [upd_ne (ne_of_none e hD0), upd_ne (ne_of_none e hsl)]; exact e, by rw [upd_ne nDs, upd_same], [], upd_same, rfl⟩ (fun i H1 _ ⟨_, h1, _⟩ => SqL.of h1) ?_ ?_
    · rintro i x H1 hx ⟨sm, h1, acc, h2, hl⟩
      obtain ⟨z, rfl, hi⟩ := get_int hx
      refine ⟨rfl, ?_⟩
      refine ⟨_, rfl, _, rfl, _, _, rfl, rfl, ?_⟩
      refine ⟨_, _, rfl, ?_⟩
      refine ⟨acc.map V.int, h2, by rw [List.length_map]; exact small63 (by omega), fun b o e => ?_, ?_, ?_⟩
      · rw [upd_ne (ne_of_none e hD0)]; exact sm b o e
      · rw [upd_ne nDs]; exact h1
      · refine ⟨acc ++ [if 0 - z > z then 0 - z else z], ?_, by rw [List.length_append, hl]; rfl⟩
        rw [upd_same, List.map_append]
        rfl
    · rintro H1 ⟨sm, h1, cs, h2, hl⟩
      rw [List.length_map] at hl
      refine ⟨_, rfl, _, _, rfl, rfl, ?_⟩
      refine ⟨_, rfl, D, rfl, ⟨_, SqL.of h2⟩, ?_⟩
      refine for_list (K := K) (a := D) (xs := cs.map V.int) (fun i σ H2 => ∃ (v : Option V) (t : Int), σ = [some (.ref a), some (.int 0), some (.ref D), v, some (.int t)] ∧ 0 ≤ t ∧ t < 2147483648 ∧ H2 = H1)
        ⟨none, 6143, rfl, by decide, by decide, rfl⟩ (fun i σ H2 _ ⟨_, _, _, _, _, e⟩ => by rw [e]; exact SqL.of h2) ?_ ?_
      · rintro i x σ H2 hx ⟨v, t, rfl, t0, t1, rfl⟩
        obtain ⟨z, rfl, hi⟩ := get_int hx
        refine ⟨_, rfl, _, _, rfl, rfl, .inl ⟨by omega, by omega⟩, _, rfl, _, _, rfl, rfl, (by show (0 : Int) < 2147483629; decide), _, _, rfl, rfl, _, _, rfl, rfl, (by show (0 : Int) < 2147483647; decide), ?_⟩
        refine ⟨_, _, rfl, Int.emod_nonneg _ (by decide), ?_, rfl⟩
        have := Int.emod_lt_of_pos (t * 69621 + z % 2147483629) (show (0 : Int) < 2147483647 by decide)
        omega
      · rintro σ H2 ⟨v, t, rfl, t0, t1, rfl⟩
        -- the dict
        intro d hd
        have nDd : D ≠ d := ne_of_none h2 hd
        refine ⟨_, rfl, ?_⟩
        refine ⟨_, rfl, D, rfl, ⟨_, SqL.of (by rw [upd_ne nDd]; exact h2)⟩, fun L hL => ?_⟩
        have nLd : d ≠ L := fun e => by rw [e, upd_same] at hL; cases hL
        have hL0 : H2 L = none := by rw [← upd_ne (H := H2) (Ne.symm nLd)]; exact hL
        have nDL : D ≠ L := ne_of_none h2 hL0
        refine lc_list (K := K) (a := D) (xs := cs.map V.int) (fun i H3 => Same H2 H3 ∧ H3 d = some (.dK []) ∧ ∃ acc : List Int, H3 L = some (.lst (acc.map V.int)) ∧ acc.length ≤ i)
          ⟨fun b o e => by rw [upd_ne (ne_of_none e hL0), upd_ne (ne_of_none e hd)]; exact e, by rw [upd_ne nLd, upd_same], [], upd_same, Nat.le_refl _⟩ (fun i H3 _ ⟨sm3, _, _⟩ => SqL.of (sm3 _ _ h2)) ?_ ?_
        · rintro i x H3 hx ⟨sm3, hd3, acc, h3, hl3⟩
          obtain ⟨z, rfl, hi⟩ := get_int hx
          refine ⟨rfl, ?_⟩
          refine ⟨_, rfl, _, _, rfl, rfl, ⟨by decide, by decide, by decide⟩, _, _, rfl, rfl, _, rfl, ?_⟩
          have go : ∀ (zs : List Int), zs.length ≤ i + 1 → ∀ H4, H4 = upd H3 L (.lst (zs.map V.int)) → Same H2 H4 ∧ H4 d = some (.dK []) ∧ ∃ acc : List Int, H4 L = some (.lst (acc.map V.int)) ∧ acc.length ≤ i + 1 := fun zs hz H4 e4 => by
            subst e4
            refine ⟨fun b o e => ?_, by rw [upd_ne nLd]; exact hd3, zs, upd_same, hz⟩
            rw [upd_ne (ne_of_none e hL0)]
            exact sm3 b o e
          refine ite2 (fun _ => ?_) (fun _ => ?_)
          · refine ⟨_, rfl, acc.map V.int, h3, by rw [List.length_map]; exact small63 (by omega), ?_⟩
            refine go (acc ++ [z]) (by rw [List.length_append]; exact Nat.succ_le_succ hl3) _ ?_
            rw [List.map_append]
            rfl
          · exact ⟨sm3, hd3, acc, h3, Nat.le_succ_of_le hl3⟩
        · rintro H3 ⟨sm3, hd3, acc, h3, hl3⟩
          refine ⟨L, _, rfl, SqL.of h3, fun R hR => ?_⟩
          have nRd : d ≠ R := ne_of_none hd3 hR
          refine ⟨by rw [upd_ne nRd]; exact hd3, dKV t 0 R, rfl, (by show 3 ≤ 15; decide), ?_⟩
          rw [d_merge]
          have hR2 : H2 R = none := sm3.free hR
          refine k d R _ (sm.free hd) (sm.free hR2) (fun b o e => ?_) ⟨⟨t, 0, acc.reverse, upd_same, ?_, t0, t1⟩⟩
          · have e2 := sm b o e
            rw [upd_ne (ne_of_none e2 hd), upd_ne (ne_of_none e2 hR2)]
            exact sm3 b o e2
          · rw [upd_ne (Ne.symm nRd), upd_same, List.map_reverse]
end
end My

set_option Elab.async false
set_option linter.all false
set_option maxRecDepth 100000
set_option maxHeartbeats 1000000
namespace My
open PySem L2 MyR
structure Df (P : Program) (w : World) (K : PySem.W.Frag) (mg : Str → Option Value) (base : Heap) (k : Nat) (x : Str) (ps : List Str) (sp : Sp) where
  f : Addr
  fd : FuncData
  ok : FnOk P w K mg base CX0 k f fd ps sp
  g : mg x = some (.ref f)
  kp : PySem.W.keepIn K (.ref f) = true
  b : Binds K fd ps []
theorem Deal.new {H : Hp} {d l p : Addr} {o : HO} (D : Deal H d l) (h : H p = none) : Deal (upd H p o) d l := by
  obtain ⟨s, n, ns, hd, hl, r⟩ := D.ex
  exact ⟨⟨s, n, ns, by rw [upd_ne (ne_of_none hd h)]; exact hd, by rw [upd_ne (ne_of_none hl h)]; exact hl, r⟩⟩
theorem Deal.other {H : Hp} {d l p : Addr} {o : HO} (D : Deal H d l) (h1 : p ≠ d) (h2 : p ≠ l) : Deal (upd H p o) d l := by
  obtain ⟨s, n, ns, hd, hl, r⟩ := D.ex
  exact ⟨⟨s, n, ns, by rw [upd_ne (Ne.symm h1)]; exact hd, by rw [upd_ne (Ne.symm h2)]; exact hl, r⟩⟩
theorem Deal.free {H : Hp} {d l p : Addr} (D : Deal H d l) (h : H p = none) : p ≠ d ∧ p ≠ l := by
  obtain ⟨s, n, ns, hd, hl, r⟩ := D.ex
  exact ⟨Ne.symm (ne_of_none hd h), Ne.symm (ne_of_none hl h)⟩
theorem Deal.same {H H' : Hp} {d l : Addr} (D : Deal H d l) (s : Same H H') : Deal H' d l := by
  obtain ⟨z, n, ns, hd, hl, r⟩ := D.ex
  exact ⟨z, n, ns, s _ _ hd, s _ _ hl, r⟩
theorem Deal.nt {H : Hp} {d l p : Addr} {xs : List V} (D : Deal H d l) (h : H p = some (.tup xs)) : p ≠ d ∧ p ≠ l := by
  obtain ⟨z, n, ns, hd, hl, r⟩ := D.ex
  exact ⟨ne_of h hd (by intro z; cases z), ne_of h hl (by intro z; cases z)⟩
theorem Deal.ni {H : Hp} {d l p C dx : Addr} {fs : List (Str × V)} (D : Deal H d l) (h : H p = some (.ins C dx fs)) : p ≠ d ∧ p ≠ l := by
  obtain ⟨z, n, ns, hd, hl, r⟩ := D.ex
  exact ⟨ne_of h hd (by intro z; cases z), ne_of h hl (by intro z; cases z)⟩
theorem Kept.new {d l p : Addr} {H H1 : Hp} {o : HO} (a : Kept d l H H1) (h : H p = none) : Kept d l H (upd H1 p o) := fun c u e h1 h2 => by rw [upd_ne (ne_of_none e h)]; exact a c u e h1 h2
theorem Kept.of {d l : Addr} {H H' : Hp} (s : Same H H') : Kept d l H H' := fun b o e _ _ => s b o e
theorem Kept.free {d l p : Addr} {H H1 : Hp} (k : Kept d l H H1) (D : Deal H1 d l) (h : H1 p = none) : H p = none := by
  obtain ⟨n1, n2⟩ := D.free h
  cases e : H p with
  | none => rfl
  | some o => rw [k p o e n1 n2] at h; cases h
theorem new_same {H : Hp} {p : Addr} {o : HO} (h : H p = none) : Same H (upd H p o) := fun b q e => by rw [upd_ne (ne_of_none e h)]; exact e
theorem Same.tr {H H1 H2 : Hp} (a : Same H H1) (b : Same H1 H2) : Same H H2 := fun c o e => b c o (a c o e)
theorem same_free {H H1 : Hp} {p : Addr} (s : Same H H1) (h : H1 p = none) : H p = none := by
  cases e : H p with
  | none => rfl
  | some o => rw [s p o e] at h; cases h
end My

set_option pp.maxSteps 300
set_option Elab.async false
set_option linter.all false
set_option maxRecDepth 100000
set_option maxHeartbeats 1000000
namespace My
open PySem L2 MyR
def spTwos : Sp := fun vs H Q _ => ∃ n : Nat, vs = [.int (n : Int)] ∧ Q (.int (tw n : Int)) H
/-- a list of whole numbers -/
def LI (H : Hp) (a : Addr) (xs : List Int) : Prop := H a = some (.lst (xs.map V.int))
theorem LI.same {H H' : Hp} {a : Addr} {xs : List Int} (h : LI H a xs) (s : Same H H') : LI H' a xs := s _ _ h
theorem seq_c {v : V} {i : Nat} {t : TS} {D : Ends} {σ : L2.St} {H : Hp} (h : t D (σ.set i (some v)) H) : tSeq (tAsg (tC v) (gName i)) t D σ H := h
def sharesL (b : Nat) : List Int := (List.range (W b)).map fun j => (tw j : Int)
def spShares : Sp := fun vs H Q _ => ∃ b : Nat, vs = [.int (b : Int)] ∧ b ≤ 64 ∧ ∀ (L : Addr) H', H L = none → Same H H' → LI H' L (sharesL b) → Q (.ref L) H'
section
variable {P : Program} {w : World} {K : PySem.W.Frag} {mg : Str → Option Value} {base : Heap}
abbrev s_twos : Stmt := top 1
abbrev N_twos : List Str := ["n", "found", "left"]
theorem sc_twos : FnScope N_twos ["n"] (defScope s_twos) := ⟨rfl, rfl, rfl, by decide +kernel, rfl, by decide +kernel, by decide +kernel⟩
theorem lw_half {l : Nat} (h : l ≠ 0) : l / 2 + tw (l / 2) = tw l := (tw_pos h).symm
theorem ok_twos {f : Addr} {fd : FuncData} (F : Fun K "twos" "twos" s_twos f fd) : FnOk P w K mg base CX0 1 f fd ["n"] spTwos := by
  refine F.ok sc_twos (fun vs H Q E h => ?_) (fun cdv A outer s H vs Q E hr h => ?_)
  · obtain ⟨n, rfl, _⟩ := h
    rfl
  · obtain ⟨n, rfl, kq⟩ := h
    have nd := sc_twos.nd
    refine ⟨_, (pss_cons (ps_set (i := 1) nd rfl (Or.inl rfl) pe_int)
    (pss_cons (ps_set (i := 2) nd rfl (Or.inl rfl) (pe_op op_halfN (pv 0) pe_int))
    (pss_cons (ps_while PassesOwn.never (pt_cmpR op_gt (pv 2) pe_int (nomark _))
    (pss_cons (ps_set (i := 1) nd rfl (Or.inl rfl) (pe_op op_add (pv 1) (pv 2)))
    (pss_one (ps_set (i := 2) nd rfl (Or.inl rfl) (pe_op op_halfN (pv 2) pe_int)))))
    (pss_one (ps_ret (pv 1)))))), ?_⟩
    refine ⟨_, rfl, n, rfl, rfl, ?_⟩
    dsimp only [List.set_cons_succ, List.set_cons_zero]
    refine seq_by (fun σ H1 => H1 = H ∧ ∃ f : Nat, σ = [some (.int (n : Int)), some (.int (f : Int)), some (.int 0)] ∧ f = tw n) (fun D' hD' => ?_) ?_
    · refine while_by (fun σ H1 => H1 = H ∧ ∃ f l : Nat, σ = [some (.int (n : Int)), some (.int (f : Int)), some (.int (l : Int))] ∧ f + (l + tw l) = tw n) (fun σ _ => match σ with | [_, _, some (.int l)] => l.toNat | _ => 0)
        ⟨rfl, 0, n / 2, rfl, ?_⟩ ?_ ?_
      · by_cases e : n = 0
        · subst e
          rfl
        · rw [Nat.zero_add, lw_half e]
      · rintro σ H1 ⟨rfl, f, l, rfl, hf⟩
        refine ⟨_, rfl, _, _, rfl, rfl, _, rfl, ?_⟩
        refine ite2 (fun h => ?_) (fun h => ?_)
        · have hl : 0 < l := by
            have := of_decide_eq_true h
            omega
          refine ⟨_, rfl, _, rfl, _, _, rfl, rfl, _, rfl, l, rfl, rfl, ?_⟩
          refine ⟨⟨rfl, f + l, l / 2, rfl, ?_⟩, ?_⟩
          · rw [lw_half (by omega)]
            omega
          · show (((l / 2 : Nat) : Int)).toNat < ((l : Int)).toNat
            omega
        · have hl : l = 0 := by
            by_cases z : 0 < l
            · exact absurd (decide_eq_true (by omega)) h
            · omega
          subst hl
          refine hD' _ _ ⟨rfl, f, rfl, ?_⟩
          have : tw 0 = 0 := rfl
          omega
      · intro σ H1 Q Q' f h
        obtain ⟨x, e1, i, j, e2, e3, b1, eb, hc⟩ := h
        exact ⟨x, e1, i, j, e2, e3, b1, eb, f _ _ hc⟩
    rintro σ H1 ⟨rfl, f, rfl, hf⟩
    subst hf
    exact ⟨_, rfl, kq⟩
end
end My

set_option pp.maxSteps 300
set_option Elab.async false
set_option linter.all false
set_option maxRecDepth 100000
set_option maxHeartbeats 1000000
namespace My
open PySem L2 MyR
theorem li_snoc {H : Hp} {a : Addr} {xs : List Int} {x : Int} : LI (upd H a (.lst (xs.map V.int ++ [.int x]))) a (xs ++ [x]) := by
  show upd H a _ a = _
  rw [upd_same, List.map_append]
  rfl
theorem same_up {H H1 : Hp} {a : Addr} {o : HO} (s : Same H H1) (h : H a = none) : Same H (upd H1 a o) := fun c u e => by
  rw [upd_ne (ne_of_none e h)]
  exact s _ _ e
section
variable {P : Program} {w : World} {K : PySem.W.Frag} {mg : Str → Option Value} {base : Heap}
abbrev s_shares : Stmt := top 3
abbrev N_shares : List Str := ["bits", "found"]
theorem sc_shares : FnScope N_shares ["bits"] (defScope s_shares) := ⟨rfl, rfl, rfl, by decide +kernel, rfl, by decide +kernel, by decide +kernel⟩
theorem ok_shares {f : Addr} {fd : FuncData} (F : Fun K "shares" "shares" s_shares f fd) (T : Glob mg) (D_twos : Df P w K mg base 1 "twos" ["n"] spTwos) : FnOk P w K mg base CX0 2 f fd ["bits"] spShares := by
  refine F.ok sc_shares (fun vs H Q E h => ?_) (fun cdv A outer s H vs Q E hr h => ?_)
  · obtain ⟨b, rfl, _⟩ := h
    rfl
  · obtain ⟨b, rfl, hb, kq⟩ := h
    have nd := sc_shares.nd
    refine ⟨_, (pss_cons (ps_set (i := 1) nd rfl (Or.inl rfl) (pe_lst pa_nil))
    (pss_cons (ps_while PassesOwn.never (pt_cmpR op_lt (pe_call D_twos.ok (hr.mono (by decide)) (by rfl) D_twos.g D_twos.kp D_twos.b .nil pass0 (pa_cons (pe_callB call_len_seq (by rfl) T.g_len PySem.boot_len (pa_cons (pv 1) pa_nil)) pa_nil)) (pv 0) (nomark _))
    (pss_one (ps_expr (pe_bm PySem.F.plainAttrs_list PySem.F.slot_list_append PySem.F.type_list_append mt_append (pv 1) (pa_cons (pe_call D_twos.ok (hr.mono (by decide)) (by rfl) D_twos.g D_twos.kp D_twos.b .nil pass0 (pa_cons (pe_callB call_len_seq (by rfl) T.g_len PySem.boot_len (pa_cons (pv 1) pa_nil)) pa_nil)) pa_nil)))))
    (pss_one (ps_ret (pv 1))))), ?_⟩
    refine ⟨(by show 0 ≤ sizeLine; decide), fun L hL => ?_⟩
    dsimp only [List.set_cons_succ, List.set_cons_zero]
    have hW := W_66 hb
    refine seq_by (fun σ H1 => σ = [some (.int (b : Int)), some (.ref L)] ∧ Same H H1 ∧ LI H1 L (sharesL b)) (fun D' hD' => ?_) ?_
    · refine while_by (fun σ H1 => ∃ k, k ≤ W b ∧ σ = [some (.int (b : Int)), some (.ref L)] ∧ Same H H1 ∧ LI H1 L ((List.range k).map fun j => (tw j : Int)))
        (fun _ H1 => match H1 L with | some (.lst xs) => W b - xs.length | _ => 0) ⟨0, Nat.zero_le _, rfl, new_same hL, upd_same⟩ ?_ ?_
      · rintro σ H1 ⟨k, hk, rfl, sm, hl⟩
        have hlen : (((List.range k).map fun j => (tw j : Int)).map V.int).length = k := by rw [List.length_map, List.length_map, List.length_range]
        refine ⟨_, rfl, L, _, rfl, .inl (SqL.of hl), _, rfl, _, rfl, _, _, rfl, rfl, _, rfl, ?_⟩
        rw [hlen]
        refine ite2 (fun h => ?_) (fun h => ?_)
        · have h : (tw k : Int) < (b : Int) := of_decide_eq_true h
          have hkW : k < W b := W_iff.mp (by omega)
          refine ⟨_, rfl, .inl ⟨rfl, _, SqL.of hl⟩, _, rfl, L, _, rfl, .inl (SqL.of hl), _, rfl, L, _, _, rfl, rfl, hl, by rw [hlen, sizeLine_eq]; omega, ?_⟩
          rw [hlen]
          refine ⟨⟨k + 1, hkW, rfl, same_up sm hL, ?_⟩, ?_⟩
          · rw [List.range_succ, List.map_append]
            exact li_snoc
          · rw [upd_same, hl]
            show W b - (_ ++ [_]).length < W b - (List.map V.int _).length
            rw [List.length_append, hlen]
            show W b - (k + 1) < W b - k
            omega
        · have hkW : ¬ k < W b := fun z => h (decide_eq_true (by have := W_iff.mpr z; omega))
          have : k = W b := by omega
          subst this
          exact hD' _ _ ⟨rfl, sm, hl⟩
      · intro σ H1 Q Q' f h
        obtain ⟨x, e1, a, ys, e2, e3, n, e4, y, e5, i, j, e6, e7, b1, eb, hc⟩ := h
        exact ⟨x, e1, a, ys, e2, e3, n, e4, y, e5, i, j, e6, e7, b1, eb, f _ _ hc⟩
    rintro σ H1 ⟨rfl, sm, hl⟩
    exact ⟨_, rfl, kq L H1 hL sm hl⟩
end
end My

set_option pp.maxSteps 300
set_option Elab.async false
set_option linter.all false
set_option maxRecDepth 100000
set_option maxHeartbeats 1000000
namespace My
open PySem L2 MyR
def spCountV : Sp := fun vs H Q _ => ∃ c b : Nat, vs = [.int (c : Int), .int (b : Int)] ∧ c ≤ 8 ∧ 1 ≤ b ∧ b ≤ 64 ∧ ∀ H', Same H H' → Q (.int ((vecs c b).length : Int)) H'
def fnL (b : Nat) (f : Nat → Nat) : List Int := (List.range b).map fun u => (f u : Int)
theorem fnL_len (b : Nat) (f : Nat → Nat) : (fnL b f).length = b := by unfold fnL; rw [List.length_map, List.length_range]
theorem fnL_at {b u : Nat} {f : Nat → Nat} (h : u < b) : (fnL b f)[u]? = some (f u : Int) := by
  unfold fnL
  rw [List.getElem?_map, List.getElem?_range h]
  rfl
theorem fnL_set {b k v : Nat} {f : Nat → Nat} (h : k < b) : (fnL b f).set k (v : Int) = fnL b fun u => if u = k then v else f u := by
  refine List.ext_getElem? fun i => ?_
  by_cases hi : i < b
  · rw [fnL_at hi, List.getElem?_set]
    by_cases e : k = i
    · subst e
      rw [if_pos rfl, fnL_len, if_pos h, if_pos rfl]
    · rw [if_neg e, fnL_at hi, if_neg (Ne.symm e)]
  · rw [List.getElem?_eq_none (by rw [List.length_set, fnL_len]; omega), List.getElem?_eq_none (by rw [fnL_len]; omega)]
theorem fnL_congr {b : Nat} {f g : Nat → Nat} (h : ∀ u, u < b → f u = g u) : fnL b f = fnL b g := List.map_congr_left fun u hu => by rw [h u (List.mem_range.mp hu)]
theorem fnL_succ (b : Nat) (f : Nat → Nat) : fnL (b + 1) f = fnL b f ++ [(f b : Int)] := by
  unfold fnL
  rw [List.range_succ, List.map_append]
  rfl
theorem fnL_sum (f : Nat → Nat) : ∀ b, (fnL b f).sum = (smN b f : Int)
  | 0 => rfl
  | b + 1 => by
    rw [fnL_succ, List.sum_append, fnL_sum f b]
    show _ + ((f b : Int) + 0) = ((smN b f + f b : Nat) : Int)
    omega
theorem map_set_int {xs : List Int} {k : Nat} {v : Int} : (xs.map V.int).set k (.int v) = (xs.set k v).map V.int := by rw [List.map_set]
theorem map_at_int {xs : List Int} {k : Nat} {v : Int} (h : xs[k]? = some v) : (xs.map V.int)[k]? = some (.int v) := by rw [List.getElem?_map, h]; rfl
theorem LI.updN {H : Hp} {a b : Addr} {xs : List Int} {o : HO} (h : LI H a xs) (n : a ≠ b) : LI (upd H b o) a xs := by show upd H b o a = _; rw [upd_ne n]; exact h
theorem ixN_nat {n j : Nat} (h : j < n) : ixN n (j : Int) = some j := by
  unfold ixN
  rw [if_pos (Int.natCast_nonneg j), if_pos (by omega)]
  rfl
theorem atI_fn {b u : Nat} {f : Nat → Nat} {z : Int} (h : u < b) (e : z = (u : Int)) : atI ((fnL b f).map V.int) z = some (.int (f u : Int)) := by
  rw [e]
  exact atI_nat (map_at_int (fnL_at h))
theorem ixN_fn {b u : Nat} {f : Nat → Nat} {z : Int} (h : u < b) (e : z = (u : Int)) : ixN ((fnL b f).map V.int).length z = some u := by
  rw [e, List.length_map, fnL_len]
  exact ixN_nat h
section
variable {P : Program} {w : World} {K : PySem.W.Frag} {mg : Str → Option Value} {base : Heap}
abbrev s_count_vectors : Stmt := top 4
abbrev N_count_vectors : List Str := ["count", "bits", "single", "ways", "used", "_", "longer", "share"]
theorem sc_count_vectors : FnScope N_count_vectors ["count", "bits"] (defScope s_count_vectors) := ⟨rfl, rfl, rfl, by decide +kernel, rfl, by decide +kernel, by decide +kernel⟩
theorem ok_count_vectors {f : Addr} {fd : FuncData} (F : Fun K "count_vectors" "count_vectors" s_count_vectors f fd) (T : Glob mg) (g_sum : mg "sum" = none) (D_shares : Df P w K mg base 2 "shares" ["bits"] spShares) : FnOk P w K mg base CX0 3 f fd ["count", "bits"] spCountV := by
  refine F.ok sc_count_vectors (fun vs H Q E h => ?_) (fun cdv A outer s H vs Q E hr h => ?_)
  · obtain ⟨c, b, rfl, _⟩ := h
    rfl
  · obtain ⟨c, b, rfl, hc, hb1, hb, kq⟩ := h
    have nd := sc_count_vectors.nd
    refine ⟨_, (pss_cons (ps_set (i := 2) nd rfl (Or.inl rfl) (pe_call D_shares.ok (hr.mono (by decide)) (by rfl) D_shares.g D_shares.kp D_shares.b .nil pass0 (pa_cons (pv 1) pa_nil)))
    (pss_cons (ps_setLc (i := 3) (own := [("used", 4)]) (g := gName 4) (tt := tYes) rfl nd rfl rfl (sw_true rfl rfl rfl (by decide +kernel)) (pi_range1 (by rfl) T.g_range (pa_cons (pv 1) pa_nil)) (blkOk_by (N := N_count_vectors) (sc := defScope s_count_vectors) (by decide +kernel)) (fun _ _ _ _ _ => pg_name (i := 4) nd rfl (Or.inl rfl)) (fun _ _ _ _ _ => pts_nil) (fun _ _ _ _ _ => (pe_ifExp (pt_cmpR op_eq (pv 4) pe_int (nomark _)) pe_int pe_int)))
    (pss_cons (ps_for PassesOwn.never rfl (pi_range1 (by rfl) T.g_range (pa_cons (pv 0) pa_nil)) (pg_name (i := 5) nd rfl (Or.inl rfl))
    (pss_cons (ps_setLc (i := 6) (own := [("_", 5)]) (g := gName 5) (tt := tYes) rfl nd rfl rfl (sw_true rfl rfl rfl (by decide +kernel)) (pi_range1 (by rfl) T.g_range (pa_cons (pv 1) pa_nil)) (blkOk_by (N := N_count_vectors) (sc := defScope s_count_vectors) (by decide +kernel)) (fun _ _ _ _ _ => pg_name (i := 5) nd rfl (Or.inl rfl)) (fun _ _ _ _ _ => pts_nil) (fun _ _ _ _ _ => pe_int))
    (pss_cons (ps_for PassesOwn.never rfl (pi_list (pv 2)) (pg_name (i := 7) nd rfl (Or.inl rfl))
    (pss_one (ps_for PassesOwn.never rfl (pi_range1 (by rfl) T.g_range (pa_cons (pe_op op_sub (pv 1) (pv 7)) pa_nil)) (pg_name (i := 4) nd rfl (Or.inl rfl))
    (pss_one (ps_asg (pe_op op_add (pe_ix ix_list (pv 6) (pe_op op_add (pv 4) (pv 7)) (fun _ _ => rfl)) (pe_ix ix_list (pv 3) (pv 4) (fun _ _ => rfl))) (pg_sub (pv 6) (pe_op op_add (pv 4) (pv 7)) set_list))))))
    (pss_one (ps_set (i := 3) nd rfl (Or.inl rfl) (pv 6))))))
    (pss_one (ps_ret (pe_callB (cr_sumK (K := K) rfl rfl) (by rfl) g_sum (by decide +kernel) (pa_cons (pv 3) pa_nil))))))), ?_⟩
    have zl : 1000000 ≤ sizeLine := by rw [sizeLine_eq]; omega
    have hW := W_66 hb
    refine seq_by (fun σ H1 => ∃ L : Addr, σ = [some (.int (c : Int)), some (.int (b : Int)), some (.ref L), none, none, none, none, none] ∧ Same H H1 ∧ LI H1 L (sharesL b)) (fun D' hD' => ?_) ?_
    · exact ⟨_, rfl, b, rfl, hb, fun L H1 hL s1 hl => hD' _ _ ⟨L, rfl, s1, hl⟩⟩
    rintro σ H1 ⟨L, rfl, s1, hl1⟩
    refine seq_by (fun σ H2 => ∃ (A : Addr) (a4 : Option V), σ = [some (.int (c : Int)), some (.int (b : Int)), some (.ref L), some (.ref A), a4, none, none, none] ∧ Same H H2 ∧ LI H2 L (sharesL b) ∧ LI H2 A (fnL b (cn b 0))) (fun D' hD' => ?_) ?_
    · refine ⟨_, rfl, _, rfl, by omega, by omega, fun A hA => ?_⟩
      refine lc_it (n := b) walk_range (fun i H2 => Same H1 H2 ∧ LI H2 A (fnL i (cn b 0))) ⟨new_same hA, upd_same⟩ (fun _ _ _ _ => trivial) ?_ ?_
      · rintro i x H2 H3 hi ⟨s2, h2⟩ ⟨rfl, rfl⟩
        refine ⟨rfl, ?_⟩
        dsimp only [tYes]
        rw [if_pos rfl]
        refine ⟨_, rfl, rfl, _, rfl, ?_⟩
        have fin : ∀ v : Int, v = (cn b 0 i : Int) → ∃ acc, H3 A = some (.lst acc) ∧ acc.length < sizeLine ∧ (Same H1 (upd H3 A (.lst (acc ++ [V.int v]))) ∧ LI (upd H3 A (.lst (acc ++ [V.int v]))) A (fnL (i + 1) (cn b 0))) := fun v hv => by
          refine ⟨_, h2, by rw [List.length_map, fnL_len]; omega, same_up s2 hA, ?_⟩
          rw [fnL_succ, ← hv]
          exact li_snoc
        refine ite2 (fun h => ?_) (fun h => ?_)
        · have h : (0 : Int) + (i : Int) = 0 := V.int.inj (of_decide_eq_true h)
          refine fin 1 ?_
          show (1 : Int) = ((if i = 0 then 1 else 0 : Nat) : Int)
          rw [if_pos (by omega)]
          rfl
        · have h : ¬ i = 0 := fun e => h (decide_eq_true (by rw [e]; rfl))
          refine fin 0 ?_
          show (0 : Int) = ((if i = 0 then 1 else 0 : Nat) : Int)
          rw [if_neg h]
          rfl
      · rintro H2 ⟨s2, h2⟩
        exact hD' _ _ ⟨A, _, rfl, s1.trans s2, hl1.same s2, h2⟩
    clear s1 hl1
    rintro σ H2 ⟨A, a4, rfl, s2, hl2, hA2⟩
    refine seq_by (fun σ H3 => ∃ (A : Addr) (a4 a5 a6 a7 : Option V), σ = [some (.int (c : Int)), some (.int (b : Int)), some (.ref L), some (.ref A), a4, a5, a6, a7] ∧ Same H H3 ∧ LI H3 A (fnL b (cn b c))) (fun D' hD' => ?_) ?_
    · refine ⟨_, rfl, _, rfl, by omega, by omega, ?_⟩
      rw [Int.toNat_natCast]
      refine for_range (lo := 0) (n := c) (fun i σ H3 => ∃ (A : Addr) (a4 a5 a6 a7 : Option V), σ = [some (.int (c : Int)), some (.int (b : Int)), some (.ref L), some (.ref A), a4, a5, a6, a7] ∧ Same H H3 ∧ LI H3 L (sharesL b) ∧ LI H3 A (fnL b (cn b i)))
        ⟨A, a4, none, none, none, rfl, s2, hl2, hA2⟩ ?_ (fun σ H3 ⟨A, a4, a5, a6, a7, e, s3, _, h3⟩ => hD' _ _ ⟨A, a4, a5, a6, a7, e, s3, h3⟩)
      clear s2 hl2 hA2
      rintro i σ H3 hi ⟨A, a4, a5, a6, a7, rfl, s3, hl3, hA3⟩
      dsimp only [List.set_cons_succ, List.set_cons_zero]
      refine seq_by (fun σ H4 => ∃ (G : Addr) (a4 a5 a7 : Option V), σ = [some (.int (c : Int)), some (.int (b : Int)), some (.ref L), some (.ref A), a4, a5, some (.ref G), a7] ∧ Same H H4 ∧ LI H4 L (sharesL b) ∧ LI H4 A (fnL b (cn b i)) ∧ LI H4 G (fnL b fun _ => 0) ∧ L ≠ G ∧ A ≠ G ∧ H G = none) (fun D' hD' => ?_) ?_
      · refine ⟨_, rfl, _, rfl, by omega, by omega, fun G hG => ?_⟩
        refine lc_it (n := b) walk_range (fun j H4 => Same H3 H4 ∧ LI H4 G (fnL j fun _ => 0)) ⟨new_same hG, upd_same⟩ (fun _ _ _ _ => trivial) ?_ ?_
        · rintro j x H4 H5 hj ⟨s4, h4⟩ ⟨rfl, rfl⟩
          refine ⟨rfl, ?_⟩
          dsimp only [tYes]
          rw [if_pos rfl]
          refine ⟨_, h4, by rw [List.length_map, fnL_len]; omega, same_up s4 hG, ?_⟩
          rw [fnL_succ]
          exact li_snoc
        · rintro H4 ⟨s4, h4⟩
          exact hD' _ _ ⟨G, _, _, _, rfl, s3.trans s4, hl3.same s4, hA3.same s4, h4, ne_of_none hl3 hG, ne_of_none hA3 hG, same_free s3 hG⟩
      clear s3 hl3 hA3
      rintro σ H4 ⟨G, a4, a5, a7, rfl, s4, hl4, hA4, hG4, nL, nA, hGn⟩
      refine seq_by (fun σ H5 => ∃ (a4 a5 a7 : Option V), σ = [some (.int (c : Int)), some (.int (b : Int)), some (.ref L), some (.ref A), a4, a5, some (.ref G), a7] ∧ Same H H5 ∧ LI H5 L (sharesL b) ∧ LI H5 G (fnL b (cn b (i + 1)))) (fun D' hD' => ?_) ?_
      · refine ⟨_, rfl, L, rfl, ⟨_, SqL.of hl4⟩, ?_⟩
        refine for_list (xs := (sharesL b).map V.int) (fun j σ H5 => ∃ (a4 a5 a7 : Option V), σ = [some (.int (c : Int)), some (.int (b : Int)), some (.ref L), some (.ref A), a4, a5, some (.ref G), a7] ∧ Same H H5 ∧ LI H5 L (sharesL b) ∧ LI H5 A (fnL b (cn b i)) ∧ LI H5 G (fnL b fun u => smN j fun k => if tw k ≤ u then cn b i (u - tw k) else 0))
          ⟨a4, a5, a7, rfl, s4, hl4, hA4, hG4⟩ (fun j σ H5 _ h => by obtain ⟨_, _, _, _, _, h, _⟩ := h; exact SqL.of h) ?_ ?_
        · clear s4 hl4 hA4 hG4
          rintro j x σ H5 hx ⟨a4, a5, a7, rfl, s5, hl5, hA5, hG5⟩
          have hj : j < W b := by
            have := (List.getElem?_eq_some_iff.mp hx).1
            rw [List.length_map] at this
            unfold sharesL at this
            rw [List.length_map, List.length_range] at this
            exact this
          have hx' : x = .int (tw j : Int) := by
            unfold sharesL at hx
            rw [List.getElem?_map, List.getElem?_map, List.getElem?_range hj] at hx
            exact (Option.some.inj hx).symm
          subst hx'
          have htj : tw j < b := W_iff.mpr hj
          refine ⟨_, rfl, _, rfl, _, _, rfl, rfl, (b : Int) - (tw j : Int), rfl, by omega, by omega, ?_⟩
          rw [show ((b : Int) - (tw j : Int)).toNat = b - tw j by omega]
          refine for_range (lo := 0) (n := b - tw j) (fun v σ H6 => ∃ (a4 a5 : Option V), σ = [some (.int (c : Int)), some (.int (b : Int)), some (.ref L), some (.ref A), a4, a5, some (.ref G), some (.int (tw j : Int))] ∧ Same H H6 ∧ LI H6 L (sharesL b) ∧ LI H6 A (fnL b (cn b i)) ∧ LI H6 G (fnL b fun u => (smN j fun k => if tw k ≤ u then cn b i (u - tw k) else 0) + if tw j ≤ u ∧ u < tw j + v then cn b i (u - tw j) else 0))
            ⟨a4, a5, rfl, s5, hl5, hA5, ?_⟩ ?_ ?_
          · have e : (fnL b fun u => (smN j fun k => if tw k ≤ u then cn b i (u - tw k) else 0) + if tw j ≤ u ∧ u < tw j + 0 then cn b i (u - tw j) else 0) = fnL b fun u => smN j fun k => if tw k ≤ u then cn b i (u - tw k) else 0 := fnL_congr fun u _ => by
              rw [if_neg (by omega)]
              rfl
            rw [e]
            exact hG5
          · clear s5 hl5 hA5 hG5
            rintro v σ H6 hv ⟨a4, a5, rfl, s6, hl6, hA6, hG6⟩
            have hk : v + tw j < b := by omega
            refine ⟨_, rfl, _, rfl, _, rfl, _, _, rfl, rfl, G, _, _, _, rfl, rfl, SqL.of hG6, atI_fn hk (by omega), ?_⟩
            refine ⟨_, rfl, _, rfl, A, _, _, _, rfl, rfl, SqL.of hA6, atI_fn (u := v) (by omega) (by omega), _, _, rfl, rfl, ?_⟩
            refine ⟨_, rfl, _, rfl, _, rfl, _, _, rfl, rfl, G, _, _, v + tw j, rfl, rfl, hG6, ixN_fn hk (by omega), ?_⟩
            refine ⟨_, a5, rfl, same_up s6 hGn, hl6.updN nL, hA6.updN nA, ?_⟩
            show upd H6 G _ G = _
            rw [upd_same, map_set_int]
            have ev : ((((smN j fun k => if tw k ≤ v + tw j then cn b i (v + tw j - tw k) else 0) + if tw j ≤ v + tw j ∧ v + tw j < tw j + v then cn b i (v + tw j - tw j) else 0 : Nat) : Int) + (cn b i v : Int)) = (((smN j fun k => if tw k ≤ v + tw j then cn b i (v + tw j - tw k) else 0) + cn b i v : Nat) : Int) := by
              rw [if_neg (by omega)]
              omega
            rw [ev, fnL_set hk]
            congr 1
            congr 1
            refine congrArg _ (fnL_congr fun u hu => ?_)
            by_cases e : u = v + tw j
            · rw [if_pos e, e, if_pos ⟨by omega, by omega⟩, show v + tw j - tw j = v by omega]
            · rw [if_neg e]
              by_cases q : tw j ≤ u ∧ u < tw j + v
              · rw [if_pos q, if_pos ⟨q.1, by omega⟩]
              · rw [if_neg q, if_neg fun z => q ⟨z.1, by omega⟩]
          · rintro σ H6 ⟨a4, a5, rfl, s6, hl6, hA6, hG6⟩
            refine ⟨a4, a5, _, rfl, s6, hl6, hA6, ?_⟩
            have e : (fnL b fun u => smN (j + 1) fun k => if tw k ≤ u then cn b i (u - tw k) else 0) = fnL b fun u => (smN j fun k => if tw k ≤ u then cn b i (u - tw k) else 0) + if tw j ≤ u ∧ u < tw j + (b - tw j) then cn b i (u - tw j) else 0 := fnL_congr fun u hu => by
              show (smN j fun k => if tw k ≤ u then cn b i (u - tw k) else 0) + (if tw j ≤ u then cn b i (u - tw j) else 0) = _
              by_cases q : tw j ≤ u
              · rw [if_pos q, if_pos ⟨q, by omega⟩]
              · rw [if_neg q, if_neg fun z => q z.1]
            rw [e]
            exact hG6
        · rintro σ H5 ⟨a4, a5, a7, rfl, s5, hl5, hA5, hG5⟩
          rw [List.length_map] at hG5
          unfold sharesL at hG5
          rw [List.length_map, List.length_range] at hG5
          exact hD' _ _ ⟨a4, a5, a7, rfl, s5, hl5, hG5⟩
      rintro σ H5 ⟨a4, a5, a7, rfl, s5, hl5, hG5⟩
      exact ⟨_, rfl, G, _, _, _, _, rfl, s5, hl5, hG5⟩
    rintro σ H3 ⟨A, a4, a5, a6, a7, rfl, s3, h3⟩
    refine ⟨_, rfl, false, A, _, rfl, sqK_l (SqL.of h3), ?_⟩
    rw [fnL_sum, cn_sum b c b hb1 (Nat.le_refl _)]
    exact kq H3 s3
end
end My

set_option Elab.async false
set_option linter.all false
set_option maxRecDepth 100000
set_option maxHeartbeats 1000000
/-! ### one stretch of a generator's run: up to where it hands out or ends -/
namespace GenZ
open PySem PySem.Spec PyProof.Rows L2 GenW

/-- from here the generator's code runs on to a yield or to its end, and Z is true of that -/
def Lap (M : Model) (A : Around) (Z : End → Shared → Prop) (c : Code) (t : Sem PySem.Fin) (fs : List Frame) (s : Shared) : Prop :=
  ∀ Γ p, Γ.code = c → Γ.Woken A → ∃ e s', Runs M Γ p t fs s e s' ∧ Z e s'
abbrev never : Value → Shared → Prop := fun _ _ => False

section
variable {M : Model} {A : Around} {Z : End → Shared → Prop} {s : Shared} {c : Code} {fs : List Frame}
theorem lap_wrap {α : Type} {m : Sem α} {K : α → Sem PySem.Fin} {J : Value → Sem PySem.Fin} {gd : Bool → Bool} {lv : List Value → List Value}
    (h : wpAny M (A.over c fs) m (fun a s' => Lap M A Z c (K a) fs s') never s) : Lap M A Z c (m.wrap K J gd lv) fs s := by
  rintro Γ p rfl hΓ
  exact runs_wrap_of_wp K J gd lv m (h (Γ.over fs) p (hΓ.over fs)) (fun a p' s' h' => h' Γ p' rfl hΓ) (fun x p' s' h' => h'.elim)
theorem lap_bind {α : Type} {m : Sem α} {K : α → Sem PySem.Fin} (h : wpAny M (A.over c fs) m (fun a s' => Lap M A Z c (K a) fs s') never s) : Lap M A Z c (m >>= K) fs s := by
  rw [Sem.bind_eq_wrap']; exact lap_wrap h
theorem lap_bind_wrap {α β : Type} {m : Sem α} {f : α → Sem β} {K : β → Sem PySem.Fin} {J : Value → Sem PySem.Fin} {gd : Bool → Bool} {lv : List Value → List Value}
    (h : wpAny M (A.over c fs) m (fun a s' => Lap M A Z c ((f a).wrap K J gd lv) fs s') never s) : Lap M A Z c ((m >>= f).wrap K J gd lv) fs s := by
  rw [Sem.bind_eq_wrap', Sem.wrap_wrap]; exact lap_wrap h
theorem lap_at {p' : Pos} {k : Unit → Sem PySem.Fin} (h : Lap M A Z c (k ()) fs s) : Lap M A Z c (.at p' k) fs s :=
  lap_wrap (m := standAt p') (K := k) (J := .raise) (gd := id) (lv := id) (wpAny_standAt h)
theorem lap_point {l : List Value} {k : Unit → Sem PySem.Fin} (h : Lap M A Z c (k ()) fs s) : Lap M A Z c (.point l k) fs s :=
  lap_wrap (m := point) (K := k) (J := .raise) (gd := id) (lv := fun _ => l) (wpAny_point h)
theorem lap_call {c' : Code} {h g l} {k : Result → Sem PySem.Fin} (hc : ∀ p, Lap M A Z c' (M.den c') (.ret k h g l c p [] :: fs) s) : Lap M A Z c (.call c' h g l k) fs s := by
  rintro Γ p rfl hΓ
  obtain ⟨e, s', hr, he⟩ := hc p (Γ.goto c') p rfl (hΓ.goto c')
  exact ⟨e, s', runs_call_seg hr, he⟩
theorem lap_leaf {k h g l c₁ p₁ kp} (r : Result) (hk : Lap M A Z c₁ (k r) fs s) : Lap M A Z c (leafOf r) (.ret k h g l c₁ p₁ kp :: fs) s := by
  rintro Γ p rfl hΓ
  obtain ⟨e, s', hr, he⟩ := hk (Γ.goto c₁) p₁ rfl (hΓ.goto c₁)
  exact ⟨e, s', Runs.pop r hr, he⟩
theorem lap_again {c' : Code} (hq : c'.quiet = true) (hc : Lap M A Z c' (M.den c') fs s) : Lap M A Z c (.pure (.again c')) fs s := by
  rintro Γ p rfl hΓ
  obtain ⟨e, s', hr, he⟩ := hc (Γ.goto c') p rfl (hΓ.goto c')
  exact ⟨e, s', Runs.head (c₁ := c') (fun _ _ x => .again hq x) hr, he⟩
theorem lap_end (r : Result) (h : Z (.ret r) s) : Lap M A Z c (leafOf r) [] s := by
  rintro Γ p rfl _
  exact ⟨.ret r, s, Runs.leaf r, h⟩
theorem lap_yield {v g l} {k : Resume → Sem PySem.Fin} (hfs : splitAtGen fs = none) (h : ∀ p, Z (.susp v g l k c p fs) s) : Lap M A Z c (.yield v g l k) fs s := by
  rintro Γ p rfl _
  exact ⟨_, s, Runs.yield' fs hfs, h p⟩
end
end GenZ

set_option Elab.async false
set_option linter.all false
set_option maxRecDepth 100000
set_option maxHeartbeats 1000000
/-! ### statements of a generator's body, stretch by stretch -/
namespace GenZ
open PySem PySem.Spec PyProof.Rows L2 GenW
section
variable {M : Model} {A : Around} {Z : End → Shared → Prop} {s : Shared} {c : Code} {fs : List Frame} {env : Env}
  {K : Flow → Sem PySem.Fin} {J : Value → Sem PySem.Fin} {gd : Bool → Bool} {lv : List Value → List Value}
theorem lap_execs_nil (h : Lap M A Z c (K .next) fs s) : Lap M A Z c ((execs [] env).wrap K J gd lv) fs s := h
theorem lap_execs_cons {st : Stmt} {rest : List Stmt} (h : Lap M A Z c ((exec st env).wrap (fun f => match f with | .next => (execs rest env).wrap K J gd lv | f => K f) J gd lv) fs s) :
    Lap M A Z c ((execs (st :: rest) env).wrap K J gd lv) fs s := by rw [execs_cons_wrap]; exact h
theorem lap_Expr_Yield {e : Expr} {ypos pos : Pos} (hfs : splitAtGen fs = none)
    (h : wpAny M (A.over c fs) (eval e env) (fun v s' => ∀ (g : Bool) l (k : Resume → Sem PySem.Fin) p, g = gd false → k (.send .none) = K .next → Z (.susp v g l k c p fs) s') never s) (hco : env.scope.isCoroutine = false := by rfl) (hi : interactive env = false := by rfl) :
    Lap M A Z c ((exec (.Expr (.Yield (some e) ypos) pos) env).wrap K J gd lv) fs s := by
  rw [exec_Expr env _ pos hi rfl]
  show Lap M A Z c (.at pos fun _ => ((eval e env >>= fun v => (standAt ypos >>= fun _ => yieldOut env v)) >>= fun x =>
    dropValue (.Yield (some e) ypos) pos x).wrap K J gd lv) fs s
  have hy : ∀ v, yieldOut env v = yieldValue v := fun v => by simp only [yieldOut, hco, Bool.false_eq_true, if_false]
  simp only [hy]
  refine lap_at ?_
  rw [Sem.bind_eq_wrap', Sem.bind_eq_wrap', Sem.wrap_wrap, Sem.wrap_wrap]
  refine lap_wrap (wpAny_mono h (fun v s' h' => ?_) fun _ _ x => x)
  exact lap_at (lap_yield hfs fun p => h' _ _ _ p rfl rfl)
theorem lap_While {test : Expr} {body orelse : List Stmt} {pos : Pos}
    (h : ∀ k p, (∀ f, k (.ok f) = K f) → Lap M A Z (.whileLoop test body orelse env) (M.den (.whileLoop test body orelse env)) (.ret k none (gd false) (lv []) c p [] :: fs) s) :
    Lap M A Z c ((exec (.While test body orelse pos) env).wrap K J gd lv) fs s :=
  lap_at (lap_call fun p => h _ p fun _ => rfl)
theorem lap_For {tg iter : Expr} {body orelse : List Stmt} {pos : Pos}
    (h : wpAny M (A.over c fs) (eval iter env) (fun x s₁ => wpAny M (A.over c fs) (pyIter x) (fun it s₂ =>
      ∀ k p, (∀ f, k (.ok f) = K f) → Lap M A Z (.forLoop tg it body orelse env) (M.den (.forLoop tg it body orelse env)) (.ret k none (gd false) (lv []) c p [] :: fs) s₂) never s₁) never s)
    (hs : ∀ x, foldedSetIterable iter env x = pure x := by intro _; rfl) :
    Lap M A Z c ((exec (.For tg iter body orelse pos) env).wrap K J gd lv) fs s := by
  rw [exec_For]
  refine lap_bind_wrap (wpAny_standAt ?_)
  refine lap_bind_wrap (wpAny_mono h (fun x s₁ h₁ => ?_) fun _ _ x => x)
  refine lap_bind_wrap (wpAny_of_eq (hs x) ?_)
  refine lap_bind_wrap (wpAny_standAt ?_)
  refine lap_bind_wrap (wpAny_holding (wpAny_mono h₁ (fun it s₂ h₂ => ?_) fun _ _ x => x))
  exact lap_call fun p => h₂ _ p fun _ => rfl
theorem lap_If {test : Expr} {body orelse : List Stmt} {pos : Pos}
    (h : wpAny M (A.over c fs) (isTrue test env (eval test env)) (fun b s' => if b = true then Lap M A Z c ((execs body env).wrap K J gd lv) fs s' else Lap M A Z c ((execs orelse env).wrap K J gd lv) fs s') never s) :
    Lap M A Z c ((exec (.If test body orelse pos) env).wrap K J gd lv) fs s := by
  show Lap M A Z c ((Sem.at pos fun _ => (isTrue test env (eval test env)) >>= fun b => if b = true then execs body env else execs orelse env).wrap K J gd lv) fs s
  refine lap_at ?_
  refine lap_bind_wrap (wpAny_mono h (fun b s' hb => ?_) fun _ _ x => x)
  cases b with
  | true => rw [if_pos rfl] at hb ⊢; exact hb
  | false => rw [if_neg Bool.false_ne_true] at hb ⊢; exact hb
end
section
variable {prog : Program} {w : World} {A : Around} {Z : End → Shared → Prop} {fs : List Frame} {s : Shared} {env : Env}
theorem lap_whileLoop {test : Expr} {body : List Stmt}
    (h : wpAny (model prog w) (A.over (.whileLoop test body [] env) fs) (isTrue test env (eval test env)) (fun b s' =>
        if b = true then ∀ J, Lap (model prog w) A Z (.whileLoop test body [] env) ((execs body env).wrap (fun f => match f with
            | .next | .cont => .pure (.again (.whileLoop test body [] env))
            | .brk => .pure (.done .next)
            | .ret v => .pure (.done (.ret v))) J id id) fs s'
        else Lap (model prog w) A Z (.whileLoop test body [] env) (.pure (.done .next)) fs s') never s) :
    Lap (model prog w) A Z (.whileLoop test body [] env) ((model prog w).den (.whileLoop test body [] env)) fs s := by
  show Lap _ A Z _ ((whileTurn test body [] env).onRaise (fun x => do noteFrame x env; theTreesLotGoes x)) fs s
  unfold whileTurn
  rw [Sem.onRaise_eq_wrap, Sem.bind_eq_wrap', Sem.wrap_wrap]
  refine lap_wrap (wpAny_mono h (fun b s' hb => ?_) fun x s' hx => hx)
  cases b with
  | true =>
    rw [if_pos rfl] at hb
    show Lap _ A Z _ (Sem.wrap _ _ _ _ (if true = true then _ else _)) fs s'
    rw [if_pos rfl, Sem.bind_eq_wrap', Sem.wrap_wrap]
    rw [Sem.wrap_congr (execs body env) _ _ (K' := fun f => match f with
          | .next | .cont => .pure (.again (.whileLoop test body [] env))
          | .brk => .pure (.done .next)
          | .ret v => .pure (.done (.ret v))) (H' := (fun e => (do noteFrame e env; theTreesLotGoes e : Sem Unit).wrap (fun _ => .raise e) .raise id id))
      (fun f => by cases f <;> rfl)
      (fun e => by first | exact Sem.bind_eq_wrap _ _ | (show (do noteFrame e env; theTreesLotGoes e : Sem Unit).bind (fun _ => .raise e) = _; rw [Sem.bind_eq_wrap]))]
    exact hb _
  | false =>
    rw [if_neg Bool.false_ne_true] at hb
    show Lap _ A Z _ (Sem.wrap _ _ _ _ (if false = true then _ else _)) fs s'
    rw [if_neg Bool.false_ne_true]
    exact hb
theorem lap_forLoop {tg : Expr} {it : Value} {body : List Stmt}
    (h : wpAny (model prog w) (A.over (.forLoop tg it body [] env) fs) (pyNext it) (fun r s₁ => match r with
      | none => Lap (model prog w) A Z (.block [] env) (.pure (.done .next)) fs s₁
      | some v => wpAny (model prog w) (A.over (.forLoop tg it body [] env) fs) (letOwnedTupleGo tg it v) (fun _ s₁' => wpAny (model prog w) (A.over (.forLoop tg it body [] env) fs) (assign tg env v) (fun _ s₂ =>
          ∀ J, Lap (model prog w) A Z (.forLoop tg it body [] env) ((execs body env).wrap (fun f => match f with
            | .next | .cont => .pure (.again (.forLoop tg it body [] env))
            | .brk => .pure (.done .next)
            | .ret v => .pure (.done (.ret v))) J id id) fs s₂) never s₁') never s₁) never s) :
    Lap (model prog w) A Z (.forLoop tg it body [] env) ((model prog w).den (.forLoop tg it body [] env)) fs s := by
  show Lap _ A Z _ ((forTurn tg it body [] env).onRaise (fun x => do noteFrame x env; theTreesLotGoes x)) fs s
  unfold forTurn
  rw [Sem.onRaise_eq_wrap]
  refine lap_bind_wrap (wpAny_standAt ?_)
  refine lap_bind_wrap (wpAny_onRaise (wpAny_mono h (fun r s₁ h₁ => ?_) fun _ _ x => x.elim))
  cases r with
  | none => exact lap_again rfl h₁
  | some v =>
    refine lap_bind_wrap (wpAny_mono h₁ (fun _ s₁' h₁' => ?_) fun _ _ x => x)
    refine lap_bind_wrap (wpAny_mono h₁' (fun _ s₂ h₂ => ?_) fun _ _ x => x)
    rw [Sem.bind_eq_wrap', Sem.wrap_wrap]
    rw [Sem.wrap_congr (execs body env) _ _ (K' := fun f => match f with
          | .next | .cont => .pure (.again (.forLoop tg it body [] env))
          | .brk => .pure (.done .next)
          | .ret v => .pure (.done (.ret v))) (H' := (fun e => (do noteFrame e env; theTreesLotGoes e : Sem Unit).wrap (fun _ => .raise e) .raise id id))
      (fun f => by cases f <;> rfl)
      (fun e => by first | exact Sem.bind_eq_wrap _ _ | (show (do noteFrame e env; theTreesLotGoes e : Sem Unit).bind (fun _ => .raise e) = _; rw [Sem.bind_eq_wrap]))]
    exact h₂ _
theorem lap_func {body : List Stmt} (h : ∀ J, Lap (model prog w) A Z (.func body env) ((execs body env).wrap (fun f => .pure (.done (.ret (match f with | .ret v => v | _ => .none)))) J id id) fs s) :
    Lap (model prog w) A Z (.func body env) ((model prog w).den (.func body env)) fs s := by
  show Lap _ A Z _ (.point [] fun _ => ((execs body env).onRaise (leaving env)) >>= _) fs s
  refine lap_point ?_
  rw [Sem.onRaise_eq_wrap, Sem.bind_eq_wrap', Sem.wrap_wrap]
  rw [Sem.wrap_congr (execs body env) _ _ (K' := fun f => .pure (.done (.ret (match f with | .ret v => v | _ => .none))))
    (H' := fun e => (leaving env e).wrap (fun _ => .raise e) .raise id id) (fun f => by cases f <;> rfl)
    (fun e => by rw [Sem.bind_eq_wrap, Sem.wrap_wrap]; rfl)]
  exact h _
end
end GenZ

set_option Elab.async false
set_option linter.all false
set_option maxRecDepth 100000
set_option maxHeartbeats 1000000
/-! ### a run that wakes none of some sleeping generators: the same with any other state of theirs -/
namespace GenFr
open PySem
/-- B: the generators that sleep; P: a state of each that nothing may wake; X: the state that it has indeed -/
structure Rs where
  B : Nat → Bool
  P : Nat → GenState
  X : Nat → GenState
  ok : ∀ i, B i = true → (∃ w l c p fs cl, P i = .suspended (fun _ => .unsupported w) l c p fs cl) ∧ (P i).seen = (X i).seen
def un (R : Rs) (z : Shared) : Shared := { z with gens := z.gens.mapIdx fun i x => if R.B i = true then R.X i else x }
def fine (B : Nat → Bool) : Frame → Bool
  | .ret .. => true
  | .gen g .. => !B g
def FsOk (B : Nat → Bool) (fs : List Frame) : Prop := ∀ f ∈ fs, fine B f = true
def stOk (B : Nat → Bool) : GenState → Prop
  | .suspended _ _ _ _ fs _ => FsOk B fs
  | _ => True
def EndOk (B : Nat → Bool) : End → Prop
  | .ret _ => True
  | .susp _ _ _ _ _ _ fs => FsOk B fs
structure Ok (R : Rs) (z : Shared) : Prop where
  here : ∀ i, R.B i = true → z.gens[i]? = some (R.P i)
  rest : ∀ i x, R.B i = false → z.gens[i]? = some x → stOk R.B x
theorem no_uns {M : Model} {Γ : Ctx} {p : Pos} {w : String} {fs : List Frame} {s s' : Shared} {e : End} (h : Runs M Γ p (.unsupported w) fs s e s') : False := by
  cases h with
  | segRet h1 _ => cases h1
  | segGen h1 _ => cases h1
  | segSuspOut _ h1 => cases h1
  | segSuspGen _ h1 _ _ => cases h1
theorem un_at {R : Rs} {z : Shared} {i : Nat} (h : R.B i = false) : (un R z).gens[i]? = z.gens[i]? := by
  show (z.gens.mapIdx fun i x => if R.B i = true then R.X i else x)[i]? = _
  rw [Array.getElem?_mapIdx]
  cases z.gens[i]? with
  | none => rfl
  | some x => simp [h]
theorem un_in {R : Rs} {z : Shared} {i : Nat} {x : GenState} (h : R.B i = true) (e : z.gens[i]? = some x) : (un R z).gens[i]? = some (R.X i) := by
  show (z.gens.mapIdx fun i x => if R.B i = true then R.X i else x)[i]? = _
  rw [Array.getElem?_mapIdx, e]
  simp [h]
theorem un_size (R : Rs) (z : Shared) : (un R z).gens.size = z.gens.size := by
  show (z.gens.mapIdx _).size = _
  exact Array.size_mapIdx
theorem un_set {R : Rs} {z : Shared} {g : Nat} {x : GenState} (h : R.B g = false) : un R (z.setGen g x) = (un R z).setGen g x := by
  have : ((z.gens.setIfInBounds g x).mapIdx fun i x => if R.B i = true then R.X i else x) = (z.gens.mapIdx fun i x => if R.B i = true then R.X i else x).setIfInBounds g x := by
    apply Array.ext_getElem?
    intro i
    rw [Array.getElem?_mapIdx, Array.getElem?_setIfInBounds, Array.getElem?_setIfInBounds, Array.getElem?_mapIdx, Array.size_mapIdx]
    by_cases hi : g = i
    · subst hi
      simp only [if_true]
      by_cases hs : g < z.gens.size <;> simp [h, hs]
    · rw [if_neg hi, if_neg hi]
  unfold un Shared.setGen
  rw [this]
theorem un_push {R : Rs} {z : Shared} {x : GenState} (h : R.B z.gens.size = false) : un R { z with gens := z.gens.push x } = { un R z with gens := (un R z).gens.push x } := by
  have : ((z.gens.push x).mapIdx fun i x => if R.B i = true then R.X i else x) = (z.gens.mapIdx fun i x => if R.B i = true then R.X i else x).push x := by
    apply Array.ext_getElem?
    intro i
    rw [Array.getElem?_mapIdx, Array.getElem?_push, Array.getElem?_push, Array.getElem?_mapIdx, Array.size_mapIdx]
    by_cases hi : i = z.gens.size
    · subst hi
      simp [h]
    · rw [if_neg hi, if_neg hi]
  unfold un
  dsimp only
  rw [this]
theorem Ok.size {R : Rs} {z : Shared} (o : Ok R z) : R.B z.gens.size = false := by
  cases h : R.B z.gens.size with
  | false => rfl
  | true =>
    have := o.here _ h
    rw [Array.getElem?_eq_none (Nat.le_refl _)] at this
    cases this
theorem Ok.set {R : Rs} {z : Shared} {g : Nat} {x : GenState} (o : Ok R z) (h : R.B g = false) (hx : stOk R.B x) : Ok R (z.setGen g x) := by
  refine ⟨fun i hi => ?_, fun i y hi e => ?_⟩
  · show (z.gens.setIfInBounds g x)[i]? = _
    rw [Array.getElem?_setIfInBounds_ne (by rintro rfl; rw [h] at hi; cases hi)]
    exact o.here i hi
  · have e : (z.gens.setIfInBounds g x)[i]? = some y := e
    rw [Array.getElem?_setIfInBounds] at e
    split at e
    · split at e
      · cases e
        exact hx
      · cases e
    · exact o.rest i y hi e
theorem Ok.push {R : Rs} {z : Shared} {c : Code} (o : Ok R z) : Ok R { z with gens := z.gens.push (.fresh c) } := by
  refine ⟨fun i hi => ?_, fun i y hi e => ?_⟩
  · show (z.gens.push _)[i]? = _
    rw [Array.getElem?_push, if_neg (by rintro rfl; rw [o.size] at hi; cases hi)]
    exact o.here i hi
  · have e : (z.gens.push (.fresh c))[i]? = some y := e
    rw [Array.getElem?_push] at e
    split at e
    · cases e
      trivial
    · exact o.rest i y hi e
theorem Ok.none {R : Rs} {z : Shared} (o : Ok R z) {g : Nat} {x : GenState} (e : z.gens[g]? = some x) (h : ∀ k l c p fs cl, x ≠ .suspended k l c p fs cl) : R.B g = false := by
  cases hb : R.B g with
  | false => rfl
  | true =>
    have := o.here g hb
    rw [e] at this
    cases this
    obtain ⟨⟨w, l, c, p, fs, cl, q⟩, _⟩ := R.ok g hb
    exact absurd q (h _ _ _ _ _ _)
theorem split_ok {B : Nat → Bool} : ∀ {fs : List Frame} {pre : List Frame} {g : Nat} {k : GenResult → Sem Fin} {c : Code} {p : Pos} {rest : List Frame}, FsOk B fs → splitAtGen fs = some (pre, (g, k, c, p), rest) → FsOk B pre ∧ B g = false ∧ FsOk B rest
  | [], _, _, _, _, _, _, _, h => by cases h
  | .gen g' k' l' c' p' :: fs, pre, g, k, c, p, rest, o, h => by
    unfold splitAtGen at h
    cases h
    refine ⟨fun f hf => (by cases hf), ?_, fun f hf => o f (List.mem_cons_of_mem _ hf)⟩
    have := o _ List.mem_cons_self
    unfold fine at this
    simpa using this
  | .ret k' h' g' l' c' p' kp :: fs, pre, g, k, c, p, rest, o, h => by
    unfold splitAtGen at h
    cases hs : splitAtGen fs with
    | none => rw [hs] at h; cases h
    | some x =>
      obtain ⟨pre', ⟨g1, k1, c1, p1⟩, rest'⟩ := x
      rw [hs] at h
      cases h
      obtain ⟨a, b, d⟩ := split_ok (fun f hf => o f (List.mem_cons_of_mem _ hf)) hs
      refine ⟨fun f hf => ?_, b, d⟩
      rcases List.mem_cons.mp hf with rfl | hf
      · rfl
      · exact a f hf
theorem end_st {B : Nat → Bool} {e : End} (h : EndOk B e) : stOk B e.genState := by
  cases e with
  | ret _ => trivial
  | susp v g l k c p fs => exact h
theorem ok_nil {B : Nat → Bool} : FsOk B [] := fun f hf => by cases hf
theorem runs_fr {R : Rs} {M : Model} {Γ : Ctx} {p : Pos} {t : Sem Fin} {fs : List Frame} {z z' : Shared} {e : End} (h : Runs M Γ p t fs z e z') : Ok R z → FsOk R.B fs → Runs M Γ p t fs (un R z) e (un R z') ∧ Ok R z' ∧ EndOk R.B e := by
  induction h with
  | done => intro o f; exact ⟨.done, o, trivial⟩
  | raise => intro o f; exact ⟨.raise, o, trivial⟩
  | again q _ ih => intro o f; obtain ⟨a, b, d⟩ := ih o f; exact ⟨.again q a, b, d⟩
  | rule _ ih => intro o f; obtain ⟨a, b, d⟩ := ih o f; exact ⟨.rule a, b, d⟩
  | «at» _ ih => intro o f; obtain ⟨a, b, d⟩ := ih o f; exact ⟨.at a, b, d⟩
  | load ho _ ih => intro o f; obtain ⟨a, b, d⟩ := ih o f; exact ⟨.load ho a, b, d⟩
  | update ho _ ih => intro o f; obtain ⟨a, b, d⟩ := ih ⟨o.here, o.rest⟩ f; exact ⟨.update ho a, b, d⟩
  | loadIfAlive _ ih => intro o f; obtain ⟨a, b, d⟩ := ih o f; exact ⟨.loadIfAlive a, b, d⟩
  | point _ ih => intro o f; obtain ⟨a, b, d⟩ := ih o f; exact ⟨.point a, b, d⟩
  | alloc _ ih => intro o f; obtain ⟨a, b, d⟩ := ih ⟨o.here, o.rest⟩ f; exact ⟨.alloc a, b, d⟩
  | fresh _ ih => intro o f; obtain ⟨a, b, d⟩ := ih ⟨o.here, o.rest⟩ f; exact ⟨.fresh a, b, d⟩
  | ask _ ih => intro o f; obtain ⟨a, b, d⟩ := ih o f; exact ⟨.ask a, b, d⟩
  | choose hn _ ih => intro o f; obtain ⟨a, b, d⟩ := ih ⟨o.here, o.rest⟩ f; exact ⟨.choose hn a, b, d⟩
  | os _ ih => intro o f; obtain ⟨a, b, d⟩ := ih ⟨o.here, o.rest⟩ f; exact ⟨.os a, b, d⟩
  | handled _ ih => intro o f; obtain ⟨a, b, d⟩ := ih o f; exact ⟨.handled a, b, d⟩
  | genState hs _ ih =>
    rename_i g st Γ p k z e z' hr0
    intro o f
    obtain ⟨a, b, d⟩ := ih o f
    cases hb : R.B g with
    | false => exact ⟨.genState (by rw [un_at hb]; exact hs) a, b, d⟩
    | true =>
      have hP := o.here g hb
      rw [hs] at hP
      cases hP
      refine ⟨.genState (un_in hb hs) ?_, b, d⟩
      rw [← (R.ok g hb).2]
      exact a
  | stack _ ih => intro o f; obtain ⟨a, b, d⟩ := ih o f; exact ⟨.stack a, b, d⟩
  | thread _ ih => intro o f; obtain ⟨a, b, d⟩ := ih o f; exact ⟨.thread a, b, d⟩
  | newGen _ ih =>
    intro o f
    obtain ⟨a, b, d⟩ := ih o.push f
    rw [un_push o.size] at a
    refine ⟨.newGen ?_, b, d⟩
    rw [un_size]
    exact a
  | call _ _ ih1 ih2 =>
    intro o f
    obtain ⟨a1, b1, _⟩ := ih1 o ok_nil
    obtain ⟨a2, b2, d2⟩ := ih2 b1 f
    exact ⟨.call a1 a2, b2, d2⟩
  | callSusp _ ih =>
    intro o f
    obtain ⟨a, b, d⟩ := ih o ok_nil
    refine ⟨.callSusp a, b, fun x hx => ?_⟩
    rcases List.mem_append.mp hx with hx | hx
    · exact d x hx
    · obtain rfl := List.mem_singleton.mp hx
      rfl
  | yield => intro o f; exact ⟨.yield, o, ok_nil⟩
  | resumeFresh hg _ hq _ ih1 ih2 =>
    intro o f
    have hb := o.none hg (by intros; intro q; cases q)
    obtain ⟨a1, b1, d1⟩ := ih1 (o.set hb trivial) ok_nil
    obtain ⟨a2, b2, d2⟩ := ih2 (b1.set hb (end_st d1)) f
    rw [un_set hb] at a1 a2
    exact ⟨.resumeFresh (by rw [un_at hb]; exact hg) a1 hq a2, b2, d2⟩
  | @resumeSuspended Γ p g r l k z k₀ l₀ c₀ p₀ fs cl e₁ s₁ e z' hg h1 hq _ ih1 ih2 =>
    intro o f
    cases hb : R.B g with
    | false =>
      have hf : FsOk R.B fs := o.rest g _ hb hg
      obtain ⟨a1, b1, d1⟩ := ih1 (o.set hb trivial) hf
      obtain ⟨a2, b2, d2⟩ := ih2 (b1.set hb (end_st d1)) f
      rw [un_set hb] at a1 a2
      exact ⟨.resumeSuspended (by rw [un_at hb]; exact hg) a1 hq a2, b2, d2⟩
    | true =>
      have hP := o.here g hb
      rw [hg] at hP
      obtain ⟨⟨w, l2, c2, p2, fs2, cl2, q⟩, _⟩ := R.ok g hb
      rw [q] at hP
      cases hP
      exact (no_uns h1).elim
  | resumeJustStarted hg hv _ ih =>
    intro o f
    have hb := o.none hg (by intros; intro q; cases q)
    obtain ⟨a, b, d⟩ := ih o f
    exact ⟨.resumeJustStarted (by rw [un_at hb]; exact hg) hv a, b, d⟩
  | resumeThrowFresh hg _ ih =>
    intro o f
    have hb := o.none hg (by intros; intro q; cases q)
    obtain ⟨a, b, d⟩ := ih (o.set hb trivial) f
    rw [un_set hb] at a
    exact ⟨.resumeThrowFresh (by rw [un_at hb]; exact hg) a, b, d⟩
  | resumeRunning hg _ ih =>
    intro o f
    have hb := o.none hg (by intros; intro q; cases q)
    obtain ⟨a, b, d⟩ := ih o f
    exact ⟨.resumeRunning (by rw [un_at hb]; exact hg) a, b, d⟩
  | resumeFinished hg _ ih =>
    intro o f
    have hb := o.none hg (by intros; intro q; cases q)
    obtain ⟨a, b, d⟩ := ih o f
    exact ⟨.resumeFinished (by rw [un_at hb]; exact hg) a, b, d⟩
  | segRet _ _ ih1 ih2 =>
    intro o f
    obtain ⟨a1, b1, _⟩ := ih1 o ok_nil
    obtain ⟨a2, b2, d2⟩ := ih2 b1 fun x hx => f x (List.mem_cons_of_mem _ hx)
    exact ⟨.segRet a1 a2, b2, d2⟩
  | @segGen Γ p t g k l c₁ p₁ fs z r s₁ e z' _ _ ih1 ih2 =>
    intro o f
    have hb : R.B g = false := by
      have := f _ List.mem_cons_self
      unfold fine at this
      simpa using this
    obtain ⟨a1, b1, _⟩ := ih1 o ok_nil
    obtain ⟨a2, b2, d2⟩ := ih2 (b1.set hb trivial) fun x hx => f x (List.mem_cons_of_mem _ hx)
    rw [un_set hb] at a2
    exact ⟨.segGen a1 a2, b2, d2⟩
  | segSuspOut hn _ ih =>
    intro o f
    obtain ⟨a, b, d⟩ := ih o ok_nil
    refine ⟨.segSuspOut hn a, b, fun x hx => ?_⟩
    rcases List.mem_append.mp hx with hx | hx
    · exact d x hx
    · exact f x hx
  | segSuspGen hs _ hq _ ih1 ih2 =>
    intro o f
    obtain ⟨f1, hb, f2⟩ := split_ok f hs
    obtain ⟨a1, b1, d1⟩ := ih1 o ok_nil
    obtain ⟨a2, b2, d2⟩ := ih2 (b1.set hb (end_st (by
      show FsOk R.B _
      intro x hx
      rcases List.mem_append.mp hx with hx | hx
      · exact d1 x hx
      · exact f1 x hx))) f2
    rw [un_set hb] at a2
    exact ⟨.segSuspGen hs a1 hq a2, b2, d2⟩
theorem wakes_fr {R : Rs} {M : Model} {Γ : Ctx} {p : Pos} {g : Nat} {r : Resume} {z z' : Shared} {res : GenResult} (h : Wakes M Γ p g r z res z') (o : Ok R z) : Wakes M Γ p g r (un R z) res (un R z') ∧ Ok R z' := by
  unfold Wakes at h ⊢
  cases hg : z.gens[g]? with
  | none =>
    rw [hg] at h
    exact h.elim
  | some st =>
    rw [hg] at h
    cases st with
    | fresh c =>
      have hb := o.none hg (by intros; intro q; cases q)
      rw [un_at hb, hg]
      cases r with
      | send v =>
        cases v with
        | none =>
          obtain ⟨e₁, s₁, h1, hq, hr, rfl⟩ := h
          obtain ⟨a, b, d⟩ := runs_fr h1 (o.set hb trivial) ok_nil
          rw [un_set hb] at a
          exact ⟨⟨e₁, un R s₁, a, hq, hr, un_set hb⟩, b.set hb (end_st d)⟩
        | _ =>
          obtain ⟨h1, rfl⟩ := h
          exact ⟨⟨h1, rfl⟩, o⟩
      | throw x =>
        obtain ⟨h1, rfl⟩ := h
        exact ⟨⟨h1, un_set hb⟩, o.set hb trivial⟩
    | suspended k₀ l₀ c₀ p₀ fs cl =>
      cases hb : R.B g with
      | false =>
        rw [un_at hb, hg]
        obtain ⟨e₁, s₁, h1, hq, hr, rfl⟩ := h
        obtain ⟨a, b, d⟩ := runs_fr h1 (o.set hb trivial) (o.rest g _ hb hg)
        rw [un_set hb] at a
        exact ⟨⟨e₁, un R s₁, a, hq, hr, un_set hb⟩, b.set hb (end_st d)⟩
      | true =>
        have hP := o.here g hb
        rw [hg] at hP
        obtain ⟨⟨w, l2, c2, p2, fs2, cl2, q⟩, _⟩ := R.ok g hb
        rw [q] at hP
        cases hP
        obtain ⟨e₁, s₁, h1, _⟩ := h
        exact (no_uns h1).elim
    | running =>
      have hb := o.none hg (by intros; intro q; cases q)
      rw [un_at hb, hg]
      obtain ⟨h1, rfl⟩ := h
      exact ⟨⟨h1, rfl⟩, o⟩
    | finished =>
      have hb := o.none hg (by intros; intro q; cases q)
      rw [un_at hb, hg]
      obtain ⟨h1, rfl⟩ := h
      exact ⟨⟨h1, rfl⟩, o⟩
theorem wp_fr {α : Type} (R : Rs) (M : Model) (Γ : Ctx) (t : Sem α) : ∀ (Q : α → Pos → Shared → Prop) (E : Value → Pos → Shared → Prop) (p : Pos) (z : Shared), Ok R z → Sem.wp M Γ t Q E p z →
    Sem.wp M Γ t (fun a p' s' => ∃ z', s' = un R z' ∧ Ok R z' ∧ Q a p' z') (fun e p' s' => ∃ z', s' = un R z' ∧ Ok R z' ∧ E e p' z') p (un R z) := by
  induction t with
  | pure a => intro Q E p z o h; exact ⟨z, rfl, o, h⟩
  | raise e => intro Q E p z o h; exact ⟨z, rfl, o, h⟩
  | unsupported _ => intro Q E p z _ h; exact h
  | finish _ => intro Q E p z _ h; exact h
  | rule _ k ih => intro Q E p z o h; exact ih () Q E p z o h
  | «at» p' k ih => intro Q E p z o h; exact ih () Q E p' z o h
  | load a _ k ih => intro Q E p z o h; obtain ⟨x, ho, h⟩ := h; exact ⟨x, ho, ih x Q E p z o h⟩
  | update a _ f k ih => intro Q E p z o h; exact ⟨h.1, ih () Q E p { z with heap := z.heap.update a f } ⟨o.here, o.rest⟩ h.2⟩
  | loadIfAlive a k ih => intro Q E p z o h; exact ih _ Q E p z o h
  | point _ k ih => intro Q E p z o h; exact ih () Q E p z o h
  | register _ _ => intro Q E p z _ h; exact h
  | alloc x k ih => intro Q E p z o h; exact ih _ Q E p { z with heap := z.heap.push x } ⟨o.here, o.rest⟩ h
  | fresh k ih => intro Q E p z o h; exact ih _ Q E p { z with toks := z.toks + 1 } ⟨o.here, o.rest⟩ h
  | ask k ih => intro Q E p z o h; exact ih _ Q E p z o h
  | choose src m k ih => intro Q E p z o h; exact ⟨h.1, ih _ Q E p { z with drawn := z.drawn.bump src } ⟨o.here, o.rest⟩ h.2⟩
  | os q _ k ih => intro Q E p z o h; exact ih _ Q E p { z with os := (Os.step z.os q).1 } ⟨o.here, o.rest⟩ h
  | call c hd _ _ k ih =>
    intro Q E p z o h
    obtain ⟨r, s', hr, h⟩ := h
    obtain ⟨a, b, _⟩ := runs_fr hr o ok_nil
    exact ⟨r, un R s', a, ih r Q E p s' b h⟩
  | handled own k ih => intro Q E p z o h; exact ih _ Q E p z o h
  | genState g k ih =>
    intro Q E p z o h
    obtain ⟨st, hs, h⟩ := h
    cases hb : R.B g with
    | false => exact ⟨st, by rw [un_at hb]; exact hs, ih _ Q E p z o h⟩
    | true =>
      have hP := o.here g hb
      rw [hs] at hP
      cases hP
      refine ⟨R.X g, un_in hb hs, ?_⟩
      rw [← (R.ok g hb).2]
      exact ih _ Q E p z o h
  | newGen c k ih =>
    intro Q E p z o h
    have := ih _ Q E p { z with gens := z.gens.push (.fresh c) } o.push h
    rw [un_push o.size] at this
    show Sem.wp M Γ (k (un R z).gens.size) _ _ p _
    rw [un_size]
    exact this
  | resume g r _ k ih =>
    intro Q E p z o h
    obtain ⟨res, s', hw, h⟩ := h
    obtain ⟨a, b⟩ := wakes_fr hw o
    exact ⟨res, un R s', a, ih res Q E p s' b h⟩
  | yield _ _ _ _ => intro Q E p z _ h; exact h
  | stack k ih => intro Q E p z o h; exact ih _ Q E p z o h
  | fork _ _ => intro Q E p z _ h; exact h
  | thread k ih => intro Q E p z o h; exact ih _ Q E p z o h
  | await _ _ _ _ _ => intro Q E p z _ h; exact h
/-- what is promised where some generators sleep for ever holds where they sleep, and they sleep on -/
theorem wpAny_fr {α : Type} {M : Model} {A : Around} {t : Sem α} {Q : α → Shared → Prop} {E : Value → Shared → Prop} {R : Rs} {z : Shared} (o : Ok R z) (h : wpAny M A t Q E z) :
    wpAny M A t (fun a s' => ∃ z', s' = un R z' ∧ Ok R z' ∧ Q a z') (fun e s' => ∃ z', s' = un R z' ∧ Ok R z' ∧ E e z') (un R z) :=
  fun Γ p hΓ => wp_fr R M Γ t _ _ p z o (h Γ p hΓ)
end GenFr

set_option Elab.async false
set_option linter.all false
set_option maxRecDepth 100000
set_option maxHeartbeats 1000000
/-! ### a generator's world: its frame, the heap below it, and what it is told at each wake -/
namespace GenZ
open PySem PySem.Spec PyProof.Rows L2 GenW

/-! the heap below an address -/
def cut (h : Heap) (n : Nat) : Heap := { h with objs := h.objs.extract 0 n }
theorem cut_size {h : Heap} {n : Nat} (hn : n ≤ h.objs.size) : (cut h n).objs.size = n := by
  show (h.objs.extract 0 n).size = n
  rw [Array.size_extract]; omega
theorem cut_get {h : Heap} {n b : Nat} (hb : b < n) : (cut h n).get? b = h.get? b := by
  unfold Heap.get? cut
  dsimp only
  rw [Array.getElem?_extract]
  by_cases hs : b < h.objs.size
  · rw [if_pos (by omega)]; simp
  · rw [if_neg (by omega), Array.getElem?_eq_none (by omega)]
theorem cut_none {h : Heap} {n b : Nat} (hb : n ≤ b) : (cut h n).get? b = none := by
  unfold Heap.get? cut
  dsimp only
  rw [Array.getElem?_extract]
  have : ¬ (b < min n h.objs.size - 0) := by omega
  rw [if_neg this]
theorem of_cut {h : Heap} {n b : Nat} {o : Obj} (e : (cut h n).get? b = some o) : b < n ∧ h.get? b = some o := by
  by_cases hb : b < n
  · rw [cut_get hb] at e; exact ⟨hb, e⟩
  · rw [cut_none (by omega)] at e; cases e
def cutS (s : Shared) (n : Nat) : Shared := { s with heap := cut s.heap n }

/-- a generator that was called: its frame, its object, its number, what ran around it -/
structure GW where
  P : Program
  w : World
  K : PySem.W.Frag
  mg : Str → Option Value
  base : Heap
  N : List Str
  env : Env
  outer : List Env
  k : Nat
  n : Addr
  a : Addr
  g : Nat
  go : Obj
def GW.cx (W : GW) (A : Around) (sc : Shared) (Hc : Hp) : Cx where
  prog := W.P
  w := W.w
  K := W.K
  mg := W.mg
  base := W.base
  A := A.deeper W.env
  N := W.N
  s_0 := sc
  H_0 := Hc
  env := W.env
  outer := W.outer
  stack := W.env :: W.outer
  ex := []
  fn := fun _ => true
  calm := true
  pn := [(W.a, W.go)]
  xe := never
structure GW.Good (W : GW) : Prop where
  mod : Mod W.K W.mg W.base
  kind : W.env.scope.kind = .function
  co : W.env.scope.isCoroutine = false
  nd : W.N.Nodup
  glob : W.env.globals = mainGlobals
  blt : W.env.builtins = builtinsNs
  above : W.n ≤ W.env.locals
  frame : W.env.frame = some W.env.locals
  inj : ∀ x y c, W.env.cells.lookup x = some c → W.env.cells.lookup y = some c → x = y
  has : ∀ x, (W.env.kindOf x = some .cell ∨ W.env.kindOf x = some .free) → ∃ c, W.env.cells.lookup x = some c
  cab : ∀ x c, W.env.cells.lookup x = some c → W.n ≤ c
  bsz : W.base.objs.size ≤ W.n
  aN : W.n ≤ W.a
  aL : W.a ≠ W.env.locals
  obj : ∃ nm qn, W.go.cls = .type "generator" ∧ W.go.data = .fields #[.int W.g 0, nm, qn] ∧ W.go.slots = #[]
/-- what is true where it is woken: s, H the heap then; pc: objects above that are to stay as they are -/
structure GW.Wk (W : GW) (A : Around) (s : Shared) (H : Hp) (pc : List (Addr × Obj)) : Prop where
  room : Room W.k (A.deeper W.env)
  fr : A.frames = some W.outer
  bare : AllBare s.gens
  hok : HOk W.P W.w H s.heap
  bs : ∀ b o, W.base.get? b = some o → s.heap.get? b = some o ∧ H b = none
  funs : (cut s.heap W.n).FunFrames W.base W.outer
  frf : ∀ b ∈ frs W.outer, H b = none
  sz : W.n ≤ s.heap.objs.size
  pc : ∀ p ∈ pc, W.n ≤ p.1 ∧ s.heap.get? p.1 = some p.2 ∧ H p.1 = none ∧ ∀ v, p.2.data ≠ .cell v
/-- what is true behind the stretch -/
structure GW.Rel (W : GW) (s : Shared) (H : Hp) (pc : List (Addr × Obj)) (s1 : Shared) (H1 : Hp) : Prop where
  os : s1.os = s.os
  bare : AllBare s1.gens
  un : Un (frs W.outer) [] H H1 (cut s.heap W.n) s1.heap
  hok : HOk W.P W.w H1 s1.heap
  pc : ∀ p ∈ pc, s1.heap.get? p.1 = some p.2 ∧ H1 p.1 = none
section
variable {W : GW} {A : Around} {s s1 : Shared} {H H1 : Hp} {pc ip : List (Addr × Obj)} {σ : L2.St}
theorem GW.Wk.fsn (k : W.Wk A s H pc) {b : Addr} (hb : b ∈ frs W.outer) : b < W.n := by
  obtain ⟨_, o, e, _⟩ := k.funs.mem hb
  exact (of_cut e).1
theorem GW.Good.ok (G : W.Good) (k : W.Wk A s H pc) : (W.cx A (cutS s W.n) H).Ok where
  mod := G.mod
  kind := G.kind
  glob := G.glob
  blt := G.blt
  above := by show (cut s.heap W.n).objs.size ≤ _; rw [cut_size k.sz]; exact G.above
  inj := G.inj
  has := G.has
  cab := fun x c _ e => by show (cut s.heap W.n).objs.size ≤ _; rw [cut_size k.sz]; exact G.cab x c e
  hd := fun _ => k.room.hd
  frames := Around.frames_deeper k.fr
  stk := .inr ⟨rfl, G.frame⟩
  exf := fun b z => nomatch z
  bs := fun b o e => ⟨(cut_get (Nat.lt_of_lt_of_le (Heap.lt_size e) G.bsz)).trans (k.bs b o e).1, (k.bs b o e).2⟩
  bsz := by show _ ≤ (cut s.heap W.n).objs.size; rw [cut_size k.sz]; exact G.bsz
  noex := fun b o _ z => nomatch z
  exfs := fun b z => nomatch z
  funs := k.funs
  frf := k.frf
/-- the frame's own objects, and more -/
def GW.fp (W : GW) (ip : List (Addr × Obj)) : List Addr := W.env.locals :: W.a :: (W.env.cells.filterMap (fun p => W.env.cells.lookup p.1) ++ ip.map (·.1))
theorem GW.cell_fp {x : Str} {c : Addr} (e : W.env.cells.lookup x = some c) : c ∈ W.fp ip := by
  refine List.mem_cons_of_mem _ (List.mem_cons_of_mem _ (List.mem_append_left _ (List.mem_filterMap.mpr ⟨(x, c), PySem.mem_of_lookup e, e⟩)))
/-- it falls asleep: the objects it keeps; and however it is woken, it goes on as it stood -/
theorem GW.sleeps (G : W.Good) {sc : Shared} {Hc : Hp} {A₀ : Around} (I : Inv (W.cx A₀ sc Hc) (pc ++ ip) σ H1 s1) (hpc : ∀ p ∈ pc, p.1 ≠ W.a ∧ ∀ q ∈ ip, q.1 ≠ p.1) (hip : ∀ p ∈ ip, W.n ≤ p.1) (hpf : ∀ p ∈ pc, ∀ v, p.2.data ≠ .cell v) :
    ∃ pv : List (Addr × Obj), (∀ p ∈ pv, s1.heap.get? p.1 = some p.2 ∧ H1 p.1 = none) ∧ (∀ p ∈ pv, W.n ≤ p.1) ∧ (∀ p ∈ pv, ∀ q ∈ pc, p.1 ≠ q.1) ∧ (W.a, W.go) ∈ pv ∧ (W.env.cells = [] → ∀ p ∈ pv, ∀ v, p.2.data ≠ .cell v) ∧ (∀ q ∈ ip, q ∈ pv) ∧
    ∀ A' s' H' pc', W.Wk A' s' H' pc' → (∀ p ∈ pv, s'.heap.get? p.1 = some p.2 ∧ H' p.1 = none) → (∀ p ∈ pv, ∀ q ∈ pc', p.1 ≠ q.1) → Inv (W.cx A' (cutS s' W.n) H') (pc' ++ ip) σ H' s' := by
  have eL : ∃ o, s1.heap.get? W.env.locals = some o := by
    obtain ⟨m, ⟨o, _, _, ho, _⟩, _⟩ := I.loc
    exact ⟨o, ho⟩
  have eip : ∀ p ∈ ip, s1.heap.get? p.1 = some p.2 ∧ H1 p.1 = none ∧ p.1 ≠ W.env.locals ∧ p.1 ∉ frs W.outer ∧ ∀ v, p.2.data ≠ .cell v := fun p hp => I.pin p (List.mem_append_right _ (List.mem_append_right _ hp))
  have ea : s1.heap.get? W.a = some W.go ∧ H1 W.a = none ∧ W.a ≠ W.env.locals ∧ W.a ∉ frs W.outer ∧ ∀ v, W.go.data ≠ .cell v := I.pin (W.a, W.go) (List.mem_append_left _ (List.mem_singleton.mpr rfl))
  have epc : ∀ p ∈ pc, s1.heap.get? p.1 = some p.2 ∧ H1 p.1 = none ∧ p.1 ≠ W.env.locals ∧ p.1 ∉ frs W.outer ∧ ∀ v, p.2.data ≠ .cell v := fun p hp => I.pin p (List.mem_append_right _ (List.mem_append_left _ hp))
  have cells : ∀ {b}, b ∈ W.env.cells.filterMap (fun p => W.env.cells.lookup p.1) → ∃ x, W.env.cells.lookup x = some b := fun {b} hb => by
    obtain ⟨p, _, e⟩ := List.mem_filterMap.mp hb
    exact ⟨p.1, e⟩
  have all : ∀ b ∈ W.fp ip, H1 b = none ∧ W.n ≤ b ∧ ∀ q ∈ pc, b ≠ q.1 := fun b hb => by
    rcases List.mem_cons.mp hb with rfl | hb
    · exact ⟨I.free, G.above, fun q hq z => (epc q hq).2.2.1 z.symm⟩
    rcases List.mem_cons.mp hb with rfl | hb
    · exact ⟨ea.2.1, G.aN, fun q hq z => (hpc q hq).1 z.symm⟩
    rcases List.mem_append.mp hb with hb | hb
    · obtain ⟨x, e⟩ := cells hb
      refine ⟨I.freeC x b e, G.cab x b e, fun q hq z => ?_⟩
      obtain ⟨v, o, ho, hd⟩ := I.cell x b e
      have := (epc q hq).1
      rw [← z, ho] at this
      cases this
      exact (epc q hq).2.2.2.2 v hd
    · obtain ⟨p, hp, rfl⟩ := List.mem_map.mp hb
      exact ⟨(eip p hp).2.1, hip p hp, fun q hq => (hpc q hq).2 p hp⟩
  refine ⟨pinsAt (W.fp ip) s1.heap, fun p hp => ?_, fun p hp => ?_, fun p hp q hq => ?_, mem_pinsAt (List.mem_cons_of_mem _ List.mem_cons_self) ea.1, fun hc p hp v => ?_, fun q hq => mem_pinsAt (List.mem_cons_of_mem _ (List.mem_cons_of_mem _ (List.mem_append_right _ (List.mem_map.mpr ⟨q, hq, rfl⟩)))) (eip q hq).1, fun A' s' H' pc' k' hv hd => ?_⟩
  · obtain ⟨hb, e⟩ := of_pinsAt hp
    exact ⟨e, (all _ hb).1⟩
  · exact (all _ (of_pinsAt hp).1).2.1
  · exact (all _ (of_pinsAt hp).1).2.2 q hq
  · obtain ⟨hb, e⟩ := of_pinsAt hp
    rcases List.mem_cons.mp hb with z | hb
    · obtain ⟨m, ⟨o, es, ep, ho, hdt, _⟩, _⟩ := I.loc
      rw [z, show s1.heap.get? W.env.locals = some o from ho] at e
      have e' : o = p.2 := Option.some.inj e
      rw [← e']
      intro q
      rw [hdt] at q; cases q
    rcases List.mem_cons.mp hb with z | hb
    · rw [z, ea.1] at e
      have e' : W.go = p.2 := Option.some.inj e
      rw [← e']; exact ea.2.2.2.2 v
    rcases List.mem_append.mp hb with hb | hb
    · rw [hc] at hb; cases hb
    · obtain ⟨q, hq, z⟩ := List.mem_map.mp hb
      rw [← z, (eip q hq).1] at e
      have e' : q.2 = p.2 := Option.some.inj e
      rw [← e']; exact (eip q hq).2.2.2.2 v
  · have kp : ∀ b o, b ∈ W.fp ip → s1.heap.get? b = some o → s'.heap.get? b = some o ∧ H' b = none ∧ ∀ q ∈ pc', b ≠ q.1 := fun b o hb e => ⟨(hv _ (mem_pinsAt hb e)).1, (hv _ (mem_pinsAt hb e)).2, hd _ (mem_pinsAt hb e)⟩
    obtain ⟨m, hn, hl⟩ := I.loc
    obtain ⟨oL, es, ep, ho, hr⟩ := id hn
    have kL := kp W.env.locals oL List.mem_cons_self ho
    have fsn := fun b hb => k'.fsn (b := b) hb
    refine ⟨G.ok k', rfl, k'.bare, ?_, ⟨m, ⟨oL, es, ep, kL.1, hr⟩, fun i x v e1 e2 e3 => ?_⟩, fun x c e => ?_, kL.2.1, fun x c e => ?_, fun p hp => ?_, k'.hok, I.len⟩
    · exact Un.kept fun b u q => (of_cut q).2
    · obtain ⟨u, r, l⟩ := hl i x v e1 e2 e3
      refine ⟨u, r, ?_⟩
      rcases l with l | ⟨kk, c, e, o, hoc, hdc⟩
      · exact .inl l
      · exact .inr ⟨kk, c, e, o, (kp c o (GW.cell_fp e) hoc).1, hdc⟩
    · obtain ⟨v, o, hoc, hdc⟩ := I.cell x c e
      exact ⟨v, o, (kp c o (GW.cell_fp e) hoc).1, hdc⟩
    · obtain ⟨v, o, hoc, _⟩ := I.cell x c e
      exact (kp c o (GW.cell_fp e) hoc).2.1
    · rcases List.mem_append.mp hp with hp | hp
      · obtain rfl := List.mem_singleton.mp hp
        have := kp W.a W.go (List.mem_cons_of_mem _ List.mem_cons_self) ea.1
        exact ⟨this.1, this.2.1, ea.2.2.1, fun z => absurd (fsn _ z) (Nat.not_lt.mpr G.aN), ea.2.2.2.2⟩
      rcases List.mem_append.mp hp with hp | hp
      · obtain ⟨h1, h2, h3, h4⟩ := k'.pc p hp
        exact ⟨h2, h3, fun z => kL.2.2 p hp z.symm, fun z => absurd (fsn _ z) (Nat.not_lt.mpr h1), h4⟩
      · have hb : p.1 ∈ W.fp ip := List.mem_cons_of_mem _ (List.mem_cons_of_mem _ (List.mem_append_right _ (List.mem_map.mpr ⟨p, hp, rfl⟩)))
        have := kp p.1 p.2 hb (eip p hp).1
        exact ⟨this.1, this.2.1, (eip p hp).2.2.1, fun z => absurd (fsn _ z) (Nat.not_lt.mpr (hip p hp)), (eip p hp).2.2.2.2⟩
/-- behind the stretch -/
theorem GW.rel_of {A₀ : Around} (I : Inv (W.cx A₀ (cutS s W.n) H) (pc ++ ip) σ H1 s1) : W.Rel s H pc s1 H1 where
  os := I.os
  bare := I.bare
  un := I.base
  hok := I.hok
  pc := fun p hp => by
    obtain ⟨h1, h2, _⟩ := I.pin p (List.mem_append_right _ (List.mem_append_left _ hp))
    exact ⟨h1, h2⟩
end
end GenZ

set_option Elab.async false
set_option linter.all false
set_option maxRecDepth 100000
set_option maxHeartbeats 1000000
/-! ### what runs while some generators sleep leaves them as they are -/
namespace GenZ
open PySem PySem.Spec PyProof.Rows L2 GenW
def asl : GenState → Bool
  | .suspended .. => true
  | _ => false
def plainF (f : Frame) : Frame := .ret (fun _ => .unsupported "") none f.guarded [] f.where_.1 f.where_.2 []
def poison : GenState → GenState
  | .suspended _ l c p fs cl => .suspended (fun _ => .unsupported "") l c p (fs.map plainF) cl
  | x => x
theorem poison_seen (x : GenState) : (poison x).seen = x.seen := by
  cases x with
  | suspended k l c p fs cl =>
    show ((_, some ((c, p) :: (fs.map plainF).map Frame.where_)) : GenStatus × _) = (_, some ((c, p) :: fs.map Frame.where_))
    rw [List.map_map]
    rfl
  | _ => rfl
theorem poison_bare (x : GenState) : (poison x).bare = x.bare := by cases x <;> rfl
def slp (G : Array GenState) (i : Nat) : Bool := match G[i]? with | some x => asl x | none => false
def rsOf (G : Array GenState) : GenFr.Rs where
  B := slp G
  P := fun i => match G[i]? with | some x => poison x | none => .finished
  X := fun i => match G[i]? with | some x => x | none => .finished
  ok := fun i h => by
    unfold slp at h
    cases hi : G[i]? with
    | none => rw [hi] at h; cases h
    | some x =>
      rw [hi] at h
      cases x with
      | suspended k l c p fs cl => exact ⟨⟨"", l, c, p, fs.map plainF, cl, rfl⟩, poison_seen _⟩
      | _ => cases h
def poisons (G : Array GenState) : Array GenState := G.map poison
theorem poisons_bare {G : Array GenState} (h : AllBare G) : AllBare (poisons G) := fun y hy => by
  obtain ⟨x, hx, rfl⟩ := Array.mem_map.mp hy
  rw [poison_bare]; exact h x hx
theorem poison_st {B : Nat → Bool} : ∀ x : GenState, GenFr.stOk B (poison x)
  | .suspended _ _ _ _ fs _ => fun f hf => by
    obtain ⟨f', _, rfl⟩ := List.mem_map.mp hf
    rfl
  | .fresh _ => trivial
  | .running => trivial
  | .finished => trivial
theorem rs_ok {s : Shared} : GenFr.Ok (rsOf s.gens) { s with gens := poisons s.gens } where
  here := fun i h => by
    show (s.gens.map poison)[i]? = _
    rw [Array.getElem?_map]
    have h : slp s.gens i = true := h
    unfold slp at h
    show _ = some (match s.gens[i]? with | some x => poison x | none => .finished)
    cases hi : s.gens[i]? with
    | none => rw [hi] at h; cases h
    | some x => rfl
  rest := fun i x _ e => by
    have e : (s.gens.map poison)[i]? = some x := e
    rw [Array.getElem?_map] at e
    cases hi : s.gens[i]? with
    | none => rw [hi] at e; cases e
    | some y => rw [hi] at e; cases e; exact poison_st y
theorem rs_un {s : Shared} : GenFr.un (rsOf s.gens) { s with gens := poisons s.gens } = s := by
  have : ((s.gens.map poison).mapIdx fun i x => if (rsOf s.gens).B i = true then (rsOf s.gens).X i else x) = s.gens := by
    apply Array.ext_getElem?
    intro i
    rw [Array.getElem?_mapIdx, Array.getElem?_map]
    cases hi : s.gens[i]? with
    | none => rfl
    | some x =>
      show some (if slp s.gens i = true then (match s.gens[i]? with | some x => x | none => .finished) else poison x) = some x
      unfold slp
      rw [hi]
      cases x <;> rfl
  unfold GenFr.un
  dsimp only
  unfold poisons
  rw [this]
theorem un_bare {G : Array GenState} {z : Shared} (hG : AllBare G) (h : AllBare z.gens) : AllBare (GenFr.un (rsOf G) z).gens := fun y hy => by
  obtain ⟨i, hi, e⟩ := Array.mem_iff_getElem.mp hy
  have q : (GenFr.un (rsOf G) z).gens[i]? = some y := by rw [Array.getElem?_eq_getElem hi, e]
  have q : (z.gens.mapIdx fun i x => if (rsOf G).B i = true then (rsOf G).X i else x)[i]? = some y := q
  rw [Array.getElem?_mapIdx] at q
  cases hz : z.gens[i]? with
  | none => rw [hz] at q; cases q
  | some x =>
    rw [hz] at q
    have q : (if slp G i = true then (match G[i]? with | some x => x | none => .finished) else x) = y := Option.some.inj q
    by_cases hb : slp G i = true
    · rw [if_pos hb] at q
      unfold slp at hb
      cases hi : G[i]? with
      | none => rw [hi] at hb; cases hb
      | some u =>
        rw [hi] at q
        have q : u = y := q
        rw [← q]
        exact hG u (Array.mem_of_getElem? hi)
    · rw [if_neg hb] at q
      rw [← q]
      exact h x (Array.mem_of_getElem? hz)
/-- all that slept sleeps on -/
def Keeps (G G' : Array GenState) : Prop := ∀ (i : Nat) x, G[i]? = some x → asl x = true → G'[i]? = some x
theorem wpAny_asleep {α : Type} {M : Model} {A : Around} {t : Sem α} {Q : α → Shared → Prop} {E : Value → Shared → Prop} {s : Shared} (h : wpAny M A t Q E { s with gens := poisons s.gens }) (hb : AllBare s.gens) :
    wpAny M A t (fun a s' => ∃ z, Q a z ∧ (AllBare z.gens → AllBare s'.gens) ∧ s' = { z with gens := s'.gens } ∧ Keeps s.gens s'.gens ∧ (∀ (i : Nat) x, z.gens[i]? = some x → asl x = false → s'.gens[i]? = some x) ∧ s.gens.size ≤ s'.gens.size) (fun a s' => ∃ z, E a z ∧ (AllBare z.gens → AllBare s'.gens) ∧ s' = { z with gens := s'.gens } ∧ Keeps s.gens s'.gens) s := by
  have key := GenFr.wpAny_fr (rs_ok (s := s)) h
  rw [rs_un] at key
  have keep : ∀ z, GenFr.Ok (rsOf s.gens) z → Keeps s.gens (GenFr.un (rsOf s.gens) z).gens := fun z o i x e hx => by
    have hB : (rsOf s.gens).B i = true := by
      show slp s.gens i = true
      unfold slp
      rw [e]; exact hx
    have := GenFr.un_in hB (o.here i hB)
    rw [this]
    show some (match s.gens[i]? with | some x => x | none => .finished) = some x
    rw [e]
  have other : ∀ z, GenFr.Ok (rsOf s.gens) z → ∀ (i : Nat) x, z.gens[i]? = some x → asl x = false → (GenFr.un (rsOf s.gens) z).gens[i]? = some x := fun z o i x e hx => by
    cases hb : (rsOf s.gens).B i with
    | false => rw [GenFr.un_at hb]; exact e
    | true =>
      have h1 := o.here i hb
      rw [e] at h1
      have h1 := Option.some.inj h1
      obtain ⟨⟨w, l, c, p, fs, cl, q⟩, _⟩ := (rsOf s.gens).ok i hb
      rw [h1, q] at hx
      cases hx
  refine wpAny_gsz (Nat.le_refl s.gens.size) (wpAny_mono key (fun a s' ⟨z, e, o, q⟩ hsz => ⟨z, q, fun hz => by rw [e]; exact un_bare hb hz, by rw [e]; rfl, by rw [e]; exact keep z o, fun i x ei hi => by rw [e]; exact other z o i x ei hi, hsz⟩)
    fun a s' ⟨z, e, o, q⟩ hsz => ⟨z, q, fun hz => by rw [e]; exact un_bare hb hz, by rw [e]; rfl, by rw [e]; exact keep z o⟩)
/-- the invariant looks at the generators only for their being bare -/
theorem inv_gens {X : Cx} {pins : List (Addr × Obj)} {σ : L2.St} {H : Hp} {s : Shared} {G : Array GenState} (I : Inv X pins σ H s) (hG : AllBare G) : Inv X pins σ H { s with gens := G } :=
  ⟨I.ok, I.os, hG, I.base, I.loc, I.cell, I.free, I.freeC, I.pin, I.hok, I.len⟩
theorem inv_gens' {X : Cx} {pins : List (Addr × Obj)} {σ : L2.St} {H : Hp} {s z : Shared} (I : Inv X pins σ H z) (e : s = { z with gens := s.gens }) (hG : AllBare s.gens) : Inv X pins σ H s := by
  rw [e]; exact inv_gens I hG
end GenZ

set_option Elab.async false
set_option linter.all false
set_option maxRecDepth 100000
set_option maxHeartbeats 1000000
/-! ### next: a generator is woken, and runs one stretch -/
namespace GenZ
open PySem PySem.Spec PyProof.Rows L2 GenW
open PySem.Sem (wp)
/-- the stretch that it runs when it is woken -/
def GLap (M : Model) (A : Around) (Z : End → Shared → Prop) (gs : GenState) (s : Shared) : Prop :=
  match gs with
  | .fresh c => Lap M A Z c (M.den c) [] s
  | .suspended k _ c _ fs _ => Lap M A Z c (k (.send .none)) fs s
  | _ => False
theorem wpAny_resumeZ {M : Model} {A : Around} {Z : End → Shared → Prop} {E : Value → Shared → Prop} {s : Shared} {g : Nat} {gs : GenState} {l : List Value} {α : Type} {k : GenResult → Sem α} {Q : α → Shared → Prop}
    (hg : s.gens[g]? = some gs) (hgo : GLap M A Z gs (s.setGen g .running)) (hZ : ∀ e s₁, Z e s₁ → e.quiet = true ∧ wpAny M A (k e.result) Q E (s₁.setGen g e.genState)) :
    wpAny M A (.resume g (.send .none) l k) Q E s := by
  intro Γ p hΓ
  rw [Sem.wp_resume]
  have hB : ∀ c, (Γ.wake c p).Woken A := fun c => hΓ.wake c p
  cases gs with
  | fresh c =>
    obtain ⟨e₁, s₁, hr, he⟩ := hgo (Γ.wake c p) p rfl (hB c)
    obtain ⟨hq, hw⟩ := hZ e₁ s₁ he
    exact ⟨_, _, by unfold Wakes; rw [hg]; exact ⟨e₁, s₁, hr, hq, rfl, rfl⟩, hw Γ p hΓ⟩
  | suspended k₀ l₀ c₀ p₀ fs₀ cl =>
    obtain ⟨e₁, s₁, hr, he⟩ := hgo (Γ.wake c₀ p) p₀ rfl (hB c₀)
    obtain ⟨hq, hw⟩ := hZ e₁ s₁ he
    exact ⟨_, _, by unfold Wakes; rw [hg]; exact ⟨e₁, s₁, hr, hq, rfl, rfl⟩, hw Γ p hΓ⟩
  | running => exact hgo.elim
  | finished => exact hgo.elim
theorem next_Z {P : Program} {w : World} {A : Around} {E : Value → Shared → Prop} {s : Shared} {a : Addr} {g : Nat} {gs : GenState} {Z : End → Shared → Prop} {Q : Option Value → Shared → Prop} (hh : A.handled = none)
    (hl : s.heap.NoLimit) (hroom : A.depth < recursionLimit) (hg : s.heap.IsGen a g) (hgs : s.gens[g]? = some gs) (hgo : GLap (model P w) A.in1 Z gs (s.setGen g .running))
    (hZ : ∀ e s₁, Z e s₁ → e.quiet = true ∧ match e with
      | .susp v g' l k c p fs => Q (some v) (s₁.setGen g (End.susp v g' l k c p fs).genState)
      | .ret r => (r = .ok (.ret .none) ∨ r = .ok .next) ∧ ∀ h', (∀ b o, s₁.heap.get? b = some o → h'.get? b = some o) → Q none { s₁.setGen g .finished with heap := h' }) :
    wpAny (model P w) A (pyNext (.ref a)) Q E s := by
  unfold pyNext
  refine wpAny_bind (wpAny_attempt (wpAny_callSpecial?_slot (name := Str.ofString "__next__") hg.typeIs slot_gen_next
    (wpAny_call_entry slot_gen_next hg.typeIs entry_gen_next ?_ (args_gen_next _))))
  show wpAny _ A.in1 (Builtin.Generator.genWake (.ref a) (.send .none)) _ _ s
  unfold Builtin.Generator.genWake
  refine wpAny_bind (wpAny_holding (wpAny_genNumber hg (wpAny_bind (wpAny_genState hgs ?_))))
  cases gs with
  | running => exact hgo.elim
  | finished => exact hgo.elim
  | _ =>
    refine wpAny_bind (wpAny_roomToWake hl hroom ?_)
    show wpAny _ A.in1 (.resume g (.send .none) [] _) _ _ s
    refine wpAny_resumeZ hgs hgo (fun e s₁ hz => ?_)
    obtain ⟨hq, hx⟩ := hZ e s₁ hz
    refine ⟨hq, ?_⟩
    cases e with
    | ret x =>
      obtain ⟨hr, hp⟩ := hx
      have hres : End.result (.ret x) = .returned .none := by
        rcases hr with hr | hr <;> rw [hr] <;> rfl
      first | rw [hres] | simp only [hres]
      show wpAny _ A.in1 (newExc (.type "StopIteration") [] >>= _) _ _ _
      refine wpAny_bind ?_
      simp only [newExc, newTuple]
      refine wpAny_bind (wpAny_newObj_type ?_ (by size_fits))
      refine wpAny_bind (m := firstArgMember _ _) (wpAny_of_eq (a := Value.none) (by first | rfl | (simp only [firstArgMember]; rfl)) ?_)
      refine wpAny_newObj_type ?_ (by size_fits)
      simp only [raiseNew]
      refine wpAny_bind (wpAny_bind (wpAny_handled ?_))
      first | rw [show A.in1.handled = none from hh] | rw [hh]
      refine wpAny_throw ?_
      refine wpAny_bind (wpAny_isInstance (T := "StopIteration") (b := true) ⟨_, Heap.get?_push_size _ rfl, rfl⟩ isSubtype_stop ?_)
      exact wpAny_pure (hp _ fun b o hb => Heap.get?_push_of_some _ (Heap.get?_push_of_some _ hb))
    | susp v g' l k c p fs => exact wpAny_pure ⟨v, rfl, wpAny_pure hx⟩
end GenZ

set_option Elab.async false
set_option linter.all false
set_option maxRecDepth 100000
set_option maxHeartbeats 1000000
/-! ### the protocol of a generator; one that walks it -/
namespace GenZ
open PySem PySem.Spec PyProof.Rows L2 GenW
/-- what a generator hands out, as it is told to the one that walks it: left: how much it may hand out yet; need: what must be true of the heap where it is woken; yld: what is handed out; fin: its end -/
structure GSp where
  τ : Type
  left : τ → Nat
  need : τ → Hp → Prop
  yld : τ → Hp → V → Hp → τ → Prop
  fin : τ → Hp → Hp → Prop
abbrev Pins := List (Addr × Obj)
abbrev Gens := List (Nat × GenState)
structure Held (s : Shared) (H : Hp) (pv : Pins) (iv : Gens) : Prop where
  pv : ∀ p ∈ pv, s.heap.get? p.1 = some p.2 ∧ H p.1 = none
  iv : ∀ q ∈ iv, s.gens[q.1]? = some q.2
def NC (pv : Pins) : Prop := ∀ p ∈ pv, ∀ v, p.2.data ≠ .cell v
/-- where a stretch may end -/
def ZS (W : GW) (S : GSp) (nx : S.τ → GenState → Pins → Gens → Prop) (t : S.τ) (s : Shared) (H : Hp) (pc : Pins) (e : End) (s1 : Shared) : Prop :=
  match e with
  | .ret r => (r = .ok (.ret .none) ∨ r = .ok .next) ∧ ∃ H1, W.Rel s H pc s1 H1 ∧ S.fin t H H1
  | .susp v g l k c p fs => (End.susp v g l k c p fs).quiet = true ∧ ∃ x t' H1 pv iv, RelV x v ∧ W.Rel s H pc s1 H1 ∧ Held s1 H1 pv iv ∧ (∀ p ∈ pv, ∀ q ∈ pc, p.1 ≠ q.1) ∧ S.yld t H x H1 t' ∧ S.left t' < S.left t ∧
      nx t' (End.susp v g l k c p fs).genState pv iv
/-- it sleeps (or has not begun): however it is woken it runs one stretch more -/
def Slp (W : GW) (S : GSp) : Nat → S.τ → GenState → Pins → Gens → Prop
  | 0 => fun _ _ _ _ => False
  | m + 1 => fun t gs pv iv => gs.bare = true ∧ (∀ p ∈ pv, W.n ≤ p.1) ∧ (W.a, W.go) ∈ pv ∧ (∀ q ∈ iv, W.g < q.1 ∧ asl q.2 = true) ∧ (W.env.cells = [] → NC pv) ∧
      ∀ A s H pc, W.Wk A s H pc → Held s H pv iv → (∀ p ∈ pv, ∀ q ∈ pc, p.1 ≠ q.1) → W.g < s.gens.size → S.need t H → GLap (model W.P W.w) A (ZS W S (Slp W S m) t s H pc) gs s

/-- the one that walks: its frame stands below the generator's -/
structure Link (X : Cx) (W : GW) : Prop where
  P : W.P = X.prog
  w : W.w = X.w
  base : W.base = X.base
  outer : W.outer = X.stack
  low : X.s_0.heap.objs.size ≤ W.n
  loc : X.env.locals < W.n
  cel : ∀ x c, X.env.cells.lookup x = some c → c < W.n
  room : Room W.k (X.A.in1.deeper W.env)
  good : W.Good
theorem funs_cut {h base : Heap} {n : Nat} : ∀ {l : List Env}, h.FunFrames base l → (∀ b ∈ frs l, b < n) → (cut h n).FunFrames base l
  | [], _, _ => trivial
  | env :: r, ⟨hk, ⟨L, o, hf, hn, ho, hd⟩, hr⟩, hl => by
    have e : frs (env :: r) = L :: frs r := by unfold frs; rw [List.filterMap_cons, hf]
    exact ⟨hk, ⟨L, o, hf, hn, (cut_get (hl L (by rw [e]; exact List.mem_cons_self))).trans ho, hd⟩, funs_cut hr fun b hb => hl b (by rw [e]; exact List.mem_cons_of_mem _ hb)⟩
/-- the objects above that the walker needs as they are -/
def pcOf (X : Cx) (pins : Pins) (W : GW) : Pins := (X.pn ++ pins).filter fun p => decide (W.n ≤ p.1)
theorem mem_pcOf {X : Cx} {pins : Pins} {W : GW} {p : Addr × Obj} : p ∈ pcOf X pins W ↔ p ∈ X.pn ++ pins ∧ W.n ≤ p.1 := by
  unfold pcOf
  rw [List.mem_filter, decide_eq_true_iff]
section
variable {X : Cx} {W : GW} {pins : Pins} {σ : L2.St} {H H1 : Hp} {s s' s1 : Shared}
theorem Link.fsn (L : Link X W) (I : Inv X pins σ H s) {b : Addr} (hb : b ∈ frs X.stack) : b < W.n := by
  rcases List.mem_cons.mp (I.stkSub b hb) with e | hb
  · rw [e]; exact L.loc
  · obtain ⟨_, o, ho, _⟩ := I.ok.funs.mem hb
    exact Nat.lt_of_lt_of_le (Heap.lt_size ho) L.low
theorem Link.wk {B : Around} (L : Link X W) (hB : Room W.k (B.in1.deeper W.env)) (I : Inv X pins σ H s) (hh : B.frames = some X.stack) (hn : W.n ≤ s.heap.objs.size) (eh : s'.heap = s.heap) (eb : AllBare s'.gens) : W.Wk B.in1 s' H (pcOf X pins W) where
  room := hB
  fr := by rw [L.outer]; exact hh
  bare := eb
  hok := by rw [eh, L.P, L.w]; exact I.hok
  bs := fun b o e => by rw [eh]; rw [L.base] at e; exact I.bs b o e
  funs := by rw [eh, L.base, L.outer]; exact funs_cut I.stack fun b hb => L.fsn I hb
  frf := fun b hb => by rw [L.outer] at hb; exact I.stkFree b hb
  sz := by rw [eh]; exact hn
  pc := fun p hp => by
    obtain ⟨h1, h2⟩ := mem_pcOf.mp hp
    obtain ⟨a1, a2, _, _, a5⟩ := I.pin p h1
    rw [eh]
    exact ⟨h2, a1, a2, a5⟩
theorem Link.back (L : Link X W) (I : Inv X pins σ H s) (eh : s'.heap = s.heap) (eo : s'.os = s.os) (R : W.Rel s' H (pcOf X pins W) s1 H1) : Inv X pins σ H1 s1 := by
  obtain ⟨os, bare, un, hok, pc⟩ := R
  rw [eh, L.outer] at un
  rw [L.P, L.w] at hok
  have pk : ∀ p ∈ X.pn ++ pins, W.n ≤ p.1 → s1.heap.get? p.1 = some p.2 ∧ H1 p.1 = none := fun p hp hn => pc p (mem_pcOf.mpr ⟨hp, hn⟩)
  have pin : ∀ b o, W.n ≤ b → b ∈ (X.pn ++ pins).map (·.1) → s.heap.get? b = some o → s1.heap.get? b = some o ∧ H1 b = none := fun b o hn hb e => by
    obtain ⟨p, hp, rfl⟩ := List.mem_map.mp hb
    have := (I.pin p hp).1
    rw [e] at this
    have := Option.some.inj this
    rw [this]
    exact pk p hp hn
  have nch : ∀ b o, b ∉ ((List.range s.heap.objs.size).filter fun b => decide (W.n ≤ b ∧ b ∉ (X.pn ++ pins).map (·.1))) → s.heap.get? b = some o → b < W.n ∨ (W.n ≤ b ∧ b ∈ (X.pn ++ pins).map (·.1)) := fun b o hc e => by
    by_cases hb : b < W.n
    · exact .inl hb
    · refine .inr ⟨Nat.not_lt.mp hb, ?_⟩
      by_cases hm : b ∈ (X.pn ++ pins).map (·.1)
      · exact hm
      · exact absurd (List.mem_filter.mpr ⟨List.mem_range.mpr (Heap.lt_size e), decide_eq_true ⟨Nat.not_lt.mp hb, hm⟩⟩) hc
  refine I.call' (ch := (List.range s.heap.objs.size).filter fun b => decide (W.n ≤ b ∧ b ∉ (X.pn ++ pins).map (·.1))) (os.trans eo) ⟨fun b o e n hb hc => ?_, fun b o e n hb hc => ?_, fun b o e n hc => ?_, fun b o e hc => ?_, un.tups, un.frzs, un.tbls⟩ hok bare fun b hb => ?_
  · rcases nch b o hc e with h | ⟨h, hm⟩
    · exact un.keep b o ((cut_get h).trans e) n hb (fun z => nomatch z)
    · exact (pin b o h hm e).1
  · rcases nch b o hc e with h | ⟨h, hm⟩
    · exact un.slot b o ((cut_get h).trans e) n hb (fun z => nomatch z)
    · exact ⟨o.slots, (pin b o h hm e).1⟩
  · rcases nch b o hc e with h | ⟨h, hm⟩
    · exact un.free b o ((cut_get h).trans e) n (fun z => nomatch z)
    · exact (pin b o h hm e).2
  · rcases nch b o hc e with h | ⟨h, hm⟩
    · exact un.there b o ((cut_get h).trans e) (fun z => nomatch z)
    · exact ⟨o, (pin b o h hm e).1⟩
  · obtain ⟨_, hd⟩ := List.mem_filter.mp hb
    obtain ⟨h1, h2⟩ := of_decide_eq_true hd
    refine ⟨.inr (Nat.le_trans L.low h1), fun z => ?_, fun x c e z => ?_, fun p hp z => h2 (List.mem_map.mpr ⟨p, hp, z⟩)⟩
    · rw [z] at h1; exact absurd L.loc (Nat.not_lt.mpr h1)
    · rw [z] at e; exact absurd (L.cel x b e) (Nat.not_lt.mpr h1)
/-- next(g) by the one that walks it -/
theorem next_gen {S : GSp} {m : Nat} {t : S.τ} {gs : GenState} {pv : Pins} {iv : Gens} {E : Value → Shared → Prop} {Q : Option Value → Shared → Prop} {B : Around} (L : Link X W) (hB : Room W.k (B.in1.deeper W.env)) (I : Inv X pins σ H s) (hh : B.frames = some X.stack) (hd : B.handled = none) (hroom : B.depth < recursionLimit)
    (z : Slp W S m t gs pv iv) (hg : s.gens[W.g]? = some gs) (h : Held s H pv iv) (ha : ∀ p ∈ pv, ∀ q ∈ X.pn ++ pins, p.1 ≠ q.1) (hn : S.need t H)
    (hY : ∀ m' v x t' H1 s1 gs' pv' iv', Inv X pins σ H1 s1 → RelV x v → S.yld t H x H1 t' → m' < m → Slp W S m' t' gs' pv' iv' → s1.gens[W.g]? = some gs' → Held s1 H1 pv' iv' → (∀ p ∈ pv', ∀ q ∈ X.pn ++ pins, p.1 ≠ q.1) → asl gs' = true → Q (some v) s1)
    (hP : ∀ H1 s1, Inv X pins σ H1 s1 → S.fin t H H1 → W.g < s1.gens.size → Q none s1) : wpAny (model X.prog X.w) B (pyNext (.ref W.a)) Q E s := by
  cases m with
  | zero => exact z.elim
  | succ m =>
    obtain ⟨z1, z2, z3, z4, z5, z6⟩ := z
    have hgl : W.g < s.gens.size := (Array.getElem?_eq_some_iff.mp hg).1
    have hgen : s.heap.IsGen W.a W.g := by
      obtain ⟨nm, qn, c1, c2, c3⟩ := L.good.obj
      exact ⟨W.go, nm, qn, (h.pv _ z3).1, c1, c2, c3⟩
    have hnn : W.n ≤ s.heap.objs.size := Nat.le_of_lt (Nat.lt_of_le_of_lt L.good.aN (Heap.lt_size (h.pv _ z3).1))
    have hpc : ∀ p ∈ pv, ∀ q ∈ pcOf X pins W, p.1 ≠ q.1 := fun p hp q hq => ha p hp q (mem_pcOf.mp hq).1
    have hbr : AllBare (s.setGen W.g .running).gens := allBare_setGen I.bare rfl
    have lap := z6 B.in1 (s.setGen W.g .running) H (pcOf X pins W) (L.wk hB I hh hnn rfl hbr) ⟨h.pv, fun q hq => by
      show (s.gens.setIfInBounds W.g _)[q.1]? = _
      rw [Array.getElem?_setIfInBounds_ne (Nat.ne_of_lt (z4 q hq).1)]
      exact h.iv q hq⟩ hpc (by rw [setGen_size]; exact hgl) hn
    rw [L.P, L.w] at lap
    refine wpAny_gsz (n := W.g + 1) hgl (next_Z hd I.nolimit hroom hgen hg lap fun e s₁ hz => ?_)
    cases e with
    | ret r =>
      obtain ⟨hr, H1, R, hf⟩ := hz
      refine ⟨rfl, hr, fun h' hk hsz => hP H1 _ ?_ hf hsz⟩
      have I1 := L.back I (s' := s.setGen W.g .running) rfl rfl R
      have I2 := I1.kept (t' := s₁.toks) hk
      exact inv_gens (s := { s₁ with heap := h', toks := s₁.toks }) I2 (allBare_setGen (s := s₁) I1.bare rfl)
    | susp v g' l k c p fs =>
      obtain ⟨hq, x, t', H1, pv', iv', rv, R, hh', hdj, hy, hlt, hs⟩ := hz
      refine ⟨hq, fun hsz => ?_⟩
      have I1 := L.back I (s' := s.setGen W.g .running) rfl rfl R
      have hsz1 : W.g < s₁.gens.size := by
        have q : (s₁.setGen W.g (End.susp v g' l k c p fs).genState).gens.size = s₁.gens.size := setGen_size _ _ _
        have hsz' : W.g + 1 ≤ (s₁.setGen W.g (End.susp v g' l k c p fs).genState).gens.size := hsz
        omega
      have hb : (End.susp v g' l k c p fs).genState.bare = true := End.bare_of_quiet hq
      have hs' := hs
      cases m with
      | zero => exact hs.elim
      | succ m =>
        obtain ⟨y1, y2, y3, y4, y5, y6⟩ := hs'
        refine hY (m + 1) v x t' H1 _ _ pv' iv' (inv_gens I1 (allBare_setGen (s := s₁) I1.bare hb)) rv hy (Nat.lt_succ_self _) hs (setGen_at hsz1) ⟨hh'.pv, fun q hq => ?_⟩ (fun p hp q hq => ?_) rfl
        · show (s₁.gens.setIfInBounds W.g _)[q.1]? = _
          rw [Array.getElem?_setIfInBounds_ne (Nat.ne_of_lt (y4 q hq).1)]
          exact hh'.iv q hq
        · by_cases hn' : W.n ≤ q.1
          · exact hdj p hp q (mem_pcOf.mpr ⟨hq, hn'⟩)
          · intro e
            have := y2 p hp
            rw [e] at this
            exact hn' this
end
end GenZ

set_option Elab.async false
set_option linter.all false
set_option maxRecDepth 100000
set_option maxHeartbeats 1000000
/-! ### for over a generator -/
namespace GenZ
open PySem PySem.Spec PyProof.Rows L2 GenW
/-- a generator stands ready; cl: its frame has no cells -/
structure Ready (X : Cx) (W : GW) (S : GSp) (cl : Bool) (pins : Pins) (σ : L2.St) (m : Nat) (t : S.τ) (H : Hp) (s : Shared) (gs : GenState) (pv : Pins) (iv : Gens) : Prop where
  inv : Inv X pins σ H s
  link : Link X W
  cl : cl = true → W.env.cells = []
  slp : Slp W S m t gs pv iv
  at_ : s.gens[W.g]? = some gs
  held : Held s H pv iv
  apart : ∀ p ∈ pv, ∀ q ∈ X.pn ++ pins, p.1 ≠ q.1
abbrev TGen2 := L2.St → Hp → (∀ S : GSp, S.τ → Hp → Prop) → Prop
/-- a call that makes a generator -/
structure PGn (X : Cx) (k : Nat) (cl : Bool) (e : Expr) (tg : TGen2) : Prop where
  run : ∀ (pins : Pins) (s : Shared) (σ : L2.St) (H : Hp) (cont : ∀ S : GSp, S.τ → Hp → Prop), Inv X pins σ H s → tg σ H cont →
    wpAny (model X.prog X.w) X.A (eval e X.env) (fun u s1 => ∃ W S t m c pv H1, u = .ref W.a ∧ Ready X W S cl pins σ m t H1 s1 (.fresh c) pv [] ∧ W.k + 2 ≤ k ∧ s.gens.size ≤ W.g ∧ cont S t H1) X.xe s
section
variable {X : Cx} {W : GW} {S : GSp} {cl : Bool} {pins : Pins} {σ : L2.St} {H H1 : Hp} {s s1 : Shared} {m : Nat} {t : S.τ} {gs : GenState} {pv : Pins} {iv : Gens}
theorem Slp.pos (z : Slp W S m t gs pv iv) : gs.bare = true ∧ (∀ p ∈ pv, W.n ≤ p.1) ∧ (W.a, W.go) ∈ pv ∧ (∀ q ∈ iv, W.g < q.1 ∧ asl q.2 = true) ∧ (W.env.cells = [] → NC pv) := by
  cases m with
  | zero => exact z.elim
  | succ m => exact ⟨z.1, z.2.1, z.2.2.1, z.2.2.2.1, z.2.2.2.2.1⟩
/-- what it keeps may be pinned -/
theorem Ready.pinned (r : Ready X W S true pins σ m t H s gs pv iv) : Inv X (pins ++ pv) σ H s := by
  obtain ⟨_, z2, _, _, z5⟩ := r.slp.pos
  refine r.inv.pins_of fun p hp => ?_
  rcases List.mem_append.mp hp with hp | hp
  · exact r.inv.pin p (List.mem_append_right _ hp)
  · obtain ⟨e, hn⟩ := r.held.pv p hp
    have h1 := z2 p hp
    refine ⟨e, hn, fun z => ?_, fun z => ?_, z5 (r.cl rfl) p hp⟩
    · rw [z] at h1; exact absurd r.link.loc (Nat.not_lt.mpr h1)
    · obtain ⟨_, o, ho, _⟩ := r.inv.ok.funs.mem z
      exact absurd (Nat.lt_of_lt_of_le (Heap.lt_size ho) r.link.low) (Nat.not_lt.mpr h1)
theorem Ready.isGen (r : Ready X W S cl pins σ m t H s gs pv iv) : s.heap.IsGen W.a W.g := by
  obtain ⟨_, _, z3, _, _⟩ := r.slp.pos
  obtain ⟨nm, qn, c1, c2, c3⟩ := r.link.good.obj
  exact ⟨W.go, nm, qn, (r.held.pv _ z3).1, c1, c2, c3⟩
/-- it sleeps on -/
theorem Ready.on {σ' : L2.St} {H' : Hp} {s' : Shared} (r : Ready X W S true pins σ m t H s gs pv iv) (ha : asl gs = true) (I : Inv X (pins ++ pv) σ' H' s') (k : Keeps s.gens s'.gens) : Ready X W S true pins σ' m t H' s' gs pv iv where
  inv := I.unpinned
  link := r.link
  cl := r.cl
  slp := r.slp
  at_ := k _ _ r.at_ ha
  held := ⟨fun p hp => by
    obtain ⟨h1, h2, _⟩ := I.pin p (List.mem_append_right _ (List.mem_append_right _ hp))
    exact ⟨h1, h2⟩, fun q hq => k _ _ (r.held.iv q hq) (r.slp.pos.2.2.2.1 q hq).2⟩
  apart := r.apart
theorem Ready.letGo {M : Model} {A : Around} {E : Value → Shared → Prop} {tg : Expr} {u : Value} {Q : Unit → Shared → Prop} (r : Ready X W S cl pins σ m t H s gs pv iv) (h : Q () s) : wpAny M A (letOwnedTupleGo tg (.ref W.a) u) Q E s := by
  obtain ⟨_, _, z3, _, _⟩ := r.slp.pos
  obtain ⟨nm, qn, c1, c2, c3⟩ := r.link.good.obj
  exact go_of (r.held.pv _ z3).1 c1 c2 (by decide) h
theorem Ready.next {Q : Option Value → Shared → Prop} {E : Value → Shared → Prop} (r : Ready X W S cl pins σ m t H s gs pv iv) (hh : X.A.frames = some X.stack) (hd : X.A.handled = none) (hroom : X.A.depth < recursionLimit) (hn : S.need t H)
    (hY : ∀ m' v x t' H1 s1 gs' pv' iv', Ready X W S cl pins σ m' t' H1 s1 gs' pv' iv' → asl gs' = true → RelV x v → S.yld t H x H1 t' → m' < m → Q (some v) s1)
    (hP : ∀ H1 s1, Inv X pins σ H1 s1 → S.fin t H H1 → W.g < s1.gens.size → Q none s1) : wpAny (model X.prog X.w) X.A (pyNext (.ref W.a)) Q E s :=
  next_gen r.link r.link.room r.inv hh hd hroom r.slp r.at_ r.held r.apart hn (fun m' v x t' H1 s1 gs' pv' iv' h1 h2 h3 h4 h5 h6 h7 h8 h9 => hY m' v x t' H1 s1 gs' pv' iv' ⟨h1, r.link, r.cl, h5, h6, h7, h8⟩ h9 h2 h3 h4) hP
theorem Ready.nextB {B : Around} {Q : Option Value → Shared → Prop} {E : Value → Shared → Prop} (r : Ready X W S cl pins σ m t H s gs pv iv) (hB : Room W.k (B.in1.deeper W.env)) (hh : B.frames = some X.stack) (hd : B.handled = none) (hroom : B.depth < recursionLimit) (hn : S.need t H)
    (hY : ∀ m' v x t' H1 s1 gs' pv' iv', Ready X W S cl pins σ m' t' H1 s1 gs' pv' iv' → asl gs' = true → RelV x v → S.yld t H x H1 t' → m' < m → Q (some v) s1)
    (hP : ∀ H1 s1, Inv X pins σ H1 s1 → S.fin t H H1 → W.g < s1.gens.size → Q none s1) : wpAny (model X.prog X.w) B (pyNext (.ref W.a)) Q E s :=
  next_gen r.link hB r.inv hh hd hroom r.slp r.at_ r.held r.apart hn (fun m' v x t' H1 s1 gs' pv' iv' h1 h2 h3 h4 h5 h6 h7 h8 h9 => hY m' v x t' H1 s1 gs' pv' iv' ⟨h1, r.link, r.cl, h5, h6, h7, h8⟩ h9 h2 h3 h4) hP
end
end GenZ

set_option Elab.async false
set_option linter.all false
set_option maxRecDepth 100000
set_option maxHeartbeats 1000000
/-! ### for over a generator: the statement -/
namespace GenZ
open PySem PySem.Spec PyProof.Rows L2 GenW
section
variable {X : Cx} {W : GW} {S : GSp} {pins : Pins} {m : Nat} {t : S.τ} {gs : GenState} {pv : Pins} {iv : Gens}
/-- what runs between two wakes -/
theorem Ready.while {α : Type} {c : Sem α} {σ : L2.St} {H : Hp} {s : Shared} {Q : α → Shared → Prop} {Q' : α → Shared → Prop} {E : Value → Shared → Prop} (r : Ready X W S true pins σ m t H s gs pv iv) (ha : asl gs = true)
    (hx : ∀ e s, ¬ X.xe e s) (h : ∀ s', Inv X (pins ++ pv) σ H s' → wpAny (model X.prog X.w) X.A c Q X.xe s')
    (hQ : ∀ a z s', Q a z → (∀ σ' H', Inv X (pins ++ pv) σ' H' z → Ready X W S true pins σ' m t H' s' gs pv iv) → Q' a s') : wpAny (model X.prog X.w) X.A c Q' E s := by
  refine wpAny_mono (wpAny_asleep (h { s with gens := poisons s.gens } (inv_gens r.pinned (poisons_bare r.inv.bare))) r.inv.bare) (fun a s6 ⟨z, hq, hbz, ez, kz, oz, hsz⟩ => ?_) fun e s6 ⟨z, hq, _⟩ => absurd hq (hx e z)
  exact hQ a z s6 hq fun σ' H' I => r.on ha (inv_gens' I ez (hbz I.bare)) kz
def tForG (wi : TGen2) (g : TG) (tb : TS) : TS := fun D σ H => wi σ H fun S t H1 => ∃ W : S.τ → L2.St → Hp → Prop, W t σ H1 ∧ ∀ t σ H, W t σ H →
  S.need t H ∧ (∀ x H1 t', S.yld t H x H1 t' → g x σ H1 fun σ2 H2 => tb { D with nx := W t', ct := W t', bk := D.nx } σ2 H2) ∧ ∀ H1, S.fin t H H1 → D.nx σ H1
theorem ps_forG {tg iter : Expr} {body : List Stmt} {wi : TGen2} {g : TG} {tb : TS} {pos : Pos} {k : Nat} (hx : ∀ e s, ¬ X.xe e s) (hc : X.calm = true) (hroom : X.A.depth < recursionLimit) (hi : PGn X k true iter wi) (hg : PG X tg g) (hb : PSs X body tb)
    (hs : ∀ x, foldedSetIterable iter X.env x = pure x := by intro _; rfl) : PS X (.For tg iter body [] pos) (tForG wi g tb) := by
  refine ⟨fun pins s σ H D I h => ?_⟩
  refine wpAny_For (thn (hi.run pins s σ H _ I h) fun v s1 h1 => ?_) hs
  obtain ⟨W, S, t, m, c, pv, H1, rfl, R, hk, hgg, W0, w0, turn⟩ := h1
  refine wpAny_pyIter_gen R.isGen ?_
  refine codeAny_forLoop_any (fun n s' => ∃ t σ' H' gs pv iv, Ready X W S true pins σ' n t H' s' gs pv iv ∧ W0 t σ' H') ?_ m ⟨t, σ, H1, _, pv, _, R, w0⟩
  rintro n s3 ⟨t3, σ3, H3, gs3, pv3, iv3, R3, w3⟩
  obtain ⟨need, step, fin⟩ := turn t3 σ3 H3 w3
  refine R3.next R3.inv.ok.frames (R3.inv.ok.hd hc) hroom need (fun m' v x t' H4 s4 gs' pv' iv' R4 ha rv hy hlt => ?_) (fun H4 s4 I4 hf _ => ?_)
  · refine R4.letGo ?_
    refine R4.while ha hx (fun s' I' => hg.run _ s' σ3 H4 x v _ I' rv (step x H4 t' hy)) fun _ z s6 ⟨σ6, H6, I6, q6⟩ r6 => ?_
    refine (r6 σ6 H6 I6).while ha hx (fun s' I' => hb.run _ s' σ6 H6 _ I' q6) fun f z7 s7 q7 r7 => ?_
    cases f with
    | next => obtain ⟨σ7, H7, I7, n7⟩ := q7; exact ⟨m', hlt, t', σ7, H7, gs', pv', iv', r7 σ7 H7 I7, n7⟩
    | cont => obtain ⟨σ7, H7, I7, n7⟩ := q7; exact ⟨m', hlt, t', σ7, H7, gs', pv', iv', r7 σ7 H7 I7, n7⟩
    | brk => obtain ⟨σ7, H7, I7, n7⟩ := q7; exact ⟨σ7, H7, (r7 σ7 H7 I7).inv, n7⟩
    | ret u => obtain ⟨x7, σ7, H7, I7, rr, n7⟩ := q7; exact ⟨x7, σ7, H7, (r7 σ7 H7 I7).inv, rr, n7⟩
  · exact wpAny_execs_nil ⟨σ3, H4, I4, fin H4 hf⟩
end
end GenZ

set_option Elab.async false
set_option linter.all false
set_option maxRecDepth 100000
set_option maxHeartbeats 1000000
/-! ### the body of a generator def -/
namespace GenZ
open PySem PySem.Spec PyProof.Rows L2 GenW
/-- what is wanted behind a statement; t, Hw: what was told at the last wake, and the heap then -/
structure E2 (S : GSp) where
  nx : S.τ → Hp → L2.St → Hp → Prop
  rt : S.τ → Hp → V → Hp → Prop
  bk : S.τ → Hp → L2.St → Hp → Prop := fun _ _ _ _ => False
  ct : S.τ → Hp → L2.St → Hp → Prop := fun _ _ _ _ => False
abbrev T2 (S : GSp) := E2 S → S.τ → Hp → L2.St → Hp → Prop
def E2.at {S : GSp} (D : E2 S) (t : S.τ) (Hw : Hp) : Ends := { nx := D.nx t Hw, rt := D.rt t Hw, bk := D.bk t Hw, ct := D.ct t Hw }
/-- where the code stands -/
structure GPos (W : GW) (c : Code) (fs : List Frame) (gd : Bool → Bool) : Prop where
  over : ∀ A : Around, A.over c fs = A.deeper W.env
  split : splitAtGen fs = none
  guard : fs.any Frame.guarded = false
  gd : gd false = false
/-- the iterators that it keeps, the generators that it walks -/
structure GOwn (W : GW) (fr : Bool) (ip : Pins) (iv : Gens) : Prop where
  one : fr = true → iv = []
  ip : ∀ p ∈ ip, W.n ≤ p.1
  iv : ∀ q ∈ iv, W.g < q.1 ∧ asl q.2 = true
structure GIn (W : GW) (A : Around) (sw : Shared) (Hw : Hp) (pc ip : Pins) (iv : Gens) (σ : L2.St) (H : Hp) (s : Shared) : Prop where
  wk : W.Wk A sw Hw pc
  inv : Inv (W.cx A (cutS sw W.n) Hw) (pc ++ ip) σ H s
  iv : ∀ q ∈ iv, s.gens[q.1]? = some q.2
  apart : ∀ p ∈ pc, p.1 ≠ W.a ∧ ∀ q ∈ ip, q.1 ≠ p.1
  gsz : W.g < s.gens.size
def GF (W : GW) {S : GSp} (D : E2 S) (ip : Pins) (iv : Gens) (A : Around) (sw : Shared) (Hw : Hp) (pc : Pins) (t : S.τ) (f : Flow) (s : Shared) : Prop :=
  match f with
  | .next => ∃ σ H, GIn W A sw Hw pc ip iv σ H s ∧ D.nx t Hw σ H
  | .brk => ∃ σ H, GIn W A sw Hw pc ip iv σ H s ∧ D.bk t Hw σ H
  | .cont => ∃ σ H, GIn W A sw Hw pc ip iv σ H s ∧ D.ct t Hw σ H
  | .ret u => ∃ v σ H, GIn W A sw Hw pc ip iv σ H s ∧ RelV v u ∧ D.rt t Hw v H
abbrev LapW (W : GW) (S : GSp) (m : Nat) (A : Around) (sw : Shared) (Hw : Hp) (pc : Pins) (t : S.τ) (c : Code) (tr : Sem PySem.Fin) (fs : List Frame) (s : Shared) : Prop :=
  Lap (model W.P W.w) A (ZS W S (Slp W S m) t sw Hw pc) c tr fs s
/-- what follows -/
def GK2 (W : GW) {S : GSp} (D : E2 S) (ip : Pins) (iv : Gens) (c : Code) (fs : List Frame) (K : Flow → Sem PySem.Fin) : Prop :=
  ∀ (m : Nat) (A : Around) (sw : Shared) (Hw : Hp) (pc : Pins) (t : S.τ) (s : Shared) (f : Flow), S.left t ≤ m → GF W D ip iv A sw Hw pc t f s → LapW W S m A sw Hw pc t c (K f) fs s
structure GS2 (W : GW) (S : GSp) (fr : Bool) (st : Stmt) (tr : T2 S) : Prop where
  run : ∀ (ip : Pins) (iv : Gens) (c : Code) (fs : List Frame) (K : Flow → Sem PySem.Fin) (J : Value → Sem PySem.Fin) (gd : Bool → Bool) (lv : List Value → List Value) (D : E2 S), GPos W c fs gd → GOwn W fr ip iv → GK2 W D ip iv c fs K →
    ∀ (m : Nat) (A : Around) (sw : Shared) (Hw : Hp) (pc : Pins) (t : S.τ) (s : Shared) (σ : L2.St) (H : Hp), S.left t ≤ m → GIn W A sw Hw pc ip iv σ H s → tr D t Hw σ H → LapW W S m A sw Hw pc t c ((exec st W.env).wrap K J gd lv) fs s
structure GSs2 (W : GW) (S : GSp) (fr : Bool) (st : List Stmt) (tr : T2 S) : Prop where
  run : ∀ (ip : Pins) (iv : Gens) (c : Code) (fs : List Frame) (K : Flow → Sem PySem.Fin) (J : Value → Sem PySem.Fin) (gd : Bool → Bool) (lv : List Value → List Value) (D : E2 S), GPos W c fs gd → GOwn W fr ip iv → GK2 W D ip iv c fs K →
    ∀ (m : Nat) (A : Around) (sw : Shared) (Hw : Hp) (pc : Pins) (t : S.τ) (s : Shared) (σ : L2.St) (H : Hp), S.left t ≤ m → GIn W A sw Hw pc ip iv σ H s → tr D t Hw σ H → LapW W S m A sw Hw pc t c ((execs st W.env).wrap K J gd lv) fs s
/-- for each wake's context -/
def AllX (W : GW) (p : Cx → Prop) : Prop := ∀ (A : Around) (sc : Shared) (Hc : Hp), Room W.k (A.deeper W.env) → p (W.cx A sc Hc)
section
variable {W : GW} {S : GSp} {fr : Bool} {st : Stmt} {rest : List Stmt} {A : Around} {sw s : Shared} {Hw H : Hp} {pc ip : Pins} {iv : Gens} {σ : L2.St}
/-- a run in which the sleeping ones sleep on -/
theorem GIn.while {α : Type} {c : Sem α} {Q : α → Shared → Prop} {Q' : α → Shared → Prop} {E : Value → Shared → Prop} (I : GIn W A sw Hw pc ip iv σ H s) (o : GOwn W fr ip iv)
    (h : ∀ s', Inv (W.cx A (cutS sw W.n) Hw) (pc ++ ip) σ H s' → wpAny (model W.P W.w) (A.deeper W.env) c Q never s')
    (hQ : ∀ a z s', Q a z → (∀ σ' H', Inv (W.cx A (cutS sw W.n) Hw) (pc ++ ip) σ' H' z → GIn W A sw Hw pc ip iv σ' H' s') → Q' a s') : wpAny (model W.P W.w) (A.deeper W.env) c Q' E s := by
  refine wpAny_mono (wpAny_asleep (h { s with gens := poisons s.gens } (inv_gens I.inv (poisons_bare I.inv.bare))) I.inv.bare) (fun a s6 ⟨z, hq, hbz, ez, kz, oz, hsz⟩ => ?_) fun e s6 ⟨z, hq, _⟩ => hq.elim
  exact hQ a z s6 hq fun σ' H' I' => ⟨I.wk, inv_gens' I' ez (hbz I'.bare), fun q hq => kz _ _ (I.iv q hq) (o.iv q hq).2, I.apart, Nat.lt_of_lt_of_le I.gsz hsz⟩
def tPlain2 (t : TS) : T2 S := fun D u Hw σ H => t (D.at u Hw) σ H
theorem gf_of {D : E2 S} {t : S.τ} {z : Shared} {f : Flow} (h : SP (W.cx A (cutS sw W.n) Hw) (pc ++ ip) (D.at t Hw) f z) (hI : ∀ σ' H', Inv (W.cx A (cutS sw W.n) Hw) (pc ++ ip) σ' H' z → GIn W A sw Hw pc ip iv σ' H' s) : GF W D ip iv A sw Hw pc t f s := by
  cases f with
  | next => obtain ⟨σ', H', I, q⟩ := h; exact ⟨σ', H', hI σ' H' I, q⟩
  | brk => obtain ⟨σ', H', I, q⟩ := h; exact ⟨σ', H', hI σ' H' I, q⟩
  | cont => obtain ⟨σ', H', I, q⟩ := h; exact ⟨σ', H', hI σ' H' I, q⟩
  | ret u => obtain ⟨v, σ', H', I, r, q⟩ := h; exact ⟨v, σ', H', hI σ' H' I, r, q⟩
theorem gs2_ps {t : TS} (h : AllX W fun X => PS X st t) : GS2 W S fr st (tPlain2 t) := by
  refine ⟨fun ip iv c fs K J gd lv D g o k m A sw Hw pc u s σ H hm I ht => ?_⟩
  refine lap_wrap ?_
  rw [g.over]
  exact I.while o (fun s' I' => (h A _ Hw I.wk.room).run _ s' σ H (D.at u Hw) I' ht) fun f z s' hz hI => k m A sw Hw pc u s' f hm (gf_of hz hI)
theorem gss2_pss {t : TS} (h : AllX W fun X => PSs X rest t) : GSs2 W S fr rest (tPlain2 t) := by
  refine ⟨fun ip iv c fs K J gd lv D g o k m A sw Hw pc u s σ H hm I ht => ?_⟩
  refine lap_wrap ?_
  rw [g.over]
  exact I.while o (fun s' I' => (h A _ Hw I.wk.room).run _ s' σ H (D.at u Hw) I' ht) fun f z s' hz hI => k m A sw Hw pc u s' f hm (gf_of hz hI)
def tNil2 : T2 S := fun D u Hw σ H => D.nx u Hw σ H
theorem gss2_nil : GSs2 W S fr [] tNil2 := by
  refine ⟨fun ip iv c fs K J gd lv D g o k m A sw Hw pc u s σ H hm I ht => ?_⟩
  exact lap_execs_nil (k m A sw Hw pc u s .next hm ⟨σ, H, I, ht⟩)
def tThen2 (t u : T2 S) : T2 S := fun D a Hw σ H => t { D with nx := fun a' Hw' σ' H' => u D a' Hw' σ' H' } a Hw σ H
theorem gss2_cons {t u : T2 S} (a : GS2 W S fr st t) (b : GSs2 W S fr rest u) : GSs2 W S fr (st :: rest) (tThen2 t u) := by
  refine ⟨fun ip iv c fs K J gd lv D g o k m A sw Hw pc r s σ H hm I ht => ?_⟩
  refine lap_execs_cons ?_
  refine a.run ip iv c fs _ J gd lv { D with nx := fun a' Hw' σ' H' => u D a' Hw' σ' H' } g o (fun m' A' sw' Hw' pc' r' s' f hm' hs => ?_) m A sw Hw pc r s σ H hm I ht
  cases f with
  | next =>
    obtain ⟨σ', H', I', q⟩ := hs
    exact b.run ip iv c fs K J gd lv D g o k m' A' sw' Hw' pc' r' s' σ' H' hm' I' q
  | brk => exact k m' A' sw' Hw' pc' r' s' .brk hm' hs
  | cont => exact k m' A' sw' Hw' pc' r' s' .cont hm' hs
  | ret v => exact k m' A' sw' Hw' pc' r' s' (.ret v) hm' hs
theorem gss2_one {t : T2 S} (a : GS2 W S fr st t) : GSs2 W S fr [st] t := by
  refine ⟨fun ip iv c fs K J gd lv D g o k m A sw Hw pc r s σ H hm I ht => ?_⟩
  refine lap_execs_cons ?_
  refine a.run ip iv c fs _ J gd lv D g o (fun m' A' sw' Hw' pc' r' s' f hm' hs => ?_) m A sw Hw pc r s σ H hm I ht
  cases f with
  | next => exact lap_execs_nil (k m' A' sw' Hw' pc' r' s' .next hm' hs)
  | brk => exact k m' A' sw' Hw' pc' r' s' .brk hm' hs
  | cont => exact k m' A' sw' Hw' pc' r' s' .cont hm' hs
  | ret v => exact k m' A' sw' Hw' pc' r' s' (.ret v) hm' hs
theorem gs2_never : GS2 W S fr st (fun _ _ _ _ _ => False) := ⟨fun _ _ _ _ _ _ _ _ _ _ _ _ _ _ _ _ _ _ _ _ _ _ _ h => h.elim⟩
/-! if -/
def tIf2 (c : TT) (a b : T2 S) : T2 S := fun D u Hw σ H => c σ H fun x H1 => if x = true then a D u Hw σ H1 else b D u Hw σ H1
theorem gs2_if {test : Expr} {body orelse : List Stmt} {pos : Pos} {c : TT} {a b : T2 S} (hc : AllX W fun X => PT X test c) (ha : GSs2 W S fr body a) (hb : GSs2 W S fr orelse b) : GS2 W S fr (.If test body orelse pos) (tIf2 c a b) := by
  refine ⟨fun ip iv cc fs K J gd lv D g o k m A sw Hw pc u s σ H hm I ht => ?_⟩
  refine lap_If ?_
  rw [g.over]
  refine I.while o (fun s' I' => (hc A _ Hw I.wk.room).run _ s' σ H _ I' ht) fun x z s' hz hI => ?_
  obtain ⟨H2, I2, q⟩ := hz
  have I3 := hI σ H2 I2
  cases x with
  | true => rw [if_pos rfl] at q ⊢; exact ha.run ip iv cc fs K J gd lv D g o k m A sw Hw pc u s' σ H2 hm I3 q
  | false => rw [if_neg Bool.false_ne_true] at q ⊢; exact hb.run ip iv cc fs K J gd lv D g o k m A sw Hw pc u s' σ H2 hm I3 q
/-! yield -/
def tYield2 (te : TE) : T2 S := fun D t Hw σ H => te σ H fun x H1 => ∃ t', S.yld t Hw x H1 t' ∧ S.left t' < S.left t ∧ ∀ H', S.need t' H' → D.nx t' H' σ H'
theorem gs2_yield {e : Expr} {yp pos : Pos} {te : TE} (G : W.Good) (he : AllX W fun X => PE X e te) (hi : interactive W.env = false := by rfl) : GS2 W S fr (.Expr (.Yield (some e) yp) pos) (tYield2 te) := by
  refine ⟨fun ip iv cc fs K J gd lv D g o k m A sw Hw pc t s σ H hm I ht => ?_⟩
  refine lap_Expr_Yield g.split ?_ G.co hi
  rw [g.over]
  refine I.while o (fun s' I' => (he A _ Hw I.wk.room).run _ s' σ H _ I' ht) fun v z s' hz hI => ?_
  obtain ⟨x, H1, I1, rv, t', hy, hlt, hn⟩ := hz
  have I3 := hI σ H1 I1
  intro gg l kk p hg hk
  subst hg
  have hq : (End.susp v (gd false) l kk cc p fs).quiet = true := by
    show (!(gd false || fs.any Frame.guarded)) = true
    rw [g.gd, g.guard]; rfl
  obtain ⟨pv, v1, v2, v3, v4, v5, v7, v6⟩ := GW.sleeps G I3.inv I3.apart o.ip (fun p hp => (I3.wk.pc p hp).2.2.2)
  refine ⟨hq, x, t', H1, pv, iv, rv, GW.rel_of I3.inv, ⟨v1, I3.iv⟩, v3, hy, hlt, ?_⟩
  obtain ⟨m, rfl⟩ : ∃ j, m = j + 1 := ⟨m - 1, by omega⟩
  refine ⟨End.bare_of_quiet hq, v2, v4, o.iv, v5, fun A' s'' H' pc' wk hh hd hgz hnd => ?_⟩
  show Lap _ A' _ cc (kk (.send .none)) fs s''
  rw [hk]
  refine k m A' s'' H' pc' t' s'' .next (by omega) ⟨σ, H', ⟨wk, v6 A' s'' H' pc' wk hh.pv hd, hh.iv, fun p hp => ⟨fun z => hd _ v4 p hp z.symm, fun q hq z => hd q (v7 q hq) p hp z⟩, hgz⟩, hn H' hnd⟩
end
end GenZ

set_option Elab.async false
set_option linter.all false
set_option maxRecDepth 100000
set_option maxHeartbeats 1000000
/-! ### the body of a generator def: while, for -/
namespace GenZ
open PySem PySem.Spec PyProof.Rows L2 GenW
section
variable {W : GW} {S : GSp} {fr : Bool}
theorem gpos_loop {c c' : Code} {fs : List Frame} {gd : Bool → Bool} {k : Result → Sem PySem.Fin} {l kp : List Value} {p : Pos} (g : GPos W c fs gd) (hw : c'.weight = 0) (hu : c'.cUnits = 0) : GPos W c' (.ret k none (gd false) l c p kp :: fs) id where
  over := fun A => (over_loop hw hu).trans (g.over A)
  split := by
    show (splitAtGen fs).map _ = none
    rw [g.split]; rfl
  guard := by
    show (gd false || fs.any Frame.guarded) = false
    rw [g.gd, g.guard]; rfl
  gd := rfl
def tWhile2 (c : TT) (tb : T2 S) : T2 S := fun D u Hw σ H => ∃ V : Nat → S.τ → Hp → L2.St → Hp → Prop, (∃ j, V j u Hw σ H) ∧ ∀ j u Hw σ H, V j u Hw σ H →
  c σ H fun b H1 => if b = true then ∃ N : S.τ → Hp → L2.St → Hp → Prop, (∀ u' Hw' σ' H', N u' Hw' σ' H' → ∃ j', j' < j ∧ V j' u' Hw' σ' H') ∧ tb { D with nx := N, ct := N, bk := D.nx } u Hw σ H1 else D.nx u Hw σ H1
theorem gs2_while {test : Expr} {body : List Stmt} {pos : Pos} {c : TT} {tb : T2 S} (hc : AllX W fun X => PT X test c) (hb : GSs2 W S fr body tb) : GS2 W S fr (.While test body [] pos) (tWhile2 c tb) := by
  refine ⟨fun ip iv cc fs K J gd lv D g o k m A sw Hw pc u s σ H hm I ht => ?_⟩
  obtain ⟨V, ⟨j0, v0⟩, turn⟩ := ht
  refine lap_While fun kk p hk => ?_
  have gl := gpos_loop (k := kk) (c' := .whileLoop test body [] W.env) (l := lv []) (kp := []) (p := p) g rfl rfl
  have loop : ∀ (j m : Nat) (A : Around) (sw : Shared) (Hw : Hp) (pc : Pins) (u : S.τ) (s : Shared) (σ : L2.St) (H : Hp), S.left u ≤ m → V j u Hw σ H → GIn W A sw Hw pc ip iv σ H s →
      LapW W S m A sw Hw pc u (.whileLoop test body [] W.env) ((model W.P W.w).den (.whileLoop test body [] W.env)) (.ret kk none (gd false) (lv []) cc p [] :: fs) s := by
    intro j
    induction j using Nat.strongRecOn with
    | ind j ih =>
      intro m A sw Hw pc u s σ H hm v I
      refine lap_whileLoop ?_
      rw [gl.over]
      refine I.while o (fun s' I' => (hc A _ Hw I.wk.room).run _ s' σ H _ I' (turn j u Hw σ H v)) fun b z s' hz hI => ?_
      obtain ⟨H2, I2, q2⟩ := hz
      have I3 := hI σ H2 I2
      cases b with
      | true =>
        rw [if_pos rfl] at q2 ⊢
        obtain ⟨N, hN, q2⟩ := q2
        intro J'
        refine hb.run ip iv _ _ _ J' id id { D with nx := N, ct := N, bk := D.nx } gl o (fun m' A' sw' Hw' pc' u' s3 f hm' hs => ?_) m A sw Hw pc u s' σ H2 hm I3 q2
        cases f with
        | next =>
          obtain ⟨σ3, H3, I3, n3⟩ := hs
          obtain ⟨j', hj, w3⟩ := hN u' Hw' σ3 H3 n3
          exact lap_again rfl (ih j' hj m' A' sw' Hw' pc' u' s3 σ3 H3 hm' w3 I3)
        | cont =>
          obtain ⟨σ3, H3, I3, n3⟩ := hs
          obtain ⟨j', hj, w3⟩ := hN u' Hw' σ3 H3 n3
          exact lap_again rfl (ih j' hj m' A' sw' Hw' pc' u' s3 σ3 H3 hm' w3 I3)
        | brk => exact lap_leaf (.ok .next) (by rw [hk]; exact k m' A' sw' Hw' pc' u' s3 .next hm' hs)
        | ret v => exact lap_leaf (.ok (.ret v)) (by rw [hk]; exact k m' A' sw' Hw' pc' u' s3 (.ret v) hm' hs)
      | false =>
        rw [if_neg Bool.false_ne_true] at q2 ⊢
        exact lap_leaf (.ok .next) (by rw [hk]; exact k m A sw Hw pc u s' .next hm ⟨σ, H2, I3, q2⟩)
  exact loop j0 m A sw Hw pc u s σ H hm v0 I
/-! ### for over a generator, in a generator -/
def tForG2 (wi : TGen2) (g : TG) (tb : T2 S) : T2 S := fun D u Hw σ H => wi σ H fun Si ti H1 => ∃ V : Si.τ → S.τ → Hp → L2.St → Hp → Prop, V ti u Hw σ H1 ∧ ∀ ti u Hw σ H, V ti u Hw σ H →
  Si.need ti H ∧ (∀ x H1 ti', Si.yld ti H x H1 ti' → g x σ H1 fun σ2 H2 => tb { D with nx := V ti', ct := V ti', bk := D.nx } u Hw σ2 H2) ∧ ∀ H1, Si.fin ti H H1 → D.nx u Hw σ H1
theorem Ready.shift {X : Cx} {Wi : GW} {Si : GSp} {cl : Bool} {pins : Pins} {σ : L2.St} {H : Hp} {s s' : Shared} {m : Nat} {t : Si.τ} {c : Code} {pv : Pins} (r : Ready X Wi Si cl pins σ m t H s (.fresh c) pv []) (I : Inv X pins σ H s') (eh : s'.heap = s.heap)
    (ho : ∀ (i : Nat) x, s.gens[i]? = some x → asl x = false → s'.gens[i]? = some x) : Ready X Wi Si cl pins σ m t H s' (.fresh c) pv [] where
  inv := I
  link := r.link
  cl := r.cl
  slp := r.slp
  at_ := ho _ _ r.at_ rfl
  held := ⟨fun p hp => by rw [eh]; exact r.held.pv p hp, fun q hq => (nomatch hq)⟩
  apart := r.apart
theorem Link.wakes {Wi : GW} {A A' : Around} {sw sw' : Shared} {Hw Hw' : Hp} (L : Link (W.cx A (cutS sw W.n) Hw) Wi) (hs : W.n ≤ sw.heap.objs.size) (hs' : W.n ≤ sw'.heap.objs.size) (hr : Room W.k (A'.deeper W.env)) (hk : Wi.k + 2 ≤ W.k) : Link (W.cx A' (cutS sw' W.n) Hw') Wi where
  P := L.P
  w := L.w
  base := L.base
  outer := L.outer
  low := by
    have h := L.low
    show (cut sw'.heap W.n).objs.size ≤ _
    have h : (cut sw.heap W.n).objs.size ≤ Wi.n := h
    rw [cut_size hs'] 
    rw [cut_size hs] at h
    exact h
  loc := L.loc
  cel := L.cel
  room := by
    have h1 : Room (Wi.k + 1 + 1) (A'.deeper W.env) := hr.mono hk
    exact h1.in1.deeper _
  good := L.good
end
end GenZ

set_option Elab.async false
set_option linter.all false
set_option maxRecDepth 100000
set_option maxHeartbeats 1000000
/-! ### for over a generator, in a generator -/
namespace GenZ
open PySem PySem.Spec PyProof.Rows L2 GenW
section
variable {W : GW} {S : GSp} {A : Around} {sw s : Shared} {Hw H : Hp} {pc ip pv : Pins} {iv : Gens} {σ : L2.St} {D : E2 S} {t : S.τ}
theorem GIn.drop (I : GIn W A sw Hw pc (ip ++ pv) iv σ H s) : GIn W A sw Hw pc ip [] σ H s where
  wk := I.wk
  inv := I.inv.pins_of fun p hp => by
    rcases List.mem_append.mp hp with hp | hp
    · exact I.inv.pin p (List.mem_append_right _ (List.mem_append_left _ hp))
    · exact I.inv.pin p (List.mem_append_right _ (List.mem_append_right _ (List.mem_append_left _ hp)))
  iv := fun q hq => (nomatch hq)
  apart := fun p hp => ⟨(I.apart p hp).1, fun q hq => (I.apart p hp).2 q (List.mem_append_left _ hq)⟩
  gsz := I.gsz
theorem GF.drop {f : Flow} (h : GF W D (ip ++ pv) iv A sw Hw pc t f s) : GF W D ip [] A sw Hw pc t f s := by
  cases f with
  | next => obtain ⟨σ, H, I, q⟩ := h; exact ⟨σ, H, I.drop, q⟩
  | brk => obtain ⟨σ, H, I, q⟩ := h; exact ⟨σ, H, I.drop, q⟩
  | cont => obtain ⟨σ, H, I, q⟩ := h; exact ⟨σ, H, I.drop, q⟩
  | ret u => obtain ⟨v, σ, H, I, r, q⟩ := h; exact ⟨v, σ, H, I.drop, r, q⟩
theorem gs2_forG {tg iter : Expr} {body : List Stmt} {pos : Pos} {wi : TGen2} {g : TG} {tb : T2 S} (hroom : 5 ≤ W.k) (hi : AllX W fun X => PGn X W.k true iter wi) (hg : AllX W fun X => PG X tg g) (hb : GSs2 W S false body tb)
    (hs : ∀ x, foldedSetIterable iter W.env x = pure x := by intro _; rfl) : GS2 W S true (.For tg iter body [] pos) (tForG2 wi g tb) := by
  refine ⟨fun ip iv cc fs K J gd lv D gp o k m A sw Hw pc u s σ H hm I ht => ?_⟩
  obtain rfl : iv = [] := o.one rfl
  have dep : ∀ {A : Around}, Room W.k (A.deeper W.env) → (A.deeper W.env).depth < recursionLimit := fun {A} r => by have := r.dp; omega
  refine lap_For ?_ hs
  rw [gp.over]
  refine wpAny_mono (wpAny_asleep ((hi A (cutS sw W.n) Hw I.wk.room).run (pc ++ ip) { s with gens := poisons s.gens } σ H _ (inv_gens I.inv (poisons_bare I.inv.bare)) ht) I.inv.bare) (fun v s1 ⟨z, h1, hbz, ez, kz, oz, hsz⟩ => ?_) fun e s6 ⟨z, hq, _⟩ => hq.elim
  obtain ⟨Wi, Si, ti, n, c, pv, H1, rfl, R, hk, hgg, V, v0, turn⟩ := h1
  have hgg : s.gens.size ≤ Wi.g := by
    have : ({ s with gens := poisons s.gens } : Shared).gens.size = s.gens.size := by show (s.gens.map poison).size = _; exact Array.size_map ..
    rw [this] at hgg; exact hgg
  have R1 : Ready (W.cx A (cutS sw W.n) Hw) Wi Si true (pc ++ ip) σ n ti H1 s1 (.fresh c) pv [] := R.shift (inv_gens' R.inv ez (hbz R.inv.bare)) (by rw [ez]) oz
  have I1 : GIn W A sw Hw pc ip [] σ H1 s1 := ⟨I.wk, R1.inv, fun q hq => (nomatch hq), I.apart, Nat.lt_of_lt_of_le I.gsz hsz⟩
  have hgW : W.g < Wi.g := Nat.lt_of_lt_of_le I.gsz hgg
  have hnW : W.n ≤ Wi.n := by
    have h := R1.link.low
    have h : (cut sw.heap W.n).objs.size ≤ Wi.n := h
    rw [cut_size I.wk.sz] at h
    exact h
  refine wpAny_pyIter_gen R1.isGen ?_
  intro kk p hkk
  have gl := gpos_loop (k := kk) (c' := .forLoop tg (.ref Wi.a) body [] W.env) (l := lv []) (kp := []) (p := p) gp rfl rfl
  clear R hbz ez kz oz hsz
  have loop : ∀ (n m : Nat) (A : Around) (sw : Shared) (Hw : Hp) (pc : Pins) (u : S.τ) (s : Shared) (σ : L2.St) (H : Hp) (ti : Si.τ) (gs : GenState) (pv : Pins) (iv : Gens), S.left u ≤ m → V ti u Hw σ H → GIn W A sw Hw pc ip [] σ H s →
      Ready (W.cx A (cutS sw W.n) Hw) Wi Si true (pc ++ ip) σ n ti H s gs pv iv →
      LapW W S m A sw Hw pc u (.forLoop tg (.ref Wi.a) body [] W.env) ((model W.P W.w).den (.forLoop tg (.ref Wi.a) body [] W.env)) (.ret kk none (gd false) (lv []) cc p [] :: fs) s := by
    intro n
    induction n using Nat.strongRecOn with
    | ind n ih =>
      intro m A sw Hw pc u s σ H ti gs pv iv hm v I R
      obtain ⟨need, step, fin⟩ := turn ti u Hw σ H v
      refine lap_forLoop ?_
      rw [gl.over]
      refine R.next R.inv.ok.frames I.wk.room.hd (dep I.wk.room) need (fun n' v x ti' H4 s4 gs' pv' iv' R4 ha rv hy hlt => ?_) (fun H4 s4 I4 hf hsz => ?_)
      · have hgs4 : W.g < s4.gens.size := Nat.lt_trans hgW (Array.getElem?_eq_some_iff.mp R4.at_).1
        refine R4.letGo ?_
        refine R4.while ha (fun e s h => h) (fun s' I' => (hg A _ Hw I.wk.room).run _ s' σ H4 x v _ I' rv (step x H4 ti' hy)) fun _ z s6 ⟨σ6, H6, I6, q6⟩ r6 => ?_
        have R6 := r6 σ6 H6 I6
        have hgs6 : W.g < s6.gens.size := Nat.lt_trans hgW (Array.getElem?_eq_some_iff.mp R6.at_).1
        intro J'
        obtain ⟨_, z2, z3, z4, z5⟩ := R6.slp.pos
        have o' : GOwn W false (ip ++ pv') ((Wi.g, gs') :: iv') := ⟨fun h => (nomatch h), fun q hq => (List.mem_append.mp hq).elim (o.ip q) fun hq => Nat.le_trans hnW (z2 q hq), fun q hq => by
          rcases List.mem_cons.mp hq with rfl | hq
          · exact ⟨hgW, ha⟩
          · exact ⟨Nat.lt_trans hgW (z4 q hq).1, (z4 q hq).2⟩⟩
        have I6' : GIn W A sw Hw pc (ip ++ pv') ((Wi.g, gs') :: iv') σ6 H6 s6 := ⟨I.wk, by rw [← List.append_assoc]; exact R6.pinned, fun q hq => by
          rcases List.mem_cons.mp hq with rfl | hq
          · exact R6.at_
          · exact R6.held.iv q hq, fun p hp => ⟨(I.apart p hp).1, fun q hq => (List.mem_append.mp hq).elim ((I.apart p hp).2 q) fun hq => R6.apart q hq p (List.mem_append_right _ (List.mem_append_left _ hp))⟩, hgs6⟩
        refine hb.run (ip ++ pv') ((Wi.g, gs') :: iv') _ _ _ J' id id { D with nx := V ti', ct := V ti', bk := D.nx } gl o' (fun m3 A3 sw3 Hw3 pc3 u3 s3 f hm3 hs3 => ?_) m A sw Hw pc u s6 σ6 H6 hm I6' q6
        have back : ∀ {σ3 : L2.St} {H3 : Hp}, GIn W A3 sw3 Hw3 pc3 (ip ++ pv') ((Wi.g, gs') :: iv') σ3 H3 s3 → V ti' u3 Hw3 σ3 H3 → LapW W S m3 A3 sw3 Hw3 pc3 u3 (.forLoop tg (.ref Wi.a) body [] W.env) ((model W.P W.w).den (.forLoop tg (.ref Wi.a) body [] W.env)) (.ret kk none (gd false) (lv []) cc p [] :: fs) s3 := fun {σ3 H3} I3 v3 => by
          refine ih n' hlt m3 A3 sw3 Hw3 pc3 u3 s3 σ3 H3 ti' gs' pv' iv' hm3 v3 I3.drop ⟨I3.drop.inv, R6.link.wakes I.wk.sz I3.wk.sz I3.wk.room hk, R6.cl, R6.slp, I3.iv _ List.mem_cons_self, ⟨fun p hp => ?_, fun q hq => I3.iv q (List.mem_cons_of_mem _ hq)⟩, fun p hp q hq => ?_⟩
          · obtain ⟨h1, h2, _⟩ := I3.inv.pin p (List.mem_append_right _ (List.mem_append_right _ (List.mem_append_right _ hp)))
            exact ⟨h1, h2⟩
          · rcases List.mem_append.mp hq with hq | hq
            · exact R6.apart p hp q (List.mem_append_left _ hq)
            rcases List.mem_append.mp hq with hq | hq
            · exact (I3.apart q hq).2 p (List.mem_append_right _ hp)
            · exact R6.apart p hp q (List.mem_append_right _ (List.mem_append_right _ hq))
        cases f with
        | next => obtain ⟨σ3, H3, I3, n3⟩ := hs3; exact lap_again rfl (back I3 n3)
        | cont => obtain ⟨σ3, H3, I3, n3⟩ := hs3; exact lap_again rfl (back I3 n3)
        | brk => obtain ⟨σ3, H3, I3, n3⟩ := hs3; exact lap_leaf (.ok .next) (by rw [hkk]; exact k m3 A3 sw3 Hw3 pc3 u3 s3 .next hm3 ⟨σ3, H3, I3.drop, n3⟩)
        | ret v => obtain ⟨x3, σ3, H3, I3, r3, n3⟩ := hs3; exact lap_leaf (.ok (.ret v)) (by rw [hkk]; exact k m3 A3 sw3 Hw3 pc3 u3 s3 (.ret v) hm3 ⟨x3, σ3, H3, I3.drop, r3, n3⟩)
      · exact lap_leaf (.ok .next) (by rw [hkk]; exact k m A sw Hw pc u s4 .next hm ⟨σ, H4, ⟨I.wk, I4, fun q hq => (nomatch hq), I.apart, Nat.lt_trans hgW hsz⟩, fin H4 hf⟩)
  exact loop n m A sw Hw pc u s1 σ H1 ti _ pv [] hm v0 I1 R1
end
end GenZ

set_option Elab.async false
set_option linter.all false
set_option maxRecDepth 100000
set_option maxHeartbeats 1000000
/-! ### a generator def: what its call gives -/
namespace GenZ
open PySem PySem.Spec PyProof.Rows L2 GenW
abbrev SpG2 := List V → Hp → (∀ S : GSp, S.τ → Hp → Prop) → Prop
/-- a generator was made -/
def Made2 (P : Program) (w : World) (base : Heap) (k : Nat) (cl : Bool) (outer : List Env) (H : Hp) (s : Shared) (cont : ∀ S : GSp, S.τ → Hp → Prop) (u : Value) (s' : Shared) : Prop :=
  ∃ (W : GW) (S : GSp) (t : S.τ) (m : Nat) (c : Code) (pv : Pins), u = .ref W.a ∧ (W.P = P ∧ W.w = w ∧ W.base = base ∧ W.outer = outer ∧ W.n = s.heap.objs.size ∧ W.k ≤ k ∧ W.Good) ∧ (cl = true → W.env.cells = []) ∧ Slp W S m t (.fresh c) pv [] ∧
    s'.gens[W.g]? = some (.fresh c) ∧ Held s' H pv [] ∧ s.gens.size ≤ W.g ∧ s'.os = s.os ∧ AllBare s'.gens ∧ (∀ b o, s.heap.get? b = some o → s'.heap.get? b = some o) ∧ cont S t H
structure GFn2 (P : Program) (w : World) (K : PySem.W.Frag) (mg : Str → Option Value) (base : Heap) (k : Nat) (cl : Bool) (f : Addr) (fd : FuncData) (ps : List Str) (sp : SpG2) : Prop where
  len : ∀ vs H cont, sp vs H cont → vs.length = ps.length
  run : ∀ (A : Around) (outer : List Env) (s : Shared) (H : Hp) (args : Args) (us : List Value) (vs : List V) (cont : ∀ S : GSp, S.τ → Hp → Prop), Room (k + 1) A → Env0 P w K mg base A outer s H → BindsTo s fd args (ps.zip us) → Vals vs us → sp vs H cont →
    codeAny (model P w) A (.call (.ref f) args) (fun r s' => match r with | .ok (.ret u) => Made2 P w base k cl outer H s cont u s' | _ => False) s
def endD (S : GSp) : E2 S := { nx := fun t Hw _ H => S.fin t Hw H, rt := fun t Hw v H => v = .non ∧ S.fin t Hw H }
/-- the world of a call of this def -/
def GWof (P : Program) (w : World) (K : PySem.W.Frag) (mg : Str → Option Value) (base : Heap) (N : List Str) (qual : Str) (scope : Scope) (f : Addr) (cdv : Value) (outer : List Env) (k : Nat) (n a : Addr) (g : Nat) (go : Obj) : GW where
  P := P
  w := w
  K := K
  mg := mg
  base := base
  N := N
  env := envOfC qual scope n f cdv
  outer := outer
  k := k
  n := n
  a := a
  g := g
  go := go
theorem gfn2_of {P : Program} {w : World} {K : PySem.W.Frag} {mg : Str → Option Value} {base : Heap} {k : Nat} {cl : Bool} {f : Addr} {name qual : Str} {params : Arguments} {body : List Stmt} {scope : Scope} {dV kV doc pm cdv ct oc : Value} {an od : Option Addr}
    {osl : Array (Option Value)} {N ps : List Str} {sp : SpG2} (lk : K.lookup f = some ⟨oc, od, .func (PySem.W.fnOf name qual params body scope dV kV doc pm an cdv ct), osl⟩) (hcd : PySem.W.codeIn K cdv qual = true) (SC : GScope N ps scope)
    (hcl : cl = true → ∀ n, cellsFrom n scope.names [] = [])
    (len : ∀ vs H cont, sp vs H cont → vs.length = ps.length)
    (hbody : ∀ (outer : List Env) (n a : Addr) (g : Nat) (go : Obj) (vs : List V) (H : Hp) (cont : ∀ S : GSp, S.τ → Hp → Prop), (GWof P w K mg base N qual scope f cdv outer k n a g go).Good → sp vs H cont →
      ∃ (S : GSp) (t : S.τ) (tr : T2 S), cont S t H ∧ GSs2 (GWof P w K mg base N qual scope f cdv outer k n a g go) S true body tr ∧ ∀ Hw, S.need t Hw → tr (endD S) t Hw (start N vs) Hw) :
    GFn2 P w K mg base k cl f (PySem.W.fnOf name qual params body scope dV kV doc pm an cdv ct) ps sp := by
  refine ⟨len, fun A outer s H args us vs cont hr e0 hb r hsp => ?_⟩
  have hl := len _ _ _ hsp
  have KX : K.In s.heap := e0.mod.kin.keeps fun b o e => (e0.bs b o e).1
  have lim : s.heap.NoLimit := e0.mod.nolimit.keeps fun b o e => (e0.bs b o e).1
  have hkind : ∀ y ∈ ps.zip us, scope.names.lookup y.1 = some .local ∨ (scope.names.lookup y.1 = some .cell ∧ ((cellsFrom (s.heap.objs.size + 1) scope.names []).lookup y.1).isSome = true) := fun ⟨n, v⟩ hy => by
    rcases SC.par n (List.of_mem_zip hy).1 with q | q
    · exact .inl q
    · exact .inr ⟨q, PySem.W.cellsFrom_some _ _ _ (.inl q)⟩
  refine codeAny_call_generator hr.depth (KX _ _ lk) rfl SC.co SC.gen rfl (PySem.W.codeRec_of KX hcd) (hb _ _ _ _ ?_)
  refine wpAny_newFunctionEnv_cells SC.kind hkind fun env he s1 x => ?_
  subst he
  have lim1 : s1.heap.NoLimit := lim.keeps x.toInCall.keep
  refine ⟨lim1, ?_⟩
  obtain ⟨h1, tk, es1, hk1⟩ := x.done
  have os1 : s1.os = s.os := by rw [es1]
  have gen1 : s1.gens = s.gens := by rw [es1]
  have lt1 : s.heap.objs.size < s1.heap.objs.size := x.toInCall.ns.lt
  have sz1 : s.heap.objs.size ≤ s1.heap.objs.size := Nat.le_of_lt lt1
  have kp1 : ∀ b o, s.heap.get? b = some o → s1.heap.get? b = some o := x.toInCall.keep
  have I1 : Inv (gcxOf P w K mg base N qual scope f cdv A outer s H (fun _ _ _ => False) []) [] (start N vs) H s1 := inv_startG SC hr.hd e0 hl r x
  have main : ∀ (go : Obj) (nm qn : Value) (tk2 : Nat), go.cls = .type "generator" → go.data = .fields #[.int s1.gens.size 0, nm, qn] → go.slots = #[] → (∀ h : Heap, (h.push go).get? h.objs.size = some go) →
      Made2 P w base k cl outer H s cont (.ref s1.heap.objs.size) { s1 with gens := s1.gens.push (.fresh (.func body (envOfC qual scope s.heap.objs.size f cdv))), toks := tk2, heap := s1.heap.push go } := by
    intro go nm qn tk2 hgc hgd0 hgs hgp
    have hpushed : (s1.heap.push go).get? s1.heap.objs.size = some go := hgp _
    have hkp : ∀ b o, s1.heap.get? b = some o → (s1.heap.push go).get? b = some o := fun b o e => Heap.get?_push_of_some _ e
    have hbare : AllBare (s1.gens.push (.fresh (.func body (envOfC qual scope s.heap.objs.size f cdv)))) := AllBare.push (by rw [gen1]; exact e0.bare) rfl
    let W : GW := GWof P w K mg base N qual scope f cdv outer k s.heap.objs.size s1.heap.objs.size s1.gens.size go
    have G : W.Good := ⟨e0.mod, SC.kind, SC.co, SC.nd, rfl, rfl, Nat.le_refl _, rfl, I1.ok.inj, I1.ok.has, fun x c e => I1.ok.cab x c rfl e, e0.bsz, sz1, Nat.ne_of_gt lt1, ⟨nm, qn, hgc, hgd0, hgs⟩⟩
    have hs2 : W.n ≤ (s1.heap.push go).objs.size := by rw [Heap.size_push]; exact Nat.le_succ_of_le sz1
    have fun1 : ∀ b ∈ frs outer, b < s.heap.objs.size := fun b hb => by
      obtain ⟨_, o, ho, _⟩ := e0.funs.mem hb
      exact Heap.lt_size ho
    have wk : W.Wk A { s1 with gens := s1.gens.push (.fresh (.func body (envOfC qual scope s.heap.objs.size f cdv))), toks := tk2, heap := s1.heap.push go } H [] := {
      room := hr.deeper _
      fr := e0.frames
      bare := hbare
      hok := I1.hok.kept hkp
      bs := fun b o e => ⟨hkp b o (kp1 b o (e0.bs b o e).1), (e0.bs b o e).2⟩
      funs := funs_cut (e0.funs.of_keeps fun b o e _ => ⟨o, hkp b o (kp1 b o e), rfl⟩) fun1
      frf := e0.frf
      sz := hs2
      pc := fun p hp => (nomatch hp) }
    have I2 : Inv (W.cx A (cutS { s1 with gens := s1.gens.push (.fresh (.func body (envOfC qual scope s.heap.objs.size f cdv))), toks := tk2, heap := s1.heap.push go } W.n) H) ([] ++ []) (start N vs) H { s1 with gens := s1.gens.push (.fresh (.func body (envOfC qual scope s.heap.objs.size f cdv))), toks := tk2, heap := s1.heap.push go } := by
      obtain ⟨mm, hn, hl⟩ := I1.loc
      obtain ⟨oL, es, ep, hoL, hrL⟩ := id hn
      refine ⟨G.ok wk, rfl, hbare, Un.kept fun b u q => (of_cut q).2, ⟨mm, ⟨oL, es, ep, hkp _ _ hoL, hrL⟩, fun i x v e1 e2 e3 => ?_⟩, fun x c e => ?_, I1.free, I1.freeC, fun p hp => ?_, wk.hok, I1.len⟩
      · obtain ⟨u, rr, l⟩ := hl i x v e1 e2 e3
        refine ⟨u, rr, ?_⟩
        rcases l with l | ⟨kk, c, e, o, hoc, hdc⟩
        · exact .inl l
        · exact .inr ⟨kk, c, e, o, hkp _ _ hoc, hdc⟩
      · obtain ⟨v, o, hoc, hdc⟩ := I1.cell x c e
        exact ⟨v, o, hkp _ _ hoc, hdc⟩
      · obtain rfl : p = (W.a, W.go) := by
          rcases List.mem_append.mp hp with hp | hp
          · exact List.mem_singleton.mp hp
          · cases hp
        exact ⟨hpushed, I1.hok.fresh (Nat.le_refl _), G.aL, fun z => absurd (fun1 _ z) (Nat.not_lt.mpr sz1), fun v q => by have q : go.data = .cell v := q; rw [hgd0] at q; cases q⟩
    obtain ⟨S, t, tr, hc, hG, ht⟩ := hbody outer _ _ _ go vs H cont G hsp
    obtain ⟨pv, v1, v2, v3, v4, v5, v7, v6⟩ := GW.sleeps G I2 (fun p hp => (nomatch hp)) (fun p hp => (nomatch hp)) (fun p hp => (nomatch hp))
    refine ⟨W, S, t, S.left t + 1, .func body W.env, pv, rfl, ⟨rfl, rfl, rfl, rfl, rfl, Nat.le_refl _, G⟩, fun h => hcl h _, ⟨rfl, v2, v4, fun q hq => (nomatch hq), v5, fun A' s' H' pc' wk' hh hd hgz hnd => ?_⟩, Array.getElem?_push_size .., ⟨v1, fun q hq => (nomatch hq)⟩, Nat.le_of_eq (congrArg Array.size gen1.symm), os1, hbare, fun b o e => hkp b o (kp1 b o e), hc⟩
    refine lap_func fun J => ?_
    refine hG.run [] [] (.func body W.env) [] _ J id id (endD S) ⟨fun A => over_func, rfl, rfl, rfl⟩ ⟨fun _ => rfl, fun p hp => (nomatch hp), fun q hq => (nomatch hq)⟩ (fun m' A' sw' Hw' pc' u' s3 fl hm' hs3 => ?_) (S.left t) A' s' H' pc' t s' (start N vs) H' (Nat.le_refl _)
      ⟨wk', v6 A' s' H' pc' wk' hh.pv hd, fun q hq => (nomatch hq), fun p hp => ⟨fun z => hd _ v4 p hp z.symm, fun q hq => (nomatch hq)⟩, hgz⟩ (ht H' hnd)
    cases fl with
    | next =>
      obtain ⟨σ3, H3, I3, n3⟩ := hs3
      exact lap_end (.ok (.ret .none)) ⟨.inl rfl, H3, GW.rel_of I3.inv, n3⟩
    | brk => obtain ⟨_, _, _, q⟩ := hs3; exact q.elim
    | cont => obtain ⟨_, _, _, q⟩ := hs3; exact q.elim
    | ret u =>
      obtain ⟨v, σ3, H3, I3, rv, ev, n3⟩ := hs3
      subst ev
      have eu : u = Value.none := rv
      subst eu
      exact lap_end (.ok (.ret .none)) ⟨.inl rfl, H3, GW.rel_of I3.inv, n3⟩
  exact main _ _ _ _ rfl rfl rfl fun h => Heap.get?_push_size _ rfl
end GenZ

set_option Elab.async false
set_option linter.all false
set_option maxRecDepth 100000
set_option maxHeartbeats 1000000
/-! ### calls that make generators -/
namespace GenZ
open PySem PySem.Spec PyProof.Rows L2 GenW
section
variable {X : Cx} {k kx : Nat} {cl : Bool} {f C : Addr} {fd : FuncData} {ps : List Str} {sp : SpG2} {dvs : List V} {ds : List Value} {x m : Str} {p pos pos' apos : Pos} {o : Expr} {ta : TE}
theorem run_gfn2 {pins : Pins} {σ : L2.St} {H : Hp} {s : Shared} {us : List Value} {vs : List V} {cont : ∀ S : GSp, S.τ → Hp → Prop} {E1 : Value → Shared → Prop} (F : GFn2 X.prog X.w X.K X.mg X.base k cl f fd ps sp) (hr : Room kx X.A) (hk : k + 2 ≤ kx) (hb : Binds X.K fd ps ds) (hd : Vals dvs ds)
    (I : Inv X pins σ H s) (r : Vals vs us) (h : sp (vs ++ dvs) H cont) :
    wpAny (model X.prog X.w) X.A (call (.ref f) us) (fun u s1 => ∃ W S t m c pv H1, u = .ref W.a ∧ Ready X W S cl pins σ m t H1 s1 (.fresh c) pv [] ∧ W.k + 2 ≤ kx ∧ s.gens.size ≤ W.g ∧ cont S t H1) E1 s := by
  have r2 : Vals (vs ++ dvs) (us ++ ds) := r.append hd
  have hl2 : (us ++ ds).length = ps.length := by rw [← r2.length]; exact F.len _ _ _ h
  refine wpAny_call (codeAny_mono (F.run X.A X.stack s H ⟨us, []⟩ (us ++ ds) (vs ++ dvs) cont (hr.mono (by omega)) I.env0 (hb s us I.kIn hl2) r2 h) fun r s' hq => ?_)
  cases r with
  | error e => exact False.elim hq
  | ok fl =>
    cases fl with
    | next => exact False.elim hq
    | brk => exact False.elim hq
    | cont => exact False.elim hq
    | ret u =>
      obtain ⟨W, S, t, m, c, pv, hu, ⟨e1, e2, e3, e4, e5, e6, G⟩, hc, hs, hg, hh, hgg, os, hb', kp, hct⟩ := hq
      have I' : Inv X pins σ H s' := I.call' (ch := []) os (Un.kept kp) (I.hok.kept kp) hb' fun b hb => (nomatch hb)
      refine ⟨W, S, t, m, c, pv, H, hu, ⟨I', ⟨e1, e2, e3, e4, by rw [e5]; exact I.sz, by rw [e5]; exact I.lt, fun y c e => ?_, ?_, G⟩, hc, hs, hg, hh, fun q hq p hp => ?_⟩, by omega, hgg, hct⟩
      · obtain ⟨v, ob, ho, _⟩ := I.cell y c e
        rw [e5]; exact Heap.lt_size ho
      · have h1 : Room (W.k + 1 + 1) X.A := hr.mono (by omega)
        exact h1.in1.deeper _
      · intro z
        have h1 := hs.pos.2.1 q hq
        rw [e5, z] at h1
        exact absurd (Heap.lt_size (I.pin p hp).1) (Nat.not_lt.mpr h1)
/-- one promise for several -/
theorem GFn2.any {P : Program} {w : World} {K : PySem.W.Frag} {mg : Str → Option Value} {base : Heap} {cl : Bool} {k M : Nat} {f : Addr} {fd : FuncData} {ps : List Str} {sp : Nat → SpG2} {kf : Nat → Nat} (h : ∀ m, GFn2 P w K mg base (kf m) cl f fd ps (sp m)) (hk : ∀ m, m ≤ M → kf m ≤ k) :
    GFn2 P w K mg base k cl f fd ps (fun vs H cont => ∃ m, m ≤ M ∧ sp m vs H cont) := by
  refine ⟨fun vs H cont ⟨m, _, e⟩ => (h m).len vs H cont e, fun A outer s H args us vs cont hr he hb hv ⟨m, hm, hs⟩ => ?_⟩
  have := hk m hm
  refine codeAny_mono ((h m).run A outer s H args us vs cont (hr.mono (by omega)) he hb hv hs) fun r s' hq => ?_
  cases r with
  | error e => exact hq
  | ok fl =>
    cases fl with
    | ret u =>
      obtain ⟨W, S, t, j, c, pv, hu, ⟨e1, e2, e3, e4, e5, e6, G⟩, hc⟩ := hq
      exact ⟨W, S, t, j, c, pv, hu, ⟨e1, e2, e3, e4, e5, Nat.le_trans e6 this, G⟩, hc⟩
    | next => exact hq
    | brk => exact hq
    | cont => exact hq
def tCallG2 (sp : SpG2) (dvs : List V) (t : TA) : TGen2 := fun σ H cont => t σ H fun vs H1 => sp (vs ++ dvs) H1 cont
/-- nothing falls out of the table of generators -/
theorem pgn_gsz {e : Expr} {tg : TGen2} (h : ∀ (pins : Pins) (s : Shared) (σ : L2.St) (H : Hp) (cont : ∀ S : GSp, S.τ → Hp → Prop) (n : Nat), Inv X pins σ H s → n ≤ s.gens.size → tg σ H cont →
    wpAny (model X.prog X.w) X.A (eval e X.env) (fun u s1 => ∃ W S t m c pv H1, u = .ref W.a ∧ Ready X W S cl pins σ m t H1 s1 (.fresh c) pv [] ∧ W.k + 2 ≤ kx ∧ n ≤ W.g ∧ cont S t H1) X.xe s) : PGn X kx cl e tg :=
  ⟨fun pins s σ H cont I ht => h pins s σ H cont s.gens.size I (Nat.le_refl _) ht⟩
/-- f(e, ..) of a generator def -/
theorem pgn_call {e : Expr} {es : List Expr} {t : TA} (F : GFn2 X.prog X.w X.K X.mg X.base k cl f fd ps sp) (hr : Room kx X.A) (hkx : k + 2 ≤ kx) (hg : Gl X x) (hm : X.mg x = some (.ref f)) (hk : PySem.W.keepIn X.K (.ref f) = true) (hb : Binds X.K fd ps ds) (hd : Vals dvs ds)
    (ha : PA X (e :: es) t) (hdb : (x == ("__debug__" : Str)) = false := by decide) (he : starEach (e :: es) X.env = (false, eval e X.env) :: starEach es X.env := by rfl) (hpl : (backTo pos' (starEach es X.env)).any (·.1) = false := by rfl) :
    PGn X kx cl (.Call (.Name x p) (e :: es) [] pos') (tCallG2 sp dvs t) := by
  refine pgn_gsz fun pins s σ H cont n I hn h => ?_
  refine wpAny_Call_Name_kw (ld_glob I hg hm ?_ hdb)
  refine PySem.W.callWith_K (h₀ := X.base) I.ok.mod.kin hk ?_ he hpl
  refine wpAny_gsz hn (wpAny_mono (ha.run pos' pins s σ H _ I h) (fun us s1 hq hn1 => ?_) fun _ _ x _ => x)
  obtain ⟨vs, H1, I1, r, q⟩ := hq
  refine ⟨I1.kIn, ?_⟩
  exact wpAny_mono (run_gfn2 F hr hkx hb hd I1 r q) (fun u s2 ⟨W, S, t, m, c, pv, H2, a1, a2, a3, a4, a5⟩ => ⟨W, S, t, m, c, pv, H2, a1, a2, a3, Nat.le_trans hn1 a4, a5⟩) fun _ _ x => x
def tMethG2 (C : Addr) (m : Str) (sp : SpG2) (dvs : List V) (ta : TE) (t : TA) : TGen2 := fun σ H cont => ta σ H fun x H1 => ∃ a dx fs, x = .ref a ∧ H1 a = some (.ins C dx fs) ∧ fs.lookup m = none ∧
  t σ H1 fun vs H2 => sp (x :: (vs ++ dvs)) H2 cont
end
end GenZ

set_option Elab.async false
set_option linter.all false
set_option maxRecDepth 100000
set_option maxHeartbeats 1000000
namespace GenZ
open PySem PySem.Spec PyProof.Rows L2 GenW
/-- THE RULE for a generator def: its body as a term of rules, and the reading of that term -/
theorem gok {P : Program} {w : World} {K : PySem.W.Frag} {mg : Str → Option Value} {base : Heap} {x qual : Str} {st : Stmt} {f : Addr} {fd : FuncData} {N ps : List Str} {k : Nat} {cl : Bool} {sp : SpG2} (F : Fun K x qual st f fd) (SC : GScope N ps (defScope st))
    (hcl : cl = true → ∀ n, cellsFrom n (defScope st).names [] = []) (len : ∀ vs H cont, sp vs H cont → vs.length = ps.length)
    (hbody : ∀ (cdv : Value) (outer : List Env) (n a : Addr) (g : Nat) (go : Obj) (vs : List V) (H : Hp) (cont : ∀ S : GSp, S.τ → Hp → Prop), (GWof P w K mg base N qual (defScope st) f cdv outer k n a g go).Good → sp vs H cont →
      ∃ (S : GSp) (t : S.τ) (tr : T2 S), cont S t H ∧ GSs2 (GWof P w K mg base N qual (defScope st) f cdv outer k n a g go) S true (defBody st) tr ∧ ∀ Hw, S.need t Hw → tr (endD S) t Hw (start N vs) Hw) : GFn2 P w K mg base k cl f fd ps sp := by
  obtain ⟨oc, od, kV, doc, pm, an, cdv, ct, osl, rfl, lk, hcd⟩ := F.ex
  exact gfn2_of lk hcd SC hcl len (hbody cdv)
structure DfG (P : Program) (w : World) (K : PySem.W.Frag) (mg : Str → Option Value) (base : Heap) (k : Nat) (cl : Bool) (x : Str) (ps : List Str) (sp : SpG2) where
  f : Addr
  fd : FuncData
  ok : GFn2 P w K mg base k cl f fd ps sp
  g : mg x = some (.ref f)
  kp : PySem.W.keepIn K (.ref f) = true
  b : Binds K fd ps []
end GenZ

set_option pp.maxSteps 300
set_option Elab.async false
set_option linter.all false
set_option maxRecDepth 100000
set_option maxHeartbeats 1000000
namespace My
open PySem L2 MyR
def dI (ds : List Nat) : List Int := ds.map fun (d : Nat) => (d : Int)
def TupI (H : Hp) (t : Addr) (xs : List Int) : Prop := H t = some (.tup (xs.map V.int))
theorem TupI.same {H H' : Hp} {t : Addr} {xs : List Int} (h : TupI H t xs) (s : Same H H') : TupI H' t xs := s _ _ h
/-- a list of tuples of whole numbers -/
def LTI (H : Hp) (a : Addr) (xss : List (List Int)) : Prop := ∃ as : List Addr, H a = some (.lst (as.map V.ref)) ∧ as.length = xss.length ∧ ∀ (i : Nat) xs, xss[i]? = some xs → ∃ p, as[i]? = some p ∧ TupI H p xs
theorem LTI.same {H H' : Hp} {a : Addr} {xss : List (List Int)} (h : LTI H a xss) (s : Same H H') : LTI H' a xss := let ⟨as, e1, e2, e3⟩ := h; ⟨as, s _ _ e1, e2, fun i xs e => let ⟨p, q1, q2⟩ := e3 i xs e; ⟨p, q1, q2.same s⟩⟩
theorem lti_snoc {H : Hp} {a p : Addr} {as : List Addr} {xss : List (List Int)} {xs : List Int} {vs : List V} (h1 : H a = some (.lst vs)) (h2 : as.length = xss.length) (h3 : ∀ (i : Nat) ys, xss[i]? = some ys → ∃ q, as[i]? = some q ∧ TupI H q ys) (hp : TupI H p xs) :
    LTI (upd H a (.lst (as.map V.ref ++ [.ref p]))) a (xss ++ [xs]) := by
  have nt : ∀ q ys, TupI H q ys → q ≠ a := fun q ys e z => by
    rw [z] at e
    have e : H a = _ := e
    rw [h1] at e
    cases e
  have up : ∀ q ys, TupI H q ys → TupI (upd H a (.lst (as.map V.ref ++ [.ref p]))) q ys := fun q ys e => by show upd H a _ q = _; rw [upd_ne (nt q ys e)]; exact e
  refine ⟨as ++ [p], by rw [upd_same, List.map_append]; rfl, by rw [List.length_append, List.length_append, h2]; rfl, fun i ys e => ?_⟩
  by_cases hi : i < xss.length
  · rw [List.getElem?_append_left hi] at e
    obtain ⟨q, q1, q2⟩ := h3 i ys e
    exact ⟨q, by rw [List.getElem?_append_left (by omega)]; exact q1, up q ys q2⟩
  · rw [List.getElem?_append_right (by omega)] at e
    have hi0 : i = xss.length := by
      have := (List.getElem?_eq_some_iff.mp e).1
      simp at this
      omega
    subst hi0
    rw [Nat.sub_self] at e
    cases e
    exact ⟨p, by rw [List.getElem?_append_right (by omega), h2, Nat.sub_self]; rfl, up p xs hp⟩
def dV (b m : Nat) : List (List Int) := (vecs m b).map dI
theorem LTI.lenV {H : Hp} {a : Addr} {xss : List (List Int)} (h : LTI H a xss) : ∃ vs : List V, H a = some (.lst vs) ∧ vs.length = xss.length ∧ ∀ (i : Nat) xs, xss[i]? = some xs → ∃ p, vs[i]? = some (.ref p) ∧ TupI H p xs := by
  obtain ⟨as, e1, e2, e3⟩ := h
  refine ⟨_, e1, by rw [List.length_map]; exact e2, fun i xs e => ?_⟩
  obtain ⟨p, q1, q2⟩ := e3 i xs e
  exact ⟨p, by rw [List.getElem?_map, q1]; rfl, q2⟩
theorem lti_app {H : Hp} {D p : Addr} {xss : List (List Int)} {xs : List Int} (h : LTI H D xss) (hp : TupI H p xs) (hl : xss.length < 16000000) :
    ∃ acc, H D = some (.lst acc) ∧ acc.length < sizeLine ∧ LTI (upd H D (.lst (acc ++ [.ref p]))) D (xss ++ [xs]) := by
  obtain ⟨as, e1, e2, e3⟩ := h
  exact ⟨_, e1, by rw [List.length_map, e2, sizeLine_eq]; omega, lti_snoc e1 e2 e3 hp⟩
theorem lti_ext {H : Hp} {D G : Addr} {xss yss : List (List Int)} {us ws : List V} (h : LTI H D xss) (g : LTI H G yss) (hu : H D = some (.lst us)) (hw : H G = some (.lst ws)) : LTI (upd H D (.lst (us ++ ws))) D (xss ++ yss) := by
  obtain ⟨as, e1, e2, e3⟩ := h
  obtain ⟨bs, f1, f2, f3⟩ := g
  rw [hu] at e1
  rw [hw] at f1
  have e1 := HO.lst.inj (Option.some.inj e1)
  have f1 := HO.lst.inj (Option.some.inj f1)
  subst e1 f1
  have nt : ∀ q ys, TupI H q ys → q ≠ D := fun q ys e z => by
    rw [z] at e
    have e : H D = _ := e
    rw [hu] at e
    cases e
  refine ⟨as ++ bs, by rw [upd_same, List.map_append], by rw [List.length_append, List.length_append, e2, f2], fun i xs e => ?_⟩
  by_cases hi : i < xss.length
  · rw [List.getElem?_append_left hi] at e
    obtain ⟨p, q1, q2⟩ := e3 i xs e
    exact ⟨p, by rw [List.getElem?_append_left (by omega)]; exact q1, by show upd H D _ p = _; rw [upd_ne (nt p xs q2)]; exact q2⟩
  · rw [List.getElem?_append_right (by omega)] at e
    obtain ⟨p, q1, q2⟩ := f3 _ xs e
    exact ⟨p, by rw [List.getElem?_append_right (by omega), e2]; exact q1, by show upd H D _ p = _; rw [upd_ne (nt p xs q2)]; exact q2⟩
/-- the vectors that begin with fewer than n -/
def vecsTo (m b n : Nat) : List (List Nat) := (List.range n).flatMap fun j => (vecs m (b - tw j)).map (j :: ·)
theorem vecsTo_succ (m b n : Nat) : vecsTo m b (n + 1) = vecsTo m b n ++ (vecs m (b - tw n)).map (n :: ·) := by
  unfold vecsTo
  rw [List.range_succ, List.flatMap_append]
  simp
theorem vecsTo_le (m b : Nat) : ∀ n k, n ≤ k → (vecsTo m b n).length ≤ (vecsTo m b k).length := by
  intro n k h
  induction k with
  | zero =>
    have : n = 0 := by omega
    rw [this]
    exact Nat.le_refl _
  | succ k ih =>
    by_cases e : n = k + 1
    · rw [e]
      exact Nat.le_refl _
    · rw [vecsTo_succ, List.length_append]
      have := ih (by omega)
      omega
theorem vecs_mem : ∀ (m b : Nat) v, v ∈ vecs m b → v.length = m
  | 0, b, v, h => by
    have h : v ∈ [([] : List Nat)] := h
    rw [List.mem_singleton.mp h]
    rfl
  | m + 1, b, v, h => by
    have h : v ∈ (List.range (W b)).flatMap fun j => (vecs m (b - tw j)).map (j :: ·) := h
    obtain ⟨j, _, h⟩ := List.mem_flatMap.mp h
    obtain ⟨u, hu, rfl⟩ := List.mem_map.mp h
    rw [List.length_cons, vecs_mem m _ u hu]
end My

set_option pp.maxSteps 300
set_option Elab.async false
set_option linter.all false
set_option maxRecDepth 100000
set_option maxHeartbeats 1000000
namespace My
open PySem L2 MyR RT
theorem walk_revT {K : PySem.W.Frag} {a : Addr} {xs : List V} : Walk (ItvT K a xs.length) xs.length (fun H => SqT K H a xs) (fun i H x H' => H' = H ∧ xs[xs.length - 1 - i]? = some x) :=
  ⟨fun i _ hi q => ⟨hi, xs, xs[xs.length - 1 - i]'(by omega), q, by simp [show xs.length - 1 - i < xs.length by omega]⟩, fun _ _ => Nat.le_refl _, fun _ _ _ _ _ q y => ⟨y.1, y.2 xs q⟩⟩
/-! ### residues -/
def leftR : List Nat → Int → Int
  | [], n => n
  | d :: r, n => leftR r (n / 2 ^ d)
def resR : List Nat → Int → List Int
  | [], _ => []
  | d :: r, n => n % 2 ^ d :: resR r (n / 2 ^ d)
theorem resR_snoc : ∀ (xs : List Nat) (d : Nat) (n : Int), resR (xs ++ [d]) n = resR xs n ++ [leftR xs n % 2 ^ d] ∧ leftR (xs ++ [d]) n = leftR xs n / 2 ^ d
  | [], d, n => ⟨rfl, rfl⟩
  | x :: xs, d, n => by
    obtain ⟨h1, h2⟩ := resR_snoc xs d (n / 2 ^ x)
    exact ⟨by show _ :: resR (xs ++ [d]) (n / 2 ^ x) = _; rw [h1]; rfl, h2⟩
theorem resR_len : ∀ (xs : List Nat) (n : Int), (resR xs n).length = xs.length
  | [], _ => rfl
  | x :: xs, n => by
    show (resR xs (n / 2 ^ x)).length + 1 = xs.length + 1
    rw [resR_len xs]
def resI (ds : List Nat) (n : Int) : List Int := (resR ds.reverse n).reverse
theorem nat_sum : ∀ ds : List Nat, (ds.map fun (d : Nat) => (d : Int)).sum = (ds.sum : Int)
  | [] => rfl
  | d :: ds => by
    rw [List.map_cons, List.sum_cons, List.sum_cons, nat_sum ds]
    rfl
theorem same_refl {H : Hp} : Same H H := fun _ _ e => e
theorem sqK_any {K : PySem.W.Frag} {c : Bool} {H : Hp} {a : Addr} {xs : List V} (h : SqK c K H a xs) : SqL K H a xs ∨ SqT K H a xs := by
  cases c with
  | true => exact .inr h
  | false => exact .inl h
/-- depths: a list or a tuple -/
def DsA (H : Hp) (a : Addr) (ds : List Nat) : Prop := LI H a (dI ds) ∨ TupI H a (dI ds)
theorem DsA.same {H H' : Hp} {a : Addr} {ds : List Nat} (h : DsA H a ds) (s : Same H H') : DsA H' a ds := h.imp (fun h => h.same s) fun h => h.same s
theorem DsA.sq {K : PySem.W.Frag} {H : Hp} {a : Addr} {ds : List Nat} (h : DsA H a ds) : ∃ c, SqK c K H a ((dI ds).map V.int) := h.elim (fun h => ⟨false, sqK_l (SqL.of h)⟩) fun h => ⟨true, sqK_t (SqT.of h)⟩
def spRes : Sp := fun vs H Q _ => ∃ (lt : Addr) (ds : List Nat) (n : Int), vs = [.ref lt, .int n] ∧ DsA H lt ds ∧ (∀ d ∈ ds, d ≤ 1000) ∧ ds.length ≤ 1000 ∧ ∀ (L : Addr) H', H L = none → Same H H' → LI H' L (resI ds n) → Q (.ref L) H'
def spCountQ : Sp := fun vs H Q _ => ∃ (a : Addr) (ds : List Nat) (b : Nat), vs = [.ref a, .int (b : Int)] ∧ DsA H a ds ∧ ds.length ≤ 8 ∧ ds.sum ≤ 1000 ∧ 1 ≤ b ∧ b ≤ 64 ∧ (vecs ds.length b).length < 5000 ∧
  ∀ H', Same H H' → Q (.int ((vecs ds.length b).length * 2 ^ ds.sum)) H'
section
variable {P : Program} {w : World} {K : PySem.W.Frag} {mg : Str → Option Value} {base : Heap}
abbrev s_residues : Stmt := top 5
abbrev N_residues : List Str := ["loss", "number", "found", "left", "depth"]
theorem sc_residues : FnScope N_residues ["loss", "number"] (defScope s_residues) := ⟨rfl, rfl, rfl, by decide +kernel, rfl, by decide +kernel, by decide +kernel⟩
theorem ok_residues {f : Addr} {fd : FuncData} (F : Fun K "residues" "residues" s_residues f fd) (T : Glob mg) : FnOk P w K mg base CX0 1 f fd ["loss", "number"] spRes := by
  refine F.ok sc_residues (fun vs H Q E h => ?_) (fun cdv A outer s H vs Q E hr h => ?_)
  · obtain ⟨lt, ds, n, rfl, _⟩ := h
    rfl
  · obtain ⟨lt, ds, n, rfl, hl, hd, hm, kq⟩ := h
    have nd := sc_residues.nd
    refine ⟨_, (pss_cons (ps_set (i := 2) nd rfl (Or.inl rfl) (pe_lst pa_nil))
    (pss_cons (ps_set (i := 3) nd rfl (Or.inl rfl) (pv 1))
    (pss_cons (ps_for PassesOwn.never rfl (pi_revA (by rfl) T.g_reversed (pv 0)) (pg_name (i := 4) nd rfl (Or.inl rfl))
    (pss_cons (ps_expr (pe_bm PySem.F.plainAttrs_list PySem.F.slot_list_append PySem.F.type_list_append mt_append (pv 2) (pa_cons (pe_op op_andM (pv 3) (pe_op op_sub (pe_op op_shl pe_int (pv 4)) pe_int)) pa_nil)))
    (pss_one (ps_set (i := 3) nd rfl (Or.inl rfl) (pe_op op_shrN (pv 3) (pv 4))))))
    (pss_one (ps_ret (pe_revL (pv 2))))))), ?_⟩
    have zl : 16777216 = sizeLine := sizeLine_eq.symm
    refine seq_by (fun σ H1 => ∃ L : Addr, σ = [some (.ref lt), some (.int n), some (.ref L), none, none] ∧ Same H H1 ∧ LI H1 L [] ∧ H L = none) (fun D' hD' => ?_) ?_
    · exact ⟨(by show 0 ≤ sizeLine; omega), fun L hL => hD' _ _ ⟨L, rfl, new_same hL, upd_same, hL⟩⟩
    rintro σ H1 ⟨L, rfl, s1, h1, hLn⟩
    refine seq_by (fun σ H2 => H2 = H1 ∧ σ = [some (.ref lt), some (.int n), some (.ref L), some (.int n), none]) (fun D' hD' => ?_) ?_
    · exact ⟨_, rfl, hD' _ _ ⟨rfl, rfl⟩⟩
    rintro σ H2 ⟨rfl, rfl⟩
    have hdl : ((dI ds).map V.int).length = ds.length := by rw [List.length_map]; unfold dI; rw [List.length_map]
    rcases hl with hl | hl
    · refine ⟨_, rfl, lt, (dI ds).map V.int, rfl, .inl ⟨SqL.of (hl.same s1), ?_⟩⟩
      refine for_it walk_rev (fun i σ H3 => ∃ a4 : Option V, σ = [some (.ref lt), some (.int n), some (.ref L), some (.int (leftR (ds.reverse.take i) n)), a4] ∧ Same H H3 ∧ LI H3 L (resR (ds.reverse.take i) n))
        ⟨none, rfl, s1, h1⟩ (fun i σ H3 _ h => by obtain ⟨_, _, h, _⟩ := h; exact SqL.of (hl.same h)) ?_ ?_
      · rintro i x σ H3 H4 hi ⟨a4, rfl, s3, h3⟩ ⟨rfl, hx⟩
        rw [hdl] at hi
        have hi2 : i < ds.reverse.length := by rw [List.length_reverse]; exact hi
        have hr : ds.reverse[i]? = some ds.reverse[i] := List.getElem?_eq_getElem hi2
        have hx' : x = .int ((ds.reverse[i] : Nat) : Int) := by
          rw [hdl] at hx
          have e : ds[ds.length - 1 - i]? = some ds.reverse[i] := by
            rw [← hr, List.getElem?_reverse hi]
          have e2 : (dI ds)[ds.length - 1 - i]? = some ((ds.reverse[i] : Nat) : Int) := by unfold dI; rw [List.getElem?_map, e]; rfl
          rw [map_at_int e2] at hx
          exact (Option.some.inj hx).symm
        subst hx'
        have hd1 := hd ds.reverse[i] (List.mem_reverse.mp (List.getElem_mem hi2))
        obtain ⟨r1, r2⟩ := resR_snoc (ds.reverse.take i) ds.reverse[i] n
        have htk : ds.reverse.take (i + 1) = ds.reverse.take i ++ [ds.reverse[i]] := by
          rw [List.take_succ, hr]
          rfl
        have hlen : (resR (ds.reverse.take i) n).length ≤ 1000 := by
          rw [resR_len, List.length_take]
          omega
        refine ⟨_, rfl, .inl ⟨rfl, _, SqL.of h3⟩, _, rfl, _, rfl, _, _, rfl, rfl, ⟨by omega, by omega, by decide⟩, _, _, rfl, rfl, _, ds.reverse[i], rfl, ?_, ?_⟩
        · rw [Int.toNat_natCast, Int.one_mul]
        refine ⟨L, _, _, rfl, rfl, h3, by rw [List.length_map]; omega, ?_⟩
        refine ⟨_, rfl, _, rfl, _, ds.reverse[i], rfl, rfl, ?_⟩
        refine ⟨some (.int ((ds.reverse[i] : Nat) : Int)), ?_, same_up s3 hLn, ?_⟩
        · rw [htk, r2]
          rfl
        · rw [htk, r1]
          exact li_snoc
      · rintro σ H3 ⟨a4, rfl, s3, h3⟩
        rw [hdl, List.take_of_length_le (by rw [List.length_reverse]; omega)] at h3
        refine ⟨_, rfl, L, _, rfl, SqL.of h3, fun p hp => ?_⟩
        refine kq p _ (same_free s3 hp) (s3.trans (new_same hp)) ?_
        show upd _ p _ p = _
        rw [upd_same]
        unfold resI
        rw [List.map_reverse]
    · refine ⟨_, rfl, lt, (dI ds).map V.int, rfl, .inr ⟨SqT.of (hl.same s1), ?_⟩⟩
      refine for_it walk_revT (fun i σ H3 => ∃ a4 : Option V, σ = [some (.ref lt), some (.int n), some (.ref L), some (.int (leftR (ds.reverse.take i) n)), a4] ∧ Same H H3 ∧ LI H3 L (resR (ds.reverse.take i) n))
        ⟨none, rfl, s1, h1⟩ (fun i σ H3 _ h => by obtain ⟨_, _, h, _⟩ := h; exact SqT.of (hl.same h)) ?_ ?_
      · rintro i x σ H3 H4 hi ⟨a4, rfl, s3, h3⟩ ⟨rfl, hx⟩
        rw [hdl] at hi
        have hi2 : i < ds.reverse.length := by rw [List.length_reverse]; exact hi
        have hr : ds.reverse[i]? = some ds.reverse[i] := List.getElem?_eq_getElem hi2
        have hx' : x = .int ((ds.reverse[i] : Nat) : Int) := by
          rw [hdl] at hx
          have e : ds[ds.length - 1 - i]? = some ds.reverse[i] := by
            rw [← hr, List.getElem?_reverse hi]
          have e2 : (dI ds)[ds.length - 1 - i]? = some ((ds.reverse[i] : Nat) : Int) := by unfold dI; rw [List.getElem?_map, e]; rfl
          rw [map_at_int e2] at hx
          exact (Option.some.inj hx).symm
        subst hx'
        have hd1 := hd ds.reverse[i] (List.mem_reverse.mp (List.getElem_mem hi2))
        obtain ⟨r1, r2⟩ := resR_snoc (ds.reverse.take i) ds.reverse[i] n
        have htk : ds.reverse.take (i + 1) = ds.reverse.take i ++ [ds.reverse[i]] := by
          rw [List.take_succ, hr]
          rfl
        have hlen : (resR (ds.reverse.take i) n).length ≤ 1000 := by
          rw [resR_len, List.length_take]
          omega
        refine ⟨_, rfl, .inl ⟨rfl, _, SqL.of h3⟩, _, rfl, _, rfl, _, _, rfl, rfl, ⟨by omega, by omega, by decide⟩, _, _, rfl, rfl, _, ds.reverse[i], rfl, ?_, ?_⟩
        · rw [Int.toNat_natCast, Int.one_mul]
        refine ⟨L, _, _, rfl, rfl, h3, by rw [List.length_map]; omega, ?_⟩
        refine ⟨_, rfl, _, rfl, _, ds.reverse[i], rfl, rfl, ?_⟩
        refine ⟨some (.int ((ds.reverse[i] : Nat) : Int)), ?_, same_up s3 hLn, ?_⟩
        · rw [htk, r2]
          rfl
        · rw [htk, r1]
          exact li_snoc
      · rintro σ H3 ⟨a4, rfl, s3, h3⟩
        rw [hdl, List.take_of_length_le (by rw [List.length_reverse]; omega)] at h3
        refine ⟨_, rfl, L, _, rfl, SqL.of h3, fun p hp => ?_⟩
        refine kq p _ (same_free s3 hp) (s3.trans (new_same hp)) ?_
        show upd _ p _ p = _
        rw [upd_same]
        unfold resI
        rw [List.map_reverse]
abbrev s_count_points : Stmt := top 7
abbrev N_count_points : List Str := ["loss", "bits"]
theorem sc_count_points : FnScope N_count_points ["loss", "bits"] (defScope s_count_points) := ⟨rfl, rfl, rfl, by decide +kernel, rfl, by decide +kernel, by decide +kernel⟩
theorem ok_count_points {f : Addr} {fd : FuncData} (F : Fun K "count_points" "count_points" s_count_points f fd) (T : Glob mg) (g_sum : mg "sum" = none) (D_count_vectors : Df P w K mg base 3 "count_vectors" ["count", "bits"] spCountV) : FnOk P w K mg base CX0 4 f fd ["loss", "bits"] spCountQ := by
  refine F.ok sc_count_points (fun vs H Q E h => ?_) (fun cdv A outer s H vs Q E hr h => ?_)
  · obtain ⟨a, ds, b, rfl, _⟩ := h
    rfl
  · obtain ⟨a, ds, b, rfl, ha, hl, hs, hb1, hb, hv, kq⟩ := h
    have nd := sc_count_points.nd
    refine ⟨_, (pss_one (ps_ret (pe_op op_shl (pe_call D_count_vectors.ok (hr.mono (by decide)) (by rfl) D_count_vectors.g D_count_vectors.kp D_count_vectors.b .nil pass0 (pa_cons (pe_callB call_len_seq (by rfl) T.g_len PySem.boot_len (pa_cons (pv 0) pa_nil)) (pa_cons (pv 1) pa_nil))) (pe_callB (cr_sumK (K := K) rfl rfl) (by rfl) g_sum (by decide +kernel) (pa_cons (pv 0) pa_nil))))), ?_⟩
    obtain ⟨cc, hsq⟩ := (ha.same same_refl).sq (K := K)
    refine ⟨_, rfl, a, _, rfl, sqK_any hsq, _, rfl, ds.length, b, ?_, hl, hb1, hb, fun H1 s1 => ?_⟩
    rotate_left
    obtain ⟨cc', hsq'⟩ := (ha.same s1).sq (K := K)
    rotate_left
    · unfold dI
      rw [List.length_map, List.length_map]
      rfl
    refine ⟨_, rfl, cc', a, _, rfl, hsq', ?_⟩
    rw [show (dI ds).sum = (ds.sum : Int) from nat_sum ds]
    exact ⟨_, _, rfl, rfl, ⟨by omega, by omega, by omega⟩, kq H1 s1⟩
end
end My

set_option pp.maxSteps 400
set_option Elab.async false
set_option linter.all false
set_option maxRecDepth 100000
set_option maxHeartbeats 1000000
namespace My
open PySem L2 MyR GenZ
theorem pa_starN {X : Cx} {K : PySem.W.Frag} {e : Expr} {es : List Expr} {te : TE} {t : TA} {p : Pos} (hK : X.K = K) (he : PE X e te) (hr : PA X es t) (hs : starEach (.Starred e p :: es) X.env = (true, eval e X.env) :: starEach es X.env := by rfl) : PA X (.Starred e p :: es) (StX.tStar K te t) :=
  hK ▸ StX.pa_star he hr hs
/-- what `vectors` hands out -/
def vsp (m b : Nat) : GSp where
  τ := Nat
  left := fun i => (vecs m b).length - i
  need := fun _ _ => True
  yld := fun i H x H1 i' => i' = i + 1 ∧ ∃ p v, x = .ref p ∧ Same H H1 ∧ (vecs m b)[i]? = some v ∧ TupI H1 p (dI v)
  fin := fun i H H1 => i = (vecs m b).length ∧ Same H H1
def spVectors (m : Nat) : SpG2 := fun vs H cont => ∃ b : Nat, vs = [.int (m : Int), .int (b : Int)] ∧ 1 ≤ b ∧ b ≤ 64 ∧ m < 100 ∧ cont (vsp m b) (0 : Nat) H
theorem vecsTo_end (m b : Nat) : vecsTo m b (W b) = vecs (m + 1) b := rfl
theorem vecsTo_at {m b n t : Nat} {v : List Nat} (hn : n < W b) (h : (vecs m (b - tw n))[t]? = some v) : (vecs (m + 1) b)[(vecsTo m b n).length + t]? = some (n :: v) := by
  rw [← vecsTo_end]
  have ht := (List.getElem?_eq_some_iff.mp h).1
  have pre : ∀ k, n + 1 ≤ k → (vecsTo m b k)[(vecsTo m b n).length + t]? = some (n :: v) := by
    intro k hk
    induction k with
    | zero => omega
    | succ k ih =>
      rw [vecsTo_succ]
      by_cases e : n = k
      · subst e
        rw [List.getElem?_append_right (by omega), Nat.add_sub_cancel_left, List.getElem?_map, h]
        rfl
      · have h2 := ih (by omega)
        rw [List.getElem?_append_left (List.getElem?_eq_some_iff.mp h2).1]
        exact h2
  exact pre _ hn
theorem vecsTo0_len (b n : Nat) : (vecsTo 0 b n).length = n := by
  induction n with
  | zero => rfl
  | succ n ih => rw [vecsTo_succ, List.length_append, ih]; rfl
theorem vecs1_len (b : Nat) : (vecs 1 b).length = W b := by
  rw [← vecsTo_end, vecsTo0_len]

section
variable {P : Program} {w : World} {K : PySem.W.Frag} {mg : Str → Option Value} {base : Heap}
abbrev s_vectors : Stmt := top 2
abbrev N_vectors : List Str := ["count", "bits", "fewer", "first", "left", "others"]
theorem gsc_vectors : GScope N_vectors ["count", "bits"] (defScope s_vectors) := ⟨rfl, rfl, rfl, by decide +kernel, rfl, by decide +kernel, by decide +kernel⟩
theorem ok_vectors {f : Addr} {fd : FuncData} (F : Fun K "vectors" "vectors" s_vectors f fd) (T : Glob mg) (D_twos : Df P w K mg base 1 "twos" ["n"] spTwos) (g : mg "vectors" = some (.ref f)) (kp : PySem.W.keepIn K (.ref f) = true) (bb : Binds K fd ["count", "bits"] []) :
    ∀ m, GFn2 P w K mg base (2 * m + 5) true f fd ["count", "bits"] (spVectors (m + 1))
  | 0 => by
    refine gok F gsc_vectors (fun _ n => rfl) (fun vs H cont h => ?_) (fun cdv outer n a gg go vs H cont G h => ?_)
    · obtain ⟨b, rfl, _⟩ := h
      rfl
    · obtain ⟨b, rfl, hb1, hb, hm, kq⟩ := h
      have nd := gsc_vectors.nd
      refine ⟨vsp 1 b, (0 : Nat), _, kq, gss2_cons (gs2_ps fun A sc Hc hr => ps_set (i := 2) nd rfl (Or.inl rfl) (pe_op op_sub (pv 0) pe_int))
        (gss2_cons (gs2_ps fun A sc Hc hr => ps_set (i := 3) nd rfl (Or.inl rfl) pe_int)
        (gss2_cons (gs2_ps fun A sc Hc hr => ps_set (i := 4) nd rfl (Or.inl rfl) (pv 1))
        (gss2_one (gs2_while (fun A sc Hc hr => pt_cmpR op_gt (pv 4) pe_int (nomark _))
        (gss2_cons (gs2_if (fun A sc Hc hr => pt_cmpR op_eq (pv 2) pe_int (nomark _)) (gss2_one (gs2_yield G fun A sc Hc hr => pe_tup (pa_cons (pv 3) pa_nil))) (gss2_one gs2_never))
        (gss2_cons (gs2_ps fun A sc Hc hr => ps_set (i := 3) nd rfl (Or.inl rfl) (pe_op op_add (pv 3) pe_int))
        (gss2_one (gs2_ps fun A sc Hc hr => ps_set (i := 4) nd rfl (Or.inl rfl) (pe_op op_sub (pv 1) (pe_call D_twos.ok (hr.mono (by show 1 ≤ 2 * 0 + 5; decide)) (by rfl) D_twos.g D_twos.kp D_twos.b .nil pass0 (pa_cons (pv 3) pa_nil))))))))))), fun Hw _ => ?_⟩
      refine ⟨_, rfl, _, _, rfl, rfl, ?_⟩
      refine ⟨_, rfl, ?_⟩
      refine ⟨fun j (u : Nat) Hw σ H => u ≤ W b ∧ j = W b - u ∧ (∃ l : Int, σ = [some (.int 1), some (.int (b : Int)), some (.int 0), some (.int (u : Int)), some (.int l), none] ∧ l = (b : Int) - (tw u : Int)) ∧ Same Hw H, ⟨W b, Nat.zero_le _, rfl, ⟨(b : Int), rfl, by rw [tw_zero]; omega⟩, same_refl⟩, ?_⟩
      rintro j (u : Nat) Hw σ H1 ⟨hu, rfl, ⟨l, rfl, hl⟩, sm⟩
      refine ⟨_, rfl, _, _, rfl, rfl, _, rfl, ?_⟩
      refine ite2 (fun h => ?_) (fun h => ?_)
      · have h : 0 < l := of_decide_eq_true h
        have hW : u < W b := W_iff.mp (by omega)
        refine ⟨fun (u' : Nat) Hw' σ' H' => u' = u + 1 ∧ (∃ l : Int, σ' = [some (.int 1), some (.int (b : Int)), some (.int 0), some (.int (u' : Int)), some (.int l), none] ∧ l = (b : Int) - (tw u' : Int)) ∧ Same Hw' H', fun (u' : Nat) Hw' σ' H' ⟨e, q1, q2⟩ => ⟨W b - u', by omega, by omega, rfl, q1, q2⟩, ?_⟩
        refine ⟨_, rfl, rfl, _, rfl, ?_⟩
        refine iteT ?_
        refine ⟨_, rfl, (by show 1 ≤ sizeLine; decide), fun p hp => ?_⟩
        refine ⟨(u + 1 : Nat), ⟨rfl, p, [u], rfl, Same.tr sm (new_same hp), ?_, upd_same⟩, ?_, fun H' _ => ?_⟩
        · have := vecsTo_at (m := 0) (t := 0) (v := []) hW rfl
          rw [show (vecsTo 0 b u).length + 0 = u from by rw [vecsTo0_len]; rfl] at this
          exact this
        · show (vecs 1 b).length - (u + 1) < (vecs 1 b).length - u
          rw [vecs1_len]; omega
        · refine ⟨_, rfl, _, _, rfl, rfl, ?_⟩
          refine ⟨_, rfl, _, rfl, u + 1, rfl, _, _, rfl, rfl, rfl, ⟨_, rfl, rfl⟩, same_refl⟩
      · have h : ¬ 0 < l := fun z => h (decide_eq_true z)
        have hW : ¬ u < W b := fun z => h (by have := W_iff.mpr z; omega)
        refine ⟨?_, sm⟩
        show u = (vecs 1 b).length
        rw [vecs1_len]; omega
  | m + 1 => by
    have ih := ok_vectors F T D_twos g kp bb m
    refine gok F gsc_vectors (fun _ n => rfl) (fun vs H cont h => ?_) (fun cdv outer n a gg go vs H cont G h => ?_)
    · obtain ⟨b, rfl, _⟩ := h
      rfl
    · obtain ⟨b, rfl, hb1, hb, hm, kq⟩ := h
      have nd := gsc_vectors.nd
      refine ⟨vsp (m + 2) b, (0 : Nat), _, kq, gss2_cons (gs2_ps fun A sc Hc hr => ps_set (i := 2) nd rfl (Or.inl rfl) (pe_op op_sub (pv 0) pe_int))
        (gss2_cons (gs2_ps fun A sc Hc hr => ps_set (i := 3) nd rfl (Or.inl rfl) pe_int)
        (gss2_cons (gs2_ps fun A sc Hc hr => ps_set (i := 4) nd rfl (Or.inl rfl) (pv 1))
        (gss2_one (gs2_while (fun A sc Hc hr => pt_cmpR op_gt (pv 4) pe_int (nomark _))
        (gss2_cons (gs2_if (fun A sc Hc hr => pt_cmpR op_eq (pv 2) pe_int (nomark _)) (gss2_one gs2_never)
          (gss2_one (gs2_forG (by show 5 ≤ 2 * (m + 1) + 5; omega) (fun A sc Hc hr => pgn_call ih hr (by show 2 * m + 5 + 2 ≤ 2 * (m + 1) + 5; omega) (by rfl) g kp bb .nil (pa_cons (pv 2) (pa_cons (pv 4) pa_nil))) (fun A sc Hc hr => pg_name (i := 5) nd rfl (Or.inl rfl))
            (gss2_one (gs2_yield G fun A sc Hc hr => pe_tup (pa_cons (pv 3) (pa_starN (K := K) rfl (pv 5) pa_nil)))))))
        (gss2_cons (gs2_ps fun A sc Hc hr => ps_set (i := 3) nd rfl (Or.inl rfl) (pe_op op_add (pv 3) pe_int))
        (gss2_one (gs2_ps fun A sc Hc hr => ps_set (i := 4) nd rfl (Or.inl rfl) (pe_op op_sub (pv 1) (pe_call D_twos.ok (hr.mono (by show 1 ≤ 2 * (m + 1) + 5; omega)) (by rfl) D_twos.g D_twos.kp D_twos.b .nil pass0 (pa_cons (pv 3) pa_nil))))))))))), fun Hw _ => ?_⟩
      refine ⟨_, rfl, _, _, rfl, rfl, ?_⟩
      refine ⟨_, rfl, ?_⟩
      have sub1 : ((m + 2 : Nat) : Int) - 1 = ((m + 1 : Nat) : Int) := by omega
      let C : Int := ((m + 1 + 1 : Nat) : Int)
      let F0 : Int := ((m + 1 + 1 : Nat) : Int) - 1
      refine ⟨fun j (u : Nat) Hw σ H => ∃ n : Nat, n ≤ W b ∧ u = (vecsTo (m + 1) b n).length ∧ j = W b - n ∧ (∃ (l : Int) (o : Option V), σ = [some (.int C), some (.int (b : Int)), some (.int F0), some (.int (n : Int)), some (.int l), o] ∧ l = (b : Int) - (tw n : Int)) ∧ Same Hw H, ⟨W b, 0, Nat.zero_le _, rfl, rfl, ⟨(b : Int), none, rfl, by rw [tw_zero]; omega⟩, same_refl⟩, ?_⟩
      rintro j (u : Nat) Hw σ H1 ⟨n, hn, hu, rfl, ⟨l, o, rfl, hl⟩, sm⟩
      refine ⟨_, rfl, _, _, rfl, rfl, _, rfl, ?_⟩
      refine ite2 (fun h => ?_) (fun h => ?_)
      · have h : 0 < l := of_decide_eq_true h
        have hW : n < W b := W_iff.mp (by omega)
        refine ⟨fun (u' : Nat) Hw' σ' H' => u' = (vecsTo (m + 1) b (n + 1)).length ∧ (∃ (l : Int) (o : Option V), σ' = [some (.int C), some (.int (b : Int)), some (.int F0), some (.int ((n + 1 : Nat) : Int)), some (.int l), o] ∧ l = (b : Int) - (tw (n + 1) : Int)) ∧ Same Hw' H', fun (u' : Nat) Hw' σ' H' ⟨e, q1, q2⟩ => ⟨W b - (n + 1), by omega, n + 1, by omega, e, rfl, q1, q2⟩, ?_⟩
        refine ⟨_, rfl, rfl, _, rfl, ?_⟩
        have hF0 : F0 ≠ 0 := by show ((m + 1 + 1 : Nat) : Int) - 1 ≠ 0; omega
        rw [decide_eq_false (fun z => hF0 (V.int.inj z))]
        refine iteF ?_
        refine ⟨_, rfl, _, rfl, b - tw n, ?_, by omega, by omega, by omega, ?_⟩
        · show [V.int F0, V.int l] = [V.int ((m + 1 : Nat) : Int), V.int ((b - tw n : Nat) : Int)]
          rw [show F0 = ((m + 1 : Nat) : Int) from by show ((m + 1 + 1 : Nat) : Int) - 1 = _; omega, show l = ((b - tw n : Nat) : Int) by omega]
        refine ⟨fun (t : Nat) (u : Nat) Hw σ H => u = (vecsTo (m + 1) b n).length + t ∧ t ≤ (vecs (m + 1) (b - tw n)).length ∧ (∃ o : Option V, σ = [some (.int C), some (.int (b : Int)), some (.int F0), some (.int (n : Int)), some (.int l), o]) ∧ Same Hw H, ⟨hu, Nat.zero_le _, ⟨o, rfl⟩, sm⟩, ?_⟩
        rintro (t : Nat) (u : Nat) Hw σ H2 ⟨hu, ht, ⟨o, rfl⟩, sm⟩
        refine ⟨trivial, ?_, ?_⟩
        · rintro x H3 (t' : Nat) ⟨rfl, p, v, rfl, s3, hv, hp⟩
          have hvt := vecsTo_at hW hv
          rw [← hu] at hvt
          have hlt := (List.getElem?_eq_some_iff.mp hvt).1
          have htl := (List.getElem?_eq_some_iff.mp hv).1
          have hvl := vecs_mem _ _ v (List.mem_of_getElem? hv)
          refine ⟨_, rfl, _, rfl, p, _, rfl, .inl (SqT.of hp), ?_, fun q hq => ?_⟩
          · show (V.int (n : Int) :: ((dI v).map V.int ++ [])).length ≤ sizeLine
            rw [List.append_nil, List.length_cons, List.length_map, show (dI v).length = v.length from List.length_map .., hvl, sizeLine_eq]
            omega
          refine ⟨(u + 1 : Nat), ⟨rfl, q, n :: v, rfl, Same.tr (Same.tr sm s3) (new_same hq), hvt, ?_⟩, ?_, fun H' _ => ?_⟩
          · show upd H3 q _ q = some (.tup ((dI (n :: v)).map V.int))
            rw [upd_same, List.append_nil]
            rfl
          · show (vecs (m + 2) b).length - (u + 1) < (vecs (m + 2) b).length - u
            have hlt : u < (vecs (m + 2) b).length := hlt
            omega
          · exact ⟨by omega, htl, ⟨_, rfl⟩, same_refl⟩
        · rintro H3 ⟨ht, s3⟩
          refine ⟨_, rfl, _, _, rfl, rfl, ?_⟩
          refine ⟨_, rfl, _, rfl, n + 1, rfl, _, _, rfl, rfl, ?_, ⟨_, _, rfl, rfl⟩, Same.tr sm s3⟩
          rw [vecsTo_succ, List.length_append, List.length_map, hu, ht]
      · have h : ¬ 0 < l := fun z => h (decide_eq_true z)
        have hW : ¬ n < W b := fun z => h (by have := W_iff.mpr z; omega)
        refine ⟨?_, sm⟩
        show u = (vecs (m + 2) b).length
        rw [← vecsTo_end, hu, show n = W b by omega]
end
end My

set_option Elab.async false
set_option linter.all false
set_option maxRecDepth 100000
set_option maxHeartbeats 1000000
/-! ### for over what is no generator, in a generator -/
namespace GenZ
open PySem PySem.Spec PyProof.Rows L2 GenW
section
variable {W : GW} {S : GSp} {A : Around} {sw s : Shared} {Hw H : Hp} {pc ip pv : Pins} {iv : Gens} {σ : L2.St} {D : E2 S} {t : S.τ}
def tFor2 (wi : TI) (g : TG) (tb : T2 S) : T2 S := fun D u Hw σ H => wi σ H fun J H1 => ∃ V : Nat → Nat → S.τ → Hp → L2.St → Hp → Prop, (∃ m, V 0 m u Hw σ H1) ∧ ∀ i m u Hw σ H, V i m u Hw σ H →
  (J.stop i H ∧ D.nx u Hw σ H) ∨ (J.go i H ∧ ∃ N : S.τ → Hp → L2.St → Hp → Prop, (∀ u' Hw' σ' H', N u' Hw' σ' H' → ∃ m', m' < m ∧ V (i + 1) m' u' Hw' σ' H') ∧ ∀ x H', J.yld i H x H' → g x σ H' fun σ2 H2 => tb { D with nx := N, ct := N, bk := D.nx } u Hw σ2 H2)
theorem gs2_for {tg iter : Expr} {body : List Stmt} {pos : Pos} {wi : TI} {g : TG} {tb : T2 S} (hi : AllX W fun X => PI X tg iter wi) (hg : AllX W fun X => PG X tg g) (hb : GSs2 W S true body tb)
    (hs : ∀ x, foldedSetIterable iter W.env x = pure x := by intro _; rfl) : GS2 W S true (.For tg iter body [] pos) (tFor2 wi g tb) := by
  refine ⟨fun ip iv cc fs K J gd lv D gp o k m A sw Hw pc u s σ H hm I ht => ?_⟩
  obtain rfl : iv = [] := o.one rfl
  refine lap_For ?_ hs
  rw [gp.over]
  refine wpAny_gsz I.gsz (wpAny_mono ((hi A (cutS sw W.n) Hw I.wk.room).run (pc ++ ip) s σ H _ I.inv ht) (fun v s1 h1 hz1 => ?_) fun _ _ z _ => z)
  refine wpAny_gsz hz1 (wpAny_mono h1 (fun itv s2 h2 hz2 => ?_) fun _ _ z _ => z)
  obtain ⟨it, fp, tn, Jt, H2, rfl, I2, T, st2, f2, V, ⟨m0, v0⟩, turn⟩ := h2
  have fst : ∀ b ∈ fp, b ≠ W.env.locals ∧ b ∉ frs W.outer ∧ W.n ≤ b ∧ (∀ x c, W.env.cells.lookup x = some c → c ≠ b) ∧ W.a ≠ b ∧ ∀ p ∈ ip, p.1 ≠ b := fun b hb => by
    obtain ⟨_, h2, h3, h4, h5, h6⟩ := f2 b hb
    refine ⟨h2, h3, ?_, h5, h6 (W.a, W.go) (List.mem_append_left _ (List.mem_singleton.mpr rfl)), fun p hp => h6 p (List.mem_append_right _ (List.mem_append_right _ hp))⟩
    rcases h4 with h4 | h4
    · cases h4
    · have h4 : (cut sw.heap W.n).objs.size ≤ b := h4
      rw [cut_size I.wk.sz] at h4
      exact h4
  intro kk p hkk
  have gl := gpos_loop (k := kk) (c' := .forLoop tg (.ref it) body [] W.env) (l := lv []) (kp := []) (p := p) gp rfl rfl
  have loop : ∀ (n i m : Nat) (A : Around) (sw : Shared) (Hw : Hp) (pc : Pins) (u : S.τ) (s : Shared) (σ : L2.St) (H : Hp), S.left u ≤ m → V i n u Hw σ H → GIn W A sw Hw pc ip [] σ H s → tn i s.heap → (∀ b ∈ fp, H b = none ∧ ∀ p ∈ pc, p.1 ≠ b) →
      LapW W S m A sw Hw pc u (.forLoop tg (.ref it) body [] W.env) ((model W.P W.w).den (.forLoop tg (.ref it) body [] W.env)) (.ret kk none (gd false) (lv []) cc p [] :: fs) s := by
    intro n
    induction n using Nat.strongRecOn with
    | ind n ih =>
      intro i m A sw Hw pc u s σ H hm v I st fr
      have fok : ∀ {H' : Hp}, (∀ b ∈ fp, H' b = none) → ∀ b ∈ fp, FpOk (W.cx A (cutS sw W.n) Hw) (pc ++ ip) H' b := fun {H'} hn b hb => by
        obtain ⟨g1, g2, g3, g4, g5, g6⟩ := fst b hb
        refine ⟨hn b hb, g1, g2, .inr (by show (cut sw.heap W.n).objs.size ≤ b; rw [cut_size I.wk.sz]; exact g3), g4, fun p hp => ?_⟩
        rcases List.mem_append.mp hp with hp | hp
        · rw [List.mem_singleton.mp hp]; exact g5
        rcases List.mem_append.mp hp with hp | hp
        · exact (fr b hb).2 p hp
        · exact g6 p hp
      refine lap_forLoop ?_
      rw [gl.over]
      rcases turn i n u Hw σ H v with ⟨stop, qn⟩ | ⟨go, N, hN, step⟩
      · refine wpAny_gsz I.gsz (wpAny_mono (T.done (W.cx A (cutS sw W.n) Hw) rfl rfl rfl rfl i (pc ++ ip) s σ H never I.inv (fok fun b hb => (fr b hb).1) st stop) (fun r s4 ⟨hr, I4⟩ hz => ?_) fun _ _ z _ => z)
        subst hr
        exact lap_leaf (.ok .next) (by rw [hkk]; exact k m A sw Hw pc u s4 .next hm ⟨σ, H, ⟨I.wk, I4, fun q hq => (nomatch hq), I.apart, hz⟩, qn⟩)
      · refine wpAny_gsz I.gsz (wpAny_mono (T.item (W.cx A (cutS sw W.n) Hw) rfl rfl rfl rfl i (pc ++ ip) s σ H never I.inv (fok fun b hb => (fr b hb).1) st go) (fun r s4 ⟨x0, hr, h4⟩ hz4 => ?_) fun _ _ z _ => z)
        subst hr
        refine wpAny_gsz hz4 (wpAny_mono h4 (fun _ s5 ⟨x, H5, I5, r5, y5, st5, fr5⟩ hz5 => ?_) fun _ _ z _ => z)
        have I5' := I5.pinned (fok fr5) (T.obj _ _ st5)
        refine wpAny_gsz hz5 (wpAny_mono ((hg A (cutS sw W.n) Hw I.wk.room).run _ s5 σ H5 x x0 _ I5' r5 (step x H5 y5)) (fun _ s6 ⟨σ6, H6, I6, q6⟩ hz6 => ?_) fun _ _ z _ => z)
        intro J'
        have o' : GOwn W true (ip ++ pinsAt fp s5.heap) [] := ⟨fun _ => rfl, fun q hq => (List.mem_append.mp hq).elim (o.ip q) fun hq => (fst _ (of_pinsAt hq).1).2.2.1, fun q hq => (nomatch hq)⟩
        have I6' : GIn W A sw Hw pc (ip ++ pinsAt fp s5.heap) [] σ6 H6 s6 := ⟨I.wk, by rw [← List.append_assoc]; exact I6, fun q hq => (nomatch hq), fun q hq => ⟨(I.apart q hq).1, fun r hr => (List.mem_append.mp hr).elim ((I.apart q hq).2 r) fun hr z => (fr _ (of_pinsAt hr).1).2 q hq z.symm⟩, hz6⟩
        refine hb.run (ip ++ pinsAt fp s5.heap) [] _ _ _ J' id id { D with nx := N, ct := N, bk := D.nx } gl o' (fun m3 A3 sw3 Hw3 pc3 u3 s3 f hm3 hs3 => ?_) m A sw Hw pc u s6 σ6 H6 hm I6' q6
        have back : ∀ {σ3 : L2.St} {H3 : Hp}, GIn W A3 sw3 Hw3 pc3 (ip ++ pinsAt fp s5.heap) [] σ3 H3 s3 → N u3 Hw3 σ3 H3 → LapW W S m3 A3 sw3 Hw3 pc3 u3 (.forLoop tg (.ref it) body [] W.env) ((model W.P W.w).den (.forLoop tg (.ref it) body [] W.env)) (.ret kk none (gd false) (lv []) cc p [] :: fs) s3 := fun {σ3 H3} I3 n3 => by
          obtain ⟨m', hlt, v3⟩ := hN u3 Hw3 σ3 H3 n3
          have pin : ∀ b ∈ fp, ∀ ob, s5.heap.get? b = some ob → s3.heap.get? b = some ob ∧ H3 b = none := fun b hb ob e => by
            obtain ⟨h1, h2, _⟩ := I3.inv.pin (b, ob) (List.mem_append_right _ (List.mem_append_right _ (List.mem_append_right _ (mem_pinsAt hb e))))
            exact ⟨h1, h2⟩
          refine ih m' hlt (i + 1) m3 A3 sw3 Hw3 pc3 u3 s3 σ3 H3 hm3 v3 I3.drop (T.keep _ _ _ st5 fun b hb ob e => (pin b hb ob e).1) fun b hb => ?_
          obtain ⟨ob, e, _⟩ := T.obj _ _ st5 b hb
          exact ⟨(pin b hb ob e).2, fun q hq z => (I3.apart q hq).2 (b, ob) (List.mem_append_right _ (mem_pinsAt hb e)) z.symm⟩
        cases f with
        | next => obtain ⟨σ3, H3, I3, n3⟩ := hs3; exact lap_again rfl (back I3 n3)
        | cont => obtain ⟨σ3, H3, I3, n3⟩ := hs3; exact lap_again rfl (back I3 n3)
        | brk => obtain ⟨σ3, H3, I3, n3⟩ := hs3; exact lap_leaf (.ok .next) (by rw [hkk]; exact k m3 A3 sw3 Hw3 pc3 u3 s3 .next hm3 ⟨σ3, H3, I3.drop, n3⟩)
        | ret v => obtain ⟨x3, σ3, H3, I3, r3, n3⟩ := hs3; exact lap_leaf (.ok (.ret v)) (by rw [hkk]; exact k m3 A3 sw3 Hw3 pc3 u3 s3 (.ret v) hm3 ⟨x3, σ3, H3, I3.drop, r3, n3⟩)
  exact loop m0 0 m A sw Hw pc u s2 σ H2 hm v0 ⟨I.wk, I2, fun q hq => (nomatch hq), I.apart, hz2⟩ st2 fun b hb => ⟨(f2 b hb).1, fun p hp => (f2 b hb).2.2.2.2.2 p (List.mem_append_right _ (List.mem_append_left _ hp))⟩
end
end GenZ

set_option Elab.async false
set_option linter.all false
set_option maxRecDepth 100000
set_option maxHeartbeats 1000000
/-! ### list(g) -/
namespace GenZ
open PySem PySem.Spec PyProof.Rows L2 GenW
section
variable {X : Cx} {W : GW} {S : GSp} {cl : Bool} {pins : Pins} {σ : L2.St} {H H1 : Hp} {s s1 : Shared} {m : Nat} {t : S.τ} {gs : GenState} {pv : Pins} {iv : Gens}
/-- the list that is filled stands apart -/
structure Fill (X : Cx) (pins : Pins) (D : Addr) : Prop where
  low : X.s_0.heap.objs.size ≤ D
  cel : ∀ x c, X.env.cells.lookup x = some c → c ≠ D
  pin : ∀ p ∈ X.pn ++ pins, p.1 ≠ D
/-- the list that was filled is tracked -/
theorem Fill.track {D : Addr} {acc : Array Value} {c : Nat} {ys : List L2.V} (f : Fill X pins D) (I : Inv X (pins ++ [(D, lstObj acc c)]) σ H s) (rv : Vals ys acc.toList) (hl : ys.length ≤ sizeLine) : Inv X pins σ (upd H D (.lst ys)) s := by
  obtain ⟨e, hn, hL, hf, _⟩ := I.pin (D, lstObj acc c) (List.mem_append_right _ (List.mem_append_right _ (List.mem_singleton.mpr rfl)))
  have e : s.heap.get? D = some (lstObj acc c) := e
  have hn : H D = none := hn
  have hL : D ≠ X.env.locals := hL
  have lt : ∀ b ob, X.s_0.heap.get? b = some ob → b ≠ D := fun b ob q => Nat.ne_of_lt (Nat.lt_of_lt_of_le (Heap.lt_size q) f.low)
  have I0 : Inv X pins σ H s := I.unpinned
  refine ⟨I0.ok, I0.os, I0.bare, ⟨I0.base.keep, I0.base.slot, fun b o q n hx => ?_, I0.base.there, fun b xs q => ?_, fun b o u q => ?_, fun b ps q => ?_⟩, I0.loc, I0.cell, ?_, fun x cc ec => ?_, fun p hp => ?_, fun b u q => ?_, I0.len⟩
  · rw [upd_ne (lt b o q)]; exact I0.base.free b o q n hx
  · have q2 := I0.base.tups b xs q
    rw [upd_ne (ne_of_none q2 hn)]; exact q2
  · have q2 := I0.base.frzs b o u q
    rw [upd_ne (ne_of_none q2 hn)]; exact q2
  · obtain ⟨more, q2⟩ := I0.base.tbls b ps q
    exact ⟨more, by rw [upd_ne (ne_of_none q2 hn)]; exact q2⟩
  · rw [upd_ne (Ne.symm hL)]; exact I0.free
  · rw [upd_ne (f.cel x cc ec)]; exact I0.freeC x cc ec
  · obtain ⟨a1, a2, a3⟩ := I0.pin p hp
    exact ⟨a1, by rw [upd_ne (f.pin p hp)]; exact a2, a3⟩
  · by_cases hb : b = D
    · subst hb
      rw [upd_same] at q
      cases q
      exact ⟨hl, acc.toList, c, rv, by rw [e]⟩
    · rw [upd_ne hb] at q
      exact (I0.hok b u q).stay (fun _ _ _ z => z) (fun d z => by rw [upd_ne (ne_of_none z hn)]; exact z) fun d xs z => by rw [upd_ne (ne_of_none z hn)]; exact z
theorem Fill.push {D : Addr} {acc : Array Value} {c c' : Nat} {v : Value} {h' : Heap} (f : Fill X pins D) (r : Ready X W S cl (pins ++ [(D, lstObj acc c)]) σ m t H s gs pv iv) (hk : ∀ b o, b ≠ D → s.heap.get? b = some o → h'.get? b = some o) (hD : h'.get? D = some (lstObj (acc.push v) c')) :
    Ready X W S cl (pins ++ [(D, lstObj (acc.push v) c')]) σ m t H { s with heap := h' } gs pv iv := by
  obtain ⟨_, hn, hL, hf, _⟩ := r.inv.pin (D, lstObj acc c) (List.mem_append_right _ (List.mem_append_right _ (List.mem_singleton.mpr rfl)))
  have I0 : Inv X pins σ H s := r.inv.unpinned
  have I1 : Inv X pins σ H { s with heap := h' } := I0.turned (t' := s.toks) (it := D) hk hn hL (.inr f.low) f.cel f.pin
  refine ⟨I1.pins_of fun p hp => ?_, r.link, r.cl, r.slp, r.at_, ⟨fun p hp => ?_, r.held.iv⟩, fun p hp q hq => ?_⟩
  · rcases List.mem_append.mp hp with hp | hp
    · exact I1.pin p (List.mem_append_right _ hp)
    · rw [List.mem_singleton.mp hp]
      exact ⟨hD, hn, hL, hf, fun v q => by cases q⟩
  · obtain ⟨e, h⟩ := r.held.pv p hp
    exact ⟨hk _ _ (fun z => r.apart p hp (D, lstObj acc c) (List.mem_append_right _ (List.mem_append_right _ (List.mem_singleton.mpr rfl))) z) e, h⟩
  · rcases List.mem_append.mp hq with hq | hq
    · exact r.apart p hp q (List.mem_append_left _ hq)
    rcases List.mem_append.mp hq with hq | hq
    · exact r.apart p hp q (List.mem_append_right _ (List.mem_append_left _ hq))
    · rw [List.mem_singleton.mp hq]
      exact r.apart p hp (D, lstObj acc c) (List.mem_append_right _ (List.mem_append_right _ (List.mem_singleton.mpr rfl)))
theorem drainZ {A : Around} {R : Result → Shared → Prop} {D : Addr} {res : Value} (f : Fill X pins D) (hrk : Room W.k (A.in1.in1.deeper W.env)) (hfr : A.frames = some X.stack) (hh : A.handled = none) (hd : A.depth < recursionLimit) (V : S.τ → List V → Hp → Prop) (Qf : List L2.V → Hp → Prop)
    (step : ∀ t acc H, V t acc H → S.need t H ∧ (∀ x H1 t', S.yld t H x H1 t' → acc.length < sizeLine ∧ V t' (acc ++ [x]) H1) ∧ ∀ H1, S.fin t H H1 → acc.length ≤ sizeLine ∧ Qf acc H1)
    (hend : ∀ s' acc c H ys, Inv X (pins ++ [(D, lstObj acc c)]) σ H s' → Vals ys acc.toList → ys.length ≤ sizeLine → Qf ys H → R (.ok (.ret res)) s') :
    ∀ (n : Nat) (s : Shared) (t : S.τ) (H : Hp) (acc : Array Value) (c : Nat) (ys : List L2.V) (gs : GenState) (pv : Pins) (iv : Gens), Ready X W S cl (pins ++ [(D, lstObj acc c)]) σ n t H s gs pv iv → Vals ys acc.toList → V t ys H →
      codeAny (model X.prog X.w) A (.builtin "list.extend.loop" ⟨[.ref D, .ref W.a, res], []⟩) R s := by
  intro n
  induction n using Nat.strongRecOn with
  | ind n ih =>
    intro s t H acc c ys gs pv iv r rv v
    obtain ⟨need, st, fin⟩ := step t ys H v
    refine codeAny_builtin F.entry_extend_loop ?_
    rw [Around.under_plainId F.plain_extend_loop _]
    show wpAny _ A.in1 (pyNext (.ref W.a) >>= _) _ _ s
    refine wpAny_bind (r.nextB hrk hfr hh hd need (fun n' u x t' H1 s1 gs' pv' iv' r1 ha rx hy hlt => ?_) (fun H1 s1 I1 hf _ => ?_))
    · obtain ⟨hl, v1⟩ := st x H1 t' hy
      have hS := (r1.inv.pin (D, lstObj acc c) (List.mem_append_right _ (List.mem_append_right _ (List.mem_singleton.mpr rfl)))).1
      have hal : acc.size = ys.length := by
        have e1 := rv.length
        have e2 : acc.toList.length = acc.size := by simp
        omega
      show wpAny _ A.in1 (updateSeq D (·.push u) >>= _) _ _ _
      refine wpAny_bind ?_
      refine wpAny_updateSeq hS rfl (wpAny_pure ⟨plainId_quiet F.plain_extend_loop _, ?_⟩) (by omega) (by show (acc.push u).size ≤ sizeLine + 1; rw [Array.size_push]; omega)
      have hS' := Heap.get?_update_self (Obj.mapSeq (·.push u)) hS rfl
      refine ih n' hlt _ t' H1 (acc.push u) _ (ys ++ [x]) gs' pv' iv' (f.push r1 (fun b o hb e => (Heap.get?_update_other _ _ (Ne.symm hb)).trans e) hS') ?_ v1
      rw [Array.toList_push]
      exact rv.append (.cons rx .nil)
    · obtain ⟨hl, hq⟩ := fin H1 hf
      exact wpAny_pure (hend s1 acc c H1 ys I1 rv hl hq)
theorem call_listZ {k : Nat} {Q' : Value → Shared → Prop} {E : Value → Shared → Prop} {c0 : Code} (hr : Room k X.A) (hk : W.k + 4 ≤ k) (r : Ready X W S cl pins σ m t H s (.fresh c0) pv []) (V : S.τ → List V → Hp → Prop) (Qf : List L2.V → Hp → Prop) (v0 : V t [] H)
    (step : ∀ t acc H, V t acc H → S.need t H ∧ (∀ x H1 t', S.yld t H x H1 t' → acc.length < sizeLine ∧ V t' (acc ++ [x]) H1) ∧ ∀ H1, S.fin t H H1 → acc.length ≤ sizeLine ∧ Qf acc H1)
    (hQ : ∀ D s' H ys, H D = none → Qf ys H → Inv X pins σ (upd H D (.lst ys)) s' → Q' (.ref D) s') : wpAny (model X.prog X.w) X.A (call (.type "list") [.ref W.a]) Q' E s := by
  have I := r.inv
  have hg := r.isGen
  have hl := I.nolimit
  have hSa : s.heap.objs.size ≠ W.a := by
    obtain ⟨o, _, _, ho, _⟩ := hg
    exact Nat.ne_of_gt (Heap.lt_size ho)
  refine callType_codes (Q₁ := fun obj s₁ => obj = .ref s.heap.objs.size ∧ s₁ = { s with heap := s.heap.push { cls := .type "list", data := .seq #[] } }) F.called_list (F.typeCall_list_1 _) F.entry_list_init
    (code_list_new _ ⟨rfl, rfl⟩) fun obj s₁ h₁ => ?_
  obtain ⟨rfl, rfl⟩ := h₁
  have hS : (s.heap.push { cls := .type "list", data := .seq #[] }).get? s.heap.objs.size = some { cls := .type "list", data := .seq #[] } := Heap.get?_push_size _ rfl
  refine ⟨⟨_, hS, rfl⟩, F.args_list_init_2 _ _, ?_⟩
  show wpAny _ X.A.in1.in1 (do let old ← Builtin.List.listItems (.ref s.heap.objs.size); Builtin.List.listUpdate (.ref s.heap.objs.size) (fun _ => #[]); letGo old.toList.reverse; Builtin.List.listExtendWith (.ref s.heap.objs.size) (.ref W.a) .none) _ _ _
  refine wpAny_bind ?_
  unfold Builtin.List.listItems
  refine wpAny_bind (wpAny_seqItems hS rfl (wpAny_pure ?_))
  show wpAny _ X.A.in1.in1 (updateSeq s.heap.objs.size (fun _ => #[]) >>= fun _ => letGo (#[] : Array Value).toList.reverse >>= fun _ => Builtin.List.listExtendWith (.ref s.heap.objs.size) (.ref W.a) .none) _ _ _
  refine wpAny_bind (wpAny_updateSeq hS rfl ?_)
  have hS2 := Heap.get?_update_self (Obj.mapSeq (fun _ => (#[] : Array Value))) hS rfl
  refine wpAny_bind (wpAny_letGo ?_)
  unfold Builtin.List.listExtendWith
  have up : ∀ (h : Heap) (f : Obj → Obj), (∀ b o, s.heap.get? b = some o → h.get? b = some o) → ∀ b o, s.heap.get? b = some o → (h.update s.heap.objs.size f).get? b = some o := fun h f q b o e =>
    (Heap.get?_update_other _ _ (Ne.symm (Nat.ne_of_lt (Heap.lt_size e)))).trans (q b o e)
  have k1 : ∀ b o, s.heap.get? b = some o → (s.heap.push { cls := .type "list", data := .seq #[] }).get? b = some o := fun b o e => Heap.get?_push_of_some _ e
  have k2 := up _ (Obj.mapSeq (fun _ => (#[] : Array Value))) k1
  have gty : ∀ {h : Heap}, (∀ b o, s.heap.get? b = some o → h.get? b = some o) → h.IsGen W.a W.g := fun {h} q => hg.keeps q
  refine wpAny_bind (wpAny_typeOf (Heap.IsGen.typeIs (s := { s with heap := _ }) (gty k2)) ?_)
  have h1 : Builtin.List.listSameRef (.ref s.heap.objs.size) (.ref W.a) = false := by simp [Builtin.List.listSameRef, hSa]
  have h2 : (Value.type "generator" == Value.type "list") = false := by decide
  have h3 : (Value.type "generator" == Value.type "tuple") = false := by decide
  simp only [h1, h2, h3, Bool.or_false, Bool.false_eq_true, if_false]
  refine wpAny_bind (wpAny_pyIter_gen (s := { s with heap := _ }) (gty k2) ?_)
  refine wpAny_bind (wpAny_holding ?_)
  unfold Builtin.List.listLengthHint
  refine wpAny_bind (wpAny_specialOf (Heap.IsGen.typeIs (s := { s with heap := _ }) (gty k2)) F.gen_no_len ?_)
  show wpAny _ X.A.in1.in1 (specialOf (Value.ref W.a) (Str.ofString "__length_hint__") >>= _) _ _ _
  refine wpAny_bind (wpAny_specialOf (Heap.IsGen.typeIs (s := { s with heap := _ }) (gty k2)) F.gen_no_hint ?_)
  refine wpAny_pure ?_
  show wpAny _ X.A.in1.in1 (rule "list.extend.makes-room" >>= fun _ => Builtin.List.listTouch (.ref s.heap.objs.size) >>= fun _ =>
    again (.builtin "list.extend.loop" ⟨[.ref s.heap.objs.size, .ref W.a, .none], []⟩)) _ _ _
  refine wpAny_bind (wpAny_rule ?_)
  refine wpAny_bind ?_
  show wpAny _ X.A.in1.in1 (updateSeq s.heap.objs.size (·.push .none) >>= fun _ => updateSeq s.heap.objs.size (·.pop)) _ _ _
  refine wpAny_bind (wpAny_updateSeq hS2 rfl ?_)
  have hS3 := Heap.get?_update_self (Obj.mapSeq (·.push Value.none)) hS2 rfl
  refine wpAny_updateSeq (hz := by seq_fits) hS3 rfl ?_
  have hS4 := Heap.get?_update_self (Obj.mapSeq (·.pop)) hS3 rfl
  obtain ⟨c4, hS4⟩ : ∃ c4, Heap.get? _ s.heap.objs.size = some (lstObj #[] c4) := ⟨_, hS4⟩
  have k4 := up _ (Obj.mapSeq (·.pop)) (up _ (Obj.mapSeq (·.push Value.none)) k2)
  refine wpAny_pure ⟨plainId_quiet F.plain_extend_loop _, ?_⟩
  have hn : H s.heap.objs.size = none := I.hok.fresh (Nat.le_refl _)
  have fl : Fill X pins s.heap.objs.size := ⟨I.sz, fun x c e => by
    obtain ⟨v, o, ho, _⟩ := I.cell x c e
    exact Nat.ne_of_lt (Heap.lt_size ho), fun p hp => Nat.ne_of_lt (Heap.lt_size (I.pin p hp).1)⟩
  have I4 := I.kept (t' := s.toks) k4
  have hr5 : Room (W.k + 1 + 1 + 1 + 1) X.A := hr.mono hk
  refine drainZ (A := X.A.in1) fl ?_ I.ok.frames hr.hd (by have := hr.dp; show X.A.depth < _; omega) V Qf step (fun s' acc c H' ys I' rv hl hq => ⟨rfl, ?_⟩) m _ t H #[] c4 [] (.fresh c0) pv [] ⟨I4.pins_of fun p hp => ?_, r.link, r.cl, r.slp, r.at_, ⟨fun p hp => ?_, r.held.iv⟩, fun p hp q hq => ?_⟩ .nil v0
  · exact hr5.in1.in1.in1.deeper _
  · rcases List.mem_append.mp hp with hp | hp
    · exact I4.pin p (List.mem_append_right _ hp)
    · rw [List.mem_singleton.mp hp]
      exact ⟨hS4, hn, Nat.ne_of_gt I.lt, I.nofs (Nat.le_refl _), fun v q => by cases q⟩
  · obtain ⟨e, h⟩ := r.held.pv p hp
    exact ⟨k4 _ _ e, h⟩
  · rcases List.mem_append.mp hq with hq | hq
    · exact r.apart p hp q (List.mem_append_left _ hq)
    rcases List.mem_append.mp hq with hq | hq
    · exact r.apart p hp q (List.mem_append_right _ hq)
    · rw [List.mem_singleton.mp hq]
      exact Nat.ne_of_lt (Heap.lt_size (r.held.pv p hp).1)
  · obtain ⟨e, hn', hL, hf, _⟩ := I'.pin (s.heap.objs.size, lstObj acc c) (List.mem_append_right _ (List.mem_append_right _ (List.mem_singleton.mpr rfl)))
    refine hQ s.heap.objs.size s' H' ys hn' hq ?_
    exact fl.track I' rv hl
end
end GenZ

set_option Elab.async false
set_option linter.all false
set_option maxRecDepth 100000
set_option maxHeartbeats 1000000
namespace GenZ
open PySem PySem.Spec PyProof.Rows L2 GenW
section
variable {X : Cx} {k : Nat} {cl : Bool} {nm : Str} {p pos : Pos}
def tListG2 (tg : TGen2) : TE := fun σ H Q => tg σ H fun S t H1 => ∃ Vv : S.τ → List L2.V → Hp → Prop, Vv t [] H1 ∧ ∀ t acc H, Vv t acc H → S.need t H ∧ (∀ x H1 t', S.yld t H x H1 t' → acc.length < sizeLine ∧ Vv t' (acc ++ [x]) H1) ∧
  ∀ H1, S.fin t H H1 → acc.length ≤ sizeLine ∧ ∀ p, H1 p = none → Q (.ref p) (upd H1 p (.lst acc))
theorem pe_listG2 {e : Expr} {tg : TGen2} (h : PGn X k cl e tg) (hr : Room (k + 2) X.A) (hg : Gl X nm) (hmg : X.mg nm = none) (hv : bootBuiltins nm = some (.type "list")) (hnm : nm ≠ "__name__" := by decide) (hdb : (nm == ("__debug__" : Str)) = false := by decide)
    (he : starEach [e] X.env = (false, eval e X.env) :: starEach [] X.env := by rfl) : PE X (.Call (.Name nm p) [e] [] pos) (tListG2 tg) := by
  refine ⟨fun pins s σ H Q I hq => ?_⟩
  refine wpAny_Call_Name_kw (ld_blt I hg hmg hv ?_ hnm hdb)
  refine PyProof.Rows.callWith_type1 ?_ he rfl
  rw [he]
  show wpAny _ _ (spliced ((false, eval e X.env) :: backTo pos (starEach [] X.env))) _ _ s
  refine Calls.spliced_cons (thn (h.run pins s σ H _ I hq) fun u s1 h1 => ?_)
  obtain ⟨W, S, t, m, c, pv, H1, rfl, R, hk, _, Vv, v0, step⟩ := h1
  refine Calls.spliced_nil ?_
  refine call_listZ hr (by omega) R Vv (fun acc H1 => ∀ p, H1 p = none → Q (.ref p) (upd H1 p (.lst acc))) v0 (fun t acc H v => ?_) fun D s' H2 ys hn hq I2 => ?_
  · obtain ⟨a1, a2, a3⟩ := step t acc H v
    exact ⟨a1, a2, a3⟩
  · exact ⟨.ref D, _, I2, rfl, hq D hn⟩
end
end GenZ

set_option Elab.async false
set_option linter.all false
set_option maxRecDepth 100000
set_option maxHeartbeats 1000000
namespace My
/-! ### numbers modulo 2 to the bits -/
theorem em_mul {M a a' b b' : Int} (h : a % M = a' % M) (g : b % M = b' % M) : (a * b) % M = (a' * b') % M := by rw [Int.mul_emod, h, g, ← Int.mul_emod]
theorem em_add {M a a' b b' : Int} (h : a % M = a' % M) (g : b % M = b' % M) : (a + b) % M = (a' + b') % M := by rw [Int.add_emod, h, g, ← Int.add_emod]
theorem em_sub {M a a' b b' : Int} (h : a % M = a' % M) (g : b % M = b' % M) : (a - b) % M = (a' - b') % M := by rw [Int.sub_emod, h, g, ← Int.sub_emod]
theorem em_self {M a : Int} : (a % M) % M = a % M := Int.emod_emod_of_dvd a (Int.dvd_refl M)
theorem p2_pos (b : Nat) : (0 : Int) < 2 ^ b := Int.pow_pos (by decide)
theorem p2_dvd {a b : Nat} (h : a ≤ b) : (2 : Int) ^ a ∣ 2 ^ b := ⟨2 ^ (b - a), by rw [← Int.pow_add, show a + (b - a) = b by omega]⟩
/-! ### the inverse of an odd number -/
theorem inv_step {o f : Int} {s b : Nat} (h : (2 : Int) ^ s ∣ o * f - 1) (hs : s ≤ b) (t : Nat) (ht1 : t ≤ 2 * s) (ht2 : t ≤ b) : (2 : Int) ^ t ∣ o * (f * (2 - o * f) % 2 ^ b) - 1 := by
  obtain ⟨q, e⟩ := h
  have e1 : o * (f * (2 - o * f)) - 1 = -((o * f - 1) * (o * f - 1)) := by
    rw [← Int.mul_assoc]
    generalize o * f = y
    have h1 : y * (2 - y) = y * 2 - y * y := Int.mul_sub ..
    have h2 : (y - 1) * (y - 1) = y * y - y - (y - 1) := by rw [Int.sub_mul, Int.mul_sub]; omega
    rw [h1, h2]
    omega
  have e2 : f * (2 - o * f) % 2 ^ b = f * (2 - o * f) - 2 ^ b * (f * (2 - o * f) / 2 ^ b) := Int.emod_def ..
  rw [e2, Int.mul_sub]
  have e3 : o * (f * (2 - o * f)) - o * (2 ^ b * (f * (2 - o * f) / 2 ^ b)) - 1 = -((o * f - 1) * (o * f - 1)) - o * (2 ^ b * (f * (2 - o * f) / 2 ^ b)) := by omega
  rw [e3, e]
  refine Int.dvd_sub (Int.dvd_neg.mpr ?_) ?_
  · refine Int.dvd_trans (p2_dvd ht1) ⟨q * q, ?_⟩
    rw [show 2 * s = s + s by omega, Int.pow_add, Int.mul_assoc, Int.mul_assoc]
    congr 1
    rw [← Int.mul_assoc, Int.mul_comm q, Int.mul_assoc]
  · refine Int.dvd_trans (p2_dvd ht2) ⟨o * (f * (2 - o * f) / 2 ^ b), ?_⟩
    rw [← Int.mul_assoc, Int.mul_comm o, Int.mul_assoc]
theorem odd_sq {o : Int} (h : o % 2 = 1) : (2 : Int) ^ 3 ∣ o * o - 1 := by
  obtain ⟨k, rfl⟩ : ∃ k, o = 2 * k + 1 := ⟨o / 2, by omega⟩
  have h1 : (2 * k + 1) * (2 * k + 1) - 1 = 4 * (k * (k + 1)) := by
    have a1 : (2 * k + 1) * (2 * k + 1) = 2 * k * (2 * k + 1) + (2 * k + 1) := by rw [Int.add_mul, Int.one_mul]
    have a2 : 2 * k * (2 * k + 1) = 2 * k * (2 * k) + 2 * k := by rw [Int.mul_add, Int.mul_one]
    have a3 : 2 * k * (2 * k) = 4 * (k * k) := by rw [Int.mul_assoc, Int.mul_left_comm k, ← Int.mul_assoc]; rfl
    have a4 : k * (k + 1) = k * k + k := by rw [Int.mul_add, Int.mul_one]
    rw [a1, a2, a3, a4]
    omega
  have h2 : k * (k + 1) % 2 = 0 := by
    rcases (show k % 2 = 0 ∨ k % 2 = 1 by omega) with e | e
    · rw [Int.mul_emod, e, Int.zero_mul]; rfl
    · rw [Int.mul_emod, show (k + 1) % 2 = 0 by omega, Int.mul_zero]; rfl
  rw [h1]
  obtain ⟨q, e⟩ := Int.dvd_of_emod_eq_zero h2
  exact ⟨q, by rw [e, ← Int.mul_assoc]; rfl⟩
theorem inv_first {o : Int} {b t : Nat} (h : o % 2 = 1) (h3 : t ≤ 3) (hb : t ≤ b) : (2 : Int) ^ t ∣ o * (o % 2 ^ b) - 1 := by
  have e2 : o % 2 ^ b = o - 2 ^ b * (o / 2 ^ b) := Int.emod_def ..
  rw [e2, Int.mul_sub]
  have e3 : o * o - o * (2 ^ b * (o / 2 ^ b)) - 1 = (o * o - 1) - o * (2 ^ b * (o / 2 ^ b)) := by omega
  rw [e3]
  refine Int.dvd_sub (Int.dvd_trans (p2_dvd h3) (odd_sq h)) (Int.dvd_trans (p2_dvd hb) ⟨o * (o / 2 ^ b), ?_⟩)
  rw [← Int.mul_assoc, Int.mul_comm o, Int.mul_assoc]
/-- an inverse, below 2 to the bits -/
def InvOf (b : Nat) (o v : Int) : Prop := 0 ≤ v ∧ v < 2 ^ b ∧ (2 : Int) ^ b ∣ o * v - 1
theorem InvOf.one {b : Nat} {o v : Int} (h : InvOf b o v) : (o * v) % 2 ^ b = 1 % 2 ^ b := Int.emod_eq_emod_iff_emod_sub_eq_zero.mpr (Int.emod_eq_zero_of_dvd h.2.2)
/-! ### odd parts of factorials -/
def od (j : Nat) : Int := (j : Int) / (PySem.Builtin.bitAnd (j : Int) (-(j : Int)))
def odP : Nat → Int
  | 0 => 1
  | k + 1 => odP k * od (k + 1)
theorem od_ok : ∀ j, j < 66 → 0 < PySem.Builtin.bitAnd ((j + 1 : Nat) : Int) (-((j + 1 : Nat) : Int)) ∧ PySem.Builtin.bitAnd ((j + 1 : Nat) : Int) (-((j + 1 : Nat) : Int)) < 1073741824 ∧ od (j + 1) % 2 = 1 ∧ 0 < od (j + 1) ∧ od (j + 1) < 100 ∧ ((j : Int) + 1) * 2 ^ tw j = 2 ^ tw (j + 1) * od (j + 1) := by decide +kernel
theorem odP_odd : ∀ k, k ≤ 66 → odP k % 2 = 1
  | 0, _ => rfl
  | k + 1, h => by
    show odP k * od (k + 1) % 2 = 1
    rw [Int.mul_emod, odP_odd k (by omega), (od_ok k (by omega)).2.2.1]
    rfl
theorem fac_od : ∀ k, k ≤ 66 → fac k = 2 ^ tw k * odP k
  | 0, _ => rfl
  | k + 1, h => by
    have ih := fac_od k (by omega)
    have q := (od_ok k (by omega)).2.2.2.2.2
    show ((k : Int) + 1) * fac k = 2 ^ tw (k + 1) * (odP k * od (k + 1))
    rw [ih, ← Int.mul_assoc, q, Int.mul_assoc, Int.mul_comm (od (k + 1))]
/-! ### falling products -/
theorem fall_mod {M z z' : Int} (h : z % M = z' % M) : ∀ k, fall z k % M = fall z' k % M
  | 0 => rfl
  | k + 1 => em_mul (fall_mod h k) (em_sub h rfl)
/-- what `falling` gives, from the item at s on -/
def flo (M z : Int) : Nat → List Int → Int
  | _, [] => 0
  | s, a :: r => (a + flo M z (s + 1) r * (z - (s : Int))) % M
def flS (z : Int) : Nat → List Int → Int
  | _, [] => 0
  | s, a :: r => a * fall z s + flS z (s + 1) r
theorem flo_fall (M z : Int) : ∀ (cs : List Int) (s : Nat), (flo M z s cs * fall z s) % M = flS z s cs % M
  | [], s => by
    show (0 * fall z s) % M = 0 % M
    rw [Int.zero_mul]
  | a :: r, s => by
    have ih := flo_fall M z r (s + 1)
    show ((a + flo M z (s + 1) r * (z - (s : Int))) % M * fall z s) % M = (a * fall z s + flS z (s + 1) r) % M
    rw [em_mul (b' := fall z s) em_self rfl, Int.add_mul]
    refine em_add rfl ?_
    rw [Int.mul_assoc, Int.mul_comm (z - (s : Int))]
    exact ih
theorem flo_lo (M z : Int) (cs : List Int) (s : Nat) : flo M z s cs % M = flo M z s cs := by
  cases cs with
  | nil => exact Int.zero_emod M
  | cons a r => exact em_self
theorem flo_zero (M z : Int) (cs : List Int) : flo M z 0 cs = flS z 0 cs % M := by
  have := flo_fall M z cs 0
  rw [show fall z 0 = 1 from rfl, Int.mul_one, flo_lo] at this
  exact this
theorem flS_zeros {z : Int} : ∀ (cs : List Int) (n s : Nat), flS z s (cs ++ List.replicate n 0) = flS z s cs
  | [], 0, s => rfl
  | [], n + 1, s => by
    show 0 * fall z s + flS z (s + 1) (List.replicate n 0) = 0
    have := flS_zeros [] n (s + 1) (z := z)
    rw [List.nil_append] at this
    rw [this, Int.zero_mul]
    rfl
  | a :: r, n, s => by
    show a * fall z s + flS z (s + 1) (r ++ List.replicate n 0) = a * fall z s + flS z (s + 1) r
    rw [flS_zeros r n (s + 1)]
theorem flS_map (z : Int) (f : Nat → Int) : ∀ n, flS z 0 ((List.range n).map f) = smI n fun k => f k * fall z k
  | 0 => rfl
  | n + 1 => by
    have app : ∀ (a b : List Int) (s : Nat), flS z s (a ++ b) = flS z s a + flS z (s + a.length) b := by
      intro a
      induction a with
      | nil => intro b s; show flS z s b = 0 + flS z s b; omega
      | cons x a ih =>
        intro b s
        show x * fall z s + flS z (s + 1) (a ++ b) = x * fall z s + flS z (s + 1) a + flS z (s + (a.length + 1)) b
        rw [ih, show s + 1 + a.length = s + (a.length + 1) by omega]
        omega
    rw [List.range_succ, List.map_append, app, flS_map z f n, List.length_map, List.length_range]
    show smI n (fun k => f k * fall z k) + (f n * fall z (0 + n) + 0) = smI n (fun k => f k * fall z k) + f n * fall z n
    rw [Nat.zero_add]
    omega
theorem smI_mod {M : Int} : ∀ {n : Nat} {f g : Nat → Int}, (∀ i, i < n → f i % M = g i % M) → smI n f % M = smI n g % M
  | 0, _, _, _ => rfl
  | n + 1, f, g, h => em_add (smI_mod fun i hi => h i (by omega)) (h n (by omega))
/-- a coefficient's product with the falling ones is the binomials' -/
theorem coef_bn {b p q : Nat} {c x y z1 z2 : Int} (hp : p ≤ 66) (hq : q ≤ 66) (hu : tw p + tw q ≤ b) (hx : InvOf b (odP p) x) (hy : InvOf b (odP q) y) (hc : (2 : Int) ^ (tw p + tw q) ∣ c) :
    ((c % 2 ^ b) / 2 ^ (tw p + tw q) * x * y % 2 ^ b * (fall z2 q * fall z1 p)) % 2 ^ b = (c * (bn z2 q * bn z1 p)) % 2 ^ b := by
  have hd : (2 : Int) ^ (tw p + tw q) ∣ c % 2 ^ b := by
    rw [Int.emod_def]
    exact Int.dvd_sub hc (Int.dvd_trans (p2_dvd hu) ⟨_, rfl⟩)
  obtain ⟨m, em⟩ := hd
  have e1 : (c % 2 ^ b) / 2 ^ (tw p + tw q) = m := by
    rw [em]
    exact Int.mul_ediv_cancel_left _ (by have := p2_pos (tw p + tw q); omega)
  rw [e1, ← fac_bn p z1, ← fac_bn q z2, fac_od p hp, fac_od q hq, em_mul (b' := _) em_self rfl]
  have e2 : m * x * y * (2 ^ tw q * odP q * bn z2 q * (2 ^ tw p * odP p * bn z1 p)) = (odP p * x) * ((odP q * y) * ((2 ^ (tw p + tw q) * m) * (bn z2 q * bn z1 p))) := by
    rw [Int.pow_add]
    generalize (2 : Int) ^ tw p = P
    generalize (2 : Int) ^ tw q = Q
    generalize odP p = A
    generalize odP q = B
    generalize bn z2 q = R
    generalize bn z1 p = S
    simp only [Int.mul_assoc, Int.mul_comm, Int.mul_left_comm]
  rw [e2, em_mul hx.one (em_mul hy.one rfl), ← em, Int.one_mul, Int.one_mul]
  exact em_mul em_self rfl
end My

set_option pp.maxSteps 400
set_option Elab.async false
set_option linter.all false
set_option maxRecDepth 100000
set_option maxHeartbeats 1000000
namespace My
open PySem L2 MyR GenZ
theorem call_lenN {X : Cx} {K : PySem.W.Frag} (h : X.K = K) : CallR X (.builtin "len") (fun xs H Q => ∃ p ys, xs = [V.ref p] ∧ (SqL K H p ys ∨ SqT K H p ys) ∧ Q (.int ys.length) H) := h ▸ call_len_seq
theorem ix_seqN {X : Cx} {K : PySem.W.Frag} (h : X.K = K) : IxR X (rIx K) := h ▸ ix_seq
theorem call_tupleN {X : Cx} {K : PySem.W.Frag} (h : X.K = K) : CallR X (.type "tuple") (fun xs H Q => ∃ p ys, xs = [.ref p] ∧ ((SqL K H p ys ∧ ∀ l, H l = none → Q (.ref l) (upd H l (.tup ys))) ∨ (SqT K H p ys ∧ Q (.ref p) H))) := h ▸ call_tuple_of
theorem vecs_ent {b : Nat} (hb : b ≤ 64) : ∀ (m b' : Nat) v, b' ≤ b → v ∈ vecs m b' → ∀ j ∈ v, j < 66
  | 0, b', v, _, h => by
    have h : v ∈ [([] : List Nat)] := h
    rw [List.mem_singleton.mp h]
    intro j hj
    cases hj
  | m + 1, b', v, hb', h => by
    have h : v ∈ (List.range (W b')).flatMap fun j => (vecs m (b' - tw j)).map (j :: ·) := h
    obtain ⟨j, hj, h⟩ := List.mem_flatMap.mp h
    obtain ⟨u, hu, rfl⟩ := List.mem_map.mp h
    have hj := List.mem_range.mp hj
    have hW := W_66 (show b' ≤ 64 by omega)
    intro k hk
    rcases List.mem_cons.mp hk with rfl | hk
    · omega
    · exact vecs_ent hb m _ u (by omega) hu k hk
theorem pow_cast (d : Nat) : ((2 ^ d : Nat) : Int) = (2 : Int) ^ d := by
  rw [Int.natCast_pow]; rfl
theorem vecs_pos {b : Nat} (hb : 1 ≤ b) : ∀ m, 0 < (vecs m b).length
  | 0 => by show 0 < ([[]] : List (List Nat)).length; decide
  | m + 1 => by
    rw [← vecsTo_end]
    have h1 := vecsTo_le m b 1 (W b) (W_pos hb)
    have h2 : (vecsTo m b 1).length = (vecs m b).length := by
      rw [vecsTo_succ]
      show ([] ++ _ : List (List Nat)).length = _
      rw [List.nil_append, List.length_map, tw_zero, Nat.sub_zero]
    have h3 := vecs_pos hb m
    omega
abbrev nV (ds : List Nat) (b : Nat) : Nat := (vecs ds.length b).length
abbrev nP (ds : List Nat) (b : Nat) : Nat := 2 ^ ds.sum * nV ds b
/-- the point of a residue and a vector -/
def ptI (ds : List Nat) (r : List Int) (v : List Nat) : List Int := (List.range ds.length).map fun a => r.getD a 0 + (dI v).getD a 0 * 2 ^ ds.getD a 0
def ptAt (ds : List Nat) (b i : Nat) : List Int := ptI ds (resI ds ((i / nV ds b : Nat) : Int)) ((vecs ds.length b).getD (i % nV ds b) [])
/-- what `points` hands out; Hc: the heap at its call -/
def psp (Hc : Hp) (la : Addr) (ds : List Nat) (b : Nat) : GSp where
  τ := Nat × Addr
  left := fun t => nP ds b - t.1
  need := fun t H => DsA H la ds ∧ (∀ q, Hc q ≠ none → H q ≠ none) ∧ (0 < t.1 → LI H t.2 (resI ds (((t.1 - 1) / nV ds b : Nat) : Int)) ∧ Hc t.2 = none)
  yld := fun t H x H1 t' => t'.1 = t.1 + 1 ∧ t.1 < nP ds b ∧ Same H H1 ∧ LI H1 t'.2 (resI ds ((t.1 / nV ds b : Nat) : Int)) ∧ Hc t'.2 = none ∧ ∃ p, x = .ref p ∧ TupI H1 p (ptAt ds b t.1)
  fin := fun t H H1 => t.1 = nP ds b ∧ Same H H1
def spPoints : SpG2 := fun vs H cont => ∃ (la : Addr) (ds : List Nat) (b : Nat), vs = [.ref la, .int (b : Int)] ∧ DsA H la ds ∧ 1 ≤ ds.length ∧ ds.length ≤ 3 ∧ (∀ d ∈ ds, d ≤ 16) ∧ 1 ≤ b ∧ b ≤ 64 ∧ cont (psp H la ds b) ((0, la) : Nat × Addr) H
theorem sum_le : ∀ {ds : List Nat}, ds.length ≤ 3 → (∀ d ∈ ds, d ≤ 16) → ds.sum ≤ 48 := by
  intro ds h1 h2
  match ds, h1, h2 with
  | [], _, _ => decide
  | [a], _, h => have := h a (by simp); simp; omega
  | [a, b], _, h => have := h a (by simp); have := h b (by simp); simp; omega
  | [a, b, c], _, h => have := h a (by simp); have := h b (by simp); have := h c (by simp); simp; omega
  | _ :: _ :: _ :: _ :: _, h, _ => simp at h
theorem for_range2 {S : GSp} {lo : Int} {n : Nat} {g : TG} {tb : T2 S} {D : E2 S} {u : S.τ} {Hw : Hp} {σ : L2.St} {H : Hp} (Pv : Nat → S.τ → Hp → L2.St → Hp → Prop) (h0 : Pv 0 u Hw σ H)
    (hs : ∀ i u Hw σ H, i < n → Pv i u Hw σ H → g (.int (lo + (i : Int))) σ H fun σ2 H2 => tb { D with nx := Pv (i + 1), ct := Pv (i + 1), bk := D.nx } u Hw σ2 H2) (hd : ∀ u Hw σ H, Pv n u Hw σ H → D.nx u Hw σ H) :
    ∃ V : Nat → Nat → S.τ → Hp → L2.St → Hp → Prop, (∃ m, V 0 m u Hw σ H) ∧ ∀ i m u Hw σ H, V i m u Hw σ H →
      ((Itr lo n).stop i H ∧ D.nx u Hw σ H) ∨ ((Itr lo n).go i H ∧ ∃ N : S.τ → Hp → L2.St → Hp → Prop, (∀ u' Hw' σ' H', N u' Hw' σ' H' → ∃ m', m' < m ∧ V (i + 1) m' u' Hw' σ' H') ∧ ∀ x H', (Itr lo n).yld i H x H' → g x σ H' fun σ2 H2 => tb { D with nx := N, ct := N, bk := D.nx } u Hw σ2 H2) := by
  refine ⟨fun i m u Hw σ H => m = n - i ∧ i ≤ n ∧ Pv i u Hw σ H, ⟨n, by simp, Nat.zero_le _, h0⟩, ?_⟩
  rintro i m u Hw σ H ⟨rfl, hi, p⟩
  by_cases hlt : i < n
  · refine .inr ⟨hlt, Pv (i + 1), fun u' Hw' σ' H' p' => ⟨n - (i + 1), by omega, rfl, hlt, p'⟩, fun x H' y => ?_⟩
    obtain ⟨e, y⟩ := y
    subst e y
    exact hs i u Hw σ _ hlt p
  · have e : i = n := by omega
    subst e
    exact .inl ⟨Nat.le_refl _, hd u Hw σ H p⟩
section
variable {P : Program} {w : World} {K : PySem.W.Frag} {mg : Str → Option Value} {base : Heap}
abbrev s_points : Stmt := top 6
abbrev N_points : List Str := ["loss", "bits", "inputs", "number", "first", "vector", "at"]
theorem gsc_points : GScope N_points ["loss", "bits"] (defScope s_points) := ⟨rfl, rfl, rfl, by decide +kernel, rfl, by decide +kernel, by decide +kernel⟩
theorem ok_points {f : Addr} {fd : FuncData} (F : Fun K "points" "points" s_points f fd) (T : Glob mg) (g_sum : mg "sum" = none) (D_residues : Df P w K mg base 1 "residues" ["loss", "number"] spRes) (Dv : ∀ m, DfG P w K mg base (2 * m + 5) true "vectors" ["count", "bits"] (spVectors (m + 1))) : GFn2 P w K mg base 11 false f fd ["loss", "bits"] spPoints := by
  refine gok F gsc_points (fun h => (nomatch h)) (fun vs H cont h => ?_) (fun cdv outer n a gg go vs H cont G h => ?_)
  · obtain ⟨la, ds, b, rfl, _⟩ := h
    rfl
  · obtain ⟨la, ds, b, rfl, hda, hl1, hl3, hd16, hb1, hb, kq⟩ := h
    have nd := gsc_points.nd
    obtain ⟨m, hm⟩ : ∃ m, ds.length = m + 1 := ⟨ds.length - 1, by omega⟩
    refine ⟨psp H la ds b, ((0, la) : Nat × Addr), _, kq, gss2_cons (gs2_ps fun A sc Hc hr => ps_set (i := 2) nd rfl (Or.inl rfl) (pe_callB (call_lenN (K := K) rfl) (by rfl) T.g_len PySem.boot_len (pa_cons (pv 0) pa_nil)))
      (gss2_one (gs2_for (fun A sc Hc hr => pi_range1 (by rfl) T.g_range (pa_cons (pe_op op_shl pe_int (pe_callB (cr_sumK (K := K) rfl rfl) (by rfl) g_sum (by decide +kernel) (pa_cons (pv 0) pa_nil))) pa_nil)) (fun A sc Hc hr => pg_name (i := 3) nd rfl (Or.inl rfl))
      (gss2_cons (gs2_ps fun A sc Hc hr => ps_set (i := 4) nd rfl (Or.inr rfl) (pe_call D_residues.ok (hr.mono (by show 1 ≤ 11; decide)) (by rfl) D_residues.g D_residues.kp D_residues.b .nil pass0 (pa_cons (pv 0) (pa_cons (pv 3) pa_nil))))
      (gss2_one (gs2_forG (by show 5 ≤ 11; decide) (fun A sc Hc hr => pgn_call (Dv m).ok hr (by show 2 * m + 5 + 2 ≤ 11; omega) (by rfl) (Dv m).g (Dv m).kp (Dv m).b .nil (pa_cons (pv 2) (pa_cons (pv 1) pa_nil))) (fun A sc Hc hr => pg_name (i := 5) nd rfl (Or.inr rfl))
      (gss2_one (gs2_yield G fun A sc Hc hr => pe_callTy (call_tupleN (K := K) rfl) (by rfl) T.g_tuple (by decide +kernel) (pa_cons (pe_lc (own := [("at", 6)]) (g := gName 6) (tt := tYes) rfl nd (pi_range1 (by rfl) T.g_range (pa_cons (pv 2) pa_nil)) (blkOk_by (N := N_points) (sc := defScope s_points) (by decide +kernel)) (fun _ _ _ _ _ => pg_name (i := 6) nd rfl (Or.inl rfl)) (fun _ _ _ _ _ => pts_nil) (fun _ _ _ _ _ => (pe_op op_add (pe_ix (ix_seqN (K := K) rfl) (pv 4) (pv 6) (fun _ _ => rfl)) (pe_op op_shl (pe_ix (ix_seqN (K := K) rfl) (pv 5) (pv 6) (fun _ _ => rfl)) (pe_ix (ix_seqN (K := K) rfl) (pv 0) (pv 6) (fun _ _ => rfl)))))) pa_nil)))))))), fun Hw hnd => ?_⟩
    obtain ⟨hdw, hdom, _⟩ := hnd
    have zl : 16777216 = sizeLine := sizeLine_eq.symm
    have hs48 := sum_le hl3 hd16
    have hdl : ((dI ds).map V.int).length = ds.length := by rw [List.length_map]; unfold dI; rw [List.length_map]
    obtain ⟨N, hNN⟩ : ∃ N : Nat, N = 2 ^ ds.sum := ⟨_, rfl⟩
    have hNi : (1 : Int) * 2 ^ (ds.sum : Int).toNat = (N : Int) := by rw [hNN, Int.toNat_natCast, Int.one_mul, pow_cast]
    have hN62 : N ≤ 2 ^ 48 := by rw [hNN]; exact Nat.pow_le_pow_right (by decide) hs48
    have hsum : (dI ds).sum = (ds.sum : Int) := nat_sum ds
    have hnv : 0 < nV ds b := vecs_pos hb1 _
    obtain ⟨c1, q1⟩ := hdw.sq (K := K)
    refine ⟨_, rfl, la, _, rfl, sqK_any q1, ?_⟩
    rw [hdl]
    refine ⟨_, rfl, c1, la, _, rfl, q1, ?_⟩
    rw [hsum]
    refine ⟨_, _, rfl, rfl, ⟨by omega, by omega, by decide⟩, (N : Int), by show [V.int _] = [V.int _]; rw [hNi], by omega, by omega, ?_⟩
    rw [Int.toNat_natCast]
    refine for_range2 (fun i (u : Nat × Addr) Hw σ H1 => u.1 = i * nV ds b ∧ (∃ o3 o4 o5 o6 : Option V, σ = [some (.ref la), some (.int (b : Int)), some (.int (ds.length : Int)), o3, o4, o5, o6]) ∧ Same Hw H1 ∧ DsA H1 la ds ∧ ∀ q, H q ≠ none → H1 q ≠ none)
      ⟨by rw [Nat.zero_mul], ⟨none, none, none, none, rfl⟩, same_refl, hdw, hdom⟩ ?_ ?_
    · rintro i (u : Nat × Addr) Hw σ H1 hi ⟨hu, ⟨o3, o4, o5, o6, rfl⟩, sm, hd1, dom⟩
      have e0 : (0 : Int) + (i : Int) = (i : Int) := by omega
      refine ⟨_, rfl, _, rfl, la, ds, (i : Int), by rw [e0]; rfl, hd1, fun d hd => by have := hd16 d hd; omega, by omega, fun L H4 hL s4 hl4 => ?_⟩
      have hHL : H L = none := by
        cases e : H L with
        | none => rfl
        | some o => exact absurd hL (dom L (by rw [e]; exact Option.some_ne_none o))
      refine ⟨_, rfl, _, rfl, b, ?_, hb1, hb, by omega, ?_⟩
      · show [V.int (ds.length : Int), V.int (b : Int)] = _
        rw [hm]
      refine ⟨fun (ti : Nat) (u : Nat × Addr) Hw σ H1 => u.1 = i * nV ds b + ti ∧ ti ≤ nV ds b ∧ (∃ o5 o6 : Option V, σ = [some (.ref la), some (.int (b : Int)), some (.int (ds.length : Int)), some (.int (0 + (i : Int))), some (.ref L), o5, o6]) ∧ Same Hw H1 ∧ DsA H1 la ds ∧ (∀ q, H q ≠ none → H1 q ≠ none) ∧ LI H1 L (resI ds (i : Int)),
        ⟨by rw [hu]; rfl, Nat.zero_le _, ⟨o5, o6, rfl⟩, Same.tr sm s4, hd1.same s4, fun q hq => ?_, hl4⟩, ?_⟩
      · obtain ⟨o, ho⟩ := Option.ne_none_iff_exists'.mp (dom q hq)
        rw [s4 q o ho]; exact Option.some_ne_none o
      rintro (ti : Nat) (u : Nat × Addr) Hw σ H5 ⟨hu, hti, ⟨o5, o6, rfl⟩, sm, hd5, dom5, hl5⟩
      refine ⟨trivial, ?_, ?_⟩
      · rintro x H6 (ti' : Nat) ⟨rfl, p, v, rfl, s6, hv, hp⟩
        have hvm : (vecs ds.length b)[ti]? = some v := by rw [hm]; exact hv
        have hlt : ti < nV ds b := (List.getElem?_eq_some_iff.mp hvm).1
        have hvl : v.length = ds.length := vecs_mem _ _ v (List.mem_of_getElem? hvm)
        have hent := vecs_ent hb _ b v (Nat.le_refl _) (List.mem_of_getElem? hvm)
        have hdiv : u.1 / nV ds b = i := by rw [hu, Nat.mul_comm, Nat.mul_add_div hnv, Nat.div_eq_of_lt hlt, Nat.add_zero]
        have hmod : u.1 % nV ds b = ti := by rw [hu, Nat.mul_comm, Nat.mul_add_mod, Nat.mod_eq_of_lt hlt]
        have hpt : ptAt ds b u.1 = ptI ds (resI ds (i : Int)) v := by
          unfold ptAt
          rw [hdiv, hmod, List.getD_eq_getElem?_getD, hvm]
          rfl
        have hi1 : u.1 < nP ds b := by
          have h1 : (i + 1) * nV ds b ≤ N * nV ds b := Nat.mul_le_mul_right _ hi
          show u.1 < 2 ^ ds.sum * nV ds b
          rw [← hNN]
          have h2 : (i + 1) * nV ds b = i * nV ds b + nV ds b := by rw [Nat.add_mul, Nat.one_mul]
          omega
        have l6 := hl5.same s6
        have d6 := hd5.same s6
        have rl : (resI ds (i : Int)).length = ds.length := by unfold resI; rw [List.length_reverse, resR_len, List.length_reverse]
        have dul : (dI v).length = ds.length := by unfold dI; rw [List.length_map, hvl]
        refine ⟨_, rfl, (ds.length : Int), rfl, by omega, by omega, fun Gd hG => ?_⟩
        rw [Int.toNat_natCast]
        refine lc_it (n := ds.length) walk_range (fun k H8 => Same H6 H8 ∧ LI H8 Gd ((List.range k).map fun a => (resI ds (i : Int)).getD a 0 + (dI v).getD a 0 * 2 ^ ds.getD a 0)) ⟨new_same hG, upd_same⟩ (fun _ _ _ _ => trivial) ?_ ?_
        · rintro a z H8 H9 ha ⟨s8, h8⟩ ⟨rfl, rfl⟩
          have e0 : (0 : Int) + (a : Int) = (a : Int) := by omega
          have g1 : (resI ds (i : Int))[a]? = some ((resI ds (i : Int)).getD a 0) := by rw [List.getD_eq_getElem?_getD, List.getElem?_eq_getElem (show a < (resI ds (i : Int)).length by omega)]; rfl
          have g2 : (dI v)[a]? = some ((dI v).getD a 0) := by rw [List.getD_eq_getElem?_getD, List.getElem?_eq_getElem (show a < (dI v).length by omega)]; rfl
          have g3 : (dI ds)[a]? = some ((ds.getD a 0 : Nat) : Int) := by
            unfold dI
            rw [List.getElem?_map, List.getD_eq_getElem?_getD, List.getElem?_eq_getElem (show a < ds.length by omega)]
            rfl
          have at1 : atI ((resI ds (i : Int)).map V.int) (0 + (a : Int)) = some (.int ((resI ds (i : Int)).getD a 0)) := by rw [e0]; exact atI_nat (map_at_int g1)
          have at2 : atI ((dI v).map V.int) (0 + (a : Int)) = some (.int ((dI v).getD a 0)) := by rw [e0]; exact atI_nat (map_at_int g2)
          have at3 : atI ((dI ds).map V.int) (0 + (a : Int)) = some (.int ((ds.getD a 0 : Nat) : Int)) := by rw [e0]; exact atI_nat (map_at_int g3)
          have hd8 : ds.getD a 0 ≤ 16 := by
            rw [List.getD_eq_getElem?_getD, List.getElem?_eq_getElem (show a < ds.length by omega)]
            exact hd16 _ (List.getElem_mem _)
          have b2 : ((dI v).getD a 0).natAbs < 2 ^ 64 := by
            have e : (dI v).getD a 0 = ((v.getD a 0 : Nat) : Int) := by
              unfold dI
              rw [List.getD_eq_getElem?_getD, List.getD_eq_getElem?_getD, List.getElem?_map]
              cases v[a]? <;> rfl
            rw [e]
            have : v.getD a 0 < 66 := by
              rw [List.getD_eq_getElem?_getD, List.getElem?_eq_getElem (show a < v.length by omega)]
              exact hent _ (List.getElem_mem (show a < v.length by omega))
            omega
          refine ⟨rfl, ?_⟩
          dsimp only [tYes]
          rw [if_pos rfl]
          refine ⟨_, rfl, _, rfl, .inl ⟨L, _, _, _, rfl, rfl, SqL.of (l6.same s8), at1, ?_⟩⟩
          refine ⟨_, rfl, _, rfl, .inr (.inl ⟨p, _, _, _, rfl, rfl, SqT.of (hp.same s8), at2, ?_⟩)⟩
          have d8 := d6.same s8
          rcases d8 with d8 | d8
          · refine ⟨_, rfl, _, rfl, .inl ⟨la, _, _, _, rfl, rfl, SqL.of d8, at3, ?_⟩⟩
            refine ⟨_, _, rfl, rfl, ⟨by omega, by omega, b2⟩, _, _, rfl, rfl, ?_⟩
            refine ⟨_, h8, by rw [List.length_map, List.length_map, List.length_range]; omega, same_up s8 hG, ?_⟩
            rw [List.range_succ, List.map_append, Int.toNat_natCast]
            exact li_snoc
          · refine ⟨_, rfl, _, rfl, .inr (.inl ⟨la, _, _, _, rfl, rfl, SqT.of d8, at3, ?_⟩)⟩
            refine ⟨_, _, rfl, rfl, ⟨by omega, by omega, b2⟩, _, _, rfl, rfl, ?_⟩
            refine ⟨_, h8, by rw [List.length_map, List.length_map, List.length_range]; omega, same_up s8 hG, ?_⟩
            rw [List.range_succ, List.map_append, Int.toNat_natCast]
            exact li_snoc
        · rintro H8 ⟨s8, h8⟩
          refine ⟨Gd, _, rfl, .inl ⟨SqL.of h8, fun t ht => ?_⟩⟩
          have st := new_same (o := .tup (((List.range ds.length).map fun a => (resI ds (i : Int)).getD a 0 + (dI v).getD a 0 * 2 ^ ds.getD a 0).map V.int)) ht
          have s9 := s8.trans st
          have hHL' : H L = none := hHL
          refine ⟨((u.1 + 1, L) : Nat × Addr), ⟨rfl, hi1, Same.tr sm (Same.tr s6 s9), ?_, hHL', t, rfl, ?_⟩, ?_, fun H' hn' => ?_⟩
          · rw [hdiv]; exact l6.same s9
          · rw [hpt]; exact upd_same
          · show nP ds b - (u.1 + 1) < nP ds b - u.1
            omega
          · obtain ⟨n1, n2, n3⟩ := hn'
            obtain ⟨n3, _⟩ := n3 (Nat.succ_pos _)
            have n3 : LI H' L (resI ds (((u.1 + 1 - 1) / nV ds b : Nat) : Int)) := n3
            rw [Nat.add_sub_cancel, hdiv] at n3
            exact ⟨by show u.1 + 1 = _; omega, hlt, ⟨_, _, rfl⟩, same_refl, n1, n2, n3⟩
      · rintro H6 ⟨hte, s6⟩
        have hte : ti = nV ds b := by
          show ti = (vecs ds.length b).length
          rw [hm]; exact hte
        refine ⟨by rw [hu, hte, Nat.add_mul, Nat.one_mul], ⟨_, _, _, _, rfl⟩, Same.tr sm s6, hd5.same s6, fun q hq => ?_⟩
        obtain ⟨o, ho⟩ := Option.ne_none_iff_exists'.mp (dom5 q hq)
        rw [s6 q o ho]; exact Option.some_ne_none o
    · rintro (u : Nat × Addr) Hw σ H1 ⟨hu, _, sm, _⟩
      exact ⟨by rw [hu, hNN], sm⟩
end
end My

set_option pp.maxSteps 300
set_option Elab.async false
set_option linter.all false
set_option maxRecDepth 100000
set_option maxHeartbeats 1000000
namespace My
open PySem L2 MyR GenZ
def spTwB (j : Nat) : Sp := fun vs H Q _ => ∃ n : Nat, vs = [.int (n : Int)] ∧ n < 2 ^ j ∧ Q (.int (tw n : Int)) H
def spVecs (m : Nat) : Sp := fun vs H Q _ => ∃ b : Nat, vs = [.int (m : Int), .int (b : Int)] ∧ 1 ≤ b ∧ b ≤ 64 ∧ (vecs m b).length < 5000 ∧ m < 100 ∧ ∀ (L : Addr) H', H L = none → Same H H' → LTI H' L (dV b m) → Q (.ref L) H'
theorem pe_never {X : Cx} {e : Expr} : PE X e (fun _ _ _ => False) := ⟨fun _ _ _ _ _ _ h => h.elim⟩
section
variable {P : Program} {w : World} {K : PySem.W.Frag} {mg : Str → Option Value} {base : Heap}
abbrev s_law_twos : Stmt := top 11
abbrev N_law_twos : List Str := ["_law_number"]
theorem sc_law_twos : FnScope N_law_twos ["_law_number"] (defScope s_law_twos) := ⟨rfl, rfl, rfl, by decide +kernel, rfl, by decide +kernel, by decide +kernel⟩
theorem ok_law_twos {f : Addr} {fd : FuncData} (F : Fun K "_law_twos" "_law_twos" s_law_twos f fd) (T : Glob mg) (g : mg "_law_twos" = some (.ref f)) (kp : PySem.W.keepIn K (.ref f) = true) (bb : Binds K fd ["_law_number"] []) :
    ∀ j, FnOk P w K mg base CX0 (j + 1) f fd ["_law_number"] (spTwB j)
  | 0 => by
    refine F.ok sc_law_twos (fun vs H Q E h => ?_) (fun cdv A outer s H vs Q E hr h => ?_)
    · obtain ⟨n, rfl, _⟩ := h
      rfl
    · obtain ⟨n, rfl, hn, kq⟩ := h
      have nd := sc_law_twos.nd
      refine ⟨_, (pss_one (ps_ret (pe_ifExp (pt_cmpR op_eq (pv 0) pe_int (nomark _)) pe_int pe_never))), ?_⟩
      obtain rfl : n = 0 := by have : n < 1 := hn; omega
      refine ⟨_, rfl, rfl, _, rfl, ?_⟩
      exact iteT kq
  | j + 1 => by
    have ih := ok_law_twos F T g kp bb j
    refine F.ok sc_law_twos (fun vs H Q E h => ?_) (fun cdv A outer s H vs Q E hr h => ?_)
    · obtain ⟨n, rfl, _⟩ := h
      rfl
    · obtain ⟨n, rfl, hn, kq⟩ := h
      have nd := sc_law_twos.nd
      refine ⟨_, (pss_one (ps_ret (pe_ifExp (pt_cmpR op_eq (pv 0) pe_int (nomark _)) pe_int (pe_op op_add (pe_op op_fdiv (pv 0) pe_int) (pe_call ih hr (by rfl) g kp bb .nil pass0 (pa_cons (pe_op op_fdiv (pv 0) pe_int) pa_nil)))))), ?_⟩
      refine ⟨_, rfl, rfl, _, rfl, ?_⟩
      by_cases e : n = 0
      · subst e
        exact iteT kq
      rw [decide_eq_false (fun z => e (by have := V.int.inj z; omega))]
      refine iteF ?_
      refine ⟨_, rfl, _, _, rfl, rfl, ⟨by decide, by decide⟩, _, rfl, _, _, rfl, rfl, ⟨by decide, by decide⟩, n / 2, ?_, ?_, _, _, rfl, rfl, ?_⟩
      · show [V.int ((n : Int) / 2)] = _
        rw [show (n : Int) / 2 = ((n / 2 : Nat) : Int) by omega]
      · rw [Nat.pow_succ] at hn; omega
      · rw [tw_pos e] at kq
        show Q (V.int ((n : Int) / 2 + (tw (n / 2) : Int))) H
        rw [show (n : Int) / 2 + (tw (n / 2) : Int) = ((n / 2 + tw (n / 2) : Nat) : Int) by omega]
        exact kq
end
end My

set_option pp.maxSteps 300
set_option Elab.async false
set_option linter.all false
set_option maxRecDepth 100000
set_option maxHeartbeats 1000000
namespace My
open PySem L2 MyR GenZ
theorem op_catAN {X : Cx} {K : PySem.W.Frag} (h : X.K = K) : OpR X (binaryOp .Add) (rCatA K) := h ▸ op_catA
section
variable {P : Program} {w : World} {K : PySem.W.Frag} {mg : Str → Option Value} {base : Heap}
abbrev s_law_vectors : Stmt := top 12
abbrev N_law_vectors : List Str := ["_law_many", "_law_bits", "_law_found", "_law_first", "_law_rest"]
theorem sc_law_vectors : FnScope N_law_vectors ["_law_many", "_law_bits"] (defScope s_law_vectors) := ⟨rfl, rfl, rfl, by decide +kernel, rfl, by decide +kernel, by decide +kernel⟩
theorem ok_law_vectors {f : Addr} {fd : FuncData} (F : Fun K "_law_vectors" "_law_vectors" s_law_vectors f fd) (T : Glob mg) (D_law_twos : Df P w K mg base 8 "_law_twos" ["_law_number"] (spTwB 7)) (g : mg "_law_vectors" = some (.ref f)) (kp : PySem.W.keepIn K (.ref f) = true) (bb : Binds K fd ["_law_many", "_law_bits"] []) :
    ∀ m, FnOk P w K mg base CX0 (m + 9) f fd ["_law_many", "_law_bits"] (spVecs m)
  | 0 => by
    refine F.ok sc_law_vectors (fun vs H Q E h => ?_) (fun cdv A outer s H vs Q E hr h => ?_)
    · obtain ⟨b, rfl, _⟩ := h
      rfl
    · obtain ⟨b, rfl, hb1, hb, hv, hm, kq⟩ := h
      have nd := sc_law_vectors.nd
      refine ⟨_, (pss_cons (ps_if (pt_cmpR op_eq (pv 0) pe_int (nomark _))
      (pss_one (ps_ret (pe_lst (pa_cons (pe_tup pa_nil) pa_nil))))
      pss_nil)
      (pss_cons ps_never (pss_cons ps_never (pss_one ps_never)))), ?_⟩
      refine ⟨_, rfl, rfl, _, rfl, iteT ?_⟩
      refine ⟨(by show 0 ≤ sizeLine; decide), fun t ht => ⟨(by show 1 ≤ sizeLine; decide), fun L hL => ?_⟩⟩
      have s1 := new_same (o := .tup []) ht
      have s2 := new_same (o := .lst [.ref t]) hL
      refine kq L _ (same_free s1 hL) (Same.tr s1 s2) ⟨[t], upd_same, rfl, fun i xs e => ?_⟩
      match i, e with
      | 0, e =>
        cases e
        exact ⟨t, rfl, s2 _ _ upd_same⟩
      | i + 1, e => simp [dV, vecs] at e
  | m + 1 => by
    have ih := ok_law_vectors F T D_law_twos g kp bb m
    refine F.ok sc_law_vectors (fun vs H Q E h => ?_) (fun cdv A outer s H vs Q E hr h => ?_)
    · obtain ⟨b, rfl, _⟩ := h
      rfl
    · obtain ⟨b, rfl, hb1, hb, hv, hm, kq⟩ := h
      have nd := sc_law_vectors.nd
      refine ⟨_, (pss_cons (ps_if (pt_cmpR op_eq (pv 0) pe_int (nomark _))
      (pss_one ps_never)
      pss_nil)
      (pss_cons (ps_asg (pe_tup (pa_cons (pe_lst pa_nil) (pa_cons pe_int pa_nil))) (pg_tup (by rfl) (pgs_cons (pg_name (i := 2) nd rfl (Or.inl rfl)) (pgs_cons (pg_name (i := 3) nd rfl (Or.inr rfl)) pgs_nil))))
      (pss_cons (ps_while PassesOwn.never (pt_cmpR op_lt (pe_call D_law_twos.ok (hr.mono (by omega)) (by rfl) D_law_twos.g D_law_twos.kp D_law_twos.b .nil pass0 (pa_cons (pv 3) pa_nil)) (pv 1) (nomark _))
      (pss_cons (ps_expr (pe_bm PySem.F.plainAttrs_list PySem.F.slot_list_extend PySem.F.type_list_extend mt_extend (pv 2) (pa_cons (pe_lc (own := [("_law_rest", 4)]) (g := gName 4) (tt := tYes) rfl nd (pi_list (pe_call ih hr (by rfl) g kp bb .nil pass0 (pa_cons (pe_op op_sub (pv 0) pe_int) (pa_cons (pe_op op_sub (pv 1) (pe_call D_law_twos.ok (hr.mono (by omega)) (by rfl) D_law_twos.g D_law_twos.kp D_law_twos.b .nil pass0 (pa_cons (pv 3) pa_nil))) pa_nil)))) (blkOk_by (N := N_law_vectors) (sc := defScope s_law_vectors) (by decide +kernel)) (fun _ _ _ _ _ => pg_name (i := 4) nd rfl (Or.inl rfl)) (fun _ _ _ _ _ => pts_nil) (fun _ _ _ _ _ => (pe_op (op_catAN (K := K) rfl) (pe_tup (pa_cons (pv 3) pa_nil)) (pv 4)))) pa_nil)))
      (pss_one (ps_set (i := 3) nd rfl (Or.inr rfl) (pe_op op_add (pv 3) pe_int)))))
      (pss_one (ps_ret (pv 2)))))), ?_⟩
      have zl : 16777216 = sizeLine := sizeLine_eq.symm
      have hm1 : ((m + 1 : Nat) : Int) ≠ 0 := by omega
      have hW := W_66 hb
      have hvt : vecsTo m b (W b) = vecs (m + 1) b := rfl
      refine seq_by (fun σ H1 => H1 = H ∧ σ = [some (.int ((m + 1 : Nat) : Int)), some (.int (b : Int)), none, none, none]) (fun D' hD' => ?_) ?_
      · refine ⟨_, rfl, rfl, _, rfl, ?_⟩
        rw [decide_eq_false (fun z => hm1 (V.int.inj z))]
        exact iteF (hD' _ _ ⟨rfl, rfl⟩)
      rintro σ H1 ⟨rfl, rfl⟩
      refine seq_by (fun σ H2 => ∃ L : Addr, σ = [some (.int ((m + 1 : Nat) : Int)), some (.int (b : Int)), some (.ref L), some (.int 0), none] ∧ Same H1 H2 ∧ LTI H2 L [] ∧ H1 L = none) (fun D' hD' => ?_) ?_
      · refine ⟨(by show 0 ≤ sizeLine; omega), fun L hL => ⟨(by show 2 ≤ sizeLine; omega), fun Tt hT => ?_⟩⟩
        have s2 := new_same (o := .lst []) hL
        have s3 := new_same (o := .tup [V.ref L, V.int 0]) hT
        exact ⟨Tt, _, rfl, SqT.of upd_same, rfl, _, _, rfl, _, _, rfl, rfl, hD' _ _ ⟨L, rfl, Same.tr s2 s3, ⟨[], s3 _ _ upd_same, rfl, fun i xs e => by simp at e⟩, hL⟩⟩
      rintro σ H2 ⟨L, rfl, s2, hl2, hLn⟩
      refine seq_by (fun σ H3 => ∃ a3 a4 : Option V, σ = [some (.int ((m + 1 : Nat) : Int)), some (.int (b : Int)), some (.ref L), a3, a4] ∧ Same H1 H3 ∧ LTI H3 L (dV b (m + 1))) (fun D' hD' => ?_) ?_
      · refine while_by (fun σ H4 => ∃ (j : Nat) (a4 : Option V), σ = [some (.int ((m + 1 : Nat) : Int)), some (.int (b : Int)), some (.ref L), some (.int (j : Int)), a4] ∧ j ≤ W b ∧ Same H1 H4 ∧ LTI H4 L ((vecsTo m b j).map dI)) (fun σ _ => match σ with | [_, _, _, some (.int j), _] => W b - j.toNat | _ => 0)
          ⟨0, none, rfl, Nat.zero_le _, s2, hl2⟩ ?_ ?_
        · rintro σ H4 ⟨j, a4, rfl, hjW, s4, hl4⟩
          refine ⟨_, rfl, j, rfl, (by show j < 128; omega), _, rfl, _, _, rfl, rfl, _, rfl, ?_⟩
          refine ite2 (fun h => ?_) (fun h => ?_)
          · have h : (tw j : Int) < (b : Int) := of_decide_eq_true h
            have hj : j < W b := W_iff.mp (by omega)
            have htj : tw j < b := by omega
            obtain ⟨us, u1, u2, u3⟩ := hl4.lenV
            have hsub : (vecs m (b - tw j)).length ≤ (vecs (m + 1) b).length := by
              rw [← hvt]
              have h1 := vecsTo_le m b (j + 1) (W b) hj
              rw [vecsTo_succ, List.length_append, List.length_map] at h1
              omega
            refine ⟨_, rfl, .inl ⟨rfl, _, SqL.of u1⟩, _, rfl, _, _, rfl, rfl, _, rfl, _, rfl, j, rfl, (by show j < 128; omega), _, _, rfl, rfl, b - tw j, ?_, by omega, by omega, by omega, by omega, fun V1 H5 hV1 s5 hl5 => ?_⟩
            · rw [show ((b - tw j : Nat) : Int) = (b : Int) - (tw j : Int) from by omega, show ((m : Nat) : Int) = ((m + 1 : Nat) : Int) - 1 from by omega]
              rfl
            obtain ⟨ws, w1, w2, w3⟩ := hl5.lenV
            refine ⟨V1, rfl, ⟨_, SqL.of w1⟩, fun G hG => ?_⟩
            refine lc_list (xs := ws) (fun i H6 => Same H5 H6 ∧ LTI H6 G (((vecs m (b - tw j)).take i).map fun v => dI (j :: v))) ⟨new_same hG, [], upd_same, rfl, fun i xs e => by simp at e⟩ (fun i H6 _ h => SqL.of (h.1 _ _ w1)) ?_ ?_
            · rintro i y H6 hy ⟨s6, h6⟩
              have hi : i < (vecs m (b - tw j)).length := by
                have := (List.getElem?_eq_some_iff.mp hy).1
                rw [w2] at this
                unfold dV at this
                rw [List.length_map] at this
                exact this
              have hvi := List.getElem?_eq_getElem hi
              obtain ⟨p, p1, p2⟩ := w3 i (dI (vecs m (b - tw j))[i]) (by unfold dV; rw [List.getElem?_map, hvi]; rfl)
              rw [hy] at p1
              obtain rfl := Option.some.inj p1
              refine ⟨rfl, ?_⟩
              dsimp only [tYes]
              rw [if_pos rfl]
              refine ⟨_, rfl, (by show 1 ≤ sizeLine; omega), fun t ht => ⟨_, rfl, ?_⟩⟩
              have s7' := new_same (o := .tup [V.int (j : Int)]) ht
              have s7 := s6.trans s7'
              have h7 := h6.same s7'
              have ht7 : TupI (upd H6 t (.tup [V.int (j : Int)])) t [(j : Int)] := upd_same
              have fin : ∀ (q : Addr) (H8 : Hp), Same (upd H6 t (.tup [V.int (j : Int)])) H8 → TupI H8 q (dI (j :: (vecs m (b - tw j))[i])) → ∃ acc, H8 G = some (.lst acc) ∧ acc.length < sizeLine ∧ Same H5 (upd H8 G (.lst (acc ++ [.ref q]))) ∧ LTI (upd H8 G (.lst (acc ++ [.ref q]))) G (((vecs m (b - tw j)).take (i + 1)).map fun v => dI (j :: v)) := fun q H8 s8 hq => by
                obtain ⟨acc, a1, a2, a3⟩ := lti_app (h7.same s8) hq (by rw [List.length_map, List.length_take]; omega)
                refine ⟨acc, a1, a2, same_up (s7.trans s8) hG, ?_⟩
                rw [List.take_succ, hvi, List.map_append]
                exact a3
              have p7 := (p2.same s6).same s7'
              refine ⟨t, p, _, _, rfl, rfl, SqT.of upd_same, SqT.of p7, ?_, fun e => (by cases e), fun _ e => ?_, fun _ ne q hq => ?_⟩
              · rw [List.length_map]
                unfold dI
                rw [List.length_map]
                have : (vecs m (b - tw j))[i].length = m := vecs_mem m _ _ (List.getElem_mem hi)
                rw [this]
                show 1 + m ≤ sizeLine
                omega
              · refine fin t _ (fun _ _ e => e) ?_
                have e2 : (vecs m (b - tw j))[i] = [] := by
                  have := List.map_eq_nil_iff.mp e
                  exact List.map_eq_nil_iff.mp this
                rw [e2]
                exact ht7
              · exact fin q _ (new_same hq) upd_same
            · rintro H6 ⟨s6, h6⟩
              rw [w2] at h6
              unfold dV at h6
              rw [List.length_map, List.take_length] at h6
              have s56 := s5.trans s6
              have hl6 := hl4.same s56
              obtain ⟨gs, g1, g2, g3⟩ := h6.lenV
              rw [List.length_map] at g2
              have hul : us.length ≤ 5000 := by
                rw [u2, List.length_map]
                have := vecsTo_le m b j (W b) (Nat.le_of_lt hj)
                rw [hvt] at this
                omega
              refine ⟨L, G, _, _, rfl, rfl, s56 _ _ u1, g1, by omega, ?_⟩
              refine ⟨_, rfl, _, _, rfl, rfl, ⟨j + 1, _, rfl, hj, same_up (Same.tr s4 s56) hLn, ?_⟩, ?_⟩
              · rw [vecsTo_succ, List.map_append, List.map_map]
                exact lti_ext hl6 h6 (s56 _ _ u1) g1
              · show W b - ((j : Int) + 1).toNat < W b - ((j : Int)).toNat
                omega
          · have h : ¬ (tw j : Int) < (b : Int) := fun z => h (decide_eq_true z)
            have hj : j = W b := by
              have : ¬ j < W b := fun z => h (by have := W_iff.mpr z; omega)
              omega
            subst hj
            exact hD' _ _ ⟨_, _, rfl, s4, hl4⟩
        · intro σ H1 Q Q' f h
          obtain ⟨x, e1, n, e2, e3, y, e4, i, j, e5, e6, b1, eb, hc⟩ := h
          exact ⟨x, e1, n, e2, e3, y, e4, i, j, e5, e6, b1, eb, f _ _ hc⟩
      rintro σ H3 ⟨a3, a4, rfl, s3, hl3⟩
      exact ⟨_, rfl, kq L H3 hLn s3 hl3⟩
end
end My

set_option pp.maxSteps 300
set_option Elab.async false
set_option linter.all false
set_option maxRecDepth 100000
set_option maxHeartbeats 1000000
namespace My
open PySem L2 MyR GenZ
theorem cut_drop (xs : List V) (i : Nat) : cutV xs (some (i : Int)) none = xs.drop i := by
  unfold cutV
  rw [HT.sIx_nat]
  show (xs.drop (min i xs.length)).take (xs.length - min i xs.length) = xs.drop i
  by_cases h : i ≤ xs.length
  · rw [Nat.min_eq_left h, List.take_of_length_le (by rw [List.length_drop]; omega)]
  · rw [Nat.min_eq_right (by omega), List.drop_length, List.take_nil, List.drop_of_length_le (by omega)]
/-- all residues of some depths -/
def allR : List Nat → List (List Int)
  | [] => [[]]
  | d :: ds => (List.range (2 ^ d)).flatMap fun (x : Nat) => (allR ds).map ((x : Int) :: ·)
theorem allR_in {ds : List Nat} : ∀ {r : List Int}, r ∈ allR ds → r.length = ds.length := by
  induction ds with
  | nil => intro r h; rw [List.mem_singleton.mp h]; rfl
  | cons d ds ih =>
    intro r h
    obtain ⟨x, _, h⟩ := List.mem_flatMap.mp h
    obtain ⟨q, hq, rfl⟩ := List.mem_map.mp h
    rw [List.length_cons, List.length_cons, ih hq]
theorem allR_len : ∀ ds : List Nat, (allR ds).length = 2 ^ ds.sum
  | [] => rfl
  | d :: ds => by
    have : ∀ n, ((List.range n).flatMap fun (x : Nat) => (allR ds).map ((x : Int) :: ·)).length = n * 2 ^ ds.sum := by
      intro n
      induction n with
      | zero => simp
      | succ n ih =>
        rw [List.range_succ, List.flatMap_append, List.length_append, ih]
        simp [allR_len ds, Nat.add_mul]
    show ((List.range (2 ^ d)).flatMap fun (x : Nat) => (allR ds).map ((x : Int) :: ·)).length = _
    rw [this, List.sum_cons, Nat.pow_add]
def spLres (j : Nat) : Sp := fun vs H Q _ => ∃ (a : Addr) (ds : List Nat), vs = [.ref a] ∧ LI H a (dI ds) ∧ ds.length = j ∧ (∀ d ∈ ds, d ≤ 1) ∧ j ≤ 3 ∧ ∀ (L : Addr) H', H L = none → Same H H' → LTI H' L (allR ds) → Q (.ref L) H'
section
variable {P : Program} {w : World} {K : PySem.W.Frag} {mg : Str → Option Value} {base : Heap}
abbrev s_law_residues : Stmt := top 13
abbrev N_law_residues : List Str := ["_law_loss", "_law_found", "_law_inner", "_law_first", "_law_rest"]
theorem sc_law_residues : FnScope N_law_residues ["_law_loss"] (defScope s_law_residues) := ⟨rfl, rfl, rfl, by decide +kernel, rfl, by decide +kernel, by decide +kernel⟩
theorem ok_law_residues {f : Addr} {fd : FuncData} (F : Fun K "_law_residues" "_law_residues" s_law_residues f fd) (T : Glob mg) (g : mg "_law_residues" = some (.ref f)) (kp : PySem.W.keepIn K (.ref f) = true) (bb : Binds K fd ["_law_loss"] []) :
    ∀ j, FnOk P w K mg base CX0 (j + 1) f fd ["_law_loss"] (spLres j)
  | 0 => by
    refine F.ok sc_law_residues (fun vs H Q E h => ?_) (fun cdv A outer s H vs Q E hr h => ?_)
    · obtain ⟨a, ds, rfl, _⟩ := h
      rfl
    · obtain ⟨a, ds, rfl, ha, hj, hd, hj3, kq⟩ := h
      have nd := sc_law_residues.nd
      refine ⟨_, (pss_cons (ps_if (pt_cmpR op_eq (pe_callB call_len_seq (by rfl) T.g_len PySem.boot_len (pa_cons (pv 0) pa_nil)) pe_int (nomark _))
      (pss_one (ps_ret (pe_lst (pa_cons (pe_tup pa_nil) pa_nil))))
      pss_nil)
      (pss_cons ps_never (pss_cons ps_never (pss_one ps_never)))), ?_⟩
      obtain rfl : ds = [] := List.length_eq_zero_iff.mp hj
      refine ⟨_, rfl, a, _, rfl, .inl (SqL.of ha), rfl, _, rfl, iteT ?_⟩
      refine ⟨(by show 0 ≤ sizeLine; decide), fun t ht => ⟨(by show 1 ≤ sizeLine; decide), fun L hL => ?_⟩⟩
      have s1 := new_same (o := .tup []) ht
      have s2 := new_same (o := .lst [.ref t]) hL
      refine kq L _ (same_free s1 hL) (Same.tr s1 s2) ⟨[t], upd_same, rfl, fun i xs e => ?_⟩
      match i, e with
      | 0, e =>
        cases e
        exact ⟨t, rfl, s2 _ _ upd_same⟩
      | i + 1, e => simp [allR] at e
  | j + 1 => by
    have ih := ok_law_residues F T g kp bb j
    refine F.ok sc_law_residues (fun vs H Q E h => ?_) (fun cdv A outer s H vs Q E hr h => ?_)
    · obtain ⟨a, ds, rfl, _⟩ := h
      rfl
    · obtain ⟨a, ds, rfl, ha, hj, hd, hj3, kq⟩ := h
      have nd := sc_law_residues.nd
      refine ⟨_, (pss_cons (ps_if (pt_cmpR op_eq (pe_callB call_len_seq (by rfl) T.g_len PySem.boot_len (pa_cons (pv 0) pa_nil)) pe_int (nomark _))
      (pss_one ps_never)
      pss_nil)
      (pss_cons (ps_par (i := 1) (j := 2) rfl nd rfl rfl (by decide) rfl rfl (pa_cons (pe_lst pa_nil) (pa_cons (pe_call ih hr (by rfl) g kp bb .nil pass0 (pa_cons (pe_slice sl_list (pv 0) (po_some pe_int) po_none) pa_nil)) pa_nil)) (by rfl))
      (pss_cons (ps_for PassesOwn.never rfl (pi_range1 (by rfl) T.g_range (pa_cons (pe_op op_shl pe_int (pe_ix ix_list (pv 0) pe_int (fun _ _ => rfl))) pa_nil)) (pg_name (i := 3) nd rfl (Or.inr rfl))
      (pss_one (ps_expr (pe_bm PySem.F.plainAttrs_list PySem.F.slot_list_extend PySem.F.type_list_extend mt_extend (pv 1) (pa_cons (pe_lc (own := [("_law_rest", 4)]) (g := gName 4) (tt := tYes) rfl nd (pi_list (pv 2)) (blkOk_by (N := N_law_residues) (sc := defScope s_law_residues) (by decide +kernel)) (fun _ _ _ _ _ => pg_name (i := 4) nd rfl (Or.inl rfl)) (fun _ _ _ _ _ => pts_nil) (fun _ _ _ _ _ => (pe_op (op_catAN (K := K) rfl) (pe_tup (pa_cons (pv 3) pa_nil)) (pv 4)))) pa_nil)))))
      (pss_one (ps_ret (pv 1)))))), ?_⟩
      have zl : 16777216 = sizeLine := sizeLine_eq.symm
      obtain ⟨d, ds, rfl⟩ : ∃ d es, ds = d :: es := by
        cases ds with
        | nil => cases hj
        | cons d es => exact ⟨d, es, rfl⟩
      have hjl : ds.length = j := by rw [List.length_cons] at hj; omega
      have hd1 := hd d List.mem_cons_self
      have hds : ∀ x ∈ ds, x ≤ 1 := fun x hx => hd x (List.mem_cons_of_mem _ hx)
      obtain ⟨N, hNN⟩ : ∃ N : Nat, N = 2 ^ d := ⟨_, rfl⟩
      have hN : N ≤ 2 := by
        rw [hNN]
        have : d = 0 ∨ d = 1 := by omega
        rcases this with h | h <;> rw [h] <;> decide
      have hsum : (allR ds).length ≤ 8 := by
        rw [allR_len]
        have : ds.sum ≤ 3 := by
          have : ∀ xs : List Nat, (∀ x ∈ xs, x ≤ 1) → xs.sum ≤ xs.length := by
            intro xs
            induction xs with
            | nil => intro _; exact Nat.le_refl _
            | cons x xs ih =>
              intro h
              rw [List.sum_cons, List.length_cons]
              have := h x List.mem_cons_self
              have := ih fun y hy => h y (List.mem_cons_of_mem _ hy)
              omega
          have := this ds hds
          omega
        exact Nat.pow_le_pow_right (n := 2) (by decide) this
      refine seq_by (fun σ H1 => H1 = H ∧ σ = [some (.ref a), none, none, none, none]) (fun D' hD' => ?_) ?_
      · refine ⟨_, rfl, a, _, rfl, .inl (SqL.of ha), rfl, _, rfl, ?_⟩
        rw [decide_eq_false (fun z => by
          have z := V.int.inj z
          rw [List.length_map] at z
          unfold dI at z
          rw [List.length_map, List.length_cons] at z
          omega)]
        exact iteF (hD' _ _ ⟨rfl, rfl⟩)
      rintro σ H1 ⟨rfl, rfl⟩
      refine seq_by (fun σ H2 => ∃ L Z : Addr, σ = [some (.ref a), some (.ref L), some (.ref Z), none, none] ∧ Same H1 H2 ∧ LTI H2 L [] ∧ LTI H2 Z (allR ds) ∧ H1 L = none ∧ L ≠ Z) (fun D' hD' => ?_) ?_
      · refine ⟨(by show 0 ≤ sizeLine; omega), fun L hL => ?_⟩
        have s1 := new_same (o := .lst []) hL
        refine ⟨_, rfl, _, rfl, ?_⟩
        dsimp only [tNoPart]
        refine ⟨a, _, rfl, SqL.of (ha.same s1), fun R hR => ?_⟩
        have hcut : cutV ((dI (d :: ds)).map V.int) (some 1) none = (dI ds).map V.int := cut_drop _ 1
        rw [hcut]
        have s2 := new_same (o := .lst ((dI ds).map V.int)) hR
        refine ⟨R, ds, rfl, upd_same, hjl, hds, by omega, fun Z H2 hZ s3 hz => ?_⟩
        have sL : Same H1 H2 := Same.tr (Same.tr s1 s2) s3
        have hLu : H2 L = some (.lst []) := s3 _ _ (s2 _ _ upd_same)
        refine ⟨_, _, rfl, hD' _ _ ⟨L, Z, rfl, sL, ⟨[], hLu, rfl, fun i xs e => by simp at e⟩, hz, hL, fun z => ?_⟩⟩
        rw [← z] at hZ
        have := s2 _ _ (upd_same : upd H1 L (.lst []) L = _)
        rw [hZ] at this
        cases this
      rintro σ H2 ⟨L, Z, rfl, s2, hl2, hz2, hLn, nLZ⟩
      have a0 : atI ((dI (d :: ds)).map V.int) 0 = some (.int (d : Int)) := by
        have := atI_nat (map_at_int (xs := dI (d :: ds)) (k := 0) (v := (d : Int)) rfl)
        exact this
      refine ⟨_, rfl, a, _, _, _, rfl, rfl, SqL.of (ha.same s2), a0, _, _, rfl, rfl, ⟨by omega, by omega, by decide⟩, (N : Int), ?_, by omega, by omega, ?_⟩
      · show [V.int (1 * 2 ^ (d : Int).toNat)] = _
        rw [Int.toNat_natCast, Int.one_mul, hNN, pow_cast]
      rw [Int.toNat_natCast]
      refine for_range (fun i σ H4 => ∃ a3 a4 : Option V, σ = [some (.ref a), some (.ref L), some (.ref Z), a3, a4] ∧ Same H1 H4 ∧ LTI H4 Z (allR ds) ∧ LTI H4 L ((List.range i).flatMap fun (x : Nat) => (allR ds).map ((x : Int) :: ·)))
        ⟨none, none, rfl, s2, hz2, hl2⟩ ?_ ?_
      · rintro i σ H4 hi ⟨a3, a4, rfl, s4, hz4, hl4⟩
        rw [show (0 : Int) + (i : Int) = (i : Int) by omega]
        obtain ⟨us, u1, u2, u3⟩ := hl4.lenV
        obtain ⟨ws, w1, w2, w3⟩ := hz4.lenV
        refine ⟨_, rfl, .inl ⟨rfl, _, SqL.of u1⟩, ?_⟩
        refine ⟨_, rfl, Z, rfl, ⟨_, SqL.of w1⟩, fun G hG => ?_⟩
        refine lc_list (xs := ws) (fun k H6 => Same H4 H6 ∧ LTI H6 G (((allR ds).take k).map fun v => (i : Int) :: v)) ⟨new_same hG, [], upd_same, rfl, fun i xs e => by simp at e⟩ (fun k H6 _ h => SqL.of (h.1 _ _ w1)) ?_ ?_
        · rintro k y H6 hy ⟨s6, h6⟩
          have hk : k < (allR ds).length := by
            have := (List.getElem?_eq_some_iff.mp hy).1
            omega
          have hvi := List.getElem?_eq_getElem hk
          obtain ⟨p, p1, p2⟩ := w3 k _ hvi
          rw [hy] at p1
          obtain rfl := Option.some.inj p1
          refine ⟨rfl, ?_⟩
          dsimp only [tYes]
          rw [if_pos rfl]
          refine ⟨_, rfl, (by show 1 ≤ sizeLine; omega), fun t ht => ⟨_, rfl, ?_⟩⟩
          have s7' := new_same (o := .tup [V.int (i : Int)]) ht
          have s7 := s6.trans s7'
          have h7 := h6.same s7'
          have ht7 : TupI (upd H6 t (.tup [V.int (i : Int)])) t [(i : Int)] := upd_same
          have fin : ∀ (q : Addr) (H8 : Hp), Same (upd H6 t (.tup [V.int (i : Int)])) H8 → TupI H8 q ((i : Int) :: (allR ds)[k]) → ∃ acc, H8 G = some (.lst acc) ∧ acc.length < sizeLine ∧ Same H4 (upd H8 G (.lst (acc ++ [.ref q]))) ∧ LTI (upd H8 G (.lst (acc ++ [.ref q]))) G (((allR ds).take (k + 1)).map fun v => (i : Int) :: v) := fun q H8 s8 hq => by
            obtain ⟨acc, a1, a2, a3⟩ := lti_app (h7.same s8) hq (by rw [List.length_map, List.length_take]; omega)
            refine ⟨acc, a1, a2, same_up (s7.trans s8) hG, ?_⟩
            rw [List.take_succ, hvi, List.map_append]
            exact a3
          have p7 := (p2.same s6).same s7'
          have hrl := allR_in (List.getElem_mem hk)
          refine ⟨t, p, _, _, rfl, rfl, SqT.of upd_same, SqT.of p7, ?_, fun e => (by cases e), fun _ e => ?_, fun _ ne q hq => ?_⟩
          · rw [List.length_map, hrl]
            show 1 + ds.length ≤ sizeLine
            omega
          · refine fin t _ (fun _ _ e => e) ?_
            have e2 : (allR ds)[k] = [] := List.map_eq_nil_iff.mp e
            rw [e2]
            exact ht7
          · exact fin q _ (new_same hq) upd_same
        · rintro H6 ⟨s6, h6⟩
          rw [w2, List.take_length] at h6
          have hl6 := hl4.same s6
          obtain ⟨gs, g1, g2, g3⟩ := h6.lenV
          rw [List.length_map] at g2
          have hul : us.length ≤ 16 := by
            rw [u2]
            have : ∀ n, ((List.range n).flatMap fun (x : Nat) => (allR ds).map ((x : Int) :: ·)).length = n * (allR ds).length := by
              intro n
              induction n with
              | zero => simp
              | succ n ih =>
                rw [List.range_succ, List.flatMap_append, List.length_append, ih]
                simp [Nat.add_mul]
            rw [this]
            have : i ≤ 1 := by omega
            have := Nat.mul_le_mul this hsum
            omega
          refine ⟨L, G, _, _, rfl, rfl, s6 _ _ u1, g1, by omega, ?_⟩
          have hZL : ∀ {H' : Hp} {o : HO}, LTI H' Z (allR ds) → H' L = some (.lst us) → LTI (upd H' L o) Z (allR ds) := fun {H' o} h hL' => by
            obtain ⟨as, e1, e2, e3⟩ := h
            refine ⟨as, by rw [upd_ne (Ne.symm nLZ)]; exact e1, e2, fun i xs e => ?_⟩
            obtain ⟨q, q1, q2⟩ := e3 i xs e
            refine ⟨q, q1, ?_⟩
            show upd H' L o q = _
            rw [upd_ne]
            · exact q2
            · rintro rfl
              have q2 : H' q = _ := q2
              rw [hL'] at q2
              cases q2
          refine ⟨_, _, rfl, same_up (Same.tr s4 s6) hLn, hZL (hz4.same s6) (s6 _ _ u1), ?_⟩
          rw [List.range_succ, List.flatMap_append, List.flatMap_cons, List.flatMap_nil, List.append_nil]
          exact lti_ext hl6 h6 (s6 _ _ u1) g1
      · rintro σ H4 ⟨a3, a4, rfl, s4, _, hl4⟩
        rw [hNN] at hl4
        exact ⟨_, rfl, kq L H4 hLn s4 hl4⟩
end
end My

set_option pp.maxSteps 300
set_option Elab.async false
set_option linter.all false
set_option maxRecDepth 100000
set_option maxHeartbeats 1000000
namespace My
open PySem L2 MyR GenZ
theorem fm_congr {α β : Type} {f g : α → List β} : ∀ {xs : List α}, (∀ x ∈ xs, f x = g x) → xs.flatMap f = xs.flatMap g
  | [], _ => rfl
  | x :: xs, h => by rw [List.flatMap_cons, List.flatMap_cons, h x (List.mem_cons_self ..), fm_congr fun y hy => h y (List.mem_cons_of_mem _ hy)]
theorem fm_single {α β : Type} {f : α → β} : ∀ {xs : List α}, (xs.flatMap fun x => [f x]) = xs.map f
  | [] => rfl
  | x :: xs => by rw [List.flatMap_cons, fm_single, List.map_cons]; rfl
theorem range_mul {β : Type} (F : Nat → List β) (c : Nat) : ∀ a, (List.range (a * c)).flatMap F = (List.range a).flatMap fun x => (List.range c).flatMap fun y => F (x * c + y)
  | 0 => by rw [Nat.zero_mul]; rfl
  | a + 1 => by
    rw [Nat.succ_mul, List.range_add, List.flatMap_append, range_mul F c a, List.range_succ, List.flatMap_append, List.flatMap_map]
    congr 1
    rw [List.flatMap_cons, List.flatMap_nil, List.append_nil]
theorem fm_const {α β : Type} {f : α → List β} {n : Nat} : ∀ {xs : List α}, (∀ x ∈ xs, (f x).length = n) → (xs.flatMap f).length = xs.length * n
  | [], _ => by rw [List.flatMap_nil]; exact (Nat.zero_mul n).symm
  | x :: xs, h => by
    rw [List.flatMap_cons, List.length_append, fm_const fun y hy => h y (List.mem_cons_of_mem _ hy), h x (List.mem_cons_self ..), List.length_cons, Nat.succ_mul, Nat.add_comm]
theorem fm_split {α β : Type} (f : α → List β) (xs : List α) (i : Nat) (x : α) (h : xs[i]? = some x) : (xs.take (i + 1)).flatMap f = (xs.take i).flatMap f ++ f x := by
  rw [List.take_succ, h, List.flatMap_append]
  simp
theorem fm_take_le {α β : Type} (f : α → List β) (xs : List α) (i : Nat) : ((xs.take i).flatMap f).length ≤ (xs.flatMap f).length := by
  have : xs.flatMap f = (xs.take i).flatMap f ++ (xs.drop i).flatMap f := by rw [← List.flatMap_append, List.take_append_drop]
  rw [this, List.length_append]
  omega
/-- a list of tuples, its values told -/
def LTV (H : Hp) (R : Addr) (us : List V) (xss : List (List Int)) : Prop := H R = some (.lst us) ∧ us.length = xss.length ∧ ∀ (i : Nat) xs, xss[i]? = some xs → ∃ p, us[i]? = some (.ref p) ∧ TupI H p xs
theorem LTV.same {H H' : Hp} {R : Addr} {us : List V} {xss : List (List Int)} (h : LTV H R us xss) (s : Same H H') : LTV H' R us xss := ⟨s _ _ h.1, h.2.1, fun i xs e => let ⟨p, q1, q2⟩ := h.2.2 i xs e; ⟨p, q1, q2.same s⟩⟩
theorem LTV.updL {H : Hp} {R L : Addr} {us vs : List V} {xss : List (List Int)} {o : HO} (h : LTV H R us xss) (n : R ≠ L) (hL : H L = some (.lst vs)) : LTV (upd H L o) R us xss :=
  ⟨by rw [upd_ne n]; exact h.1, h.2.1, fun i xs e => let ⟨p, q1, q2⟩ := h.2.2 i xs e; ⟨p, q1, by
    have np : p ≠ L := fun z => by
      have q2 : H p = _ := q2
      rw [z, hL] at q2
      cases q2
    show upd H L _ p = _
    rw [upd_ne np]
    exact q2⟩⟩
theorem LTV.at {H : Hp} {R : Addr} {us : List V} {xss : List (List Int)} (h : LTV H R us xss) {k : Nat} {x : V} (hx : us[k]? = some x) : ∃ (p : Addr) (xs : List Int), k < xss.length ∧ xss[k]? = some xs ∧ x = .ref p ∧ TupI H p xs := by
  have hk := (List.getElem?_eq_some_iff.mp hx).1
  rw [h.2.1] at hk
  obtain ⟨p, q1, q2⟩ := h.2.2 k _ (List.getElem?_eq_getElem hk)
  rw [hx] at q1
  exact ⟨p, _, hk, List.getElem?_eq_getElem hk, Option.some.inj q1, q2⟩

/-! ### the residues in their order -/
theorem leftR_eq : ∀ (xs : List Nat) (n : Int), leftR xs n = n / 2 ^ xs.sum
  | [], n => by show n = n / 2 ^ 0; rw [Int.pow_zero, Int.ediv_one]
  | d :: r, n => by
    show leftR r (n / 2 ^ d) = n / 2 ^ (d + r.sum)
    have h2 : (0 : Int) ≤ 2 ^ d := Int.le_of_lt (p2_pos d)
    rw [leftR_eq r, Int.pow_add, Int.ediv_ediv_of_nonneg h2]
theorem resI_cons (d : Nat) (ds : List Nat) (n : Int) : resI (d :: ds) n = (n / 2 ^ ds.sum) % 2 ^ d :: resI ds n := by
  unfold resI
  rw [List.reverse_cons, (resR_snoc ds.reverse d n).1, List.reverse_append, leftR_eq, List.sum_reverse]
  rfl
theorem resR_shift : ∀ (xs : List Nat) (n x : Int), resR xs (n + 2 ^ xs.sum * x) = resR xs n
  | [], n, x => rfl
  | d :: r, n, x => by
    have hp := p2_pos d
    have e : n + 2 ^ (d + r.sum) * x = n + 2 ^ d * (2 ^ r.sum * x) := by rw [Int.pow_add, Int.mul_assoc]
    show (n + 2 ^ (d + r.sum) * x) % 2 ^ d :: resR r ((n + 2 ^ (d + r.sum) * x) / 2 ^ d) = n % 2 ^ d :: resR r (n / 2 ^ d)
    rw [e, Int.add_mul_emod_self_left, Int.add_mul_ediv_left _ _ (by omega), resR_shift r]
theorem resI_shift (ds : List Nat) (n x : Int) : resI ds (n + 2 ^ ds.sum * x) = resI ds n := by
  unfold resI
  have := resR_shift ds.reverse n x
  rw [List.sum_reverse] at this
  rw [this]
theorem allR_eq : ∀ ds : List Nat, allR ds = (List.range (2 ^ ds.sum)).map fun (n : Nat) => resI ds (n : Int)
  | [] => rfl
  | d :: ds => by
    show ((List.range (2 ^ d)).flatMap fun (x : Nat) => (allR ds).map ((x : Int) :: ·)) = _
    rw [List.sum_cons, Nat.pow_add, ← fm_single, range_mul]
    refine fm_congr fun x hx => ?_
    rw [fm_single, allR_eq ds, List.map_map]
    refine List.map_congr_left fun y hy => ?_
    have hx := List.mem_range.mp hx
    have hy := List.mem_range.mp hy
    have hx1 : (x : Int) < 2 ^ d := by rw [← pow_cast]; omega
    have hy1 : (y : Int) < 2 ^ ds.sum := by rw [← pow_cast]; omega
    have hp := p2_pos ds.sum
    have e0 : ((x * 2 ^ ds.sum + y : Nat) : Int) = (y : Int) + 2 ^ ds.sum * (x : Int) := by
      rw [Int.natCast_add, Int.natCast_mul, pow_cast, Int.add_comm, Int.mul_comm]
    show (x : Int) :: resI ds (y : Int) = resI (d :: ds) ((x * 2 ^ ds.sum + y : Nat) : Int)
    rw [resI_cons, e0, resI_shift, Int.add_mul_ediv_left _ _ (by omega), Int.ediv_eq_zero_of_lt (by omega) hy1, Int.zero_add, Int.emod_eq_of_lt (by omega) hx1]
/-- what the law lists -/
def ptsL (ds : List Nat) (b : Nat) : List (List Int) := (allR ds).flatMap fun r => (vecs ds.length b).map (ptI ds r)
theorem ptsL_eq {ds : List Nat} {b : Nat} (hb : 1 ≤ b) : ptsL ds b = (List.range (nP ds b)).map (ptAt ds b) := by
  have hnv : 0 < nV ds b := vecs_pos hb _
  unfold ptsL
  rw [allR_eq, List.flatMap_map, ← fm_single, range_mul]
  refine fm_congr fun x hx => ?_
  rw [fm_single]
  refine List.ext_getElem? fun i => ?_
  rw [List.getElem?_map, List.getElem?_map]
  by_cases hi : i < nV ds b
  · rw [List.getElem?_range hi, List.getElem?_eq_getElem (show i < (vecs ds.length b).length from hi)]
    have hdiv : (x * nV ds b + i) / nV ds b = x := by rw [Nat.mul_comm, Nat.mul_add_div hnv, Nat.div_eq_of_lt hi, Nat.add_zero]
    have hmod : (x * nV ds b + i) % nV ds b = i := by rw [Nat.mul_comm, Nat.mul_add_mod, Nat.mod_eq_of_lt hi]
    show some _ = some (ptAt ds b (x * nV ds b + i))
    unfold ptAt
    rw [hdiv, hmod, List.getD_eq_getElem?_getD, List.getElem?_eq_getElem (show i < (vecs ds.length b).length from hi)]
    rfl
  · rw [List.getElem?_eq_none (show (vecs ds.length b).length ≤ i from Nat.not_lt.mp hi), List.getElem?_eq_none (show (List.range (nV ds b)).length ≤ i by rw [List.length_range]; exact Nat.not_lt.mp hi)]
    rfl
theorem ptsL_len {ds : List Nat} {b : Nat} (hb : 1 ≤ b) : (ptsL ds b).length = nP ds b := by rw [ptsL_eq hb, List.length_map, List.length_range]
end My

set_option pp.maxSteps 300
set_option Elab.async false
set_option linter.all false
set_option maxRecDepth 100000
set_option maxHeartbeats 1000000
namespace My
open PySem L2 MyR GenZ
theorem LTI.lenL {H : Hp} {a : Addr} {xss : List (List Int)} (h : LTI H a xss) : ∃ us, LTV H a us xss := h.lenV
def spVecsA : Sp := fun vs H Q E => ∃ m : Nat, m ≤ 3 ∧ spVecs m vs H Q E
def spLresA : Sp := fun vs H Q E => ∃ j : Nat, j ≤ 3 ∧ spLres j vs H Q E
def spLpts : Sp := fun vs H Q _ => ∃ (a : Addr) (ds : List Nat) (b : Nat), vs = [.ref a, .int (b : Int)] ∧ LI H a (dI ds) ∧ 1 ≤ ds.length ∧ ds.length ≤ 3 ∧ (∀ d ∈ ds, d ≤ 1) ∧ 1 ≤ b ∧ b ≤ 64 ∧ (vecs ds.length b).length < 5000 ∧ ∀ (L : Addr) H', H L = none → Same H H' → LTI H' L (ptsL ds b) → Q (.ref L) H'
theorem sum_le1 : ∀ {xs : List Nat}, (∀ x ∈ xs, x ≤ 1) → xs.sum ≤ xs.length
  | [], _ => Nat.le_refl _
  | x :: xs, h => by
    rw [List.sum_cons, List.length_cons]
    have := h x List.mem_cons_self
    have := sum_le1 fun y hy => h y (List.mem_cons_of_mem _ hy)
    omega
section
variable {P : Program} {w : World} {K : PySem.W.Frag} {mg : Str → Option Value} {base : Heap}
theorem ok_vecsA {f : Addr} {fd : FuncData} {ps : List Str} (h : ∀ m, FnOk P w K mg base CX0 (m + 9) f fd ps (spVecs m)) : FnOk P w K mg base CX0 12 f fd ps spVecsA := by
  refine ⟨fun vs H Q E ⟨m, hm, e⟩ => (h m).len vs H Q E e, fun A outer s H args us vs Q E hr he hb hv ⟨m, hm, hs⟩ => ?_⟩
  exact ((h m).mono (show m + 9 ≤ 12 by omega)).run A outer s H args us vs Q E hr he hb hv hs
theorem ok_lresA {f : Addr} {fd : FuncData} {ps : List Str} (h : ∀ j, FnOk P w K mg base CX0 (j + 1) f fd ps (spLres j)) : FnOk P w K mg base CX0 4 f fd ps spLresA := by
  refine ⟨fun vs H Q E ⟨m, hm, e⟩ => (h m).len vs H Q E e, fun A outer s H args us vs Q E hr he hb hv ⟨m, hm, hs⟩ => ?_⟩
  exact ((h m).mono (show m + 1 ≤ 4 by omega)).run A outer s H args us vs Q E hr he hb hv hs
abbrev s_law_points : Stmt := top 14
abbrev N_law_points : List Str := ["_law_loss", "_law_bits", "_law_found", "_law_inside", "_law_residue", "_law_vector", "_law_r", "_law_z", "_law_d"]
theorem sc_law_points : FnScope N_law_points ["_law_loss", "_law_bits"] (defScope s_law_points) := ⟨rfl, rfl, rfl, by decide +kernel, rfl, by decide +kernel, by decide +kernel⟩
theorem ok_law_points {f : Addr} {fd : FuncData} (F : Fun K "_law_points" "_law_points" s_law_points f fd) (T : Glob mg) (D_law_vectors : Df P w K mg base 12 "_law_vectors" ["_law_many", "_law_bits"] spVecsA) (D_law_residues : Df P w K mg base 4 "_law_residues" ["_law_loss"] spLresA) : FnOk P w K mg base CX0 13 f fd ["_law_loss", "_law_bits"] spLpts := by
  refine F.ok sc_law_points (fun vs H Q E h => ?_) (fun cdv A outer s H vs Q E hr h => ?_)
  · obtain ⟨a, ds, b, rfl, _⟩ := h
    rfl
  · obtain ⟨a, ds, b, rfl, ha, hl1, hl3, hd, hb1, hb, hv, kq⟩ := h
    have nd := sc_law_points.nd
    refine ⟨_, (pss_cons (ps_par (i := 2) (j := 3) rfl nd rfl rfl (by decide) rfl rfl (pa_cons (pe_lst pa_nil) (pa_cons (pe_call D_law_vectors.ok (hr.mono (by decide)) (by rfl) D_law_vectors.g D_law_vectors.kp D_law_vectors.b .nil pass0 (pa_cons (pe_callB call_len_seq (by rfl) T.g_len PySem.boot_len (pa_cons (pv 0) pa_nil)) (pa_cons (pv 1) pa_nil))) pa_nil)) (by rfl))
    (pss_cons (ps_for PassesOwn.never rfl (pi_list (pe_call D_law_residues.ok (hr.mono (by decide)) (by rfl) D_law_residues.g D_law_residues.kp D_law_residues.b .nil pass0 (pa_cons (pv 0) pa_nil))) (pg_name (i := 4) nd rfl (Or.inl rfl))
    (pss_one (ps_for PassesOwn.never rfl (pi_list (pv 3)) (pg_name (i := 5) nd rfl (Or.inl rfl))
    (pss_one (ps_expr (pe_bm PySem.F.plainAttrs_list PySem.F.slot_list_append PySem.F.type_list_append mt_append (pv 2) (pa_cons (pe_callTy call_tuple_of (by rfl) T.g_tuple (by decide +kernel) (pa_cons (pe_lc (own := [("_law_r", 6), ("_law_z", 7), ("_law_d", 8)]) (g := (gTup K 3 (gCons (gName 6) (gCons (gName 7) (gCons (gName 8) gNil))))) (tt := tYes) rfl nd (pi_zipK3 (by rfl) T.g_zip (pa_cons (pv 4) (pa_cons (pv 5) (pa_cons (pv 0) pa_nil)))) (blkOk_by (N := N_law_points) (sc := defScope s_law_points) (by decide +kernel)) (fun _ _ _ _ _ => pg_tup (by rfl) (pgs_cons (pg_name (i := 6) nd rfl (Or.inl rfl)) (pgs_cons (pg_name (i := 7) nd rfl (Or.inl rfl)) (pgs_cons (pg_name (i := 8) nd rfl (Or.inl rfl)) pgs_nil)))) (fun _ _ _ _ _ => pts_nil) (fun _ _ _ _ _ => (pe_op op_add (pv 6) (pe_op op_mul (pv 7) (pe_op op_shl pe_int (pv 8)))))) pa_nil)) pa_nil)))))))
    (pss_one (ps_ret (pv 2))))), ?_⟩
    have zl : 16777216 = sizeLine := sizeLine_eq.symm
    have hdl : ((dI ds).map V.int).length = ds.length := by rw [List.length_map]; unfold dI; rw [List.length_map]
    have hsum : (allR ds).length ≤ 8 := by
      rw [allR_len]
      have := sum_le1 hd
      exact Nat.pow_le_pow_right (n := 2) (by decide) (show ds.sum ≤ 3 by omega)
    refine seq_by (fun σ H1 => ∃ L I : Addr, σ = [some (.ref a), some (.int (b : Int)), some (.ref L), some (.ref I), none, none, none, none, none] ∧ Same H H1 ∧ LTI H1 L [] ∧ LTI H1 I (dV b ds.length) ∧ H L = none ∧ I ≠ L) (fun D' hD' => ?_) ?_
    · refine ⟨(by show 0 ≤ sizeLine; omega), fun L hL => ?_⟩
      have s1 := new_same (o := .lst []) hL
      refine ⟨_, rfl, a, _, rfl, .inl (SqL.of (ha.same s1)), _, rfl, ds.length, hl3, b, ?_, hb1, hb, hv, by omega, fun I H1 hI s2 hi => ?_⟩
      · rw [hdl]; rfl
      have hLu : H1 L = some (.lst []) := s2 _ _ upd_same
      refine ⟨_, _, rfl, hD' _ _ ⟨L, I, rfl, Same.tr s1 s2, ⟨[], hLu, rfl, fun i xs e => by simp at e⟩, hi, hL, fun z => ?_⟩⟩
      rw [z, upd_same] at hI
      cases hI
    rintro σ H1 ⟨L, I, rfl, s1, hl1', hi1, hLn, nIL⟩
    refine ⟨_, rfl, ds.length, hl3, a, ds, rfl, ha.same s1, rfl, hd, hl3, fun R H2 hR s2 hr2 => ?_⟩
    obtain ⟨rs, hrs⟩ := hr2.lenL
    obtain ⟨ws, hws⟩ := (hi1.same s2).lenL
    have nRL : R ≠ L := fun z => by
      obtain ⟨vs, e1, _⟩ := hl1'.lenV
      rw [z, e1] at hR
      cases hR
    have hdv : (dV b ds.length).length = (vecs ds.length b).length := by unfold dV; rw [List.length_map]
    refine ⟨R, rfl, ⟨_, SqL.of hrs.1⟩, ?_⟩
    refine for_list (xs := rs) (fun k σ H5 => ∃ a4 a5 : Option V, σ = [some (.ref a), some (.int (b : Int)), some (.ref L), some (.ref I), a4, a5, none, none, none] ∧ Same H H5 ∧ LTV H5 R rs (allR ds) ∧ LTV H5 I ws (dV b ds.length) ∧ LTI H5 L (((allR ds).take k).flatMap fun r => (vecs ds.length b).map (ptI ds r)))
      ⟨none, none, rfl, Same.tr s1 s2, hrs, hws, hl1'.same s2⟩ (fun k σ H5 _ h => by obtain ⟨_, _, _, _, h, _⟩ := h; exact SqL.of h.1) ?_ ?_
    · clear hl1' hi1 hr2 s1 s2 hrs hws hR
      rintro k x σ H5 hx ⟨a4, a5, rfl, s5, hrs, hws, hl5⟩
      obtain ⟨q, r, hk, hrk, rfl, hq5⟩ := hrs.at hx
      have hrlen := allR_in (List.mem_of_getElem? hrk)
      have htk : (((allR ds).take k).flatMap fun r => (vecs ds.length b).map (ptI ds r)).length ≤ 8 * 5000 := by
        rw [fm_const (n := (vecs ds.length b).length) fun r _ => List.length_map .., List.length_take]
        exact Nat.mul_le_mul (by omega) (by omega)
      refine ⟨_, rfl, I, rfl, ⟨_, SqL.of hws.1⟩, ?_⟩
      refine for_list (xs := ws) (fun i σ H7 => ∃ a5 : Option V, σ = [some (.ref a), some (.int (b : Int)), some (.ref L), some (.ref I), some (.ref q), a5, none, none, none] ∧ Same H H7 ∧ LTV H7 R rs (allR ds) ∧ LTV H7 I ws (dV b ds.length) ∧ TupI H7 q r ∧ LTI H7 L ((((allR ds).take k).flatMap fun r => (vecs ds.length b).map (ptI ds r)) ++ ((vecs ds.length b).take i).map (ptI ds r)))
        ⟨a5, rfl, s5, hrs, hws, hq5, by rw [List.take_zero, List.map_nil, List.append_nil]; exact hl5⟩ (fun i σ H7 _ h => by obtain ⟨_, _, _, _, h, _⟩ := h; exact SqL.of h.1) ?_ ?_
      · clear hl5 hws s5 hrs hq5 a5
        rintro i y σ H7 hy ⟨a5, rfl, s7, hrs, hws, hq7, hl7⟩
        obtain ⟨p, v, hi, hvi, rfl, hp7⟩ := hws.at hy
        have hvv := hvi
        unfold dV at hvv
        rw [List.getElem?_map] at hvv
        obtain ⟨u, hu, rfl⟩ := Option.map_eq_some_iff.mp hvv
        have hum := List.mem_of_getElem? hu
        have hul := vecs_mem _ _ u hum
        have hub : ∀ j, j < ds.length → ∃ z : Nat, (dI u)[j]? = some (z : Int) ∧ (dI u).getD j 0 = (z : Int) ∧ z < 66 := fun j hj => by
          have hj' : u[j]? = some u[j] := List.getElem?_eq_getElem (by omega)
          have e : (dI u)[j]? = some ((u[j] : Nat) : Int) := by unfold dI; rw [List.getElem?_map, hj']; rfl
          exact ⟨u[j], e, by rw [List.getD_eq_getElem?_getD, e]; rfl, vecs_ent hb _ _ u (Nat.le_refl _) hum _ (List.getElem_mem _)⟩
        have hdul : ((dI u).map V.int).length = ds.length := by rw [List.length_map]; unfold dI; rw [List.length_map, hul]
        have hrll : (r.map V.int).length = ds.length := by rw [List.length_map, hrlen]
        obtain ⟨vs, v1, v2, _⟩ := hl7.lenV
        refine ⟨_, rfl, .inl ⟨rfl, _, SqL.of v1⟩, ?_⟩
        refine ⟨_, rfl, _, rfl, _, rfl, true, true, false, q, p, a, _, _, _, rfl, sqK_t (SqT.of hq7), sqK_t (SqT.of hp7), sqK_l (SqL.of (ha.same s7)), fun D hD => ?_⟩
        refine lc_it (walk_zipK3 (by rw [hrll, hdul]) (by rw [hrll, hdl])) (fun j H8 => Same H7 H8 ∧ LI H8 D ((List.range j).map fun i => r.getD i 0 + (dI u).getD i 0 * 2 ^ ds.getD i 0)) ⟨new_same hD, upd_same⟩ (fun j H8 _ h => ⟨sqK_t (SqT.of (hq7.same h.1)), sqK_t (SqT.of (hp7.same h.1)), sqK_l (SqL.of (ha.same (s7.trans h.1)))⟩) ?_ ?_
        · rintro j x H8 H9 hj ⟨s8, h8⟩ ⟨T', x1, x2, x3, rfl, hT, rfl, hx1, hx2, hx3⟩
          rw [hrll] at hj
          obtain ⟨z, hz1, hz2, hz⟩ := hub j hj
          have hx1 : (r.map V.int)[j]? = some x1 := hx1
          have hx2 : ((dI u).map V.int)[j]? = some x2 := hx2
          have hx3 : ((dI ds).map V.int)[j]? = some x3 := hx3
          have hdi : ds[j]? = some (ds.getD j 0) := by rw [List.getD_eq_getElem?_getD, List.getElem?_eq_getElem hj]; rfl
          have hri : r[j]? = some (r.getD j 0) := by rw [List.getD_eq_getElem?_getD, List.getElem?_eq_getElem (show j < r.length by omega)]; rfl
          have hdI : (dI ds)[j]? = some ((ds.getD j 0 : Nat) : Int) := by unfold dI; rw [List.getElem?_map, hdi]; rfl
          rw [map_at_int hri] at hx1
          rw [map_at_int hz1] at hx2
          rw [map_at_int hdI] at hx3
          obtain rfl := Option.some.inj hx1
          obtain rfl := Option.some.inj hx2
          obtain rfl := Option.some.inj hx3
          have s9' := new_same (o := .tup [V.int (r.getD j 0), .int (z : Int), .int ((ds.getD j 0 : Nat) : Int)]) hT
          have s9 := s8.trans s9'
          have h9 := h8.same s9'
          have hd8 : ds.getD j 0 ≤ 1 := by rw [List.getD_eq_getElem?_getD, List.getElem?_eq_getElem hj]; exact hd _ (List.getElem_mem hj)
          refine ⟨T', _, rfl, SqT.of upd_same, rfl, _, _, rfl, _, _, rfl, _, _, rfl, rfl, rfl, ?_⟩
          dsimp only [tYes]
          rw [if_pos rfl]
          generalize upd H8 T' (.tup [V.int (r.getD j 0), .int (z : Int), .int ((ds.getD j 0 : Nat) : Int)]) = H9 at s9 h9 ⊢
          refine ⟨_, rfl, _, rfl, _, rfl, _, _, rfl, rfl, ⟨by omega, by omega, by decide⟩, _, _, rfl, rfl, .inl ⟨by omega, by omega⟩, _, _, rfl, rfl, ?_⟩
          refine ⟨_, h9, by rw [List.length_map, List.length_map, List.length_range]; omega, same_up s9 hD, ?_⟩
          rw [List.range_succ, List.map_append, Int.toNat_natCast, Int.one_mul]
          show LI _ D (_ ++ [r.getD j 0 + (dI u).getD j 0 * 2 ^ ds.getD j 0])
          rw [hz2]
          exact li_snoc (H := H9) (a := D) (x := r.getD j 0 + (z : Int) * 2 ^ ds.getD j 0)
        · rintro H8 ⟨s8, h8⟩
          rw [hrll] at h8
          have hl8 := hl7.same s8
          refine ⟨D, _, rfl, .inl ⟨SqL.of h8, fun t ht => ?_⟩⟩
          have s9' := new_same (o := .tup (((List.range ds.length).map fun i => r.getD i 0 + (dI u).getD i 0 * 2 ^ ds.getD i 0).map V.int)) ht
          have s9 := s8.trans s9'
          obtain ⟨acc, c1, c2, c3⟩ := lti_app (hl8.same s9') (show TupI _ t (ptI ds r u) from upd_same) (by rw [List.length_append, List.length_map, List.length_take]; omega)
          refine ⟨L, _, _, rfl, rfl, c1, c2, ?_⟩
          refine ⟨_, rfl, same_up (s7.trans s9) hLn, (hrs.same s9).updL nRL c1, (hws.same s9).updL nIL c1, ?_, ?_⟩
          · have q9 : upd H8 t (.tup (((List.range ds.length).map fun i => r.getD i 0 + (dI u).getD i 0 * 2 ^ ds.getD i 0).map V.int)) q = _ := hq7.same s9
            have nq : q ≠ L := fun z => by
              rw [z, c1] at q9
              cases q9
            show upd _ L _ q = _
            rw [upd_ne nq]
            exact q9
          · rw [List.take_succ, hu, List.map_append, ← List.append_assoc]
            exact c3
      · rintro σ H7 ⟨a5, rfl, s7, hrs, hws, hq7, hl7⟩
        rw [hws.2.1, hdv, List.take_length] at hl7
        refine ⟨_, _, rfl, s7, hrs, hws, ?_⟩
        rw [fm_split _ _ _ _ hrk]
        exact hl7
    · rintro σ H5 ⟨a4, a5, rfl, s5, hrs, hws, hl5⟩
      rw [hrs.2.1, List.take_length] at hl5
      exact ⟨_, rfl, kq L H5 hLn s5 hl5⟩
end
end My

set_option Elab.async false
set_option linter.all false
set_option maxRecDepth 100000
set_option maxHeartbeats 1000000
/-! ### for over a generator whose frame has cells: they lie frozen in the heap while it sleeps -/
namespace GenZ
open PySem PySem.Spec PyProof.Rows L2 GenW
def isCell (o : Obj) : Bool := match o.data with | .cell _ => true | _ => false
def ice (C : Pins) (H : Hp) : Hp := fun b => match C.lookup b with | some o => some (.frz o (.own 0)) | none => H b
def thaw (C : Pins) (H : Hp) : Hp := fun b => match C.lookup b with | some _ => none | none => H b
/-- the cells lie frozen at C; all else is as in H1 -/
def Iced (C : Pins) (H1 Hc : Hp) : Prop := (∀ b, C.lookup b = none → Hc b = H1 b) ∧ ∀ b o, C.lookup b = some o → H1 b = none ∧ Hc b = some (.frz o (.own 0))
def Thaw (C : Pins) (H' H'' : Hp) : Prop := (∀ b, C.lookup b = none → H'' b = H' b) ∧ ∀ b o, C.lookup b = some o → H'' b = none
theorem ice_at {C : Pins} {H : Hp} {b : Addr} {o : Obj} (h : C.lookup b = some o) : ice C H b = some (.frz o (.own 0)) := by unfold ice; rw [h]
theorem ice_off {C : Pins} {H : Hp} {b : Addr} (h : C.lookup b = none) : ice C H b = H b := by unfold ice; rw [h]
theorem thaw_at {C : Pins} {H : Hp} {b : Addr} {o : Obj} (h : C.lookup b = some o) : thaw C H b = none := by unfold thaw; rw [h]
theorem thaw_off {C : Pins} {H : Hp} {b : Addr} (h : C.lookup b = none) : thaw C H b = H b := by unfold thaw; rw [h]
theorem thaw_ok {C : Pins} {H : Hp} : Thaw C H (thaw C H) := ⟨fun b h => thaw_off h, fun b o h => thaw_at h⟩
theorem lookup_mem' {C : Pins} {b : Addr} {o : Obj} (h : C.lookup b = some o) : (b, o) ∈ C := by
  obtain ⟨l1, l2, e, _⟩ := List.lookup_eq_some_iff.mp h
  rw [e]
  exact List.mem_append_right _ List.mem_cons_self
theorem lookup_of {C : Pins} {b : Addr} {o : Obj} (h : (b, o) ∈ C) : ∃ u, C.lookup b = some u := by
  cases e : C.lookup b with
  | some u => exact ⟨u, rfl⟩
  | none =>
    have := List.lookup_eq_none_iff.mp e (b, o) h
    simp at this
section
variable {X : Cx} {W : GW} {S : GSp} {cl : Bool} {pins : Pins} {σ : L2.St} {H H1 : Hp} {s s1 : Shared} {m : Nat} {t : S.τ} {gs : GenState} {pv : Pins} {iv : Gens}
abbrev cellsOf (pv : Pins) : Pins := pv.filter fun p => isCell p.2
abbrev restOf (pv : Pins) : Pins := pv.filter fun p => !isCell p.2
theorem Ready.iced (r : Ready X W S cl pins σ m t H s gs pv iv) : Inv X (pins ++ restOf pv) σ (ice (cellsOf pv) H) s ∧ Iced (cellsOf pv) H (ice (cellsOf pv) H) := by
  obtain ⟨_, z2, _, _, _⟩ := r.slp.pos
  have I := r.inv
  have cm : ∀ {b o}, (cellsOf pv).lookup b = some o → (b, o) ∈ pv ∧ isCell o = true := fun {b o} h => List.mem_filter.mp (lookup_mem' h)
  have cn : ∀ {b o}, (cellsOf pv).lookup b = some o → H b = none ∧ W.n ≤ b ∧ s.heap.get? b = some o := fun {b o} h => by
    obtain ⟨hm, _⟩ := cm h
    obtain ⟨e, hn⟩ := r.held.pv _ hm
    exact ⟨hn, z2 _ hm, e⟩
  have off : ∀ {b}, H b ≠ none → (cellsOf pv).lookup b = none := fun {b} h => by
    cases e : (cellsOf pv).lookup b with
    | none => rfl
    | some o => exact absurd (cn e).1 h
  have offn : ∀ {b}, b < W.n → (cellsOf pv).lookup b = none := fun {b} h => by
    cases e : (cellsOf pv).lookup b with
    | none => rfl
    | some o => exact absurd h (Nat.not_lt.mpr (cn e).2.1)
  refine ⟨⟨I.ok, I.os, I.bare, ⟨I.base.keep, I.base.slot, fun b o q n hx => ?_, I.base.there, fun b xs q => ?_, fun b o u q => ?_, fun b ps q => ?_⟩, I.loc, I.cell, ?_, fun x cc ec => ?_, fun p hp => ?_, fun b u q => ?_, I.len⟩, fun b h => ice_off h, fun b o h => ⟨(cn h).1, ice_at h⟩⟩
  · rw [ice_off (offn (Nat.lt_of_lt_of_le (Heap.lt_size q) r.link.low))]; exact I.base.free b o q n hx
  · have q2 := I.base.tups b xs q
    rw [ice_off (off (by rw [q2]; exact Option.some_ne_none _))]; exact q2
  · have q2 := I.base.frzs b o u q
    rw [ice_off (off (by rw [q2]; exact Option.some_ne_none _))]; exact q2
  · obtain ⟨more, q2⟩ := I.base.tbls b ps q
    exact ⟨more, by rw [ice_off (off (by rw [q2]; exact Option.some_ne_none _))]; exact q2⟩
  · rw [ice_off (offn r.link.loc)]; exact I.free
  · rw [ice_off (offn (r.link.cel x cc ec))]; exact I.freeC x cc ec
  · have old : p ∈ X.pn ++ pins → s.heap.get? p.1 = some p.2 ∧ ice (cellsOf pv) H p.1 = none ∧ p.1 ≠ X.env.locals ∧ p.1 ∉ X.fs ∧ ∀ v, p.2.data ≠ .cell v := fun hp => by
      obtain ⟨a1, a2, a3⟩ := I.pin p hp
      refine ⟨a1, ?_, a3⟩
      rw [ice_off ?_]
      · exact a2
      · cases e : (cellsOf pv).lookup p.1 with
        | none => rfl
        | some o => exact absurd rfl (r.apart _ (cm e).1 p hp)
    rcases List.mem_append.mp hp with hp | hp
    · exact old (List.mem_append_left _ hp)
    rcases List.mem_append.mp hp with hp | hp
    · exact old (List.mem_append_right _ hp)
    obtain ⟨hp, hc⟩ := List.mem_filter.mp hp
    have hc : isCell p.2 = false := by simpa using hc
    obtain ⟨e, hn⟩ := r.held.pv p hp
    have h1 := z2 p hp
    refine ⟨e, ?_, fun z => ?_, fun z => ?_, fun v z => ?_⟩
    · rw [ice_off ?_]
      · exact hn
      · cases el : (cellsOf pv).lookup p.1 with
        | none => rfl
        | some o =>
          have h2 := (cn el).2.2
          rw [e] at h2
          have h2 := Option.some.inj h2
          have h3 := (cm el).2
          rw [← h2, hc] at h3
          cases h3
    · rw [z] at h1; exact absurd r.link.loc (Nat.not_lt.mpr h1)
    · obtain ⟨_, o, ho, _⟩ := r.inv.ok.funs.mem z
      exact absurd (Nat.lt_of_lt_of_le (Heap.lt_size ho) r.link.low) (Nat.not_lt.mpr h1)
    · unfold isCell at hc
      rw [z] at hc
      cases hc
  · cases e : (cellsOf pv).lookup b with
    | some o =>
      rw [ice_at e] at q
      cases q
      exact ⟨(cn e).2.2, o, (cn e).2.2⟩
    | none =>
      rw [ice_off e] at q
      refine (I.hok b u q).stay (fun _ _ _ z => z) (fun d z => ?_) fun d xs z => ?_
      · rw [ice_off (off (by rw [z]; exact Option.some_ne_none _))]; exact z
      · rw [ice_off (off (by rw [z]; exact Option.some_ne_none _))]; exact z
/-- it sleeps on -/
theorem Ready.thawed {σ' : L2.St} {H' : Hp} {s' : Shared} (r : Ready X W S cl pins σ m t H s gs pv iv) (ha : asl gs = true) (I : Inv X (pins ++ restOf pv) σ' H' s') (hf : ∀ b o, (cellsOf pv).lookup b = some o → H' b = some (.frz o (.own 0))) (k : Keeps s.gens s'.gens) :
    Ready X W S cl pins σ' m t (thaw (cellsOf pv) H') s' gs pv iv := by
  obtain ⟨_, z2, _, z4, _⟩ := r.slp.pos
  have I0 : Inv X pins σ' H' s' := I.unpinned
  have cm : ∀ {b o}, (cellsOf pv).lookup b = some o → (b, o) ∈ pv ∧ isCell o = true := fun {b o} h => List.mem_filter.mp (lookup_mem' h)
  have was : ∀ {b o}, (cellsOf pv).lookup b = some o → H b = none := fun {b o} h => (r.held.pv _ (cm h).1).2
  have offn : ∀ {b}, b < W.n → (cellsOf pv).lookup b = none := fun {b} h => by
    cases e : (cellsOf pv).lookup b with
    | none => rfl
    | some o => exact absurd h (Nat.not_lt.mpr (z2 _ (cm e).1))
  have off : ∀ {b u}, H' b = some u → (∀ o, u ≠ .frz o (.own 0)) → (cellsOf pv).lookup b = none := fun {b u} h hu => by
    cases e : (cellsOf pv).lookup b with
    | none => rfl
    | some o =>
      have := hf b o e
      rw [h] at this
      exact absurd (Option.some.inj this) (hu o)
  have off0 : ∀ {b}, H b ≠ none → (cellsOf pv).lookup b = none := fun {b} h => by
    cases e : (cellsOf pv).lookup b with
    | none => rfl
    | some o => exact absurd (was e) h
  have J : Inv X pins σ' (thaw (cellsOf pv) H') s' := by
    refine ⟨I0.ok, I0.os, I0.bare, ⟨I0.base.keep, I0.base.slot, fun b o q n hx => ?_, I0.base.there, fun b xs q => ?_, fun b o u q => ?_, fun b ps q => ?_⟩, I0.loc, I0.cell, ?_, fun x cc ec => ?_, fun p hp => ?_, fun b u q => ?_, I0.len⟩
    · rw [thaw_off (offn (Nat.lt_of_lt_of_le (Heap.lt_size q) r.link.low))]; exact I0.base.free b o q n hx
    · rw [thaw_off (off0 (by rw [r.inv.base.tups b xs q]; exact Option.some_ne_none _))]; exact I0.base.tups b xs q
    · rw [thaw_off (off0 (by rw [r.inv.base.frzs b o u q]; exact Option.some_ne_none _))]; exact I0.base.frzs b o u q
    · obtain ⟨more, q2⟩ := I0.base.tbls b ps q
      obtain ⟨m2, q3⟩ := r.inv.base.tbls b ps q
      exact ⟨more, by rw [thaw_off (off0 (by rw [q3]; exact Option.some_ne_none _))]; exact q2⟩
    · rw [thaw_off (offn r.link.loc)]; exact I0.free
    · rw [thaw_off (offn (r.link.cel x cc ec))]; exact I0.freeC x cc ec
    · obtain ⟨a1, a2, a3⟩ := I0.pin p hp
      refine ⟨a1, ?_, a3⟩
      cases e : (cellsOf pv).lookup p.1 with
      | none => rw [thaw_off e]; exact a2
      | some o => exact thaw_at e
    · cases e : (cellsOf pv).lookup b with
      | some o => rw [thaw_at e] at q; cases q
      | none =>
        rw [thaw_off e] at q
        refine (I0.hok b u q).stay (fun _ _ _ z => z) (fun d z => ?_) fun d xs z => ?_
        · rw [thaw_off (off z fun o h => by cases h)]; exact z
        · rw [thaw_off (off z fun o h => by cases h)]; exact z
  refine ⟨J, r.link, r.cl, r.slp, k _ _ r.at_ ha, ⟨fun p hp => ?_, fun q hq => k _ _ (r.held.iv q hq) (z4 q hq).2⟩, r.apart⟩
  by_cases hc : isCell p.2 = true
  · obtain ⟨u, hu⟩ := lookup_of (List.mem_filter.mpr ⟨hp, hc⟩ : (p.1, p.2) ∈ cellsOf pv)
    have h1 := (r.held.pv p hp).1
    have h2 := (r.held.pv _ (cm hu).1).1
    rw [h1] at h2
    have h2 := Option.some.inj h2
    have h3 := I0.hok p.1 _ (hf p.1 u hu)
    refine ⟨?_, thaw_at hu⟩
    rw [h2]; exact h3.1
  · have hc : isCell p.2 = false := by simpa using hc
    obtain ⟨a1, a2, _⟩ := I.pin p (List.mem_append_right _ (List.mem_append_right _ (List.mem_filter.mpr ⟨hp, by rw [hc]; rfl⟩)))
    refine ⟨a1, ?_⟩
    cases e : (cellsOf pv).lookup p.1 with
    | none => rw [thaw_off e]; exact a2
    | some o => exact thaw_at e
end
end GenZ

set_option Elab.async false
set_option linter.all false
set_option maxRecDepth 100000
set_option maxHeartbeats 1000000
namespace GenZ
open PySem PySem.Spec PyProof.Rows L2 GenW
theorem Keeps.trans {G1 G2 G3 : Array GenState} (a : Keeps G1 G2) (b : Keeps G2 G3) : Keeps G1 G3 := fun i x e h => b i x (a i x e h) h
section
variable {X : Cx} {pins : Pins}
/-- what runs while some generators sleep, told of its heap alone -/
theorem inv_while {α : Type} {c : Sem α} {σ : L2.St} {H : Hp} {s : Shared} {Q : α → Shared → Prop} {Q' : α → Shared → Prop} {E : Value → Shared → Prop} (I : Inv X pins σ H s)
    (hx : ∀ e s, ¬ X.xe e s) (h : ∀ s', Inv X pins σ H s' → wpAny (model X.prog X.w) X.A c Q X.xe s')
    (hQ : ∀ a z s', Q a z → (∀ σ' H', Inv X pins σ' H' z → Inv X pins σ' H' s') → Keeps s.gens s'.gens → Q' a s') : wpAny (model X.prog X.w) X.A c Q' E s := by
  refine wpAny_mono (wpAny_asleep (h { s with gens := poisons s.gens } (inv_gens I (poisons_bare I.bare))) I.bare) (fun a s6 ⟨z, hq, hbz, ez, kz, oz, hsz⟩ => ?_) fun e s6 ⟨z, hq, _⟩ => absurd hq (hx e z)
  exact hQ a z s6 hq (fun σ' H' I' => inv_gens' I' ez (hbz I'.bare)) kz
def tForGB (wi : TGen2) (g : TG) (tb : TS) : TS := fun D σ H => wi σ H fun S t H1 => ∃ W : S.τ → L2.St → Hp → Prop, W t σ H1 ∧ ∀ t σ H, W t σ H →
  S.need t H ∧ (∀ x H1 t', S.yld t H x H1 t' → ∀ (C : Pins) Hc, Iced C H1 Hc → g x σ Hc fun σ2 H2 => tb { D with nx := fun σ' H' => (∀ b o, C.lookup b = some o → H' b = some (.frz o (.own 0))) ∧ W t' σ' (thaw C H'), ct := fun σ' H' => (∀ b o, C.lookup b = some o → H' b = some (.frz o (.own 0))) ∧ W t' σ' (thaw C H'), bk := D.nx } σ2 H2) ∧
  ∀ H1, S.fin t H H1 → D.nx σ H1
theorem ps_forGB {tg iter : Expr} {body : List Stmt} {wi : TGen2} {g : TG} {tb : TS} {pos : Pos} {k : Nat} {cl : Bool} (hx : ∀ e s, ¬ X.xe e s) (hc : X.calm = true) (hroom : X.A.depth < recursionLimit) (hi : PGn X k cl iter wi) (hg : PG X tg g) (hb : PSs X body tb)
    (hs : ∀ x, foldedSetIterable iter X.env x = pure x := by intro _; rfl) : PS X (.For tg iter body [] pos) (tForGB wi g tb) := by
  refine ⟨fun pins s σ H D I h => ?_⟩
  refine wpAny_For (thn (hi.run pins s σ H _ I h) fun v s1 h1 => ?_) hs
  obtain ⟨W, S, t, m, c, pv, H1, rfl, R, hk, hgg, W0, w0, turn⟩ := h1
  refine wpAny_pyIter_gen R.isGen ?_
  refine codeAny_forLoop_any (fun n s' => ∃ t σ' H' gs pv iv, Ready X W S cl pins σ' n t H' s' gs pv iv ∧ W0 t σ' H') ?_ m ⟨t, σ, H1, _, pv, _, R, w0⟩
  rintro n s3 ⟨t3, σ3, H3, gs3, pv3, iv3, R3, w3⟩
  obtain ⟨need, step, fin⟩ := turn t3 σ3 H3 w3
  refine R3.next R3.inv.ok.frames (R3.inv.ok.hd hc) hroom need (fun m' v x t' H4 s4 gs' pv' iv' R4 ha rv hy hlt => ?_) (fun H4 s4 I4 hf _ => ?_)
  · refine R4.letGo ?_
    obtain ⟨J4, ic⟩ := R4.iced
    refine inv_while J4 hx (fun s' I' => hg.run _ s' σ3 _ x v _ I' rv (step x H4 t' hy (cellsOf pv') _ ic)) fun _ z s6 ⟨σ6, H6, I6, q6⟩ r6 k6 => ?_
    have J6 := r6 σ6 H6 I6
    refine inv_while J6 hx (fun s' I' => hb.run _ s' σ6 H6 _ I' q6) fun f z7 s7 q7 r7 k7 => ?_
    have kk := k6.trans k7
    cases f with
    | next => obtain ⟨σ7, H7, I7, hf7, n7⟩ := q7; exact ⟨m', hlt, t', σ7, _, gs', pv', iv', R4.thawed ha (r7 σ7 H7 I7) hf7 kk, n7⟩
    | cont => obtain ⟨σ7, H7, I7, hf7, n7⟩ := q7; exact ⟨m', hlt, t', σ7, _, gs', pv', iv', R4.thawed ha (r7 σ7 H7 I7) hf7 kk, n7⟩
    | brk => obtain ⟨σ7, H7, I7, n7⟩ := q7; exact ⟨σ7, H7, (r7 σ7 H7 I7).unpinned, n7⟩
    | ret u => obtain ⟨x7, σ7, H7, I7, rr, n7⟩ := q7; exact ⟨x7, σ7, H7, (r7 σ7 H7 I7).unpinned, rr, n7⟩
  · exact wpAny_execs_nil ⟨σ3, H4, I4, fin H4 hf⟩
end
end GenZ

set_option pp.maxSteps 300
set_option Elab.async false
set_option linter.all false
set_option maxRecDepth 100000
set_option maxHeartbeats 1000000
namespace GenZ
open PySem L2
theorem thaw_iced {C : Pins} {H1 Hc : Hp} (h : Iced C H1 Hc) : thaw C Hc = H1 := by
  funext b
  cases e : C.lookup b with
  | none => rw [thaw_off e, h.1 b e]
  | some o => rw [thaw_at e, (h.2 b o e).1]
theorem thaw_upd {C : Pins} {H : Hp} {a : Addr} {u : HO} (h : C.lookup a = none) : thaw C (upd H a u) = upd (thaw C H) a u := by
  funext b
  by_cases hb : b = a
  · subst hb; rw [thaw_off h, upd_same, upd_same]
  · rw [upd_ne hb]
    cases e : C.lookup b with
    | none => rw [thaw_off e, thaw_off e, upd_ne hb]
    | some o => rw [thaw_at e, thaw_at e]
theorem Iced.off {C : Pins} {H1 Hc : Hp} (h : Iced C H1 Hc) {b : Addr} (hb : H1 b ≠ none) : C.lookup b = none := by
  cases e : C.lookup b with
  | none => rfl
  | some o => exact absurd (h.2 b o e).1 hb
theorem Iced.same {C : Pins} {H1 Hc : Hp} (h : Iced C H1 Hc) : L2.Same H1 Hc := fun b o e => by
  rw [h.1 b (h.off (by rw [e]; exact Option.some_ne_none _))]; exact e
end GenZ
namespace My
open PySem L2 MyR GenZ
def spFv : Sp := fun vs H Q _ => ∃ m b q : Nat, vs = [.int ((m + 1 : Nat) : Int), .int (b : Int), .int (q : Int)] ∧ m ≤ 2 ∧ 1 ≤ b ∧ b ≤ 64 ∧ q ≤ 10 ∧ ∀ (L : Addr) H', H L = none → Same H H' → LTI H' L ((dV b (m + 1)).take q) → Q (.ref L) H'
def spFp : Sp := fun vs H Q _ => ∃ (la : Addr) (ds : List Nat) (b q : Nat), vs = [.ref la, .int (b : Int), .int (q : Int)] ∧ DsA H la ds ∧ 1 ≤ ds.length ∧ ds.length ≤ 3 ∧ (∀ d ∈ ds, d ≤ 16) ∧ 1 ≤ b ∧ b ≤ 64 ∧ q ≤ 10 ∧
  ∀ (L : Addr) H', H L = none → Same H H' → LTI H' L ((List.range (min q (nP ds b))).map (ptAt ds b)) → Q (.ref L) H'
section
variable {P : Program} {w : World} {K : PySem.W.Frag} {mg : Str → Option Value} {base : Heap}
abbrev s_law_first_vectors : Stmt := top 15
abbrev N_law_first_vectors : List Str := ["_law_many", "_law_bits", "_law_most", "_law_found", "_law_one"]
theorem sc_law_first_vectors : FnScope N_law_first_vectors ["_law_many", "_law_bits", "_law_most"] (defScope s_law_first_vectors) := ⟨rfl, rfl, rfl, by decide +kernel, rfl, by decide +kernel, by decide +kernel⟩
theorem ok_law_first_vectors {f : Addr} {fd : FuncData} (F : Fun K "_law_first_vectors" "_law_first_vectors" s_law_first_vectors f fd) (T : Glob mg) (Dv : ∀ m, DfG P w K mg base (2 * m + 5) true "vectors" ["count", "bits"] (spVectors (m + 1))) : FnOk P w K mg base CX0 12 f fd ["_law_many", "_law_bits", "_law_most"] spFv := by
  refine F.ok sc_law_first_vectors (fun vs H Q E h => ?_) (fun cdv A outer s H vs Q E hr h => ?_)
  · obtain ⟨m, b, q, rfl, _⟩ := h
    rfl
  · obtain ⟨m, b, q, rfl, hm, hb1, hb, hq, kq⟩ := h
    have nd := sc_law_first_vectors.nd
    have zl : 16777216 = sizeLine := sizeLine_eq.symm
    refine ⟨_, (pss_cons (ps_set (i := 3) nd rfl (Or.inl rfl) (pe_lst pa_nil))
    (pss_cons (ps_forG (fun _ _ h => h) rfl (by have := hr.dp; show (A.deeper _).depth < _; omega) (pgn_call (Dv m).ok hr (show 2 * m + 5 + 2 ≤ 11 by omega) (by rfl) (Dv m).g (Dv m).kp (Dv m).b .nil (pa_cons (pv 0) (pa_cons (pv 1) pa_nil))) (pg_name (i := 4) nd rfl (Or.inl rfl))
    (pss_cons (ps_if (pt_cmpR op_eq (pe_callB call_len_seq (by rfl) T.g_len PySem.boot_len (pa_cons (pv 3) pa_nil)) (pv 2) (nomark _))
    (pss_one (ps_ret (pv 3)))
    pss_nil)
    (pss_one (ps_expr (pe_bm PySem.F.plainAttrs_list PySem.F.slot_list_append PySem.F.type_list_append mt_append (pv 3) (pa_cons (pv 4) pa_nil))))))
    (pss_one (ps_ret (pv 3))))), ?_⟩
    have hlen : (dV b (m + 1)).length = (vecs (m + 1) b).length := by unfold dV; rw [List.length_map]
    refine seq_by (fun σ H1 => ∃ L : Addr, σ = [some (.int ((m + 1 : Nat) : Int)), some (.int (b : Int)), some (.int (q : Int)), some (.ref L), none] ∧ Same H H1 ∧ LTI H1 L [] ∧ H L = none) (fun D' hD' => ?_) ?_
    · exact ⟨(by show 0 ≤ sizeLine; omega), fun L hL => hD' _ _ ⟨L, rfl, new_same hL, ⟨[], upd_same, rfl, fun i xs e => by simp at e⟩, hL⟩⟩
    rintro σ H1 ⟨L, rfl, s1, hl1, hLn⟩
    refine ⟨_, rfl, _, rfl, b, rfl, hb1, hb, by omega, ?_⟩
    refine ⟨fun (t : Nat) σ H2 => t ≤ q ∧ t ≤ (vecs (m + 1) b).length ∧ (∃ o : Option V, σ = [some (.int ((m + 1 : Nat) : Int)), some (.int (b : Int)), some (.int (q : Int)), some (.ref L), o]) ∧ Same H H2 ∧ LTI H2 L ((dV b (m + 1)).take t), ⟨Nat.zero_le _, Nat.zero_le _, ⟨_, rfl⟩, s1, hl1⟩, ?_⟩
    rintro (t : Nat) σ H2 ⟨htq, htl, ⟨o, rfl⟩, s2, hl2⟩
    refine ⟨trivial, ?_, ?_⟩
    · rintro x H3 (t' : Nat) ⟨rfl, p, v, rfl, s3, hv, hp⟩
      have hlt := (List.getElem?_eq_some_iff.mp hv).1
      obtain ⟨us, u1, u2, _⟩ := (hl2.same s3).lenV
      have hus : us.length = t := by rw [u2, List.length_take, hlen]; omega
      refine ⟨_, rfl, L, _, rfl, .inl (SqL.of u1), _, rfl, rfl, _, rfl, ?_⟩
      refine ite2 (fun h => ?_) (fun h => ?_)
      · have h : t = q := by have h := V.int.inj (of_decide_eq_true h); rw [hus] at h; omega
        subst h
        exact ⟨_, rfl, kq L H3 hLn (Same.tr s2 s3) (hl2.same s3)⟩
      · have h : t ≠ q := fun e => h (decide_eq_true (by rw [hus, e]))
        obtain ⟨acc, c1, c2, c3⟩ := lti_app (hl2.same s3) hp (by rw [List.length_take]; omega)
        refine ⟨_, rfl, .inl ⟨rfl, _, SqL.of c1⟩, _, rfl, L, _, _, rfl, rfl, c1, c2, ?_⟩
        refine ⟨by omega, hlt, ⟨_, rfl⟩, same_up (Same.tr s2 s3) hLn, ?_⟩
        have hdv : (dV b (m + 1))[t]? = some (dI v) := by unfold dV; rw [List.getElem?_map, hv]; rfl
        rw [List.take_succ, hdv]
        exact c3
    · rintro H3 ⟨ht, s3⟩
      refine ⟨_, rfl, kq L H3 hLn (Same.tr s2 s3) ?_⟩
      have h := hl2.same s3
      rw [List.take_of_length_le (by rw [hlen]; omega)] at h ⊢
      exact h
abbrev s_law_first_points : Stmt := top 16
abbrev N_law_first_points : List Str := ["_law_loss", "_law_bits", "_law_most", "_law_found", "_law_one"]
theorem sc_law_first_points : FnScope N_law_first_points ["_law_loss", "_law_bits", "_law_most"] (defScope s_law_first_points) := ⟨rfl, rfl, rfl, by decide +kernel, rfl, by decide +kernel, by decide +kernel⟩
theorem ok_law_first_points {f : Addr} {fd : FuncData} (F : Fun K "_law_first_points" "_law_first_points" s_law_first_points f fd) (T : Glob mg) (Dp : DfG P w K mg base 11 false "points" ["loss", "bits"] spPoints) : FnOk P w K mg base CX0 14 f fd ["_law_loss", "_law_bits", "_law_most"] spFp := by
  refine F.ok sc_law_first_points (fun vs H Q E h => ?_) (fun cdv A outer s H vs Q E hr h => ?_)
  · obtain ⟨la, ds, b, q, rfl, _⟩ := h
    rfl
  · obtain ⟨la, ds, b, q, rfl, ha, hl1, hl3, hd, hb1, hb, hq, kq⟩ := h
    have nd := sc_law_first_points.nd
    have zl : 16777216 = sizeLine := sizeLine_eq.symm
    refine ⟨_, (pss_cons (ps_set (i := 3) nd rfl (Or.inl rfl) (pe_lst pa_nil))
    (pss_cons (ps_forGB (fun _ _ h => h) rfl (by have := hr.dp; show (A.deeper _).depth < _; omega) (pgn_call Dp.ok hr (show 11 + 2 ≤ 13 by decide) (by rfl) Dp.g Dp.kp Dp.b .nil (pa_cons (pv 0) (pa_cons (pv 1) pa_nil))) (pg_name (i := 4) nd rfl (Or.inl rfl))
    (pss_cons (ps_if (pt_cmpR op_eq (pe_callB call_len_seq (by rfl) T.g_len PySem.boot_len (pa_cons (pv 3) pa_nil)) (pv 2) (nomark _))
    (pss_one (ps_ret (pv 3)))
    pss_nil)
    (pss_one (ps_expr (pe_bm PySem.F.plainAttrs_list PySem.F.slot_list_append PySem.F.type_list_append mt_append (pv 3) (pa_cons (pv 4) pa_nil))))))
    (pss_one (ps_ret (pv 3))))), ?_⟩
    refine seq_by (fun σ H1 => ∃ L : Addr, σ = [some (.ref la), some (.int (b : Int)), some (.int (q : Int)), some (.ref L), none] ∧ Same H H1 ∧ LTI H1 L [] ∧ H L = none ∧ H1 L = some (.lst [])) (fun D' hD' => ?_) ?_
    · exact ⟨(by show 0 ≤ sizeLine; omega), fun L hL => hD' _ _ ⟨L, rfl, new_same hL, ⟨[], upd_same, rfl, fun i xs e => by simp at e⟩, hL, upd_same⟩⟩
    rintro σ H1 ⟨L, rfl, s1, hl1', hLn, hLu⟩
    refine ⟨_, rfl, _, rfl, la, ds, b, rfl, ha.same s1, hl1, hl3, hd, hb1, hb, ?_⟩
    refine ⟨fun (t : Nat × Addr) σ H2 => t.1 ≤ q ∧ t.1 ≤ nP ds b ∧ (∃ o : Option V, σ = [some (.ref la), some (.int (b : Int)), some (.int (q : Int)), some (.ref L), o]) ∧ Same H H2 ∧ LTI H2 L ((List.range t.1).map (ptAt ds b)) ∧ (∀ c, H1 c ≠ none → H2 c ≠ none) ∧ (0 < t.1 → LI H2 t.2 (resI ds (((t.1 - 1) / nV ds b : Nat) : Int)) ∧ H1 t.2 = none),
      ⟨Nat.zero_le _, Nat.zero_le _, ⟨_, rfl⟩, s1, hl1', fun _ h => h, fun h => absurd h (Nat.lt_irrefl _)⟩, ?_⟩
    rintro (t : Nat × Addr) σ H2 ⟨htq, htl, ⟨o, rfl⟩, s2, hl2, dom, hli⟩
    refine ⟨⟨ha.same s2, dom, hli⟩, ?_, ?_⟩
    · rintro x H3 (t' : Nat × Addr) ⟨ht', hlt, s3, hli3, hn3, p, rfl, hp⟩ C Hi ic
      have si : Same H3 Hi := ic.same
      have hl3' := hl2.same s3
      obtain ⟨us, u1, u2, _⟩ := hl3'.lenV
      have hus : us.length = t.1 := by rw [u2, List.length_map, List.length_range]
      refine ⟨_, rfl, L, _, rfl, .inl (SqL.of (si _ _ u1)), _, rfl, rfl, _, rfl, ?_⟩
      refine ite2 (fun h => ?_) (fun h => ?_)
      · have h : t.1 = q := by have h := V.int.inj (of_decide_eq_true h); rw [hus] at h; omega
        refine ⟨_, rfl, kq L Hi hLn (Same.tr s2 (Same.tr s3 si)) ?_⟩
        rw [Nat.min_eq_left (by omega), ← h]
        exact hl3'.same si
      · have h : t.1 ≠ q := fun e => h (decide_eq_true (by rw [hus, e]))
        have hLo : C.lookup L = none := ic.off (by rw [u1]; exact Option.some_ne_none _)
        obtain ⟨acc, c1, c2, c3⟩ := lti_app hl3' hp (by rw [List.length_map, List.length_range]; omega)
        refine ⟨_, rfl, .inl ⟨rfl, _, SqL.of (si _ _ c1)⟩, _, rfl, L, _, _, rfl, rfl, si _ _ c1, c2, ?_⟩
        refine ⟨fun c oc hc => ?_, ?_⟩
        · rw [upd_ne (fun z => by rw [z, hLo] at hc; cases hc)]
          exact (ic.2 c oc hc).2
        · rw [thaw_upd hLo, thaw_iced ic]
          have nL : t'.2 ≠ L := fun z => by rw [z, hLu] at hn3; cases hn3
          refine ⟨by omega, by omega, ⟨_, rfl⟩, same_up (Same.tr s2 s3) hLn, ?_, fun c hc => ?_, fun _ => ⟨?_, hn3⟩⟩
          · rw [ht', List.range_succ, List.map_append]
            exact c3
          · by_cases e : c = L
            · rw [e, upd_same]; exact Option.some_ne_none _
            · rw [upd_ne e]
              obtain ⟨oo, ho⟩ := Option.ne_none_iff_exists'.mp (dom c hc)
              rw [s3 c oo ho]; exact Option.some_ne_none _
          · rw [ht', Nat.add_sub_cancel]
            exact hli3.updN nL
    · rintro H3 ⟨ht, s3⟩
      refine ⟨_, rfl, kq L H3 hLn (Same.tr s2 s3) ?_⟩
      rw [Nat.min_eq_right (by omega), ← ht]
      exact hl2.same s3
end
end My

set_option pp.maxSteps 300
set_option Elab.async false
set_option linter.all false
set_option maxRecDepth 100000
set_option maxHeartbeats 1000000
namespace My
open PySem L2 MyR
/-! ### whole numbers as data -/
def zD (xs : List Int) : List PyData := xs.map PyData.int
theorem zD_dp {K : PySem.W.Frag} {H : Hp} : ∀ xs : List Int, DpAll K H (xs.map V.int) (zD xs)
  | [] => .nil
  | x :: xs => .cons (.int x) (zD_dp xs)
theorem zD_lay : ∀ xs : List Int, PyData.canLayAll0 (zD xs) = true
  | [] => by simp [zD, PyData.canLayAll0]
  | x :: xs => by
    show PyData.canLayAll0 (.int x :: zD xs) = true
    rw [PyData.canLayAll0, PyData.canLay0, zD_lay xs]
    rfl
theorem zD_dep : ∀ xs : List Int, PyData.depthAll (zD xs) = 0
  | [] => by simp [zD, PyData.depthAll]
  | x :: xs => by
    show PyData.depthAll (.int x :: zD xs) = 0
    rw [PyData.depthAll, PyData.depth, zD_dep xs]
    rfl
theorem zD_layT (xs : List Int) : (PyData.tuple (zD xs)).canLay0 = true := by rw [PyData.canLay0]; exact zD_lay xs
theorem zD_shapeT (xs : List Int) : SeqAt.shaped (.tuple (zD xs)) = true := by
  unfold SeqAt.shaped
  rw [zD_layT, Bool.true_and]
  refine decide_eq_true ?_
  rw [PyData.depth, zD_dep]
  decide
theorem zD_eqT (xs ys : List Int) : PyData.eqv (.tuple (zD xs)) (.tuple (zD ys)) = decide (xs = ys) := by
  have e : PyData.eqv (.tuple (zD xs)) (.tuple (zD ys)) = PyData.eqvAll (zD xs) (zD ys) := by rw [PyData.eqv]
  rw [e]
  exact PySem.W.ked_eqvAll xs ys
theorem dI_inj : ∀ {xs ys : List Nat}, dI xs = dI ys → xs = ys
  | [], [], _ => rfl
  | [], _ :: _, h => by cases h
  | _ :: _, [], h => by cases h
  | x :: xs, y :: ys, h => by
    have h1 : (x : Int) :: dI xs = (y : Int) :: dI ys := h
    obtain ⟨h2, h3⟩ := List.cons.inj h1
    rw [dI_inj h3, Int.ofNat.inj h2]
structure RepOk (x : PyData) : Prop where
  s : x.showable = true
  n : x.hasDict = false
  d : x.depth ≤ 60
  l : x.shown.length ≤ sizeLine
theorem int_log {x : Int} (h : x.natAbs < 2 ^ 71) : x.natAbs.log2 < 71 := by
  by_cases e : x.natAbs = 0
  · rw [e]; decide
  · exact (Nat.log2_lt e).mpr h
theorem int_len {x : Int} (h : x.natAbs < 2 ^ 71) : (PyData.shown (.int x)).length ≤ 100 := by
  show (Str.ofString (toString x)).length ≤ 100
  rw [PyProof.Rows.ofString_len]
  exact Nat.le_trans (int_text_length_le (k := 71) (by decide) (int_log h)) (by decide)
theorem int_sh {x : Int} (h : x.natAbs < 2 ^ 71) : PyData.showable (.int x) = true := decide_eq_true (Nat.lt_trans (int_log h) (by decide))
theorem int_lv {x : Int} (h : x.natAbs < 2 ^ 71) : PyData.leavesShort 100 (.int x) = true := decide_eq_true (int_len h)
theorem zD_sh : ∀ {xs : List Int}, (∀ x ∈ xs, x.natAbs < 2 ^ 71) → PyData.showableAll (zD xs) = true
  | [], _ => rfl
  | x :: xs, h => by
    show (PyData.showable (.int x) && PyData.showableAll (zD xs)) = true
    rw [int_sh (h x (List.mem_cons_self ..)), zD_sh fun y hy => h y (List.mem_cons_of_mem _ hy)]
    rfl
theorem zD_lv : ∀ {xs : List Int}, (∀ x ∈ xs, x.natAbs < 2 ^ 71) → PyData.leavesShortAll 100 (zD xs) = true
  | [], _ => rfl
  | x :: xs, h => by
    show (PyData.leavesShort 100 (.int x) && PyData.leavesShortAll 100 (zD xs)) = true
    rw [int_lv (h x (List.mem_cons_self ..)), zD_lv fun y hy => h y (List.mem_cons_of_mem _ hy)]
    rfl
theorem zD_nd : ∀ xs : List Int, PyData.hasDictAll (zD xs) = false
  | [] => rfl
  | _ :: xs => zD_nd xs
theorem zD_blk : ∀ xs : List Int, PyData.bulkAll (zD xs) = xs.length
  | [] => rfl
  | x :: xs => by
    show 0 + 1 + PyData.bulkAll (zD xs) = xs.length + 1
    rw [zD_blk xs]
    omega
theorem tup_rep {xs : List Int} (h : ∀ x ∈ xs, x.natAbs < 2 ^ 71) (hl : xs.length ≤ 1000) : RepOk (.tuple (zD xs)) := by
  have zl : 16777216 = sizeLine := sizeLine_eq.symm
  refine ⟨zD_sh h, zD_nd xs, ?_, ?_⟩
  · show PyData.depth (.tuple (zD xs)) ≤ 60
    rw [PyData.depth, zD_dep]
    decide
  · have := PyData.shown_le_bulk 100 (by decide) (.tuple (zD xs)) (zD_lv h)
    rw [show PyData.bulk (.tuple (zD xs)) = xs.length from zD_blk xs] at this
    show (PyData.shown (.tuple (zD xs))).length ≤ sizeLine
    omega
theorem tup_dp {K : PySem.W.Frag} {H : Hp} {q : Addr} {xs : List Int} (h : TupI H q xs) : Dp K H (.ref q) (.tuple (zD xs)) := .tup (SqT.of h) (zD_dp xs)

/-! ### lists of tuples as data -/
def tD (xss : List (List Int)) : List PyData := xss.map fun xs => .tuple (zD xs)
theorem tD_dp {K : PySem.W.Frag} {H : Hp} : ∀ (as : List Addr) (xss : List (List Int)), as.length = xss.length → (∀ (i : Nat) xs, xss[i]? = some xs → ∃ p, as[i]? = some p ∧ TupI H p xs) → DpAll K H (as.map V.ref) (tD xss)
  | [], [], _, _ => .nil
  | [], _ :: _, h, _ => by cases h
  | _ :: _, [], h, _ => by cases h
  | a :: as, x :: xss, hl, h => by
    obtain ⟨p, e, hp⟩ := h 0 x rfl
    obtain rfl : a = p := Option.some.inj e
    exact .cons (tup_dp hp) (tD_dp as xss (by simpa using hl) fun i xs e => h (i + 1) xs e)
theorem lt_dp {K : PySem.W.Frag} {H : Hp} {q : Addr} {xss : List (List Int)} (h : LTI H q xss) : Dp K H (.ref q) (.list (tD xss)) := by
  obtain ⟨as, e1, e2, e3⟩ := h
  exact .lst (SqL.of e1) (tD_dp as xss e2 e3)
theorem tD_lay : ∀ xss : List (List Int), PyData.canLayAll0 (tD xss) = true
  | [] => by simp [tD, PyData.canLayAll0]
  | x :: xss => by
    show PyData.canLayAll0 (.tuple (zD x) :: tD xss) = true
    rw [PyData.canLayAll0, zD_layT, tD_lay xss]
    rfl
theorem tD_dep : ∀ xss : List (List Int), PyData.depthAll (tD xss) ≤ 1
  | [] => by simp [tD, PyData.depthAll]
  | x :: xss => by
    show PyData.depthAll (.tuple (zD x) :: tD xss) ≤ 1
    have := tD_dep xss
    rw [PyData.depthAll, PyData.depth, zD_dep]
    omega
theorem tD_layL (xss : List (List Int)) : (PyData.list (tD xss)).canLay0 = true := by rw [PyData.canLay0]; exact tD_lay xss
theorem tD_shapeL (xss : List (List Int)) : SeqAt.shaped (.list (tD xss)) = true := by
  unfold SeqAt.shaped
  rw [tD_layL, Bool.true_and]
  refine decide_eq_true ?_
  have := tD_dep xss
  rw [PyData.depth]
  omega
theorem tD_eqL (xss : List (List Int)) : PyData.eqv (.list (tD xss)) (.list (tD xss)) = true := by
  rw [PyData.eqv]
  exact PySem.SeqAt.eqvAll_refl _ (tD_lay xss)
theorem tD_sh : ∀ {xss : List (List Int)}, (∀ xs ∈ xss, ∀ x ∈ xs, x.natAbs < 2 ^ 71) → PyData.showableAll (tD xss) = true
  | [], _ => rfl
  | x :: xss, h => by
    show (PyData.showable (.tuple (zD x)) && PyData.showableAll (tD xss)) = true
    rw [show PyData.showable (.tuple (zD x)) = true from zD_sh (h x List.mem_cons_self), tD_sh fun y hy => h y (List.mem_cons_of_mem _ hy)]
    rfl
theorem tD_lv : ∀ {xss : List (List Int)}, (∀ xs ∈ xss, ∀ x ∈ xs, x.natAbs < 2 ^ 71) → PyData.leavesShortAll 100 (tD xss) = true
  | [], _ => rfl
  | x :: xss, h => by
    show (PyData.leavesShort 100 (.tuple (zD x)) && PyData.leavesShortAll 100 (tD xss)) = true
    rw [show PyData.leavesShort 100 (.tuple (zD x)) = true from zD_lv (h x List.mem_cons_self), tD_lv fun y hy => h y (List.mem_cons_of_mem _ hy)]
    rfl
theorem tD_nd : ∀ xss : List (List Int), PyData.hasDictAll (tD xss) = false
  | [] => rfl
  | x :: xss => by
    show (PyData.hasDict (.tuple (zD x)) || PyData.hasDictAll (tD xss)) = false
    rw [show PyData.hasDict (.tuple (zD x)) = false from zD_nd x, tD_nd xss]
    rfl
theorem tD_blk : ∀ {xss : List (List Int)} {n : Nat}, (∀ xs ∈ xss, xs.length ≤ n) → PyData.bulkAll (tD xss) ≤ xss.length * (n + 1)
  | [], _, _ => Nat.zero_le _
  | x :: xss, n, h => by
    show PyData.bulk (.tuple (zD x)) + 1 + PyData.bulkAll (tD xss) ≤ (xss.length + 1) * (n + 1)
    rw [show PyData.bulk (.tuple (zD x)) = x.length from zD_blk x]
    have h1 := tD_blk (n := n) fun y hy => h y (List.mem_cons_of_mem _ hy)
    have h2 := h x List.mem_cons_self
    rw [Nat.add_mul, Nat.one_mul]
    omega
theorem lt_rep {xss : List (List Int)} (h : ∀ xs ∈ xss, ∀ x ∈ xs, x.natAbs < 2 ^ 71) (hn : ∀ xs ∈ xss, xs.length ≤ 3) (hl : xss.length ≤ 41000) : RepOk (.list (tD xss)) := by
  have zl : 16777216 = sizeLine := sizeLine_eq.symm
  refine ⟨tD_sh h, tD_nd xss, ?_, ?_⟩
  · have := tD_dep xss
    show PyData.depth (.list (tD xss)) ≤ 60
    rw [PyData.depth]
    omega
  · have := PyData.shown_le_bulk 100 (by decide) (.list (tD xss)) (tD_lv h)
    have hb : PyData.bulk (.list (tD xss)) ≤ xss.length * 4 := tD_blk hn
    show (PyData.shown (.list (tD xss))).length ≤ sizeLine
    omega
end My

set_option pp.maxSteps 300
set_option Elab.async false
set_option linter.all false
set_option maxRecDepth 100000
set_option maxHeartbeats 1000000
namespace My
open PySem L2 MyR GenZ
/-! ### the twos of one number -/
def twd (n : Nat) : Nat := tw n - tw (n - 1)
theorem tw_succ (n : Nat) : tw n + twd (n + 1) = tw (n + 1) := by
  unfold twd
  have := tw_mono (n + 1) n (by omega)
  rw [Nat.add_sub_cancel]
  omega
theorem twd_odd {n : Nat} (h : n % 2 = 1) : twd n = 0 := by
  unfold twd
  by_cases h1 : n = 1
  · subst h1; decide
  rw [tw_pos (show n ≠ 0 by omega), tw_pos (show n - 1 ≠ 0 by omega), show (n - 1) / 2 = n / 2 by omega]
  omega
theorem twd_even {n : Nat} (h0 : n ≠ 0) (h : n % 2 = 0) : twd n = twd (n / 2) + 1 := by
  unfold twd
  have h2 := tw_mono (n / 2) (n / 2 - 1) (by omega)
  by_cases h1 : n - 1 = 0
  · omega
  rw [tw_pos h0, tw_pos h1, show (n - 1) / 2 = n / 2 - 1 by omega]
  omega
theorem tw_two : ∀ k, tw (2 ^ k) = 2 ^ k - 1
  | 0 => by decide
  | k + 1 => by
    have hp : 0 < 2 ^ k := Nat.pow_pos (by decide)
    rw [tw_pos (by rw [Nat.pow_succ]; omega), show 2 ^ (k + 1) / 2 = 2 ^ k by rw [Nat.pow_succ]; omega, tw_two k, Nat.pow_succ]
    omega
/-! ### the shapes that the law draws -/
def topB (m : Nat) : Nat := match m with | 1 => 64 | 2 => 16 | _ => 6
theorem vecs_small {m b : Nat} (h1 : 1 ≤ m) (h3 : m ≤ 3) (hb : b ≤ topB m) : (vecs m b).length ≤ 1000 := by
  match m, h1, h3 with
  | 1, _, _ =>
    rw [vecs1_len]
    have := W_66 (show b ≤ 64 from hb)
    omega
  | 2, _, _ =>
    have : ∀ b, b < 17 → (vecs 2 b).length ≤ 1000 := by decide +kernel
    exact this b (by have : b ≤ 16 := hb; omega)
  | 3, _, _ =>
    have : ∀ b, b < 7 → (vecs 3 b).length ≤ 1000 := by decide +kernel
    exact this b (by have : b ≤ 6 := hb; omega)
theorem topB_le (m : Nat) : topB m ≤ 64 := by unfold topB; split <;> decide
theorem vecs_01 {b : Nat} (hb : 1 ≤ b) : ∀ m, (vecs (m + 1) b)[0]? = some (List.replicate (m + 1) 0) ∧ (vecs (m + 1) b)[1]? = some (List.replicate m 0 ++ [1])
  | 0 => by
    have h0 := vecsTo_at (m := 0) (b := b) (n := 0) (t := 0) (v := []) (W_pos hb) rfl
    have h1 := vecsTo_at (m := 0) (b := b) (n := 1) (t := 0) (v := []) (W_two hb) rfl
    exact ⟨h0, h1⟩
  | m + 1 => by
    obtain ⟨e0, e1⟩ := vecs_01 hb m
    have h0 := vecsTo_at (m := m + 1) (b := b) (n := 0) (t := 0) (W_pos hb) (by rw [tw_zero, Nat.sub_zero]; exact e0)
    have h1 := vecsTo_at (m := m + 1) (b := b) (n := 0) (t := 1) (W_pos hb) (by rw [tw_zero, Nat.sub_zero]; exact e1)
    exact ⟨h0, h1⟩
theorem nV_two {ds : List Nat} {b : Nat} (hb : 1 ≤ b) (h : 1 ≤ ds.length) : 2 ≤ nV ds b := by
  obtain ⟨m, hm⟩ : ∃ m, ds.length = m + 1 := ⟨ds.length - 1, by omega⟩
  have := (List.getElem?_eq_some_iff.mp (vecs_01 hb m).2).1
  show 2 ≤ (vecs ds.length b).length
  rw [hm]; omega
theorem nP_two {ds : List Nat} {b : Nat} (hb : 1 ≤ b) (h : 1 ≤ ds.length) : 2 ≤ nP ds b := by
  have h1 := nV_two hb h
  have h2 : 0 < 2 ^ ds.sum := Nat.pow_pos (by decide)
  exact Nat.le_trans h1 (Nat.le_mul_of_pos_left _ h2)
theorem resR_zero : ∀ xs : List Nat, resR xs 0 = List.replicate xs.length 0
  | [] => rfl
  | d :: r => by
    show (0 : Int) % 2 ^ d :: resR r (0 / 2 ^ d) = _
    rw [Int.zero_emod, Int.zero_ediv, resR_zero r]
    rfl
theorem resI_zero (ds : List Nat) : resI ds 0 = List.replicate ds.length 0 := by
  unfold resI
  rw [resR_zero, List.reverse_replicate, List.length_reverse]
theorem pt_0 {ds : List Nat} {b : Nat} (hb : 1 ≤ b) (h : 1 ≤ ds.length) (h3 : ds.length ≤ 3) : ptAt ds b 0 = List.replicate ds.length 0 := by
  obtain ⟨m, hm⟩ : ∃ m, ds.length = m + 1 := ⟨ds.length - 1, by omega⟩
  unfold ptAt
  rw [Nat.zero_div, Nat.zero_mod, show ((0 : Nat) : Int) = 0 from rfl, resI_zero, List.getD_eq_getElem?_getD, hm, (vecs_01 hb m).1]
  match ds, hm, h3 with
  | [d1], hm, _ => cases hm; simp [ptI, dI, List.range_succ]
  | [d1, d2], hm, _ => cases hm; simp [ptI, dI, List.range_succ]
  | [d1, d2, d3], hm, _ => cases hm; simp [ptI, dI, List.range_succ]
  | _ :: _ :: _ :: _ :: _, _, h => simp at h
theorem pt_1 {ds : List Nat} {b d : Nat} (hb : 1 ≤ b) (h3 : ds.length ≤ 3) (hd : ds.getLast? = some d) : ptAt ds b 1 = List.replicate (ds.length - 1) 0 ++ [2 ^ d] := by
  have h : 1 ≤ ds.length := by
    cases ds with
    | nil => cases hd
    | cons _ _ => rw [List.length_cons]; omega
  obtain ⟨m, hm⟩ : ∃ m, ds.length = m + 1 := ⟨ds.length - 1, by omega⟩
  have hv := nV_two hb h
  unfold ptAt
  rw [Nat.div_eq_of_lt (by omega), Nat.mod_eq_of_lt (by omega), show ((0 : Nat) : Int) = 0 from rfl, resI_zero, List.getD_eq_getElem?_getD, hm, (vecs_01 hb m).2]
  match ds, hm, h3, hd with
  | [d1], hm, _, hd => cases hm; cases hd; simp [ptI, dI, List.range_succ]
  | [d1, d2], hm, _, hd => cases hm; cases hd; simp [ptI, dI, List.range_succ]
  | [d1, d2, d3], hm, _, hd => cases hm; cases hd; simp [ptI, dI, List.range_succ]
  | _ :: _ :: _ :: _ :: _, _, h, _ => simp at h
theorem allR_ent {ds : List Nat} (hd : ∀ d ∈ ds, d ≤ 1) : ∀ r ∈ allR ds, ∀ x ∈ r, 0 ≤ x ∧ x < 2 := by
  induction ds with
  | nil => intro r hr; rw [List.mem_singleton.mp hr]; intro x hx; cases hx
  | cons d ds ih =>
    intro r hr
    obtain ⟨y, hy, hr⟩ := List.mem_flatMap.mp hr
    obtain ⟨q, hq, rfl⟩ := List.mem_map.mp hr
    have hy := List.mem_range.mp hy
    have hd1 := hd d List.mem_cons_self
    have : (2 : Nat) ^ d ≤ 2 := by
      have : d = 0 ∨ d = 1 := by omega
      rcases this with h | h <;> rw [h] <;> decide
    intro x hx
    rcases List.mem_cons.mp hx with rfl | hx
    · omega
    · exact ih (fun e he => hd e (List.mem_cons_of_mem _ he)) q hq x hx
theorem dV_ent {b m : Nat} (hb : b ≤ 64) : ∀ xs ∈ dV b m, ∀ x ∈ xs, x.natAbs < 2 ^ 71 := fun xs hxs x hx => by
  unfold dV at hxs
  obtain ⟨v, hv, rfl⟩ := List.mem_map.mp hxs
  unfold dI at hx
  obtain ⟨k, hk, rfl⟩ := List.mem_map.mp hx
  have := vecs_ent hb _ b v (Nat.le_refl _) hv k hk
  have e : (2 : Nat) ^ 71 = 2361183241434822606848 := by decide
  omega
theorem dV_w {b m : Nat} (hm : m ≤ 3) : ∀ xs ∈ dV b m, xs.length ≤ 3 := fun xs hxs => by
  unfold dV at hxs
  obtain ⟨v, hv, rfl⟩ := List.mem_map.mp hxs
  unfold dI
  rw [List.length_map, vecs_mem _ _ v hv]
  exact hm
theorem pts_ent {ds : List Nat} {b : Nat} (hb : b ≤ 64) (hd : ∀ d ∈ ds, d ≤ 1) : ∀ xs ∈ ptsL ds b, xs.length = ds.length ∧ ∀ x ∈ xs, x.natAbs < 2 ^ 71 := fun xs hxs => by
  unfold ptsL at hxs
  obtain ⟨r, hr, hxs⟩ := List.mem_flatMap.mp hxs
  obtain ⟨v, hv, rfl⟩ := List.mem_map.mp hxs
  unfold ptI
  refine ⟨by rw [List.length_map, List.length_range], fun x hx => ?_⟩
  obtain ⟨a, ha, rfl⟩ := List.mem_map.mp hx
  have ha := List.mem_range.mp ha
  have h1 : 0 ≤ r.getD a 0 ∧ r.getD a 0 < 2 := by
    have hrl := allR_in hr
    rw [List.getD_eq_getElem?_getD, List.getElem?_eq_getElem (show a < r.length by omega)]
    exact allR_ent hd r hr _ (List.getElem_mem _)
  have h2 : 0 ≤ (dI v).getD a 0 ∧ (dI v).getD a 0 < 66 := by
    have hvl := vecs_mem _ _ v hv
    unfold dI
    rw [List.getD_eq_getElem?_getD, List.getElem?_map, List.getElem?_eq_getElem (show a < v.length by omega)]
    have := vecs_ent hb _ b v (Nat.le_refl _) hv _ (List.getElem_mem (show a < v.length by omega))
    show 0 ≤ ((v[a] : Nat) : Int) ∧ ((v[a] : Nat) : Int) < 66
    omega
  have h3 : ds.getD a 0 = 0 ∨ ds.getD a 0 = 1 := by
    rw [List.getD_eq_getElem?_getD, List.getElem?_eq_getElem ha]
    have := hd _ (List.getElem_mem ha)
    show ds[a] = 0 ∨ ds[a] = 1
    omega
  have e : (2 : Nat) ^ 71 = 2361183241434822606848 := by decide
  rcases h3 with h3 | h3 <;> rw [h3]
  · rw [Int.pow_zero]; omega
  · rw [show (2 : Int) ^ 1 = 2 from rfl]; omega
end My

set_option pp.maxSteps 300
set_option Elab.async false
set_option linter.all false
set_option maxRecDepth 100000
set_option maxHeartbeats 1000000
namespace My
open PySem L2 MyR GenZ
theorem LI.kept {H H' : Hp} {L d l : Addr} {xs : List Int} (h : LI H L xs) (k : Kept d l H H') (D : Deal H d l) (nl : L ≠ l) : LI H' L xs := by
  obtain ⟨z, n', ns, hd, hl, _⟩ := D.ex
  exact k _ _ h (ne_of (show H L = some (.lst _) from h) hd (by intro z; cases z)) nl
theorem TupI.kept {H H' : Hp} {t d l : Addr} {xs : List Int} (h : TupI H t xs) (k : Kept d l H H') (D : Deal H d l) : TupI H' t xs := by
  obtain ⟨n1, n2⟩ := D.nt (show H t = some (.tup _) from h)
  exact k _ _ h n1 n2
theorem LTI.kept {H H' : Hp} {L d l : Addr} {xss : List (List Int)} (h : LTI H L xss) (k : Kept d l H H') (D : Deal H d l) (nl : L ≠ l) : LTI H' L xss := by
  obtain ⟨as, e1, e2, e3⟩ := h
  obtain ⟨z, n', ns, hd, hl, _⟩ := id D.ex
  exact ⟨as, k _ _ e1 (ne_of e1 hd (by intro z; cases z)) nl, e2, fun i xs e => let ⟨p, q1, q2⟩ := e3 i xs e; ⟨p, q1, q2.kept k D⟩⟩
theorem cut_take (xs : List V) (i : Nat) : cutV xs none (some (i : Int)) = xs.take i := by
  unfold cutV
  rw [HT.sIx_nat]
  show (xs.drop 0).take (min i xs.length - 0) = xs.take i
  rw [List.drop_zero, Nat.sub_zero]
  by_cases h : i ≤ xs.length
  · rw [Nat.min_eq_left h]
  · rw [Nat.min_eq_right (by omega), List.take_length, List.take_of_length_le (by omega)]
theorem lti_take {H : Hp} {L R : Addr} {xss : List (List Int)} {us : List V} (n : Nat) (h : LTI H L xss) (hu : H L = some (.lst us)) (hR : H R = none) : LTI (upd H R (.lst (cutV us none (some (n : Int))))) R (xss.take n) := by
  have s := new_same (o := .lst (cutV us none (some (n : Int)))) hR
  obtain ⟨as, e1, e2, e3⟩ := h
  rw [hu] at e1
  obtain rfl := HO.lst.inj (Option.some.inj e1)
  refine ⟨as.take n, by rw [upd_same, cut_take, List.map_take], by rw [List.length_take, List.length_take, e2], fun i xs e => ?_⟩
  rw [List.getElem?_take] at e ⊢
  split at e
  · rename_i hi
    rw [if_pos hi]
    obtain ⟨p, q1, q2⟩ := e3 i xs e
    exact ⟨p, q1, q2.same s⟩
  · cases e
/-- what was handed out so far -/
def AccI (H : Hp) (acc : List V) (xss : List (List Int)) : Prop := ∃ as : List Addr, acc = as.map V.ref ∧ as.length = xss.length ∧ ∀ (i : Nat) xs, xss[i]? = some xs → ∃ p, as[i]? = some p ∧ TupI H p xs
theorem AccI.nil {H : Hp} : AccI H [] [] := ⟨[], rfl, rfl, fun i xs e => by simp at e⟩
theorem AccI.snoc {H H1 : Hp} {acc : List V} {xss : List (List Int)} {p : Addr} {xs : List Int} (h : AccI H acc xss) (s : Same H H1) (hp : TupI H1 p xs) : AccI H1 (acc ++ [.ref p]) (xss ++ [xs]) := by
  obtain ⟨as, rfl, e2, e3⟩ := h
  refine ⟨as ++ [p], by rw [List.map_append]; rfl, by rw [List.length_append, List.length_append, e2]; rfl, fun i ys e => ?_⟩
  by_cases hi : i < xss.length
  · rw [List.getElem?_append_left hi] at e
    obtain ⟨q, q1, q2⟩ := e3 i ys e
    exact ⟨q, by rw [List.getElem?_append_left (by omega)]; exact q1, q2.same s⟩
  · rw [List.getElem?_append_right (by omega)] at e
    have hi0 : i = xss.length := by
      have := (List.getElem?_eq_some_iff.mp e).1
      simp at this
      omega
    subst hi0
    rw [Nat.sub_self] at e
    cases e
    exact ⟨p, by rw [List.getElem?_append_right (by omega), e2, Nat.sub_self]; rfl, hp⟩
theorem AccI.len {H : Hp} {acc : List V} {xss : List (List Int)} (h : AccI H acc xss) : acc.length = xss.length := by
  obtain ⟨as, rfl, e2, _⟩ := h
  rw [List.length_map, e2]
theorem AccI.lst {H : Hp} {acc : List V} {xss : List (List Int)} {p : Addr} (h : AccI H acc xss) (hp : H p = none) : LTI (upd H p (.lst acc)) p xss := by
  obtain ⟨as, rfl, e2, e3⟩ := h
  exact ⟨as, upd_same, e2, fun i xs e => let ⟨q, q1, q2⟩ := e3 i xs e; ⟨q, q1, q2.same (new_same hp)⟩⟩
theorem Deal.upd {H : Hp} {d l G : Addr} {o : HO} (D : Deal H d l) (h1 : G ≠ d) (h2 : G ≠ l) : Deal (L2.upd H G o) d l := by
  obtain ⟨z, n, ns, hd, hl, r⟩ := D.ex
  exact ⟨z, n, ns, by rw [upd_ne (Ne.symm h1)]; exact hd, by rw [upd_ne (Ne.symm h2)]; exact hl, r⟩
theorem LTI.updM {H : Hp} {E G : Addr} {xss : List (List Int)} {ws : List V} {o : HO} (h : LTI H E xss) (hG : H G = some (.lst ws)) (n : E ≠ G) : LTI (L2.upd H G o) E xss := by
  obtain ⟨as, e1, e2, e3⟩ := h
  refine ⟨as, by rw [upd_ne n]; exact e1, e2, fun i xs e => ?_⟩
  obtain ⟨p, q1, q2⟩ := e3 i xs e
  have hq : H p = some (.tup (xs.map V.int)) := q2
  refine ⟨p, q1, ?_⟩
  show L2.upd H G o p = _
  rw [upd_ne (ne_of hq hG (by intro z; cases z))]
  exact hq
theorem rep_flat (n : Nat) : (List.replicate n [V.int 0]).flatten = (List.replicate n (0 : Int)).map V.int := by
  induction n with
  | zero => rfl
  | succ n ih => rw [List.replicate_succ, List.flatten_cons, ih, List.replicate_succ]; rfl
theorem atI_last {xs : List V} {x : V} (h : xs.getLast? = some x) : atI xs (-1) = some x := by
  have hl : 0 < xs.length := by
    cases xs with
    | nil => cases h
    | cons _ _ => rw [List.length_cons]; omega
  unfold atI ixN
  rw [if_neg (by decide), if_pos (by omega)]
  show xs[(-1 + (xs.length : Int)).toNat]? = some x
  rw [show (-1 + (xs.length : Int)).toNat = xs.length - 1 by omega, ← List.getLast?_eq_getElem?]
  exact h
theorem dI_last {ds : List Nat} {d : Nat} (h : ds.getLast? = some d) : ((dI ds).map V.int).getLast? = some (.int (d : Int)) := by
  unfold dI
  rw [List.getLast?_map, List.getLast?_map, h]
  rfl
theorem last_ex {ds : List Nat} (h : 1 ≤ ds.length) : ∃ d, ds.getLast? = some d ∧ d ∈ ds := by
  cases ds with
  | nil => cases h
  | cons a r => exact ⟨_, List.getLast?_eq_some_getLast (by simp), List.getLast_mem (by simp)⟩
theorem tops (m : Nat) (h : m ≤ 2) : ([V.int 64, V.int 16, V.int 6] : List V)[m]? = some (.int (topB (m + 1) : Int)) := by
  match m, h with
  | 0, _ => rfl
  | 1, _ => rfl
  | 2, _ => rfl
theorem topB_pos (m : Nat) : 1 ≤ topB m := by unfold topB; split <;> decide
def spPow : Sp := fun vs H Q _ => ∃ n : Nat, vs = [.int (n : Int)] ∧ 1 ≤ n ∧ Q (.int (twd n : Int)) H
section
variable {P : Program} {w : World} {K : PySem.W.Frag} {mg : Str → Option Value} {base : Heap}
abbrev s_law_power : Stmt := top 17
abbrev N_law_power : List Str := ["_law_number", "_law_found"]
theorem sc_law_power : FnScope N_law_power ["_law_number"] (defScope s_law_power) := ⟨rfl, rfl, rfl, by decide +kernel, rfl, by decide +kernel, by decide +kernel⟩
theorem ok_law_power {f : Addr} {fd : FuncData} (F : Fun K "_law_power" "_law_power" s_law_power f fd) : FnOk P w K mg base CX0 1 f fd ["_law_number"] spPow := by
  refine F.ok sc_law_power (fun vs H Q E h => ?_) (fun cdv A outer s H vs Q E hr h => ?_)
  · obtain ⟨n, rfl, _⟩ := h
    rfl
  · obtain ⟨n, rfl, hn, kq⟩ := h
    have nd := sc_law_power.nd
    refine ⟨_, (pss_cons (ps_set (i := 1) nd rfl (Or.inl rfl) pe_int)
    (pss_cons (ps_while PassesOwn.never (pt_cmpR op_eq (pe_op op_mod (pv 0) pe_int) pe_int (nomark _))
    (pss_one (ps_par (i := 0) (j := 1) rfl nd rfl rfl (by decide) rfl rfl (pa_cons (pe_op op_fdiv (pv 0) pe_int) (pa_cons (pe_op op_add (pv 1) pe_int) pa_nil)) (by rfl))))
    (pss_one (ps_ret (pv 1))))), ?_⟩
    refine seq_by (fun σ H1 => σ = [some (.int (n : Int)), some (.int 0)] ∧ H1 = H) (fun D' hD' => hD' _ _ ⟨rfl, rfl⟩) ?_
    rintro σ H1 ⟨rfl, rfl⟩
    refine seq_by (fun σ H2 => ∃ k f : Nat, σ = [some (.int (k : Int)), some (.int (f : Int))] ∧ H2 = H1 ∧ 1 ≤ k ∧ k % 2 = 1 ∧ f + twd k = twd n) (fun D' hD' => ?_) ?_
    · refine ⟨fun m σ H2 => ∃ k f : Nat, σ = [some (.int (k : Int)), some (.int (f : Int))] ∧ H2 = H1 ∧ 1 ≤ k ∧ f + twd k = twd n ∧ m = k, ⟨n, n, 0, rfl, rfl, hn, by omega, rfl⟩, ?_⟩
      rintro m σ H2 ⟨k, f, rfl, rfl, hk, hf, hmk⟩
      refine ⟨_, rfl, _, _, rfl, rfl, (by show (0 : Int) < 2; decide), rfl, _, rfl, ?_⟩
      refine ite2 (fun h => ?_) (fun h => ?_)
      · have h : (k : Int) % 2 = 0 := V.int.inj (of_decide_eq_true h)
        have h2 : k % 2 = 0 := by omega
        have hev := twd_even (by omega) h2
        refine ⟨fun σ' H' => ∃ k' f' : Nat, σ' = [some (.int (k' : Int)), some (.int (f' : Int))] ∧ H' = H2 ∧ 1 ≤ k' ∧ f' + twd k' = twd n ∧ k' < k, fun σ' H' ⟨k', f', e1, e2, e3, e4, e5⟩ => ⟨k', by omega, k', f', e1, e2, e3, e4, rfl⟩, ?_⟩
        refine ⟨_, rfl, _, _, rfl, rfl, ⟨by decide, by decide⟩, _, rfl, _, _, rfl, rfl, _, _, rfl, k / 2, f + 1, ?_, rfl, by omega, by omega, by omega⟩
        rw [show ((k / 2 : Nat) : Int) = (k : Int) / 2 by omega, show ((f + 1 : Nat) : Int) = (f : Int) + 1 by omega]
        rfl
      · have h : ¬ (k : Int) % 2 = 0 := fun z => h (decide_eq_true (by show V.int ((k : Int) % 2) = V.int 0; rw [z]))
        exact hD' _ _ ⟨k, f, rfl, rfl, hk, by omega, hf⟩
    rintro σ H2 ⟨k, f, rfl, rfl, hk, ho, hf⟩
    rw [twd_odd ho, Nat.add_zero] at hf
    refine ⟨_, rfl, ?_⟩
    rw [hf]
    exact kq
end
end My

set_option pp.maxSteps 300
set_option Elab.async false
set_option linter.all false
set_option maxRecDepth 100000
set_option maxHeartbeats 1000000
namespace My
open PySem L2 MyR GenZ
def spVany : SpG2 := fun vs H cont => ∃ m, m ≤ 2 ∧ spVectors (m + 1) vs H cont
def spLaw (K : PySem.W.Frag) : Sp := fun vs H Q _ => ∃ (a : Addr) (ns : List Int), vs = [.ref a] ∧ SqL K H a (ns.map V.int) ∧ ns.length ≤ 63 ∧ ∀ H', Q (.bl true) H'
section
variable {P : Program} {w : World} {K : PySem.W.Frag} {mg : Str → Option Value} {base : Heap}
abbrev s_law : Stmt := top 18
abbrev N_law : List Str := ["_law_script", "_law_deal_here", "_law_total", "_law_top", "_law_number", "_law_turn", "_law_many", "_law_bits", "_law_due", "_law_loss", "_law_at", "_law_listed", "_law_great", "_law_first"]
theorem sc_law : FnScope N_law ["_law_script"] (defScope s_law) := ⟨rfl, rfl, rfl, by decide +kernel, rfl, by decide +kernel, by decide +kernel⟩
theorem ok_law {f : Addr} {fd : FuncData} (F : Fun K "law" "law" s_law f fd) (T : Glob mg) (g_repr : mg "repr" = none) (g_sum : mg "sum" = none)
    (D_law_deal : Df P w K mg base 1 "_law_deal" ["_law_script", "_law_base"] (spDeal K)) (D_law_draw : Df P w K mg base 1 "_law_draw" ["_law_deal_here", "_law_many"] spDraw) (D_law_power : Df P w K mg base 1 "_law_power" ["_law_number"] spPow)
    (D_twos : Df P w K mg base 1 "twos" ["n"] spTwos) (D_count_vectors : Df P w K mg base 3 "count_vectors" ["count", "bits"] spCountV) (D_count_points : Df P w K mg base 4 "count_points" ["loss", "bits"] spCountQ)
    (D_vectors : DfG P w K mg base 9 true "vectors" ["count", "bits"] spVany) (D_points : DfG P w K mg base 11 false "points" ["loss", "bits"] spPoints)
    (D_law_vectors : Df P w K mg base 12 "_law_vectors" ["_law_many", "_law_bits"] spVecsA) (D_law_points : Df P w K mg base 13 "_law_points" ["_law_loss", "_law_bits"] spLpts)
    (D_law_first_vectors : Df P w K mg base 12 "_law_first_vectors" ["_law_many", "_law_bits", "_law_most"] spFv) (D_law_first_points : Df P w K mg base 14 "_law_first_points" ["_law_loss", "_law_bits", "_law_most"] spFp) : FnOkG P w K mg base CX0 17 f fd ["_law_script"] (spLaw K) := by
  refine okG F sc_law (fun vs H Q E h => ?_) (fun cdv A hgd outer s H vs Q E hr h => ?_)
  · obtain ⟨a, ns, rfl, _⟩ := h
    rfl
  · obtain ⟨sA, ns, rfl, hS, hlen, kq⟩ := h
    have nd := sc_law.nd
    refine ⟨_, (pss_cons (ps_set (i := 1) nd rfl (Or.inr rfl) (pe_call D_law_deal.ok (hr.mono (by decide)) (by rfl) D_law_deal.g D_law_deal.kp D_law_deal.b .nil pass0 (pa_cons (pv 0) (pa_cons pe_int pa_nil))))
    (pss_cons (ps_par (i := 2) (j := 3) rfl nd rfl rfl (by decide) rfl rfl (pa_cons pe_int (pa_cons (pe_call D_law_draw.ok (hr.mono (by decide)) (by rfl) D_law_draw.g D_law_draw.kp D_law_draw.b .nil pass0 (pa_cons (pv 1) (pa_cons pe_int pa_nil))) pa_nil)) (by rfl))
    (pss_cons (ps_for PassesOwn.never rfl (pi_range2 (by rfl) T.g_range (pa_cons pe_int (pa_cons (pe_op op_add (pv 3) pe_int) pa_nil))) (pg_name (i := 4) nd rfl (Or.inl rfl))
    (pss_one (ps_set (i := 2) nd rfl (Or.inl rfl) (pe_op op_add (pv 2) (pe_call D_law_power.ok (hr.mono (by decide)) (by rfl) D_law_power.g D_law_power.kp D_law_power.b .nil pass0 (pa_cons (pv 4) pa_nil))))))
    (pss_cons (ps_if (PW.pt (pw_or (pt_cmpR op_ne (pe_call D_twos.ok (hr.mono (by decide)) (by rfl) D_twos.g D_twos.kp D_twos.b .nil pass0 (pa_cons (pv 3) pa_nil)) (pv 2) (nomark _)) (pw_or (pt_cmpR op_ne (pe_call D_twos.ok (hr.mono (by decide)) (by rfl) D_twos.g D_twos.kp D_twos.b .nil pass0 (pa_cons pe_int pa_nil)) pe_int (nomark _)) (pw_or1 (pt_cmpR op_ne (pe_call D_twos.ok (hr.mono (by decide)) (by rfl) D_twos.g D_twos.kp D_twos.b .nil pass0 (pa_cons (pe_op op_shl pe_int pe_int) pa_nil)) (pe_op op_sub (pe_op op_shl pe_int pe_int) pe_int) (nomark _)))))) (pss_one ps_never) pss_nil)
    (pss_cons (ps_for PassesOwn.never rfl (pi_range1 (by rfl) T.g_range (pa_cons pe_int pa_nil)) (pg_name (i := 5) nd rfl (Or.inl rfl))
    (pss_cons (ps_set (i := 6) nd rfl (Or.inl rfl) (pe_op op_add pe_int (pe_call D_law_draw.ok (hr.mono (by decide)) (by rfl) D_law_draw.g D_law_draw.kp D_law_draw.b .nil pass0 (pa_cons (pv 1) (pa_cons pe_int pa_nil)))))
    (pss_cons (ps_set (i := 7) nd rfl (Or.inl rfl) (pe_op op_add pe_int (pe_call D_law_draw.ok (hr.mono (by decide)) (by rfl) D_law_draw.g D_law_draw.kp D_law_draw.b .nil pass0 (pa_cons (pv 1) (pa_cons (pe_ix ix_list (pe_lst (pa_cons pe_int (pa_cons pe_int (pa_cons pe_int pa_nil)))) (pe_op op_sub (pv 6) pe_int) (fun _ _ => rfl)) pa_nil)))))
    (pss_cons (ps_set (i := 8) nd rfl (Or.inl rfl) (pe_call D_law_vectors.ok (hr.mono (by decide)) (by rfl) D_law_vectors.g D_law_vectors.kp D_law_vectors.b .nil pass0 (pa_cons (pv 6) (pa_cons (pv 7) pa_nil))))
    (pss_cons (ps_if (PW.pt (pw_or (pt_cmpR (op_neD hr.units) (pe_call D_law_first_vectors.ok (hr.mono (by decide)) (by rfl) D_law_first_vectors.g D_law_first_vectors.kp D_law_first_vectors.b .nil pass0 (pa_cons (pv 6) (pa_cons (pv 7) (pa_cons pe_int pa_nil)))) (pe_slice sl_list (pv 8) po_none (po_some pe_int)) (nomark _)) (pw_or1 (pt_cmpR op_ne (pe_callB (call_reprD hgd hr.units) (by rfl) g_repr (by decide +kernel) (pa_cons (pe_listG2 (pgn_call D_vectors.ok (hr.mono (by decide)) (show 9 + 2 ≤ 11 by decide) (by rfl) D_vectors.g D_vectors.kp D_vectors.b .nil (pa_cons (pv 6) (pa_cons (pv 7) pa_nil))) (hr.mono (by decide)) (by rfl) T.g_list (by decide +kernel)) pa_nil)) (pe_callB (call_reprD hgd hr.units) (by rfl) g_repr (by decide +kernel) (pa_cons (pv 8) pa_nil)) (nomark _))))) (pss_one ps_never) pss_nil)
    (pss_cons (ps_if (pt_cmpR op_ne (pe_call D_count_vectors.ok (hr.mono (by decide)) (by rfl) D_count_vectors.g D_count_vectors.kp D_count_vectors.b .nil pass0 (pa_cons (pv 6) (pa_cons (pv 7) pa_nil))) (pe_callB call_len_seq (by rfl) T.g_len PySem.boot_len (pa_cons (pv 8) pa_nil)) (nomark _)) (pss_one ps_never) pss_nil)
    (pss_cons (ps_setLc (i := 9) (own := [("_law_at", 10)]) (g := gName 10) (tt := tYes) rfl nd rfl rfl (sw_true rfl rfl rfl (by decide +kernel)) (pi_range1 (by rfl) T.g_range (pa_cons (pv 6) pa_nil)) (blkOk_by (N := N_law) (sc := defScope s_law) (by decide +kernel)) (fun _ _ _ _ _ => pg_name (i := 10) nd rfl (Or.inl rfl)) (fun _ _ _ _ _ => pts_nil) (fun _ _ _ _ _ => (pe_call D_law_draw.ok (hr.mono (by decide)) (by rfl) D_law_draw.g D_law_draw.kp D_law_draw.b .nil pass0 (pa_cons (pv 1) (pa_cons pe_int pa_nil)))))
    (pss_cons (ps_set (i := 11) nd rfl (Or.inl rfl) (pe_call D_law_points.ok (hr.mono (by decide)) (by rfl) D_law_points.g D_law_points.kp D_law_points.b .nil pass0 (pa_cons (pv 9) (pa_cons (pv 7) pa_nil))))
    (pss_cons (ps_if (pt_cmpR op_ne (pe_callB (call_reprD hgd hr.units) (by rfl) g_repr (by decide +kernel) (pa_cons (pe_listG2 (pgn_call D_points.ok (hr.mono (by decide)) (show 11 + 2 ≤ 13 by decide) (by rfl) D_points.g D_points.kp D_points.b .nil (pa_cons (pe_ix ix_list (pe_lst (pa_cons (pv 9) (pa_cons (pe_callTy call_tuple_of (by rfl) T.g_tuple (by decide +kernel) (pa_cons (pv 9) pa_nil)) pa_nil))) (pe_op op_mod (pv 5) pe_int) (fun _ _ => rfl)) (pa_cons (pv 7) pa_nil))) (hr.mono (by decide)) (by rfl) T.g_list (by decide +kernel)) pa_nil)) (pe_callB (call_reprD hgd hr.units) (by rfl) g_repr (by decide +kernel) (pa_cons (pv 11) pa_nil)) (nomark _)) (pss_one ps_never) pss_nil)
    (pss_cons (ps_if (PW.pt (pw_or (pt_cmpR op_ne (pe_call D_count_points.ok (hr.mono (by decide)) (by rfl) D_count_points.g D_count_points.kp D_count_points.b .nil pass0 (pa_cons (pe_callTy call_tuple_of (by rfl) T.g_tuple (by decide +kernel) (pa_cons (pv 9) pa_nil)) (pa_cons (pv 7) pa_nil))) (pe_callB call_len_seq (by rfl) T.g_len PySem.boot_len (pa_cons (pv 11) pa_nil)) (nomark _)) (pw_or1 (pt_cmpR (op_neD hr.units) (pe_call D_law_first_points.ok (hr.mono (by decide)) (by rfl) D_law_first_points.g D_law_first_points.kp D_law_first_points.b .nil pass0 (pa_cons (pv 9) (pa_cons (pv 7) (pa_cons pe_int pa_nil)))) (pe_slice sl_list (pv 11) po_none (po_some pe_int)) (nomark _))))) (pss_one ps_never) pss_nil)
    (pss_cons (ps_setLc (i := 12) (own := [("_law_at", 10)]) (g := gName 10) (tt := tYes) rfl nd rfl rfl (sw_true rfl rfl rfl (by decide +kernel)) (pi_range1 (by rfl) T.g_range (pa_cons (pv 6) pa_nil)) (blkOk_by (N := N_law) (sc := defScope s_law) (by decide +kernel)) (fun _ _ _ _ _ => pg_name (i := 10) nd rfl (Or.inl rfl)) (fun _ _ _ _ _ => pts_nil) (fun _ _ _ _ _ => (pe_call D_law_draw.ok (hr.mono (by decide)) (by rfl) D_law_draw.g D_law_draw.kp D_law_draw.b .nil pass0 (pa_cons (pv 1) (pa_cons pe_int pa_nil)))))
    (pss_cons (ps_if (pt_cmpR op_ne (pe_call D_count_points.ok (hr.mono (by decide)) (by rfl) D_count_points.g D_count_points.kp D_count_points.b .nil pass0 (pa_cons (pv 12) (pa_cons (pv 7) pa_nil))) (pe_op op_mul (pe_callB call_len_seq (by rfl) T.g_len PySem.boot_len (pa_cons (pv 8) pa_nil)) (pe_op op_shl pe_int (pe_callB (cr_sumK (K := K) rfl rfl) (by rfl) g_sum (by decide +kernel) (pa_cons (pv 12) pa_nil)))) (nomark _)) (pss_one ps_never) pss_nil)
    (pss_cons (ps_set (i := 13) nd rfl (Or.inl rfl) (pe_call D_law_first_points.ok (hr.mono (by decide)) (by rfl) D_law_first_points.g D_law_first_points.kp D_law_first_points.b .nil pass0 (pa_cons (pv 12) (pa_cons (pv 7) (pa_cons pe_int pa_nil)))))
    (pss_one (ps_if (pt_cmpR (op_neD hr.units) (pv 13) (pe_lst (pa_cons (pe_callTy call_tuple_of (by rfl) T.g_tuple (by decide +kernel) (pa_cons (pe_op op_rep (pe_lst (pa_cons pe_int pa_nil)) (pv 6)) pa_nil)) (pa_cons (pe_callTy call_tuple_of (by rfl) T.g_tuple (by decide +kernel) (pa_cons (pe_op op_cat (pe_op op_rep (pe_lst (pa_cons pe_int pa_nil)) (pe_op op_sub (pv 6) pe_int)) (pe_lst (pa_cons (pe_op op_shl pe_int (pe_ix ix_list (pv 12) (pe_un un_neg pe_int) (fun _ _ => rfl))) pa_nil))) pa_nil)) pa_nil))) (nomark _)) (pss_one ps_never) pss_nil)))))))))))))))
    (pss_one (ps_ret pe_bl))))))), ?_⟩
    have zl' : 16777216 = sizeLine := sizeLine_eq.symm
    refine seq_by (fun σ H1 => ∃ dl l : Addr, σ = [some (.ref sA), some (.ref dl), none, none, none, none, none, none, none, none, none, none, none, none] ∧ Deal H1 dl l) (fun D' hD' => ?_) ?_
    · exact ⟨_, rfl, sA, ns, rfl, hS, hlen, fun dl l H1 hdn hln s1 D1 => hD' _ _ ⟨dl, l, rfl, D1⟩⟩
    rintro σ H1 ⟨dl, l, rfl, D1⟩
    clear hS
    refine seq_by (fun σ H2 => ∃ t : Nat, t < 60 ∧ σ = [some (.ref sA), some (.ref dl), some (.int 0), some (.int (t : Int)), none, none, none, none, none, none, none, none, none, none] ∧ Deal H2 dl l) (fun D' hD' => ?_) ?_
    · refine ⟨_, rfl, dl, l, 60, rfl, D1, by decide, by decide, fun r H2 hr0 hr1 D2 k2 => ⟨_, _, rfl, hD' _ _ ⟨r.toNat, by omega, ?_, D2⟩⟩⟩
      rw [show ((r.toNat : Nat) : Int) = r by omega]
      rfl
    clear D1
    rintro σ H2 ⟨t, ht, rfl, D2⟩
    refine seq_by (fun σ H3 => ∃ a4 : Option V, σ = [some (.ref sA), some (.ref dl), some (.int (tw t : Int)), some (.int (t : Int)), a4, none, none, none, none, none, none, none, none, none] ∧ Deal H3 dl l) (fun D' hD' => ?_) ?_
    · refine ⟨_, rfl, _, _, rfl, rfl, 1, (t : Int) + 1, rfl, ⟨by decide, by decide, by omega, by omega⟩, ?_⟩
      rw [show ((t : Int) + 1 - 1).toNat = t by omega]
      refine for_range (lo := 1) (n := t) (fun i σ H3 => ∃ a4 : Option V, σ = [some (.ref sA), some (.ref dl), some (.int (tw i : Int)), some (.int (t : Int)), a4, none, none, none, none, none, none, none, none, none] ∧ Deal H3 dl l) ⟨none, by rw [tw_zero]; rfl, D2⟩ ?_ ?_
      · rintro i σ H3 hi ⟨a4, rfl, D3⟩
        refine ⟨_, rfl, _, rfl, i + 1, by rw [show (1 : Int) + (i : Int) = ((i + 1 : Nat) : Int) by omega]; rfl, by omega, _, _, rfl, rfl, some (.int (1 + (i : Int))), ?_, D3⟩
        rw [show ((tw (i + 1) : Nat) : Int) = (tw i : Int) + (twd (i + 1) : Int) by rw [← tw_succ i]; omega]
        rfl
      · rintro σ H3 h
        exact hD' _ _ h
    clear D2
    rintro σ H3 ⟨a4, rfl, D3⟩
    refine seq_by (fun σ H4 => σ = [some (.ref sA), some (.ref dl), some (.int (tw t : Int)), some (.int (t : Int)), a4, none, none, none, none, none, none, none, none, none] ∧ Deal H4 dl l) (fun D' hD' => ?_) ?_
    · refine ⟨_, rfl, t, rfl, _, rfl, rfl, _, rfl, iteNS rfl ?_⟩
      refine ⟨0, rfl, rfl, _, rfl, iteNS (by rw [tw_zero]; rfl) ?_⟩
      refine ⟨_, _, rfl, rfl, ⟨by decide, by decide, by decide⟩, 2 ^ 70, by decide, _, _, rfl, rfl, ⟨by decide, by decide, by decide⟩, _, _, rfl, rfl, rfl, _, rfl, iteNS ?_ ?_⟩
      · rw [tw_two]
        decide +kernel
      · exact hD' _ _ ⟨rfl, D3⟩
    clear D3
    rintro σ H4 ⟨rfl, D4⟩
    refine ⟨3, rfl, by decide, by decide, ?_⟩
    refine for_range (lo := 0) (n := 3) (fun i σ H5 => ∃ tn a6 a7 a8 a9 a11 a12 a13 : Option V, σ = [some (.ref sA), some (.ref dl), some (.int (tw t : Int)), some (.int (t : Int)), a4, tn, a6, a7, a8, a9, none, a11, a12, a13] ∧ Deal H5 dl l)
      ⟨none, none, none, none, none, none, none, none, rfl, D4⟩ ?_ ?_
    rotate_left
    · rintro σ H5 _
      exact kq H5
    clear D4
    rintro i σ H5 hi ⟨tn, a6, a7, a8, a9, a11, a12, a13, rfl, D5⟩
    generalize hTn : some (V.int (0 + (i : Int))) = tn'

    -- many
    refine seq_by (fun σ H6 => ∃ m : Nat, m ≤ 2 ∧ σ = [some (.ref sA), some (.ref dl), some (.int (tw t : Int)), some (.int (t : Int)), a4, tn', some (.int ((m + 1 : Nat) : Int)), a7, a8, a9, none, a11, a12, a13] ∧ Deal H6 dl l) (fun D' hD' => ?_) ?_
    · refine ⟨_, rfl, dl, l, 3, rfl, D5, by decide, by decide, fun r H6 hr0 hr1 D6 k6 => ⟨_, _, rfl, rfl, hD' _ _ ⟨r.toNat, by omega, ?_, D6⟩⟩⟩
      rw [← hTn, show ((r.toNat + 1 : Nat) : Int) = 1 + r by omega]
      rfl
    clear D5
    rintro σ H6 ⟨m, hm, rfl, D6⟩
    -- bits
    refine seq_by (fun σ H7 => ∃ b : Nat, 1 ≤ b ∧ b ≤ topB (m + 1) ∧ σ = [some (.ref sA), some (.ref dl), some (.int (tw t : Int)), some (.int (t : Int)), a4, tn', some (.int ((m + 1 : Nat) : Int)), some (.int (b : Int)), a8, a9, none, a11, a12, a13] ∧ Deal H7 dl l) (fun D' hD' => ?_) ?_
    · refine ⟨_, rfl, (by show 3 ≤ sizeLine; omega), fun L hL => ⟨_, rfl, _, _, rfl, rfl, L, _, _, _, rfl, rfl, SqL.of upd_same, ?_, dl, l, (topB (m + 1) : Int), rfl, D6.same (new_same hL), ?_, ?_, fun r H7 hr0 hr1 D7 k7 => ⟨_, _, rfl, rfl, hD' _ _ ⟨(1 + r).toNat, by omega, by omega, ?_, D7⟩⟩⟩⟩
      · rw [show ((m + 1 : Nat) : Int) - 1 = (m : Int) by omega]
        exact atI_nat (tops m hm)
      · have := topB_pos (m + 1)
        omega
      · have := topB_le (m + 1)
        omega
      · rw [show (((1 + r).toNat : Nat) : Int) = 1 + r by omega]
        rfl
    clear D6
    rintro σ H7 ⟨b, hb1, hbt, rfl, D7⟩
    have hb64 : b ≤ 64 := Nat.le_trans hbt (topB_le _)
    have hvl := vecs_small (m := m + 1) (by omega) (by omega) hbt
    have hdl : (dV b (m + 1)).length = (vecs (m + 1) b).length := by unfold dV; rw [List.length_map]
    -- due
    refine seq_by (fun σ H8 => ∃ E : Addr, σ = [some (.ref sA), some (.ref dl), some (.int (tw t : Int)), some (.int (t : Int)), a4, tn', some (.int ((m + 1 : Nat) : Int)), some (.int (b : Int)), some (.ref E), a9, none, a11, a12, a13] ∧ Deal H8 dl l ∧ E ≠ l ∧ LTI H8 E (dV b (m + 1))) (fun D' hD' => ?_) ?_
    · exact ⟨_, rfl, _, rfl, m + 1, by omega, b, rfl, hb1, hb64, by omega, by omega, fun L H8 hL s8 hl8 => hD' _ _ ⟨L, rfl, D7.same s8, (D7.free hL).2, hl8⟩⟩
    clear D7
    rintro σ H8 ⟨E, rfl, D8, nEl, hE8⟩
    have RE : RepOk (.list (tD (dV b (m + 1)))) := lt_rep (dV_ent hb64) (dV_w (by omega)) (by omega)
    refine seq_by (fun σ H9 => σ = [some (.ref sA), some (.ref dl), some (.int (tw t : Int)), some (.int (t : Int)), a4, tn', some (.int ((m + 1 : Nat) : Int)), some (.int (b : Int)), some (.ref E), a9, none, a11, a12, a13] ∧ Same H8 H9) (fun D' hD' => ?_) ?_
    · refine ⟨_, rfl, _, rfl, m, b, 2, rfl, hm, hb1, hb64, by decide, fun L H9 hL s9 hl9 => ?_⟩
      have hE9 := hE8.same s9
      obtain ⟨as, e1, _, _⟩ := id hE9
      refine ⟨_, rfl, ?_⟩
      dsimp only [tNoPart]
      refine ⟨_, rfl, E, _, rfl, SqL.of e1, fun R hR => ?_⟩
      have hR9 := lti_take 2 hE9 e1 hR
      have sR := new_same (o := .lst (cutV (as.map V.ref) none (some ((2 : Nat) : Int)))) hR
      refine ⟨_, _, lt_dp (hl9.same sR), lt_dp hR9, tD_shapeL _, tD_shapeL _, _, rfl, ?_⟩
      rw [tD_eqL]
      refine iteF ?_
      have hE10 := hE9.same sR
      have s10 := Same.tr s9 sR
      refine ⟨_, rfl, _, rfl, m, hm, b, rfl, hb1, hb64, by omega, ?_⟩
      refine ⟨fun (t : Nat) acc H => t ≤ (dV b (m + 1)).length ∧ AccI H acc ((dV b (m + 1)).take t) ∧ Same H8 H, ⟨Nat.zero_le _, AccI.nil, s10⟩, fun (t : Nat) acc H ⟨ht, ha, sH⟩ => ⟨trivial, ?_, ?_⟩⟩
      · rintro x H1 (t' : Nat) ⟨rfl, p, v, rfl, s1, hv, hp⟩
        have hlt := (List.getElem?_eq_some_iff.mp hv).1
        have hdv : (dV b (m + 1))[t]? = some (dI v) := by unfold dV; rw [List.getElem?_map, hv]; rfl
        refine ⟨by rw [ha.len, List.length_take]; omega, by omega, ?_, Same.tr sH s1⟩
        rw [List.take_succ, hdv]
        exact ha.snoc s1 hp
      · rintro H1 ⟨hte, s1⟩
        have ha1 : AccI H acc (dV b (m + 1)) := by rw [List.take_of_length_le (by rw [hdl]; omega)] at ha; exact ha
        refine ⟨by rw [ha1.len]; omega, fun p hp => ?_⟩
        obtain ⟨as2, f1, f2, f3⟩ := ha1
        have ha2 : AccI H1 acc (dV b (m + 1)) := ⟨as2, f1, f2, fun i xs e => let ⟨q, q1, q2⟩ := f3 i xs e; ⟨q, q1, q2.same s1⟩⟩
        have hG := ha2.lst hp
        have sp := new_same (o := .lst acc) hp
        have s11 := Same.tr (Same.tr sH s1) sp
        refine .inr ⟨p, _, rfl, lt_dp hG, RE.s, RE.n, RE.d, RE.l, _, rfl, .inr ⟨E, _, rfl, lt_dp (hE8.same s11), RE.s, RE.n, RE.d, RE.l, rfl, _, rfl, iteNS rfl (hD' _ _ ⟨rfl, s11⟩)⟩⟩
    rintro σ H9 ⟨rfl, s9⟩
    replace D8 := D8.same s9
    replace hE8 := hE8.same s9
    clear s9
    -- their number
    refine seq_by (fun σ H10 => σ = [some (.ref sA), some (.ref dl), some (.int (tw t : Int)), some (.int (t : Int)), a4, tn', some (.int ((m + 1 : Nat) : Int)), some (.int (b : Int)), some (.ref E), a9, none, a11, a12, a13] ∧ Same H9 H10) (fun D' hD' => ?_) ?_
    · refine ⟨_, rfl, _, rfl, m + 1, b, rfl, by omega, hb1, hb64, fun H10 s10 => ?_⟩
      obtain ⟨us, u1, u2, _⟩ := (hE8.same s10).lenV
      refine ⟨_, rfl, E, _, rfl, .inl (SqL.of u1), rfl, _, rfl, iteNS ?_ (hD' _ _ ⟨rfl, s10⟩)⟩
      rw [u2, hdl]
    rintro σ H10 ⟨rfl, s10⟩
    replace D8 := D8.same s10
    replace hE8 := hE8.same s10
    clear s10
    -- the loss
    refine seq_by (fun σ H11 => ∃ (G : Addr) (ds : List Nat), σ = [some (.ref sA), some (.ref dl), some (.int (tw t : Int)), some (.int (t : Int)), a4, tn', some (.int ((m + 1 : Nat) : Int)), some (.int (b : Int)), some (.ref E), some (.ref G), none, a11, a12, a13] ∧ ds.length = m + 1 ∧ (∀ d ∈ ds, d ≤ 1) ∧ Deal H11 dl l ∧ G ≠ l ∧ LI H11 G (dI ds) ∧ LTI H11 E (dV b (m + 1))) (fun D' hD' => ?_) ?_
    · refine ⟨_, rfl, ((m + 1 : Nat) : Int), rfl, by omega, by omega, fun G hG => ?_⟩
      rw [Int.toNat_natCast]
      have sG := new_same (o := .lst []) hG
      have DG := D8.free hG
      have nEG : E ≠ G := by
        obtain ⟨as, e1, _⟩ := hE8
        exact ne_of_none e1 hG
      refine lc_it (n := m + 1) walk_range (fun k H11 => ∃ ds : List Nat, ds.length = k ∧ (∀ d ∈ ds, d ≤ 1) ∧ Deal H11 dl l ∧ LI H11 G (dI ds) ∧ LTI H11 E (dV b (m + 1))) ⟨[], rfl, fun d hd => by (cases hd), D8.same sG, upd_same, hE8.same sG⟩ (fun _ _ _ _ => trivial) ?_ ?_
      · rintro a z H11 H12 ha ⟨ds, hds, hd1, D11, hG11, hE11⟩ ⟨rfl, rfl⟩
        refine ⟨rfl, ?_⟩
        dsimp only [tYes]
        rw [if_pos rfl]
        refine ⟨_, rfl, dl, l, 2, rfl, D11, by decide, by decide, fun r H12 hr0 hr1 D12 k12 => ?_⟩
        have hG12 := hG11.kept k12 D11 DG.2
        have hE12 := hE11.kept k12 D11 nEl
        have hrn : ((r.toNat : Nat) : Int) = r := by omega
        have hGs : H12 G = some (.lst ((dI ds).map V.int)) := hG12
        have hdn : (dI (ds ++ [r.toNat])).map V.int = (dI ds).map V.int ++ [V.int r] := by
          unfold dI
          rw [List.map_append, List.map_append]
          show _ ++ [V.int ((r.toNat : Nat) : Int)] = _
          rw [hrn]
        refine ⟨_, hGs, by rw [List.length_map]; unfold dI; rw [List.length_map]; omega, ds ++ [r.toNat], by rw [List.length_append, hds]; rfl, fun d hd => ?_, ?_, ?_, ?_⟩
        · rcases List.mem_append.mp hd with h | h
          · exact hd1 d h
          · rw [List.mem_singleton.mp h]; omega
        · exact D12.upd DG.1 DG.2
        · show upd H12 G _ G = _
          rw [upd_same, hdn]
        · exact hE12.updM hGs nEG
      · rintro H11 ⟨ds, h1, h2, h3, h4, h5⟩
        exact hD' _ _ ⟨G, ds, rfl, h1, h2, h3, DG.2, h4, h5⟩
    clear D8 hE8
    rintro σ H11 ⟨G, ds, rfl, hdsl, hd1, D11, nGl, hG11, hE11⟩
    have hPs : (vecs ds.length b).length < 5000 := by rw [hdsl]; omega
    have hptl : (ptsL ds b).length = nP ds b := ptsL_len hb1
    have hsum3 : ds.sum ≤ 3 := Nat.le_trans (sum_le1 hd1) (by omega)
    have hnP : nP ds b ≤ 8000 := by
      have h2 : 2 ^ ds.sum ≤ 2 ^ 3 := Nat.pow_le_pow_right (by decide) hsum3
      have h3 : nV ds b ≤ 1000 := by show (vecs ds.length b).length ≤ 1000; rw [hdsl]; exact hvl
      exact Nat.le_trans (Nat.mul_le_mul h2 h3) (by decide)
    -- the points
    refine seq_by (fun σ H12 => ∃ R : Addr, σ = [some (.ref sA), some (.ref dl), some (.int (tw t : Int)), some (.int (t : Int)), a4, tn', some (.int ((m + 1 : Nat) : Int)), some (.int (b : Int)), some (.ref E), some (.ref G), none, some (.ref R), a12, a13] ∧ Same H11 H12 ∧ R ≠ l ∧ LTI H12 R (ptsL ds b)) (fun D' hD' => ?_) ?_
    · exact ⟨_, rfl, _, rfl, G, ds, b, rfl, hG11, by omega, by omega, hd1, hb1, hb64, hPs, fun L H12 hL s12 hl12 => hD' _ _ ⟨L, rfl, s12, (D11.free hL).2, hl12⟩⟩
    rintro σ H12 ⟨R, rfl, s12, nRl, hR12⟩
    replace D11 := D11.same s12
    replace hG11 := hG11.same s12
    replace hE11 := hE11.same s12
    clear s12
    have hpe := pts_ent hb64 hd1
    have RR : RepOk (.list (tD (ptsL ds b))) := lt_rep (fun xs h => (hpe xs h).2) (fun xs h => by rw [(hpe xs h).1]; omega) (by omega)
    refine seq_by (fun σ H13 => σ = [some (.ref sA), some (.ref dl), some (.int (tw t : Int)), some (.int (t : Int)), a4, tn', some (.int ((m + 1 : Nat) : Int)), some (.int (b : Int)), some (.ref E), some (.ref G), none, some (.ref R), a12, a13] ∧ Same H12 H13) (fun D' hD' => ?_) ?_
    · refine ⟨_, rfl, _, rfl, G, _, rfl, .inl ⟨SqL.of hG11, fun tp htp => ⟨(by show 2 ≤ sizeLine; omega), fun L hL => ?_⟩⟩⟩
      have st := new_same (o := .tup ((dI ds).map V.int)) htp
      have sL := new_same (o := .lst [.ref G, .ref tp]) hL
      have s2 := Same.tr st sL
      have hT : TupI (upd (upd H12 tp (.tup ((dI ds).map V.int))) L (.lst [.ref G, .ref tp])) tp (dI ds) := sL _ _ upd_same
      have hG2 := hG11.same s2
      rw [← hTn]
      refine ⟨_, rfl, _, _, rfl, rfl, (by show (0 : Int) < 2; decide), ?_⟩
      have pick : ∃ la, atI [V.ref G, V.ref tp] ((0 + (i : Int)) % 2) = some (.ref la) ∧ DsA (upd (upd H12 tp (.tup ((dI ds).map V.int))) L (.lst [.ref G, .ref tp])) la ds := by
        have : (0 + (i : Int)) % 2 = 0 ∨ (0 + (i : Int)) % 2 = 1 := by omega
        rcases this with h | h <;> rw [h]
        · exact ⟨G, rfl, .inl hG2⟩
        · exact ⟨tp, rfl, .inr hT⟩
      obtain ⟨la, hat, hda⟩ := pick
      refine ⟨L, _, _, _, rfl, rfl, SqL.of upd_same, hat, _, rfl, la, ds, b, rfl, hda, by omega, by omega, fun d hd => by have := hd1 d hd; omega, hb1, hb64, ?_⟩
      generalize upd (upd H12 tp (.tup ((dI ds).map V.int))) L (.lst [.ref G, .ref tp]) = Hc at s2 hda hT hG2 ⊢
      refine ⟨fun (t : Nat × Addr) acc H => t.1 ≤ nP ds b ∧ AccI H acc ((List.range t.1).map (ptAt ds b)) ∧ Same Hc H ∧ (0 < t.1 → LI H t.2 (resI ds (((t.1 - 1) / nV ds b : Nat) : Int)) ∧ Hc t.2 = none), ⟨Nat.zero_le _, AccI.nil, same_refl, fun h => absurd h (Nat.lt_irrefl _)⟩, fun (t : Nat × Addr) acc H ⟨ht, ha, sH, hli⟩ => ⟨⟨hda.same sH, fun q hq => ?_, hli⟩, ?_, ?_⟩⟩
      · obtain ⟨o, ho⟩ := Option.ne_none_iff_exists'.mp hq
        rw [sH q o ho]; exact Option.some_ne_none o
      · rintro x H1 (t' : Nat × Addr) ⟨ht', hlt, s1, hli1, hn1, p, rfl, hp⟩
        refine ⟨by rw [ha.len, List.length_map, List.length_range]; omega, by omega, ?_, Same.tr sH s1, fun _ => ⟨?_, hn1⟩⟩
        · rw [ht', List.range_succ, List.map_append]
          exact ha.snoc s1 hp
        · rw [ht', Nat.add_sub_cancel]
          exact hli1
      · rintro H1 ⟨hte, s1⟩
        rw [hte, ← ptsL_eq hb1] at ha
        refine ⟨by rw [ha.len, hptl]; omega, fun p hp => ?_⟩
        obtain ⟨as2, f1, f2, f3⟩ := ha
        have ha2 : AccI H1 acc (ptsL ds b) := ⟨as2, f1, f2, fun i xs e => let ⟨q, q1, q2⟩ := f3 i xs e; ⟨q, q1, q2.same s1⟩⟩
        have hG3 := ha2.lst hp
        have sp := new_same (o := .lst acc) hp
        have s11 := Same.tr s2 (Same.tr (Same.tr sH s1) sp)
        refine .inr ⟨p, _, rfl, lt_dp hG3, RR.s, RR.n, RR.d, RR.l, _, rfl, .inr ⟨R, _, rfl, lt_dp (hR12.same s11), RR.s, RR.n, RR.d, RR.l, rfl, _, rfl, iteNS rfl (hD' _ _ ⟨by rw [hTn], s11⟩)⟩⟩
    rintro σ H13 ⟨rfl, s13⟩
    replace D11 := D11.same s13
    replace hG11 := hG11.same s13
    replace hE11 := hE11.same s13
    replace hR12 := hR12.same s13
    clear s13
    -- their number, the first of them
    refine seq_by (fun σ H14 => σ = [some (.ref sA), some (.ref dl), some (.int (tw t : Int)), some (.int (t : Int)), a4, tn', some (.int ((m + 1 : Nat) : Int)), some (.int (b : Int)), some (.ref E), some (.ref G), none, some (.ref R), a12, a13] ∧ Same H13 H14) (fun D' hD' => ?_) ?_
    · refine ⟨_, rfl, G, _, rfl, .inl ⟨SqL.of hG11, fun tp htp => ?_⟩⟩
      have st := new_same (o := .tup ((dI ds).map V.int)) htp
      refine ⟨_, rfl, tp, ds, b, rfl, .inr upd_same, by omega, by omega, hb1, hb64, hPs, fun H14 s14 => ?_⟩
      have s14' := Same.tr st s14
      obtain ⟨us, u1, u2, _⟩ := (hR12.same s14').lenV
      refine ⟨_, rfl, R, _, rfl, .inl (SqL.of u1), rfl, _, rfl, iteNS ?_ ?_⟩
      · rw [u2, hptl]
        show V.int _ = V.int ((2 ^ ds.sum * nV ds b : Nat) : Int)
        rw [Int.natCast_mul, pow_cast, Int.mul_comm]
      refine ⟨_, rfl, _, rfl, G, ds, b, 3, rfl, .inl (hG11.same s14'), by omega, by omega, fun d hd => by have := hd1 d hd; omega, hb1, hb64, by decide, fun L H15 hL s15 hl15 => ?_⟩
      have s15' := Same.tr s14' s15
      have hR15 := hR12.same s15'
      obtain ⟨as, e1, _, _⟩ := id hR15
      refine ⟨_, rfl, ?_⟩
      dsimp only [tNoPart]
      refine ⟨_, rfl, R, _, rfl, SqL.of e1, fun Z hZ => ?_⟩
      have hZ9 := lti_take 3 hR15 e1 hZ
      have sZ := new_same (o := .lst (cutV (as.map V.ref) none (some ((3 : Nat) : Int)))) hZ
      have hl16 := hl15.same sZ
      rw [ptsL_eq hb1, ← List.map_take, List.take_range] at hZ9
      refine ⟨_, _, lt_dp hl16, lt_dp hZ9, tD_shapeL _, tD_shapeL _, _, rfl, ?_⟩
      rw [tD_eqL]
      exact iteF (hD' _ _ ⟨rfl, Same.tr s15' sZ⟩)
    rintro σ H14 ⟨rfl, s14⟩
    replace D11 := D11.same s14
    replace hE11 := hE11.same s14
    clear s14 hG11 hR12
    -- great losses
    refine seq_by (fun σ H15 => ∃ (Z : Addr) (es : List Nat), σ = [some (.ref sA), some (.ref dl), some (.int (tw t : Int)), some (.int (t : Int)), a4, tn', some (.int ((m + 1 : Nat) : Int)), some (.int (b : Int)), some (.ref E), some (.ref G), none, some (.ref R), some (.ref Z), a13] ∧ es.length = m + 1 ∧ (∀ d ∈ es, d ≤ 16) ∧ Deal H15 dl l ∧ LI H15 Z (dI es) ∧ LTI H15 E (dV b (m + 1))) (fun D' hD' => ?_) ?_
    · refine ⟨_, rfl, ((m + 1 : Nat) : Int), rfl, by omega, by omega, fun Z hZ => ?_⟩
      rw [Int.toNat_natCast]
      have sZ := new_same (o := .lst []) hZ
      have DZ := D11.free hZ
      have nEZ : E ≠ Z := by
        obtain ⟨as, e1, _⟩ := hE11
        exact ne_of_none e1 hZ
      refine lc_it (n := m + 1) walk_range (fun k H15 => ∃ es : List Nat, es.length = k ∧ (∀ d ∈ es, d ≤ 16) ∧ Deal H15 dl l ∧ LI H15 Z (dI es) ∧ LTI H15 E (dV b (m + 1))) ⟨[], rfl, fun d hd => by (cases hd), D11.same sZ, upd_same, hE11.same sZ⟩ (fun _ _ _ _ => trivial) ?_ ?_
      · rintro a z H15 H16 ha ⟨es, hes, he1, D15, hZ15, hE15⟩ ⟨rfl, rfl⟩
        refine ⟨rfl, ?_⟩
        dsimp only [tYes]
        rw [if_pos rfl]
        refine ⟨_, rfl, dl, l, 17, rfl, D15, by decide, by decide, fun r H16 hr0 hr1 D16 k16 => ?_⟩
        have hZ16 := hZ15.kept k16 D15 DZ.2
        have hE16 := hE15.kept k16 D15 nEl
        have hrn : ((r.toNat : Nat) : Int) = r := by omega
        have hZs : H16 Z = some (.lst ((dI es).map V.int)) := hZ16
        have hdn : (dI (es ++ [r.toNat])).map V.int = (dI es).map V.int ++ [V.int r] := by
          unfold dI
          rw [List.map_append, List.map_append]
          show _ ++ [V.int ((r.toNat : Nat) : Int)] = _
          rw [hrn]
        refine ⟨_, hZs, by rw [List.length_map]; unfold dI; rw [List.length_map]; omega, es ++ [r.toNat], by rw [List.length_append, hes]; rfl, fun d hd => ?_, ?_, ?_, ?_⟩
        · rcases List.mem_append.mp hd with h | h
          · exact he1 d h
          · rw [List.mem_singleton.mp h]; omega
        · exact D16.upd DZ.1 DZ.2
        · show upd H16 Z _ Z = _
          rw [upd_same, hdn]
        · exact hE16.updM hZs nEZ
      · rintro H15 ⟨es, h1, h2, h3, h4, h5⟩
        exact hD' _ _ ⟨Z, es, rfl, h1, h2, h3, h4, h5⟩
    clear D11 hE11
    rintro σ H15 ⟨Z, es, rfl, hesl, he16, D15, hZ15, hE15⟩
    have hes48 := sum_le (ds := es) (by omega) he16
    have hPe : (vecs es.length b).length < 5000 := by rw [hesl]; omega
    have hnPe : nP es b = 2 ^ es.sum * (vecs (m + 1) b).length := by show 2 ^ es.sum * (vecs es.length b).length = _; rw [hesl]
    refine seq_by (fun σ H16 => σ = [some (.ref sA), some (.ref dl), some (.int (tw t : Int)), some (.int (t : Int)), a4, tn', some (.int ((m + 1 : Nat) : Int)), some (.int (b : Int)), some (.ref E), some (.ref G), none, some (.ref R), some (.ref Z), a13] ∧ Same H15 H16) (fun D' hD' => ?_) ?_
    · refine ⟨_, rfl, _, rfl, Z, es, b, rfl, .inl hZ15, by omega, by omega, hb1, hb64, hPe, fun H16 s16 => ?_⟩
      obtain ⟨us, u1, u2, _⟩ := (hE15.same s16).lenV
      refine ⟨_, rfl, E, _, rfl, .inl (SqL.of u1), _, rfl, false, Z, dI es, rfl, sqK_l (SqL.of (hZ15.same s16)), ?_⟩
      rw [show (dI es).sum = (es.sum : Int) from nat_sum es]
      refine ⟨_, _, rfl, rfl, ⟨by omega, by omega, by decide⟩, _, _, rfl, rfl, .inl ⟨?_, ?_⟩, rfl, _, rfl, iteNS ?_ (hD' _ _ ⟨rfl, s16⟩)⟩
      · rw [u2, hdl]; omega
      · rw [u2, hdl]; omega
      · rw [u2, hdl, hesl, Int.toNat_natCast, Int.one_mul]
    rintro σ H16 ⟨rfl, s16⟩
    replace D15 := D15.same s16
    replace hZ15 := hZ15.same s16
    clear s16 hE15
    refine seq_by (fun σ H17 => ∃ F : Addr, σ = [some (.ref sA), some (.ref dl), some (.int (tw t : Int)), some (.int (t : Int)), a4, tn', some (.int ((m + 1 : Nat) : Int)), some (.int (b : Int)), some (.ref E), some (.ref G), none, some (.ref R), some (.ref Z), some (.ref F)] ∧ Same H16 H17 ∧ LTI H17 F ((List.range (min 2 (nP es b))).map (ptAt es b))) (fun D' hD' => ?_) ?_
    · exact ⟨_, rfl, _, rfl, Z, es, b, 2, rfl, .inl hZ15, by omega, by omega, he16, hb1, hb64, by decide, fun L H17 hL s17 hl17 => hD' _ _ ⟨L, rfl, s17, hl17⟩⟩
    rintro σ H17 ⟨F, rfl, s17, hF17⟩
    replace D15 := D15.same s17
    replace hZ15 := hZ15.same s17
    obtain ⟨d, hdL, hdm⟩ := last_ex (ds := es) (by omega)
    have h2P := nP_two (ds := es) hb1 (by omega)
    rw [Nat.min_eq_left h2P] at hF17
    have hrng : (List.range 2).map (ptAt es b) = [List.replicate (m + 1) 0, List.replicate m 0 ++ [2 ^ d]] := by
      show [ptAt es b 0, ptAt es b 1] = _
      rw [pt_0 hb1 (by omega) (by omega), pt_1 hb1 (by omega) hdL, hesl]
      rfl
    rw [hrng] at hF17
    have hd16 := he16 d hdm
    refine ⟨_, rfl, (by show 1 ≤ sizeLine; omega), fun L1 hL1 => ⟨_, rfl, L1, _, _, rfl, rfl, upd_same, by omega, by omega, ?_, fun p1 hp1 => ⟨p1, _, rfl, .inl ⟨SqL.of upd_same, fun t1 ht1 => ?_⟩⟩⟩⟩
    · rw [Int.toNat_natCast]
      show 1 * (m + 1) ≤ sizeLine
      omega
    have sa1 := new_same (o := .lst [V.int 0]) hL1
    have sa2 := new_same (o := .lst (List.replicate ((m + 1 : Nat) : Int).toNat [V.int 0]).flatten) hp1
    have sa3 := new_same (o := .tup (List.replicate ((m + 1 : Nat) : Int).toNat [V.int 0]).flatten) ht1
    have sa := Same.tr sa1 (Same.tr sa2 sa3)
    have hT1 : TupI (upd (upd (upd H17 L1 (.lst [V.int 0])) p1 (.lst (List.replicate ((m + 1 : Nat) : Int).toNat [V.int 0]).flatten)) t1 (.tup (List.replicate ((m + 1 : Nat) : Int).toNat [V.int 0]).flatten)) t1 (List.replicate (m + 1) 0) := by
      show upd _ t1 _ t1 = _
      rw [upd_same, Int.toNat_natCast, rep_flat]
    generalize upd (upd (upd H17 L1 (.lst [V.int 0])) p1 (.lst (List.replicate ((m + 1 : Nat) : Int).toNat [V.int 0]).flatten)) t1 (.tup (List.replicate ((m + 1 : Nat) : Int).toNat [V.int 0]).flatten) = HA at sa hT1 ⊢
    clear sa1 sa2 sa3
    refine ⟨(by show 1 ≤ sizeLine; omega), fun Lb hLb => ⟨_, rfl, _, _, rfl, rfl, Lb, _, _, rfl, rfl, upd_same, by omega, by omega, ?_, fun p2 hp2 => ?_⟩⟩
    · show 1 * (((m + 1 : Nat) : Int) - 1).toNat ≤ sizeLine
      omega
    have hm1 : (((m + 1 : Nat) : Int) - 1).toNat = m := by omega
    rw [hm1, rep_flat]
    have sb1 := new_same (o := .lst [V.int 0]) hLb
    have sb2 := new_same (o := .lst ((List.replicate m (0 : Int)).map V.int)) hp2
    have sb := Same.tr sb1 sb2
    have hp2' : upd (upd HA Lb (.lst [V.int 0])) p2 (.lst ((List.replicate m (0 : Int)).map V.int)) p2 = some (.lst ((List.replicate m (0 : Int)).map V.int)) := upd_same
    generalize upd (upd HA Lb (.lst [V.int 0])) p2 (.lst ((List.replicate m (0 : Int)).map V.int)) = HB at sb hp2' ⊢
    clear sb1 sb2
    have hZB := (hZ15.same sa).same sb
    refine ⟨_, rfl, _, rfl, Z, _, _, _, rfl, rfl, SqL.of hZB, atI_last (dI_last hdL), _, _, rfl, rfl, ⟨by omega, by omega, by decide⟩, (by show 1 ≤ sizeLine; omega), fun L3 hL3 => ?_⟩
    have hpw : (1 : Int) * 2 ^ ((d : Nat) : Int).toNat = 2 ^ d := by rw [Int.toNat_natCast, Int.one_mul]
    have sc1 := new_same (o := .lst [V.int (1 * 2 ^ ((d : Nat) : Int).toNat)]) hL3
    refine ⟨p2, L3, _, _, rfl, rfl, sc1 _ _ hp2', upd_same, ?_, fun p3 hp3 => ⟨p3, _, rfl, .inl ⟨SqL.of upd_same, fun t2 ht2 => ?_⟩⟩⟩
    · rw [List.length_map, List.length_replicate]
      show m + 1 ≤ sizeLine
      omega
    have sc2 := new_same (o := .lst ((List.replicate m (0 : Int)).map V.int ++ [V.int (1 * 2 ^ ((d : Nat) : Int).toNat)])) hp3
    have sc3 := new_same (o := .tup ((List.replicate m (0 : Int)).map V.int ++ [V.int (1 * 2 ^ ((d : Nat) : Int).toNat)])) ht2
    have sc := Same.tr sc1 (Same.tr sc2 sc3)
    have hT2 : TupI (upd (upd (upd HB L3 (.lst [V.int (1 * 2 ^ ((d : Nat) : Int).toNat)])) p3 (.lst ((List.replicate m (0 : Int)).map V.int ++ [V.int (1 * 2 ^ ((d : Nat) : Int).toNat)]))) t2 (.tup ((List.replicate m (0 : Int)).map V.int ++ [V.int (1 * 2 ^ ((d : Nat) : Int).toNat)]))) t2 (List.replicate m 0 ++ [2 ^ d]) := by
      show upd _ t2 _ t2 = _
      rw [upd_same, ← hpw, List.map_append]
      rfl
    generalize upd (upd (upd HB L3 (.lst [V.int (1 * 2 ^ ((d : Nat) : Int).toNat)])) p3 (.lst ((List.replicate m (0 : Int)).map V.int ++ [V.int (1 * 2 ^ ((d : Nat) : Int).toNat)]))) t2 (.tup ((List.replicate m (0 : Int)).map V.int ++ [V.int (1 * 2 ^ ((d : Nat) : Int).toNat)])) = HC at sc hT2 ⊢
    clear sc1 sc2 sc3
    refine ⟨(by show 2 ≤ sizeLine; omega), fun M hM => ?_⟩
    have sM := new_same (o := .lst [.ref t1, .ref t2]) hM
    have hMM : LTI (upd HC M (.lst [.ref t1, .ref t2])) M [List.replicate (m + 1) 0, List.replicate m 0 ++ [2 ^ d]] := by
      refine ⟨[t1, t2], upd_same, rfl, fun i xs e => ?_⟩
      match i, e with
      | 0, e => cases e; exact ⟨t1, rfl, ((hT1.same sb).same sc).same sM⟩
      | 1, e => cases e; exact ⟨t2, rfl, hT2.same sM⟩
    have sAll := Same.tr (Same.tr sa sb) (Same.tr sc sM)
    refine ⟨_, _, lt_dp (hF17.same sAll), lt_dp hMM, tD_shapeL _, tD_shapeL _, _, rfl, ?_⟩
    rw [tD_eqL]
    exact iteF ⟨_, _, _, _, _, _, _, _, rfl, D15.same sAll⟩
end
end My

set_option Elab.async false
set_option linter.all false
set_option maxRecDepth 100000
set_option maxHeartbeats 0
namespace My
open PySem L2 MyR GenZ
set_option pp.maxSteps 300
def intsAre : List Value → List Int → Bool
  | [], [] => true
  | .int x _ :: r, y :: s => x == y && intsAre r s
  | _, _ => false
theorem ints_vals : ∀ {us : List Value} {zs : List Int}, intsAre us zs = true → Vals (zs.map V.int) us
  | [], zs, h => by
    cases zs with
    | nil => exact .nil
    | cons z s => cases h
  | v :: r, zs, h => by
    cases v with
    | int x t =>
      cases zs with
      | nil => cases h
      | cons y s =>
        have h' : (x == y && intsAre r s) = true := h
        rw [Bool.and_eq_true] at h'
        obtain rfl := beq_iff_eq.mp h'.1
        exact .cons ⟨t, rfl⟩ (ints_vals h'.2)
    | _ => cases zs <;> cases h
theorem ble_size {n : Nat} (h : Nat.ble n 1000 = true) : n ≤ sizeLine := Nat.le_of_lt (small1000 (Nat.le_of_ble_eq_true h))
theorem kit_own {K : PySem.W.Frag} {C D : Addr} (h1 : PySem.W.isClsIn K D = true) (h2 : PySem.W.typeIn K (.ref D) = some (.type "type")) (h3 : PySem.W.subIn K (.ref C) (.ref D) = some true) : PySem.W.kitOne K (.ref C) (.ref D) = some true := by
  unfold PySem.W.kitOne
  by_cases e : ((Value.ref C) == (Value.ref D)) = true
  · rw [if_pos e]
  · rw [if_neg e]
    have h1' : (PySem.W.clsIn K D).isSome = true := h1
    show (if ((PySem.W.clsIn K D).isSome && PySem.W.typeIn K (.ref D) == some (.type "type")) = true then PySem.W.subIn K (.ref C) (.ref D) else none) = some true
    rw [h1', h2, if_pos (by rfl)]
    exact h3
theorem all_mk {P : Program} {w : World} {K : PySem.W.Frag} {h : Heap} {mg : Str → Option Value} {fa : Addr} (X : K.In h) (G : h.Ns mainGlobals mg) (hfa : mg "law" = some (.ref fa))
    {f_twos f_vectors f_shares f_count_vectors f_residues f_points f_count_points f_law_deal f_law_draw f_law_twos f_law_vectors f_law_residues f_law_points f_law_first_vectors f_law_first_points f_law_power f_law : Addr}
    {od_twos an_twos : Option Addr} {sl_twos : Array (Option Value)} {oc_twos kV_twos dc_twos pm_twos cd_twos ct_twos : Value}
    {od_vectors an_vectors : Option Addr} {sl_vectors : Array (Option Value)} {oc_vectors kV_vectors dc_vectors pm_vectors cd_vectors ct_vectors : Value}
    {od_shares an_shares : Option Addr} {sl_shares : Array (Option Value)} {oc_shares kV_shares dc_shares pm_shares cd_shares ct_shares : Value}
    {od_count_vectors an_count_vectors : Option Addr} {sl_count_vectors : Array (Option Value)} {oc_count_vectors kV_count_vectors dc_count_vectors pm_count_vectors cd_count_vectors ct_count_vectors : Value}
    {od_residues an_residues : Option Addr} {sl_residues : Array (Option Value)} {oc_residues kV_residues dc_residues pm_residues cd_residues ct_residues : Value}
    {od_points an_points : Option Addr} {sl_points : Array (Option Value)} {oc_points kV_points dc_points pm_points cd_points ct_points : Value}
    {od_count_points an_count_points : Option Addr} {sl_count_points : Array (Option Value)} {oc_count_points kV_count_points dc_count_points pm_count_points cd_count_points ct_count_points : Value}
    {od_law_deal an_law_deal : Option Addr} {sl_law_deal : Array (Option Value)} {oc_law_deal kV_law_deal dc_law_deal pm_law_deal cd_law_deal ct_law_deal : Value}
    {od_law_draw an_law_draw : Option Addr} {sl_law_draw : Array (Option Value)} {oc_law_draw kV_law_draw dc_law_draw pm_law_draw cd_law_draw ct_law_draw : Value}
    {od_law_twos an_law_twos : Option Addr} {sl_law_twos : Array (Option Value)} {oc_law_twos kV_law_twos dc_law_twos pm_law_twos cd_law_twos ct_law_twos : Value}
    {od_law_vectors an_law_vectors : Option Addr} {sl_law_vectors : Array (Option Value)} {oc_law_vectors kV_law_vectors dc_law_vectors pm_law_vectors cd_law_vectors ct_law_vectors : Value}
    {od_law_residues an_law_residues : Option Addr} {sl_law_residues : Array (Option Value)} {oc_law_residues kV_law_residues dc_law_residues pm_law_residues cd_law_residues ct_law_residues : Value}
    {od_law_points an_law_points : Option Addr} {sl_law_points : Array (Option Value)} {oc_law_points kV_law_points dc_law_points pm_law_points cd_law_points ct_law_points : Value}
    {od_law_first_vectors an_law_first_vectors : Option Addr} {sl_law_first_vectors : Array (Option Value)} {oc_law_first_vectors kV_law_first_vectors dc_law_first_vectors pm_law_first_vectors cd_law_first_vectors ct_law_first_vectors : Value}
    {od_law_first_points an_law_first_points : Option Addr} {sl_law_first_points : Array (Option Value)} {oc_law_first_points kV_law_first_points dc_law_first_points pm_law_first_points cd_law_first_points ct_law_first_points : Value}
    {od_law_power an_law_power : Option Addr} {sl_law_power : Array (Option Value)} {oc_law_power kV_law_power dc_law_power pm_law_power cd_law_power ct_law_power : Value}
    {od_law an_law : Option Addr} {sl_law : Array (Option Value)} {oc_law kV_law dc_law pm_law cd_law ct_law : Value}
    (a_twos : PySem.W.nsIn K mainGlobals "twos" = some (some (.ref f_twos)))
    (l_twos : K.lookup f_twos = some ⟨oc_twos, od_twos, .func (PySem.W.fnOf "twos" "twos" (defArgs s_twos) (defBody s_twos) (defScope s_twos) .none kV_twos dc_twos pm_twos an_twos cd_twos ct_twos), sl_twos⟩)
    (c_twos : PySem.W.codeIn K cd_twos "twos" = true)
    (k_twos : PySem.W.keepIn K (.ref f_twos) = true)
    (a_vectors : PySem.W.nsIn K mainGlobals "vectors" = some (some (.ref f_vectors)))
    (l_vectors : K.lookup f_vectors = some ⟨oc_vectors, od_vectors, .func (PySem.W.fnOf "vectors" "vectors" (defArgs s_vectors) (defBody s_vectors) (defScope s_vectors) .none kV_vectors dc_vectors pm_vectors an_vectors cd_vectors ct_vectors), sl_vectors⟩)
    (c_vectors : PySem.W.codeIn K cd_vectors "vectors" = true)
    (k_vectors : PySem.W.keepIn K (.ref f_vectors) = true)
    (a_shares : PySem.W.nsIn K mainGlobals "shares" = some (some (.ref f_shares)))
    (l_shares : K.lookup f_shares = some ⟨oc_shares, od_shares, .func (PySem.W.fnOf "shares" "shares" (defArgs s_shares) (defBody s_shares) (defScope s_shares) .none kV_shares dc_shares pm_shares an_shares cd_shares ct_shares), sl_shares⟩)
    (c_shares : PySem.W.codeIn K cd_shares "shares" = true)
    (k_shares : PySem.W.keepIn K (.ref f_shares) = true)
    (a_count_vectors : PySem.W.nsIn K mainGlobals "count_vectors" = some (some (.ref f_count_vectors)))
    (l_count_vectors : K.lookup f_count_vectors = some ⟨oc_count_vectors, od_count_vectors, .func (PySem.W.fnOf "count_vectors" "count_vectors" (defArgs s_count_vectors) (defBody s_count_vectors) (defScope s_count_vectors) .none kV_count_vectors dc_count_vectors pm_count_vectors an_count_vectors cd_count_vectors ct_count_vectors), sl_count_vectors⟩)
    (c_count_vectors : PySem.W.codeIn K cd_count_vectors "count_vectors" = true)
    (k_count_vectors : PySem.W.keepIn K (.ref f_count_vectors) = true)
    (a_residues : PySem.W.nsIn K mainGlobals "residues" = some (some (.ref f_residues)))
    (l_residues : K.lookup f_residues = some ⟨oc_residues, od_residues, .func (PySem.W.fnOf "residues" "residues" (defArgs s_residues) (defBody s_residues) (defScope s_residues) .none kV_residues dc_residues pm_residues an_residues cd_residues ct_residues), sl_residues⟩)
    (c_residues : PySem.W.codeIn K cd_residues "residues" = true)
    (k_residues : PySem.W.keepIn K (.ref f_residues) = true)
    (a_points : PySem.W.nsIn K mainGlobals "points" = some (some (.ref f_points)))
    (l_points : K.lookup f_points = some ⟨oc_points, od_points, .func (PySem.W.fnOf "points" "points" (defArgs s_points) (defBody s_points) (defScope s_points) .none kV_points dc_points pm_points an_points cd_points ct_points), sl_points⟩)
    (c_points : PySem.W.codeIn K cd_points "points" = true)
    (k_points : PySem.W.keepIn K (.ref f_points) = true)
    (a_count_points : PySem.W.nsIn K mainGlobals "count_points" = some (some (.ref f_count_points)))
    (l_count_points : K.lookup f_count_points = some ⟨oc_count_points, od_count_points, .func (PySem.W.fnOf "count_points" "count_points" (defArgs s_count_points) (defBody s_count_points) (defScope s_count_points) .none kV_count_points dc_count_points pm_count_points an_count_points cd_count_points ct_count_points), sl_count_points⟩)
    (c_count_points : PySem.W.codeIn K cd_count_points "count_points" = true)
    (k_count_points : PySem.W.keepIn K (.ref f_count_points) = true)
    (a_law_deal : PySem.W.nsIn K mainGlobals "_law_deal" = some (some (.ref f_law_deal)))
    (l_law_deal : K.lookup f_law_deal = some ⟨oc_law_deal, od_law_deal, .func (PySem.W.fnOf "_law_deal" "_law_deal" (defArgs s_law_deal) (defBody s_law_deal) (defScope s_law_deal) .none kV_law_deal dc_law_deal pm_law_deal an_law_deal cd_law_deal ct_law_deal), sl_law_deal⟩)
    (c_law_deal : PySem.W.codeIn K cd_law_deal "_law_deal" = true)
    (k_law_deal : PySem.W.keepIn K (.ref f_law_deal) = true)
    (a_law_draw : PySem.W.nsIn K mainGlobals "_law_draw" = some (some (.ref f_law_draw)))
    (l_law_draw : K.lookup f_law_draw = some ⟨oc_law_draw, od_law_draw, .func (PySem.W.fnOf "_law_draw" "_law_draw" (defArgs s_law_draw) (defBody s_law_draw) (defScope s_law_draw) .none kV_law_draw dc_law_draw pm_law_draw an_law_draw cd_law_draw ct_law_draw), sl_law_draw⟩)
    (c_law_draw : PySem.W.codeIn K cd_law_draw "_law_draw" = true)
    (k_law_draw : PySem.W.keepIn K (.ref f_law_draw) = true)
    (a_law_twos : PySem.W.nsIn K mainGlobals "_law_twos" = some (some (.ref f_law_twos)))
    (l_law_twos : K.lookup f_law_twos = some ⟨oc_law_twos, od_law_twos, .func (PySem.W.fnOf "_law_twos" "_law_twos" (defArgs s_law_twos) (defBody s_law_twos) (defScope s_law_twos) .none kV_law_twos dc_law_twos pm_law_twos an_law_twos cd_law_twos ct_law_twos), sl_law_twos⟩)
    (c_law_twos : PySem.W.codeIn K cd_law_twos "_law_twos" = true)
    (k_law_twos : PySem.W.keepIn K (.ref f_law_twos) = true)
    (a_law_vectors : PySem.W.nsIn K mainGlobals "_law_vectors" = some (some (.ref f_law_vectors)))
    (l_law_vectors : K.lookup f_law_vectors = some ⟨oc_law_vectors, od_law_vectors, .func (PySem.W.fnOf "_law_vectors" "_law_vectors" (defArgs s_law_vectors) (defBody s_law_vectors) (defScope s_law_vectors) .none kV_law_vectors dc_law_vectors pm_law_vectors an_law_vectors cd_law_vectors ct_law_vectors), sl_law_vectors⟩)
    (c_law_vectors : PySem.W.codeIn K cd_law_vectors "_law_vectors" = true)
    (k_law_vectors : PySem.W.keepIn K (.ref f_law_vectors) = true)
    (a_law_residues : PySem.W.nsIn K mainGlobals "_law_residues" = some (some (.ref f_law_residues)))
    (l_law_residues : K.lookup f_law_residues = some ⟨oc_law_residues, od_law_residues, .func (PySem.W.fnOf "_law_residues" "_law_residues" (defArgs s_law_residues) (defBody s_law_residues) (defScope s_law_residues) .none kV_law_residues dc_law_residues pm_law_residues an_law_residues cd_law_residues ct_law_residues), sl_law_residues⟩)
    (c_law_residues : PySem.W.codeIn K cd_law_residues "_law_residues" = true)
    (k_law_residues : PySem.W.keepIn K (.ref f_law_residues) = true)
    (a_law_points : PySem.W.nsIn K mainGlobals "_law_points" = some (some (.ref f_law_points)))
    (l_law_points : K.lookup f_law_points = some ⟨oc_law_points, od_law_points, .func (PySem.W.fnOf "_law_points" "_law_points" (defArgs s_law_points) (defBody s_law_points) (defScope s_law_points) .none kV_law_points dc_law_points pm_law_points an_law_points cd_law_points ct_law_points), sl_law_points⟩)
    (c_law_points : PySem.W.codeIn K cd_law_points "_law_points" = true)
    (k_law_points : PySem.W.keepIn K (.ref f_law_points) = true)
    (a_law_first_vectors : PySem.W.nsIn K mainGlobals "_law_first_vectors" = some (some (.ref f_law_first_vectors)))
    (l_law_first_vectors : K.lookup f_law_first_vectors = some ⟨oc_law_first_vectors, od_law_first_vectors, .func (PySem.W.fnOf "_law_first_vectors" "_law_first_vectors" (defArgs s_law_first_vectors) (defBody s_law_first_vectors) (defScope s_law_first_vectors) .none kV_law_first_vectors dc_law_first_vectors pm_law_first_vectors an_law_first_vectors cd_law_first_vectors ct_law_first_vectors), sl_law_first_vectors⟩)
    (c_law_first_vectors : PySem.W.codeIn K cd_law_first_vectors "_law_first_vectors" = true)
    (k_law_first_vectors : PySem.W.keepIn K (.ref f_law_first_vectors) = true)
    (a_law_first_points : PySem.W.nsIn K mainGlobals "_law_first_points" = some (some (.ref f_law_first_points)))
    (l_law_first_points : K.lookup f_law_first_points = some ⟨oc_law_first_points, od_law_first_points, .func (PySem.W.fnOf "_law_first_points" "_law_first_points" (defArgs s_law_first_points) (defBody s_law_first_points) (defScope s_law_first_points) .none kV_law_first_points dc_law_first_points pm_law_first_points an_law_first_points cd_law_first_points ct_law_first_points), sl_law_first_points⟩)
    (c_law_first_points : PySem.W.codeIn K cd_law_first_points "_law_first_points" = true)
    (k_law_first_points : PySem.W.keepIn K (.ref f_law_first_points) = true)
    (a_law_power : PySem.W.nsIn K mainGlobals "_law_power" = some (some (.ref f_law_power)))
    (l_law_power : K.lookup f_law_power = some ⟨oc_law_power, od_law_power, .func (PySem.W.fnOf "_law_power" "_law_power" (defArgs s_law_power) (defBody s_law_power) (defScope s_law_power) .none kV_law_power dc_law_power pm_law_power an_law_power cd_law_power ct_law_power), sl_law_power⟩)
    (c_law_power : PySem.W.codeIn K cd_law_power "_law_power" = true)
    (k_law_power : PySem.W.keepIn K (.ref f_law_power) = true)
    (a_law : PySem.W.nsIn K mainGlobals "law" = some (some (.ref f_law)))
    (l_law : K.lookup f_law = some ⟨oc_law, od_law, .func (PySem.W.fnOf "law" "law" (defArgs s_law) (defBody s_law) (defScope s_law) .none kV_law dc_law pm_law an_law cd_law ct_law), sl_law⟩)
    (c_law : PySem.W.codeIn K cd_law "law" = true)
    (k_law : PySem.W.keepIn K (.ref f_law) = true)
    (z_len : PySem.W.nsIn K mainGlobals "len" = some none)
    (z_max : PySem.W.nsIn K mainGlobals "max" = some none)
    (z_list : PySem.W.nsIn K mainGlobals "list" = some none)
    (z_tuple : PySem.W.nsIn K mainGlobals "tuple" = some none)
    (z_reversed : PySem.W.nsIn K mainGlobals "reversed" = some none)
    (z_range : PySem.W.nsIn K mainGlobals "range" = some none)
    (z_int : PySem.W.nsIn K mainGlobals "int" = some none)
    (z_str : PySem.W.nsIn K mainGlobals "str" = some none)
    (z_bool : PySem.W.nsIn K mainGlobals "bool" = some none)
    (z_isinstance : PySem.W.nsIn K mainGlobals "isinstance" = some none)
    (z_all : PySem.W.nsIn K mainGlobals "all" = some none)
    (z_enumerate : PySem.W.nsIn K mainGlobals "enumerate" = some none)
    (z_zip : PySem.W.nsIn K mainGlobals "zip" = some none)
    (z_sum : PySem.W.nsIn K mainGlobals "sum" = some none)
    (z_repr : PySem.W.nsIn K mainGlobals "repr" = some none) :
    ∃ fd : FuncData, (∀ (s : Shared) (v : Value), BindsTo s fd ⟨[v], []⟩ [("_law_script", v)]) ∧ ∀ base : Heap, K.In base → base.Ns mainGlobals mg → FnOkG P w K mg base CX0 17 fa fd ["_law_script"] (spLaw K) := by
  have e := hfa.symm.trans (PySem.W.mg_of X G a_law)
  cases e
  refine ⟨PySem.W.fnOf "law" "law" (defArgs s_law) (defBody s_law) (defScope s_law) .none kV_law dc_law pm_law an_law cd_law ct_law, fun s v => .of_eq rfl, fun base _ _ => ?_⟩
  have F_twos := fun_mk (st := s_twos) l_twos c_twos k_twos
  have F_vectors := fun_mk (st := s_vectors) l_vectors c_vectors k_vectors
  have F_shares := fun_mk (st := s_shares) l_shares c_shares k_shares
  have F_count_vectors := fun_mk (st := s_count_vectors) l_count_vectors c_count_vectors k_count_vectors
  have F_residues := fun_mk (st := s_residues) l_residues c_residues k_residues
  have F_points := fun_mk (st := s_points) l_points c_points k_points
  have F_count_points := fun_mk (st := s_count_points) l_count_points c_count_points k_count_points
  have F_law_deal := fun_mk (st := s_law_deal) l_law_deal c_law_deal k_law_deal
  have F_law_draw := fun_mk (st := s_law_draw) l_law_draw c_law_draw k_law_draw
  have F_law_twos := fun_mk (st := s_law_twos) l_law_twos c_law_twos k_law_twos
  have F_law_vectors := fun_mk (st := s_law_vectors) l_law_vectors c_law_vectors k_law_vectors
  have F_law_residues := fun_mk (st := s_law_residues) l_law_residues c_law_residues k_law_residues
  have F_law_points := fun_mk (st := s_law_points) l_law_points c_law_points k_law_points
  have F_law_first_vectors := fun_mk (st := s_law_first_vectors) l_law_first_vectors c_law_first_vectors k_law_first_vectors
  have F_law_first_points := fun_mk (st := s_law_first_points) l_law_first_points c_law_first_points k_law_first_points
  have F_law_power := fun_mk (st := s_law_power) l_law_power c_law_power k_law_power
  have F_law := fun_mk (st := s_law) l_law c_law k_law
  have b_twos := F_twos.binds (ps := ["n"]) fun _ _ _ _ _ _ us hl => match us, hl with | [_], _ => rfl
  have b_vectors := F_vectors.binds (ps := ["count", "bits"]) fun _ _ _ _ _ _ us hl => match us, hl with | [_, _], _ => rfl
  have b_shares := F_shares.binds (ps := ["bits"]) fun _ _ _ _ _ _ us hl => match us, hl with | [_], _ => rfl
  have b_count_vectors := F_count_vectors.binds (ps := ["count", "bits"]) fun _ _ _ _ _ _ us hl => match us, hl with | [_, _], _ => rfl
  have b_residues := F_residues.binds (ps := ["loss", "number"]) fun _ _ _ _ _ _ us hl => match us, hl with | [_, _], _ => rfl
  have b_points := F_points.binds (ps := ["loss", "bits"]) fun _ _ _ _ _ _ us hl => match us, hl with | [_, _], _ => rfl
  have b_count_points := F_count_points.binds (ps := ["loss", "bits"]) fun _ _ _ _ _ _ us hl => match us, hl with | [_, _], _ => rfl
  have b_law_deal := F_law_deal.binds (ps := ["_law_script", "_law_base"]) fun _ _ _ _ _ _ us hl => match us, hl with | [_, _], _ => rfl
  have b_law_draw := F_law_draw.binds (ps := ["_law_deal_here", "_law_many"]) fun _ _ _ _ _ _ us hl => match us, hl with | [_, _], _ => rfl
  have b_law_twos := F_law_twos.binds (ps := ["_law_number"]) fun _ _ _ _ _ _ us hl => match us, hl with | [_], _ => rfl
  have b_law_vectors := F_law_vectors.binds (ps := ["_law_many", "_law_bits"]) fun _ _ _ _ _ _ us hl => match us, hl with | [_, _], _ => rfl
  have b_law_residues := F_law_residues.binds (ps := ["_law_loss"]) fun _ _ _ _ _ _ us hl => match us, hl with | [_], _ => rfl
  have b_law_points := F_law_points.binds (ps := ["_law_loss", "_law_bits"]) fun _ _ _ _ _ _ us hl => match us, hl with | [_, _], _ => rfl
  have b_law_first_vectors := F_law_first_vectors.binds (ps := ["_law_many", "_law_bits", "_law_most"]) fun _ _ _ _ _ _ us hl => match us, hl with | [_, _, _], _ => rfl
  have b_law_first_points := F_law_first_points.binds (ps := ["_law_loss", "_law_bits", "_law_most"]) fun _ _ _ _ _ _ us hl => match us, hl with | [_, _, _], _ => rfl
  have b_law_power := F_law_power.binds (ps := ["_law_number"]) fun _ _ _ _ _ _ us hl => match us, hl with | [_], _ => rfl
  have b_law := F_law.binds (ps := ["_law_script"]) fun _ _ _ _ _ _ us hl => match us, hl with | [_], _ => rfl
  have T : Glob mg := ⟨PySem.W.mg_none_of X G z_len, PySem.W.mg_none_of X G z_max, PySem.W.mg_none_of X G z_list, PySem.W.mg_none_of X G z_tuple, PySem.W.mg_none_of X G z_reversed, PySem.W.mg_none_of X G z_range, PySem.W.mg_none_of X G z_int, PySem.W.mg_none_of X G z_str, PySem.W.mg_none_of X G z_bool, PySem.W.mg_none_of X G z_isinstance, PySem.W.mg_none_of X G z_all, PySem.W.mg_none_of X G z_enumerate, PySem.W.mg_none_of X G z_zip⟩
  have gs : mg "sum" = none := PySem.W.mg_none_of X G z_sum
  have D_twos : Df P w K mg base 1 "twos" ["n"] spTwos := ⟨f_twos, _, ok_twos F_twos, PySem.W.mg_of X G a_twos, k_twos, b_twos⟩
  have D_shares : Df P w K mg base 2 "shares" ["bits"] spShares := ⟨f_shares, _, ok_shares F_shares T D_twos, PySem.W.mg_of X G a_shares, k_shares, b_shares⟩
  have D_count_vectors : Df P w K mg base 3 "count_vectors" ["count", "bits"] spCountV := ⟨f_count_vectors, _, ok_count_vectors F_count_vectors T gs D_shares, PySem.W.mg_of X G a_count_vectors, k_count_vectors, b_count_vectors⟩
  have D_residues : Df P w K mg base 1 "residues" ["loss", "number"] spRes := ⟨f_residues, _, ok_residues F_residues T, PySem.W.mg_of X G a_residues, k_residues, b_residues⟩
  have D_count_points : Df P w K mg base 4 "count_points" ["loss", "bits"] spCountQ := ⟨f_count_points, _, ok_count_points F_count_points T gs D_count_vectors, PySem.W.mg_of X G a_count_points, k_count_points, b_count_points⟩
  have gv := ok_vectors F_vectors T D_twos (PySem.W.mg_of X G a_vectors) k_vectors b_vectors
  have D_vm : ∀ m, DfG P w K mg base (2 * m + 5) true "vectors" ["count", "bits"] (spVectors (m + 1)) := fun m => ⟨f_vectors, _, gv m, PySem.W.mg_of X G a_vectors, k_vectors, b_vectors⟩
  have D_vectors : DfG P w K mg base 9 true "vectors" ["count", "bits"] spVany := ⟨f_vectors, _, GFn2.any gv (fun m hm => by omega), PySem.W.mg_of X G a_vectors, k_vectors, b_vectors⟩
  have D_points : DfG P w K mg base 11 false "points" ["loss", "bits"] spPoints := ⟨f_points, _, ok_points F_points T gs D_residues D_vm, PySem.W.mg_of X G a_points, k_points, b_points⟩
  have D_law_deal : Df P w K mg base 1 "_law_deal" ["_law_script", "_law_base"] (spDeal K) := ⟨f_law_deal, _, ok_law_deal F_law_deal T, PySem.W.mg_of X G a_law_deal, k_law_deal, b_law_deal⟩
  have D_law_draw : Df P w K mg base 1 "_law_draw" ["_law_deal_here", "_law_many"] spDraw := ⟨f_law_draw, _, ok_law_draw F_law_draw T, PySem.W.mg_of X G a_law_draw, k_law_draw, b_law_draw⟩
  have D_law_power : Df P w K mg base 1 "_law_power" ["_law_number"] spPow := ⟨f_law_power, _, ok_law_power F_law_power, PySem.W.mg_of X G a_law_power, k_law_power, b_law_power⟩
  have D_law_twos : Df P w K mg base 8 "_law_twos" ["_law_number"] (spTwB 7) := ⟨f_law_twos, _, ok_law_twos F_law_twos T (PySem.W.mg_of X G a_law_twos) k_law_twos b_law_twos 7, PySem.W.mg_of X G a_law_twos, k_law_twos, b_law_twos⟩
  have D_law_vectors : Df P w K mg base 12 "_law_vectors" ["_law_many", "_law_bits"] spVecsA := ⟨f_law_vectors, _, ok_vecsA (ok_law_vectors F_law_vectors T D_law_twos (PySem.W.mg_of X G a_law_vectors) k_law_vectors b_law_vectors), PySem.W.mg_of X G a_law_vectors, k_law_vectors, b_law_vectors⟩
  have D_law_residues : Df P w K mg base 4 "_law_residues" ["_law_loss"] spLresA := ⟨f_law_residues, _, ok_lresA (ok_law_residues F_law_residues T (PySem.W.mg_of X G a_law_residues) k_law_residues b_law_residues), PySem.W.mg_of X G a_law_residues, k_law_residues, b_law_residues⟩
  have D_law_points : Df P w K mg base 13 "_law_points" ["_law_loss", "_law_bits"] spLpts := ⟨f_law_points, _, ok_law_points F_law_points T D_law_vectors D_law_residues, PySem.W.mg_of X G a_law_points, k_law_points, b_law_points⟩
  have D_law_first_vectors : Df P w K mg base 12 "_law_first_vectors" ["_law_many", "_law_bits", "_law_most"] spFv := ⟨f_law_first_vectors, _, ok_law_first_vectors F_law_first_vectors T D_vm, PySem.W.mg_of X G a_law_first_vectors, k_law_first_vectors, b_law_first_vectors⟩
  have D_law_first_points : Df P w K mg base 14 "_law_first_points" ["_law_loss", "_law_bits", "_law_most"] spFp := ⟨f_law_first_points, _, ok_law_first_points F_law_first_points T D_points, PySem.W.mg_of X G a_law_first_points, k_law_first_points, b_law_first_points⟩
  exact ok_law F_law T (PySem.W.mg_none_of X G z_repr) gs D_law_deal D_law_draw D_law_power D_twos D_count_vectors D_count_points D_vectors D_points D_law_vectors D_law_points D_law_first_vectors D_law_first_points
end My

set_option Elab.async false
set_option linter.all false
set_option maxRecDepth 100000
set_option maxHeartbeats 1000000
namespace My
open PySem L2 MyR GenZ
theorem walk {l : PySem.W.OpenLaw} {q : Program} {loose : List Str} {XP : (Str → Option Value) → Heap → Prop} {YP : World → Heap → Prop} {d : DefRec} {K : Params → PySem.W.Frag} (hn : l.most = some 63) (hdf : d.params.defaults = [])
    (hY : ∀ (w : World) (h : Heap), YP w h → (K w.params).In h)
    (F : ∀ (w : World) (mg : Str → Option Value) (fa : Addr) (h : Heap), (K w.params).In h → h.Ns mainGlobals mg → mg d.name = some (.ref fa) →
      ∃ fd : FuncData, (∀ (s : Shared) (u : Value), BindsTo s fd ⟨[u], []⟩ [("_law_script", u)]) ∧ ∀ base : Heap, (K w.params).In base → base.Ns mainGlobals mg → FnOkG l.prog w (K w.params) mg base CX0 17 fa fd ["_law_script"] (spLaw (K w.params))) :
    PySem.W.WalkO q loose XP YP l.row.toRowW d [] (fun f vs => PySem.call f vs) :=
  walk_ofG (n := 63) (k := 17) (x := "_law_script") (CX := fun _ => CX0) (sp := fun w => spLaw (K w.params)) hn (by decide) hdf ⟨rfl, by decide, by decide⟩ hY F (fun _ _ a ns hl _ hS => ⟨a, ns, rfl, hS, hl, fun _ => rfl⟩) fun _ _ _ _ _ z => z
end My
open PySem PySem.W PyProof.Rows
set_option pp.maxSteps 300 in
set_option maxRecDepth 100000 in
set_option maxHeartbeats 0 in
theorem PySem.Challenge.cw_lowsure_k17_vectors_and_points_holds : PySem.Challenge.rw_lowsure_k17_vectors_and_points.Holds := by
  w_on; o_law; k_head; (case hw => w_witness2)
  k_fill
  refine My.walk (l := PySem.Challenge.rw_lowsure_k17_vectors_and_points) rfl rfl (fun w h Y => PySem.W.kIn_of Y) ?F
  case F =>
    intro w mg fa h KX G hmg
    refine' My.all_mk KX G hmg ?a_twos ?l_twos ?c_twos ?k_twos ?a_vectors ?l_vectors ?c_vectors ?k_vectors ?a_shares ?l_shares ?c_shares ?k_shares ?a_count_vectors ?l_count_vectors ?c_count_vectors ?k_count_vectors ?a_residues ?l_residues ?c_residues ?k_residues ?a_points ?l_points ?c_points ?k_points ?a_count_points ?l_count_points ?c_count_points ?k_count_points ?a_law_deal ?l_law_deal ?c_law_deal ?k_law_deal ?a_law_draw ?l_law_draw ?c_law_draw ?k_law_draw ?a_law_twos ?l_law_twos ?c_law_twos ?k_law_twos ?a_law_vectors ?l_law_vectors ?c_law_vectors ?k_law_vectors ?a_law_residues ?l_law_residues ?c_law_residues ?k_law_residues ?a_law_points ?l_law_points ?c_law_points ?k_law_points ?a_law_first_vectors ?l_law_first_vectors ?c_law_first_vectors ?k_law_first_vectors ?a_law_first_points ?l_law_first_points ?c_law_first_points ?k_law_first_points ?a_law_power ?l_law_power ?c_law_power ?k_law_power ?a_law ?l_law ?c_law ?k_law ?z_len ?z_max ?z_list ?z_tuple ?z_reversed ?z_range ?z_int ?z_str ?z_bool ?z_isinstance ?z_all ?z_enumerate ?z_zip ?z_sum ?z_repr
    (case a_twos => k_is)
    (case l_twos => k_is)
    (case c_twos => k_is)
    (case k_twos => k_is)
    (case a_vectors => k_is)
    (case l_vectors => k_is)
    (case c_vectors => k_is)
    (case k_vectors => k_is)
    (case a_shares => k_is)
    (case l_shares => k_is)
    (case c_shares => k_is)
    (case k_shares => k_is)
    (case a_count_vectors => k_is)
    (case l_count_vectors => k_is)
    (case c_count_vectors => k_is)
    (case k_count_vectors => k_is)
    (case a_residues => k_is)
    (case l_residues => k_is)
    (case c_residues => k_is)
    (case k_residues => k_is)
    (case a_points => k_is)
    (case l_points => k_is)
    (case c_points => k_is)
    (case k_points => k_is)
    (case a_count_points => k_is)
    (case l_count_points => k_is)
    (case c_count_points => k_is)
    (case k_count_points => k_is)
    (case a_law_deal => k_is)
    (case l_law_deal => k_is)
    (case c_law_deal => k_is)
    (case k_law_deal => k_is)
    (case a_law_draw => k_is)
    (case l_law_draw => k_is)
    (case c_law_draw => k_is)
    (case k_law_draw => k_is)
    (case a_law_twos => k_is)
    (case l_law_twos => k_is)
    (case c_law_twos => k_is)
    (case k_law_twos => k_is)
    (case a_law_vectors => k_is)
    (case l_law_vectors => k_is)
    (case c_law_vectors => k_is)
    (case k_law_vectors => k_is)
    (case a_law_residues => k_is)
    (case l_law_residues => k_is)
    (case c_law_residues => k_is)
    (case k_law_residues => k_is)
    (case a_law_points => k_is)
    (case l_law_points => k_is)
    (case c_law_points => k_is)
    (case k_law_points => k_is)
    (case a_law_first_vectors => k_is)
    (case l_law_first_vectors => k_is)
    (case c_law_first_vectors => k_is)
    (case k_law_first_vectors => k_is)
    (case a_law_first_points => k_is)
    (case l_law_first_points => k_is)
    (case c_law_first_points => k_is)
    (case k_law_first_points => k_is)
    (case a_law_power => k_is)
    (case l_law_power => k_is)
    (case c_law_power => k_is)
    (case k_law_power => k_is)
    (case a_law => k_is)
    (case l_law => k_is)
    (case c_law => k_is)
    (case k_law => k_is)
    (case z_len => k_is)
    (case z_max => k_is)
    (case z_list => k_is)
    (case z_tuple => k_is)
    (case z_reversed => k_is)
    (case z_range => k_is)
    (case z_int => k_is)
    (case z_str => k_is)
    (case z_bool => k_is)
    (case z_isinstance => k_is)
    (case z_all => k_is)
    (case z_enumerate => k_is)
    (case z_zip => k_is)
    (case z_sum => k_is)
    (case z_repr => k_is)
