import PyProof.Rows.All
import Wide.All
import OpenK.AllK
import Wide.FinOn
import HandS.ForMost
import HandS.ForExc
import HandS.ExcInit
import HandS.ExcValue
import HandS.ExcIs
import HandS.IsInst
import HandS.Defaults
import HandS.Conv
import HandS.Wide
import HandS.HeadHook4
import HandS.HeadWalk
import HandS.Head2
import HandS.ExcField
import HandS.Codes
import HandS.Lambda
import HandS.EndTab
import HandS.TupMul
import HandS.TupAny
import HandS.OwnEq
import HandS.FStr
import HandS.StrMore
import HandS.Style
import HandS.Flow
import KE.KOpsOwn
import HandS.ReplaceList
import PyProof.Rows.StrPadWhole
import HandS.ReplaceLit
import HandS.ReplaceDef
import HandS.Gcd
import HandS.WideBits
import HandS.Head3
import HandS.Iter
import HandS.DictComp
import HandS.DictTup
import HandS.TupLen
import KE.KDictKeyed
import KE.KDictWalk
import PyProof.DictTruth
import KE.KDictDisplayH
import PyProof.DictTable
import HandS.Walk
import HandS.Zip
import HandS.Strs
import HandS.WordsDict
import PyProof.EqKinds
import PyProof.FactsAll.dict_1
import PyProof.FactsAll.dict_3
import PyProof.FactsAll.subtypes_3
import PyProof.FactsAll.subtypes_4
import HandS.CallRecv
import HandS.Rev
import HandS.Star
import HandS.Text
import PyProof.ByEval2
import PySem.Challenge.RW_loosemirrors_k12_lines_left_out
set_option Elab.async false
set_option linter.all false
set_option maxRecDepth 100000
set_option maxHeartbeats 2000000
namespace Lm
open PySem PySem.Spec PyProof.Rows L2

/-! ## Defs that are entered where no repr of a container is under way -/
section
variable {P : Program} {w : World} {K : PySem.W.Frag} {mg : Str → Option Value} {base : Heap} {CX : CXT} {k : Nat} {f : Addr} {fd : FuncData} {ps : List Str} {sp : Sp}

/-- as the layer's promise of a def, but of entries where nothing guards against going round -/
structure FnG (P : Program) (w : World) (K : PySem.W.Frag) (mg : Str → Option Value) (base : Heap) (CX : CXT) (k : Nat) (f : Addr) (fd : FuncData) (ps : List Str) (sp : Sp) : Prop where
  many : ∀ vs H Q E, sp vs H Q E → vs.length = ps.length
  goes : ∀ (A : Around) (outer : List Env) (s : Shared) (H : Hp) (args : Args) (us : List Value) (vs : List V) (Q : VK) (E : XK), A.guards = some [] → Room k A →
    Env0 P w K mg base A outer s H → BindsTo s fd args (ps.zip us) → Vals vs us → sp vs H Q E → codeAny (model P w) A (.call (.ref f) args) (CR CX outer P w H s Q E) s

theorem FnG.of (F : FnOk P w K mg base CX k f fd ps sp) : FnG P w K mg base CX k f fd ps sp :=
  ⟨F.len, fun A outer s H args us vs Q E _ hr => F.run A outer s H args us vs Q E hr⟩

/-- such a def by its body -/
theorem FnG.made {x qual : Str} {params : Arguments} {body : List Stmt} {scope : Scope} {dvs : List V} {kws : List (Str × V)} {N : List Str}
    (F : FunD K x qual params body scope dvs kws f fd) (S : FnScope N ps scope) (many : ∀ vs H Q E, sp vs H Q E → vs.length = ps.length)
    (walk : ∀ (cdv : Value) (A : Around) (outer : List Env) (s : Shared) (H : Hp) (vs : List V) (Q : VK) (E : XK), A.guards = some [] → Room k (A.deeper (envOfC qual scope s.heap.objs.size f cdv)) → sp vs H Q E →
      ∃ t, PSs (cxOf CX P w K mg base N qual scope f cdv A outer s H E) body t ∧ t { nx := fun _ H' => Q .non H', rt := Q } (start N vs) H) :
    FnG P w K mg base CX (k + 1) f fd ps sp := by
  obtain ⟨oc, od, dV, kV, doc, pm, an, cdv, ct, osl, rfl, look, code, _, _⟩ := F.ex
  refine ⟨many, fun A outer s H args us vs Q E hgd hr e0 hb r hsp => ?_⟩
  have old : ∀ b o, base.get? b = some o → s.heap.get? b = some o := fun b o e => (e0.bs b o e).1
  have KX : K.In s.heap := e0.mod.kin.keeps old
  have kinds : ∀ y ∈ ps.zip us, scope.names.lookup y.1 = some .local ∨ (scope.names.lookup y.1 = some .cell ∧ ((cellsFrom (s.heap.objs.size + 1) scope.names []).lookup y.1).isSome = true) := by
    rintro ⟨n, v⟩ hy
    rcases S.par n (List.of_mem_zip hy).1 with q | q
    · exact Or.inl q
    · exact Or.inr ⟨q, PySem.W.cellsFrom_some _ _ _ (Or.inl q)⟩
  refine codeAny_call_function hr.depth (KX _ _ look) rfl S.co S.gen rfl (PySem.W.codeRec_of KX code) (hb _ _ _ _ ?_)
  refine wpAny_newFunctionEnv_cells S.kind kinds fun env he s1 x => ?_
  subst he
  refine ⟨(e0.mod.nolimit.keeps old).keeps x.toInCall.keep, codeAny_func ?_⟩
  obtain ⟨t, ht, hq⟩ := walk cdv A outer s H vs Q E hgd (hr.deeper _) hsp
  have I : Inv (cxOf CX P w K mg base N qual scope f cdv A outer s H E) [] (start N vs) H s1 := inv_start S hr.hd e0 (many _ _ _ _ hsp) r x
  refine wpAny_mono (ht.run [] s1 (start N vs) H _ I hq) (fun fl s' hs => ?_) fun e s' hs => hs
  match fl, hs with
  | .ret u, ⟨v, σ', H', J, rv, q⟩ => exact ⟨v, H', J.os, J.bare, J.base, J.hok, rv, q⟩
  | .next, ⟨σ', H', J, q⟩ => exact ⟨V.non, H', J.os, J.bare, J.base, J.hok, rfl, q⟩
  | .brk, ⟨_, _, _, q⟩ => exact q.elim
  | .cont, ⟨_, _, _, q⟩ => exact q.elim
end

section
variable {X : Cx} {CX : CXT} {k : Nat} {f : Addr} {fd : FuncData} {ps : List Str} {sp : Sp} {dvs : List V} {ds : List Value} {E : XK}
theorem FnG.call {pins : List (Addr × Obj)} {σ : L2.St} {H : Hp} {s : Shared} {Q : VK} {us : List Value} {vs : List V} (F : FnG X.prog X.w X.K X.mg X.base CX k f fd ps sp) (gd : X.A.guards = some []) (hr : Room k X.A) (hb : Binds X.K fd ps ds) (hd : Vals dvs ds)
    (hx : Passes CX X E) (I : Inv X pins σ H s) (r : Vals vs us) (h : sp (vs ++ dvs) H Q E) : wpAny (model X.prog X.w) X.A (PySem.call (.ref f) us) (EP X pins σ Q) X.xe s := by
  have all : Vals (vs ++ dvs) (us ++ ds) := r.append hd
  have n : (us ++ ds).length = ps.length := all.length.symm.trans (F.many _ _ _ _ h)
  refine wpAny_call (codeAny_mono (F.goes X.A X.stack s H ⟨us, []⟩ (us ++ ds) (vs ++ dvs) Q E gd hr I.env0 (hb s us I.kIn n) all h) fun r s' hq => ?_)
  match r, hq with
  | .error e, hq => exact hx pins σ H s e s' I hq
  | .ok (.ret u), hq => exact I.after hq
  | .ok .next, hq => exact False.elim hq
  | .ok .brk, hq => exact False.elim hq
  | .ok .cont, hq => exact False.elim hq
/-- f(e, ..), f such a def -/
theorem pe_callG {x : Str} {p pos : Pos} {e : Expr} {es : List Expr} {t : TA} (F : FnG X.prog X.w X.K X.mg X.base CX k f fd ps sp) (gd : X.A.guards = some []) (hr : Room k X.A) (hg : Gl X x) (hm : X.mg x = some (.ref f))
    (hk : PySem.W.keepIn X.K (.ref f) = true) (hb : Binds X.K fd ps ds) (hd : Vals dvs ds) (hx : Passes CX X E) (ha : PA X (e :: es) t) (hdb : (x == ("__debug__" : Str)) = false := by decide)
    (he : starEach (e :: es) X.env = (false, eval e X.env) :: starEach es X.env := by rfl) (hpl : (backTo pos (starEach es X.env)).any (·.1) = false := by rfl) :
    PE X (.Call (.Name x p) (e :: es) [] pos) (tCall sp dvs E t) :=
  ⟨fun pins s σ H Q I h => wpAny_Call_Name_kw (ld_glob I hg hm (PySem.W.callWith_K (h₀ := X.base) I.ok.mod.kin hk
    (thn (ha.run pos pins s σ H _ I h) fun us s1 ⟨vs, H1, I1, r, q⟩ => ⟨I1.kIn, F.call gd hr hb hd hx I1 r q⟩) he hpl) hdb)⟩
end

/-! ## The end of a law: it is called where nothing runs -/
section
variable {P : Program} {w : World} {K : PySem.W.Frag} {mg mb : Str → Option Value} {CX : CXT} {k : Nat} {fa a : Addr} {fd : FuncData} {x : Str} {sp : Sp} {s₁ : Shared} {vs : List Value} {ns : List Int}
abbrev LawEnd (s₁ : Shared) (r : Result) (s' : Shared) : Prop := r = .ok (.ret (.bool true)) ∧ OldK s₁.heap s'.heap ∧ s'.os = s₁.os ∧ AllBare s'.gens
/-- what is fixed of the heap that a law starts at -/
structure LawHeap (K : PySem.W.Frag) (mg : Str → Option Value) (base : Heap) : Prop where
  kin : K.In base
  glob : base.Ns mainGlobals mg
  mods : ∃ mm, base.Ns sysModules mm
  digits : ∃ mc, base.Ns cStatics mc ∧ mc "sys.int_max_str_digits" = none
/-- from the heap that tracks the script alone (or nothing) -/
theorem lawG_core (H : Hp) (KX : K.In s₁.heap) (hns : s₁.heap.Ns mainGlobals mg) (hb : s₁.heap.Ns builtinsNs mb) (hbb : ∀ x : Str, x ≠ "__name__" → mb x = bootBuiltins x) (hlim : s₁.heap.NoLimit) (hmo : ∃ mm, s₁.heap.Ns sysModules mm) (hdg : ∃ mc, s₁.heap.Ns cStatics mc ∧ mc "sys.int_max_str_digits" = none) (hg : s₁.gens = #[])
    (ha : s₁.heap.get? a = some { cls := .type "list", data := .seq vs.toArray }) (hr : Room k callerA) (F : ∀ base : Heap, LawHeap K mg base → FnG P w K mg base CX k fa fd [x] sp)
    (hbind : ∀ (s : Shared) (u : Value), BindsTo s fd ⟨[u], []⟩ [(x, u)]) (hsp : sp [.ref a] H (fun v _ => v = .bl true) fun _ _ _ => False) (hCX : ∀ H e s', CX [] H s₁ (fun _ _ _ => False) e s' → False)
    (hO : Only H) (hok : HOk P w H s₁.heap) (one : ∀ b, H b ≠ none → b = a ∧ K.lookup a = none) : codeAny (model P w) callerA (.call (.ref fa) ⟨[.ref a], []⟩) (LawEnd s₁) s₁ := by
  have some_ : ∀ {b : Addr} {u : HO}, H b = some u → b = a ∧ K.lookup a = none := fun {b u} q => one b (by rw [q]; exact fun z => nomatch z)
  have free : ∀ {b : Addr}, (∀ u, H b ≠ some u) → H b = none := fun {b} n => by
    cases q : H b with
    | none => rfl
    | some u => exact absurd q (n u)
  have ns_ : ∀ {b : Addr} {m : Str → Option Value}, s₁.heap.Ns b m → (hidT s₁.heap H).Ns b m := by
    rintro b m ⟨o, es, ep, e, d, r⟩
    refine ⟨o, es, ep, hidT_get e (free fun u q => ?_), d, r⟩
    rw [(some_ q).1, ha] at e
    cases e
    cases d
  have kin : K.In (hidT s₁.heap H) := fun b o e => hidT_get (KX b o e) (free fun u q => by
    have z := some_ q
    rw [z.1, z.2] at e
    cases e)
  have base : LawHeap K mg (hidT s₁.heap H) := ⟨kin, ns_ hns, let ⟨mm, h⟩ := hmo; ⟨mm, ns_ h⟩, let ⟨mc, h, e⟩ := hdg; ⟨mc, ns_ h, e⟩⟩
  have e0 : Env0 P w K mg (hidT s₁.heap H) callerA [] s₁ H := ⟨rfl, ⟨kin, base.glob, ⟨mb, ns_ hb, hbb⟩, let ⟨mc, h1, h2⟩ := hlim; ⟨mc, ns_ h1, h2⟩⟩, fun b o e => of_hidT e, Nat.le_of_eq (hidT_size _ _), trivial, fun b hb => absurd (show b ∈ ([] : List Addr) from hb) (by simp), hok, .of_eq hg⟩
  refine codeAny_mono ((F _ base).goes callerA [] s₁ H ⟨[.ref a], []⟩ [.ref a] [.ref a] _ _ rfl hr e0 (hbind s₁ (.ref a)) (.cons rfl .nil) hsp) fun r s' h => ?_
  match r, h with
  | .error e, h => exact (hCX H e s' h).elim
  | .ok .next, h => exact False.elim h
  | .ok .brk, h => exact False.elim h
  | .ok .cont, h => exact False.elim h
  | .ok (.ret u), ⟨v, H', os, bare, un, hok', r', q⟩ =>
    obtain rfl : v = .bl true := q
    obtain rfl : u = Value.bool true := r'
    refine ⟨rfl, OldK.of_keep fun b o e => ?_, os, bare⟩
    rcases hO b with z | ⟨oz, xs, z⟩
    · exact un.keep b o e z (fun h => absurd (show b ∈ ([] : List Addr) from h) (by simp)) (by simp)
    · have e1 := (hok b _ z).1
      have e2 := (hok' b _ (un.frzs b _ _ z)).1
      rw [e] at e1
      cases e1
      exact e2
theorem lawG_call (KX : K.In s₁.heap) (hns : s₁.heap.Ns mainGlobals mg) (hb : s₁.heap.Ns builtinsNs mb) (hbb : ∀ x : Str, x ≠ "__name__" → mb x = bootBuiltins x) (hlim : s₁.heap.NoLimit) (hmo : ∃ mm, s₁.heap.Ns sysModules mm) (hdg : ∃ mc, s₁.heap.Ns cStatics mc ∧ mc "sys.int_max_str_digits" = none) (hg : s₁.gens = #[])
    (ha : s₁.heap.get? a = some { cls := .type "list", data := .seq vs.toArray }) (hi : IntsAre vs ns) (hl : ns.length ≤ sizeLine) (hr : Room k callerA) (F : ∀ base : Heap, LawHeap K mg base → FnG P w K mg base CX k fa fd [x] sp)
    (hbind : ∀ (s : Shared) (u : Value), BindsTo s fd ⟨[u], []⟩ [(x, u)]) (hsp : ∀ H : Hp, Only H → SqL K H a (ns.map V.int) → sp [.ref a] H (fun v _ => v = .bl true) fun _ _ _ => False)
    (hCX : ∀ H e s', CX [] H s₁ (fun _ _ _ => False) e s' → False) : codeAny (model P w) callerA (.call (.ref fa) ⟨[.ref a], []⟩) (LawEnd s₁) s₁ := by
  have rv := vals_ints hi
  cases hk : K.lookup a with
  | some o =>
    have e := KX a o hk
    rw [ha] at e
    cases e
    have hS : SqL K (fun _ => none) a (ns.map V.int) := .inr ⟨_, vs.toArray, _, hk, rfl, rfl, rfl, by rw [List.size_toArray, hi.length]; exact hl, by simpa using rv⟩
    exact lawG_core (fun _ => none) KX hns hb hbb hlim hmo hdg hg ha hr F hbind (hsp _ (fun _ => .inl rfl) hS) hCX (fun _ => .inl rfl) (fun b u z => nomatch (show (none : Option HO) = some u from z)) fun b z => absurd rfl z
  | none =>
    have at_ : ∀ b, (fun b => if b = a then some (HO.frz { cls := .type "list", data := .seq vs.toArray } (.lst (ns.map V.int))) else none : Hp) b = none ∨ b = a := fun b => by
      by_cases hb : b = a
      · exact .inr hb
      · exact .inl (if_neg hb)
    have hO : Only fun b => if b = a then some (HO.frz { cls := .type "list", data := .seq vs.toArray } (.lst (ns.map V.int))) else none := fun b => by
      rcases at_ b with z | z
      · exact .inl z
      · exact .inr ⟨_, _, if_pos z⟩
    refine lawG_core _ KX hns hb hbb hlim hmo hdg hg ha hr F hbind (hsp _ hO (.inl (.inr ⟨_, if_pos rfl⟩))) hCX hO (fun b u z => ?_) fun b z => ⟨(at_ b).resolve_left z, hk⟩
    rcases at_ b with y | y
    · cases y.symm.trans z
    · subst y
      have z' := (if_pos rfl).symm.trans z
      cases z'
      exact ⟨ha, by rw [List.length_map]; exact hl, vs, _, rv, ha⟩
theorem walkG {l : PySem.W.OpenLaw} {n k : Nat} {q : Program} {loose : List Str} {XP : (Str → Option Value) → Heap → Prop} {YP : World → Heap → Prop} {d : DefRec} {CX : CXT} {x : Str}
    (hn : l.most = some n) (hn2 : n ≤ sizeLine) (hdf : d.params.defaults = []) (hr : Room k callerA) (him : importsNone q = true)
    (F : ∀ (w : World) (mg : Str → Option Value) (fa : Addr) (h : Heap), YP w h → h.Ns mainGlobals mg → mg d.name = some (.ref fa) →
      ∃ (K : PySem.W.Frag) (fd : FuncData) (sp : Sp), K.In h ∧ (∀ (s : Shared) (u : Value), BindsTo s fd ⟨[u], []⟩ [(x, u)]) ∧
        (∀ (H : Hp) (a : Addr) (ns : List Int), ns.length ≤ n → Only H → SqL K H a (ns.map V.int) → sp [.ref a] H (fun v _ => v = .bl true) fun _ _ _ => False) ∧
        ∀ base : Heap, LawHeap K mg base → FnG l.prog w K mg base CX k fa fd [x] sp)
    (hCX : ∀ (H : Hp) (s : Shared) (e : Value) (s' : Shared), CX [] H s (fun _ _ _ => False) e s' → False) :
    PySem.W.WalkO q loose XP YP l.row.toRowW d [] (fun f vs => PySem.call f vs) := by
  refine Att.attach_call hn hdf fun w s₀ s₁ mg mb fa o pm cd doc a vs ns G Y ho hd hcd hmg hobj hints hlen hg => ?_
  obtain ⟨K, fd, sp, KX, hb, hsp, hF⟩ := F w mg fa _ Y G.T.g hmg
  obtain ⟨mm, hmm, _⟩ := (G.T.seer him).mods
  exact lawG_call KX G.T.g G.T.b G.T.builtins G.T.nolimit ⟨mm, hmm⟩ G.T.nodigits hg hobj hints (Nat.le_trans hlen hn2) hr hF hb (fun H hO hS => hsp H a ns hlen hO hS) fun H e s' => hCX H s₁ e s'
end
end Lm

namespace Lm
open PySem PySem.Spec PyProof.Rows L2

/-! ## repr of data: none, bools, ints, texts, lists, tuples, dicts that the abstract heap tracks -/
def keyD : Key → PyData
  | .inl i => .int i
  | .inr x => .str x
mutual
inductive Dr (H : Hp) : V → PyData → Prop
  | non : Dr H .non .none
  | bl (b : Bool) : Dr H (.bl b) (.bool b)
  | int (i : Int) : Dr H (.int i) (.int i)
  | str (x : Str) : Dr H (.str x) (.str x)
  | lst {a : Addr} {xs : List V} {ds : List PyData} : H a = some (.lst xs) → DrAll H xs ds → Dr H (.ref a) (.list ds)
  | tup {a : Addr} {xs : List V} {ds : List PyData} : H a = some (.tup xs) → DrAll H xs ds → Dr H (.ref a) (.tuple ds)
  | dic {a : Addr} {kvs : List (Key × V)} {ds : List PyData} : H a = some (.dK kvs) → DrAll H (kvs.map (·.2)) ds → Dr H (.ref a) (.dict ((kvs.map fun q => keyD q.1).zip ds))
inductive DrAll (H : Hp) : List V → List PyData → Prop
  | nil : DrAll H [] []
  | cons {v : V} {vs : List V} {d : PyData} {ds : List PyData} : Dr H v d → DrAll H vs ds → DrAll H (v :: vs) (d :: ds)
end
theorem DrAll.length {H : Hp} : ∀ {vs : List V} {ds : List PyData}, DrAll H vs ds → vs.length = ds.length
  | _, _, .nil => rfl
  | _, _, .cons _ t => congrArg (· + 1) t.length
/-- what is tracked as data stays so -/
def Kept (H H' : Hp) : Prop := ∀ a o, H a = some o → H' a = some o
mutual
theorem Dr.keep {H H' : Hp} (k : ∀ (a : Addr) (o : HO), H a = some o → (∃ xs, o = .lst xs) ∨ (∃ xs, o = .tup xs) ∨ (∃ ks, o = .dK ks) → H' a = some o) : ∀ {v : V} {d : PyData}, Dr H v d → Dr H' v d
  | _, _, .non => .non
  | _, _, .bl b => .bl b
  | _, _, .int i => .int i
  | _, _, .str x => .str x
  | _, _, .lst e h => .lst (k _ _ e (.inl ⟨_, rfl⟩)) (DrAll.keep k h)
  | _, _, .tup e h => .tup (k _ _ e (.inr (.inl ⟨_, rfl⟩))) (DrAll.keep k h)
  | _, _, .dic e h => .dic (k _ _ e (.inr (.inr ⟨_, rfl⟩))) (DrAll.keep k h)
theorem DrAll.keep {H H' : Hp} (k : ∀ (a : Addr) (o : HO), H a = some o → (∃ xs, o = .lst xs) ∨ (∃ xs, o = .tup xs) ∨ (∃ ks, o = .dK ks) → H' a = some o) : ∀ {vs : List V} {ds : List PyData}, DrAll H vs ds → DrAll H' vs ds
  | _, _, .nil => .nil
  | _, _, .cons h t => .cons (Dr.keep k h) (DrAll.keep k t)
end
theorem Dr.same {H H' : Hp} {v : V} {d : PyData} (h : Dr H v d) (k : Same H H') : Dr H' v d := h.keep fun a o e _ => k a o e

/-- the keys of a dict, as they stand in the heap -/
theorem keys_read {P : Program} {w : World} {h : Heap} : ∀ {es : List DictEntry} {vs : List (Key × Value)} {kvs : List (Key × V)}, Pairs (mixKind P w) es vs → KV kvs vs →
    ReadsAll h (es.map (·.key)) (kvs.map fun q => keyD q.1) [] ∧ es.map (·.val) = vs.map (·.2) ∧ Vals (kvs.map (·.2)) (vs.map (·.2))
  | _, _, _, .nil, .nil => ⟨.nil, rfl, .nil⟩
  | e :: es, (k, u) :: vs, (k', v) :: kvs, .cons hk hv hp, .cons hr hrs => by
    obtain ⟨i1, i2, i3⟩ := keys_read hp hrs
    have ek : k' = k := hr.1
    have rv : RelV v u := hr.2
    subst ek
    have hev : e.val = u := hv
    refine ⟨?_, by simp only [List.map_cons, hev, i2], .cons rv i3⟩
    have one : Reads h e.key (keyD k') [] := by
      rcases keyIs_shape hk with ⟨i, t, q1, q2⟩ | ⟨x, t, q1, q2⟩
      · rw [q2]
        have q1' : k' = Sum.inl i := q1
        subst q1'
        exact Reads.int i t
      · rw [q2]
        have q1' : k' = Sum.inr x := q1
        subst q1'
        exact Reads.str x t
    exact ReadsAll.cons one i1
section
variable {X : Cx} {pins : List (Addr × Obj)} {σ : L2.St} {H : Hp} {s : Shared}
theorem zip_fst {α β : Type} : ∀ {xs : List α} {ys : List β}, xs.length = ys.length → (xs.zip ys).map (·.1) = xs ∧ (xs.zip ys).map (·.2) = ys
  | [], [], _ => ⟨rfl, rfl⟩
  | x :: xs, y :: ys, h => by
    obtain ⟨h1, h2⟩ := zip_fst (xs := xs) (ys := ys) (by simpa using h)
    exact ⟨by simp only [List.zip_cons_cons, List.map_cons, h1], by simp only [List.zip_cons_cons, List.map_cons, h2]⟩
mutual
theorem Dr.reads (I : Inv X pins σ H s) : ∀ {v : V} {d : PyData} {u : Value}, Dr H v d → RelV v u → ∃ as, Reads s.heap u d as ∧ ∀ b ∈ as, ∃ o, H b = some o
  | _, _, u, .non, r => by
    obtain rfl : u = Value.none := r
    exact ⟨[], .none, by simp⟩
  | _, _, u, .bl b, r => by
    obtain rfl : u = Value.bool b := r
    exact ⟨[], .bool b, by simp⟩
  | _, _, _, .int i, r => by
    obtain ⟨t, rfl⟩ := r
    exact ⟨[], .int i t, by simp⟩
  | _, _, _, .str x, r => by
    obtain ⟨t, rfl⟩ := r
    exact ⟨[], .str x t, by simp⟩
  | _, _, u, .lst (a := a) e h, r => by
    obtain rfl : u = Value.ref a := r
    obtain ⟨_, its, n, rv, ho⟩ := I.hok a _ e
    obtain ⟨as, hr, ha⟩ := DrAll.reads I h rv
    refine ⟨_, Reads.list ho rfl rfl (by simpa using hr), fun b hb => ?_⟩
    rcases List.mem_cons.mp hb with q | q
    · exact ⟨_, by rw [q]; exact e⟩
    · exact ha b q
  | _, _, u, .tup (a := a) e h, r => by
    obtain rfl : u = Value.ref a := r
    obtain ⟨_, its, rv, o, ho, hc, n, hd⟩ := I.hok a _ e
    obtain ⟨as, hr, ha⟩ := DrAll.reads I h rv
    exact ⟨_, Reads.tuple ho hc hd (by simpa using hr), ha⟩
  | _, _, u, .dic (a := a) (kvs := kvs) (ds := ds) e h, r => by
    obtain rfl : u = Value.ref a := r
    obtain ⟨_, _, vs, rel, o, es, ep, ho, hx, hd, _, hp, _⟩ := I.hok a _ e
    obtain ⟨k1, k2, k3⟩ := keys_read (h := s.heap) hp rel
    obtain ⟨as, hr, ha⟩ := DrAll.reads I h k3
    have hl : (kvs.map fun q => keyD q.1).length = ds.length := by
      have := h.length
      simpa using this
    obtain ⟨z1, z2⟩ := zip_fst hl
    refine ⟨_, Reads.dict ho hx.1 hd (as := []) (bs := as) (by rw [z1]; exact k1) (by rw [z2, k2]; exact hr), fun b hb => ?_⟩
    rcases List.mem_cons.mp hb with q | q
    · exact ⟨_, by rw [q]; exact e⟩
    · exact ha b (by simpa using q)
theorem DrAll.reads (I : Inv X pins σ H s) : ∀ {vs : List V} {ds : List PyData} {us : List Value}, DrAll H vs ds → Vals vs us → ∃ as, ReadsAll s.heap us ds as ∧ ∀ b ∈ as, ∃ o, H b = some o
  | _, _, _, .nil, .nil => ⟨[], .nil, by simp⟩
  | _, _, _, .cons h t, .cons r rs => by
    obtain ⟨as, h1, h2⟩ := Dr.reads I h r
    obtain ⟨bs, h3, h4⟩ := DrAll.reads I t rs
    exact ⟨_, .cons h1 h3, fun b hb => (List.mem_append.mp hb).elim (h2 b) (h4 b)⟩
end
/-- the object at a fixed address of the base isn't tracked -/
theorem ns_untracked (I : Inv X pins σ H s) {b : Addr} {m : Str → Option Value} (h : X.base.Ns b m) : H b = none := by
  obtain ⟨o, _, _, e, _⟩ := h
  exact (I.bs b o e).2
/-- what repr tells of data -/
def rReprD : List V → Hp → VK → Prop := fun xs H Q => ∃ v d, xs = [v] ∧ Dr H v d ∧ d.showable = true ∧ d.depth ≤ 60 ∧ d.shown.length ≤ sizeLine ∧ Q (.str d.shown) H
theorem call_reprD (gd : X.A.guards = some []) (hu : X.A.units + 64 < cLine) (hm : ∃ mm, X.base.Ns sysModules mm) : CallR X (.builtin "repr") rReprD := by
  intro pins s σ H xs us Q I r h
  obtain ⟨v, d, rfl, hd, hs, hdep, hz, q⟩ := h
  obtain ⟨u, rfl, ru⟩ := vals1 r
  obtain ⟨mm, hm⟩ := hm
  have hsys := ns_untracked I hm
  obtain ⟨as, hr, ha⟩ := hd.reads I ru
  have hno : sysModules ∉ as := fun hb => by
    obtain ⟨o, ho⟩ := ha _ hb
    rw [hsys] at ho
    cases ho
  have byRef : ∀ a : Addr, u = Value.ref a → wpAny (model X.prog X.w) X.A (call (.builtin "repr") [u]) (EP X pins σ Q) X.xe s := fun a e => by
    subst e
    exact repr_of_reads' hr hs (fun _ => hno) gd (by omega) (fun _ _ z => z) (fun h' t tk k => ⟨.str d.shown, H, I.kept (t' := tk) k, ⟨t, rfl⟩, q⟩) hz
  cases hd with
  | non =>
    obtain rfl : u = Value.none := ru
    exact PySem.P.repr_of_none ⟨.str _, H, I.tok _, ⟨_, rfl⟩, q⟩
  | bl b =>
    obtain rfl : u = Value.bool b := ru
    exact PySem.P.repr_of_bool ⟨.str _, H, I.tok _, ⟨_, rfl⟩, by simpa only [PyData.shown] using q⟩
  | int i =>
    obtain ⟨t, rfl⟩ := ru
    exact PySem.P.repr_of_int (by simpa [PyData.showable] using hs) ⟨.str _, H, I.tok _, ⟨_, rfl⟩, by simpa only [PyData.shown] using q⟩
  | str x =>
    obtain ⟨t, rfl⟩ := ru
    exact PySem.P.repr_of_str ⟨.str _, H, I.tok _, ⟨_, rfl⟩, by simpa only [PyData.shown] using q⟩ (by simpa only [PyData.shown] using hz)
  | lst _ _ => exact byRef _ ru
  | tup _ _ => exact byRef _ ru
  | dic _ _ => exact byRef _ ru
end
end Lm

namespace Lm
open PySem PySem.Spec PyProof.Rows L2

/-! ## Own exceptions as values: made, their fields read, asked for their class -/
/-- C(e, ..), kept as a value; C's __init__ keeps sp -/
def tMkV (C : Addr) (sp : Sp) (ta : TA) : TE := fun σ H Q => ta σ H fun vs H1 => vs.length ≤ 1000 ∧ ∀ a, H1 a = none →
  sp (.ref a :: vs) (upd H1 a (exo a C none)) (fun v H2 => v = .non ∧ Q (.ref a) H2) (fun _ _ _ => False)
section
variable {X : Cx}
theorem pe_oexV {CX : CXT} {x : Str} {e : Expr} {es : List Expr} {p pos : Pos} {C fI : Addr} {k : Nat} {fd : FuncData} {ps : List Str} {sp : Sp} {ta : TA} (T : OexC X.K C) (iC : PySem.W.findIn X.K (.ref C) "__init__" = some (some (.ref fI))) (tI : PySem.W.typeIn X.K (.ref fI) = some (.type "function"))
    (F1 : FnOk X.prog X.w X.K X.mg X.base CX k fI fd ps sp) (hr : Room (k + 1) X.A) (hb : Binds X.K fd ps []) (hx : Passes CX X (fun _ _ _ => False)) (hg : Gl X x) (hm : X.mg x = some (.ref C)) (ha : PA X (e :: es) ta)
    (hdb : (x == ("__debug__" : Str)) = false := by decide) (he : starEach (e :: es) X.env = (false, eval e X.env) :: starEach es X.env := by rfl) (hpl : (backTo pos (starEach es X.env)).any (·.1) = false := by rfl) :
    PE X (.Call (.Name x p) (e :: es) [] pos) (tMkV C sp ta) := by
  refine ⟨fun pins s σ H Q I h => ?_⟩
  obtain ⟨nm, q, N, bs, bm, sn, sub, ab, col, dd, k0, k1, k2, k3, k5, hC, hbm⟩ := T.cls
  refine wpAny_Call_Name_kw (ld_glob I hg hm ?_ hdb)
  refine PySem.W.callWith_K (h₀ := X.base) I.ok.mod.kin T.kC (thn (ha.run pos pins s σ H _ I h) fun us s1 ⟨vs, H1, I1, r1, hz, q1⟩ => ⟨I1.kIn, ?_⟩) he hpl
  show wpAny _ _ (call (.ref C) us) _ _ _
  obtain ⟨hp, g, dr, tk, os⟩ := s1
  let a : Addr := hp.objs.size + 1
  have above : hp.objs.size ≤ a := Nat.le_succ _
  have hq := q1 a (I1.hok.fresh above)
  let h2 : Heap := (hp.push (PySem.W.kdv_tup us)).push (PySem.HandSPX.excO C hp.objs.size)
  have kk : ∀ b o, hp.get? b = some o → h2.get? b = some o := fun b o z => Heap.get?_push_of_some _ (Heap.get?_push_of_some _ z)
  have hget : h2.get? a = some (PySem.HandSPX.excO C hp.objs.size) := by
    show ((hp.push (PySem.W.kdv_tup us)).push (PySem.HandSPX.excO C hp.objs.size)).get? (hp.objs.size + 1) = _
    heap_get
  have I2 : Inv X pins σ (upd H1 a (exo a C none)) ⟨h2, g, dr, tk, os⟩ := I1.laid (t' := tk) (h' := h2) kk above (exo_ok hget)
  have r2 : Vals (V.ref a :: vs) (Value.ref a :: us) := .cons rfl r1
  have hl : (Value.ref a :: us).length = ps.length := r2.length.symm.trans (F1.len _ _ _ _ hq)
  have hus : us.length ≤ sizeLine := by
    rw [← Paired.length r1, sizeLine_eq]
    omega
  have hb2 : BindsTo ⟨h2, g, dr, tk, os⟩ fd ⟨Value.ref a :: us, []⟩ (ps.zip (Value.ref a :: us)) := by
    have z := hb ⟨h2, g, dr, tk, os⟩ (Value.ref a :: us) I2.kIn (by rw [List.append_nil]; exact hl)
    rw [List.append_nil] at z
    exact z
  refine wpAny_call (PySem.HandSPX.call_own F.excBase_ValueError (fun Y => PySem.HandSPX.refsVE_contains Y bm hbm) (I1.kIn _ _ hC) (PySem.W.looks_findIn I1.kIn iC) (fun self => PySem.W.bind_fn I1.kIn self tI) hus
    (codeAny_mono (F1.run _ X.stack _ _ ⟨Value.ref a :: us, []⟩ (Value.ref a :: us) _ _ (fun _ _ _ => False) (hr.make C us []) (I2.env0.make C us []) hb2 r2 hq) fun r s' hq' => ?_))
  match r, hq' with
  | .error er, hq' => exact hx pins σ _ _ er s' I2 hq'
  | .ok .next, hq' => exact False.elim hq'
  | .ok .brk, hq' => exact False.elim hq'
  | .ok .cont, hq' => exact False.elim hq'
  | .ok (.ret u), ⟨v, H2, os2, bare2, un2, hok2, rv, ev, q2⟩ =>
    subst ev
    obtain ⟨h3, g3, d3, t3, os3⟩ := s'
    obtain rfl : os3 = os := os2
    exact ⟨rv, .ref a, H2, I2.call (h' := h3) (g' := g3) (d' := d3) (t' := t3) (ch := []) un2 hok2 bare2 (fun b z => absurd z (by simp)), rfl, q2⟩

/-- x.f, x a made own exception -/
def tExF (K : PySem.W.Frag) (f : Str) (te : TE) : TE := fun σ H Q => te σ H fun x H1 => ∃ (a C d : Addr) (fs : List (Str × V)) (v : V), x = .ref a ∧ XfC K C ∧ PySem.W.findIn K (.ref C) f = some none ∧
  H1 a = some (exo a C (some d)) ∧ H1 d = some (exd d fs) ∧ fs.lookup f = some v ∧ Q v H1
theorem pe_exF {e : Expr} {te : TE} {pos : Pos} {f : Str} (he : PE X e te) (hb : attributeBase e f X.env (eval e X.env) = eval e X.env := by rfl) : PE X (.Attribute e f pos) (tExF X.K f te) := by
  refine ⟨fun pins s σ H Q I h => ?_⟩
  refine attr_of hb (thn (he.run pins s σ H _ I h) fun u s1 hh => ?_)
  obtain ⟨x, H1, I1, rx, a, C, d, fs, v, ex, T, hno, ea, ed, l, q⟩ := hh
  subst ex
  obtain rfl : u = Value.ref a := rx
  obtain ⟨t1, ho⟩ := exo_at I1.hok ea
  obtain ⟨mA, hns, hr⟩ := exd_at I1.hok ed
  obtain ⟨od, hod, hl⟩ := lookIn_ns hns
  obtain ⟨z, hz, rz⟩ := RelO.some_of (v := v) (o := mA f) (by rw [← l]; exact hr f)
  have J : PySem.W.InstAt s1.heap a _ C (some od) := ⟨ho, rfl, rfl, hod⟩
  exact HandSPX.exc_get I1.kIn J T.ga T.gg T.exC (PySem.W.findObj_own T.hdC hno rfl (by rw [hl, hz])) (handed_of rz) ⟨v, H1, I1.tok _, rz, q⟩
end
end Lm

namespace Lm
open PySem PySem.Spec PyProof.Rows L2
section
open PySem.W PySem.Calls
variable {prog : Program} {w : World} {A : Around} {E : Value → Shared → Prop} {s : Shared} {K : Frag} {x D : Addr} {ox : Obj} {od : Option Obj}
/-- x.__class__ of an exception, whatever its own dict holds -/
theorem class_of_exc {Q : Option Value → Shared → Prop} (C : ExcC K D) (X : K.In s.heap) (I : InstAt s.heap x ox D od) (h : Q (some (.ref D)) { s with toks := s.toks + 1 }) : wpAny (model prog w) A (getAttr? (.ref x) "__class__") Q E s := by
  have hf : findObj K D od "__class__" = some (.bind (.builtin "getset_descriptor.__get__") (.builtin "object.__class__")) := by
    obtain ⟨cd, hc, _⟩ := any_some C.hd
    cases od with
    | none => exact findObj_dataN (by rw [hc] <;> rfl) C.ha C.hn C.ht
    | some o => exact findObj_data (by rw [hc] <;> rfl) C.ha C.hn C.ht
  obtain ⟨hp, g, d, t, os⟩ := s
  have own : Value.builtin "BaseException.__getattribute__" ≠ Value.builtin "object.__getattribute__" := by decide +kernel
  have L0 := I.type (M := model prog w)
  have L1 := looks_findIn (M := model prog w) X C.hg
  have L2 := looks_findIn (M := model prog w) X C.hk
  have L3 := looks_find (M := model prog w) X I hf
  have sub : Looks (model prog w) hp (isInstance (.ref x) (.type "BaseException")) true := L0.andThen (looks_subIn X C.hs)
  unfold getAttr? getAttrBy? getAttrBy
  refine wpAny_bind (wpAny_mkText (wpAny_bind (wpAny_attempt (wpAny_holding (wpAny_bind (L0.at (wpAny_bind (L1.at ?_))))))))
  show wpAny _ _ (if (onTheHeap (Value.ref D) && Value.builtin "BaseException.__getattribute__" == Value.builtin "object.__getattribute__") = true then _ else _) _ _ _
  rw [beq_eq_false_iff_ne.mpr own, Bool.and_false, if_neg Bool.false_ne_true]
  unfold getAttrByItsOwn hookBefore
  refine wpAny_bind ?_
  rw [if_pos (show onTheHeap (Value.ref D) = true from rfl)]
  refine L2.at (wpAny_bind (wpAny_attempt (wpAny_holding ?_)))
  unfold callGetattribute
  rw [Bool.false_and, if_neg Bool.false_ne_true]
  unfold boundAndCalled
  rw [PySem.F.excAttr_ValueError.ga.bind (.ref x)]
  refine wpAny_bind (wpAny_pure ?_)
  show wpAny _ _ (call (.builtin "BaseException.__getattribute__") [.ref x, .str "__class__" t]) _ _ _
  refine wpAny_call (codeAny_call_builtin PySem.F.excAttr_ValueError.ga.plain PySem.F.entry_bexc_ga ?_)
  refine @check_slot (model prog w) _ _ ⟨hp, g, d, t + 1, os⟩ "BaseException.__getattribute__" "BaseException" "__getattribute__" (.ref x) [.str "__class__" t] [] _ (by decide +kernel) (by decide +kernel) sub (PySem.F.args_bexc_ga (.ref x) (.str "__class__" t)) ?_
  unfold Builtin.«object.__getattribute__»
  refine wpAny_bind (wpAny_of_eq (a := ((Value.ref x : Value), [Value.str "__class__" t])) (by first | rfl | (simp only [slotArgs]; rfl)) ?_)
  refine wpAny_bind (wpAny_pure (wpAny_bind (L0.at (wpAny_bind (L3.at ?_)))))
  show wpAny _ _ (holding [Value.builtin "object.__class__"] (call (.builtin "getset_descriptor.__get__") [.builtin "object.__class__", .ref x, .ref D]) >>= ret) _ _ _
  refine wpAny_bind (wpAny_holding (wpAny_call (class_get (s := ⟨hp, g, d, t + 1, os⟩) (ox := ox) (od := od) X I C.hm ?_)))
  refine wpAny_pure ?_
  show wpAny _ _ (handedOut (.ref D)) _ _ _
  rw [handedOut_of (v := .ref D) rfl]
  first
    | exact wpAny_pure (wpAny_pure h)
    | exact wpAny_pure h
    | exact wpAny_pure (wpAny_bind (wpAny_pure (wpAny_pure h)))
/-- what isinstance wants to know of an own exception -/
theorem kit_exc (C : ExcC K D) : KitX K (.ref x) (.ref D) (fun h => InstAt h x ox D od) := by
  have isC : ∃ cd, clsIn K D = some cd := by
    obtain ⟨cd, hc, _⟩ := any_some C.hd
    exact ⟨cd, hc⟩
  obtain ⟨cd, hc⟩ := isC
  unfold clsIn at hc
  refine ⟨fun _ _ _ I => I.type, fun _ _ X _ => ?_, fun h tp dd its n sl X htp => ?_, fun X I k => class_of_exc C X I k⟩
  · split at hc
    · rename_i ho
      intro A' Q' E' s' k q
      unfold isType loadHead
      exact wpAny_bind (wpAny_loadPart (k _ _ (X _ _ ho)) (wpAny_pure q))
    · cases hc
  · refine Bool.eq_false_iff.mpr fun q => ?_
    obtain rfl : D = tp := Value.ref.inj (beq_iff_eq.mp q)
    split at hc
    · rename_i ho
      cases (X _ _ ho).symm.trans htp
    · cases hc
end
/-- isinstance(x, c), c one class, x also a made own exception -/
def rIsE (K : PySem.W.Frag) : List V → Hp → VK → Prop := fun xs H Q => ∃ (x c : V) (t u : Value) (b : Bool), xs = [x, c] ∧ ClsV c u ∧
  (TyX K H x t ∨ ∃ a D d, x = .ref a ∧ t = .ref D ∧ ExcC K D ∧ H a = some (exo a D (some d)) ∧ ∃ fs, H d = some (exd d fs)) ∧ PySem.W.kitOne K t u = some b ∧ Q (.bl b) H
theorem call_isE {X : Cx} : CallR X (.builtin "isinstance") (rIsE X.K) := by
  intro pins s σ H xs us Q I r h
  obtain ⟨x, c, t, u, b, rfl, k, ty, e, q⟩ := h
  rcases ty with ty | ⟨a, D, d, rfl, rfl, C, ha, fs, hd⟩
  · exact call_isi pins s σ H _ us Q I r ⟨x, c, t, u, b, rfl, k, ty, e, q⟩
  · obtain ⟨u1, u2, rfl, r1, r2⟩ := vals2 r
    obtain rfl := k.eq r2
    obtain rfl : u1 = Value.ref a := r1
    obtain ⟨t1, ho⟩ := exo_at I.hok ha
    obtain ⟨mA, hns, _⟩ := exd_at I.hok hd
    obtain ⟨od, hod, _⟩ := lookIn_ns hns
    exact PySem.W.kia_one (kit_exc (ox := _) (od := some od) C) I.kIn ⟨ho, rfl, rfl, hod⟩ e (fun z => nomatch z) fun tk => ⟨.bl b, H, I.tok tk, rfl, q⟩
end Lm

namespace Lm
open PySem PySem.Spec PyProof.Rows L2
open C8 (Cal Mak Met pe_c pe_mk pe_mt pe_mt0 pss_cut tCut)

/-! ## What a law's own helpers ask of the module: the built-ins that stand as they are -/
structure Bl (mg : Str → Option Value) (base : Heap) : Prop where
  len : mg "len" = none
  int : mg "int" = none
  abs : mg "abs" = none
  range : mg "range" = none
  list : mg "list" = none
  max : mg "max" = none
  min : mg "min" = none
  all : mg "all" = none
  isinstance : mg "isinstance" = none
  repr : mg "repr" = none
  str : mg "str" = none
  tuple : mg "tuple" = none
  ValueError : mg "ValueError" = none
  bool : mg "bool" = none
  mods : ∃ mm, base.Ns sysModules mm
/-- a def as its callers see it: its promise, where it stands, how its arguments bind -/
theorem calD {P : Program} {w : World} {K : PySem.W.Frag} {mg : Str → Option Value} {base : Heap} {x : Str} {params : Arguments} {body : List Stmt} {scope : Scope} {f : Addr} {fd : FuncData} {N ps : List Str} {k : Nat} {sp : Sp}
    (F : FunD K x x params body scope [] [] f fd) (hm : mg x = some (.ref f)) (S : FnScope N ps scope)
    (b : ∀ (kV doc pm : Value) (an : Option Addr) (cdv ct : Value) (us : List Value), us.length = ps.length → bindArgs (PySem.W.fnOf x x params body scope .none kV doc pm an cdv ct) ⟨us, []⟩ = pure (ps.zip us))
    (many : ∀ vs H Q E, sp vs H Q E → vs.length = ps.length)
    (walk : ∀ (cdv : Value) (A : Around) (outer : List Env) (s : Shared) (H : Hp) (vs : List V) (Q : VK) (E : XK), Room k (A.deeper (envOfC x scope s.heap.objs.size f cdv)) → sp vs H Q E →
      ∃ t, PSs (cxOf CX0 P w K mg base N x scope f cdv A outer s H E).nox body t ∧ t { nx := fun _ H' => Q .non H', rt := Q } (start N vs) H) : Cal P w K mg base (k + 1) x sp [] :=
  ⟨f, fd, ps, [], F.ok S many fun cdv A outer s H vs Q E hr h => let ⟨t, h1, h2⟩ := walk cdv A outer s H vs Q E hr h; ⟨t, PSs.nox h1, h2⟩, hm, F.kp, FunD.bindsN F b, .nil⟩
/-- the same of a def that is entered where no repr is under way -/
structure CalG (P : Program) (w : World) (K : PySem.W.Frag) (mg : Str → Option Value) (base : Heap) (k : Nat) (x : Str) (sp : Sp) : Prop where
  ex : ∃ (f : Addr) (fd : FuncData) (ps : List Str), FnG P w K mg base CX0 k f fd ps sp ∧ mg x = some (.ref f) ∧ PySem.W.keepIn K (.ref f) = true ∧ Binds K fd ps []
theorem CalG.of {P : Program} {w : World} {K : PySem.W.Frag} {mg : Str → Option Value} {base : Heap} {x : Str} {k : Nat} {sp : Sp} (c : Cal P w K mg base k x sp []) : CalG P w K mg base k x sp := by
  obtain ⟨f, fd, ps, ds, F, hm, kp, b, d⟩ := c.ex
  cases d
  exact ⟨f, fd, ps, FnG.of F, hm, kp, b⟩
theorem calG {P : Program} {w : World} {K : PySem.W.Frag} {mg : Str → Option Value} {base : Heap} {x : Str} {params : Arguments} {body : List Stmt} {scope : Scope} {f : Addr} {fd : FuncData} {N ps : List Str} {k : Nat} {sp : Sp}
    (F : FunD K x x params body scope [] [] f fd) (hm : mg x = some (.ref f)) (S : FnScope N ps scope)
    (b : ∀ (kV doc pm : Value) (an : Option Addr) (cdv ct : Value) (us : List Value), us.length = ps.length → bindArgs (PySem.W.fnOf x x params body scope .none kV doc pm an cdv ct) ⟨us, []⟩ = pure (ps.zip us))
    (many : ∀ vs H Q E, sp vs H Q E → vs.length = ps.length)
    (walk : ∀ (cdv : Value) (A : Around) (outer : List Env) (s : Shared) (H : Hp) (vs : List V) (Q : VK) (E : XK), A.guards = some [] → Room k (A.deeper (envOfC x scope s.heap.objs.size f cdv)) → sp vs H Q E →
      ∃ t, PSs (cxOf CX0 P w K mg base N x scope f cdv A outer s H E).nox body t ∧ t { nx := fun _ H' => Q .non H', rt := Q } (start N vs) H) : CalG P w K mg base (k + 1) x sp :=
  ⟨f, fd, ps, FnG.made F S many fun cdv A outer s H vs Q E gd hr h => let ⟨t, h1, h2⟩ := walk cdv A outer s H vs Q E gd hr h; ⟨t, PSs.nox h1, h2⟩, hm, F.kp, FunD.bindsN F b⟩
section
variable {X : Cx} {k j : Nat} {x : Str} {sp : Sp} {p pos : Pos} {e : Expr} {es : List Expr} {t : TA}
theorem pe_cG (c : CalG X.prog X.w X.K X.mg X.base k x sp) (gd : X.A.guards = some []) (hr : Room j X.A) (hk : k ≤ j) (hg : Gl X x) (ha : PA X (e :: es) t)
    (hdb : (x == ("__debug__" : Str)) = false := by decide) (he : starEach (e :: es) X.env = (false, eval e X.env) :: starEach es X.env := by rfl) (hpl : (backTo pos (starEach es X.env)).any (·.1) = false := by rfl) :
    PE X (.Call (.Name x p) (e :: es) [] pos) (tCall sp [] E0 t) := by
  obtain ⟨f, fd, ps, F, hm, kp, b⟩ := c.ex
  exact pe_callG F gd (hr.mono hk) hg hm kp b .nil pass0 ha hdb he hpl
end

/-! ## Ways that join -/
/-- all but what stands at a is as it was -/
def But (a : Addr) (H H' : Hp) : Prop := ∀ b, b ≠ a → H' b = H b
/-- what was tracked is as it was, but for a -/
def KeptBut (a : Addr) (H H' : Hp) : Prop := ∀ b o, H b = some o → b ≠ a → H' b = some o
theorem KeptBut.refl {a : Addr} {H : Hp} : KeptBut a H H := fun _ _ e _ => e
theorem KeptBut.trans {a : Addr} {H1 H2 H3 : Hp} (h : KeptBut a H1 H2) (k : KeptBut a H2 H3) : KeptBut a H1 H3 := fun b o e n => k b o (h b o e n) n
theorem KeptBut.of_but {a : Addr} {H H' : Hp} (h : But a H H') : KeptBut a H H' := fun b o e n => by rw [h b n]; exact e
theorem KeptBut.new {a p : Addr} {H : Hp} {o : HO} (h : H p = none) : KeptBut a H (upd H p o) := fun b u e _ => by rw [upd_ne (ne_of_none e h)]; exact e
theorem KeptBut.at_ {a : Addr} {H : Hp} {o : HO} : KeptBut a H (upd H a o) := fun b u e n => by rw [upd_ne n]; exact e
theorem KeptBut.of_same {a : Addr} {H H' : Hp} (h : Same H H') : KeptBut a H H' := fun b o e _ => h b o e

/-! ## Lists that stay -/
theorem sql_keep {K : PySem.W.Frag} {H H' : Hp} {a l : Addr} {xs : List V} (h : SqL K H l xs) (kb : KeptBut a H H') (n : l ≠ a) : SqL K H' l xs := by
  rcases h with (h | ⟨o, h⟩) | h
  · exact .inl (.inl (kb _ _ h n))
  · exact .inl (.inr ⟨o, kb _ _ h n⟩)
  · exact .inr h
theorem sqt_keep {K : PySem.W.Frag} {H H' : Hp} {a l : Addr} {xs : List V} (h : SqT K H l xs) (kb : KeptBut a H H') (n : l ≠ a) : SqT K H' l xs := by
  rcases h with (h | ⟨o, h⟩) | h
  · exact .inl (.inl (kb _ _ h n))
  · exact .inl (.inr ⟨o, kb _ _ h n⟩)
  · exact .inr h
/-- the script: locked, or an object of the module -/
def ScL (K : PySem.W.Frag) (H : Hp) (a : Addr) (xs : List V) : Prop := (∃ o, H a = some (.frz o (.lst xs))) ∨ ∀ H', SqL K H' a xs
theorem ScL.seq {K : PySem.W.Frag} {H : Hp} {a : Addr} {xs : List V} (h : ScL K H a xs) : SqL K H a xs := by
  rcases h with ⟨o, h⟩ | h
  · exact .inl (.inr ⟨o, h⟩)
  · exact h H
theorem ScL.of {K : PySem.W.Frag} {H : Hp} {a : Addr} {xs : List V} (o : Only H) (h : SqL K H a xs) : ScL K H a xs := by
  rcases h with (h | ⟨ob, h⟩) | h
  · rcases o a with z | ⟨ob, ys, z⟩
    · rw [z] at h
      cases h
    · rw [z] at h
      cases h
  · exact .inl ⟨ob, h⟩
  · exact .inr fun _ => .inr h
theorem ScL.but {K : PySem.W.Frag} {H H' : Hp} {a q : Addr} {xs : List V} (h : ScL K H a xs) (kb : KeptBut q H H') (n : ∀ o u, H q ≠ some (.frz o u)) : ScL K H' a xs := by
  rcases h with ⟨o, h⟩ | h
  · exact .inl ⟨o, kb _ _ h fun z => n _ _ (by rw [← z]; exact h)⟩
  · exact .inr h
theorem ScL.new {K : PySem.W.Frag} {H : Hp} {a q : Addr} {xs : List V} {o : HO} (h : ScL K H a xs) (n : H q = none) : ScL K (upd H q o) a xs :=
  h.but (q := q) KeptBut.at_ fun _ _ z => by rw [n] at z; cases z
theorem ScL.upd {K : PySem.W.Frag} {H : Hp} {a q : Addr} {xs ys : List V} {o : HO} (h : ScL K H a xs) (n : H q = some (.lst ys)) : ScL K (upd H q o) a xs :=
  h.but (q := q) KeptBut.at_ fun _ _ z => by rw [n] at z; cases z

/-! ## The pot of a cell: three numbers in a list -/
def PotAt (H : Hp) (a : Addr) (n : Nat) : Prop := ∃ p0 p1 p2 : Int, H a = some (.lst [.int p0, .int p1, .int p2]) ∧ (0 ≤ p0 ∧ 0 ≤ p1 ∧ p1 < 2305843009213693951) ∧ 0 ≤ p2 ∧ p2 ≤ (n : Int)
theorem PotAt.mono {H : Hp} {a : Addr} {m n : Nat} (h : PotAt H a m) (l : m ≤ n) : PotAt H a n := by
  obtain ⟨p0, p1, p2, e, b, c, d⟩ := h
  exact ⟨p0, p1, p2, e, b, c, by omega⟩
theorem PotAt.keep {H H' : Hp} {a : Addr} {n : Nat} (h : PotAt H a n) (k : ∀ o, H a = some o → H' a = some o) : PotAt H' a n := by
  obtain ⟨p0, p1, p2, e, b⟩ := h
  exact ⟨p0, p1, p2, k _ e, b⟩
theorem PotAt.new {H : Hp} {a p : Addr} {n : Nat} {o : HO} (h : PotAt H a n) (hp : H p = none) : PotAt (upd H p o) a n := h.keep fun u e => by rw [upd_ne (ne_of_none e hp)]; exact e
theorem PotAt.ne {H : Hp} {a p : Addr} {n : Nat} (h : PotAt H a n) (hp : H p = none) : p ≠ a := by
  obtain ⟨_, _, _, e, _⟩ := h
  exact (ne_of_none e hp).symm
/-- _law_pot -/
def spPot (K : PySem.W.Frag) : Sp := fun vs H Q _ => ∃ (s : Addr) (ns : List Int) (j : Nat), vs = [.ref s, .int (j : Int)] ∧ SqL K H s (ns.map V.int) ∧ j ≤ 1000 ∧ ∀ (p : Addr) (o : HO), H p = none → PotAt (upd H p o) p 0 → Q (.ref p) (upd H p o)
/-- _law_take -/
def spTake : Sp := fun vs H Q _ => ∃ (a : Addr) (u : Int) (n : Nat), vs = [.ref a, .int u] ∧ PotAt H a n ∧ n < 1000000 ∧ 0 < u ∧ u ≤ 1000000 ∧ ∀ (i : Int) (H' : Hp), 0 ≤ i → i < u → PotAt H' a (n + 1) → KeptBut a H H' → Q (.int i) H'
/-- _law_of -/
def spOf (K : PySem.W.Frag) : Sp := fun vs H Q _ => ∃ (a l : Addr) (xs : List V) (n : Nat), vs = [.ref a, .ref l] ∧ PotAt H a n ∧ n < 1000000 ∧ l ≠ a ∧ (SqL K H l xs ∨ SqT K H l xs) ∧ 0 < xs.length ∧ xs.length ≤ 1000 ∧
  ∀ (v : V) (H' : Hp), v ∈ xs → PotAt H' a (n + 1) → KeptBut a H H' → Q v H'
/-- _law_cells -/
def spCells (K : PySem.W.Frag) (most : Int) : Sp := fun vs H Q _ => ∃ (s : Addr) (ns : List Int), vs = [.ref s, .int most] ∧ SqL K H s (ns.map V.int) ∧ ns.length ≤ 1000 ∧ ∀ (p : Addr) (m : Nat), H p = none → m ≤ 1000 → Q (.ref p) (upd H p (.lst ((List.range m).map fun (i : Nat) => V.int (i : Int))))
/-- _law_right: from a pot it always says True -/
def spRight : Sp := fun vs H Q _ => ∃ a : Addr, vs = [.ref a] ∧ PotAt H a 0 ∧ ∀ H', KeptBut a H H' → Q (.bl true) H'
/-- law -/
def spLaw (K : PySem.W.Frag) : Sp := fun vs H Q _ => ∃ (a : Addr) (ns : List Int), vs = [.ref a] ∧ ScL K H a (ns.map V.int) ∧ ns.length ≤ 63 ∧ ∀ H', Q (.bl true) H'


theorem yes_if {σ : L2.St} {H : Hp} {A B : Hp → Prop} (h : A H) : tYes σ H fun b H' => if b = true then A H' else B H' := by
  show (if true = true then A H else B H)
  rw [if_pos rfl]
  exact h

/-! ## Numbers -/
def CPowW (i j : Int) : Prop := 0 ≤ j ∧ (Builtin.Int.intBits i : Int) * j ≤ 2 ^ 27
theorem op_powW {X : Cx} : OpR X (binaryOp .Pow) (rI CPowW fun i j => .int (i ^ j.toNat)) := opI fun _ _ _ _ _ _ _ hc q => pow_int hc.1 hc.2 q
theorem mod_lt {x m : Int} (h : 0 < m) : 0 ≤ x % m ∧ x % m < m := ⟨Int.emod_nonneg x (by omega), Int.emod_lt_of_pos x h⟩
theorem atI_of {α : Type} {xs : List α} {i : Int} {j : Nat} {v : α} (e : i = (j : Int)) (h : xs[j]? = some v) : atI xs i = some v := by
  subst e
  have hj : j < xs.length := (List.getElem?_eq_some_iff.mp h).1
  unfold atI ixN
  rw [if_pos (by omega), if_pos (by omega)]
  simpa using h
theorem atI_lt {α : Type} {xs : List α} {i : Int} (h0 : 0 ≤ i) (h : i < (xs.length : Int)) : ∃ v, atI xs i = some v ∧ v ∈ xs := by
  obtain ⟨j, e⟩ : ∃ j : Nat, i = (j : Int) := ⟨i.toNat, by omega⟩
  have hj : j < xs.length := by omega
  exact ⟨xs[j], atI_of e (List.getElem?_eq_getElem hj), List.getElem_mem hj⟩
theorem pow3_nn {x : Int} (h : 0 ≤ x) : 0 ≤ x ^ (3 : Int).toNat := Int.pow_nonneg h
theorem ediv_nn {x d : Int} (h : 0 ≤ x) (hd : 0 ≤ d) : 0 ≤ x / d := Int.ediv_nonneg h hd
theorem ite_b2i {c : Bool} : 0 ≤ (if c = true then (1 : Int) else 0) ∧ (if c = true then (1 : Int) else 0) ≤ 1 := by cases c <;> decide
theorem sq_bound {c n : Int} (hc : 0 ≤ c) (hc2 : c ≤ 200000) (h0 : 0 ≤ n) (h1 : n ≤ 1000001) : 0 ≤ c * n * n ∧ c * n * n ≤ 200001000000000000 := by
  have a : c * n ≤ 200000 * 1000001 := Int.mul_le_mul hc2 h1 h0 (by decide)
  have b : 0 ≤ c * n := Int.mul_nonneg hc h0
  have d : c * n * n ≤ 200000 * 1000001 * 1000001 := Int.mul_le_mul a h1 h0 (by decide)
  exact ⟨Int.mul_nonneg b h0, Int.le_trans d (by decide)⟩
end Lm

namespace Lm
open PySem PySem.Spec PyProof.Rows L2

/-! ## Small data: what it reads as, with bounds for repr -/
/-- v reads as some data of depth ≤ k whose text has at most B signs -/
def Sm (B k : Nat) (H : Hp) (v : V) : Prop := ∃ d, Dr H v d ∧ d.showable = true ∧ d.depth ≤ k ∧ d.shown.length ≤ B
theorem Sm.mono {B k B' k' : Nat} {H : Hp} {v : V} (h : Sm B k H v) (hB : B ≤ B') (hk : k ≤ k') : Sm B' k' H v := by
  obtain ⟨d, h1, h2, h3, h4⟩ := h
  exact ⟨d, h1, h2, Nat.le_trans h3 hk, Nat.le_trans h4 hB⟩
theorem Sm.same {B k : Nat} {H H' : Hp} {v : V} (h : Sm B k H v) (s : Same H H') : Sm B k H' v := by
  obtain ⟨d, h1, h2⟩ := h
  exact ⟨d, h1.same s, h2⟩
/-- the pot is no data: what is data stays so while the pot changes -/
theorem Same.new {H : Hp} {p : Addr} {o : HO} (h : H p = none) : Same H (upd H p o) := fun b u e => by rw [upd_ne (ne_of_none e h)]; exact e
theorem Sm.all {B k : Nat} {H : Hp} : ∀ {vs : List V}, (∀ v ∈ vs, Sm B k H v) → ∃ ds, DrAll H vs ds ∧ PyData.showableAll ds = true ∧ PyData.depthAll ds ≤ k ∧ ((PyData.shownAll ds).map (·.length)).sum ≤ B * vs.length ∧ (PyData.shownAll ds).length = vs.length
  | [], _ => ⟨[], .nil, rfl, Nat.zero_le _, Nat.zero_le _, rfl⟩
  | v :: vs, h => by
    obtain ⟨d, h1, h2, h3, h4⟩ := h v List.mem_cons_self
    obtain ⟨ds, i1, i2, i3, i4, i5⟩ := Sm.all (vs := vs) fun u hu => h u (List.mem_cons_of_mem _ hu)
    refine ⟨d :: ds, .cons h1 i1, ?_, ?_, ?_, ?_⟩
    · simp only [PyData.showableAll, h2, i2, Bool.and_self]
    · simp only [PyData.depthAll]
      omega
    · simp only [PyData.shownAll, List.map_cons, List.sum_cons, List.length_cons, Nat.mul_succ]
      omega
    · simp only [PyData.shownAll, List.length_cons, i5]
theorem Sm.tup {B k : Nat} {H : Hp} {a : Addr} {vs : List V} (e : H a = some (.tup vs)) (h : ∀ v ∈ vs, Sm B k H v) : Sm ((B + 2) * vs.length + 3) (k + 1) H (.ref a) := by
  obtain ⟨ds, i1, i2, i3, i4, i5⟩ := Sm.all h
  refine ⟨.tuple ds, .tup e i1, by simpa only [PyData.showable] using i2, by simp only [PyData.depth]; omega, ?_⟩
  have z := tupleText_len_le (PyData.shownAll ds)
  simp only [PyData.shown]
  rw [i5] at z
  rw [Nat.add_mul]
  omega
theorem Sm.lst {B k : Nat} {H : Hp} {a : Addr} {vs : List V} (e : H a = some (.lst vs)) (h : ∀ v ∈ vs, Sm B k H v) : Sm ((B + 2) * vs.length + 3) (k + 1) H (.ref a) := by
  obtain ⟨ds, i1, i2, i3, i4, i5⟩ := Sm.all h
  refine ⟨.list ds, .lst e i1, by simpa only [PyData.showable] using i2, by simp only [PyData.depth]; omega, ?_⟩
  have z := listText_len_le (PyData.shownAll ds)
  simp only [PyData.shown]
  rw [i5] at z
  rw [Nat.add_mul]
  omega

/-- what is tracked in H' and wasn't in H -/
def fresh (H H' : Hp) : Hp := fun b => if (H b).isSome then none else H' b
theorem fresh_sub {H H' : Hp} : Same (fresh H H') H' := fun b o e => by
  unfold fresh at e
  split at e
  · cases e
  · exact e
theorem fresh_on {H H1 H2 : Hp} (s : Same H1 H2) : Same (fresh H H1) (fresh H H2) := fun b o e => by
  unfold fresh at e ⊢
  split at e
  · cases e
  · rename_i h
    rw [if_neg h]
    exact s b o e
theorem fresh_in {H H1 H2 : Hp} (s : Same H H1) : Same (fresh H1 H2) (fresh H H2) := fun b o e => by
  unfold fresh at e ⊢
  split at e
  · cases e
  · rename_i h
    have n : ¬ (H b).isSome = true := fun z => h (by
      obtain ⟨u, hu⟩ := Option.isSome_iff_exists.mp z
      rw [s b u hu]
      rfl)
    rw [if_neg n]
    exact e
theorem fresh_at {H H1 : Hp} {p : Addr} {o : HO} (s : Same H H1) (hp : H1 p = none) : fresh H (upd H1 p o) p = some o := by
  have n : H p = none := s.free hp
  unfold fresh
  rw [n]
  exact upd_same
/-- a change of what was there ahead leaves what is fresh -/
theorem fresh_but {H H1 H2 : Hp} {a : Addr} {u : HO} (ha : H a = some u) (k : KeptBut a H1 H2) : Same (fresh H H1) (fresh H H2) := fun b o e => by
  unfold fresh at e ⊢
  split at e
  · cases e
  · rename_i h
    rw [if_neg h]
    exact k b o e fun z => h (by rw [z, ha]; rfl)

/-! ## Expressions that give small data, made of new objects, and keep what is tracked -/
def DatE (B k : Nat) (te : TE) : Prop := ∀ (σ : L2.St) (H : Hp) (Q : VK), (∀ v H', Same H H' → Sm B k (fresh H H') v → Q v H') → te σ H Q
def DatA (B k n : Nat) (ta : TA) : Prop := ∀ (σ : L2.St) (H : Hp) (Q : List V → Hp → Prop), (∀ vs H', Same H H' → (∀ v ∈ vs, Sm B k (fresh H H') v) → vs.length = n → Q vs H') → ta σ H Q
theorem DatE.mono {B k B' k' : Nat} {te : TE} (h : DatE B k te) (hB : B ≤ B') (hk : k ≤ k') : DatE B' k' te := fun σ H Q q => h σ H Q fun v H' s m => q v H' s (m.mono hB hk)
theorem dat_nil {B k : Nat} : DatA B k 0 tNil := fun σ H Q q => q [] H (Same.refl H) (fun _ h => nomatch h) rfl
theorem dat_cons {B k n : Nat} {te : TE} {ta : TA} (h : DatE B k te) (t : DatA B k n ta) : DatA B k (n + 1) (tCons te ta) := fun σ H Q q =>
  h σ H _ fun v H1 s1 m1 => t σ H1 _ fun vs H2 s2 m2 l => q (v :: vs) H2 (s1.trans s2) (fun u hu => by
    rcases List.mem_cons.mp hu with z | z
    · rw [z]
      exact m1.same (fresh_on s2)
    · exact (m2 u z).same (fresh_in s1)) (by rw [List.length_cons, l])
theorem dat_tup {B k n : Nat} {ta : TA} (h : DatA B k n ta) (hn : n ≤ 1000) : DatE ((B + 2) * n + 3) (k + 1) (tTup ta) := fun σ H Q q =>
  h σ H _ fun vs H1 s1 m1 l => ⟨Nat.le_of_lt (small1000 (by omega)), fun p hp => by
    have sn : Same H1 (upd H1 p (.tup vs)) := Same.new hp
    have m := Sm.tup (fresh_at (o := .tup vs) s1 hp) fun v hv => (m1 v hv).same (fresh_on sn)
    rw [l] at m
    exact q _ _ (s1.trans sn) m⟩
theorem dat_lst {B k n : Nat} {ta : TA} (h : DatA B k n ta) (hn : n ≤ 1000) : DatE ((B + 2) * n + 3) (k + 1) (tLst ta) := fun σ H Q q =>
  h σ H _ fun vs H1 s1 m1 l => ⟨Nat.le_of_lt (small1000 (by omega)), fun p hp => by
    have sn : Same H1 (upd H1 p (.lst vs)) := Same.new hp
    have m := Sm.lst (fresh_at (o := .lst vs) s1 hp) fun v hv => (m1 v hv).same (fresh_on sn)
    rw [l] at m
    exact q _ _ (s1.trans sn) m⟩
theorem sm_flat {H : Hp} {v : V} {d : PyData} (h : Dr H v d) (B k : Nat) (hs : d.showable = true) (hk : d.depth ≤ k) (hB : d.shown.length ≤ B) : Sm B k H v := ⟨d, h, hs, hk, hB⟩
theorem dat_non {B k : Nat} (hB : 4 ≤ B) : DatE B k (tC .non) := fun σ H Q q => q _ H (Same.refl H) (sm_flat .non B k rfl (Nat.zero_le _) (Nat.le_trans (by decide +kernel : (PyData.none).shown.length ≤ 4) hB))
theorem dat_bl {B k : Nat} (b : Bool) (hB : 5 ≤ B) : DatE B k (tC (.bl b)) := fun σ H Q q => q _ H (Same.refl H) (sm_flat (.bl b) B k rfl (Nat.zero_le _) (Nat.le_trans (by cases b <;> decide +kernel : (PyData.bool b).shown.length ≤ 5) hB))
theorem sm_int {H : Hp} {B k : Nat} (i : Int) (hs : (PyData.int i).showable = true) (hB : (PyData.int i).shown.length ≤ B) : Sm B k H (.int i) := sm_flat (.int i) B k hs (Nat.zero_le _) hB
theorem dat_int {B k : Nat} (i : Int) (hs : (PyData.int i).showable = true) (hB : (PyData.int i).shown.length ≤ B) : DatE B k (tC (.int i)) := fun σ H Q q => q _ H (Same.refl H) (sm_int i hs hB)
theorem dat_str {B k : Nat} (x : Str) (hB : (PyData.str x).shown.length ≤ B) : DatE B k (tC (.str x)) := fun σ H Q q => q _ H (Same.refl H) (sm_flat (.str x) B k rfl (Nat.zero_le _) hB)
theorem dat_neg {B k : Nat} (i : Int) (hs : (PyData.int (-i)).showable = true) (hB : (PyData.int (-i)).shown.length ≤ B) : DatE B k (tUn (rU fun i => .int (-i)) (tC (.int i))) := fun σ H Q q => ⟨_, rfl, q _ H (Same.refl H) (sm_int _ hs hB)⟩
theorem dat_pow {B k : Nat} (i j : Int) (c : CPow i j) (hs : (PyData.int (i ^ j.toNat)).showable = true) (hB : (PyData.int (i ^ j.toNat)).shown.length ≤ B) : DatE B k (tOp (rI CPow fun i j => .int (i ^ j.toNat)) (tC (.int i)) (tC (.int j))) :=
  fun σ H Q q => ⟨_, _, rfl, rfl, c, q _ H (Same.refl H) (sm_int _ hs hB)⟩
theorem dat_dnew {B k : Nat} (hB : 2 ≤ B) (hk : 1 ≤ k) : DatE B k tDNewK := fun σ H Q q p hp => by
  refine q _ _ (Same.new hp) ⟨.dict [], ?_, by decide +kernel, Nat.le_trans (by decide +kernel) hk, Nat.le_trans (by decide +kernel : (PyData.dict []).shown.length ≤ 2) hB⟩
  exact Dr.dic (kvs := []) (ds := []) (fresh_at (Same.refl H) hp) .nil
/-- {x: i} -/
theorem dat_disp1 {B k : Nat} (x : Str) (i : Int) (hs : (PyData.dict [(.str x, .int i)]).showable = true) (hB : (PyData.dict [(.str x, .int i)]).shown.length ≤ B) (hk : (PyData.dict [(.str x, .int i)]).depth ≤ k) : DatE B k (tDisp [(tC (.str x), tC (.int i))]) := fun σ H Q q p hp => by
  refine ⟨upd_same, [(Sum.inr x, .int i)], rfl, (by decide : 1 ≤ 15), ?_⟩
  have e : mergeK [] [((Sum.inr x : Key), V.int i)] = [((Sum.inr x : Key), V.int i)] := by
    unfold mergeK putK
    simp
  rw [e]
  have f : fresh H (upd (upd H p (.dK [])) p (.dK [((Sum.inr x : Key), V.int i)])) p = some (.dK [((Sum.inr x : Key), V.int i)]) := by
    unfold fresh
    rw [hp]
    exact upd_same
  refine q _ _ (fun b o hb => ?_) ⟨_, Dr.dic (kvs := [((Sum.inr x : Key), V.int i)]) (ds := [.int i]) f (.cons (.int i) .nil), hs, hk, hB⟩
  have nb : b ≠ p := ne_of_none hb hp
  rw [upd_ne nb, upd_ne nb]
  exact hb
/-- x = [data ..] -/
theorem asg_lst {B k n i : Nat} {ta : TA} {D : Ends} {σ : L2.St} {H : Hp} (h : DatA B k n ta) (hn : n ≤ 1000) (q : ∀ vs p H', Same H H' → H p = none → H' p = some (.lst vs) → (∀ v ∈ vs, Sm B k (fresh H H') v) → vs.length = n → D.nx (σ.set i (some (.ref p))) H') :
    tAsg (tLst ta) (gName i) D σ H :=
  h σ H _ fun vs H1 s1 m1 l => ⟨Nat.le_of_lt (small1000 (by omega)), fun p hp => by
    have sn : Same H1 (upd H1 p (.lst vs)) := Same.new hp
    exact q vs p _ (s1.trans sn) (s1.free hp) upd_same (fun v hv => (m1 v hv).same (fresh_on sn)) l⟩
/-- x = x + [data ..] -/
theorem asg_cat {B k n i : Nat} {ta : TA} {D : Ends} {σ : L2.St} {H0 H : Hp} {p : Addr} {us : List V} (h : DatA B k n ta) (hn : n ≤ 1000) (hu : us.length ≤ 1000) (hv : σ[i]? = some (some (.ref p))) (hp : H p = some (.lst us)) (s0 : Same H0 H) (m0 : ∀ v ∈ us, Sm B k (fresh H0 H) v)
    (q : ∀ vs l H', Same H H' → H l = none → H' l = some (.lst vs) → (∀ v ∈ vs, Sm B k (fresh H0 H') v) → vs.length = us.length + n → D.nx (σ.set i (some (.ref l))) H') :
    tAsg (tOp rCat (tVar i) (tLst ta)) (gName i) D σ H :=
  ⟨_, hv, h σ H _ fun vs H1 s1 m1 l => ⟨Nat.le_of_lt (small1000 (by omega)), fun p2 hp2 => by
    have s2 : Same H1 (upd H1 p2 (.lst vs)) := Same.new hp2
    refine ⟨p, p2, us, vs, rfl, rfl, s2 _ _ (s1 _ _ hp), upd_same, ?_, fun l3 hl3 => ?_⟩
    · rw [l]
      exact Nat.le_of_lt (Nat.lt_of_le_of_lt (Nat.add_le_add hu hn) (by decide))
    have s3 : Same (upd H1 p2 (.lst vs)) (upd (upd H1 p2 (.lst vs)) l3 (.lst (us ++ vs))) := Same.new hl3
    refine q (us ++ vs) l3 _ ((s1.trans s2).trans s3) ((s1.trans s2).free hl3) upd_same (fun v hv => ?_) (by rw [List.length_append, l])
    rcases List.mem_append.mp hv with z | z
    · exact (m0 v z).same (fresh_on ((s1.trans s2).trans s3))
    · exact (m1 v z).same (fun b o e => fresh_in s0 b o (fresh_on (s2.trans s3) b o e))⟩⟩
end Lm

namespace Lm
open PySem PySem.Spec PyProof.Rows L2
open C8 (Cal Mak Met pe_c pe_mk pe_mt pe_mt0 pss_cut tCut)

/-! ## The package's errors: each an own class whose __init__ (MirrorError's) keeps its argument as value -/
/-- MirrorError.__init__ -/
def spErr (K : PySem.W.Frag) : Sp := fun vs H Q _ => ∃ (a C : Addr) (v : V), vs = [.ref a, v] ∧ OexC K C ∧ PySem.W.findIn K (.ref C) "value" = some none ∧ H a = some (exo a C none) ∧
  ∀ dx, H dx = none → dx ≠ a → Q .non (upd (upd H dx (exd dx [("value", v)])) a (exo a C (some dx)))
/-- what the written part says of one of them -/
structure ErrC (K : PySem.W.Frag) (C fI : Addr) : Prop where
  T : OexC K C
  iC : PySem.W.findIn K (.ref C) "__init__" = some (some (.ref fI))
  nv : PySem.W.findIn K (.ref C) "value" = some none
  xf : XfC K C
  ex : ExcC K C
/-- an error of the class named x, made with v, stands at a -/
def ErrAt (K : PySem.W.Frag) (H : Hp) (a : Addr) (x : Str) (v : V) : Prop := ∃ d, H a = some (exo a (He.ga K x) (some d)) ∧ H d = some (exd d [("value", v)])
theorem ErrAt.same {K : PySem.W.Frag} {H H' : Hp} {a : Addr} {x : Str} {v : V} (h : ErrAt K H a x v) (s : Same H H') : ErrAt K H' a x v := by
  obtain ⟨d, h1, h2⟩ := h
  exact ⟨d, s _ _ h1, s _ _ h2⟩
def subNames : List Str := ["BadRatio", "BadText", "BadBook", "NoName", "BadLine", "Used", "Few", "BadRows", "BadScript", "BadDot", "Long", "BadNumber", "OtherBook", "BadClaim", "BadNames", "BadLooks", "Nothing", "Loose", "Needed", "NotSure", "BadOffers", "BadWishes", "Full", "NoDot", "NothingToUndo", "NothingToRedo", "NoTrial", "BadJournal", "BadSay"]
def errNames : List Str := "MirrorError" :: subNames
/-- all that a law needs to know of the errors -/
structure Errs (P : Program) (w : World) (K : PySem.W.Frag) (mg : Str → Option Value) (base : Heap) : Prop where
  m : ∀ {x : Str}, x ∈ errNames → mg x = some (.ref (He.ga K x))
  ini : ∃ (fI : Addr) (fd : FuncData), (∀ x ∈ errNames, ErrC K (He.ga K x) fI) ∧ PySem.W.typeIn K (.ref fI) = some (.type "function") ∧ FnOk P w K mg base CX0 1 fI fd ["self", "value"] (spErr K) ∧ Binds K fd ["self", "value"] []
  kit : ∀ x ∈ errNames, ∀ y ∈ subNames, PySem.W.kitOne K (.ref (He.ga K x)) (.ref (He.ga K y)) = some (decide (x = y))
  kitM : ∀ x ∈ errNames, PySem.W.kitOne K (.ref (He.ga K x)) (.ref (He.ga K "MirrorError")) = some true
  kitV : ∀ x ∈ errNames, PySem.W.kitOne K (.ref (He.ga K x)) (.type "ValueError") = some true
theorem Errs.err {P : Program} {w : World} {K : PySem.W.Frag} {mg : Str → Option Value} {base : Heap} (Z : Errs P w K mg base) {x : Str} (h : x ∈ errNames) : ∃ fI, ErrC K (He.ga K x) fI := by
  obtain ⟨fI, _, h1, _⟩ := Z.ini
  exact ⟨fI, h1 x h⟩
/-- Err(e) -/
def tErr (K : PySem.W.Frag) (x : Str) (ta : TA) : TE := tMkV (He.ga K x) (spErr K) ta
theorem pe_err {X : Cx} {j : Nat} {x : Str} {e : Expr} {p pos : Pos} {ta : TA} (Z : Errs X.prog X.w X.K X.mg X.base) (hx : x ∈ errNames) (hr : Room j X.A) (hj : 2 ≤ j) (hg : Gl X x) (ha : PA X [e] ta)
    (hdb : (x == ("__debug__" : Str)) = false := by decide) (he : starEach [e] X.env = (false, eval e X.env) :: starEach [] X.env := by rfl) (hpl : (backTo pos (starEach [] X.env)).any (·.1) = false := by rfl) :
    PE X (.Call (.Name x p) [e] [] pos) (tErr X.K x ta) := by
  obtain ⟨fI, fd, h1, tI, F, b⟩ := Z.ini
  have C := h1 x hx
  exact pe_oexV C.T C.iC tI F (hr.mono hj) b pass0 hg (Z.m hx) ha hdb he hpl
/-- Err(v), v what stands in a slot -/
theorem err_var {P : Program} {w : World} {K : PySem.W.Frag} {mg : Str → Option Value} {base : Heap} {x : Str} {i : Nat} {v : V} {σ : L2.St} {H : Hp} {Q : VK} (Z : Errs P w K mg base) (hx : x ∈ errNames) (hv : σ[i]? = some (some v))
    (h : ∀ a H2, Same H H2 → H a = none → ErrAt K H2 a x v → Q (.ref a) H2) : tErr K x (tCons (tVar i) tNil) σ H Q := by
  obtain ⟨fI, C⟩ := Z.err hx
  refine ⟨v, hv, (by decide : 1 ≤ 1000), fun a ha => ⟨a, _, v, rfl, C.T, C.nv, upd_same, fun dx hdx hne => ⟨rfl, ?_⟩⟩⟩
  have hd : H dx = none := by
    rw [upd_ne hne] at hdx
    exact hdx
  refine h a _ (fun b o hb => ?_) ha ⟨dx, upd_same, by rw [upd_ne hne]; exact upd_same⟩
  have n1 : b ≠ a := ne_of_none hb ha
  rw [upd_ne n1, upd_ne (ne_of_none hb hd), upd_ne n1]
  exact hb
/-- (x, Err(v)), v what stands in a slot -/
theorem pair_made {P : Program} {w : World} {K : PySem.W.Frag} {mg : Str → Option Value} {base : Heap} {x : Str} {i : Nat} {v : V} {σ : L2.St} {H : Hp} {Q : VK} (Z : Errs P w K mg base) (hx : x ∈ errNames) (hv : σ[i]? = some (some v))
    (h : ∀ t a H', Same H H' → H t = none → H' t = some (.tup [.str x, .ref a]) → ErrAt K H' a x v → Q (.ref t) H') : tTup (tCons (tC (.str x)) (tCons (tErr K x (tCons (tVar i) tNil)) tNil)) σ H Q := by
  show tErr K x (tCons (tVar i) tNil) σ H (fun y H2 => [V.str x, y].length ≤ sizeLine ∧ ∀ p, H2 p = none → Q (.ref p) (upd H2 p (.tup [.str x, y])))
  refine err_var Z hx hv fun a H2 s2 ha e2 => ⟨(by show 2 ≤ sizeLine; decide), fun t ht => ?_⟩
  exact h t a _ (s2.trans (Same.new ht)) (s2.free ht) upd_same (e2.same (Same.new ht))
/-- isinstance(made, Err) -/
theorem isi_made {P : Program} {w : World} {K : PySem.W.Frag} {mg : Str → Option Value} {base : Heap} {x y : Str} {e : Addr} {v : V} {H : Hp} {Q : VK} (Z : Errs P w K mg base) (hx : x ∈ errNames) (hy : y ∈ subNames) (h : ErrAt K H e x v)
    (q : Q (.bl (decide (x = y))) H) : rIsE K [.ref e, .ref (He.ga K y)] H Q := by
  obtain ⟨d, h1, h2⟩ := h
  obtain ⟨fI, C⟩ := Z.err hx
  exact ⟨_, _, _, _, _, rfl, .own _, .inr ⟨e, _, d, rfl, rfl, C.ex, h1, _, h2⟩, Z.kit x hx y hy, q⟩
theorem isi_M {P : Program} {w : World} {K : PySem.W.Frag} {mg : Str → Option Value} {base : Heap} {x : Str} {e : Addr} {v : V} {H : Hp} {Q : VK} (Z : Errs P w K mg base) (hx : x ∈ errNames) (h : ErrAt K H e x v)
    (q : Q (.bl true) H) : rIsE K [.ref e, .ref (He.ga K "MirrorError")] H Q := by
  obtain ⟨d, h1, h2⟩ := h
  obtain ⟨fI, C⟩ := Z.err hx
  exact ⟨_, _, _, _, _, rfl, .own _, .inr ⟨e, _, d, rfl, rfl, C.ex, h1, _, h2⟩, Z.kitM x hx, q⟩
theorem isi_V {P : Program} {w : World} {K : PySem.W.Frag} {mg : Str → Option Value} {base : Heap} {x : Str} {e : Addr} {v : V} {H : Hp} {Q : VK} (Z : Errs P w K mg base) (hx : x ∈ errNames) (h : ErrAt K H e x v)
    (q : Q (.bl true) H) : rIsE K [.ref e, .ty "ValueError"] H Q := by
  obtain ⟨d, h1, h2⟩ := h
  obtain ⟨fI, C⟩ := Z.err hx
  exact ⟨_, _, _, _, _, rfl, .ty _, .inr ⟨e, _, d, rfl, rfl, C.ex, h1, _, h2⟩, Z.kitV x hx, q⟩
end Lm

namespace Lm
open PySem PySem.Spec PyProof.Rows L2
open C8 (Cal Mak Met pe_c pe_mk pe_mt pe_mt0 pss_cut tCut)

/-! ## Lists of named errors, lists of named answers -/
/-- at l: pairs (name, error of that name made with v) -/
def EL (K : PySem.W.Frag) (H : Hp) (l : Addr) (v : V) (ts : List Addr) : Prop := H l = some (.lst (ts.map V.ref)) ∧ ∀ t ∈ ts, ∃ x e, x ∈ subNames ∧ H t = some (.tup [.str x, .ref e]) ∧ ErrAt K H e x v
theorem exo_lst {e C : Addr} {d : Option Addr} {xs : List V} : exo e C d ≠ .lst xs := fun z => by
  have z' : HO.ext _ = HO.lst xs := z
  cases z'
theorem exd_lst {e : Addr} {fs : List (Str × V)} {xs : List V} : exd e fs ≠ .lst xs := fun z => by
  have z' : HO.ext _ = HO.lst xs := z
  cases z'
/-- an error isn't touched by a list's change -/
theorem ErrAt.upd {K : PySem.W.Frag} {H : Hp} {a l : Addr} {x : Str} {v : V} {xs : List V} {o : HO} (h : ErrAt K H a x v) (hl : H l = some (.lst xs)) : ErrAt K (upd H l o) a x v := by
  obtain ⟨d, h1, h2⟩ := h
  exact ⟨d, by rw [upd_ne (ne_of h1 hl exo_lst)]; exact h1, by rw [upd_ne (ne_of h2 hl exd_lst)]; exact h2⟩
theorem el_put {K : PySem.W.Frag} {H H' : Hp} {l : Addr} {v : V} {ts us : List Addr} (h : EL K H l v ts) (s : Same H H') (hu : ∀ t ∈ us, ∃ x e, x ∈ subNames ∧ H' t = some (.tup [.str x, .ref e]) ∧ ErrAt K H' e x v) : EL K (upd H' l (.lst ((ts ++ us).map V.ref))) l v (ts ++ us) := by
  have hl := s _ _ h.1
  refine ⟨upd_same, fun t ht => ?_⟩
  have key : ∃ x e, x ∈ subNames ∧ H' t = some (.tup [.str x, .ref e]) ∧ ErrAt K H' e x v := by
    rcases List.mem_append.mp ht with z | z
    · obtain ⟨x, e, hx, h1, h2⟩ := h.2 t z
      exact ⟨x, e, hx, s _ _ h1, h2.same s⟩
    · exact hu t z
  obtain ⟨x, e, hx, h1, h2⟩ := key
  exact ⟨x, e, hx, by rw [upd_ne (ne_of h1 hl (by intro z; cases z))]; exact h1, h2.upd hl⟩
section
variable {P : Program} {w : World} {K : PySem.W.Frag} {mg : Str → Option Value} {base : Heap}
abbrev tPairE (K : PySem.W.Frag) (x : Str) : TE := tTup (tCons (tC (.str x)) (tCons (tErr K x (tCons (tVar 0) tNil)) tNil))
theorem lst2E {x y : Str} {v : V} {σ : L2.St} {H : Hp} {Q : VK} (Z : Errs P w K mg base) (hx : x ∈ errNames) (hy : y ∈ errNames) (hv : σ[0]? = some (some v))
    (q : ∀ p t u a b H', Same H H' → H p = none → H' p = some (.lst [.ref t, .ref u]) → H' t = some (.tup [.str x, .ref a]) → H' u = some (.tup [.str y, .ref b]) → ErrAt K H' a x v → ErrAt K H' b y v → Q (.ref p) H') :
    tLst (tCons (tPairE K x) (tCons (tPairE K y) tNil)) σ H Q := by
  show tPairE K x σ H (fun x1 H1 => tPairE K y σ H1 (fun y1 H2 => [x1, y1].length ≤ sizeLine ∧ ∀ p, H2 p = none → Q (.ref p) (upd H2 p (.lst [x1, y1]))))
  refine pair_made Z hx hv fun t a H1 s1 f1 t1 e1 => ?_
  refine pair_made Z hy hv fun u b H2 s2 f2 t2 e2 => ?_
  refine ⟨(by show 2 ≤ sizeLine; decide), fun p hp => ?_⟩
  have s3 : Same H2 (upd H2 p (.lst [.ref t, .ref u])) := Same.new hp
  exact q p t u a b _ ((s1.trans s2).trans s3) ((s1.trans s2).free hp) upd_same (s3 _ _ (s2 _ _ t1)) (s3 _ _ t2) (e1.same (s2.trans s3)) (e2.same s3)
theorem lst1E {x : Str} {v : V} {σ : L2.St} {H : Hp} {Q : VK} (Z : Errs P w K mg base) (hx : x ∈ errNames) (hv : σ[0]? = some (some v))
    (q : ∀ p t a H', Same H H' → H p = none → H' p = some (.lst [.ref t]) → H' t = some (.tup [.str x, .ref a]) → ErrAt K H' a x v → Q (.ref p) H') :
    tLst (tCons (tPairE K x) tNil) σ H Q := by
  show tPairE K x σ H (fun x1 H1 => [x1].length ≤ sizeLine ∧ ∀ p, H1 p = none → Q (.ref p) (upd H1 p (.lst [x1])))
  refine pair_made Z hx hv fun t a H1 s1 f1 t1 e1 => ?_
  refine ⟨(by show 1 ≤ sizeLine; decide), fun p hp => ?_⟩
  have s3 : Same H1 (upd H1 p (.lst [.ref t])) := Same.new hp
  exact q p t a _ (s1.trans s3) (s1.free hp) upd_same (s3 _ _ t1) (e1.same s3)
/-- what a state of _law_errors says: the value, the list found so far; what was tracked at the entry is kept -/
def ErrSt (K : PySem.W.Frag) (v : V) (H0 : Hp) (σ : L2.St) (H : Hp) (n : Nat) : Prop := ∃ (l : Addr) (ts : List Addr), σ = [some v, some (.ref l)] ∧ EL K H l v ts ∧ Same H0 H ∧ H0 l = none ∧ ts.length = n
/-- found.extend([(x, X(value)), (y, Y(value))]) -/
theorem err_ext2 {x y : Str} {v : V} {H0 : Hp} {σ : L2.St} {H : Hp} {D : Ends} {n : Nat} (Z : Errs P w K mg base) (hx : x ∈ subNames) (hy : y ∈ subNames) (hn : n ≤ 100) (h : ErrSt K v H0 σ H n) (q : ∀ H', ErrSt K v H0 σ H' (n + 2) → D.nx σ H') :
    tDrop (tBM K "list" rExtend (tVar 1) (tCons (tLst (tCons (tPairE K x) (tCons (tPairE K y) tNil))) tNil)) D σ H := by
  obtain ⟨l, ts, rfl, hE, s0, n0, hl⟩ := h
  refine ⟨_, rfl, .inl ⟨rfl, _, SqL.of hE.1⟩, ?_⟩
  show tLst (tCons (tPairE K x) (tCons (tPairE K y) tNil)) _ H (fun z H2 => rExtend (.ref l) [z] H2 fun _ H3 => D.nx [some v, some (.ref l)] H3)
  refine lst2E Z (List.mem_cons_of_mem _ hx) (List.mem_cons_of_mem _ hy) rfl fun p t u a b H' s hp ep et eu ea eb => ?_
  refine ⟨l, p, _, _, rfl, rfl, s _ _ hE.1, ep, ?_, ?_⟩
  · rw [List.length_map, hl]
    exact Nat.le_of_lt (small1000 (by show n + 2 ≤ 1000; omega))
  have em : ts.map V.ref ++ [V.ref t, V.ref u] = (ts ++ [t, u]).map V.ref := by simp
  rw [em]
  refine q _ ⟨l, ts ++ [t, u], rfl, el_put hE s fun z hz => ?_, fun b' o hb => ?_, n0, by rw [List.length_append, hl]; rfl⟩
  · rcases List.mem_cons.mp hz with rfl | hz
    · exact ⟨x, a, hx, et, ea⟩
    · rcases List.mem_cons.mp hz with rfl | hz
      · exact ⟨y, b, hy, eu, eb⟩
      · cases hz
  · rw [upd_ne (ne_of_none hb n0)]
    exact s _ _ (s0 _ _ hb)
/-- found.extend([(x, X(value))]) -/
theorem err_ext1 {x : Str} {v : V} {H0 : Hp} {σ : L2.St} {H : Hp} {D : Ends} {n : Nat} (Z : Errs P w K mg base) (hx : x ∈ subNames) (hn : n ≤ 100) (h : ErrSt K v H0 σ H n) (q : ∀ H', ErrSt K v H0 σ H' (n + 1) → D.nx σ H') :
    tDrop (tBM K "list" rExtend (tVar 1) (tCons (tLst (tCons (tPairE K x) tNil)) tNil)) D σ H := by
  obtain ⟨l, ts, rfl, hE, s0, n0, hl⟩ := h
  refine ⟨_, rfl, .inl ⟨rfl, _, SqL.of hE.1⟩, ?_⟩
  show tLst (tCons (tPairE K x) tNil) _ H (fun z H2 => rExtend (.ref l) [z] H2 fun _ H3 => D.nx [some v, some (.ref l)] H3)
  refine lst1E Z (List.mem_cons_of_mem _ hx) rfl fun p t a H' s hp ep et ea => ?_
  refine ⟨l, p, _, _, rfl, rfl, s _ _ hE.1, ep, ?_, ?_⟩
  · rw [List.length_map, hl]
    exact Nat.le_of_lt (small1000 (by show n + 1 ≤ 1000; omega))
  have em : ts.map V.ref ++ [V.ref t] = (ts ++ [t]).map V.ref := by simp
  rw [em]
  refine q _ ⟨l, ts ++ [t], rfl, el_put hE s fun z hz => ?_, fun b' o hb => ?_, n0, by rw [List.length_append, hl]; rfl⟩
  · rcases List.mem_cons.mp hz with rfl | hz
    · exact ⟨x, a, hx, et, ea⟩
    · cases hz
  · rw [upd_ne (ne_of_none hb n0)]
    exact s _ _ (s0 _ _ hb)
/-- found = [(x, X(value)), (y, Y(value))] -/
theorem err_first {x y : Str} {v : V} {H : Hp} {D : Ends} (Z : Errs P w K mg base) (hx : x ∈ subNames) (hy : y ∈ subNames) (q : ∀ σ H', ErrSt K v H σ H' 2 → D.nx σ H') :
    tAsg (tLst (tCons (tPairE K x) (tCons (tPairE K y) tNil))) (gName 1) D [some v, none] H := by
  show tLst (tCons (tPairE K x) (tCons (tPairE K y) tNil)) [some v, none] H (fun z H1 => D.nx ([some v, none].set 1 (some z)) H1)
  refine lst2E Z (List.mem_cons_of_mem _ hx) (List.mem_cons_of_mem _ hy) rfl fun p t u a b H' s hp ep et eu ea eb => ?_
  refine q _ _ ⟨p, [t, u], rfl, ⟨ep, fun z hz => ?_⟩, s, hp, rfl⟩
  rcases List.mem_cons.mp hz with rfl | hz
  · exact ⟨x, a, hx, et, ea⟩
  · rcases List.mem_cons.mp hz with rfl | hz
    · exact ⟨y, b, hy, eu, eb⟩
    · cases hz
/-- _law_errors -/
def spErrors (K : PySem.W.Frag) : Sp := fun vs H Q _ => ∃ v, vs = [v] ∧ ∀ (l : Addr) (ts : List Addr) (H' : Hp), Same H H' → EL K H' l v ts → ts.length = 29 → Q (.ref l) H'

/-! ### the names of the classes that an error is of -/
/-- at l: pairs (name, is it of that name) for an error of the name X -/
def KL (H : Hp) (l : Addr) (X : Str) (ts : List (Addr × Str)) : Prop := H l = some (.lst (ts.map fun p => V.ref p.1)) ∧ ∀ p ∈ ts, H p.1 = some (.tup [.str p.2, .bl (decide (X = p.2))])
abbrev tPairK (K : PySem.W.Frag) (y : Str) : TE := tTup (tCons (tC (.str y)) (tCons (tCB (rIsE K) (tCons (tVar 0) (tCons (tC (.ref (He.ga K y))) tNil))) tNil))
theorem pairk {X y : Str} {e : Addr} {v : V} {σ : L2.St} {H : Hp} {Q : VK} (Z : Errs P w K mg base) (hX : X ∈ errNames) (hy : y ∈ subNames) (hv : σ[0]? = some (some (.ref e))) (hE : ErrAt K H e X v)
    (h : ∀ t, H t = none → Q (.ref t) (upd H t (.tup [.str y, .bl (decide (X = y))]))) : tPairK K y σ H Q :=
  ⟨_, hv, (show rIsE K [.ref e, .ref (He.ga K y)] H (fun b H' => [V.str y, b].length ≤ sizeLine ∧ ∀ p, H' p = none → Q (.ref p) (upd H' p (.tup [.str y, b]))) from isi_made Z hX hy hE ⟨(by show 2 ≤ sizeLine; decide), fun t ht => h t ht⟩)⟩
theorem lst2K {X x y : Str} {e : Addr} {v : V} {σ : L2.St} {H : Hp} {Q : VK} (Z : Errs P w K mg base) (hX : X ∈ errNames) (hx : x ∈ subNames) (hy : y ∈ subNames) (hv : σ[0]? = some (some (.ref e))) (hE : ErrAt K H e X v)
    (q : ∀ p t u H', Same H H' → H p = none → H' p = some (.lst [.ref t, .ref u]) → H' t = some (.tup [.str x, .bl (decide (X = x))]) → H' u = some (.tup [.str y, .bl (decide (X = y))]) → Q (.ref p) H') :
    tLst (tCons (tPairK K x) (tCons (tPairK K y) tNil)) σ H Q := by
  show tPairK K x σ H (fun x1 H1 => tPairK K y σ H1 (fun y1 H2 => [x1, y1].length ≤ sizeLine ∧ ∀ p, H2 p = none → Q (.ref p) (upd H2 p (.lst [x1, y1]))))
  refine pairk Z hX hx hv hE fun t ht => ?_
  have s1 : Same H (upd H t (.tup [.str x, .bl (decide (X = x))])) := Same.new ht
  refine pairk Z hX hy hv (hE.same s1) fun u hu => ?_
  have s2 := Same.new (o := .tup [.str y, .bl (decide (X = y))]) hu
  refine ⟨(by show 2 ≤ sizeLine; decide), fun p hp => ?_⟩
  have s3 := Same.new (o := .lst [.ref t, .ref u]) hp
  exact q p t u _ ((s1.trans s2).trans s3) ((s1.trans s2).free hp) upd_same (s3 _ _ (s2 _ _ upd_same)) (s3 _ _ upd_same)
theorem lst1K {X x : Str} {e : Addr} {v : V} {σ : L2.St} {H : Hp} {Q : VK} (Z : Errs P w K mg base) (hX : X ∈ errNames) (hx : x ∈ subNames) (hv : σ[0]? = some (some (.ref e))) (hE : ErrAt K H e X v)
    (q : ∀ p t H', Same H H' → H p = none → H' p = some (.lst [.ref t]) → H' t = some (.tup [.str x, .bl (decide (X = x))]) → Q (.ref p) H') :
    tLst (tCons (tPairK K x) tNil) σ H Q := by
  show tPairK K x σ H (fun x1 H1 => [x1].length ≤ sizeLine ∧ ∀ p, H1 p = none → Q (.ref p) (upd H1 p (.lst [x1])))
  refine pairk Z hX hx hv hE fun t ht => ?_
  have s1 : Same H (upd H t (.tup [.str x, .bl (decide (X = x))])) := Same.new ht
  refine ⟨(by show 1 ≤ sizeLine; decide), fun p hp => ?_⟩
  have s3 := Same.new (o := .lst [.ref t]) hp
  exact q p t _ (s1.trans s3) (s1.free hp) upd_same (s3 _ _ upd_same)
def KSt (K : PySem.W.Frag) (X : Str) (e : Addr) (v : V) (H0 : Hp) (σ : L2.St) (H : Hp) (ns : List Str) : Prop := ∃ (l : Addr) (ts : List (Addr × Str)), σ = [some (.ref e), some (.ref l), none, none] ∧ KL H l X ts ∧ ErrAt K H e X v ∧ Same H0 H ∧ H0 l = none ∧ ts.map (·.2) = ns
theorem kl_put {H H' : Hp} {l : Addr} {X : Str} {ts us : List (Addr × Str)} (h : KL H l X ts) (s : Same H H') (hu : ∀ p ∈ us, H' p.1 = some (.tup [.str p.2, .bl (decide (X = p.2))])) : KL (upd H' l (.lst ((ts ++ us).map fun p => V.ref p.1))) l X (ts ++ us) := by
  have hl := s _ _ h.1
  refine ⟨upd_same, fun p hp => ?_⟩
  have key : H' p.1 = some (.tup [.str p.2, .bl (decide (X = p.2))]) := by
    rcases List.mem_append.mp hp with z | z
    · exact s _ _ (h.2 p z)
    · exact hu p z
  rw [upd_ne (ne_of key hl (by intro z; cases z))]
  exact key
theorem k_ext2 {X x y : Str} {e : Addr} {v : V} {H0 : Hp} {σ : L2.St} {H : Hp} {D : Ends} {ns : List Str} (Z : Errs P w K mg base) (hX : X ∈ errNames) (hx : x ∈ subNames) (hy : y ∈ subNames) (hn : ns.length ≤ 100) (h : KSt K X e v H0 σ H ns)
    (q : ∀ H', KSt K X e v H0 σ H' (ns ++ [x, y]) → D.nx σ H') : tDrop (tBM K "list" rExtend (tVar 1) (tCons (tLst (tCons (tPairK K x) (tCons (tPairK K y) tNil))) tNil)) D σ H := by
  obtain ⟨l, ts, rfl, hK, hE, s0, n0, hl⟩ := h
  refine ⟨_, rfl, .inl ⟨rfl, _, SqL.of hK.1⟩, ?_⟩
  show tLst (tCons (tPairK K x) (tCons (tPairK K y) tNil)) _ H (fun z H2 => rExtend (.ref l) [z] H2 fun _ H3 => D.nx [some (.ref e), some (.ref l), none, none] H3)
  refine lst2K Z hX hx hy rfl hE fun p t u H' s hp ep et eu => ?_
  refine ⟨l, p, _, _, rfl, rfl, s _ _ hK.1, ep, ?_, ?_⟩
  · have : ts.length = ns.length := by rw [← hl, List.length_map]
    rw [List.length_map, this]
    exact Nat.le_of_lt (small1000 (by show ns.length + 2 ≤ 1000; omega))
  have em : ts.map (fun p => V.ref p.1) ++ [V.ref t, V.ref u] = (ts ++ [(t, x), (u, y)]).map fun p => V.ref p.1 := by simp
  rw [em]
  refine q _ ⟨l, ts ++ [(t, x), (u, y)], rfl, kl_put hK s fun z hz => ?_, (hE.same s).upd (s _ _ hK.1), fun b' o hb => ?_, n0, by rw [List.map_append, hl]; rfl⟩
  · rcases List.mem_cons.mp hz with rfl | hz
    · exact et
    · rcases List.mem_cons.mp hz with rfl | hz
      · exact eu
      · cases hz
  · rw [upd_ne (ne_of_none hb n0)]
    exact s _ _ (s0 _ _ hb)
theorem k_ext1 {X x : Str} {e : Addr} {v : V} {H0 : Hp} {σ : L2.St} {H : Hp} {D : Ends} {ns : List Str} (Z : Errs P w K mg base) (hX : X ∈ errNames) (hx : x ∈ subNames) (hn : ns.length ≤ 100) (h : KSt K X e v H0 σ H ns)
    (q : ∀ H', KSt K X e v H0 σ H' (ns ++ [x]) → D.nx σ H') : tDrop (tBM K "list" rExtend (tVar 1) (tCons (tLst (tCons (tPairK K x) tNil)) tNil)) D σ H := by
  obtain ⟨l, ts, rfl, hK, hE, s0, n0, hl⟩ := h
  refine ⟨_, rfl, .inl ⟨rfl, _, SqL.of hK.1⟩, ?_⟩
  show tLst (tCons (tPairK K x) tNil) _ H (fun z H2 => rExtend (.ref l) [z] H2 fun _ H3 => D.nx [some (.ref e), some (.ref l), none, none] H3)
  refine lst1K Z hX hx rfl hE fun p t H' s hp ep et => ?_
  refine ⟨l, p, _, _, rfl, rfl, s _ _ hK.1, ep, ?_, ?_⟩
  · have : ts.length = ns.length := by rw [← hl, List.length_map]
    rw [List.length_map, this]
    exact Nat.le_of_lt (small1000 (by show ns.length + 1 ≤ 1000; omega))
  have em : ts.map (fun p => V.ref p.1) ++ [V.ref t] = (ts ++ [(t, x)]).map fun p => V.ref p.1 := by simp
  rw [em]
  refine q _ ⟨l, ts ++ [(t, x)], rfl, kl_put hK s fun z hz => ?_, (hE.same s).upd (s _ _ hK.1), fun b' o hb => ?_, n0, by rw [List.map_append, hl]; rfl⟩
  · rcases List.mem_cons.mp hz with rfl | hz
    · exact et
    · cases hz
  · rw [upd_ne (ne_of_none hb n0)]
    exact s _ _ (s0 _ _ hb)
theorem k_app {X x : Str} {e : Addr} {v : V} {H0 : Hp} {σ : L2.St} {H : Hp} {D : Ends} {ns : List Str} (Z : Errs P w K mg base) (hX : X ∈ errNames) (hx : x ∈ subNames) (hn : ns.length ≤ 100) (h : KSt K X e v H0 σ H ns)
    (q : ∀ H', KSt K X e v H0 σ H' (ns ++ [x]) → D.nx σ H') : tDrop (tBM K "list" rAppend (tVar 1) (tCons (tPairK K x) tNil)) D σ H := by
  obtain ⟨l, ts, rfl, hK, hE, s0, n0, hl⟩ := h
  refine ⟨_, rfl, .inl ⟨rfl, _, SqL.of hK.1⟩, ?_⟩
  show tPairK K x _ H (fun z H2 => rAppend (.ref l) [z] H2 fun _ H3 => D.nx [some (.ref e), some (.ref l), none, none] H3)
  refine pairk Z hX hx rfl hE fun t ht => ?_
  have s : Same H (upd H t (.tup [.str x, .bl (decide (X = x))])) := Same.new ht
  refine ⟨l, _, _, rfl, rfl, s _ _ hK.1, ?_, ?_⟩
  · have : ts.length = ns.length := by rw [← hl, List.length_map]
    rw [List.length_map, this]
    exact small1000 (by omega)
  have em : ts.map (fun p => V.ref p.1) ++ [V.ref t] = (ts ++ [(t, x)]).map fun p => V.ref p.1 := by simp
  rw [em]
  refine q _ ⟨l, ts ++ [(t, x)], rfl, kl_put hK s fun z hz => ?_, (hE.same s).upd (s _ _ hK.1), fun b' o hb => ?_, n0, by rw [List.map_append, hl]; rfl⟩
  · rcases List.mem_cons.mp hz with rfl | hz
    · exact upd_same
    · cases hz
  · rw [upd_ne (ne_of_none hb n0)]
    exact s _ _ (s0 _ _ hb)
theorem k_first {X x y : Str} {e : Addr} {v : V} {H : Hp} {D : Ends} (Z : Errs P w K mg base) (hX : X ∈ errNames) (hx : x ∈ subNames) (hy : y ∈ subNames) (hE : ErrAt K H e X v)
    (q : ∀ σ H', KSt K X e v H σ H' [x, y] → D.nx σ H') : tAsg (tLst (tCons (tPairK K x) (tCons (tPairK K y) tNil))) (gName 1) D [some (.ref e), none, none, none] H := by
  show tLst (tCons (tPairK K x) (tCons (tPairK K y) tNil)) [some (.ref e), none, none, none] H (fun z H1 => D.nx ([some (.ref e), none, none, none].set 1 (some z)) H1)
  refine lst2K Z hX hx hy rfl hE fun p t u H' s hp ep et eu => ?_
  refine q _ _ ⟨p, [(t, x), (u, y)], rfl, ⟨ep, fun z hz => ?_⟩, hE.same s, s, hp, rfl⟩
  rcases List.mem_cons.mp hz with rfl | hz
  · exact et
  · rcases List.mem_cons.mp hz with rfl | hz
    · exact eu
    · cases hz
/-- [name for name, is_form in found if is_form] -/
theorem k_comp {X : Str} {e : Addr} {v : V} {H0 : Hp} {σ : L2.St} {H : Hp} {Q : VK} {ns : List Str} (h : KSt K X e v H0 σ H ns) (hn : ns.length ≤ 100)
    (q : ∀ p H', Same H H' → ErrAt K H' e X v → H' p = some (.lst ((ns.filter fun y => decide (X = y)).map V.str)) → Q (.ref p) H') :
    tLc (iList K (tVar 1)) (gTup K 2 (gCons (gName 2) (gCons (gName 3) gNil))) (tB (tVar 3)) (tVar 2) [2, 3] σ H Q := by
  obtain ⟨l, ts, rfl, hK, hE, s0, n0, hl⟩ := h
  refine ⟨_, rfl, l, rfl, ⟨_, SqL.of hK.1⟩, fun D hD => ?_⟩
  have nl : l ≠ D := ne_of_none hK.1 hD
  refine lc_list (K := K) (a := l) (xs := ts.map fun p => V.ref p.1) (fun i H' => Same H H' ∧ H' D = some (.lst (((ts.take i).filter fun p => decide (X = p.2)).map fun p => V.str p.2)))
    ⟨Same.new hD, upd_same⟩ (fun i H' _ h => SqL.of (h.1 _ _ hK.1)) ?_ ?_
  · rintro i z H' hi ⟨s, hd⟩
    have hi2 : i < ts.length := by
      have := (List.getElem?_eq_some_iff.mp hi).1
      simpa using this
    have ez : z = V.ref (ts[i]).1 := by
      rw [List.getElem?_map, List.getElem?_eq_getElem hi2] at hi
      exact (Option.some.inj hi).symm
    subst ez
    have ht := s _ _ (hK.2 ts[i] (List.getElem_mem hi2))
    refine ⟨_, _, rfl, SqT.of ht, rfl, _, _, rfl, _, _, rfl, rfl, rfl, _, rfl, _, rfl, ?_⟩
    have tk : ts.take (i + 1) = ts.take i ++ [ts[i]] := by rw [List.take_add_one, List.getElem?_eq_getElem hi2]; rfl
    by_cases c : X = (ts[i]).2
    · dsimp only
      rw [decide_eq_true c, if_pos rfl]
      refine ⟨_, rfl, _, hd, ?_, fun b o hb => ?_, ?_⟩
      · refine small1000 ?_
        rw [List.length_map]
        refine Nat.le_trans (List.length_filter_le _ _) ?_
        rw [List.length_take]
        have : ts.length = ns.length := by rw [← hl, List.length_map]
        omega
      · rw [upd_ne (ne_of_none hb hD)]
        exact s _ _ hb
      · rw [upd_same, tk, List.filter_append, List.map_append]
        have f1 : [ts[i]].filter (fun p => decide (X = p.2)) = [ts[i]] := by rw [List.filter_cons, decide_eq_true c, if_pos rfl]; rfl
        rw [f1]
        rfl
    · dsimp only
      rw [decide_eq_false c, if_neg Bool.false_ne_true]
      refine ⟨s, ?_⟩
      rw [tk, List.filter_append]
      have f1 : [ts[i]].filter (fun p => decide (X = p.2)) = [] := by rw [List.filter_cons, decide_eq_false c, if_neg Bool.false_ne_true]; rfl
      rw [f1, List.append_nil]
      exact hd
  · rintro H' ⟨s, hd⟩
    refine q D H' s (hE.same s) ?_
    rw [hd, List.length_map, List.take_length, ← hl, List.filter_map, List.map_map]
    rfl
/-- the names of an error's own class among these -/
def spKinds (K : PySem.W.Frag) (ns : List Str) : Sp := fun vs H Q _ => ∃ (e : Addr) (X : Str) (v : V), vs = [.ref e] ∧ X ∈ errNames ∧ ErrAt K H e X v ∧ ∀ p H', Same H H' → H' p = some (.lst ((ns.filter fun y => decide (X = y)).map V.str)) → Q (.ref p) H'
end
end Lm

namespace Lm
open PySem PySem.Spec PyProof.Rows L2
open C8 (Cal Mak Met pe_c pe_mk pe_mt pe_mt0 pss_cut tCut)

/-! ## Tests and expressions that only add to the heap -/
/-- the test comes to b -/
def Says (b : Bool) (c : TT) (σ : L2.St) (H : Hp) : Prop := ∀ Q : Bool → Hp → Prop, (∀ H', Same H H' → Q b H') → c σ H Q
/-- the expression comes to some v of which p holds -/
def Giv (te : TE) (σ : L2.St) (H : Hp) (p : V → Hp → Prop) : Prop := ∀ Q : VK, (∀ v H', Same H H' → p v H' → Q v H') → te σ H Q
section
variable {σ : L2.St} {H : Hp} {b : Bool} {A B c : TT} {t u : TS} {D : Ends}
theorem says_or (h : Says false A σ H) (k : ∀ H', Same H H' → Says b B σ H') : Says b (tOr A B) σ H := fun Q q => by
  refine h _ fun H' s => ?_
  show (if false = true then Q true H' else B σ H' Q)
  rw [if_neg Bool.false_ne_true]
  exact k H' s Q fun H2 s2 => q H2 (s.trans s2)
theorem says_or_t (h : Says true A σ H) : Says true (tOr A B) σ H := fun Q q => by
  refine h _ fun H' s => ?_
  show (if true = true then Q true H' else B σ H' Q)
  rw [if_pos rfl]
  exact q H' s
theorem says_and (h : Says true A σ H) (k : ∀ H', Same H H' → Says b B σ H') : Says b (tAnd A B) σ H := fun Q q => by
  refine h _ fun H' s => ?_
  show (if true = true then B σ H' Q else Q false H')
  rw [if_pos rfl]
  exact k H' s Q fun H2 s2 => q H2 (s.trans s2)
theorem says_and_f (h : Says false A σ H) : Says false (tAnd A B) σ H := fun Q q => by
  refine h _ fun H' s => ?_
  show (if false = true then B σ H' Q else Q false H')
  rw [if_neg Bool.false_ne_true]
  exact q H' s
theorem says_not (h : Says b A σ H) : Says (!b) (tNot A) σ H := fun Q q => h _ fun H' s => q H' s
theorem if_no (h : Says false c σ H) (q : ∀ H', Same H H' → u D σ H') : tIfS c t u D σ H := by
  refine h _ fun H' s => ?_
  show (if false = true then t D σ H' else u D σ H')
  rw [if_neg Bool.false_ne_true]
  exact q H' s
theorem if_yes (h : Says true c σ H) (q : ∀ H', Same H H' → t D σ H') : tIfS c t u D σ H := by
  refine h _ fun H' s => ?_
  show (if true = true then t D σ H' else u D σ H')
  rw [if_pos rfl]
  exact q H' s
/-- a test by a value -/
theorem says_val {te : TE} (h : Giv te σ H fun v _ => v = .bl b) : Says b (tB te) σ H := fun Q q => h _ fun v H' s e => ⟨b, e, q H' s⟩
theorem says_test {te : TE} (h : Giv te σ H fun v _ => v = .bl b) : Says b (tTest te) σ H := fun Q q => h _ fun v H' s e => ⟨b, e, q H' s⟩
theorem giv_var {i : Nat} {v : V} (h : σ[i]? = some (some v)) : Giv (tVar i) σ H fun x _ => x = v := fun Q q => ⟨v, h, q v H (Same.refl H) rfl⟩
theorem giv_c {v : V} : Giv (tC v) σ H fun x _ => x = v := fun Q q => q v H (Same.refl H) rfl
theorem Giv.mono {te : TE} {p q : V → Hp → Prop} (h : Giv te σ H p) (k : ∀ v H', Same H H' → p v H' → q v H') : Giv te σ H q := fun Q r => h Q fun v H' s e => r v H' s (k v H' s e)
/-- an operator -/
theorem giv_op {r : R2} {ta tb : TE} {p q : V → Hp → Prop} {o : V → Hp → Prop} (ha : Giv ta σ H p) (hb : ∀ x H1, Same H H1 → p x H1 → Giv tb σ H1 q)
    (ho : ∀ x y H1 H2, Same H H1 → Same H1 H2 → p x H1 → q y H2 → ∀ Q : VK, (∀ v H', Same H2 H' → o v H' → Q v H') → r x y H2 Q) : Giv (tOp r ta tb) σ H o := fun Q k =>
  ha _ fun x H1 s1 e1 => hb x H1 s1 e1 _ fun y H2 s2 e2 => ho x y H1 H2 s1 s2 e1 e2 Q fun v H' s3 e3 => k v H' ((s1.trans s2).trans s3) e3
/-- a built-in of one argument -/
theorem giv_b1 {r : List V → Hp → VK → Prop} {ta : TE} {p o : V → Hp → Prop} (ha : Giv ta σ H p) (hr : ∀ x H1, Same H H1 → p x H1 → ∀ Q : VK, (∀ v H', Same H1 H' → o v H' → Q v H') → r [x] H1 Q) : Giv (tCB r (tCons ta tNil)) σ H o := fun Q k =>
  ha _ fun x H1 s1 e1 => hr x H1 s1 e1 Q fun v H' s2 e2 => k v H' (s1.trans s2) e2
theorem giv_b2 {r : List V → Hp → VK → Prop} {ta tb : TE} {p q o : V → Hp → Prop} (ha : Giv ta σ H p) (hb : ∀ x H1, Same H H1 → p x H1 → Giv tb σ H1 q)
    (hr : ∀ x y H1 H2, Same H H1 → Same H1 H2 → p x H1 → q y H2 → ∀ Q : VK, (∀ v H', Same H2 H' → o v H' → Q v H') → r [x, y] H2 Q) : Giv (tCB r (tCons ta (tCons tb tNil))) σ H o := fun Q k =>
  ha _ fun x H1 s1 e1 => hb x H1 s1 e1 _ fun y H2 s2 e2 => hr x y H1 H2 s1 s2 e1 e2 Q fun v H' s3 e3 => k v H' ((s1.trans s2).trans s3) e3
/-- repr of small data -/
theorem giv_repr {te : TE} {B k : Nat} (hB : B ≤ 1000) (hk : k ≤ 60) {v : V} (h : Giv te σ H fun x _ => x = v) {d : PyData} (hd : Dr H v d) (h1 : d.showable = true) (h2 : d.depth ≤ k) (h3 : d.shown.length ≤ B) : Giv (tCB rReprD (tCons te tNil)) σ H fun x _ => x = .str d.shown :=
  giv_b1 h fun x H1 s e Q q => by
    subst e
    exact ⟨_, d, rfl, hd.same s, h1, Nat.le_trans h2 hk, Nat.le_trans h3 (Nat.le_of_lt (small1000 hB)), q _ H1 (Same.refl H1) rfl⟩
theorem giv_ne {ta tb : TE} {x y : V} (hs : scal x y = true) (ha : Giv ta σ H fun z _ => z = x) (hb : ∀ H1, Same H H1 → Giv tb σ H1 fun z _ => z = y) : Giv (tOp rNe ta tb) σ H fun v _ => v = .bl (!decide (x = y)) :=
  giv_op ha (fun _ H1 s _ => hb H1 s) fun a b H1 H2 _ _ ea eb Q q => by
    subst ea eb
    exact ⟨hs, q _ H2 (Same.refl H2) rfl⟩
theorem giv_eq {ta tb : TE} {x y : V} (hs : scal x y = true) (ha : Giv ta σ H fun z _ => z = x) (hb : ∀ H1, Same H H1 → Giv tb σ H1 fun z _ => z = y) : Giv (tOp rEq ta tb) σ H fun v _ => v = .bl (decide (x = y)) :=
  giv_op ha (fun _ H1 s _ => hb H1 s) fun a b H1 H2 _ _ ea eb Q q => by
    subst ea eb
    exact ⟨hs, q _ H2 (Same.refl H2) rfl⟩
/-- x = e -/
theorem asg_giv {te : TE} {i : Nat} {p : V → Hp → Prop} (h : Giv te σ H p) (q : ∀ v H', Same H H' → p v H' → D.nx (σ.set i (some v)) H') : tAsg te (gName i) D σ H := h _ fun v H' s e => q v H' s e
theorem ret_giv {te : TE} {p : V → Hp → Prop} (h : Giv te σ H p) (q : ∀ v H', Same H H' → p v H' → D.rt v H') : tRet te D σ H := h _ fun v H' s e => q v H' s e
end
section
variable {P : Program} {w : World} {K : PySem.W.Frag} {mg : Str → Option Value} {base : Heap} {σ : L2.St} {H : Hp}
theorem giv_err {x : Str} {te : TE} {v : V} (Z : Errs P w K mg base) (hx : x ∈ errNames) (h : Giv te σ H fun y _ => y = v) : Giv (tErr K x (tCons te tNil)) σ H fun y H' => ∃ a, y = .ref a ∧ H a = none ∧ ErrAt K H' a x v := fun Q q => by
  obtain ⟨fI, C⟩ := Z.err hx
  refine h _ fun y H1 s e => ?_
  subst e
  refine ⟨(by decide : 1 ≤ 1000), fun a ha => ⟨a, _, y, rfl, C.T, C.nv, upd_same, fun dx hdx hne => ⟨rfl, ?_⟩⟩⟩
  have hd : H1 dx = none := by
    rw [upd_ne hne] at hdx
    exact hdx
  refine q _ _ (s.trans fun b o hb => ?_) ⟨a, rfl, s.free ha, dx, upd_same, by rw [upd_ne hne]; exact upd_same⟩
  have n1 : b ≠ a := ne_of_none hb ha
  rw [upd_ne n1, upd_ne (ne_of_none hb hd), upd_ne n1]
  exact hb
theorem giv_value {x : Str} {te : TE} {e : Addr} {v : V} (Z : Errs P w K mg base) (hx : x ∈ errNames) (h : Giv te σ H fun y _ => y = .ref e) (hE : ErrAt K H e x v) : Giv (tExF K "value" te) σ H fun y _ => y = v := fun Q q => by
  obtain ⟨fI, C⟩ := Z.err hx
  refine h _ fun y H1 s ey => ?_
  subst ey
  obtain ⟨d, h1, h2⟩ := hE.same s
  exact ⟨e, _, d, _, v, rfl, C.xf, C.nv, h1, h2, by simp [List.lookup], q v H1 s rfl⟩
theorem giv_isi {x y : Str} {ta tb : TE} {e : Addr} {v : V} (Z : Errs P w K mg base) (hx : x ∈ errNames) (hy : y ∈ subNames) (ha : Giv ta σ H fun z _ => z = .ref e) (hb : ∀ H1, Same H H1 → Giv tb σ H1 fun z _ => z = .ref (He.ga K y)) (hE : ErrAt K H e x v) :
    Giv (tCB (rIsE K) (tCons ta (tCons tb tNil))) σ H fun z _ => z = .bl (decide (x = y)) :=
  giv_b2 ha (fun _ H1 s _ => hb H1 s) fun a b H1 H2 s1 s2 ea eb Q q => by
    subst ea eb
    exact isi_made Z hx hy (hE.same (s1.trans s2)) (q _ H2 (Same.refl H2) rfl)
theorem giv_isiM {x : Str} {ta tb : TE} {e : Addr} {v : V} (Z : Errs P w K mg base) (hx : x ∈ errNames) (ha : Giv ta σ H fun z _ => z = .ref e) (hb : ∀ H1, Same H H1 → Giv tb σ H1 fun z _ => z = .ref (He.ga K "MirrorError")) (hE : ErrAt K H e x v) :
    Giv (tCB (rIsE K) (tCons ta (tCons tb tNil))) σ H fun z _ => z = .bl true :=
  giv_b2 ha (fun _ H1 s _ => hb H1 s) fun a b H1 H2 s1 s2 ea eb Q q => by
    subst ea eb
    exact isi_M Z hx (hE.same (s1.trans s2)) (q _ H2 (Same.refl H2) rfl)
theorem giv_isiV {x : Str} {ta tb : TE} {e : Addr} {v : V} (Z : Errs P w K mg base) (hx : x ∈ errNames) (ha : Giv ta σ H fun z _ => z = .ref e) (hb : ∀ H1, Same H H1 → Giv tb σ H1 fun z _ => z = .ty "ValueError") (hE : ErrAt K H e x v) :
    Giv (tCB (rIsE K) (tCons ta (tCons tb tNil))) σ H fun z _ => z = .bl true :=
  giv_b2 ha (fun _ H1 s _ => hb H1 s) fun a b H1 H2 s1 s2 ea eb Q q => by
    subst ea eb
    exact isi_V Z hx (hE.same (s1.trans s2)) (q _ H2 (Same.refl H2) rfl)
/-- what is fresh, by the general rule -/
theorem fresh_of {H H1 H2 : Hp} (k : ∀ b o, H b = none → H1 b = some o → H2 b = some o) : Same (fresh H H1) (fresh H H2) := fun b o e => by
  unfold fresh at e ⊢
  cases h : H b with
  | some u =>
    rw [h] at e
    cases e
  | none =>
    rw [h] at e
    exact k b o h e
theorem fresh_less {H H1 H2 : Hp} (k : ∀ b, H1 b = none → H b = none) : Same (fresh H1 H2) (fresh H H2) := fun b o e => by
  unfold fresh at e ⊢
  cases h : H1 b with
  | some u =>
    rw [h] at e
    cases e
  | none =>
    rw [h] at e
    rw [k b h]
    exact e
end
end Lm

namespace Lm
open PySem PySem.Spec PyProof.Rows L2

/-! ## What the head must tell of the errors, as one Bool -/
def oexB (K : PySem.W.Frag) (C : Addr) : Bool := match K.lookup C with
  | some ⟨.type T, _, .cls cd, sl⟩ => (match cd.mro, sl.toList with
    | .ref C' :: bm, [_, _, _, _, some (.builtin n), _] => decide (T = "type") && (decide (C' = C) && (decide (n = "ValueError.__new__") && (!cd.hasDel && (cd.hasDict && PySem.HandSPX.refsVE bm))))
    | _, _ => false)
  | _ => false
theorem oexB_ok {K : PySem.W.Frag} {C : Addr} (h : oexB K C = true) : ∃ nm q N bs bm sn sub ab col dd k0 k1 k2 k3 k5, K.lookup C = some (excClassObj nm q C N bs bm true sn sub ab col dd k0 k1 k2 k3 k5 "ValueError.__new__") ∧ PySem.HandSPX.refsVE bm = true := by
  unfold oexB at h
  split at h
  · rename_i T dd cd sl ho
    split at h
    · rename_i C' bm k0 k1 k2 k3 n k5 hm hs
      obtain ⟨h1, h⟩ := He.ba h
      obtain ⟨h2, h⟩ := He.ba h
      obtain ⟨h3, h⟩ := He.ba h
      obtain ⟨h4, h⟩ := He.ba h
      obtain ⟨h5, h6⟩ := He.ba h
      obtain ⟨nm, bs, mro, ns, qn, hd, sn, sub, ab, col, del⟩ := cd
      dsimp only at hm h4 h5
      have e1 : T = "type" := of_decide_eq_true h1
      have e2 : C' = C := of_decide_eq_true h2
      have e3 : n = "ValueError.__new__" := of_decide_eq_true h3
      have e4 : del = false := by simpa using h4
      subst e1 e2 e3 e4 h5 hm
      have e5 : sl = #[k0, k1, k2, k3, some (.builtin "ValueError.__new__"), k5] := by
        obtain ⟨l⟩ := sl
        simp only at hs
        rw [hs]
      subst e5
      exact ⟨nm, qn, ns, bs, bm, sn, sub, ab, col, dd, k0, k1, k2, k3, k5, ho, h6⟩
    · cases h
  · cases h
def excB (K : PySem.W.Frag) (D : Addr) : Bool := He.eqO (PySem.W.findIn K (.ref D) "__getattribute__") (some (some (.builtin "BaseException.__getattribute__"))) && (He.eqO (PySem.W.findIn K (.ref D) "__getattr__") (some none) && (decide (PySem.W.subIn K (.ref D) (.type "BaseException") = some true) &&
  (PySem.W.hasDictIn K D && (He.eqO (PySem.W.findIn K (.ref D) "__class__") (some (some (.builtin "object.__class__"))) && (He.eqO (PySem.W.specialIn K (.builtin "object.__class__") "__get__") (some (some (.builtin "getset_descriptor.__get__"))) &&
  (decide (PySem.W.takesIn K (.builtin "object.__class__") = some true) && decide (PySem.W.mroIn K D (.type "object") = some true)))))))
theorem excB_ok {K : PySem.W.Frag} {D : Addr} (h : excB K D = true) : ExcC K D := by
  obtain ⟨h1, h⟩ := He.ba h
  obtain ⟨h2, h⟩ := He.ba h
  obtain ⟨h3, h⟩ := He.ba h
  obtain ⟨h4, h⟩ := He.ba h
  obtain ⟨h5, h⟩ := He.ba h
  obtain ⟨h6, h⟩ := He.ba h
  obtain ⟨h7, h8⟩ := He.ba h
  exact ⟨He.eqO_ok h1, He.eqO_ok h2, of_decide_eq_true h3, h4, He.eqO_ok h5, He.eqO_ok h6, of_decide_eq_true h7, of_decide_eq_true h8⟩
/-- MirrorError.__init__ -/
def iniA (K : PySem.W.Frag) : Addr := He.ma K (He.ga K "MirrorError") "__init__"
def errB (K : PySem.W.Frag) (x : Str) : Bool := oexB K (He.ga K x) && (He.eqO (PySem.W.findIn K (.ref (He.ga K x)) "__setattr__") (some (some (.builtin "object.__setattr__"))) && (decide (PySem.W.subIn K (.ref (He.ga K x)) (.type "BaseException") = some true) &&
  (decide (PySem.W.typeIn K (.ref (He.ga K x)) = some (.type "type")) && (PySem.W.keepIn K (.ref (He.ga K x)) && (He.eqO (PySem.W.findIn K (.ref (He.ga K x)) "__init__") (some (some (.ref (iniA K)))) &&
  (He.eqO (PySem.W.findIn K (.ref (He.ga K x)) "value") (some none) && (xfB K (He.ga K x) && excB K (He.ga K x))))))))
theorem errB_ok {K : PySem.W.Frag} {x : Str} (h : errB K x = true) : ErrC K (He.ga K x) (iniA K) := by
  obtain ⟨h1, h⟩ := He.ba h
  obtain ⟨h2, h⟩ := He.ba h
  obtain ⟨h3, h⟩ := He.ba h
  obtain ⟨h4, h⟩ := He.ba h
  obtain ⟨h5, h⟩ := He.ba h
  obtain ⟨h6, h⟩ := He.ba h
  obtain ⟨h7, h⟩ := He.ba h
  obtain ⟨h8, h9⟩ := He.ba h
  exact ⟨⟨oexB_ok h1, He.eqO_ok h2, of_decide_eq_true h3, of_decide_eq_true h4, h5⟩, He.eqO_ok h6, He.eqO_ok h7, xfB_ok h8, excB_ok h9⟩
def errsB (K : PySem.W.Frag) : Bool := decide (PySem.W.typeIn K (.ref (iniA K)) = some (.type "function")) && (errNames.all fun x => errB K x && (decide (PySem.W.kitOne K (.ref (He.ga K x)) (.ref (He.ga K "MirrorError")) = some true) &&
  (decide (PySem.W.kitOne K (.ref (He.ga K x)) (.type "ValueError") = some true) && subNames.all fun y => decide (PySem.W.kitOne K (.ref (He.ga K x)) (.ref (He.ga K y)) = some (decide (x = y))))))
theorem errsB_ok {P : Program} {w : World} {K : PySem.W.Frag} {mg : Str → Option Value} {base : Heap} {fd : FuncData} (h : errsB K = true) (m : ∀ {x : Str}, x ∈ errNames → mg x = some (.ref (He.ga K x))) (F : FnOk P w K mg base CX0 1 (iniA K) fd ["self", "value"] (spErr K)) (b : Binds K fd ["self", "value"] []) :
    Errs P w K mg base := by
  obtain ⟨h1, h2⟩ := He.ba h
  have all := List.all_eq_true.mp h2
  have at_ : ∀ x ∈ errNames, errB K x = true ∧ PySem.W.kitOne K (.ref (He.ga K x)) (.ref (He.ga K "MirrorError")) = some true ∧ PySem.W.kitOne K (.ref (He.ga K x)) (.type "ValueError") = some true ∧ ∀ y ∈ subNames, PySem.W.kitOne K (.ref (He.ga K x)) (.ref (He.ga K y)) = some (decide (x = y)) := fun x hx => by
    obtain ⟨a1, a⟩ := He.ba (all x hx)
    obtain ⟨a2, a⟩ := He.ba a
    obtain ⟨a3, a4⟩ := He.ba a
    exact ⟨a1, of_decide_eq_true a2, of_decide_eq_true a3, fun y hy => of_decide_eq_true (List.all_eq_true.mp a4 y hy)⟩
  exact ⟨m, ⟨iniA K, fd, fun x hx => errB_ok (at_ x hx).1, of_decide_eq_true h1, F, b⟩, fun x hx => (at_ x hx).2.2.2, fun x hx => (at_ x hx).2.1, fun x hx => (at_ x hx).2.2.1⟩
/-- the built-ins' names that a law leaves as they are -/
def freeNames : List Str := ["len", "int", "abs", "range", "list", "max", "min", "all", "isinstance", "repr", "str", "tuple", "ValueError", "bool"]
theorem bl_of {mg : Str → Option Value} {base : Heap} (h : ∀ {x : Str}, x ∈ freeNames → mg x = none) (m : ∃ mm, base.Ns sysModules mm) : Bl mg base :=
  ⟨h (by decide +kernel), h (by decide +kernel), h (by decide +kernel), h (by decide +kernel), h (by decide +kernel), h (by decide +kernel), h (by decide +kernel), h (by decide +kernel), h (by decide +kernel), h (by decide +kernel), h (by decide +kernel), h (by decide +kernel), h (by decide +kernel), h (by decide +kernel), m⟩
end Lm

namespace Lm
open PySem PySem.Spec PyProof.Rows L2

/-! ## Functions handed over: what calling one does, wherever what stood when it was made is kept -/
structure Acts (P : Program) (w : World) (K : PySem.W.Frag) (mg : Str → Option Value) (base : Heap) (k : Nat) (fr : List Addr) (f : Addr) (H : Hp) (h : Heap) (tl : XK → Hp → VK → Prop) : Prop where
  is : PySem.W.FnAt f h
  fresh : H f = none
  off : f ∉ fr
  act : ∀ (A : Around) (outer : List Env) (s : Shared) (H' : Hp) (Q : VK) (E : XK), A.guards = some [] → Room k A → Env0 P w K mg base A outer s H' → Un fr [] H H' h s.heap → tl E H' Q →
    codeAny (model P w) A (.call (.ref f) ⟨[], []⟩) (CR (L2.CX P w) outer P w H' s Q E) s
section
variable {P : Program} {w : World} {K : PySem.W.Frag} {mg : Str → Option Value} {base : Heap} {k : Nat} {fr fr1 : List Addr} {f : Addr} {H H1 H2 : Hp} {h h1 h2 : Heap} {tl : XK → Hp → VK → Prop}
/-- two stretches of time, further frames in the second one -/
theorem un_join (u : Un fr [] H H1 h h1) (v : Un fr1 [] H1 H2 h1 h2) (sub : ∀ b ∈ fr, b ∈ fr1) (new : ∀ b ∈ fr1, b ∉ fr → h.objs.size ≤ b) : Un fr [] H H2 h h2 := by
  have out : ∀ {b : Addr} {o : Obj}, h.get? b = some o → b ∉ fr → b ∉ fr1 := fun {b o} e n m => absurd (Nat.lt_of_lt_of_le (Heap.lt_size e) (new b m n)) (Nat.lt_irrefl _)
  refine ⟨fun b o e n hb _ => v.keep b o (u.keep b o e n hb (by simp)) (u.free b o e n (by simp)) (out e hb) (by simp), fun b o e n hb _ => ?_, fun b o e n _ => ?_, fun b o e _ => ?_, fun b xs e => v.tups b xs (u.tups b xs e), fun b o x e => v.frzs b o x (u.frzs b o x e), fun b ps e => ?_⟩
  · obtain ⟨sl, e1⟩ := u.slot b o e n hb (by simp)
    obtain ⟨sl2, e2⟩ := v.slot b _ e1 (u.free b o e n (by simp)) (sub b hb) (by simp)
    exact ⟨sl2, e2⟩
  · obtain ⟨o1, e1⟩ := u.there b o e (by simp)
    exact v.free b o1 e1 (u.free b o e n (by simp)) (by simp)
  · obtain ⟨o1, e1⟩ := u.there b o e (by simp)
    exact v.there b o1 e1 (by simp)
  · obtain ⟨m1, e1⟩ := u.tbls b ps e
    obtain ⟨m2, e2⟩ := v.tbls b _ e1
    exact ⟨m1 ++ m2, by rw [e2, Array.append_assoc]⟩
theorem Acts.on (a : Acts P w K mg base k fr f H h tl) (u : Un fr [] H H1 h h1) (sub : ∀ b ∈ fr, b ∈ fr1) (new : ∀ b ∈ fr1, b ∉ fr → h.objs.size ≤ b) : Acts P w K mg base k fr1 f H1 h1 tl := by
  obtain ⟨oc, od, fd, sl, e⟩ := a.is
  exact ⟨⟨oc, od, fd, sl, u.keep f _ e a.fresh a.off (by simp)⟩, u.free f _ e a.fresh (by simp), fun m => absurd (Nat.lt_of_lt_of_le (Heap.lt_size e) (new f m a.off)) (Nat.lt_irrefl _),
    fun A outer s H' Q E gd hr e0 v ht => a.act A outer s H' Q E gd hr e0 (un_join u v sub new) ht⟩
end
section
variable {X : Cx} {k : Nat} {f : Addr} {tl : XK → Hp → VK → Prop} {E : XK}
/-- in a def that got it: at any state of its body -/
theorem Acts.here {pins : List (Addr × Obj)} {σ : L2.St} {H : Hp} {s : Shared} (a : Acts X.prog X.w X.K X.mg X.base k X.fs f X.H_0 X.s_0.heap tl) (hex : X.ex = []) (I : Inv X pins σ H s) : Acts X.prog X.w X.K X.mg X.base k (frs X.stack) f H s.heap tl := by
  have u := I.base
  rw [hex] at u
  refine a.on u (fun b hb => ?_) fun b hb n => ?_
  · rcases I.ok.stk with e | ⟨e, _⟩
    · rw [e]
      exact hb
    · rw [e]
      obtain ⟨env, he, q⟩ := List.mem_filterMap.mp hb
      exact List.mem_filterMap.mpr ⟨env, List.mem_cons_of_mem _ he, q⟩
  · rcases List.mem_cons.mp (I.stkSub b hb) with e | e
    · rw [e]
      exact I.ok.above
    · exact absurd e n
/-- a(), a the slot that holds it -/
theorem pe_acts {i : Nat} {a : Str} {p1 p2 : Pos} (AC : Acts X.prog X.w X.K X.mg X.base k X.fs f X.H_0 X.s_0.heap tl) (hex : X.ex = []) (gd : X.A.guards = some []) (hr : Room k X.A) (hx : Passes (L2.CX X.prog X.w) X E)
    (hN : X.N[i]? = some a) (hv : Vis X.env.scope a) (hd : (a == ("__debug__" : Str)) = false := by decide) (hcd : (a == ("__classdict__" : Str)) = false := by decide) :
    PE X (.Call (.Name a p1) [] [] p2) (fun σ H Q => σ[i]? = some (some (.ref f)) ∧ tl E H Q) := by
  refine ⟨fun pins s σ H Q I ⟨hs, ht⟩ => ?_⟩
  refine wpAny_Call_Name_kw (thn ((pe_var (pos := p1) (i := i) hN hv hd hcd).run pins s σ H (fun v H1 => v = .ref f ∧ H1 = H) I ⟨.ref f, hs, rfl, rfl⟩) fun u s1 ⟨v, H1, I1, r1, ev, eH⟩ => ?_)
  subst ev eH
  obtain rfl : u = Value.ref f := r1
  have AH := AC.here hex I1
  have AU := I1.base
  rw [hex] at AU
  refine PySem.W.callWith_F0 AH.is ?_
  refine wpAny_call (codeAny_mono (AC.act X.A X.stack s1 _ Q E gd hr I1.env0 AU ht) fun r s' hq => ?_)
  match r, hq with
  | .error e, hq => exact hx pins σ _ s1 e s' I1 hq
  | .ok (.ret u), hq => exact I1.after hq
  | .ok .next, hq => exact False.elim hq
  | .ok .brk, hq => exact False.elim hq
  | .ok .cont, hq => exact False.elim hq
end

/-! ## An error that was caught, kept -/
/-- at a: an exception of the class at C, its dict at d, raised or not -/
def exr (a C : Addr) (d : Option Addr) : HO := .ext fun h => ∃ (oe : Obj) (vs : Array Value), h.get? a = some oe ∧ Zc (.ref C) d oe ∧ oe.data = .fields vs
theorem exr_ok {P : Program} {w : World} {H : Hp} {h : Heap} {a C : Addr} {d : Option Addr} {oe : Obj} {vs : Array Value} (e : h.get? a = some oe) (z : Zc (.ref C) d oe) (f : oe.data = .fields vs) : ObjOk P w H h a (exr a C d) :=
  ⟨⟨oe, vs, e, z, f⟩, ⟨oe, e⟩, fun _ _ ⟨o, v, q, r⟩ k => ⟨o, v, k o q, r⟩⟩
theorem exr_at {P : Program} {w : World} {H : Hp} {h : Heap} {a C : Addr} {d : Option Addr} (hok : HOk P w H h) (e : H a = some (exr a C d)) : ∃ (oe : Obj) (vs : Array Value), h.get? a = some oe ∧ Zc (.ref C) d oe ∧ oe.data = .fields vs := by
  have x : ObjOk P w H h a (.ext fun h => ∃ (oe : Obj) (vs : Array Value), h.get? a = some oe ∧ Zc (.ref C) d oe ∧ oe.data = .fields vs) := hok a _ e
  exact x.1
section
variable {X : Cx} {pins : List (Addr × Obj)} {σ : L2.St} {H : Hp} {s : Shared}
/-- an object that came since the entry is tracked from now on -/
theorem inv_track {a C : Addr} {d : Option Addr} {oe : Obj} {vs : Array Value} (I : Inv X pins σ H s) (e : s.heap.get? a = some oe) (z : Zc (.ref C) d oe) (f : oe.data = .fields vs) (na : H a = none) (n0 : X.s_0.heap.get? a = none) (nL : a ≠ X.env.locals)
    (np : ∀ p ∈ X.pn ++ pins, p.1 ≠ a) : Inv X pins σ (upd H a (exr a C d)) s := by
  have ne0 : ∀ {b : Addr} {o : Obj}, X.s_0.heap.get? b = some o → b ≠ a := fun {b o} q z => by
    rw [z, n0] at q
    cases q
  refine ⟨I.ok, I.os, I.bare, ⟨I.base.keep, I.base.slot, fun b o q n x => ?_, I.base.there, fun b xs q => ?_, fun b o u q => ?_, fun b ps q => ?_⟩, I.loc, I.cell, ?_, fun x c q => ?_, fun p hp => ?_, fun b u q => ?_, I.len⟩
  · rw [upd_ne (ne0 q)]
    exact I.base.free b o q n x
  · have y := I.base.tups b xs q
    rw [upd_ne (ne_of_none y na)]
    exact y
  · have y := I.base.frzs b o u q
    rw [upd_ne (ne_of_none y na)]
    exact y
  · obtain ⟨m, y⟩ := I.base.tbls b ps q
    exact ⟨m, by rw [upd_ne (ne_of_none y na)]; exact y⟩
  · rw [upd_ne (Ne.symm nL)]
    exact I.free
  · have nc : c ≠ a := fun y => by
      obtain ⟨v, o, ho, hd⟩ := I.cell x c q
      rw [y, e] at ho
      cases ho
      rw [f] at hd
      cases hd
    rw [upd_ne nc]
    exact I.freeC x c q
  · obtain ⟨e1, n1, r⟩ := I.pin p hp
    exact ⟨e1, by rw [upd_ne (np p hp)]; exact n1, r⟩
  · by_cases hb : b = a
    · subst hb
      rw [upd_same] at q
      cases q
      exact exr_ok e z f
    · rw [upd_ne hb] at q
      exact (I.hok b u q).stay (fun _ _ _ y => y) (fun c y => by rw [upd_ne (ne_of_none y na)]; exact y) fun c xs y => by rw [upd_ne (ne_of_none y na)]; exact y
theorem in_suite (I : Inv X pins σ H s) (a : Addr) : Inv (X.suite a (X.pn ++ pins)) [] σ H s :=
  ⟨I.ok.suite _ _, I.os, I.bare, I.base, I.loc, I.cell, I.free, I.freeC, fun p hp => I.pin p (by rw [List.append_nil] at hp; exact hp), I.hok, I.len⟩
theorem off_suite {a : Addr} {more : List (Addr × Obj)} (ok : X.Ok) (I : Inv (X.suite a (X.pn ++ pins)) more σ H s) : Inv X pins σ H s :=
  ⟨ok, I.os, I.bare, I.base, I.loc, I.cell, I.free, I.freeC, fun p hp => I.pin p (List.mem_append_left _ hp), I.hok, I.len⟩
end
/-- what the clause wishes of an error of the body: slot i is its name's -/
def wIn (K : PySem.W.Frag) (c : Value) (i : Nat) (ts : Addr → TS) (Wout : WX) (D : Ends) : WX := fun cls d σ H =>
  ∃ b, PySem.W.exmOne K cls c = some b ∧ (b = true → ∃ C : Addr, cls = .ref C ∧ ∀ a, H a = none → ts a { nx := fun σ' H' => D.nx (σ'.set i none) H', rt := D.rt, bk := fun σ' H' => D.bk (σ'.set i none) H', ct := fun σ' H' => D.ct (σ'.set i none) H' } (σ.set i (some (.ref a))) (upd H a (exr a C d))) ∧
    (b = false → Wout cls d σ H)
section
variable {X : Cx} {x n : Str} {c : Value} {i : Nat} {body suite : List Stmt} {b₀ : Stmt} {np pos pos' : Pos} {tb : WX → TS} {ts : Addr → TS} {Wout : WX}
/-- try: body / except x as n: suite, the error being tracked in the suite and behind it -/
theorem ps_try_in (hs : X.stack = X.env :: X.outer) (hf : X.env.frame = some X.env.locals) (hex : X.ex = []) (hN : X.N.Nodup) (hi : X.N[i]? = some n) (hln : X.env.kindOf n = some .local) (hc : Names X x c) (tk : Takes X Wout)
    (hb : ∀ (W : WX) (pn : List (Addr × Obj)) (xe : Value → Shared → Prop), Takes (X.tr pn xe) W → PSs (X.tr pn xe) body (tb W))
    (hsu : ∀ (a : Addr) (pn : List (Addr × Obj)), PSs (X.suite a pn) (b₀ :: suite) (ts a)) :
    PS X (.Try body [.ExceptHandler (some (.Name x np)) (some n) (b₀ :: suite) pos'] [] [] pos) (fun D σ H => tb (wIn X.K c i ts Wout D) D σ H) := by
  refine ⟨fun pins s σ H D I h => wpAny_Try_except ?_⟩
  have ok := I.ok
  have frames : X.A.frames = some (X.env :: X.outer) := ok.frames.trans (congrArg some hs)
  refine wpAny_mono ((hb (wIn X.K c i ts Wout D) (X.pn ++ pins) (fun e s₁ => wpAny (model X.prog X.w) X.A (noteFrame e X.env) (fun _ s₂ => wpAny (model X.prog X.w) X.A (setFlight e none) (fun _ s₃ =>
    wpAny (model X.prog X.w) X.A (handleBy e X.env [.ExceptHandler (some (.Name x np)) (some n) (b₀ :: suite) pos']) (SP X pins D) X.xe s₃) X.xe s₂) X.xe s₁) (fun u s' air => ?caught)).run [] s σ H D (I.toTry _) h) (fun f s1 hsp => ?through) fun _ _ z => z
  case caught =>
    obtain ⟨a, B, sI, pins', σ1, H1, cls, d, rfl, I0, ground, up, sky, na, os, ag, b, hm, yes, no⟩ := air
    have J : Inv X pins σ1 H1 sI := I0.ofTry ok
    rw [show (X.tr (X.pn ++ pins) _).stack = X.env :: X.outer from hs] at sky
    refine Sky.land Zc.steady frames hf sky fun h3 fly up3 => ?_
    have J3 : Inv X pins σ1 H1 { s' with heap := h3 } := J.landed ground fly.1 (up.trans up3) os ag
    obtain ⟨oe3, vs3, at3, z3, d3⟩ := fly.there
    have nfr : a ∉ frs (X.env :: X.outer) := fun m => by
      obtain ⟨_, o, e, nf⟩ := fly.2.2.1.mem m
      rw [at3] at e
      cases e
      exact nf _ d3
    have nI : sI.heap.get? a = none := by
      cases e : sI.heap.get? a with
      | none => rfl
      | some o =>
        have y := ground a o e (by show a ∉ frs X.stack; rw [hs]; exact nfr)
        rw [fly.2.1] at y
        cases y
    have n0 : X.s_0.heap.get? a = none := by
      cases e : X.s_0.heap.get? a with
      | none => rfl
      | some o =>
        obtain ⟨o', y⟩ := J.base.there a o e (by rw [hex]; simp)
        rw [nI] at y
        cases y
    have nL : a ≠ X.env.locals := fun y => nfr (List.mem_filterMap.mpr ⟨X.env, List.mem_cons_self, by rw [hf, y]⟩)
    have np' : ∀ p ∈ X.pn ++ pins, p.1 ≠ a := fun p hp y => by
      have q := (J.pin p hp).1
      rw [y, nI] at q
      cases q
    refine wpAny_handleBy_cons (codeAny_handlers_test ?_) (by intro q; cases q)
    have kind : PySem.W.Looks (model X.prog X.w) h3 (typeOf (.ref a)) cls := fun A Q E s k q => wpAny_typeOf_ref (k _ _ at3) (by rw [z3.1]; exact q)
    have meets := PySem.W.exm_one (M := model X.prog X.w) J3.kIn kind hm
    have name : ∀ {Q : Value → Shared → Prop} {E : Value → Shared → Prop}, Q c { s' with heap := h3 } → wpAny (model X.prog X.w) (X.A.mark (some (.ref a))) (eval (.Name x np) X.env) Q E { s' with heap := h3 } := fun {Q E} q => by
      obtain ⟨g, dbg, m | ⟨m, v, nn⟩⟩ := hc
      · exact ld_glob (X := X.suite a (X.pn ++ pins)) (in_suite J3 a) g m q dbg
      · exact ld_blt (X := X.suite a (X.pn ++ pins)) (in_suite J3 a) g m v q nn dbg
    refine name (meets.here ?_)
    cases b with
    | true =>
      obtain ⟨C, rfl, go⟩ := yes rfl
      refine codeAny_handlers_suite_as ?_
      refine HandSPX.lands_againZ fly fun h4 fly4 up4 => ?_
      have J4 : Inv X pins σ1 H1 { s' with heap := h4 } := J.landed ground fly4.1 ((up.trans up3).trans up4) os ag
      obtain ⟨oe4, vs4, at4, z4, d4⟩ := fly4.there
      have T4 : Inv X pins σ1 (upd H1 a (exr a C d)) { s' with heap := h4 } := inv_track J4 at4 z4 d4 na n0 nL np'
      refine store_ok (X := X.suite a (X.pn ++ pins)) (v := .ref a) (in_suite T4 a) hN hi (.inl hln) rfl (fun s5 S5 => ?_) (.inr hln)
      refine wpAny_mono ((hsu a (X.pn ++ pins)).run [] s5 _ _ _ S5 (go a na)) (fun f s6 hsp => ?_) fun _ _ z => False.elim z
      have gone : ∀ {σ6 : L2.St} {H6 : Hp} {Q : Shared → Prop}, Inv (X.suite a (X.pn ++ pins)) [] σ6 H6 s6 → (∀ s7, Inv X pins (σ6.set i none) H6 s7 → Q s7) →
          wpAny (model X.prog X.w) X.A (do bindName X.env n .none; unbindBehindTheSuite X.env n pos') (fun _ s7 => Q s7) X.xe s6 := fun S6 hq => gone_ok (off_suite ok S6) hN hi hln hq
      match f, hsp with
      | .next, ⟨σ6, H6, S6, q6⟩ => exact gone S6 fun s7 J7 => ⟨_, _, J7, q6⟩
      | .brk, ⟨σ6, H6, S6, q6⟩ => exact gone S6 fun s7 J7 => ⟨_, _, J7, q6⟩
      | .cont, ⟨σ6, H6, S6, q6⟩ => exact gone S6 fun s7 J7 => ⟨_, _, J7, q6⟩
      | .ret u, ⟨v6, σ6, H6, S6, r6, q6⟩ => exact gone S6 fun s7 J7 => ⟨_, _, _, J7, r6, q6⟩
    | false =>
      show wpAny _ X.A (handleBy (.ref a) X.env []) _ _ _
      refine wpAny_handleBy_nil ?_
      obtain ⟨_, _, _, oe, vs, T, oT, ts', he, hz, hd, h1, _⟩ := id fly
      unfold PySem.passOn
      refine wpAny_bind (wpAny_field he hd h1 ?_)
      rw [if_neg (show ¬ ((Value.ref T == Value.none) = true) from by simp)]
      have up_ : wpAny (model X.prog X.w) X.A (setFlight (.ref a) X.env.frame) (fun _ s4 => wpAny (model X.prog X.w) X.A (throw (.ref a) : Sem Flow) (SP X pins D) X.xe s4) X.xe { s' with heap := h3 } := by
        rw [hf]
        exact HandSPX.setFlight_upZ fly fun h4 held up4 => wpAny_throw (tk _ _ ⟨a, B, sI, pins, σ1, H1, cls, d, rfl, J, ground, (up.trans up3).trans up4, .inr (.inr (by rw [hs]; exact held)), na, os, ag, no rfl⟩)
      first
        | exact wpAny_bind (wpAny_pure (wpAny_bind up_))
        | exact wpAny_bind up_
  case through =>
    match f, hsp with
    | .next, ⟨σ', H', J', q⟩ => exact wpAny_execs_nil ⟨σ', H', J'.ofTry ok, q⟩
    | .brk, ⟨σ', H', J', q⟩ => exact ⟨σ', H', J'.ofTry ok, q⟩
    | .cont, ⟨σ', H', J', q⟩ => exact ⟨σ', H', J'.ofTry ok, q⟩
    | .ret u, ⟨v, σ', H', J', r, q⟩ => exact ⟨v, σ', H', J'.ofTry ok, r, q⟩
end
end Lm

namespace Lm
open PySem PySem.Spec PyProof.Rows L2
open LamX (CodeO TabS Tabs ExtN TabB LamS lamCx lamEnv lam_make2 lam_start2 run_ofS)

/-! ## What is asked of a caught error -/
/-- x.f, x a caught error -/
def tExR (K : PySem.W.Frag) (f : Str) (te : TE) : TE := fun σ H Q => te σ H fun x H1 => ∃ (a C d : Addr) (fs : List (Str × V)) (v : V), x = .ref a ∧ XfC K C ∧ PySem.W.findIn K (.ref C) f = some none ∧
  H1 a = some (exr a C (some d)) ∧ H1 d = some (.xd fs) ∧ fs.lookup f = some v ∧ Q v H1
theorem pe_exR {X : Cx} {e : Expr} {te : TE} {pos : Pos} {f : Str} (he : PE X e te) (hb : attributeBase e f X.env (eval e X.env) = eval e X.env := by rfl) : PE X (.Attribute e f pos) (tExR X.K f te) := by
  refine ⟨fun pins s σ H Q I h => attr_of hb (thn (he.run pins s σ H _ I h) fun u s1 ⟨x, H1, I1, rx, a, C, d, fs, v, ex, T, hno, ea, ed, l, q⟩ => ?_)⟩
  subst ex
  obtain rfl : u = Value.ref a := rx
  obtain ⟨oe, vs, ho, ⟨z1, z2⟩, hd⟩ := exr_at I1.hok ea
  obtain ⟨mA, hns, hr⟩ := I1.hok d _ ed
  obtain ⟨od, hod, hl⟩ := lookIn_ns hns
  obtain ⟨z, hz, rz⟩ := RelO.some_of (v := v) (o := mA f) (by rw [← l]; exact hr f)
  have J : PySem.W.InstAt s1.heap a oe C (some od) := ⟨ho, z1, by unfold PySem.W.notCls; rw [hd] <;> rfl, by rw [z2]; exact hod⟩
  exact HandSPX.exc_get I1.kIn J T.ga T.gg T.exC (PySem.W.findObj_own T.hdC hno rfl (by rw [hl, hz])) (handed_of rz) ⟨v, H1, I1.tok _, rz, q⟩
/-- isinstance(x, c), x also a caught error -/
def rIsR (K : PySem.W.Frag) : List V → Hp → VK → Prop := fun xs H Q => ∃ (x c : V) (t u : Value) (b : Bool), xs = [x, c] ∧ ClsV c u ∧
  (TyX K H x t ∨ ∃ a D d, x = .ref a ∧ t = .ref D ∧ ExcC K D ∧ H a = some (exr a D (some d)) ∧ ∃ fs, H d = some (.xd fs)) ∧ PySem.W.kitOne K t u = some b ∧ Q (.bl b) H
theorem call_isR {X : Cx} : CallR X (.builtin "isinstance") (rIsR X.K) := by
  intro pins s σ H xs us Q I r h
  obtain ⟨x, c, t, u, b, rfl, k, ty, e, q⟩ := h
  rcases ty with ty | ⟨a, D, d, rfl, rfl, C, ha, fs, hd⟩
  · exact call_isi pins s σ H _ us Q I r ⟨x, c, t, u, b, rfl, k, ty, e, q⟩
  · obtain ⟨u1, u2, rfl, r1, r2⟩ := vals2 r
    obtain rfl := k.eq r2
    obtain rfl : u1 = Value.ref a := r1
    obtain ⟨oe, vs, ho, ⟨z1, z2⟩, hdt⟩ := exr_at I.hok ha
    obtain ⟨mA, hns, _⟩ := I.hok d _ hd
    obtain ⟨od, hod, _⟩ := lookIn_ns hns
    exact PySem.W.kia_one (kit_exc (ox := oe) (od := some od) C) I.kIn ⟨ho, z1, by unfold PySem.W.notCls; rw [hdt] <;> rfl, by rw [z2]; exact hod⟩ e (fun z => nomatch z) fun tk => ⟨.bl b, H, I.tok tk, rfl, q⟩

/-! ## A lambda that was made -/
section
variable {X : Cx} {pins : List (Addr × Obj)} {σ : L2.St} {H : Hp} {s : Shared}
theorem acts_lam {k : Nat} {f c' : Addr} {pm ctv : Value} {params : Arguments} {body : Expr} {scope : Scope} {t : XK → TE} (I : Inv X pins σ H s) (L : LamS X.env.scope scope)
    (hf : s.heap.get? f = some (PySem.W.kla_obj "<lambda>" (X.env.qual ++ "<lambda>") params body scope (cloFrom X.env.cells scope.names []) pm c' ctv)) (hfn : H f = none) (hfr : f ∉ frs X.stack)
    (hbind : bindArgs (PySem.W.kla_fn "<lambda>" (X.env.qual ++ "<lambda>") params body scope (cloFrom X.env.cells scope.names []) pm (.ref c') ctv) ⟨[], []⟩ = pure [])
    (hbody : ∀ (A : Around) (outer : List Env) (s : Shared) (H : Hp) (E : XK), A.guards = some [] → Room k (A.deeper (lamEnv X scope s.heap.objs.size f c')) → PE (lamCx X A outer s H E scope f c') body (t E)) :
    Acts X.prog X.w X.K X.mg X.base (k + 1) (frs X.stack) f H s.heap (fun E H' Q => H' c' = some (CodeO c' (X.env.qual ++ "<lambda>")) ∧ t E σ H' Q) := by
  refine ⟨⟨_, _, _, _, hf⟩, hfn, hfr, fun A outer s1 H1 Q E gd hr e0 un ⟨hc, ht⟩ => ?_⟩
  have of1 := un.keep f _ hf hfn hfr (by simp)
  obtain ⟨⟨oc, vs, tk, hoc, hdc, hvc⟩, _, _⟩ := e0.hok c' _ hc
  have lim : s1.heap.NoLimit := e0.mod.nolimit.keeps fun b o e => (e0.bs b o e).1
  refine PySem.W.kla_callFunE hr.depth of1 rfl L.co L.gen rfl ⟨c', oc, vs, tk, rfl, hoc, hdc, hvc⟩ ?_
  rw [hbind]
  refine wpAny_pure (wpAny_newFunctionEnv (fun y hy => (L.own y hy).2) (fun y hy => absurd hy (by simp)) (fun h₁ hns hsb => ⟨lim.fresh _ hsb, ?_⟩) L.kind)
  show codeAny _ _ (.expr body (lamEnv X scope s1.heap.objs.size f c')) _ _
  have J : Inv (lamCx X A outer s1 H1 E scope f c') [] σ H1 { s1 with heap := h₁, toks := s1.toks + ([] : List (Str × Value)).length } :=
    lam_start2 I L e0 hr.hd un hns fun b o e => hsb.extBut b o (Nat.ne_of_lt (Heap.lt_size e)) (Heap.get?_push_of_some _ e)
  refine PySem.W.kla_codeExpr (wpAny_mono ((hbody A outer s1 H1 E gd (hr.deeper _)).run [] _ _ H1 Q J ht) (fun v s' hq => ?_) fun e s' hq => hq)
  obtain ⟨w', H', J', rv, q⟩ := hq
  exact ⟨w', H', J'.os, J'.bare, J'.base, J'.hok, rv, q⟩
/-- the lambda's own calls may let out what its caller wishes -/
theorem lam_takes {A : Around} {outer : List Env} {s : Shared} {H : Hp} {E : XK} {scope : Scope} {f c' : Addr} : Takes (lamCx X A outer s H E scope f c') (fun cls d _ H => E cls d H) := takes_of rfl rfl rfl rfl
theorem lam_passM {A : Around} {outer : List Env} {s : Shared} {H : Hp} {E : XK} {scope : Scope} {f c' : Addr} : Passes (L2.CX (lamCx X A outer s H E scope f c').prog (lamCx X A outer s H E scope f c').w) (lamCx X A outer s H E scope f c') E := passes_call lam_takes fun _ _ _ _ h => h
theorem lam_pass {A : Around} {outer : List Env} {s : Shared} {H : Hp} {E : XK} {scope : Scope} {f c' : Addr} : Passes (L2.CX X.prog X.w) (lamCx X A outer s H E scope f c') E := passes_call lam_takes fun _ _ _ _ h => h
end

/-! ## A def that takes a function ahead of its other arguments -/
/-- sp: what it makes of the function's doing, of its other arguments -/
abbrev SpF := (XK → Hp → VK → Prop) → List V → Hp → VK → Prop
structure CalF (P : Program) (w : World) (K : PySem.W.Frag) (mg : Str → Option Value) (base : Heap) (k j : Nat) (x : Str) (sp : SpF) : Prop where
  ex : ∃ (g : Addr) (fd : FuncData) (ps : List Str), mg x = some (.ref g) ∧ PySem.W.keepIn K (.ref g) = true ∧ Binds K fd ps [] ∧ (∀ tl vs H Q, sp tl vs H Q → vs.length + 1 = ps.length) ∧
    ∀ (A : Around) (outer : List Env) (s : Shared) (H : Hp) (args : Args) (us : List Value) (vs : List V) (Q : VK) (f : Addr) (tl : XK → Hp → VK → Prop), A.guards = some [] → Room k A → Env0 P w K mg base A outer s H → BindsTo s fd args (ps.zip (.ref f :: us)) → Vals vs us →
      Acts P w K mg base j (frs outer) f H s.heap tl → sp tl vs H Q → codeAny (model P w) A (.call (.ref g) args) (CR CX0 outer P w H s Q E0) s
/-- such a def, by its body -/
theorem calF {P : Program} {w : World} {K : PySem.W.Frag} {mg : Str → Option Value} {base : Heap} {x : Str} {params : Arguments} {body : List Stmt} {scope : Scope} {g : Addr} {fd : FuncData} {N ps : List Str} {k j : Nat} {sp : SpF}
    (F : FunD K x x params body scope [] [] g fd) (hm : mg x = some (.ref g)) (S : FnScope N ps scope)
    (b : ∀ (kV doc pm : Value) (an : Option Addr) (cdv ct : Value) (us : List Value), us.length = ps.length → bindArgs (PySem.W.fnOf x x params body scope .none kV doc pm an cdv ct) ⟨us, []⟩ = pure (ps.zip us))
    (many : ∀ tl vs H Q, sp tl vs H Q → vs.length + 1 = ps.length)
    (walk : ∀ (cdv : Value) (A : Around) (outer : List Env) (s : Shared) (H : Hp) (vs : List V) (Q : VK) (f : Addr) (tl : XK → Hp → VK → Prop), A.guards = some [] → Room k (A.deeper (envOfC x scope s.heap.objs.size g cdv)) → Acts P w K mg base j (frs outer) f H s.heap tl → sp tl vs H Q →
      ∃ t, PSs (cxOf CX0 P w K mg base N x scope g cdv A outer s H E0) body t ∧ t { nx := fun _ H' => Q .non H', rt := Q } (start N (.ref f :: vs)) H) : CalF P w K mg base (k + 1) j x sp := by
  refine ⟨g, fd, ps, hm, F.kp, FunD.bindsN F b, many, fun A outer s H args us vs Q f tl gd hr e0 hb r ac h => ?_⟩
  obtain ⟨oc, od, dV, kV, doc, pm, an, cdv, ct, osl, rfl, look, code, _, _⟩ := F.ex
  exact run_ofS (vs := .ref f :: vs) look code S hr e0 hb (.cons rfl r) (by rw [List.length_cons]; exact many _ _ _ _ h) fun hr' => walk cdv A outer s H vs Q f tl gd hr' ac h
section
variable {X : Cx} {k j : Nat} {x : Str} {sp : SpF}
/-- x(e, ..) within a def that got the function itself: it is handed on, ahead of the other arguments -/
def tPass (sp : SpF) (f : Addr) (tl : XK → Hp → VK → Prop) (t : TA) : TE := fun σ H Q => t σ H fun ws H1 => ∃ vs, ws = .ref f :: vs ∧ sp tl vs H1 Q
theorem pe_pass {m : Nat} {f : Addr} {tl : XK → Hp → VK → Prop} {p pos : Pos} {e : Expr} {es : List Expr} {t : TA} (c : CalF X.prog X.w X.K X.mg X.base k j x sp) (AC : Acts X.prog X.w X.K X.mg X.base j X.fs f X.H_0 X.s_0.heap tl) (hex : X.ex = []) (gd : X.A.guards = some []) (hr : Room m X.A) (hk : k ≤ m) (hg : Gl X x)
    (ha : PA X (e :: es) t) (hdb : (x == ("__debug__" : Str)) = false := by decide)
    (he : starEach (e :: es) X.env = (false, eval e X.env) :: starEach es X.env := by rfl) (hpl : (backTo pos (starEach es X.env)).any (·.1) = false := by rfl) :
    PE X (.Call (.Name x p) (e :: es) [] pos) (tPass sp f tl t) := by
  obtain ⟨g, fd, ps, hm, kp, b, many, run⟩ := c.ex
  refine ⟨fun pins s σ H Q I ht => ?_⟩
  refine wpAny_Call_Name_kw (ld_glob I hg hm ?_ hdb)
  refine PySem.W.callWith_K (h₀ := X.base) I.ok.mod.kin kp (thn (ha.run pos pins s σ H _ I ht) fun us s1 ⟨ws, H1, I1, r, vs, ew, q⟩ => ⟨I1.kIn, ?_⟩) he hpl
  subst ew
  cases r with
  | @cons _ u _ ur r1 rr =>
    obtain rfl : u = Value.ref f := r1
    have n : (Value.ref f :: ur).length = ps.length := by
      rw [List.length_cons, ← rr.length]
      exact many _ _ _ _ q
    refine wpAny_call (codeAny_mono (run X.A X.stack s1 H1 ⟨.ref f :: ur, []⟩ ur vs Q f tl gd (hr.mono hk) I1.env0 ?_ rr (AC.here hex I1) q) fun r s' hq => ?_)
    · have z := b s1 (.ref f :: ur) I1.kIn (by rw [List.append_nil]; exact n)
      rw [List.append_nil] at z
      exact z
    · match r, hq with
      | .error er, hq => exact False.elim hq
      | .ok (.ret u), hq => exact I1.after hq
      | .ok .next, hq => exact False.elim hq
      | .ok .brk, hq => exact False.elim hq
      | .ok .cont, hq => exact False.elim hq
/-- x(lambda: body, e, ..): the lambda is made, then the other arguments -/
def tLamF (T : List (Addr × Str)) (sp : SpF) (t : XK → TE) (ta : TA) : TE := fun σ H Q => Tabs T H ∧ ∀ H1, ExtN H H1 → Tabs T H1 → ∀ (c' : Addr) (q : Str), H1 c' = some (CodeO c' q) → ta σ H1 fun vs H2 => H2 c' = some (CodeO c' q) ∧ sp (fun E H' Q' => H' c' = some (CodeO c' q) ∧ t E σ H' Q') vs H2 Q
theorem pe_lamF {T : List (Addr × Str)} {m : Nat} {cc Pt : Addr} {params : Arguments} {body : Expr} {scope : Scope} {t : XK → TE} {ta : TA} {es : List Expr} {p lpos pos : Pos} (c : CalF X.prog X.w X.K X.mg X.base k (j + 1) x sp) (gd : X.A.guards = some []) (hr : Room m X.A) (hk : k ≤ m) (hg : Gl X x)
    (TB : TabB X.base X.mg cc Pt) (hcode : X.env.code = .ref cc) (hmT : (Pt, X.env.qual ++ "<lambda>") ∈ T) (hu : ∀ p ∈ T, p.1 = Pt → p.2 = X.env.qual ++ "<lambda>") (L : LamS X.env.scope scope) (hdef : defaultsOf params X.env = ([], []))
    (hbind : ∀ (q : Str) (cl : List (Str × Addr)) (pm cv ctv : Value), bindArgs (PySem.W.kla_fn "<lambda>" q params body scope cl pm cv ctv) ⟨[], []⟩ = pure [])
    (hbody : ∀ (A : Around) (outer : List Env) (s : Shared) (H : Hp) (E : XK) (f c' : Addr), A.guards = some [] → Room j (A.deeper (lamEnv X scope s.heap.objs.size f c')) → PE (lamCx X A outer s H E scope f c') body (t E))
    (ha : PA X es ta) (hdb : (x == ("__debug__" : Str)) = false := by decide) (he : starEach (.Lambda params body scope lpos :: es) X.env = (false, eval (.Lambda params body scope lpos) X.env) :: starEach es X.env := by rfl) (hpl : (backTo pos (starEach es X.env)).any (·.1) = false := by rfl) :
    PE X (.Call (.Name x p) (.Lambda params body scope lpos :: es) [] pos) (tLamF T sp t ta) := by
  obtain ⟨g, fd, ps, hm, kp, b, many, run⟩ := c.ex
  refine ⟨fun pins s σ H Q I ⟨hT, ht⟩ => ?_⟩
  refine wpAny_Call_Name_kw (ld_glob I hg hm ?_ hdb)
  refine PySem.W.callWith_K (h₀ := X.base) I.ok.mod.kin kp ?_ he hpl
  rw [he]
  show wpAny _ _ (spliced ((false, eval (.Lambda params body scope lpos) X.env) :: backTo pos (starEach es X.env))) _ _ s
  refine Calls.spliced_cons (lam_make2 I TB hcode hmT hu hT hdef (L.has I.ok) fun f c' pm' ctv H1 s1 I1 eN T1 hf hfn hfr hco => ?_)
  have dat : ∀ v, (PySem.W.kla_obj "<lambda>" (X.env.qual ++ "<lambda>") params body scope (cloFrom X.env.cells scope.names []) pm' c' ctv).data ≠ .cell v := fun v z => nomatch z
  have nL : f ≠ X.env.locals := fun z => by
    obtain ⟨_, ⟨o, es', ep, e, d, _⟩, _⟩ := I1.loc
    rw [← z, hf] at e
    cases e
    cases d
  have nF : f ∉ X.fs := fun z => hfr (by
    rcases I1.ok.stk with e | ⟨e, _⟩
    · rw [e]
      exact z
    · rw [e]
      obtain ⟨env, m, q⟩ := List.mem_filterMap.mp z
      exact List.mem_filterMap.mpr ⟨env, List.mem_cons_of_mem _ m, q⟩)
  have I1p : Inv X (pins ++ [(f, PySem.W.kla_obj "<lambda>" (X.env.qual ++ "<lambda>") params body scope (cloFrom X.env.cells scope.names []) pm' c' ctv)]) σ H1 s1 :=
    ⟨I1.ok, I1.os, I1.bare, I1.base, I1.loc, I1.cell, I1.free, I1.freeC, fun p hp => by
      rw [← List.append_assoc] at hp
      rcases List.mem_append.mp hp with h | h
      · exact I1.pin p h
      · obtain rfl := List.mem_singleton.mp h
        exact ⟨hf, hfn, nL, nF, dat⟩, I1.hok, I1.len⟩
  refine thn (ha.run pos _ s1 σ H1 _ I1p (ht H1 eN T1 c' _ hco)) fun us s2 ⟨vs, H2, I2, r, hc2, q⟩ => ⟨I2.kIn, ?_⟩
  have at2 := I2.pin (f, _) (List.mem_append_right _ (List.mem_append_right _ (List.mem_singleton.mpr rfl)))
  have J : Inv X pins σ H2 s2 := ⟨I2.ok, I2.os, I2.bare, I2.base, I2.loc, I2.cell, I2.free, I2.freeC, fun p hp => I2.pin p (by rw [← List.append_assoc]; exact List.mem_append_left _ hp), I2.hok, I2.len⟩
  have n : (Value.ref f :: us).length = ps.length := by
    rw [List.length_cons, ← r.length]
    exact many _ _ _ _ q
  refine wpAny_call (codeAny_mono (run X.A X.stack s2 H2 ⟨.ref f :: us, []⟩ us vs Q f _ gd (hr.mono hk) J.env0 ?_ r (acts_lam J L at2.1 at2.2.1 hfr (hbind _ _ _ _ _) fun A outer s H E gd' hr' => hbody A outer s H E f c' gd' hr') ?_) fun r s' hq => ?_)
  · have z := b s2 (.ref f :: us) J.kIn (by rw [List.append_nil]; exact n)
    rw [List.append_nil] at z
    exact z
  · exact q
  · match r, hq with
    | .error er, hq => exact False.elim hq
    | .ok (.ret u), hq => exact J.after hq
    | .ok .next, hq => exact False.elim hq
    | .ok .brk, hq => exact False.elim hq
    | .ok .cont, hq => exact False.elim hq
end
/-- a(), a the slot that holds what was got; what it lets out, as the code around wishes it at these slots -/
theorem pe_actsW {X : Cx} {j i : Nat} {f : Addr} {a : Str} {p1 p2 : Pos} {tl : XK → Hp → VK → Prop} {W : WX} (AC : Acts X.prog X.w X.K X.mg X.base j X.fs f X.H_0 X.s_0.heap tl) (hex : X.ex = []) (gd : X.A.guards = some []) (hr : Room j X.A) (tk : Takes X W)
    (hN : X.N[i]? = some a) (hv : Vis X.env.scope a) (hd : (a == ("__debug__" : Str)) = false := by decide) (hcd : (a == ("__classdict__" : Str)) = false := by decide) :
    PE X (.Call (.Name a p1) [] [] p2) (fun σ H Q => σ[i]? = some (some (.ref f)) ∧ ∃ (E : XK) (Q0 : VK), (∀ cls d H', E cls d H' → W cls d σ H') ∧ (∀ v H', Q0 v H' → Q v H') ∧ tl E H Q0) := by
  refine ⟨fun pins s σ H Q I ⟨hs, E, Q0, hW, hQ, ht⟩ => ?_⟩
  refine wpAny_Call_Name_kw (thn ((pe_var (pos := p1) (i := i) hN hv hd hcd).run pins s σ H (fun v H1 => v = .ref f ∧ H1 = H) I ⟨.ref f, hs, rfl, rfl⟩) fun u s1 ⟨v, H1, I1, r1, ev, eH⟩ => ?_)
  subst ev eH
  obtain rfl : u = Value.ref f := r1
  have AH := AC.here hex I1
  have AU := I1.base
  rw [hex] at AU
  refine PySem.W.callWith_F0 AH.is ?_
  refine wpAny_call (codeAny_mono (AC.act X.A X.stack s1 _ Q0 E gd hr I1.env0 AU ht) fun r s' hq => ?_)
  match r, hq with
  | .error e, hq => exact tk e s' (XE.of_call I1 hW hq)
  | .ok (.ret u), hq =>
    obtain ⟨v, H', I2, rv, q⟩ := I1.after hq
    exact ⟨v, H', I2, rv, hQ v H' q⟩
  | .ok .next, hq => exact False.elim hq
  | .ok .brk, hq => exact False.elim hq
  | .ok .cont, hq => exact False.elim hq
end Lm

namespace Lm
open PySem PySem.Spec PyProof.Rows L2
open LamX (CodeO TabS Tabs ExtN TabB LamS lamCx lamEnv)

/-! ## A def whose code object is known -/
section
variable {P : Program} {w : World} {K : PySem.W.Frag} {mg : Str → Option Value} {base : Heap} {CX : CXT} {k : Nat} {fd : FuncData} {ps : List Str} {sp : Sp}
theorem code_known {p : Str × Option Str} {x qual : Str} {params : Arguments} {body : List Stmt} {scope : Scope} {dvs : List V} {kws : List (Str × V)} (F : FunD K x qual params body scope dvs kws (He.fAd K p) fd) : fd.code = .ref (He.codeOf K p) := by
  obtain ⟨oc, od, dV, kV, doc, pm, an, cdv, ct, osl, rfl, look, code, _, _⟩ := F.ex
  obtain ⟨c, rfl⟩ := He.codeIn_ref code
  exact congrArg Value.ref (He.codeOf_eq look rfl).symm
theorem FnG.madeC {p : Str × Option Str} {x qual : Str} {params : Arguments} {body : List Stmt} {scope : Scope} {dvs : List V} {kws : List (Str × V)} {N : List Str}
    (F : FunD K x qual params body scope dvs kws (He.fAd K p) fd) (S : FnScope N ps scope) (many : ∀ vs H Q E, sp vs H Q E → vs.length = ps.length)
    (walk : ∀ (A : Around) (outer : List Env) (s : Shared) (H : Hp) (vs : List V) (Q : VK) (E : XK), A.guards = some [] → Room k (A.deeper (envOfC qual scope s.heap.objs.size (He.fAd K p) (.ref (He.codeOf K p)))) → sp vs H Q E →
      ∃ t, PSs (cxOf CX P w K mg base N qual scope (He.fAd K p) (.ref (He.codeOf K p)) A outer s H E) body t ∧ t { nx := fun _ H' => Q .non H', rt := Q } (start N vs) H) :
    FnG P w K mg base CX (k + 1) (He.fAd K p) fd ps sp := by
  have cc := code_known F
  obtain ⟨oc, od, dV, kV, doc, pm, an, cdv, ct, osl, rfl, look, code, _, _⟩ := F.ex
  obtain rfl : cdv = .ref (He.codeOf K p) := cc
  refine ⟨many, fun A outer s H args us vs Q E gd hr e0 hb r hsp => ?_⟩
  exact LamX.run_ofS look code S hr e0 hb r (many _ _ _ _ hsp) fun hr' => walk A outer s H vs Q E gd hr' hsp
end

/-! ## Errors that are raised -/
/-- a caught error of the class named x, that keeps v -/
def ErrR (K : PySem.W.Frag) (H : Hp) (a : Addr) (x : Str) (v : V) : Prop := ∃ d, H a = some (exr a (He.ga K x) (some d)) ∧ H d = some (.xd [("value", v)])
/-- what a law asks of the errors that are named ns -/
structure ErrL (P : Program) (w : World) (K : PySem.W.Frag) (mg : Str → Option Value) (base : Heap) (ns : List Str) : Prop where
  m : ∀ {x : Str}, x ∈ ns → mg x = some (.ref (He.ga K x))
  mM : mg "MirrorError" = some (.ref (He.ga K "MirrorError"))
  ini : ∃ (fI : Addr) (fd : FuncData), (∀ x ∈ ns, ErrC K (He.ga K x) fI) ∧ PySem.W.typeIn K (.ref fI) = some (.type "function") ∧ FnOk P w K mg base CX0 1 fI fd ["self", "value"] (spErr K) ∧ Binds K fd ["self", "value"] []
  exm : ∀ x ∈ ns, PySem.W.exmOne K (.ref (He.ga K x)) (.ref (He.ga K "MirrorError")) = some true
  kit : ∀ x ∈ ns, ∀ y ∈ ns, PySem.W.kitOne K (.ref (He.ga K x)) (.ref (He.ga K y)) = some (decide (x = y))
  kitN : ∀ y ∈ ns, PySem.W.kitOne K (.type "NoneType") (.ref (He.ga K y)) = some false
def errLB (K : PySem.W.Frag) (ns : List Str) : Bool := decide (PySem.W.typeIn K (.ref (iniA K)) = some (.type "function")) && (ns.all fun x => errB K x && (decide (PySem.W.exmOne K (.ref (He.ga K x)) (.ref (He.ga K "MirrorError")) = some true) &&
  (decide (PySem.W.kitOne K (.type "NoneType") (.ref (He.ga K x)) = some false) && ns.all fun y => decide (PySem.W.kitOne K (.ref (He.ga K x)) (.ref (He.ga K y)) = some (decide (x = y))))))
theorem errLB_ok {P : Program} {w : World} {K : PySem.W.Frag} {mg : Str → Option Value} {base : Heap} {fd : FuncData} {ns : List Str} (h : errLB K ns = true) (m : ∀ {x : Str}, x ∈ ns → mg x = some (.ref (He.ga K x))) (mM : mg "MirrorError" = some (.ref (He.ga K "MirrorError")))
    (F : FnOk P w K mg base CX0 1 (iniA K) fd ["self", "value"] (spErr K)) (b : Binds K fd ["self", "value"] []) : ErrL P w K mg base ns := by
  obtain ⟨h1, h2⟩ := He.ba h
  have at_ : ∀ x ∈ ns, errB K x = true ∧ PySem.W.exmOne K (.ref (He.ga K x)) (.ref (He.ga K "MirrorError")) = some true ∧ PySem.W.kitOne K (.type "NoneType") (.ref (He.ga K x)) = some false ∧ ∀ y ∈ ns, PySem.W.kitOne K (.ref (He.ga K x)) (.ref (He.ga K y)) = some (decide (x = y)) := fun x hx => by
    obtain ⟨a1, a⟩ := He.ba (List.all_eq_true.mp h2 x hx)
    obtain ⟨a2, a⟩ := He.ba a
    obtain ⟨a3, a4⟩ := He.ba a
    exact ⟨a1, of_decide_eq_true a2, of_decide_eq_true a3, fun y hy => of_decide_eq_true (List.all_eq_true.mp a4 y hy)⟩
  exact ⟨m, mM, ⟨iniA K, fd, fun x hx => errB_ok (at_ x hx).1, of_decide_eq_true h1, F, b⟩, fun x hx => (at_ x hx).2.1, fun x hx => (at_ x hx).2.2.2, fun x hx => (at_ x hx).2.2.1⟩
/-- raise Err(e): what is wished of it -/
def tRaise (K : PySem.W.Frag) (x : Str) (ta : TA) : L2.St → Hp → XK → Prop := tMkO (He.ga K x) (spErr K) [] ta
section
variable {X : Cx} {j : Nat} {x : Str} {e : Expr} {p pos : Pos} {ta : TA} {ns : List Str}
theorem pmk_err (Z : ErrL X.prog X.w X.K X.mg X.base ns) (hx : x ∈ ns) (hr : Room j X.A) (hj : 2 ≤ j) (hg : Gl X x) (ha : PA X [e] ta)
    (hdb : (x == ("__debug__" : Str)) = false := by decide) (he : starEach [e] X.env = (false, eval e X.env) :: starEach [] X.env := by rfl) (hpl : (backTo pos (starEach [] X.env)).any (·.1) = false := by rfl) :
    PMk X (.Call (.Name x p) [e] [] pos) (tRaise X.K x ta) := by
  obtain ⟨fI, fd, h1, tI, F, b⟩ := Z.ini
  have C := h1 x hx
  exact pmk_oex C.T C.iC tI F (hr.mono hj) b .nil pass0 hg (Z.m hx) ha hdb he hpl
end
theorem raise_ok {P : Program} {w : World} {K : PySem.W.Frag} {mg : Str → Option Value} {base : Heap} {ns : List Str} {x : Str} {te : TE} {σ : L2.St} {H : Hp} {E : XK} (Z : ErrL P w K mg base ns) (hx : x ∈ ns)
    (h : te σ H fun v H1 => ∀ d H2, Same H1 H2 → H1 d = none → H2 d = some (.xd [("value", v)]) → E (.ref (He.ga K x)) (some d) H2)
    (mono : ∀ {Q Q' : VK}, te σ H Q → (∀ v H', Q v H' → Q' v H') → te σ H Q') : tRaise K x (tCons te tNil) σ H E := by
  obtain ⟨fI, _, hC, _⟩ := Z.ini
  have C := hC x hx
  refine mono h fun v H1 k => ⟨(by decide : 1 ≤ 1000), fun a ha => ⟨a, _, v, rfl, C.T, C.nv, upd_same, fun dx hdx hne => ⟨rfl, dx, _, upd_same, ?_, ?_, k dx _ (fun b o hb => ?_) ?_ upd_same⟩⟩⟩
  · rw [upd_ne hne]
    exact upd_same
  · rw [upd_ne hne] at hdx
    exact hdx
  · have nd : H1 dx = none := by
      rw [upd_ne hne] at hdx
      exact hdx
    have n1 : b ≠ a := ne_of_none hb ha
    have n2 : b ≠ dx := ne_of_none hb nd
    rw [upd_ne n2, del_ne n1, upd_ne n1, upd_ne n2, upd_ne n1]
    exact hb
  · rw [upd_ne hne] at hdx
    exact hdx

/-! ## told: the error that was caught, or what came back -/
def spTold (K : PySem.W.Frag) : SpF := fun tl vs H0 Q => vs = [] ∧ ∀ H, Same H0 H → tl (fun cls d H' => ∃ C : Addr, cls = .ref C ∧ PySem.W.exmOne K cls (.ref (He.ga K "MirrorError")) = some true ∧ ∀ a, H' a = none → ∀ p, upd H' a (exr a C d) p = none → Q (.ref p) (upd (upd H' a (exr a C d)) p (.tup [.ref a, .non])))
  H (fun v H' => ∀ p, H' p = none → Q (.ref p) (upd H' p (.tup [.non, v])))

/-! ## Where tables of code objects grow -/
/-- what was tracked is as it was, but for a and tables -/
def KeptT (a : Addr) (H H' : Hp) : Prop := ∀ b o, H b = some o → b ≠ a → (∀ ps, o ≠ .tbl ps) → H' b = some o
theorem KeptT.refl {a : Addr} {H : Hp} : KeptT a H H := fun _ _ e _ _ => e
theorem KeptT.trans {a : Addr} {H1 H2 H3 : Hp} (h : KeptT a H1 H2) (k : KeptT a H2 H3) : KeptT a H1 H3 := fun b o e n t => k b o (h b o e n t) n t
theorem KeptT.but {a : Addr} {H H' : Hp} (h : KeptBut a H H') : KeptT a H H' := fun b o e n _ => h b o e n
theorem KeptT.same {a : Addr} {H H' : Hp} (h : Same H H') : KeptT a H H' := fun b o e _ _ => h b o e
theorem KeptT.ext {a : Addr} {H H' : Hp} (h : ExtN H H') : KeptT a H H' := fun b o e _ t => h b o e t
theorem ScL.keptT {K : PySem.W.Frag} {H H' : Hp} {a q : Addr} {xs : List V} (h : ScL K H a xs) (kb : KeptT q H H') (n : ∀ o u, H q ≠ some (.frz o u)) : ScL K H' a xs := by
  rcases h with ⟨o, h⟩ | h
  · exact .inl ⟨o, kb _ _ h (fun z => n _ _ (by rw [← z]; exact h)) fun ps z => nomatch z⟩
  · exact .inr h
theorem PotAt.keptT {H H' : Hp} {a q : Addr} {n : Nat} (h : PotAt H a n) (kb : KeptT q H H') (ne : a ≠ q) : PotAt H' a n := by
  obtain ⟨p0, p1, p2, e, b⟩ := h
  exact ⟨p0, p1, p2, kb _ _ e ne (fun ps z => nomatch z), b⟩
def spRightT (T : List (Addr × Str)) : Sp := fun vs H Q _ => ∃ a : Addr, vs = [.ref a] ∧ PotAt H a 0 ∧ Tabs T H ∧ ∀ H', KeptT a H H' → Tabs T H' → Q (.bl true) H'
def spLawT (K : PySem.W.Frag) (T : List (Addr × Str)) : Sp := fun vs H Q _ => ∃ (a : Addr) (ns : List Int), vs = [.ref a] ∧ ScL K H a (ns.map V.int) ∧ ns.length ≤ 63 ∧ Tabs T H ∧ ∀ H', Q (.bl true) H'
theorem tabs_same {T : List (Addr × Str)} {H H' : Hp} (t : Tabs T H) (s : Same H H') : Tabs T H' := LamX.Tabs.ext t s

/-! ## The end of a law that makes lambdas -/
section
variable {P : Program} {w : World} {K : PySem.W.Frag} {mg mb : Str → Option Value} {k : Nat} {fa a : Addr} {fd : FuncData} {x : Str} {sp : Sp} {s₁ : Shared} {vs : List Value} {ns : List Int} {cs : List (Addr × Addr)}
theorem lawT_core (H : Hp) (KX : K.In s₁.heap) (hns : s₁.heap.Ns mainGlobals mg) (hb : s₁.heap.Ns builtinsNs mb) (hbb : ∀ x : Str, x ≠ "__name__" → mb x = bootBuiltins x) (hlim : s₁.heap.NoLimit) (hmo : ∃ mm, s₁.heap.Ns sysModules mm) (hdg : ∃ mc, s₁.heap.Ns cStatics mc ∧ mc "sys.int_max_str_digits" = none) (hg : s₁.gens = #[])
    (hT : ∀ p ∈ cs, s₁.heap.get? p.2 = some { cls := .none, data := .fields #[] }) (nT : ∀ p ∈ cs, K.lookup p.2 = none) (hC : ∀ p ∈ cs, PySem.W.CodeHd s₁.heap p.1 p.2)
    (hbm : ∃ (bm : Addr) (ob : Obj), mg "__builtins__" = some (.ref bm) ∧ bm ≠ builtinsNs ∧ s₁.heap.get? bm = some ob ∧ ob.cls = .type "module" ∧ ob.dict = some builtinsNs ∧ ob.data = .plain)
    (ha : s₁.heap.get? a = some { cls := .type "list", data := .seq vs.toArray }) (hr : Room k callerA) (F : ∀ base : Heap, LawHeap K mg base → (∀ p ∈ cs, TabB base mg p.1 p.2) → FnG P w K mg base CX0 k fa fd [x] sp)
    (hbind : ∀ (s : Shared) (u : Value), BindsTo s fd ⟨[u], []⟩ [(x, u)]) (hsp : sp [.ref a] H (fun v _ => v = .bl true) E0)
    (hH : ∀ p ∈ cs, H p.2 = some (.tbl #[])) (hok : HOk P w H s₁.heap) (only : ∀ b u, H b = some u → (b = a ∧ K.lookup a = none ∧ ∃ o xs, u = .frz o (.lst xs)) ∨ ∃ p ∈ cs, b = p.2) :
    codeAny (model P w) callerA (.call (.ref fa) ⟨[.ref a], []⟩) (LawEnd s₁) s₁ := by
  have noH : ∀ {b : Addr} {o : Obj}, s₁.heap.get? b = some o → (∀ vs n, o.data ≠ .seq vs n) → o.data ≠ .fields #[] → H b = none := fun {b o} e h1 h2 => by
    cases q : H b with
    | none => rfl
    | some u =>
      rcases only b u q with ⟨z, _⟩ | ⟨p, hp, z⟩
      · rw [z, ha] at e
        cases e
        exact (h1 _ _ rfl).elim
      · rw [z, hT p hp] at e
        cases e
        exact (h2 rfl).elim
  have ns_ : ∀ {b : Addr} {m : Str → Option Value}, s₁.heap.Ns b m → (hidT s₁.heap H).Ns b m := by
    rintro b m ⟨o, es, ep, e, d, r⟩
    exact ⟨o, es, ep, hidT_get e (noH e (fun _ _ z => by rw [d] at z; cases z) fun z => by rw [d] at z; cases z), d, r⟩
  have kin : K.In (hidT s₁.heap H) := fun b o e => hidT_get (KX b o e) (by
    cases q : H b with
    | none => rfl
    | some u =>
      rcases only b u q with ⟨z, z2, _⟩ | ⟨p, hp, z⟩
      · rw [z, z2] at e
        cases e
      · rw [z, nT p hp] at e
        cases e)
  have base : LawHeap K mg (hidT s₁.heap H) := ⟨kin, ns_ hns, let ⟨mm, h⟩ := hmo; ⟨mm, ns_ h⟩, let ⟨mc, h, e⟩ := hdg; ⟨mc, ns_ h, e⟩⟩
  have TB : ∀ p ∈ cs, TabB (hidT s₁.heap H) mg p.1 p.2 := fun p hp => by
    refine ⟨?_, ?_, fun z => ?_⟩
    · obtain ⟨o, us, file, tf, flags, tg, inF, text, tt, e1, r1, r2, r3, r4, r5, r6, r7, r8, hne⟩ := hC p hp
      refine ⟨o, us, file, tf, flags, tg, inF, text, tt, hidT_get e1 (noH e1 (fun _ _ z => by rw [r2] at z; cases z) fun z => ?_), r1, r2, r3, r4, r5, r6, r7, r8, hne⟩
      rw [r2] at z
      cases z
      simp at r3
    · obtain ⟨bm, ob, b1, b2, b3, b4, b5, b6⟩ := hbm
      refine ⟨bm, ob, b1, b2, fun q => ?_, fun q => ?_, hidT_get b3 (noH b3 (fun _ _ z => by rw [b6] at z; cases z) fun z => by rw [b6] at z; cases z), b4, b5, b6⟩
      · obtain ⟨o, es, ep, e, hd, _⟩ := hns
        rw [q, e] at b3
        cases b3
        rw [hd] at b6
        cases b6
      · rw [q, hT p hp] at b3
        cases b3
        cases b6
    · obtain ⟨o, es, ep, e, hd, _⟩ := hns
      rw [z, hT p hp] at e
      cases e
      cases hd
  have e0 : Env0 P w K mg (hidT s₁.heap H) callerA [] s₁ H := ⟨rfl, ⟨kin, base.glob, ⟨mb, ns_ hb, hbb⟩, let ⟨mc, h1, h2⟩ := hlim; ⟨mc, ns_ h1, h2⟩⟩, fun b o e => of_hidT e, Nat.le_of_eq (hidT_size _ _), trivial, fun b hb => absurd (show b ∈ ([] : List Addr) from hb) (by simp), hok, .of_eq hg⟩
  refine codeAny_mono ((F _ base TB).goes callerA [] s₁ H ⟨[.ref a], []⟩ [.ref a] [.ref a] _ _ rfl hr e0 (hbind s₁ (.ref a)) (.cons rfl .nil) hsp) fun r s' h => ?_
  match r, h with
  | .error e, h => exact False.elim h
  | .ok .next, h => exact False.elim h
  | .ok .brk, h => exact False.elim h
  | .ok .cont, h => exact False.elim h
  | .ok (.ret u), ⟨v, H', os, bare, un, hok', r', q⟩ =>
    obtain rfl : v = .bl true := q
    obtain rfl : u = Value.bool true := r'
    have grown : ∀ p ∈ cs, ∃ more : Array Value, s'.heap.get? p.2 = some { cls := .none, data := .fields more } := fun p hp => by
      obtain ⟨more, z⟩ := un.tbls p.2 #[] (hH p hp)
      exact ⟨_, hok' p.2 _ z⟩
    have kept : ∀ b o, s₁.heap.get? b = some o → s'.heap.get? b = some o ∨ ∃ p ∈ cs, b = p.2 := fun b o e => by
      cases q : H b with
      | none => exact .inl (un.keep b o e q (fun h => absurd (show b ∈ ([] : List Addr) from h) (by simp)) (by simp))
      | some u =>
        rcases only b u q with ⟨_, _, ob, xs, z⟩ | z
        · rw [z] at q
          have e1 := (hok b _ q).1
          have e2 := (hok' b _ (un.frzs b _ _ q)).1
          rw [e] at e1
          cases e1
          exact .inl e2
        · exact .inr z
    refine ⟨rfl, ⟨fun b o e => ?_, fun b o e => ?_⟩, os, bare⟩
    · rcases kept b o e with z | ⟨p, hp, rfl⟩
      · exact .inl z
      · obtain ⟨more, m⟩ := grown p hp
        rw [hT p hp] at e
        cases e
        exact .inr (.inl ⟨((hC p hp).tab (hT p hp)).isCodeTable, rfl, #[], more, rfl, by rw [Array.empty_append]; exact m⟩)
    · rcases kept b o e with z | ⟨p, hp, rfl⟩
      · exact ⟨o, z⟩
      · obtain ⟨more, m⟩ := grown p hp
        exact ⟨_, m⟩
theorem lawT_call (KX : K.In s₁.heap) (hns : s₁.heap.Ns mainGlobals mg) (hb : s₁.heap.Ns builtinsNs mb) (hbb : ∀ x : Str, x ≠ "__name__" → mb x = bootBuiltins x) (hlim : s₁.heap.NoLimit) (hmo : ∃ mm, s₁.heap.Ns sysModules mm) (hdg : ∃ mc, s₁.heap.Ns cStatics mc ∧ mc "sys.int_max_str_digits" = none) (hg : s₁.gens = #[])
    (hT : ∀ p ∈ cs, s₁.heap.get? p.2 = some { cls := .none, data := .fields #[] }) (nT : ∀ p ∈ cs, K.lookup p.2 = none) (hC : ∀ p ∈ cs, PySem.W.CodeHd s₁.heap p.1 p.2)
    (hbm : ∃ (bm : Addr) (ob : Obj), mg "__builtins__" = some (.ref bm) ∧ bm ≠ builtinsNs ∧ s₁.heap.get? bm = some ob ∧ ob.cls = .type "module" ∧ ob.dict = some builtinsNs ∧ ob.data = .plain)
    (ha : s₁.heap.get? a = some { cls := .type "list", data := .seq vs.toArray }) (hi : IntsAre vs ns) (hl : ns.length ≤ sizeLine) (hr : Room k callerA) (F : ∀ base : Heap, LawHeap K mg base → (∀ p ∈ cs, TabB base mg p.1 p.2) → FnG P w K mg base CX0 k fa fd [x] sp)
    (hbind : ∀ (s : Shared) (u : Value), BindsTo s fd ⟨[u], []⟩ [(x, u)]) (hsp : ∀ H : Hp, (∀ p ∈ cs, H p.2 = some (.tbl #[])) → ScL K H a (ns.map V.int) → sp [.ref a] H (fun v _ => v = .bl true) E0) :
    codeAny (model P w) callerA (.call (.ref fa) ⟨[.ref a], []⟩) (LawEnd s₁) s₁ := by
  have rv := vals_ints hi
  have aT : ∀ p ∈ cs, p.2 ≠ a := fun p hp z => by
    have q := hT p hp
    rw [z, ha] at q
    cases (congrArg Obj.data (Option.some.inj q) : Data.seq _ _ = Data.fields #[])
  have tabs : ∀ {b : Addr}, (∃ p ∈ cs, b = p.2) → s₁.heap.get? b = some { cls := .none, data := .fields #[] } := fun ⟨p, hp, z⟩ => by
    rw [z]
    exact hT p hp
  cases hk : K.lookup a with
  | some o =>
    have e := KX a o hk
    rw [ha] at e
    cases e
    refine lawT_core (fun b => if b ∈ cs.map (·.2) then some (.tbl #[]) else none) KX hns hb hbb hlim hmo hdg hg hT nT hC hbm ha hr F hbind (hsp _ (fun p hp => if_pos (List.mem_map.mpr ⟨p, hp, rfl⟩)) (.inr fun H' => .inr ⟨_, vs.toArray, _, hk, rfl, rfl, rfl, by rw [List.size_toArray, hi.length]; exact hl, by simpa using rv⟩))
      (fun p hp => if_pos (List.mem_map.mpr ⟨p, hp, rfl⟩)) (fun b u z => ?_) fun b u z => ?_
    all_goals
      by_cases m : b ∈ cs.map (·.2)
      · obtain ⟨p, hp, y⟩ := List.mem_map.mp m
        first
          | exact .inr ⟨p, hp, y.symm⟩
          | (cases (if_pos m).symm.trans z
             exact tabs ⟨p, hp, y.symm⟩)
      · cases (if_neg m).symm.trans z
  | none =>
    have mine : ∀ p ∈ cs, (if p.2 = a then some (HO.frz { cls := .type "list", data := .seq vs.toArray } (.lst (ns.map V.int))) else if p.2 ∈ cs.map (·.2) then some (.tbl #[]) else none) = some (.tbl #[]) := fun p hp =>
      (if_neg (aT p hp)).trans (if_pos (List.mem_map.mpr ⟨p, hp, rfl⟩))
    refine lawT_core (fun b => if b = a then some (.frz { cls := .type "list", data := .seq vs.toArray } (.lst (ns.map V.int))) else if b ∈ cs.map (·.2) then some (.tbl #[]) else none) KX hns hb hbb hlim hmo hdg hg hT nT hC hbm ha hr F hbind
      (hsp _ mine (.inl ⟨{ cls := .type "list", data := .seq vs.toArray }, if_pos rfl⟩)) mine (fun b u z => ?_) fun b u z => ?_
    · by_cases y : b = a
      · cases (if_pos y).symm.trans z
        rw [y]
        exact ⟨ha, by rw [List.length_map]; exact hl, vs, _, rv, ha⟩
      · have z := (if_neg y).symm.trans z
        by_cases m : b ∈ cs.map (·.2)
        · obtain ⟨p, hp, q⟩ := List.mem_map.mp m
          cases (if_pos m).symm.trans z
          exact tabs ⟨p, hp, q.symm⟩
        · cases (if_neg m).symm.trans z
    · by_cases y : b = a
      · cases (if_pos y).symm.trans z
        exact .inl ⟨y, hk, _, _, rfl⟩
      · have z := (if_neg y).symm.trans z
        by_cases m : b ∈ cs.map (·.2)
        · obtain ⟨p, hp, q⟩ := List.mem_map.mp m
          exact .inr ⟨p, hp, q.symm⟩
        · cases (if_neg m).symm.trans z
theorem walkT {l : PySem.W.OpenLaw} {n k : Nat} {q : Program} {loose : List Str} {XP : (Str → Option Value) → Heap → Prop} {YP : World → Heap → Prop} {d : DefRec} {x : Str}
    (hn : l.most = some n) (hn2 : n ≤ sizeLine) (hdf : d.params.defaults = []) (hr : Room k callerA) (him : importsNone q = true)
    (F : ∀ (w : World) (mg : Str → Option Value) (fa : Addr) (h : Heap), YP w h → h.Ns mainGlobals mg → mg d.name = some (.ref fa) →
      ∃ (K : PySem.W.Frag) (fd : FuncData) (cs : List (Addr × Addr)) (sp : Sp), K.In h ∧ (∀ p ∈ cs, h.get? p.2 = some { cls := .none, data := .fields #[] }) ∧ (∀ p ∈ cs, K.lookup p.2 = none) ∧ (∀ p ∈ cs, PySem.W.CodeHd h p.1 p.2) ∧ (∀ (s : Shared) (u : Value), BindsTo s fd ⟨[u], []⟩ [(x, u)]) ∧
        (∀ (H : Hp) (a : Addr) (ns : List Int), ns.length ≤ n → (∀ p ∈ cs, H p.2 = some (.tbl #[])) → ScL K H a (ns.map V.int) → sp [.ref a] H (fun v _ => v = .bl true) E0) ∧
        ∀ base : Heap, LawHeap K mg base → (∀ p ∈ cs, TabB base mg p.1 p.2) → FnG l.prog w K mg base CX0 k fa fd [x] sp) :
    PySem.W.WalkO q loose XP YP l.row.toRowW d [] (fun f vs => PySem.call f vs) := by
  refine Att.attach_call hn hdf fun w s₀ s₁ mg mb fa o pm cd doc a vs ns G Y ho hd hcd hmg hobj hints hlen hg => ?_
  obtain ⟨K, fd, cs, sp, KX, hT, nT, hC, hb, hsp, hF⟩ := F w mg fa _ Y G.T.g hmg
  obtain ⟨mm, hmm, _⟩ := (G.T.seer him).mods
  exact lawT_call KX G.T.g G.T.b G.T.builtins G.T.nolimit ⟨mm, hmm⟩ G.T.nodigits hg hT nT hC G.T.bmain hobj hints (Nat.le_trans hlen hn2) hr hF hb fun H hH hS => hsp H a ns hlen hH hS
end
theorem codeO_lst {c : Addr} {q : Str} {xs : List V} : CodeO c q ≠ .lst xs := fun z => by
  unfold CodeO at z
  cases z
theorem tabs_put {T : List (Addr × Str)} {H : Hp} {D : Addr} {xs : List V} {o : HO} (t : Tabs T H) (h : H D = some (.lst xs)) : Tabs T (upd H D o) := fun p hp => by
  obtain ⟨ps, h1, h2, h3⟩ := t p hp
  refine ⟨ps, by rw [upd_ne (ne_of h1 h (fun z => nomatch z))]; exact h1, h2, fun pos cv hc => ?_⟩
  obtain ⟨c, e1, e2⟩ := h3 pos cv hc
  exact ⟨c, e1, by rw [upd_ne (ne_of e2 h codeO_lst)]; exact e2⟩
theorem tabs_pot {T : List (Addr × Str)} {H H' : Hp} {a : Addr} {n : Nat} (t : Tabs T H) (k : KeptBut a H H') (h : PotAt H a n) : Tabs T H' := fun p hp => by
  obtain ⟨_, _, _, e, _⟩ := h
  obtain ⟨ps, h1, h2, h3⟩ := t p hp
  refine ⟨ps, k _ _ h1 (ne_of h1 e (fun z => nomatch z)), h2, fun pos cv hc => ?_⟩
  obtain ⟨c, e1, e2⟩ := h3 pos cv hc
  exact ⟨c, e1, k _ _ e2 (ne_of e2 e codeO_lst)⟩
end Lm

namespace PySem.W
open PySem PySem.Calls PyProof.Rows
section
variable {prog : Program} {w : World} {A : Around} {E : Value → Shared → Prop} {s : Shared} {K : Frag} {x y C f : Addr} {ox oy : Obj} {od od' : Option Obj}
/-- x op y, both of one own class that has the operator -/
theorem lm_bin {op : Operator} {Q : Value → Shared → Prop} (X : K.In s.heap) (I : InstAt s.heap x ox C od) (J : InstAt s.heap y oy C od') (hc : selfFirst K C = true) (hs : findIn K (.ref C) (PySem.dunder op.info.2) = some (some (.ref f))) (hf : isFn K (.ref f) = true)
    (h : wpAny (model prog w) A (call (.ref f) [.ref x, .ref y]) (CmpBack Q) E s) : wpAny (model prog w) A (binaryOp op (.ref x) (.ref y)) Q E s := by
  obtain ⟨cd, rest, hcd, hm⟩ := ksp_first hc
  rcases hi : op.info with ⟨sym, nm'⟩
  rw [hi] at hs
  dsimp only at hs
  have one := ksp_try X I hs hf h
  obtain ⟨hh, g, d, tt, os⟩ := s
  have L1 : Looks (model prog w) hh (typeOf (.ref x)) (.ref C) := I.type
  have L2 : Looks (model prog w) hh (typeOf (.ref y)) (.ref C) := J.type
  have L3 : Looks (model prog w) hh (fillsNumberSlot (.ref C) nm') true := fills_K X hcd hm hs
  simp only [binaryOp, hi]
  refine wpAny_holding (wpAny_bind ?_)
  unfold binaryOp1
  refine wpAny_bind (L1.at (wpAny_bind (L2.at (wpAny_bind (L3.at ?_)))))
  have same : (Value.ref C == Value.ref C) = true := beq_self_eq_true _
  simp only [same, if_true]
  ksp_lk
  refine wpAny_mono one (fun r s' hr' => ?_) fun _ _ e => e
  obtain ⟨v, rfl, hq⟩ := hr'
  ksp_lk
  exact hq
end
end PySem.W
namespace Lm
open PySem PySem.Spec PyProof.Rows L2
/-! ## tuple * int, all counts from 0 -/
open SeqAt in
theorem tup_mul_same (l : Addr) (items : Array Value) (n : Nat) (dd : Option Addr) (sl : Array (Option Value)) (x : Int) (u : Tok) (c0 : (decide (x < -(2 ^ 63)) || decide (x ≥ 2 ^ 63)) = false) (c1 : (items.isEmpty || x == 1) = true) :
    Meets (Builtin.«tuple.__mul__» ⟨[.ref l, .int x u], []⟩) (fun _ R s => s.heap.get? l = some { cls := .type "tuple", dict := dd, data := .seq items n, slots := sl } ∧ R (.ok (.ret (.ref l))) s) :=
  .of_wp fun prog w A R s h => by
    obtain ⟨hp, g, d, tk, os⟩ := s
    obtain ⟨hl, h⟩ := h
    have f1 := AutoSeq1.idx_int
    wp_walk using wpAny_loadPart' hl
    repeat (first
      | (refine wpAny_ite_false (decide_eq_false (by rw [c0]; exact Bool.false_ne_true)) ?_; wp_walk using wpAny_loadPart' hl)
      | (refine wpAny_ite_true (decide_eq_true c1) ?_; wp_walk using wpAny_loadPart' hl))
    exact ⟨_, rfl, h⟩
open SeqAt in
theorem tup_mul_none (l : Addr) (items : Array Value) (n : Nat) (dd : Option Addr) (sl : Array (Option Value)) (x : Int) (u : Tok) (c0 : (decide (x < -(2 ^ 63)) || decide (x ≥ 2 ^ 63)) = false) (c1 : (items.isEmpty || x == 1) = false) (c2 : (decide (x ≤ 0) || items.isEmpty) = true) :
    Meets (Builtin.«tuple.__mul__» ⟨[.ref l, .int x u], []⟩) (fun _ R s => s.heap.get? l = some { cls := .type "tuple", dict := dd, data := .seq items n, slots := sl } ∧ R (.ok (.ret (Value.ref s.heap.objs.size))) { s with heap := s.heap.push { cls := Value.type "tuple", data := Data.seq #[] }, toks := s.toks }) :=
  .of_wp fun prog w A R s h => by
    obtain ⟨hp, g, d, tk, os⟩ := s
    obtain ⟨hl, h⟩ := h
    have f1 := AutoSeq1.idx_int
    wp_walk using wpAny_loadPart' hl
    repeat (first
      | (refine wpAny_ite_false (decide_eq_false (by rw [c0]; exact Bool.false_ne_true)) ?_; wp_walk using wpAny_loadPart' hl)
      | (refine wpAny_ite_false (decide_eq_false (by rw [c1]; exact Bool.false_ne_true)) ?_; wp_walk using wpAny_loadPart' hl)
      | (refine wpAny_ite_true (decide_eq_true c2) ?_; wp_walk using wpAny_loadPart' hl))
    exact ⟨_, rfl, h⟩
def rRep0 (K : PySem.W.Frag) : R2 := fun x y H Q => ∃ l k xs, x = .ref l ∧ y = .int k ∧ SqT K H l xs ∧ 0 ≤ k ∧ k ≤ 1000 ∧ (((xs = [] ∨ k = 1) ∧ Q (.ref l) H) ∨ (xs ≠ [] ∧ k = 0 ∧ ∀ p, H p = none → Q (.ref p) (upd H p (.tup []))))
theorem op_rep0 {X : Cx} : OpR X (binaryOp .Mult) (rRep0 X.K) := by
  intro pins s σ H x y v u Q I rx ry h
  obtain ⟨l, k, xs, rfl, rfl, hT, h1, h2, h⟩ := h
  cases rx
  obtain ⟨t, rfl⟩ := ry
  obtain ⟨its, r, ⟨⟨cls, dd, data, sl⟩, ho, hc, n, hd⟩, hs⟩ := I.tuple hT
  simp only at hc hd
  subst hc hd
  have hle : its.length = xs.length := r.length.symm
  have c0 : (decide (k < -(2 ^ 63)) || decide (k ≥ 2 ^ 63)) = false := by
    rw [decide_eq_false (by omega), decide_eq_false (by omega)] <;> rfl
  have emp : its.toArray.isEmpty = decide (xs = []) := by
    cases its with
    | nil =>
      cases xs with
      | nil => rfl
      | cons _ _ => cases hle
    | cons _ _ =>
      cases xs with
      | nil => cases hle
      | cons _ _ => rfl
  rcases h with ⟨h, q⟩ | ⟨ne, rfl, q⟩
  · have c1 : (its.toArray.isEmpty || k == 1) = true := by
      rw [emp]
      rcases h with rfl | rfl
      · rfl
      · rw [Bool.or_eq_true]
        exact .inr rfl
    exact wpAny_binaryOp_repeat_ref (T := "tuple") (U := "int") (by decide) ⟨_, ho, rfl⟩ (fun s' => typeIs_int s' k t) noFill_tuple_mul F.fills_int_mul F.slot_int_rmul repeat_tuple F.slot_int_index.lookup
      (call_meets F.slot_int_rmul (typeIs_int s k t) F.entry_int_rmul (F.args_int_rmul_2 _ _) (int_rmul_tuple k t l its.toArray n dd sl)
        ⟨ho, rfl, ⟨_, ho, rfl⟩, call_meets F.slot_tuple_mul ⟨_, ho, rfl⟩ F.entry_tuple_mul (F.args_tuple_mul_2 _ _) (tup_mul_same l its.toArray n dd sl k t c0 c1) ⟨ho, .ref l, H, I, rfl, q⟩⟩)
  · have c1 : (its.toArray.isEmpty || (0 : Int) == 1) = false := by
      rw [emp, decide_eq_false ne] <;> rfl
    have c2 : (decide ((0 : Int) ≤ 0) || its.toArray.isEmpty) = true := rfl
    refine wpAny_binaryOp_repeat_ref (T := "tuple") (U := "int") (by decide) ⟨_, ho, rfl⟩ (fun s' => typeIs_int s' 0 t) noFill_tuple_mul F.fills_int_mul F.slot_int_rmul repeat_tuple F.slot_int_index.lookup
      (call_meets F.slot_int_rmul (typeIs_int s 0 t) F.entry_int_rmul (F.args_int_rmul_2 _ _) (int_rmul_tuple 0 t l its.toArray n dd sl)
        ⟨ho, rfl, ⟨_, ho, rfl⟩, call_meets F.slot_tuple_mul ⟨_, ho, rfl⟩ F.entry_tuple_mul (F.args_tuple_mul_2 _ _) (tup_mul_none l its.toArray n dd sl 0 t c0 c1 c2) ⟨ho, ?_⟩⟩)
    refine ⟨.ref s.heap.objs.size, _, I.laid (t' := s.toks) (o := .tup []) (fun b ob q => Heap.get?_push_of_some _ q) (Nat.le_refl _) ?_, rfl, q _ (I.hok.fresh (Nat.le_refl _))⟩
    exact ⟨Nat.zero_le _, [], .nil, IsTup.new _ _⟩
theorem op_repA {X : Cx} : OpR X (binaryOp .Mult) (fun x y H Q => rRep0 X.K x y H Q ∨ rRepT X.K x y H Q) := op_rep0.or op_repT

/-! ## Operators of an own class -/
/-- what an own class says of its operator's def at f -/
structure OpD (K : PySem.W.Frag) (C : Addr) (name : Str) (f : Addr) : Prop where
  at_ : PySem.W.findIn K (.ref C) name = some (some (.ref f))
  fn : PySem.W.isFn K (.ref f) = true
  first : PySem.W.selfFirst K C = true
def rOwn (C : Addr) (sp : Sp) (E : XK) : R2 := fun x y H Q => ∃ a b dx dy fs gs, x = .ref a ∧ y = .ref b ∧ H a = some (.ins C dx fs) ∧ H b = some (.ins C dy gs) ∧ sp [.ref a, .ref b] H Q E
theorem back_of {v : V} {u : Value} {s : Shared} {Q : Value → Shared → Prop} (r : RelV v u) (q : Q u s) : PySem.W.CmpBack Q u s := by
  cases v with
  | non => cases r; exact q
  | bl b => cases r; exact q
  | int i => obtain ⟨t, rfl⟩ := r; exact q
  | str x => obtain ⟨t, rfl⟩ := r; exact q
  | byt x => obtain ⟨t, rfl⟩ := r; exact q
  | flt x => obtain ⟨t, rfl⟩ := r; exact q
  | ref a => cases r; exact q
  | ty n => cases r; exact q
section
variable {X : Cx} {CX : CXT} {k : Nat} {C f : Addr} {fd : FuncData} {ps : List Str} {sp : Sp} {E : XK}
theorem own_call {pins : List (Addr × Obj)} {s : Shared} {σ : L2.St} {H : Hp} {a b : Addr} {Q : VK} (F : FnOk X.prog X.w X.K X.mg X.base CX k f fd ps sp) (hr : Room k X.A) (hb : Binds X.K fd ps []) (hx : Passes CX X E) (I : Inv X pins σ H s) (q : sp [.ref a, .ref b] H Q E) :
    wpAny (model X.prog X.w) X.A (call (.ref f) [.ref a, .ref b]) (PySem.W.CmpBack (EP X pins σ Q)) X.xe s :=
  thn (run_fn (us := [.ref a, .ref b]) (vs := [.ref a, .ref b]) F hr hb .nil hx I (.cons rfl (.cons rfl .nil)) (by rw [List.append_nil]; exact q)) fun u s' h => by
    obtain ⟨v, H', I', r, q'⟩ := h
    exact back_of r ⟨v, H', I', r, q'⟩
theorem op_own {op : Operator} (D : OpD X.K C (PySem.dunder op.info.2) f) (F : FnOk X.prog X.w X.K X.mg X.base CX k f fd ps sp) (hr : Room k X.A) (hb : Binds X.K fd ps []) (hx : Passes CX X E) : OpR X (binaryOp op) (rOwn C sp E) := by
  intro pins s σ H x y v u Q I rx ry h
  obtain ⟨a, b, dx, dy, fs, gs, rfl, rfl, ha, hb', q⟩ := h
  cases rx
  cases ry
  obtain ⟨mA, J, _⟩ := ins_get I.hok ha
  obtain ⟨mB, J', _⟩ := ins_get I.hok hb'
  obtain ⟨od, J, _⟩ := J.look
  obtain ⟨od', J', _⟩ := J'.look
  exact PySem.W.lm_bin I.kIn J J' D.first D.at_ D.fn (own_call F hr hb hx I q)
theorem op_ownEq (D : OpD X.K C "__eq__" f) (F : FnOk X.prog X.w X.K X.mg X.base CX k f fd ps sp) (hr : Room k X.A) (hb : Binds X.K fd ps []) (hx : Passes CX X E) : OpR X (compareOp .Eq) (rOwn C sp E) := by
  intro pins s σ H x y v u Q I rx ry h
  obtain ⟨a, b, dx, dy, fs, gs, rfl, rfl, ha, hb', q⟩ := h
  cases rx
  cases ry
  obtain ⟨mA, J, _⟩ := ins_get I.hok ha
  obtain ⟨mB, J', _⟩ := ins_get I.hok hb'
  obtain ⟨od, J, _⟩ := J.look
  obtain ⟨od', J', _⟩ := J'.look
  obtain ⟨m, hF⟩ := I.fr
  exact PySem.W.cmp_K (op := .Eq) (tb := .ref C) hr.units0 hF I.ok.mod.kin J J'.type (by simp [PySem.W.notFirst]) D.at_ D.fn (own_call F hr hb hx I q)
end
/-- a class that may be made, its __init__ may raise -/
structure MakX (P : Program) (w : World) (K : PySem.W.Frag) (mg : Str → Option Value) (base : Heap) (k : Nat) (x : Str) (C : Addr) (sp : Sp) : Prop where
  ex : ∃ (f : Addr) (fd : FuncData) (ps : List Str), Mk K C f ∧ FnOk P w K mg base (L2.CX P w) k f fd ps sp ∧ mg x = some (.ref C) ∧ Binds K fd ps []
/-- a method that may raise -/
structure MetX (P : Program) (w : World) (K : PySem.W.Frag) (mg : Str → Option Value) (base : Heap) (k : Nat) (C : Addr) (m : Str) (sp : Sp) : Prop where
  ex : ∃ (f : Addr) (fd : FuncData) (ps : List Str), Cls K C ∧ Meth K C m f ∧ FnOk P w K mg base (L2.CX P w) k f fd ps sp ∧ Binds K fd ps []
section
variable {X : Cx} {k j : Nat} {C : Addr} {x m : Str} {sp : Sp} {p pos apos : Pos} {e o : Expr} {es : List Expr} {ta : TE} {t : TA} {E : XK}
theorem pe_mkX (c : MakX X.prog X.w X.K X.mg X.base k x C sp) (hx : Passes (L2.CX X.prog X.w) X E) (hr : Room j X.A) (hk : k + 1 ≤ j) (hg : Gl X x) (ha : PA X (e :: es) t)
    (hdb : (x == ("__debug__" : Str)) = false := by decide) (he : starEach (e :: es) X.env = (false, eval e X.env) :: starEach es X.env := by rfl) (hpl : (backTo pos (starEach es X.env)).any (·.1) = false := by rfl) :
    PE X (.Call (.Name x p) (e :: es) [] pos) (tMake C sp [] E t) := by
  obtain ⟨f, fd, ps, M, F, hm, b⟩ := c.ex
  exact pe_make M F (hr.mono hk) hg hm b .nil hx ha hdb he hpl
theorem pe_mtX {pl : Sem Bool} (c : MetX X.prog X.w X.K X.mg X.base k C m sp) (hx : Passes (L2.CX X.prog X.w) X E) (hr : Room j X.A) (hk : k ≤ j) (he : PE X o ta) (ha : PA X (e :: es) t)
    (hst : starEach (e :: es) X.env = (false, eval e X.env) :: starEach es X.env := by rfl) (hpl : (backTo pos (starEach es X.env)).any (·.1) = false := by rfl)
    (ht : eval (.Call (.Attribute o m apos) (e :: es) [] pos) X.env = (do
      let ov ← eval o X.env
      standAt apos.atName
      let (f, first) ← holding [ov] (getMethod ov m pl)
      callWith pos f first (backTo pos (starEach (e :: es) X.env)) (backToKw pos (keywordEach [] X.env))) := by rfl) :
    PE X (.Call (.Attribute o m apos) (e :: es) [] pos) (tMeth C m sp [] E ta t) := by
  obtain ⟨f, fd, ps, hc, hm, F, b⟩ := c.ex
  exact pe_meth (pl := pl) he hc hm F (hr.mono hk) b .nil hx ha hst hpl ht
/-- what is never come to -/
theorem pe_no : PE X e (fun _ _ _ => False) := ⟨fun _ _ _ _ _ _ h => h.elim⟩
end
end Lm

namespace Lm
open PySem PySem.Spec PyProof.Rows L2

/-! ## Scripts: rows of names, joined by a blank -/
def nameB (x : Str) : Bool := !decide ((8 : Int) < (x.length : Nat)) && (Txt.isascii x && (Txt.isalpha x && Txt.islower x))
def namesOf (x : Str) : List Str := if x.length = 0 then [] else Txt.split x " "
def rowB (x : Str) : Bool := decide (((namesOf x).length : Int) ≤ 24) && (namesOf x).all nameB
def joined (ns : List Str) : Str := Txt.join " " ns
structure RowOk (ns : List Str) : Prop where
  few : ns.length ≤ 24
  nm : ∀ n ∈ ns, nameB n = true
  sp : ∀ n ∈ ns, 32 ∉ TL.tl n
theorem RowOk.sub {ns ms : List Str} (h : RowOk ns) (l : ms.length ≤ 24) (s : ∀ n ∈ ms, n ∈ ns) : RowOk ms := ⟨l, fun n m => h.nm n (s n m), fun n m => h.sp n (s n m)⟩
theorem nameB_len {x : Str} (h : nameB x = true) : 0 < x.length ∧ x.length ≤ 8 := by
  unfold nameB Txt.isalpha at h
  simp only [Bool.and_eq_true, Bool.not_eq_true', decide_eq_false_iff_not, decide_eq_true_eq] at h
  obtain ⟨h1, _, ⟨h2, _⟩, _⟩ := h
  omega
theorem split_joined {ns : List Str} (h : RowOk ns) (ne : ns ≠ []) : Txt.split (joined ns) " " = ns := TL.split_join (s := 32) (S := []) rfl (by decide +kernel) ne h.sp
theorem joined_pos {ns : List Str} (h : RowOk ns) (ne : ns ≠ []) : (joined ns).length ≠ 0 := fun z => by
  have e := split_joined h ne
  unfold Txt.split at e
  rw [if_pos (by rw [z]; rfl)] at e
  have m : joined ns ∈ ns := (congrArg (fun l => joined ns ∈ l) e).mp (List.mem_singleton.mpr rfl)
  have := (nameB_len (h.nm _ m)).1
  omega
theorem namesOf_joined {ns : List Str} (h : RowOk ns) : namesOf (joined ns) = ns := by
  unfold namesOf
  cases ns with
  | nil => rfl
  | cons a r => rw [if_neg (joined_pos h (by simp)), split_joined h (by simp)]
theorem rowB_joined {ns : List Str} (h : RowOk ns) : rowB (joined ns) = true := by
  unfold rowB
  rw [namesOf_joined h, Bool.and_eq_true]
  refine ⟨decide_eq_true ?_, List.all_eq_true.mpr h.nm⟩
  have := h.few
  omega
theorem sum_len {ns : List Str} (h : RowOk ns) : (ns.map (·.length)).sum ≤ 8 * ns.length := by
  have key : ∀ l : List Str, (∀ n ∈ l, n.length ≤ 8) → (l.map (·.length)).sum ≤ 8 * l.length := by
    intro l
    induction l with
    | nil => intro _; exact Nat.le_refl _
    | cons a r ih =>
      intro q
      have h1 := q a List.mem_cons_self
      have h2 := ih fun n m => q n (List.mem_cons_of_mem _ m)
      simp only [List.map_cons, List.sum_cons, List.length_cons]
      omega
  exact key ns fun n m => (nameB_len (h.nm n m)).2
theorem joined_len {ns : List Str} (h : RowOk ns) : (joined ns).length ≤ 300 := by
  have e : joined ns = Str.join " " ns := TL.join_eq _ _
  rw [e]
  have h1 := StrLaws.join_length_le " " ns
  have h2 := sum_len h
  have h3 := h.few
  have h4 : (" " : Str).length = 1 := rfl
  rw [h4] at h1
  omega

/-! ## Like neighbours struck out -/
def struck : List Str → List Str → List Str
  | acc, [] => acc
  | acc, n :: r => if acc.getLast? = some n then struck acc.dropLast r else struck (acc ++ [n]) r
def Apart (xs : List Str) : Prop := ∀ l a b r, xs = l ++ a :: b :: r → a ≠ b
theorem Apart.pre {xs ys : List Str} (h : Apart (xs ++ ys)) : Apart xs := fun l a b r e => h l a b (r ++ ys) (by rw [e]; simp)
theorem Apart.snoc {xs : List Str} {n : Str} (h : Apart xs) (hn : xs.getLast? ≠ some n) : Apart (xs ++ [n]) := fun l a b r e => by
  rcases List.eq_nil_or_concat r with rfl | ⟨r', z, rfl⟩
  · have e2 : xs ++ [n] = (l ++ [a]) ++ [b] := by rw [e]; simp
    obtain ⟨e3, e4⟩ := List.append_inj' e2 rfl
    intro q
    apply hn
    rw [e3, q]
    simp at e4
    rw [List.getLast?_append, e4]
    rfl
  · have e2 : xs ++ [n] = (l ++ a :: b :: r') ++ [z] := by rw [e]; simp
    obtain ⟨e3, _⟩ := List.append_inj' e2 rfl
    exact h l a b r' e3
theorem struck_apart : ∀ (ns acc : List Str), Apart acc → Apart (struck acc ns)
  | [], _, h => h
  | n :: r, acc, h => by
    unfold struck
    by_cases q : acc.getLast? = some n
    · rw [if_pos q]
      refine struck_apart r _ ?_
      rcases List.eq_nil_or_concat acc with rfl | ⟨a, z, rfl⟩
      · exact h
      · have e : (a.concat z).dropLast = a := by simp
        rw [e]
        rw [List.concat_eq_append] at h
        exact h.pre
    · rw [if_neg q]
      exact struck_apart r _ (h.snoc q)
theorem struck_same : ∀ (ns acc : List Str), Apart (acc ++ ns) → struck acc ns = acc ++ ns
  | [], acc, _ => by
    unfold struck
    rw [List.append_nil]
  | n :: r, acc, h => by
    unfold struck
    have q : acc.getLast? ≠ some n := fun q => by
      rcases List.eq_nil_or_concat acc with rfl | ⟨a, z, rfl⟩
      · cases q
      · have ez : z = n := by
          rw [List.concat_eq_append, List.getLast?_append] at q
          simpa using q
        exact h a z n r (by simp) ez
    rw [if_neg q, struck_same r _ (by rw [List.append_assoc]; exact h), List.append_assoc]
    rfl
theorem apart_nil : Apart [] := fun l a b r e => by
  have := congrArg List.length e
  simp at this
theorem struck_idem (ns : List Str) : struck [] (struck [] ns) = struck [] ns := struck_same _ [] (struck_apart ns [] apart_nil)
theorem struck_mem : ∀ (ns acc : List Str), ∀ x ∈ struck acc ns, x ∈ acc ∨ x ∈ ns
  | [], _, x, h => .inl h
  | n :: r, acc, x, h => by
    unfold struck at h
    by_cases q : acc.getLast? = some n
    · rw [if_pos q] at h
      rcases struck_mem r _ x h with z | z
      · exact .inl (List.dropLast_subset _ z)
      · exact .inr (List.mem_cons_of_mem _ z)
    · rw [if_neg q] at h
      rcases struck_mem r _ x h with z | z
      · rcases List.mem_append.mp z with z | z
        · exact .inl z
        · exact .inr (by rw [List.mem_singleton.mp z]; exact List.mem_cons_self)
      · exact .inr (List.mem_cons_of_mem _ z)
theorem struck_len : ∀ (ns acc : List Str), (struck acc ns).length ≤ acc.length + ns.length
  | [], _ => Nat.le_add_right _ _
  | n :: r, acc => by
    unfold struck
    by_cases q : acc.getLast? = some n
    · rw [if_pos q]
      have := struck_len r acc.dropLast
      simp only [List.length_dropLast, List.length_cons] at *
      omega
    · rw [if_neg q]
      have := struck_len r (acc ++ [n])
      simp only [List.length_append, List.length_cons, List.length_nil] at *
      omega
theorem struck_row {ns : List Str} (h : RowOk ns) : RowOk (struck [] ns) := h.sub (by have := struck_len ns []; have := h.few; simp only [List.length_nil] at *; omega) fun n m => (struck_mem ns [] n m).elim (fun z => nomatch z) id

/-! ## A Script in the heap -/
abbrev scrA (K : PySem.W.Frag) : Addr := He.ga K "Script"
def f1 (t : V) : List (Str × V) := [("text", t)]
def f2 (t p : V) : List (Str × V) := [("text", t), ("steps", p)]
def f3 (t p q : V) : List (Str × V) := [("text", t), ("steps", p), ("plain", q)]
theorem put1 {t : V} : putF "text" t [] = f1 t := rfl
theorem put2 {t p : V} : putF "steps" p (f1 t) = f2 t p := rfl
theorem put3 {t p q : V} : putF "plain" q (f2 t p) = f3 t p q := rfl
def ScrAt (K : PySem.W.Frag) (H : Hp) (x : Addr) (ns : List Str) : Prop := ∃ (dx p : Addr) (pl : V), H x = some (.ins (scrA K) dx (f3 (.str (joined ns)) (.ref p) pl)) ∧ H p = some (.tup (ns.map V.str))
theorem ScrAt.keep {K : PySem.W.Frag} {H H' : Hp} {x : Addr} {ns : List Str} (h : ScrAt K H x ns) (k : ∀ b o, H b = some o → (∃ C dx fs, o = .ins C dx fs) ∨ (∃ xs, o = .tup xs) → H' b = some o) : ScrAt K H' x ns := by
  obtain ⟨dx, p, pl, h1, h2⟩ := h
  exact ⟨dx, p, pl, k _ _ h1 (.inl ⟨_, _, _, rfl⟩), k _ _ h2 (.inr ⟨_, rfl⟩)⟩
theorem ScrAt.same {K : PySem.W.Frag} {H H' : Hp} {x : Addr} {ns : List Str} (h : ScrAt K H x ns) (s : Same H H') : ScrAt K H' x ns := h.keep fun b o e _ => s b o e
theorem ScrAt.keptT {K : PySem.W.Frag} {H H' : Hp} {x a : Addr} {ns : List Str} {n : Nat} (h : ScrAt K H x ns) (k : KeptT a H H') (hp : PotAt H a n) : ScrAt K H' x ns := h.keep fun b o e c => by
  obtain ⟨_, _, _, q, _⟩ := hp
  refine k b o e (fun z => ?_) fun ps z => ?_
  · rw [z, q] at e
    cases e
    rcases c with ⟨_, _, _, y⟩ | ⟨_, y⟩ <;> cases y
  · rw [z] at c
    rcases c with ⟨_, _, _, y⟩ | ⟨_, y⟩ <;> cases y
/-- what the written part says of the class -/
structure ScrC (K : PySem.W.Frag) (mg : Str → Option Value) : Prop where
  m : mg "Script" = some (.ref (scrA K))
  cl : Cls K (scrA K)
  nT : NoAttr K (scrA K) "text"
  nS : NoAttr K (scrA K) "steps"
  nP : NoAttr K (scrA K) "plain"
  ha : PySem.W.findIn K (.ref (scrA K)) "__class__" = some (some (.builtin "object.__class__"))
  hn : PySem.W.specialIn K (.builtin "object.__class__") "__get__" = some (some (.builtin "getset_descriptor.__get__"))
  htk : PySem.W.takesIn K (.builtin "object.__class__") = some true
  hm : PySem.W.mroIn K (scrA K) (.type "object") = some true
  me : PySem.W.kitOne K (.ref (scrA K)) (.ref (scrA K)) = some true
  st : PySem.W.kitOne K (.ref (scrA K)) (.type "str") = some false
  first : PySem.W.selfFirst K (scrA K) = true
theorem ScrC.ty {K : PySem.W.Frag} {mg : Str → Option Value} {H : Hp} {x dx : Addr} {fs : List (Str × V)} (c : ScrC K mg) (h : H x = some (.ins (scrA K) dx fs)) : TyX K H (.ref x) (.ref (scrA K)) := .base (.ins h c.cl c.ha c.hn c.htk c.hm)
/-! ## What isinstance says of small values -/
def wholeB : V → Bool
  | .int _ => true
  | _ => false
def IsaI (K : PySem.W.Frag) (H : Hp) (v : V) : Prop := ∃ t bi bb, TyX K H v t ∧ PySem.W.kitOne K t (.type "int") = some bi ∧ PySem.W.kitOne K t (.type "bool") = some bb ∧ (bi && !bb) = wholeB v
theorem isaI_int {K : PySem.W.Frag} {H : Hp} (i : Int) : IsaI K H (.int i) := ⟨_, true, false, .base (.int i), kit_ty (by decide +kernel), kit_ty (by decide +kernel), rfl⟩
theorem Sm.isaI {K : PySem.W.Frag} {B k : Nat} {H : Hp} {v : V} (h : Sm B k H v) : IsaI K H v := by
  obtain ⟨d, h, _⟩ := h
  cases h with
  | non => exact ⟨_, false, false, .base .non, kit_ty (by decide +kernel), kit_ty (by decide +kernel), rfl⟩
  | bl b => exact ⟨_, true, true, .base (.bl b), kit_ty (by decide +kernel), kit_ty (by decide +kernel), rfl⟩
  | int i => exact isaI_int i
  | str x => exact ⟨_, false, false, .base (.str x), kit_ty (by decide +kernel), kit_ty (by decide +kernel), rfl⟩
  | lst e _ => exact ⟨_, false, false, .base (.lst e), kit_ty (by decide +kernel), kit_ty (by decide +kernel), rfl⟩
  | tup e _ => exact ⟨_, false, false, .base (.tup e), kit_ty (by decide +kernel), kit_ty (by decide +kernel), rfl⟩
  | dic e _ => exact ⟨_, false, false, .base (.dK e), kit_ty (by decide +kernel), kit_ty (by decide +kernel), rfl⟩
end Lm
namespace Lm
open PySem PySem.Spec PyProof.Rows L2
/-- a def that may raise, by its body -/
theorem okX {P : Program} {w : World} {K : PySem.W.Frag} {mg : Str → Option Value} {base : Heap} {x qual : Str} {params : Arguments} {body : List Stmt} {scope : Scope} {dvs : List V} {kws : List (Str × V)} {f : Addr} {fd : FuncData} {N ps : List Str} {k : Nat} {sp : Sp}
    (F : FunD K x qual params body scope dvs kws f fd) (S : FnScope N ps scope) (many : ∀ vs H Q E, sp vs H Q E → vs.length = ps.length)
    (walk : ∀ (cdv : Value) (A : Around) (outer : List Env) (s : Shared) (H : Hp) (vs : List V) (Q : VK) (E : XK), Room k (A.deeper (envOfC qual scope s.heap.objs.size f cdv)) → sp vs H Q E →
      ∃ t, PSs (cxOf (L2.CX P w) P w K mg base N qual scope f cdv A outer s H E) body t ∧ t { nx := fun _ H' => Q .non H', rt := Q } (start N vs) H) : FnOk P w K mg base (L2.CX P w) (k + 1) f fd ps sp := by
  obtain ⟨oc, od, dV, kV, doc, pm, an, cdv, ct, osl, rfl, look, code, _, _⟩ := F.ex
  exact ⟨many, fun A outer s H args us vs Q E hr e0 hb r h => LamX.run_ofS look code S hr e0 hb r (many _ _ _ _ h) fun hr' => walk cdv A outer s H vs Q E hr' h⟩
theorem struck_snoc (n : Str) : ∀ (ns acc : List Str), struck acc (ns ++ [n]) = if (struck acc ns).getLast? = some n then (struck acc ns).dropLast else struck acc ns ++ [n]
  | [], acc => by
    show struck acc [n] = if acc.getLast? = some n then acc.dropLast else acc ++ [n]
    rw [show struck acc [n] = if acc.getLast? = some n then struck acc.dropLast [] else struck (acc ++ [n]) [] from rfl] <;> rfl
  | m :: r, acc => by
    show (if acc.getLast? = some m then struck acc.dropLast (r ++ [n]) else struck (acc ++ [m]) (r ++ [n])) = _
    rw [struck_snoc n r, struck_snoc n r]
    conv => rhs; rw [show struck acc (m :: r) = if acc.getLast? = some m then struck acc.dropLast r else struck (acc ++ [m]) r from rfl]
    by_cases q : acc.getLast? = some m
    · rw [if_pos q, if_pos q]
    · rw [if_neg q, if_neg q]
/-! ## What the scripts' own functions promise -/
def spWhole (K : PySem.W.Frag) : Sp := fun vs H Q _ => ∃ v, vs = [v] ∧ IsaI K H v ∧ Q (.bl (wholeB v)) H
def spName : Sp := fun vs H Q _ => ∃ x, vs = [.str x] ∧ x.length ≤ 100000 ∧ Q (.bl (nameB x)) H
def StrOk (x : Str) : Prop := x.length ≤ 100000 ∧ ∀ n ∈ namesOf x, n.length ≤ 100000
def spNamesOf : Sp := fun vs H Q _ => ∃ x, vs = [.str x] ∧ x.length ≤ 100000 ∧ ∀ H' p, Same H H' → H p = none → H' p = some (.tup ((namesOf x).map V.str)) → Q (.ref p) H'
def NotStr (K : PySem.W.Frag) (H : Hp) (v : V) : Prop := ∃ t, TyX K H v t ∧ PySem.W.kitOne K t (.type "str") = some false
def spRow (K : PySem.W.Frag) : Sp := fun vs H Q _ => ∃ v, vs = [v] ∧ ((∃ x, v = .str x ∧ StrOk x ∧ ∀ H', Same H H' → Q (.bl (rowB x)) H') ∨ (NotStr K H v ∧ Q (.bl false) H))
def spStruck (K : PySem.W.Frag) : Sp := fun vs H Q _ => ∃ p ns, vs = [.ref p] ∧ SqT K H p (ns.map V.str) ∧ ns.length ≤ 1000 ∧ ∀ H' l, Same H H' → H l = none → H' l = some (.lst ((struck [] ns).map V.str)) → Q (.ref l) H'
def BadRow (K : PySem.W.Frag) (H : Hp) (v : V) : Prop := (∃ y, v = .str y ∧ StrOk y ∧ rowB y = false) ∨ NotStr K H v
/-- an error of the class named x that keeps v is wished -/
def Wish (K : PySem.W.Frag) (H : Hp) (E : XK) (x : Str) (v : V) : Prop := ∀ d H', Same H H' → H d = none → H' d = some (.xd [("value", v)]) → E (.ref (He.ga K x)) (some d) H'
def spInit (K : PySem.W.Frag) : Sp := fun vs H Q E => ∃ x dx v, vs = [.ref x, v] ∧ H x = some (.ins (scrA K) dx []) ∧
  ((∃ ns, v = .str (joined ns) ∧ RowOk ns ∧ ∀ H', KeptBut x H H' → ScrAt K H' x ns → Q .non H') ∨ (BadRow K H v ∧ Wish K H E "BadScript" v))
/-- .. of rows in which nothing is struck out -/
def spInitS (K : PySem.W.Frag) : Sp := fun vs H Q E => ∃ x dx ns, vs = [.ref x, .str (joined ns)] ∧ H x = some (.ins (scrA K) dx []) ∧ RowOk ns ∧ struck [] ns = ns ∧ ∀ H', KeptBut x H H' → ScrAt K H' x ns → Q .non H'
/-- a Script is told, or Long -/
def Due (K : PySem.W.Frag) (H : Hp) (Q : VK) (E : XK) (ns : List Str) : Prop := (ns.length ≤ 24 → ∀ H' x, Same H H' → H x = none → ScrAt K H' x ns → Q (.ref x) H') ∧ (24 < ns.length → Wish K H E "Long" (.int 24))
def spMul (K : PySem.W.Frag) : Sp := fun vs H Q E => ∃ a b ns ms, vs = [.ref a, .ref b] ∧ ScrAt K H a ns ∧ ScrAt K H b ms ∧ RowOk ns ∧ RowOk ms ∧ Due K H Q E (ns ++ ms)
def spTimes (K : PySem.W.Frag) : Sp := fun vs H Q E => ∃ a v ns, vs = [.ref a, v] ∧ ScrAt K H a ns ∧ RowOk ns ∧ IsaI K H v ∧
  ((∃ m : Nat, v = .int m ∧ m ≤ 24 ∧ Due K H Q E (List.replicate m ns).flatten) ∨ ((∀ m : Nat, v = .int m → 24 < m) ∧ Wish K H E "BadNumber" v))
def spScrEq (K : PySem.W.Frag) : Sp := fun vs H Q _ => ∃ a b ns ms, vs = [.ref a, .ref b] ∧ ScrAt K H a ns ∧ ScrAt K H b ms ∧ Q (.bl (decide (joined ns = joined ms))) H
theorem strOk_joined {ns : List Str} (h : RowOk ns) : StrOk (joined ns) := ⟨by have := joined_len h; omega, fun n m => by
  rw [namesOf_joined h] at m
  have := (nameB_len (h.nm n m)).2
  omega⟩
theorem namesOf_few {x : Str} (h : x.length ≤ 100000) : (namesOf x).length ≤ 100002 := by
  unfold namesOf
  split
  · exact Nat.zero_le _
  · have := PyProof.Rows.split_le x " "
    omega
theorem yes_of {b : Bool} {A B : Prop} (e : b = true) (h : A) : if b = true then A else B := by
  rw [if_pos e]
  exact h
theorem no_of {b : Bool} {A B : Prop} (e : b = false) (h : B) : if b = true then A else B := by
  rw [e]
  exact iteF h
section
variable {P : Program} {w : World} {K : PySem.W.Frag} {mg : Str → Option Value} {base : Heap} {ns : List Str} {x : Str} {σ : L2.St} {H : Hp} {E : XK} {v : V}
theorem raise_var {i : Nat} (Z : ErrL P w K mg base ns) (hx : x ∈ ns) (hv : σ[i]? = some (some v)) (h : Wish K H E x v) : tRaise K x (tCons (tVar i) tNil) σ H E :=
  raise_ok Z hx ⟨v, hv, h⟩ fun ⟨v, e, q⟩ k => ⟨v, e, k _ _ q⟩
theorem raise_c (Z : ErrL P w K mg base ns) (hx : x ∈ ns) (h : Wish K H E x v) : tRaise K x (tCons (tC v) tNil) σ H E := raise_ok Z hx (te := tC v) h fun q k => k _ _ q
theorem Wish.same {H' : Hp} (h : Wish K H E x v) (s : Same H H') : Wish K H' E x v := fun d H2 s2 n e => h d H2 (s.trans s2) (s.free n) e
end
/-- sep.join of a list or tuple of names -/
theorem join_ok {K : PySem.W.Frag} {te : TE} {σ : L2.St} {H : Hp} {Q : VK} {ns : List Str} (ro : RowOk ns) (h : te σ H fun y H2 => ∃ p, y = .ref p ∧ (SqL K H2 p (ns.map V.str) ∨ SqT K H2 p (ns.map V.str)) ∧ Q (.str (joined ns)) H2)
    (mono : ∀ {Q Q' : VK}, te σ H Q → (∀ v H', Q v H' → Q' v H') → te σ H Q') :
    tM1 (fun x xs H Q => ∃ a p, ∃ ys : List Str, x = .str a ∧ xs = [.ref p] ∧ (SqL K H p (ys.map V.str) ∨ SqT K H p (ys.map V.str)) ∧ (ys.map (·.length)).sum + ys.length * a.length ≤ 16777216 ∧ Q (.str (Txt.join a ys)) H) (tC (.str " ")) te σ H Q := by
  refine ⟨⟨_, rfl⟩, mono h fun y H2 ⟨p, e, s, q⟩ => ⟨_, p, ns, rfl, by rw [e], s, ?_, q⟩⟩
  have h1 := sum_len ro
  have h2 := ro.few
  have h3 : (" " : Str).length = 1 := rfl
  rw [h3]
  omega
def rJn (K : PySem.W.Frag) : V → List V → Hp → VK → Prop := fun x xs H Q => ∃ a p, ∃ ys : List Str, x = .str a ∧ xs = [.ref p] ∧ (SqL K H p (ys.map V.str) ∨ SqT K H p (ys.map V.str)) ∧ (ys.map (·.length)).sum + ys.length * a.length ≤ 16777216 ∧ Q (.str (Txt.join a ys)) H
/-- a Script of a joined row -/
theorem make_join {K : PySem.W.Frag} {C : Addr} {sp : Sp} {te : TE} {σ : L2.St} {H : Hp} {Q : VK} {E : XK} {ns : List Str} (ro : RowOk ns)
    (h : te σ H fun y H2 => ∃ p, y = .ref p ∧ (SqL K H2 p (ns.map V.str) ∨ SqT K H2 p (ns.map V.str)) ∧ ∀ x dx, H2 x = none → H2 dx = none → dx ≠ x → sp [.ref x, .str (joined ns)] (upd (upd H2 dx (.own x)) x (.ins C dx [])) (fun v H3 => v = .non ∧ Q (.ref x) H3) E)
    (mono : ∀ {Q Q' : VK}, te σ H Q → (∀ v H', Q v H' → Q' v H') → te σ H Q') : tMake C sp [] E (tCons (tM1 (rJn K) (tC (.str " ")) te) tNil) σ H Q := by
  show tM1 (rJn K) (tC (.str " ")) te σ H (fun y H1 => ∀ x dx, H1 x = none → H1 dx = none → dx ≠ x → sp (.ref x :: ([y] ++ [])) (upd (upd H1 dx (.own x)) x (.ins C dx [])) (fun v H2 => v = .non ∧ Q (.ref x) H2) E)
  exact join_ok (te := te) ro (mono h fun y H2 ⟨p, e, s, q⟩ => ⟨p, e, s, q⟩) mono
theorem mono_var {i : Nat} {σ : L2.St} {H : Hp} {Q Q' : VK} (h : tVar i σ H Q) (k : ∀ v H', Q v H' → Q' v H') : tVar i σ H Q' := let ⟨v, e, q⟩ := h; ⟨v, e, k _ _ q⟩
theorem make_scr {K : PySem.W.Frag} {te : TE} {σ : L2.St} {H : Hp} {Q : VK} {zs : List Str} (ro : RowOk zs) (hte : ∀ Q' : VK, (∀ p H2, Same H H2 → SqT K H2 p (zs.map V.str) → Q' (.ref p) H2) → te σ H Q')
    (k : ∀ H' x, Same H H' → H x = none → ScrAt K H' x zs → Q (.ref x) H') : tMake (scrA K) (spInit K) [] E0 (tCons (tM1 (rJn K) (tC (.str " ")) te) tNil) σ H Q := by
  show tM1 (rJn K) (tC (.str " ")) te σ H (fun y H1 => ∀ x dx, H1 x = none → H1 dx = none → dx ≠ x → spInit K (.ref x :: ([y] ++ [])) (upd (upd H1 dx (.own x)) x (.ins (scrA K) dx [])) (fun v H2 => v = .non ∧ Q (.ref x) H2) E0)
  have h1 := sum_len ro
  have h2 := ro.few
  refine ⟨⟨_, rfl⟩, hte _ fun p H2 s2 hp => ⟨_, p, zs, rfl, rfl, .inr hp, ?_, fun x dx hx hdx ne => ⟨x, dx, _, rfl, upd_same, .inl ⟨zs, rfl, ro, fun H3 kb sc => ⟨rfl, k H3 x (fun b o e => ?_) (s2.free hx) sc⟩⟩⟩⟩⟩
  · have h3 : (" " : Str).length = 1 := rfl
    rw [h3]
    omega
  · have e2 := s2 b o e
    have n1 : b ≠ x := ne_of_none e2 hx
    refine kb b o ?_ n1
    rw [upd_ne n1, upd_ne (ne_of_none e2 hdx)]
    exact e2
theorem map_rep (m : Nat) (ns : List Str) : (List.replicate m (ns.map V.str)).flatten = (List.replicate m ns).flatten.map V.str := by
  induction m with
  | zero => rfl
  | succ m ih => rw [List.replicate_succ, List.flatten_cons, ih, List.replicate_succ, List.flatten_cons, List.map_append]
theorem len_rep (m : Nat) (ns : List Str) : (List.replicate m ns).flatten.length = m * ns.length := by
  induction m with
  | zero => simp
  | succ m ih => rw [List.replicate_succ, List.flatten_cons, List.length_append, ih, Nat.succ_mul, Nat.add_comm]
theorem mem_rep {m : Nat} {ns : List Str} {x : Str} (h : x ∈ (List.replicate m ns).flatten) : x ∈ ns := by
  obtain ⟨l, hl, hx⟩ := List.mem_flatten.mp h
  rw [(List.mem_replicate.mp hl).2] at hx
  exact hx
theorem row_rep {m : Nat} {ns : List Str} (h : RowOk ns) (l : (List.replicate m ns).flatten.length ≤ 24) : RowOk (List.replicate m ns).flatten := h.sub l fun _ => mem_rep
theorem row_cat {ns ms : List Str} (h : RowOk ns) (g : RowOk ms) (l : (ns ++ ms).length ≤ 24) : RowOk (ns ++ ms) := ⟨l, fun n m => (List.mem_append.mp m).elim (h.nm n) (g.nm n), fun n m => (List.mem_append.mp m).elim (h.sp n) (g.sp n)⟩
/-- .. the row being a list or a tuple -/
theorem make_row {K : PySem.W.Frag} {i : Nat} {p : Addr} {σ : L2.St} {H : Hp} {Q : VK} {zs : List Str} (ro : RowOk zs) (hi : σ[i]? = some (some (.ref p))) (hp : SqL K H p (zs.map V.str))
    (k : ∀ H' x, Same H H' → H x = none → ScrAt K H' x zs → Q (.ref x) H') : tMake (scrA K) (spInit K) [] E0 (tCons (tM1 (rJn K) (tC (.str " ")) (tVar i)) tNil) σ H Q := by
  refine make_join (te := tVar i) ro ⟨_, hi, p, rfl, .inl hp, fun x dx hx hdx ne => ⟨x, dx, _, rfl, upd_same, .inl ⟨zs, rfl, ro, fun H3 kb sc => ⟨rfl, k H3 x (fun b o e => ?_) hx sc⟩⟩⟩⟩ mono_var
  have n1 : b ≠ x := ne_of_none e hx
  refine kb b o ?_ n1
  rw [upd_ne n1, upd_ne (ne_of_none e hdx)]
  exact e
/-- .. an empty text -/
theorem make_empty {K : PySem.W.Frag} {σ : L2.St} {H : Hp} {Q : VK} (k : ∀ H' x, Same H H' → H x = none → ScrAt K H' x [] → Q (.ref x) H') : tMake (scrA K) (spInit K) [] E0 (tCons (tC (.str "")) tNil) σ H Q := by
  intro x dx hx hdx ne
  refine ⟨x, dx, _, rfl, upd_same, .inl ⟨[], rfl, ⟨by decide, (fun _ h => nomatch h), (fun _ h => nomatch h)⟩, fun H3 kb sc => ⟨rfl, k H3 x (fun b o e => ?_) hx sc⟩⟩⟩
  have n1 : b ≠ x := ne_of_none e hx
  refine kb b o ?_ n1
  rw [upd_ne n1, upd_ne (ne_of_none e hdx)]
  exact e
/-! ## told, of what is due -/
theorem wish_told {P : Program} {w : World} {K : PySem.W.Frag} {mg : Str → Option Value} {base : Heap} {ns : List Str} {H1 : Hp} {Q : VK} {x : Str} {v : V} (Z : ErrL P w K mg base ns) (hx : x ∈ ns)
    (res : ∀ a p H', Same H1 H' → H' p = some (.tup [.ref a, .non]) → ErrR K H' a x v → Q (.ref p) H') :
    Wish K H1 (fun cls d H' => ∃ C : Addr, cls = .ref C ∧ PySem.W.exmOne K cls (.ref (He.ga K "MirrorError")) = some true ∧ ∀ a, H' a = none → ∀ p, upd H' a (exr a C d) p = none → Q (.ref p) (upd (upd H' a (exr a C d)) p (.tup [.ref a, .non]))) x v := by
  intro d H' s n e
  refine ⟨_, rfl, Z.exm x hx, fun a ha p hp => res a p _ (s.trans ((Same.new ha).trans (Same.new hp))) upd_same ⟨d, ?_, ?_⟩⟩
  · rw [upd_ne (ne_of_none upd_same hp)]
    exact upd_same
  · have n1 : d ≠ a := ne_of_none e ha
    have e2 : upd H' a (exr a (He.ga K x) (some d)) d = some (.xd [("value", v)]) := by
      rw [upd_ne n1]
      exact e
    rw [upd_ne (ne_of_none e2 hp)]
    exact e2
theorem due_told {P : Program} {w : World} {K : PySem.W.Frag} {mg : Str → Option Value} {base : Heap} {ns : List Str} {H1 : Hp} {Q : VK} {zs : List Str} (Z : ErrL P w K mg base ns) (hx : ("Long" : Str) ∈ ns)
    (res : ∀ c m p H', Same H1 H' → H' p = some (.tup [c, m]) → (24 < zs.length → ∃ a, c = .ref a ∧ ErrR K H' a "Long" (.int 24)) → (zs.length ≤ 24 → c = .non ∧ ∃ x, m = .ref x ∧ ScrAt K H' x zs) → Q (.ref p) H') :
    Due K H1 (fun v H' => ∀ p, H' p = none → Q (.ref p) (upd H' p (.tup [.non, v])))
      (fun cls d H' => ∃ C : Addr, cls = .ref C ∧ PySem.W.exmOne K cls (.ref (He.ga K "MirrorError")) = some true ∧ ∀ a, H' a = none → ∀ p, upd H' a (exr a C d) p = none → Q (.ref p) (upd (upd H' a (exr a C d)) p (.tup [.ref a, .non]))) zs := by
  refine ⟨fun l H' x s hx sc p hp => res .non (.ref x) p _ (s.trans (Same.new hp)) upd_same (fun z => absurd z (by omega)) fun _ => ⟨rfl, x, rfl, sc.same (Same.new hp)⟩, fun l => ?_⟩
  exact wish_told Z hx fun a p H' s e er => res (.ref a) .non p H' s e (fun _ => ⟨a, rfl, er⟩) fun z => absurd z (by omega)
/-! ## Tuples of names, shown -/
theorem dr_strs {H : Hp} : ∀ ns : List Str, DrAll H (ns.map V.str) (ns.map PyData.str)
  | [] => .nil
  | n :: r => .cons (.str n) (dr_strs r)
theorem dr_strs_only {H : Hp} : ∀ {ns : List Str} {ds : List PyData}, DrAll H (ns.map V.str) ds → ds = ns.map PyData.str
  | [], _, .nil => rfl
  | n :: r, _, .cons (.str _) t => by rw [dr_strs_only t] <;> rfl
theorem shown_row {ns : List Str} (l : ns.length ≤ 24) (h : ∀ n ∈ ns, (PyData.str n).shown.length ≤ 20) : (PyData.tuple (ns.map PyData.str)).showable = true ∧ (PyData.tuple (ns.map PyData.str)).depth ≤ 60 ∧ (PyData.tuple (ns.map PyData.str)).shown.length ≤ sizeLine := by
  have e : (upd (fun _ => none) 0 (.tup (ns.map V.str)) : Hp) 0 = some (.tup (ns.map V.str)) := upd_same
  obtain ⟨d, h1, h2, h3, h4⟩ := Sm.tup (B := 20) (k := 0) e fun v hv => by
    obtain ⟨n, hn, rfl⟩ := List.mem_map.mp hv
    exact sm_flat (.str n) 20 0 rfl (Nat.zero_le _) (h n hn)
  cases h1 with
  | tup e2 t =>
    rw [e] at e2
    cases e2
    rw [dr_strs_only t] at h2 h3 h4
    refine ⟨h2, Nat.le_trans h3 (by decide), Nat.le_trans h4 ?_⟩
    rw [List.length_map, sizeLine_eq]
    omega
  | lst e2 _ =>
    rw [e] at e2
    cases e2
  | dic e2 _ =>
    rw [e] at e2
    cases e2
open LamX (Tabs ExtN CodeO) in
theorem exr_tbl {a C : Addr} {d : Option Addr} {ps : Array Value} : exr a C d ≠ .tbl ps := fun z => by
  unfold exr at z
  cases z
theorem ErrR.ext {K : PySem.W.Frag} {H H' : Hp} {a : Addr} {x : Str} {v : V} (h : ErrR K H a x v) (e : LamX.ExtN H H') : ErrR K H' a x v := by
  obtain ⟨d, h1, h2⟩ := h
  exact ⟨d, e _ _ h1 (fun ps => exr_tbl), e _ _ h2 fun ps z => nomatch z⟩
theorem ScrAt.ext {K : PySem.W.Frag} {H H' : Hp} {x : Addr} {ns : List Str} (h : ScrAt K H x ns) (e : LamX.ExtN H H') : ScrAt K H' x ns := h.keep fun b o q c => e b o q fun ps z => by
  rw [z] at c
  rcases c with ⟨_, _, _, y⟩ | ⟨_, y⟩ <;> cases y
theorem PotAt.ext {H H' : Hp} {a : Addr} {n : Nat} (h : PotAt H a n) (e : LamX.ExtN H H') : PotAt H' a n := by
  obtain ⟨p0, p1, p2, q, b⟩ := h
  exact ⟨p0, p1, p2, e _ _ q (fun ps z => nomatch z), b⟩
theorem lst_ext {H H' : Hp} {l : Addr} {xs : List V} (h : H l = some (.lst xs)) (e : LamX.ExtN H H') : H' l = some (.lst xs) := e _ _ h fun ps z => nomatch z
theorem dr_ext {H H' : Hp} {v : V} {d : PyData} (h : Dr H v d) (e : LamX.ExtN H H') : Dr H' v d := h.keep fun a o q c => e a o q fun ps z => by
  rw [z] at c
  rcases c with ⟨_, y⟩ | ⟨_, y⟩ | ⟨_, y⟩ <;> cases y
theorem Sm.ext {B k : Nat} {H H' : Hp} {v : V} (h : Sm B k H v) (e : LamX.ExtN H H') : Sm B k H' v := by
  obtain ⟨d, h1, h2⟩ := h
  exact ⟨d, dr_ext h1 e, h2⟩
theorem ext_same {H H' : Hp} (s : Same H H') : LamX.ExtN H H' := LamX.ExtN.of s
theorem ext_kept {H H' : Hp} {a : Addr} (e : LamX.ExtN H H') : KeptT a H H' := KeptT.ext e
/-- a step of the pot, as what is kept of the rest -/
theorem kept_lst {a l : Addr} {H H' : Hp} {xs : List V} (h : H l = some (.lst xs)) (k : KeptBut a H H') (n : l ≠ a) : H' l = some (.lst xs) := k _ _ h n
theorem ScrAt.but {K : PySem.W.Frag} {H H' : Hp} {x a : Addr} {ns : List Str} {n : Nat} (h : ScrAt K H x ns) (k : KeptBut a H H') (hp : PotAt H a n) : ScrAt K H' x ns := h.keptT (KeptT.but k) hp
end Lm

namespace PySem.W
open PySem PySem.Calls PyProof.Rows
section
variable {prog : Program} {w : World} {A : Around} {E : Value → Shared → Prop} {s : Shared} {K : Frag} {x y C f L : Addr} {h₀ : Heap} {m : Str → Option Value} {ox oy : Obj} {od od' : Option Obj}
theorem lm_ifBoundB {M : Model} {name : Str} {id : String} {args : List Value} {Q : Option Value → Shared → Prop} (X : K.In s.heap) (I : InstAt s.heap x ox C od) (hs : findIn K (.ref C) name = some (some (.builtin id)))
    (hb : ∀ self, bindSpecial (.builtin id) self = pure (.builtin id, [self])) (h : wpAny M A (call (.builtin id) (.ref x :: args)) (fun v => Q (some v)) E s) : wpAny M A (callSpecialIfBound? (.ref x) name args) Q E s := by
  simp only [callSpecialIfBound?, bindSpecialIfBound?]
  refine wpAny_holding (wpAny_bind (wpAny_bind (wpAny_bind (I.type.here ((looks_findIn X hs).here ?_)))))
  refine wpAny_bind (wpAny_askSetting (wpAny_ite ?_))
  have go : wpAny M A (call (.builtin id) ([.ref x] ++ args) >>= fun v => pure (some v)) Q E s := wpAny_bind (wpAny_mono h (fun _ _ z => wpAny_pure z) fun _ _ z => z)
  split
  · exact wpAny_bind ((Looks.of_pure (hb _)).here (wpAny_pure (by exact go)))
  · exact wpAny_tryCatch (wpAny_bind ((Looks.of_pure (hb _)).here (wpAny_pure (by exact go))))
def BoolOnly (Q : Bool → Shared → Prop) (v : Value) (s' : Shared) : Prop := match v with
  | .bool b => Q b s'
  | _ => False
/-- x != y, both of one own class with its own ==, != being object's -/
theorem lm_ne {Q : Value → Shared → Prop} (hu : A.units < cLine) (hu1 : A.in1.units < cLine) (X : K.In s.heap) (I : InstAt s.heap x ox C od) (J : InstAt s.heap y oy C od') (hn : findIn K (.ref C) "__ne__" = some (some (.builtin "object.__ne__"))) (hm : mroIn K C (.type "object") = some true)
    (hs : findIn K (.ref C) "__eq__" = some (some (.ref f))) (hf : isFn K (.ref f) = true) (h : wpAny (model prog w) A.in1 (call (.ref f) [.ref x, .ref y]) (BoolOnly fun b s' => Q (.bool (!b)) s') E s) : wpAny (model prog w) A (richCompare .NotEq (.ref x) (.ref y)) Q E s := by
  have body : wpAny (model prog w) A.in1 (Builtin.«object.__ne__» ⟨[.ref x, .ref y], []⟩) (fun fin s' => ∃ b, fin = .done (.ret (.bool b)) ∧ Q (.bool b) s') E s := by
    unfold Builtin.«object.__ne__»
    refine wpAny_bind (m := slotArgs "__ne__" 1 _) (wpAny_pure ?_)
    refine wpAny_bind (m := cRoomFor _ _) (wpAny_cRoomFor hu1 ?_)
    refine wpAny_bind (m := callSpecialIfBound? (.ref x) (Str.ofString "__eq__") _) (ifBound_K X I hs hf (wpAny_mono h (fun r s' hq => ?_) fun _ _ z => z))
    cases r <;> first | exact hq.elim | skip
    refine wpAny_bind (wpAny_truthy_bool ?_)
    exact wpAny_pure ⟨_, rfl, hq⟩
  have one : wpAny (model prog w) A (tryCompare (.ref x) "__ne__" (.ref y)) (fun r s' => ∃ b, r = some (.bool b) ∧ Q (.bool b) s') E s := by
    unfold tryCompare
    refine wpAny_bind (lm_ifBoundB X I hn PySem.F.cmp_object.ne.bind (wpAny_call (codeAny_call_builtin PySem.F.cmp_object.ne.plain PySem.F.cmpEntry_ne (check_slot (i := "object.__ne__") (owner := "object") (n := "__ne__") PySem.F.cmpKind_ne PySem.F.cmpSplit_ne (I.type.andThen (looks_mroIn X hm)) (PySem.F.cmpArgs_ne _ _) (wpAny_mono body (fun fin s' hq => ?_) fun _ _ z => z)))))
    obtain ⟨b, rfl, hq⟩ := hq
    exact wpAny_pure ⟨b, rfl, hq⟩
  unfold richCompare
  simp only [oneThing_ref]
  refine wpAny_holding (wpAny_bind (wpAny_cRoomFor hu ?_))
  refine wpAny_bind (I.type.here (wpAny_bind (J.type.here ?_)))
  have same : (Value.ref C != Value.ref C) = false := by simp
  simp only [same, Bool.false_eq_true, if_false]
  refine wpAny_bind (wpAny_pure ?_)
  simp only [Bool.false_eq_true, if_false]
  refine wpAny_bind (wpAny_mono one (fun r s' z => ?_) fun _ _ e => e)
  obtain ⟨b, rfl, hq⟩ := z
  exact wpAny_pure hq
end
end PySem.W
namespace Lm
open PySem PySem.Spec PyProof.Rows L2
section
variable {X : Cx} {CX : CXT} {k : Nat} {C f : Addr} {fd : FuncData} {ps : List Str} {sp : Sp} {E : XK}
/-- a method of one's own, called by a built-in function one deeper -/
theorem in1_call {pins : List (Addr × Obj)} {s : Shared} {σ : L2.St} {H : Hp} {vs : List V} {us : List Value} {Q : VK} (F : FnOk X.prog X.w X.K X.mg X.base CX k f fd ps sp) (hr : Room (k + 1) X.A) (hb : Binds X.K fd ps []) (hx : Passes CX X E) (I : Inv X pins σ H s) (r : Vals vs us) (q : sp vs H Q E) :
    wpAny (model X.prog X.w) X.A.in1 (call (.ref f) us) (EP X pins σ Q) X.xe s := by
  have n : (us ++ []).length = ps.length := by
    rw [List.append_nil, ← r.length]
    exact F.len _ _ _ _ q
  have z := hb s us I.kIn n
  rw [List.append_nil] at z
  refine wpAny_call (codeAny_mono (F.run X.A.in1 X.stack s H ⟨us, []⟩ us vs Q E hr.in1 I.env0.in1 z r q) fun r s' hq => ?_)
  match r, hq with
  | .error e, hq => exact hx pins σ H s e s' I hq
  | .ok (.ret u), hq => exact I.after hq
  | .ok .next, hq => exact False.elim hq
  | .ok .brk, hq => exact False.elim hq
  | .ok .cont, hq => exact False.elim hq
/-- what is asked of an own object that a built-in function of one argument looks at -/
def rOwn1 (C : Addr) (sp : Sp) (E : XK) : List V → Hp → VK → Prop := fun xs H Q => ∃ a dx fs, xs = [.ref a] ∧ H a = some (.ins C dx fs) ∧ sp [.ref a] H Q E
theorem call_reprO (m : Meth X.K C "__repr__" f) (F : FnOk X.prog X.w X.K X.mg X.base CX k f fd ps sp) (hr : Room (k + 1) X.A) (hb : Binds X.K fd ps []) (hx : Passes CX X E) (str : ∀ vs H (Q : VK) E, sp vs H Q E → sp vs H (fun v H' => (∃ z, v = .str z) ∧ Q v H') E) : CallR X (.builtin "repr") (rOwn1 C sp E) := by
  intro pins s σ H xs us Q I r h
  obtain ⟨a, dx, fs, rfl, ha, q⟩ := h
  obtain ⟨u, rfl, ru⟩ := vals1 r
  obtain rfl : u = Value.ref a := ru
  obtain ⟨mA, J, _⟩ := ins_get I.hok ha
  obtain ⟨od, J, _⟩ := J.look
  obtain ⟨mm, hF⟩ := I.fr
  refine PySem.W.repr_K hr.in1.units0 hF I.ok.mod.kin J m.at_ m.fn (thn (in1_call (vs := [.ref a]) (us := [.ref a]) F hr hb hx I (.cons rfl .nil) (str _ _ _ _ q)) fun u s' h => ?_)
  obtain ⟨v, H', I', rv, ⟨z, rfl⟩, q'⟩ := h
  obtain ⟨t, rfl⟩ := rv
  exact ⟨.str z, H', I', ⟨t, rfl⟩, q'⟩
theorem call_lenO (m : Meth X.K C "__len__" f) (F : FnOk X.prog X.w X.K X.mg X.base CX k f fd ps sp) (hr : Room (k + 1) X.A) (hb : Binds X.K fd ps []) (hx : Passes CX X E) (int : ∀ vs H (Q : VK) E, sp vs H Q E → sp vs H (fun v H' => (∃ n : Nat, v = .int n ∧ n < 2 ^ 63) ∧ Q v H') E) : CallR X (.builtin "len") (rOwn1 C sp E) := by
  intro pins s σ H xs us Q I r h
  obtain ⟨a, dx, fs, rfl, ha, q⟩ := h
  obtain ⟨u, rfl, ru⟩ := vals1 r
  obtain rfl : u = Value.ref a := ru
  obtain ⟨mA, J, _⟩ := ins_get I.hok ha
  obtain ⟨od, J, _⟩ := J.look
  obtain ⟨mm, hF⟩ := I.fr
  refine PySem.W.len_K hF I.ok.mod.kin J m.at_ m.fn (thn (in1_call (vs := [.ref a]) (us := [.ref a]) F hr hb hx I (.cons rfl .nil) (int _ _ _ _ q)) fun u s' h => ?_)
  obtain ⟨v, H', I', rv, ⟨n, rfl, hn⟩, q'⟩ := h
  obtain ⟨t, rfl⟩ := rv
  exact ⟨⟨by omega, by omega⟩, .int n, H', I'.tok _, ⟨_, rfl⟩, q'⟩
/-- x == y, x of an own class with its own ==, y of a built-in type -/
def rOwnB (K : PySem.W.Frag) (C : Addr) (sp : Sp) (E : XK) : R2 := fun x y H Q => ∃ a dx fs t, x = .ref a ∧ H a = some (.ins C dx fs) ∧ TyX K H y (.type t) ∧ PySem.W.subIn K (.type t) (.ref C) = some false ∧ sp [.ref a, y] H Q E
theorem op_ownEqB (D : OpD X.K C "__eq__" f) (F : FnOk X.prog X.w X.K X.mg X.base CX k f fd ps sp) (hr : Room k X.A) (hb : Binds X.K fd ps []) (hx : Passes CX X E) : OpR X (compareOp .Eq) (rOwnB X.K C sp E) := by
  intro pins s σ H x y v u Q I rx ry h
  obtain ⟨a, dx, fs, t, rfl, ha, ty, sub, q⟩ := h
  cases rx
  obtain ⟨mA, J, _⟩ := ins_get I.hok ha
  obtain ⟨od, J, _⟩ := J.look
  obtain ⟨mm, hF⟩ := I.fr
  obtain ⟨Pk, kx, hP, _⟩ := kit_of I ry ty
  refine PySem.W.cmp_K (op := .Eq) (tb := .type t) hr.units0 hF I.ok.mod.kin J (kx.ty _ _ I.kIn hP) (by unfold PySem.W.notFirst; rw [sub]; simp) D.at_ D.fn ?_
  refine thn (run_fn (us := [.ref a, u]) (vs := [.ref a, y]) F hr hb .nil hx I (.cons rfl (.cons ry .nil)) (by rw [List.append_nil]; exact q)) fun u s' h => ?_
  obtain ⟨v, H', I', r, q'⟩ := h
  exact back_of r ⟨v, H', I', r, q'⟩
/-- x != y, both of the own class; != is object's -/
theorem op_ownNe (D : OpD X.K C "__eq__" f) (hn : PySem.W.findIn X.K (.ref C) "__ne__" = some (some (.builtin "object.__ne__"))) (hm : PySem.W.mroIn X.K C (.type "object") = some true) (F : FnOk X.prog X.w X.K X.mg X.base CX k f fd ps sp) (hr : Room (k + 1) X.A) (hb : Binds X.K fd ps []) (hx : Passes CX X E) :
    OpR X (compareOp .NotEq) (fun x y H Q => ∃ a b dx dy fs gs, x = .ref a ∧ y = .ref b ∧ H a = some (.ins C dx fs) ∧ H b = some (.ins C dy gs) ∧ sp [.ref a, .ref b] H (fun v H' => ∃ c, v = .bl c ∧ Q (.bl (!c)) H') E) := by
  intro pins s σ H x y v u Q I rx ry h
  obtain ⟨a, b, dx, dy, fs, gs, rfl, rfl, ha, hb', q⟩ := h
  cases rx
  cases ry
  obtain ⟨mA, J, _⟩ := ins_get I.hok ha
  obtain ⟨mB, J', _⟩ := ins_get I.hok hb'
  obtain ⟨od, J, _⟩ := J.look
  obtain ⟨od', J', _⟩ := J'.look
  refine PySem.W.lm_ne hr.units0 hr.in1.units0 I.kIn J J' hn hm D.at_ D.fn (thn (in1_call (vs := [.ref a, .ref b]) (us := [.ref a, .ref b]) F hr hb hx I (.cons rfl (.cons rfl .nil)) q) fun u s' h => ?_)
  obtain ⟨v, H', I', rv, c, rfl, q'⟩ := h
  cases rv
  exact ⟨.bl (!c), H', I', rfl, q'⟩
end
end Lm

namespace PySem.W
open PySem PySem.Calls PyProof.Rows
section
variable {prog : Program} {w : World} {A : Around} {E : Value → Shared → Prop} {s : Shared} {K : Frag} {x C f : Addr} {ox : Obj} {od : Option Obj}
/-- the text of an object of an own class within a container's -/
theorem lm_reprUnder {b : Nat} {Q : Str → Shared → Prop} (hb : b ≤ sizeLine) (hu : A.units < cLine) (X : K.In s.heap) (I : InstAt s.heap x ox C od) (hs : findIn K (.ref C) "__repr__" = some (some (.ref f))) (hf : isFn K (.ref f) = true)
    (h : wpAny (model prog w) A (call (.ref f) [.ref x]) (StrBack fun v s' => ∃ z t, v = .str z t ∧ Q z s') E s) : wpAny (model prog w) A (pyReprUnder b (.ref x)) Q E s := by
  refine wpAny_pyReprUnder_ref hb ?_
  unfold pyReprObjUnder pyReprObjBy
  refine wpAny_bind (wpAny_cRoomFor hu ?_)
  refine wpAny_bind (wpAny_bind (I.type.here ((looks_findIn X hs).here ?_)))
  show wpAny _ _ (if (some (Value.ref f)).isNone = true then _ else _) _ _ _
  rw [if_neg (by simp)]
  have fin : wpAny (model prog w) A (call (.ref f) ([.ref x] ++ []) >>= fun v => pure (some v)) (fun r s' => ∃ z t, r = some (.str z t) ∧ Q z s') E s := wpAny_bind (wpAny_mono h (fun r s' hr => by
    cases r <;> first | exact hr.elim | skip
    obtain ⟨z, t, e, q⟩ := hr
    cases e
    exact wpAny_pure ⟨_, _, rfl, q⟩) fun _ _ y => y)
  refine wpAny_bind (wpAny_mono (Q := fun r s' => ∃ z t, r = some (.str z t) ∧ Q z s') ?_ (fun r s' hr => ?_) fun _ _ y => y)
  · simp only [callSpecialIfBoundBy?, bindSpecialIfBound?]
    refine wpAny_holding (wpAny_bind (wpAny_bind (wpAny_bind (I.type.here ((looks_findIn X hs).here ?_)))))
    refine wpAny_bind (wpAny_askSetting (wpAny_ite ?_))
    split
    · exact wpAny_bind ((bind_fn X _ (beq_iff_eq.mp hf)).here (wpAny_pure (by exact fin)))
    · exact wpAny_tryCatch (wpAny_bind ((bind_fn X _ (beq_iff_eq.mp hf)).here (wpAny_pure (by exact fin))))
  · obtain ⟨z, t, rfl, q⟩ := hr
    refine wpAny_bind (wpAny_isInstance (typeIs_str _ _ _) isSubtype_str_str ?_)
    first
      | exact wpAny_pure ⟨_, _, rfl, q⟩
      | (rw [if_pos rfl]; exact wpAny_pure ⟨_, _, rfl, q⟩)
      | (simp only [if_true]; exact wpAny_pure ⟨_, _, rfl, q⟩)
end
end PySem.W
namespace Lm
open PySem PySem.Spec PyProof.Rows L2
/-! ## repr of a tuple that holds objects of an own class -/
theorem tupu_depth {A : Around} {a : Addr} : (A.under (.builtin "tuple.__repr__" ⟨[.ref a], []⟩)).depth ≤ A.depth + 1 := by
  first
    | (show A.depth + 0 ≤ _; omega)
    | (show A.depth + 1 ≤ _; omega)
    | simp [Around.under, Code.weight, Code.isCreation, Code.isGuard, Code.isCaller, Code.frames, Code.isFrame, guardIds]
theorem room_tupu {k : Nat} {A : Around} (r : Room (k + 1) A) (a : Addr) : Room k (A.under (.builtin "tuple.__repr__" ⟨[.ref a], []⟩)) :=
  ⟨r.hd, by have := r.dp; have := tupu_depth (A := A) (a := a); omega, by have := r.un; rw [units_under_tuple_repr]; omega⟩
theorem env0_tupu {P : Program} {w : World} {K : PySem.W.Frag} {mg : Str → Option Value} {base : Heap} {A : Around} {outer : List Env} {s : Shared} {H : Hp} (e : Env0 P w K mg base A outer s H) (a : Addr) :
    Env0 P w K mg base (A.under (.builtin "tuple.__repr__" ⟨[.ref a], []⟩)) outer s H := ⟨by first | exact e.frames | (simpa [Around.under, Code.envs, Code.isFrame, pushEnvs] using e.frames), e.mod, e.bs, e.bsz, e.funs, e.frf, e.hok, e.bare⟩
/-- values without parts -/
def leafD : V → Option PyData
  | .non => some .none
  | .bl b => some (.bool b)
  | .int i => some (.int i)
  | .str x => some (.str x)
  | _ => none
/-- the items' texts, one behind another -/
def tItems (C : Addr) (sp : Sp) (E : XK) : List V → List Str → Hp → (List Str → Hp → Prop) → Prop
  | [], acc, H, k => k acc H
  | v :: vs, acc, H, k => (∃ d, leafD v = some d ∧ d.showable = true ∧ d.shown.length ≤ 10000 ∧ tItems C sp E vs (acc ++ [d.shown]) H k) ∨
    ∃ x dx fs, v = .ref x ∧ H x = some (.ins C dx fs) ∧ sp [.ref x] H (fun u H' => ∃ z : Str, u = .str z ∧ z.length ≤ 10000 ∧ tItems C sp E vs (acc ++ [z]) H' k) E
def rReprT (C : Addr) (sp : Sp) (E : XK) : List V → Hp → VK → Prop := fun xs H Q => ∃ a vs, xs = [.ref a] ∧ H a = some (.tup vs) ∧ vs.length ≤ 1000 ∧ tItems C sp E vs [] H fun ts H' => Q (.str (tupleText ts)) H'
section
variable {X : Cx} {CX : CXT} {k : Nat} {C f : Addr} {fd : FuncData} {ps : List Str} {sp : Sp} {E : XK}
theorem leaf_run {pins : List (Addr × Obj)} {σ : L2.St} {H : Hp} {s : Shared} {A : Around} {XE : Value → Shared → Prop} {b : Nat} {v : V} {u : Value} {d : PyData} {Q : Str → Shared → Prop} (I : Inv X pins σ H s) (r : RelV v u) (hd : leafD v = some d) (hs : d.showable = true) (hb : b + d.shown.length ≤ sizeLine)
    (h : ∀ tk, Inv X pins σ H { s with toks := tk } → Q d.shown { s with toks := tk }) : wpAny (model X.prog X.w) A (pyReprUnder b u) Q XE s := by
  have go : ReprIs X.prog X.w u d.shown → wpAny (model X.prog X.w) A (pyReprUnder b u) Q XE s := fun z => z b hb A XE s Q fun tk => h tk (I.tok tk)
  cases v with
  | non =>
    cases hd
    cases r
    exact go ReprIs.none
  | bl b =>
    cases hd
    cases r
    exact go (by simpa only [PyData.shown] using ReprIs.bool b)
  | int i =>
    cases hd
    obtain ⟨t, rfl⟩ := r
    exact go (by simpa only [PyData.shown] using ReprIs.int t (by simpa [PyData.showable] using hs))
  | str x =>
    cases hd
    obtain ⟨t, rfl⟩ := r
    exact go (by simpa only [PyData.shown] using ReprIs.str x t (by simp only [PyData.shown] at hb; omega))
  | _ => cases hd
theorem items_run (m : Meth X.K C "__repr__" f) (F : FnOk X.prog X.w X.K X.mg X.base CX k f fd ps sp) (hb : Binds X.K fd ps []) (hx : Passes CX X E) {A : Around} (hr : Room k A) (hfr : ∀ {s : Shared} {H : Hp} {pins : List (Addr × Obj)} {σ : L2.St}, Inv X pins σ H s → Env0 X.prog X.w X.K X.mg X.base A X.stack s H) {pins : List (Addr × Obj)} {σ : L2.St} {κ : List Str → Hp → Prop} :
    ∀ (us : List Value) (vs : List V) (acc : List Str) (n : Nat) (s : Shared) (H : Hp) (Q : (Array Str × Nat) → Shared → Prop), Vals vs us → Inv X pins σ H s → n + vs.length * 10002 + 10002 ≤ sizeLine → tItems C sp E vs acc H κ →
      (∀ ts H' s' n', Inv X pins σ H' s' → κ ts H' → ts.length = acc.length + vs.length → (∀ t ∈ ts, t ∈ acc ∨ t.length ≤ 10000) → Q ⟨ts.toArray, n'⟩ s') → wpAny (model X.prog X.w) A (forIn us (⟨acc.toArray, n⟩ : (Array Str × Nat)) tupBody) Q X.xe s := by
  intro us
  induction us with
  | nil =>
    intro vs acc n s H Q r I hn h q
    cases r
    rw [List.forIn_nil]
    exact wpAny_pure (q acc H s n I h (by simp) fun t ht => .inl ht)
  | cons u us ih =>
    intro vs acc n s H Q r I hn h q
    cases r with
    | cons r1 rs =>
      rename_i v vs
      rw [List.length_cons] at hn
      rw [List.forIn_cons]
      have step : ∀ (t : Str) (s' : Shared) (H' : Hp), t.length ≤ 10000 → Inv X pins σ H' s' → tItems C sp E vs (acc ++ [t]) H' κ → wpAny (model X.prog X.w) A (forIn us (⟨acc.toArray.push t, n + (t.length + 2)⟩ : (Array Str × Nat)) tupBody) Q X.xe s' := by
        intro t s' H' ht I' h'
        have e : acc.toArray.push t = (acc ++ [t]).toArray := by simp
        rw [e]
        refine ih vs (acc ++ [t]) (n + (t.length + 2)) s' H' Q rs I' (by omega) h' fun ts H2 s2 n2 I2 k2 l2 b2 => q ts H2 s2 n2 I2 k2 (by rw [l2]; simp only [List.length_append, List.length_cons, List.length_nil]; omega) fun z hz => ?_
        rcases b2 z hz with y | y
        · rcases List.mem_append.mp y with y | y
          · exact .inl y
          · rw [List.mem_singleton.mp y]
            exact .inr ht
        · exact .inr y
      rcases h with ⟨d, hd, hs, hl, h⟩ | ⟨x, dx, fs, rfl, hx', h⟩
      · refine wpAny_bind (wpAny_bind (leaf_run I r1 hd hs (by omega) fun tk I' => wpAny_pure ?_))
        exact step d.shown _ H hl I' h
      · obtain rfl : u = Value.ref x := r1
        obtain ⟨mA, J, _⟩ := ins_get I.hok hx'
        obtain ⟨od, J, _⟩ := J.look
        refine wpAny_bind (wpAny_bind (PySem.W.lm_reprUnder (by omega) hr.units0 I.kIn J m.at_ m.fn ?_))
        have n1 : ([Value.ref x] ++ []).length = ps.length := by
          rw [List.append_nil]
          exact F.len _ _ _ _ h
        have z := hb s [Value.ref x] I.kIn n1
        rw [List.append_nil] at z
        refine wpAny_call (codeAny_mono (F.run A X.stack s H ⟨[.ref x], []⟩ [.ref x] [.ref x] _ E hr (hfr I) z (.cons rfl .nil) h) fun r s' hq => ?_)
        match r, hq with
        | .error e, hq => exact hx pins σ H s e s' I hq
        | .ok .next, hq => exact False.elim hq
        | .ok .brk, hq => exact False.elim hq
        | .ok .cont, hq => exact False.elim hq
        | .ok (.ret u), hq =>
          obtain ⟨v, H', I', rv, z, rfl, hz, h'⟩ := I.after hq
          obtain ⟨t, rfl⟩ := rv
          exact ⟨z, t, rfl, wpAny_pure (step z s' H' hz I' h')⟩
theorem tupleText_few {ts : List Str} (h : ∀ t ∈ ts, t.length ≤ 10000) (l : ts.length ≤ 1000) : (tupleText ts).length ≤ sizeLine := by
  have z := tupleText_len_le ts
  have s : ∀ l : List Str, (∀ t ∈ l, t.length ≤ 10000) → (l.map (·.length)).sum ≤ 10000 * l.length := by
    intro l
    induction l with
    | nil => intro _; exact Nat.zero_le _
    | cons a r ih =>
      intro q
      have h1 := q a List.mem_cons_self
      have h2 := ih fun n m => q n (List.mem_cons_of_mem _ m)
      simp only [List.map_cons, List.sum_cons, List.length_cons]
      omega
  have s2 := s ts h
  rw [sizeLine_eq]
  omega
/-- repr(t), t a tuple of values without parts and of objects of the class -/
theorem call_reprT (gd : X.A.guards = some []) (m : Meth X.K C "__repr__" f) (F : FnOk X.prog X.w X.K X.mg X.base CX k f fd ps sp) (hr : Room (k + 2) X.A) (hb : Binds X.K fd ps []) (hx : Passes CX X E) : CallR X (.builtin "repr") (rReprT C sp E) := by
  intro pins s σ H xs us Q I r h
  obtain ⟨a, vs, rfl, ha, hl, h⟩ := h
  obtain ⟨u, rfl, ru⟩ := vals1 r
  obtain rfl : u = Value.ref a := ru
  obtain ⟨_, its, rv, o, ho, hc, n, hd⟩ := I.hok a _ ha
  have hty : s.TypeIs (.ref a) "tuple" := ⟨o, ho, hc⟩
  have gd1 : X.A.in1.guards = some [] := gd
  refine call_repr_slot hr.in1.units0 hty PySem.F.slot_tuple_repr ?_
  refine wpAny_call (codeAny_call_builtin_own (Code.quiet_builtin _ (by decide +kernel)) PySem.F.entry_tuple_repr (PySem.F.slot_tuple_repr.check _ _ _ _ _ _ _ _ hty (PySem.F.args_tuple_repr_1 _) ?_))
  show wpOwn _ _ _ (Builtin.tupleReprAt 0 ⟨[.ref a], []⟩) _ _ _
  rw [tuple_repr_tree, tupleReprUnderWay_eq]
  refine wpOwn_bind (wpOwn_stackTailAny gd1 (tupGuardF_off _) (tupGuardF_pos _) ?_)
  refine wpOwn_of_wpAny ?_
  show wpAny _ _ (tupleReprRest 0 (.ref a)) _ _ s
  unfold tupleReprRest Builtin.Tuple.tupleItemsOf
  refine wpAny_bind (wpAny_bind (wpAny_seqItems ho hd (wpAny_pure ?_)))
  rw [← Array.forIn_toList]
  have len : its.length = vs.length := rv.length.symm
  have hz : 0 + vs.length * 10002 + 10002 ≤ sizeLine := by
    rw [sizeLine_eq]
    omega
  refine wpAny_bind (items_run m F hb hx (room_tupu hr.in1 a) (fun I => env0_tupu I.env0.in1 a) its vs [] 0 s H _ rv I hz h fun ts H' s' n' I' q hlen hts => ?_)
  have hts' : ∀ t ∈ ts, t.length ≤ 10000 := fun t ht => (hts t ht).resolve_left fun z => nomatch z
  have hlen' : ts.length = its.length := by rw [hlen, len, List.length_nil, Nat.zero_add]
  have hsz := tupleText_few hts' (by rw [hlen', len]; exact hl)
  refine wpAny_bind (wpAny_mkStr (wpAny_pure ?_) (by simpa [tupleText, hlen'] using hsz))
  have fin : ∀ tk, ∃ x t, Value.str (tupleText ts) tk = .str x t ∧ EP X pins σ Q (.str (tupleText ts) tk) { s' with toks := s'.toks + 1 } := fun tk => ⟨_, _, rfl, .str (tupleText ts), H', I'.tok _, ⟨_, rfl⟩, q⟩
  simpa [tupleText, hlen'] using fin s'.toks
end
end Lm

namespace Lm
open PySem PySem.Spec PyProof.Rows L2
/-! ## Decimal figures, block by block -/
/-- the text of a number -/
abbrev ds (i : Int) : Str := Str.ofString (toString i)
def padK : Nat → Nat → List Nat
  | 0, _ => []
  | k + 1, r => padK k (r / 10) ++ [48 + r % 10]
theorem padK_len : ∀ k r, (padK k r).length = k
  | 0, _ => rfl
  | k + 1, r => by rw [padK, List.length_append, padK_len k] <;> rfl
theorem padK_zero : ∀ k, padK k 0 = List.replicate k 48
  | 0 => rfl
  | k + 1 => by
    rw [padK, Nat.zero_div, padK_zero k, List.replicate_succ']
theorem numL_block : ∀ k q r : Nat, 0 < q → r < 10 ^ k → TL.numL (q * 10 ^ k + r) = TL.numL q ++ padK k r
  | 0, q, r, _, h => by
    have e : r = 0 := by simpa using h
    subst e
    simp [padK]
  | k + 1, q, r, hq, h => by
    have e : q * 10 ^ (k + 1) = q * 10 ^ k * 10 := by rw [Nat.pow_succ, Nat.mul_assoc]
    have p : 0 < q * 10 ^ k := Nat.mul_pos hq (Nat.pos_of_ne_zero (by simp))
    have h2 : r / 10 < 10 ^ k := by
      rw [Nat.pow_succ] at h
      omega
    have ih := numL_block k q (r / 10) hq h2
    generalize q * 10 ^ k = A at *
    rw [e, TL.numL_step (by omega), padK, ← List.append_assoc, ← ih]
    have e1 : (A * 10 + r) / 10 = A + r / 10 := by omega
    have e2 : (A * 10 + r) % 10 = r % 10 := by omega
    rw [e1, e2]
theorem pad_num : ∀ k r : Nat, r < 10 ^ (k + 1) → List.replicate (k + 1 - (TL.numL r).length) 48 ++ TL.numL r = padK (k + 1) r
  | 0, r, h => by
    have h : r < 10 := by simpa using h
    rw [TL.numL_lt h]
    show [] ++ [48 + r] = [] ++ [48 + r % 10]
    rw [Nat.mod_eq_of_lt h]
  | k + 1, r, h => by
    by_cases s : r < 10
    · rw [TL.numL_lt s, padK, Nat.div_eq_of_lt s, padK_zero, Nat.mod_eq_of_lt s] <;> rfl
    · have h2 : r / 10 < 10 ^ (k + 1) := by
        rw [Nat.pow_succ] at h
        omega
      have ih := pad_num k (r / 10) h2
      rw [TL.numL_step (by omega), List.length_append, padK, ← ih, List.append_assoc]
      congr 2
      simp only [List.length_cons, List.length_nil]
      omega
theorem tl_ds_nat (n : Nat) : TL.tl (ds (n : Int)) = TL.numL n := TL.tl_num n
theorem tl_ds_neg {i : Int} (h : i < 0) : TL.tl (ds i) = 45 :: TL.numL i.natAbs := by
  obtain ⟨m, rfl⟩ : ∃ m : Nat, i = Int.negSucc m := by
    cases i with
    | ofNat m => exact absurd h (by simp)
    | negSucc m => exact ⟨m, rfl⟩
  show (Str.ofString (toString (Int.negSucc m))).cps.toList = 45 :: TL.numL (m + 1)
  rw [PyProof.Rows.signs_ofString]
  show ("-" ++ Nat.repr (m + 1)).toList.map Char.toNat = 45 :: (Nat.toDigits 10 (m + 1)).map Char.toNat
  rw [String.toList_append, List.map_append, Nat.toList_repr] <;> rfl
theorem tl_zfill {r : Nat} (h : r < 10 ^ 64) : TL.tl (Txt.zfill (ds (r : Int)) 64) = padK 64 r := by
  have hl : (TL.numL r).length ≤ 64 := TL.numL_len (by decide) h
  have e : TL.tl (ds (r : Int)) = TL.numL r := tl_ds_nat r
  have el : (ds (r : Int)).length = (TL.numL r).length := by rw [TL.len_tl, e]
  have pn := pad_num 63 r h
  unfold Txt.zfill
  by_cases c : (64 : Int) ≤ (ds (r : Int)).length
  · rw [if_pos c, e, ← pn]
    have z : 63 + 1 - (TL.numL r).length = 0 := by omega
    rw [z] <;> rfl
  · rw [if_neg c]
    unfold PySem.zfilled
    have h0 : ∀ c, (ds (r : Int)).cps[0]? = some c → c ≠ 43 ∧ c ≠ 45 := fun c hc => by
      have m : c ∈ TL.numL r := by
        rw [← e]
        have hc : (ds (r : Int)).cps.toList[0]? = some c := by rw [Array.getElem?_toList]; exact hc
        exact List.mem_of_getElem? hc
      have := TL.numL_digits r c m
      omega
    have fin : TL.tl (Builtin.Str.padded (ds (r : Int)) ((64 : Int).toNat - (ds (r : Int)).length) 0 48) = padK 64 r := by
      show (Builtin.Str.padded (ds (r : Int)) ((64 : Int).toNat - (ds (r : Int)).length) 0 48).cps.toList = _
      rw [PyProof.Rows.padded_list, List.replicate_zero, List.append_nil, el, ← pn]
      show List.replicate (64 - _) 48 ++ TL.tl (ds (r : Int)) = _
      rw [e]
    split
    · rename_i q
      exact absurd rfl (h0 43 q).1
    · rename_i q
      exact absurd rfl (h0 45 q).2
    · exact fin
def figB (r : Nat) : List Str := if h : r < 10 ^ 64 then [ds (r : Int)] else Txt.zfill (ds ((r % 10 ^ 64 : Nat) : Int)) 64 :: figB (r / 10 ^ 64)
  termination_by r
  decreasing_by exact Nat.div_lt_self (by have : (0 : Nat) < 10 ^ 64 := by decide +kernel
                                          omega) (by decide +kernel)
theorem figB_lt {r : Nat} (h : r < 10 ^ 64) : figB r = [ds (r : Int)] := by rw [figB, dif_pos h]
theorem figB_ge {r : Nat} (h : ¬ r < 10 ^ 64) : figB r = Txt.zfill (ds ((r % 10 ^ 64 : Nat) : Int)) 64 :: figB (r / 10 ^ 64) := by rw [figB, dif_neg h]
theorem joinL_flat : ∀ ls : List (List Nat), TL.joinL [] ls = ls.flatten
  | [] => rfl
  | [p] => by simp [TL.joinL]
  | p :: q :: r => by
    show p ++ ([] ++ TL.joinL [] (q :: r)) = _
    rw [List.nil_append, joinL_flat (q :: r)] <;> rfl
theorem tl_join0 (xs : List Str) : TL.tl (Txt.join "" xs) = (xs.map TL.tl).flatten := by
  rw [TL.join_eq, TL.tl_join]
  exact joinL_flat _
theorem figB_flat (r : Nat) : ((figB r).reverse.map TL.tl).flatten = TL.numL r := by
  induction r using Nat.strongRecOn with
  | _ r ih =>
    by_cases h : r < 10 ^ 64
    · rw [figB_lt h]
      simp [tl_ds_nat]
    · have pos : (0 : Nat) < 10 ^ 64 := by decide +kernel
      have lt : r / 10 ^ 64 < r := Nat.div_lt_self (by omega) (by decide +kernel)
      have q0 : 0 < r / 10 ^ 64 := Nat.div_pos (by omega) pos
      have m : r % 10 ^ 64 < 10 ^ 64 := Nat.mod_lt r pos
      rw [figB_ge h, List.reverse_cons, List.map_append, List.flatten_append, ih _ lt]
      show _ ++ (TL.tl (Txt.zfill _ 64) ++ []) = _
      rw [List.append_nil, tl_zfill m, ← numL_block 64 _ _ q0 m, Nat.div_add_mod' r (10 ^ 64)]
/-- what figures_of puts together -/
def figL (n : Int) : List Str := figB n.natAbs ++ (if n < 0 then [("-" : Str)] else [])
theorem figs_eq (n : Int) : Txt.join "" (figL n).reverse = ds n := by
  refine TL.ext_tl ?_
  rw [tl_join0]
  unfold figL
  by_cases h : n < 0
  · rw [if_pos h, List.reverse_append, List.map_append, List.flatten_append, figB_flat, tl_ds_neg h] <;> rfl
  · obtain ⟨m, rfl⟩ := Int.eq_ofNat_of_zero_le (by omega : 0 ≤ n)
    rw [if_neg h, List.append_nil, figB_flat]
    exact (tl_ds_nat m).symm
/-- numbers that are reckoned with -/
def Nb (n : Int) : Prop := n.natAbs < 2 ^ 9000
theorem Nb.log {n : Int} (h : Nb n) : n.natAbs.log2 < 9000 := by
  by_cases z : n.natAbs = 0
  · rw [z]
    decide
  · exact (Nat.log2_lt z).mpr h
theorem two_ten : (2 : Nat) ^ 9000 ≤ 10 ^ 2710 := by decide +kernel
theorem Nb.num {n : Int} (h : Nb n) : (TL.numL n.natAbs).length ≤ 2710 := TL.numL_len (by decide) (Nat.lt_of_lt_of_le h two_ten)
theorem ds_len {n : Int} (h : Nb n) : (ds n).length ≤ 2711 := by
  have l := h.num
  rw [TL.len_tl]
  by_cases z : n < 0
  · rw [tl_ds_neg z, List.length_cons]
    omega
  · obtain ⟨m, rfl⟩ := Int.eq_ofNat_of_zero_le (by omega : 0 ≤ n)
    rw [tl_ds_nat]
    simp only [Int.natAbs_natCast] at l
    omega
theorem sum_flat : ∀ xs : List Str, (xs.map (·.length)).sum = (xs.map TL.tl).flatten.length
  | [] => rfl
  | x :: r => by
    have ih := sum_flat r
    simp only [List.map_cons, List.sum_cons, List.flatten_cons, List.length_append]
    rw [ih, TL.len_tl]
theorem count_flat : ∀ ls : List (List Nat), (∀ l ∈ ls, l ≠ []) → ls.length ≤ ls.flatten.length
  | [], _ => Nat.le_refl _
  | l :: r, h => by
    have h1 := count_flat r fun x hx => h x (List.mem_cons_of_mem _ hx)
    have h2 : 0 < l.length := List.length_pos_iff.mpr (h l List.mem_cons_self)
    simp only [List.length_cons, List.flatten_cons, List.length_append]
    omega
theorem figB_ne (r : Nat) : ∀ x ∈ figB r, TL.tl x ≠ [] := by
  induction r using Nat.strongRecOn with
  | _ r ih =>
    intro x hx
    by_cases h : r < 10 ^ 64
    · rw [figB_lt h] at hx
      rw [List.mem_singleton.mp hx, tl_ds_nat]
      exact TL.numL_ne r
    · rw [figB_ge h] at hx
      have pos : (0 : Nat) < 10 ^ 64 := by decide +kernel
      rcases List.mem_cons.mp hx with z | z
      · rw [z, tl_zfill (Nat.mod_lt r pos)]
        intro y
        have := padK_len 64 (r % 10 ^ 64)
        rw [y] at this
        cases this
      · exact ih _ (Nat.div_lt_self (by omega) (by decide +kernel)) x z
theorem figL_few {n : Int} (h : Nb n) : (figL n).length ≤ 2711 ∧ ((figL n).map (·.length)).sum ≤ 2711 := by
  have a : (figB n.natAbs).length ≤ 2710 ∧ ((figB n.natAbs).map (·.length)).sum ≤ 2710 := by
    have f := figB_flat n.natAbs
    have l := h.num
    have e : ((figB n.natAbs).map (·.length)).sum = (TL.numL n.natAbs).length := by
      rw [← f, ← sum_flat, List.map_reverse, List.sum_reverse]
    have c := count_flat ((figB n.natAbs).reverse.map TL.tl) fun l hl => by
      obtain ⟨x, hx, rfl⟩ := List.mem_map.mp hl
      exact figB_ne _ x (List.mem_reverse.mp hx)
    rw [f, List.length_map, List.length_reverse] at c
    omega
  unfold figL
  have s : (("-" : Str)).length = 1 := rfl
  split
  · simp only [List.length_append, List.map_append, List.sum_append, List.length_cons, List.length_nil, List.map_cons, List.map_nil, List.sum_cons, List.sum_nil, s]
    omega
  · rw [List.append_nil]
    omega

/-! ## Texts of ratios -/
theorem repl1_free {z : List Nat} : ∀ {l : List Nat}, 47 ∉ l → StrLaws.replL [47] z l = l
  | [], _ => StrLaws.replL_nil
  | c :: r, h => by
    rw [StrLaws.replL_miss (fun e => h (by
      have e : [c] = [47] := e
      cases e
      exact List.mem_cons_self)), repl1_free fun m => h (List.mem_cons_of_mem _ m)]
theorem repl1_mid {z b : List Nat} : ∀ {a : List Nat}, 47 ∉ a → StrLaws.replL [47] z (a ++ 47 :: b) = a ++ (z ++ StrLaws.replL [47] z b)
  | [], _ => by
    rw [List.nil_append, List.nil_append, StrLaws.replL_hit (by simp) rfl] <;> rfl
  | c :: r, h => by
    rw [List.cons_append, StrLaws.replL_miss (fun e => h (by
      have e : [c] = [47] := e
      cases e
      exact List.mem_cons_self)), repl1_mid fun m => h (List.mem_cons_of_mem _ m)] <;> rfl
theorem ds_free (i : Int) : 47 ∉ TL.tl (ds i) := by
  by_cases z : i < 0
  · rw [tl_ds_neg z]
    intro m
    rcases List.mem_cons.mp m with e | e
    · cases e
    · exact TL.numL_free (.inl (by decide)) e
  · obtain ⟨m, rfl⟩ := Int.eq_ofNat_of_zero_le (by omega : 0 ≤ i)
    rw [tl_ds_nat]
    exact TL.numL_free (.inl (by decide))
def ratText (n u : Int) : Str := if u = 1 then ds n else ds n ++ ("/" : Str) ++ ds u
def ratRepr (n u : Int) : Str := ("Ratio(" : Str) ++ Txt.replace (ratText n u) "/" ", " ++ (")" : Str)
def ratShow (n u : Int) : Str := ("Ratio(" : Str) ++ ds n ++ (if u = 1 then ("" : Str) else (", " : Str) ++ ds u) ++ (")" : Str)
theorem ratRepr_eq (n u : Int) : ratRepr n u = ratShow n u := by
  have key : TL.tl (Txt.replace (ratText n u) "/" ", ") = TL.tl (ds n) ++ TL.tl (if u = 1 then ("" : Str) else (", " : Str) ++ ds u) := by
    refine (StrLaws.replace_list (x := ratText n u) (y := "/") (z := ", ") (by decide)).trans ?_
    show StrLaws.replL [47] (TL.tl ", ") (TL.tl (ratText n u)) = _
    unfold ratText
    by_cases h : u = 1
    · rw [if_pos h, if_pos h, repl1_free (ds_free n)]
      show _ = _ ++ []
      rw [List.append_nil]
    · rw [if_neg h, if_neg h, TL.tl_append, TL.tl_append, List.append_assoc]
      show StrLaws.replL [47] _ (TL.tl (ds n) ++ 47 :: TL.tl (ds u)) = _
      rw [repl1_mid (ds_free n), repl1_free (ds_free u), TL.tl_append]
  refine TL.ext_tl ?_
  unfold ratRepr ratShow
  rw [TL.tl_append, TL.tl_append, TL.tl_append, TL.tl_append, TL.tl_append, key]
  simp only [List.append_assoc]
theorem ratText_len {n u : Int} (h : Nb n) (g : Nb u) : (ratText n u).length ≤ 6000 := by
  have a := ds_len h
  have b := ds_len g
  have e : (("/" : Str)).length = 1 := rfl
  unfold ratText
  split
  · omega
  · rw [strLen_append, strLen_append]
    omega
theorem ratRepr_len {n u : Int} (h : Nb n) (g : Nb u) : (ratRepr n u).length ≤ 6000 := by
  have a := ds_len h
  have b := ds_len g
  have e1 : (("Ratio(" : Str)).length = 6 := rfl
  have e2 : ((", " : Str)).length = 2 := rfl
  have e3 : (("" : Str)).length = 0 := rfl
  have e4 : ((")" : Str)).length = 1 := rfl
  rw [ratRepr_eq]
  unfold ratShow
  rw [strLen_append, strLen_append, strLen_append]
  split
  · omega
  · rw [strLen_append]
    omega

/-! ## Least terms -/
def gd (n u : Int) : Int := ((Nat.gcd n.natAbs u.natAbs : Nat) : Int)
def sg (n u : Int) : Int := if u < 0 then -(gd n u) else gd n u
def rn (n u : Int) : Int := n.fdiv (sg n u)
def ru (n u : Int) : Int := u.fdiv (sg n u)
structure Red (n u : Int) : Prop where
  pos : 0 < u
  cop : Nat.gcd n.natAbs u.natAbs = 1
section
variable {n u : Int}
theorem gd_pos (h : u ≠ 0) : 0 < gd n u := by
  unfold gd
  have : 0 < Nat.gcd n.natAbs u.natAbs := Nat.gcd_pos_of_pos_right _ (by omega)
  omega
theorem sg_ne (h : u ≠ 0) : sg n u ≠ 0 := by
  have := gd_pos (n := n) h
  unfold sg
  split <;> omega
theorem sg_dvd (n u : Int) : sg n u ∣ n ∧ sg n u ∣ u := by
  have a : gd n u ∣ n := Int.ofNat_dvd_left.mpr (Nat.gcd_dvd_left _ _)
  have b : gd n u ∣ u := Int.ofNat_dvd_left.mpr (Nat.gcd_dvd_right _ _)
  unfold sg
  split
  · exact ⟨Int.neg_dvd.mpr a, Int.neg_dvd.mpr b⟩
  · exact ⟨a, b⟩
theorem rn_mul (n u : Int) : rn n u * sg n u = n := by
  unfold rn
  rw [Int.fdiv_eq_ediv_of_dvd (sg_dvd n u).1, Int.ediv_mul_cancel (sg_dvd n u).1]
theorem ru_mul (n u : Int) : ru n u * sg n u = u := by
  unfold ru
  rw [Int.fdiv_eq_ediv_of_dvd (sg_dvd n u).2, Int.ediv_mul_cancel (sg_dvd n u).2]
theorem sg_abs (n u : Int) : (sg n u).natAbs = Nat.gcd n.natAbs u.natAbs := by
  unfold sg gd
  split
  · rw [Int.natAbs_neg, Int.natAbs_natCast]
  · rw [Int.natAbs_natCast]
theorem rn_le (n u : Int) (h : u ≠ 0) : (rn n u).natAbs ≤ n.natAbs := by
  have e : (rn n u).natAbs * (sg n u).natAbs = n.natAbs := by rw [← Int.natAbs_mul, rn_mul]
  have p : 0 < (sg n u).natAbs := Int.natAbs_pos.mpr (sg_ne h)
  rw [← e]
  exact Nat.le_mul_of_pos_right _ p
theorem ru_le (n u : Int) (h : u ≠ 0) : (ru n u).natAbs ≤ u.natAbs := by
  have e : (ru n u).natAbs * (sg n u).natAbs = u.natAbs := by rw [← Int.natAbs_mul, ru_mul]
  have p : 0 < (sg n u).natAbs := Int.natAbs_pos.mpr (sg_ne h)
  rw [← e]
  exact Nat.le_mul_of_pos_right _ p
theorem ru_pos (h : u ≠ 0) : 0 < ru n u := by
  have e := ru_mul n u
  have g := gd_pos (n := n) h
  unfold sg at e
  rcases Int.lt_trichotomy (ru n u) 0 with z | z | z
  · exfalso
    split at e
    · have : 0 ≤ ru n u * -gd n u := by
        rw [Int.mul_neg, ← Int.neg_mul]
        exact Int.mul_nonneg (by omega) (by omega)
      omega
    · have : 0 < -ru n u * gd n u := Int.mul_pos (by omega) g
      rw [Int.neg_mul] at this
      omega
  · rw [z, Int.zero_mul] at e
    exact absurd e.symm h
  · exact z
theorem red_of (h : u ≠ 0) : Red (rn n u) (ru n u) := by
  refine ⟨ru_pos h, ?_⟩
  have e1 : (rn n u).natAbs * (sg n u).natAbs = n.natAbs := by rw [← Int.natAbs_mul, rn_mul]
  have e2 : (ru n u).natAbs * (sg n u).natAbs = u.natAbs := by rw [← Int.natAbs_mul, ru_mul]
  have p : 0 < (sg n u).natAbs := Int.natAbs_pos.mpr (sg_ne h)
  have g := sg_abs n u
  rw [← e1, ← e2, Nat.gcd_mul_right] at g
  generalize (rn n u).natAbs = a at *
  generalize (ru n u).natAbs = b at *
  generalize (sg n u).natAbs = c at *
  have g2 : 1 * c = Nat.gcd a b * c := by omega
  exact (Nat.eq_of_mul_eq_mul_right p g2).symm
theorem red_sg (r : Red n u) : sg n u = 1 := by
  unfold sg gd
  rw [r.cop, if_neg (by have := r.pos; omega)] <;> rfl
theorem red_id (r : Red n u) : rn n u = n ∧ ru n u = u := by
  unfold rn ru
  rw [red_sg r, Int.fdiv_one, Int.fdiv_one]
  exact ⟨rfl, rfl⟩
theorem red_one (n : Int) : Red n 1 := ⟨by decide, by simp⟩
theorem red_add (r : Red n u) : Red (n + u) u := ⟨r.pos, by
  have e : Int.gcd (n + u) u = Int.gcd n u := by simp
  exact e.trans r.cop⟩
theorem nb_rn (h : u ≠ 0) (b : Nb n) : Nb (rn n u) := Nat.lt_of_le_of_lt (rn_le n u h) b
theorem nb_ru (h : u ≠ 0) (b : Nb u) : Nb (ru n u) := Nat.lt_of_le_of_lt (ru_le n u h) b
theorem nb_sg (h : u ≠ 0) (b : Nb u) : Nb (sg n u) := by
  have e : (sg n u).natAbs ≤ u.natAbs := by
    rw [sg_abs]
    exact Nat.gcd_le_right _ (by omega)
  exact Nat.lt_of_le_of_lt e b
end
/-- // of a divisor of any sign -/
def CDivZ (_ j : Int) : Prop := j ≠ 0 ∧ j.natAbs.log2 < 9000
theorem op_fdivZ {X : Cx} : OpR X (binaryOp .FloorDiv) (rI CDivZ fun i j => .int (i.fdiv j)) := opI fun i j _ _ _ _ _ hc q => floordiv_int hc.1 q (.inl (PyProof.noPylong_of_log2 hc.2))

/-! ## A Ratio in the heap -/
abbrev ratA (K : PySem.W.Frag) : Addr := He.ga K "Ratio"
def q1 (n : V) : List (Str × V) := [("number", n)]
def q2 (n u : V) : List (Str × V) := [("number", n), ("under", u)]
def q3 (n u t : V) : List (Str × V) := [("number", n), ("under", u), ("text", t)]
theorem rput1 {n : V} : putF "number" n [] = q1 n := rfl
theorem rput2 {n u : V} : putF "under" u (q1 n) = q2 n u := rfl
theorem rput3 {n u t : V} : putF "text" t (q2 n u) = q3 n u t := rfl
def RatAt (K : PySem.W.Frag) (H : Hp) (x : Addr) (n u : Int) : Prop := ∃ dx : Addr, H x = some (.ins (ratA K) dx (q3 (.int n) (.int u) (.str (ratText n u))))
theorem RatAt.keep {K : PySem.W.Frag} {H H' : Hp} {x : Addr} {n u : Int} (h : RatAt K H x n u) (k : ∀ b o, H b = some o → (∃ C dx fs, o = .ins C dx fs) → H' b = some o) : RatAt K H' x n u := by
  obtain ⟨dx, h1⟩ := h
  exact ⟨dx, k _ _ h1 ⟨_, _, _, rfl⟩⟩
theorem RatAt.same {K : PySem.W.Frag} {H H' : Hp} {x : Addr} {n u : Int} (h : RatAt K H x n u) (s : Same H H') : RatAt K H' x n u := h.keep fun b o e _ => s b o e
theorem RatAt.ext {K : PySem.W.Frag} {H H' : Hp} {x : Addr} {n u : Int} (h : RatAt K H x n u) (e : LamX.ExtN H H') : RatAt K H' x n u := h.keep fun b o q ⟨_, _, _, c⟩ => e b o q fun ps z => by
  rw [z] at c
  cases c
theorem RatAt.keptT {K : PySem.W.Frag} {H H' : Hp} {x a : Addr} {n u : Int} {m : Nat} (h : RatAt K H x n u) (k : KeptT a H H') (hp : PotAt H a m) : RatAt K H' x n u := h.keep fun b o e ⟨_, _, _, c⟩ => by
  obtain ⟨_, _, _, q, _⟩ := hp
  refine k b o e (fun z => ?_) fun ps z => ?_
  · rw [z, q] at e
    cases e
    cases c
  · rw [z] at c
    cases c
theorem RatAt.but {K : PySem.W.Frag} {H H' : Hp} {x a : Addr} {n u : Int} {m : Nat} (h : RatAt K H x n u) (k : KeptBut a H H') (hp : PotAt H a m) : RatAt K H' x n u := h.keptT (KeptT.but k) hp
/-- what the written part says of the class -/
structure RatC (K : PySem.W.Frag) (mg : Str → Option Value) : Prop where
  m : mg "Ratio" = some (.ref (ratA K))
  cl : Cls K (ratA K)
  nN : NoAttr K (ratA K) "number"
  nU : NoAttr K (ratA K) "under"
  nT : NoAttr K (ratA K) "text"
  ha : PySem.W.findIn K (.ref (ratA K)) "__class__" = some (some (.builtin "object.__class__"))
  hn : PySem.W.specialIn K (.builtin "object.__class__") "__get__" = some (some (.builtin "getset_descriptor.__get__"))
  htk : PySem.W.takesIn K (.builtin "object.__class__") = some true
  hm : PySem.W.mroIn K (ratA K) (.type "object") = some true
  me : PySem.W.kitOne K (.ref (ratA K)) (.ref (ratA K)) = some true
  off : ∀ t ∈ (["int", "bool", "str"] : List String), PySem.W.kitOne K (.ref (ratA K)) (.type t) = some false
  un : ∀ t ∈ (["int", "bool", "str", "tuple", "list", "dict", "NoneType"] : List String), PySem.W.kitOne K (.type t) (.ref (ratA K)) = some false
  sub : ∀ t ∈ (["int", "bool", "str", "tuple", "list", "dict", "NoneType"] : List String), PySem.W.subIn K (.type t) (.ref (ratA K)) = some false
  first : PySem.W.selfFirst K (ratA K) = true
  ne : PySem.W.findIn K (.ref (ratA K)) "__ne__" = some (some (.builtin "object.__ne__"))
def ratB (K : PySem.W.Frag) : Bool := He.eqO (PySem.W.findIn K (.ref (ratA K)) "__class__") (some (some (.builtin "object.__class__"))) && (He.eqO (PySem.W.specialIn K (.builtin "object.__class__") "__get__") (some (some (.builtin "getset_descriptor.__get__"))) &&
  (decide (PySem.W.takesIn K (.builtin "object.__class__") = some true) && (decide (PySem.W.mroIn K (ratA K) (.type "object") = some true) && (decide (PySem.W.kitOne K (.ref (ratA K)) (.ref (ratA K)) = some true) &&
  ((["int", "bool", "str"] : List String).all (fun t => decide (PySem.W.kitOne K (.ref (ratA K)) (.type t) = some false)) && ((["int", "bool", "str", "tuple", "list", "dict", "NoneType"] : List String).all (fun t => decide (PySem.W.kitOne K (.type t) (.ref (ratA K)) = some false) && decide (PySem.W.subIn K (.type t) (.ref (ratA K)) = some false)) && (PySem.W.selfFirst K (ratA K) && He.eqO (PySem.W.findIn K (.ref (ratA K)) "__ne__") (some (some (.builtin "object.__ne__")))))))))) 
theorem ratB_ok {K : PySem.W.Frag} {mg : Str → Option Value} (h : ratB K = true) (m : mg "Ratio" = some (.ref (ratA K))) (cl : Cls K (ratA K)) (nN : NoAttr K (ratA K) "number") (nU : NoAttr K (ratA K) "under") (nT : NoAttr K (ratA K) "text") : RatC K mg := by
  obtain ⟨b1, h⟩ := He.ba h
  obtain ⟨b2, h⟩ := He.ba h
  obtain ⟨b3, h⟩ := He.ba h
  obtain ⟨b4, h⟩ := He.ba h
  obtain ⟨b5, h⟩ := He.ba h
  obtain ⟨b6, h⟩ := He.ba h
  obtain ⟨b7, h⟩ := He.ba h
  obtain ⟨b8, b9⟩ := He.ba h
  exact ⟨m, cl, nN, nU, nT, He.eqO_ok b1, He.eqO_ok b2, of_decide_eq_true b3, of_decide_eq_true b4, of_decide_eq_true b5, fun t ht => of_decide_eq_true (List.all_eq_true.mp b6 t ht), fun t ht => of_decide_eq_true (He.ba (List.all_eq_true.mp b7 t ht)).1, fun t ht => of_decide_eq_true (He.ba (List.all_eq_true.mp b7 t ht)).2, b8, He.eqO_ok b9⟩
theorem RatC.ty {K : PySem.W.Frag} {mg : Str → Option Value} {H : Hp} {x dx : Addr} {fs : List (Str × V)} (c : RatC K mg) (h : H x = some (.ins (ratA K) dx fs)) : TyX K H (.ref x) (.ref (ratA K)) := .base (.ins h c.cl c.ha c.hn c.htk c.hm)
theorem RatC.isaI {K : PySem.W.Frag} {mg : Str → Option Value} {H : Hp} {x : Addr} {n u : Int} (c : RatC K mg) (h : RatAt K H x n u) : IsaI K H (.ref x) := by
  obtain ⟨dx, h⟩ := h
  exact ⟨_, false, false, c.ty h, c.off "int" (by decide), c.off "bool" (by decide), rfl⟩

/-! ## What the ratios' own functions promise -/
def spFig : Sp := fun vs H Q _ => ∃ n : Int, vs = [.int n] ∧ Nb n ∧ ∀ H', Same H H' → Q (.str (ds n)) H'
def spRText : Sp := fun vs H Q _ => ∃ n u : Int, vs = [.int n, .int u] ∧ Nb n ∧ Nb u ∧ ∀ H', Same H H' → Q (.str (ratText n u)) H'
/-- an error of the class named x that keeps the pair (a, b) is wished -/
def Wish2 (K : PySem.W.Frag) (H : Hp) (E : XK) (x : Str) (a b : V) : Prop := ∀ d p H', Same H H' → H d = none → H p = none → H' p = some (.tup [a, b]) → H' d = some (.xd [("value", .ref p)]) → E (.ref (He.ga K x)) (some d) H'
theorem Wish2.same {K : PySem.W.Frag} {H H' : Hp} {E : XK} {x : Str} {a b : V} (h : Wish2 K H E x a b) (s : Same H H') : Wish2 K H' E x a b := fun d p H2 s2 n m e f => h d p H2 (s.trans s2) (s.free n) (s.free m) e f
/-- no terms of a ratio -/
def NoTerms (K : PySem.W.Frag) (H : Hp) (a b : V) : Prop := (∃ n : Int, a = .int n ∧ b = .int 0) ∨ (IsaI K H a ∧ wholeB a = false) ∨ ∃ n : Int, a = .int n ∧ IsaI K H b ∧ wholeB b = false
def spRInit (K : PySem.W.Frag) : Sp := fun vs H Q E => ∃ (x dx : Addr) (a b : V), vs = [.ref x, a, b] ∧ H x = some (.ins (ratA K) dx []) ∧
  ((∃ n u : Int, a = .int n ∧ b = .int u ∧ u ≠ 0 ∧ Nb n ∧ Nb u ∧ ∀ H', KeptBut x H H' → RatAt K H' x (rn n u) (ru n u) → Q .non H') ∨ (NoTerms K H a b ∧ Wish2 K H E "BadRatio" a b))
def spRRepr (K : PySem.W.Frag) : Sp := fun vs H Q _ => ∃ (x : Addr) (n u : Int), vs = [.ref x] ∧ RatAt K H x n u ∧ Nb n ∧ Nb u ∧ Q (.str (ratRepr n u)) H
def spREq (K : PySem.W.Frag) : Sp := fun vs H Q _ => ∃ (x : Addr) (v : V) (n u : Int), vs = [.ref x, v] ∧ RatAt K H x n u ∧
  ((∃ (y : Addr) (m w : Int), v = .ref y ∧ RatAt K H y m w ∧ Q (.bl (decide (n = m) && decide (u = w))) H) ∨ ((∃ t, TyX K H v t ∧ PySem.W.kitOne K t (.ref (ratA K)) = some false) ∧ Q (.bl false) H))
/-- a class that may be made, its __init__ may raise; its last parameters' defaults -/
structure MakD (P : Program) (w : World) (K : PySem.W.Frag) (mg : Str → Option Value) (base : Heap) (k : Nat) (x : Str) (C : Addr) (sp : Sp) (dvs : List V) : Prop where
  ex : ∃ (f : Addr) (fd : FuncData) (ps : List Str) (ds : List Value), Mk K C f ∧ FnOk P w K mg base (L2.CX P w) k f fd ps sp ∧ mg x = some (.ref C) ∧ Binds K fd ps ds ∧ Vals dvs ds
section
variable {X : Cx} {k j : Nat} {C : Addr} {x : Str} {sp : Sp} {p pos : Pos} {e : Expr} {es : List Expr} {t : TA} {E : XK} {dvs : List V}
theorem pe_mkD (c : MakD X.prog X.w X.K X.mg X.base k x C sp dvs) (hx : Passes (L2.CX X.prog X.w) X E) (hr : Room j X.A) (hk : k + 1 ≤ j) (hg : Gl X x) (ha : PA X (e :: es) t)
    (hdb : (x == ("__debug__" : Str)) = false := by decide) (he : starEach (e :: es) X.env = (false, eval e X.env) :: starEach es X.env := by rfl) (hpl : (backTo pos (starEach es X.env)).any (·.1) = false := by rfl) :
    PE X (.Call (.Name x p) (e :: es) [] pos) (tMake C sp dvs E t) := by
  obtain ⟨f, fd, ps, ds, M, F, hm, b, d⟩ := c.ex
  exact pe_make M F (hr.mono hk) hg hm b d hx ha hdb he hpl
end
/-- a def with defaults, as its callers see it -/
theorem calDD {P : Program} {w : World} {K : PySem.W.Frag} {mg : Str → Option Value} {base : Heap} {x : Str} {params : Arguments} {body : List Stmt} {scope : Scope} {f : Addr} {fd : FuncData} {N ps : List Str} {k : Nat} {sp : Sp} {dvs : List V}
    (F : FunD K x x params body scope dvs [] f fd) (hm : mg x = some (.ref f)) (S : FnScope N ps scope) (hd : dvs ≠ [])
    (b : ∀ (T : Addr) (kV doc pm : Value) (an : Option Addr) (cdv ct : Value) (us its : List Value), us.length = ps.length → its.length = dvs.length →
      ∃ k, bindArgs (PySem.W.fnOf x x params body scope (.ref T) kV doc pm an cdv ct) ⟨us, []⟩ = seqItems? (.ref T) >>= k ∧ k (some its.toArray) = pure (ps.zip (us ++ its.drop dvs.length)))
    (many : ∀ vs H Q E, sp vs H Q E → vs.length = ps.length)
    (walk : ∀ (cdv : Value) (A : Around) (outer : List Env) (s : Shared) (H : Hp) (vs : List V) (Q : VK) (E : XK), Room k (A.deeper (envOfC x scope s.heap.objs.size f cdv)) → sp vs H Q E →
      ∃ t, PSs (cxOf CX0 P w K mg base N x scope f cdv A outer s H E).nox body t ∧ t { nx := fun _ H' => Q .non H', rt := Q } (start N vs) H) : C8.Cal P w K mg base (k + 1) x sp [] := by
  obtain ⟨ds, v, bi⟩ := F.binds1 (ps := ps) ps.length dvs.length hd (by rw [Nat.sub_self, Nat.add_zero]) b
  rw [List.drop_length] at v
  cases v
  exact ⟨f, fd, ps, [], F.ok S many fun cdv A outer s H vs Q E hr h => let ⟨t, h1, h2⟩ := walk cdv A outer s H vs Q E hr h; ⟨t, PSs.nox h1, h2⟩, hm, F.kp, bi, .nil⟩
end Lm

namespace Lm
open PySem PySem.Spec PyProof.Rows L2
open CwR (tReplC pet_replC pst_ret psst_nil psst_one)
/-! ## f-strings one part of which wants a token -/
inductive PJT (X : Cx) : List Expr → List TE → Prop where
  | nil : PJT X [] []
  | cons {e : Expr} {t : TE} {es : List Expr} {ts : List TE} (h : PET X e t) (r : PJT X es ts) : PJT X (e :: es) (t :: ts)
theorem pjt_run {X : Cx} {pins : List (Addr × Obj)} {σ : L2.St} {es : List Expr} {ts : List TE} (h : PJT X es ts) : ∀ (acc : Str) (s : Shared) (H : Hp) (Q : Str → Hp → Prop) (R : Str → Shared → Prop), 1 ≤ s.toks → acc.length ≤ sizeLine → Inv X pins σ H s → tJs ts acc σ H Q →
    (∀ out s1 H1, out.length ≤ sizeLine → Inv X pins σ H1 s1 → Q out H1 → R out s1) → Joins (model X.prog X.w) X.A X.xe (evalEach es X.env) acc R s := by
  induction h with
  | nil =>
    intro acc s H Q R h1 hz I q k
    have e0 : evalEach [] X.env = [] := by first | rfl | simp [evalEach]
    rw [e0]
    exact k acc s H hz I q
  | @cons e t es ts he r ih =>
    intro acc s H Q R h1 hz I q k
    have e0 : evalEach (e :: es) X.env = eval e X.env :: evalEach es X.env := by first | rfl | simp [evalEach]
    rw [e0]
    refine wpAny_mono (PySem.wpAny_toks (he pins s σ H _ h1 I q)) (fun v s1 hv => ?_) fun _ _ z => z.2
    obtain ⟨hk, x, H1, I1, r1, y, rfl, hy, q1⟩ := hv
    obtain ⟨tk, rfl⟩ := r1
    exact ⟨y, tk, rfl, hy, ih (acc ++ y) s1 H1 Q R (Nat.le_trans h1 hk) hy I1 q1 k⟩
section
variable {X : Cx} {e v1 v2 : Expr} {rest : List Expr} {te : TE} {ts : List TE} {pos : Pos}
def tJoined (ts : List TE) : TE := fun σ H Q => tJs ts Str.empty σ H fun out H1 => Q (.str out) H1
theorem pet_joined (h : PJT X (v1 :: v2 :: rest) ts) : PET X (.JoinedStr (v1 :: v2 :: rest) pos) (tJoined ts) := fun pins s σ H Q h0 I q =>
  wpAny_JoinedStr (pjt_run h Str.empty s H (fun out H1 => Q (.str out) H1) _ h0 (Nat.zero_le _) I q fun out s1 H1 hz I1 q1 => ⟨hz, .str out, H1, I1.tok _, ⟨_, rfl⟩, q1⟩)
def tFmtS (te : TE) : TE := fun σ H Q => te σ H fun x H1 => ∃ y : Str, x = .str y ∧ y.length ≤ sizeLine ∧ Q (.str y) H1
theorem pet_fmtS (he : PET X e te) : PET X (.FormattedValue e (-1) none pos) (tFmtS te) := by
  intro pins s σ H Q h0 I h
  refine wpAny_FormattedValue_plain (wpAny_mono (he pins s σ H _ h0 I h) (fun v s1 hv => ?_) fun _ _ z => z)
  obtain ⟨x, H1, I1, r1, y, rfl, hz, q⟩ := hv
  obtain ⟨t, rfl⟩ := r1
  exact wpAny_formatField_str ⟨.str y, H1, I1, ⟨t, rfl⟩, q⟩ ⟨.str y, H1, I1.tok _, ⟨_, rfl⟩, q⟩ hz
theorem pet_str {x : Str} {k : Nat} {p : Pos} : PET X (.Constant (.str x) k p) (tC (.str x)) := CwR.PET.of pe_str
end
section
variable {P : Program} {w : World} {K : PySem.W.Frag} {mg : Str → Option Value} {base : Heap} {x qual : Str} {params : Arguments} {body : List Stmt} {scope : Scope} {dvs : List V} {kws : List (Str × V)} {f : Addr} {fd : FuncData}
/-- a def at whose beginning a token is out -/
theorem okT {CX : CXT} {N ps : List Str} {k : Nat} {sp : Sp} (F : FunD K x qual params body scope dvs kws f fd) (S : FnScope N ps scope) (hnc : ∀ y ∈ scope.names, y.2 ≠ .cell) (hps : 1 ≤ ps.length) (len : ∀ vs H Q E, sp vs H Q E → vs.length = ps.length)
    (hbody : ∀ (cdv : Value) (A : Around) (outer : List Env) (s : Shared) (H : Hp) (vs : List V) (Q : VK) (E : XK), Room k (A.deeper (envOfC qual scope s.heap.objs.size f cdv)) → sp vs H Q E →
      ∃ t, PSsT (cxOf CX P w K mg base N qual scope f cdv A outer s H E) body t ∧ t { nx := fun _ H' => Q .non H', rt := Q } (start N vs) H) : FnOk P w K mg base CX (k + 1) f fd ps sp := by
  obtain ⟨oc, od, dV, kV, doc, pm, an, cdv, ct, osl, rfl, lk, hcd, _, _⟩ := F.ex
  exact fn_ofT lk hcd S hnc hps len fun A outer s H vs Q E hr hsp => hbody cdv A outer s H vs Q E hr hsp
end
theorem calR_or {X : Cx} {f : Value} {r r' : List V → Hp → VK → Prop} (h : CallR X f r) (h' : CallR X f r') : CallR X f (fun xs H Q => r xs H Q ∨ r' xs H Q) := fun pins s σ H xs us Q I rx q => q.elim (h pins s σ H xs us Q I rx) (h' pins s σ H xs us Q I rx)
end Lm

namespace Lm
open PySem PySem.Spec PyProof.Rows L2
open LamX (CodeO TabS Tabs ExtN TabB)
/-! ## The head of a program with imports: what its top leaves of sys.modules is looked at, too -/
def strK (v : Value) : Bool := match v with
  | .str _ _ => true
  | _ => false
def modsB (g : Addr → Option Obj) : Bool := match g sysModules with
  | some o => (match o.data with
    | .dict es _ => es.toList.all fun e => strK e.key
    | _ => false)
  | none => false
theorem modsB_ok {h : Heap} (x : modsB h.get? = true) : ∃ mm, h.Ns sysModules mm := by
  unfold modsB at x
  cases e : h.get? sysModules with
  | none =>
    rw [e] at x
    cases x
  | some o =>
    rw [e] at x
    have x : (match o.data with
      | .dict es _ => es.toList.all fun e => strK e.key
      | _ => false) = true := x
    cases d : o.data with
    | dict es ep =>
      rw [d] at x
      have x : (es.toList.all fun e => strK e.key) = true := x
      refine ⟨nsFind es, o, es, ep, e, d, fun en hen => ?_, fun _ => rfl⟩
      have y := List.all_eq_true.mp x en (Array.mem_toList_iff.mpr hen)
      unfold strK at y
      split at y
      · rename_i a b z
        exact ⟨_, _, z⟩
      · cases y
    | _ =>
      rw [d] at x
      cases x
def hookM (n : Nat) (fa : List He.Fa) (fn : List He.DefD) (ts : List He.Tab) (tf : List He.Defn) (ex : PySem.W.Frag → Bool) : PySem.W.Hook where
  α := He.AlX × Bool
  obs := fun s => ((He.hookX n fa fn ts tf ex).obs s, modsB s.heap.get?)
  val := fun w => ((He.hookX n fa fn ts tf ex).val w, true)
  says := fun w h => (He.hookX n fa fn ts tf ex).says w h ∧ ∃ mm, h.Ns sysModules mm
  of := fun w s e => ⟨(He.hookX n fa fn ts tf ex).of w s (congrArg (fun z : He.AlX × Bool => z.1) e), modsB_ok (congrArg (fun z : He.AlX × Bool => z.2) e)⟩
  keeps := fun w h h' ⟨a, mm, b⟩ k => ⟨(He.hookX n fa fn ts tf ex).keeps w h h' a k, mm, b.keepsP k⟩
theorem walkTI {l : PySem.W.OpenLaw} {n k : Nat} {q : Program} {loose : List Str} {XP : (Str → Option Value) → Heap → Prop} {YP : World → Heap → Prop} {d : DefRec} {x : Str}
    (hn : l.most = some n) (hn2 : n ≤ sizeLine) (hdf : d.params.defaults = []) (hr : Room k callerA) (hmo : ∀ w h, YP w h → ∃ mm, h.Ns sysModules mm)
    (F : ∀ (w : World) (mg : Str → Option Value) (fa : Addr) (h : Heap), YP w h → h.Ns mainGlobals mg → mg d.name = some (.ref fa) →
      ∃ (K : PySem.W.Frag) (fd : FuncData) (cs : List (Addr × Addr)) (sp : Sp), K.In h ∧ (∀ p ∈ cs, h.get? p.2 = some { cls := .none, data := .fields #[] }) ∧ (∀ p ∈ cs, K.lookup p.2 = none) ∧ (∀ p ∈ cs, PySem.W.CodeHd h p.1 p.2) ∧ (∀ (s : Shared) (u : Value), BindsTo s fd ⟨[u], []⟩ [(x, u)]) ∧
        (∀ (H : Hp) (a : Addr) (ns : List Int), ns.length ≤ n → (∀ p ∈ cs, H p.2 = some (.tbl #[])) → ScL K H a (ns.map V.int) → sp [.ref a] H (fun v _ => v = .bl true) C8.E0) ∧
        ∀ base : Heap, LawHeap K mg base → (∀ p ∈ cs, TabB base mg p.1 p.2) → FnG l.prog w K mg base CX0 k fa fd [x] sp) :
    PySem.W.WalkO q loose XP YP l.row.toRowW d [] (fun f vs => PySem.call f vs) := by
  refine Att.attach_call hn hdf fun w s₀ s₁ mg mb fa o pm cd doc a vs ns G Y ho hd hcd hmg hobj hints hlen hg => ?_
  obtain ⟨K, fd, cs, sp, KX, hT, nT, hC, hb, hsp, hF⟩ := F w mg fa _ Y G.T.g hmg
  exact lawT_call KX G.T.g G.T.b G.T.builtins G.T.nolimit (hmo _ _ Y) G.T.nodigits hg hT nT hC G.T.bmain hobj hints (Nat.le_trans hlen hn2) hr hF hb fun H hH hS => hsp H a ns hlen hH hS
end Lm

namespace Al
variable {N : Type} [DecidableEq N]
/-! ## Sums of sources, as lists of keys and shares -/
abbrev Kq (N : Type) := N × Bool × List Int
abbrev Sh (N : Type) := List (Kq N × Int)
def ad (p q : List Int) : List Int := List.zipWith (fun a b => a + b) p q
def su (p q : List Int) : List Int := List.zipWith (fun a b => a - b) p q
def ng (p : List Int) : List Int := p.map fun a => -a
def has (S : Sh N) (k : Kq N) : Bool := S.any fun x => decide (x.1 = k)
def put (S : Sh N) (k : Kq N) (v : Int) : Sh N := if has S k = true then S.map fun x => if x.1 = k then (x.1, v) else x else S ++ [(k, v)]
def at0 : Sh N → Kq N → Int
  | [], _ => 0
  | x :: S, k => if x.1 = k then x.2 else at0 S k
def bump (S : Sh N) (k : Kq N) (v : Int) : Sh N := put S k (at0 S k + v)
def addAll (S T : Sh N) : Sh N := T.foldl (fun a x => bump a x.1 x.2) S
def wn (S : Sh N) : Sh N := S.filter fun x => decide (x.2 ≠ 0)
def summed (S T : Sh N) : Sh N := wn (addAll S T)
def negated (S : Sh N) : Sh N := S.map fun x => (x.1, -x.2)
def halved (S : Sh N) : Sh N := S.map fun x => (x.1, x.2 / 2)
def unit : Int := 4096
def flipOne (a F : Sh N) (q : List Int) (c : Int) : Sh N := F.foldl (fun a y => bump a (y.1.1, y.1.2.1, su y.1.2.2 q) (c * y.2 / unit)) a
def flipAll (fl : N → Bool → Sh N) (a S : Sh N) : Sh N := S.foldl (fun a x => flipOne a (fl x.1.1 x.1.2.1) x.1.2.2 x.2) a
def flipped (fl : N → Bool → Sh N) (S : Sh N) : Sh N := wn (flipAll fl [] S)
def turnOn (s : Int) (p : List Int) (a S : Sh N) : Sh N := S.foldl (fun a x => put a (x.1.1, x.1.2.1, ad x.1.2.2 p) (s * x.2)) a
def turned (S : Sh N) (s : Int) (p : List Int) : Sh N := turnOn s p [] S
structure Mv (N : Type) where
  over : Bool
  sign : Int
  pw : List Int
  sh : Sh N
structure Js (N : Type) where
  over : Bool
  sign : Int
  pw : List Int
  tot : Sh N
def jStep (fl : N → Bool → Sh N) (t : Js N) (m : Mv N) : Js N :=
  ⟨t.over != m.over, t.sign * m.sign, if t.over = true then su t.pw m.pw else ad t.pw m.pw, addAll t.tot (turned (if t.over = true then flipped fl m.sh else m.sh) t.sign t.pw)⟩
def jAll (fl : N → Bool → Sh N) (n : Nat) (ms : List (Mv N)) : Js N := ms.reverse.foldl (jStep fl) ⟨false, 1, List.replicate n 0, []⟩
def joined (fl : N → Bool → Sh N) (n : Nat) (ms : List (Mv N)) : Mv N := let t := jAll fl n ms; ⟨t.over, t.sign, t.pw, wn t.tot⟩

/-! ## Their readings: for each function of keys the sum of its values -/
abbrev Fn (N : Type) := Kq N → Rat
def L (S : Sh N) (f : Fn N) : Rat := (S.map fun x => (x.2 : Rat) * f x.1).sum
theorem L_nil (f : Fn N) : L [] f = 0 := rfl
theorem L_cons (x : Kq N × Int) (S : Sh N) (f : Fn N) : L (x :: S) f = x.2 * f x.1 + L S f := by simp [L]
theorem L_append (S T : Sh N) (f : Fn N) : L (S ++ T) f = L S f + L T f := by simp [L, List.map_append, List.sum_append]
def ND (S : Sh N) : Prop := (S.map (·.1)).Nodup
theorem ND.tail {x : Kq N × Int} {S : Sh N} (h : ND (x :: S)) : ND S ∧ ∀ y ∈ S, y.1 ≠ x.1 := by
  unfold ND at h
  rw [List.map_cons, List.nodup_cons] at h
  exact ⟨h.2, fun y hy e => h.1 (e ▸ List.mem_map_of_mem hy)⟩
theorem has_iff {S : Sh N} {k : Kq N} : has S k = true ↔ k ∈ S.map (·.1) := by
  simp [has, List.any_eq_true, List.mem_map]
theorem put_keys (S : Sh N) (k : Kq N) (v : Int) : (put S k v).map (·.1) = if k ∈ S.map (·.1) then S.map (·.1) else S.map (·.1) ++ [k] := by
  unfold put
  by_cases h : has S k = true
  · rw [if_pos h, if_pos (has_iff.mp h), List.map_map]
    refine List.map_congr_left fun x _ => ?_
    show (if x.1 = k then (x.1, v) else x).1 = x.1
    split <;> rfl
  · rw [if_neg h, if_neg (fun z => h (has_iff.mpr z))]
    simp
theorem ND.put {S : Sh N} (h : ND S) (k : Kq N) (v : Int) : ND (put S k v) := by
  unfold ND
  rw [put_keys]
  split
  · exact h
  · rename_i n
    rw [List.nodup_append]
    exact ⟨h, by simp, fun a ha b hb e => n (by rw [List.mem_singleton] at hb; rw [← hb, ← e]; exact ha)⟩
theorem mem_put {S : Sh N} {k : Kq N} {v : Int} {x : Kq N × Int} (h : x ∈ put S k v) : x = (k, v) ∨ (x ∈ S ∧ x.1 ≠ k) := by
  unfold put at h
  split at h
  · obtain ⟨y, hy, e⟩ := List.mem_map.mp h
    by_cases c : y.1 = k
    · rw [if_pos c] at e
      exact .inl (by rw [← e, c])
    · rw [if_neg c] at e
      exact .inr (by rw [← e]; exact ⟨hy, c⟩)
  · rename_i n
    rcases List.mem_append.mp h with q | q
    · exact .inr ⟨q, fun c => n (has_iff.mpr (c ▸ List.mem_map_of_mem q))⟩
    · exact .inl (List.mem_singleton.mp q)
theorem at0_mem {S : Sh N} {k : Kq N} : at0 S k = 0 ∨ (k, at0 S k) ∈ S := by
  induction S with
  | nil => exact .inl rfl
  | cons x S ih =>
    unfold at0
    split
    · rename_i c
      exact .inr (by rw [← c]; exact List.mem_cons_self)
    · rcases ih with q | q
      · exact .inl q
      · exact .inr (List.mem_cons_of_mem _ q)
theorem at0_none {S : Sh N} {k : Kq N} (h : k ∉ S.map (·.1)) : at0 S k = 0 := by
  rcases at0_mem (S := S) (k := k) with q | q
  · exact q
  · exact (h (List.mem_map_of_mem (f := (·.1)) q)).elim
theorem L_bump {S : Sh N} (h : ND S) (k : Kq N) (v : Int) (f : Fn N) : L (bump S k v) f = L S f + v * f k := by
  unfold bump put
  by_cases c : has S k = true
  · rw [if_pos c]
    have c2 := has_iff.mp c
    clear c
    induction S with
    | nil => cases c2
    | cons x S ih =>
      obtain ⟨h1, h2⟩ := h.tail
      rw [List.map_cons, L_cons, L_cons]
      by_cases e : x.1 = k
      · rw [if_pos e]
        have z : (S.map fun y => if y.1 = k then (y.1, at0 (x :: S) k + v) else y) = S := by
          refine (List.map_congr_left fun y hy => ?_).trans (List.map_id S)
          exact if_neg (fun q => h2 y hy (q.trans e.symm))
        rw [z]
        have a : at0 (x :: S) k = x.2 := by
          unfold at0
          exact if_pos e
        rw [a, e]
        have b : ((x.2 + v : Int) : Rat) = (x.2 : Rat) + v := Rat.intCast_add _ _
        simp only [b]
        grind
      · rw [if_neg e]
        have a : at0 (x :: S) k = at0 S k := by
          conv => lhs; unfold at0
          exact if_neg e
        rw [a]
        have c3 : k ∈ S.map (·.1) := by
          rw [List.map_cons, List.mem_cons] at c2
          exact c2.resolve_left fun q => e q.symm
        rw [ih h1 c3]
        grind
  · rw [if_neg c, L_append, L_cons, L_nil, at0_none (fun z => c (has_iff.mpr z))]
    simp only [Int.zero_add]
    grind
theorem ND.bump {S : Sh N} (h : ND S) (k : Kq N) (v : Int) : ND (bump S k v) := h.put _ _
theorem ND.addAll {T : Sh N} : ∀ {S : Sh N}, ND S → ND (addAll S T) := by
  induction T with
  | nil => exact fun h => h
  | cons x T ih => exact fun h => ih (h.bump _ _)
theorem L_addAll {T : Sh N} (f : Fn N) : ∀ {S : Sh N}, ND S → L (addAll S T) f = L S f + L T f := by
  induction T with
  | nil =>
    intro S _
    show L S f = L S f + 0
    grind
  | cons x T ih =>
    intro S h
    show L (addAll (bump S x.1 x.2) T) f = _
    rw [ih (h.bump _ _), L_bump h, L_cons]
    grind
theorem ND.wn {S : Sh N} (h : ND S) : ND (wn S) := h.sublist (List.filter_sublist.map _)
theorem L_wn (S : Sh N) (f : Fn N) : L (wn S) f = L S f := by
  induction S with
  | nil => rfl
  | cons x S ih =>
    unfold wn at ih ⊢
    rw [List.filter_cons, L_cons]
    split
    · rw [L_cons, ih]
    · rename_i c
      have z : x.2 = 0 := by
        have c : ¬ decide (x.2 ≠ 0) = true := c
        simpa using c
      rw [ih, z]
      grind
theorem L_summed {S T : Sh N} (h : ND S) (f : Fn N) : L (summed S T) f = L S f + L T f := by
  unfold summed
  rw [L_wn, L_addAll f h]
theorem L_negated (S : Sh N) (f : Fn N) : L (negated S) f = - L S f := by
  induction S with
  | nil =>
    show (0 : Rat) = -0
    grind
  | cons x S ih =>
    unfold negated at ih ⊢
    rw [List.map_cons, L_cons, L_cons, ih, Rat.intCast_neg]
    grind
theorem negated_keys (S : Sh N) : (negated S).map (·.1) = S.map (·.1) := by
  unfold negated
  rw [List.map_map]
  rfl
theorem halved_keys (S : Sh N) : (halved S).map (·.1) = S.map (·.1) := by
  unfold halved
  rw [List.map_map]
  rfl
theorem L_halved {S : Sh N} (f : Fn N) (h : ∀ x ∈ S, (2 : Int) ∣ x.2) : L (halved S) f = (1 / 2) * L S f := by
  induction S with
  | nil =>
    show (0 : Rat) = 1 / 2 * 0
    grind
  | cons x S ih =>
    unfold halved at ih ⊢
    rw [List.map_cons, L_cons, L_cons, ih fun y hy => h y (List.mem_cons_of_mem _ hy)]
    obtain ⟨c, hc⟩ := h x List.mem_cons_self
    have e : (x.2 / 2 : Int) = c := by omega
    have e2 : (x.2 : Rat) = 2 * (c : Rat) := by
      rw [hc, Rat.intCast_mul]
      rfl
    dsimp only
    rw [e, e2]
    grind
theorem L_congr {S : Sh N} {f g : Fn N} (h : ∀ x ∈ S, f x.1 = g x.1) : L S f = L S g := by
  induction S with
  | nil => rfl
  | cons x S ih => rw [L_cons, L_cons, h x List.mem_cons_self, ih fun y hy => h y (List.mem_cons_of_mem _ hy)]
theorem L_add (S : Sh N) (f g : Fn N) : L S (fun k => f k + g k) = L S f + L S g := by
  induction S with
  | nil =>
    show (0 : Rat) = 0 + 0
    grind
  | cons x S ih =>
    rw [L_cons, L_cons, L_cons, ih]
    grind
theorem L_smul (S : Sh N) (c : Rat) (f : Fn N) : L S (fun k => c * f k) = c * L S f := by
  induction S with
  | nil =>
    show (0 : Rat) = c * 0
    grind
  | cons x S ih =>
    rw [L_cons, L_cons, ih]
    grind
/-- a sum that comes to nothing, whatever the sources are, has no members -/
theorem L_zero {S : Sh N} (h : ND S) (nz : ∀ x ∈ S, x.2 ≠ 0) (z : ∀ f, L S f = 0) : S = [] := by
  cases S with
  | nil => rfl
  | cons x S =>
    obtain ⟨h1, h2⟩ := h.tail
    have e := z fun k => if k = x.1 then 1 else 0
    rw [L_cons, if_pos rfl] at e
    have e2 : L S (fun k => if k = x.1 then 1 else 0) = 0 := by
      have e3 : L S (fun k => if k = x.1 then (1 : Rat) else 0) = L S fun _ => 0 * 0 := L_congr fun y hy => by
        rw [if_neg (h2 y hy)]
        grind
      rw [e3, L_smul]
      grind
    rw [e2] at e
    have e4 : (x.2 : Rat) = 0 := by grind
    exact (nz x List.mem_cons_self (by exact_mod_cast e4)).elim
theorem wn_nz {S : Sh N} : ∀ x ∈ wn S, x.2 ≠ 0 := fun x hx => by
  have := (List.mem_filter.mp hx).2
  simpa using this
end Al

namespace Al
variable {N : Type} [DecidableEq N]
theorem pdvd {a b : Nat} (h : a ≤ b) : (2 : Int) ^ a ∣ 2 ^ b := ⟨2 ^ (b - a), by rw [← Int.pow_add]; congr 1; omega⟩
/-! ## Powers -/
theorem ad_len {p q : List Int} {n : Nat} (hp : p.length = n) (hq : q.length = n) : (ad p q).length = n := by
  unfold ad
  rw [List.length_zipWith]
  omega
theorem su_len {p q : List Int} {n : Nat} (hp : p.length = n) (hq : q.length = n) : (su p q).length = n := by
  unfold su
  rw [List.length_zipWith]
  omega
theorem ng_len {p : List Int} {n : Nat} (hp : p.length = n) : (ng p).length = n := by
  unfold ng
  rw [List.length_map]
  exact hp
theorem pow_ext {p q : List Int} {n : Nat} (hp : p.length = n) (hq : q.length = n) (h : ∀ (i : Nat) (a b : Int), p[i]? = some a → q[i]? = some b → a = b) : p = q := by
  refine List.ext_getElem? fun i => ?_
  by_cases c : i < n
  · have h1 : p[i]? = some p[i] := List.getElem?_eq_getElem (by omega)
    have h2 : q[i]? = some q[i] := List.getElem?_eq_getElem (by omega)
    rw [h1, h2, h i _ _ h1 h2]
  · rw [List.getElem?_eq_none (by omega), List.getElem?_eq_none (by omega)]
theorem ad_get (p q : List Int) (i : Nat) : (ad p q)[i]? = (p[i]?).bind fun a => (q[i]?).map fun b => a + b := by
  unfold ad
  rw [List.getElem?_zipWith]
  cases p[i]? <;> cases q[i]? <;> rfl
theorem su_get (p q : List Int) (i : Nat) : (su p q)[i]? = (p[i]?).bind fun a => (q[i]?).map fun b => a - b := by
  unfold su
  rw [List.getElem?_zipWith]
  cases p[i]? <;> cases q[i]? <;> rfl
theorem ng_get (p : List Int) (i : Nat) : (ng p)[i]? = (p[i]?).map fun a => -a := by
  unfold ng
  rw [List.getElem?_map]
theorem ad_comm {p q : List Int} {n : Nat} (hp : p.length = n) (hq : q.length = n) : ad p q = ad q p := pow_ext (ad_len hp hq) (ad_len hq hp) (fun i a b h1 h2 => by simp only [ad_get, su_get, ng_get, List.getElem?_replicate, Option.bind_eq_some_iff, Option.map_eq_some_iff] at h1 h2; grind)
theorem ad_assoc {p q r : List Int} {n : Nat} (hp : p.length = n) (hq : q.length = n) (hr : r.length = n) : ad (ad p q) r = ad p (ad q r) := pow_ext (ad_len (ad_len hp hq) hr) (ad_len hp (ad_len hq hr)) (fun i a b h1 h2 => by simp only [ad_get, su_get, ng_get, List.getElem?_replicate, Option.bind_eq_some_iff, Option.map_eq_some_iff] at h1 h2; grind)
theorem ad_inj {p q r : List Int} {n : Nat} (hp : p.length = n) (hq : q.length = n) (hr : r.length = n) (e : ad p r = ad q r) : p = q := pow_ext hp hq fun i a b h1 h2 => by
  have e1 := congrArg (fun z : List Int => z[i]?) e
  have hi : i < n := by
    have := List.getElem?_eq_some_iff.mp h1
    obtain ⟨x, _⟩ := this
    omega
  have h3 : r[i]? = some r[i] := List.getElem?_eq_getElem (by omega)
  simp only [ad_get, h1, h2, h3] at e1
  simp at e1
  exact e1
theorem ad_zero {p : List Int} {n : Nat} (hp : p.length = n) : ad p (List.replicate n 0) = p := pow_ext (ad_len hp (by simp)) hp (fun i a b h1 h2 => by simp only [ad_get, su_get, ng_get, List.getElem?_replicate, Option.bind_eq_some_iff, Option.map_eq_some_iff] at h1 h2; grind)
theorem zero_ad {p : List Int} {n : Nat} (hp : p.length = n) : ad (List.replicate n 0) p = p := pow_ext (ad_len (by simp) hp) hp (fun i a b h1 h2 => by simp only [ad_get, su_get, ng_get, List.getElem?_replicate, Option.bind_eq_some_iff, Option.map_eq_some_iff] at h1 h2; grind)
theorem su_self {p : List Int} {n : Nat} (hp : p.length = n) : su p p = List.replicate n 0 := pow_ext (su_len hp hp) (by simp) (fun i a b h1 h2 => by simp only [ad_get, su_get, ng_get, List.getElem?_replicate, Option.bind_eq_some_iff, Option.map_eq_some_iff] at h1 h2; grind)
theorem su_zero {p : List Int} {n : Nat} (hp : p.length = n) : su p (List.replicate n 0) = p := pow_ext (su_len hp (by simp)) hp (fun i a b h1 h2 => by simp only [ad_get, su_get, ng_get, List.getElem?_replicate, Option.bind_eq_some_iff, Option.map_eq_some_iff] at h1 h2; grind)

/-! ## Shifts and flips of functions of keys -/
def sh (p : List Int) (f : Fn N) : Fn N := fun k => f (k.1, k.2.1, ad k.2.2 p)
/-- what is known of the names ahead: how many loose ones, the flips, which sources have some -/
structure Ev (N : Type) where
  n : Nat
  fl : N → Bool → Sh N
  kn : N → Bool → Prop
  ix : N → Nat
def Ev.good (e : Ev N) (k : Kq N) : Prop := e.kn k.1 k.2.1 ∧ k.2.2.length = e.n
/-- a function of keys, flipped -/
def Ev.C (e : Ev N) (f : Fn N) : Fn N := fun k => (1 / 4096) * L (e.fl k.1 k.2.1) fun y => f (y.1, y.2.1, su y.2.2 k.2.2)
/-- a sum as it stands behind the lines up to number i -/
structure Ev.G (e : Ev N) (i : Nat) (S : Sh N) : Prop where
  nd : ND S
  ok : ∀ x ∈ S, e.good x.1 ∧ e.ix x.1.1 ≤ i ∧ (2 : Int) ^ (12 - (i - e.ix x.1.1)) ∣ x.2
/-- the flips are in form, and flipping twice is nothing -/
structure Ev.Ok (e : Ev N) : Prop where
  fl : ∀ a b, e.kn a b → e.ix a ≤ 11 ∧ e.G (e.ix a) (e.fl a b)
  cc : ∀ f k, e.good k → e.C (e.C f) k = f k
variable {e : Ev N}
theorem Ev.G.nil {i : Nat} : e.G i [] := ⟨by simp [ND], fun _ h => by cases h⟩
theorem Ev.G.mono {i j : Nat} {S : Sh N} (h : e.G i S) (hij : i ≤ j) : e.G j S := ⟨h.nd, fun x hx => by
  obtain ⟨a, b, c⟩ := h.ok x hx
  exact ⟨a, by omega, Int.dvd_trans (pdvd (by omega)) c⟩⟩
theorem Ev.G.put {i : Nat} {S : Sh N} {k : Kq N} {v : Int} (h : e.G i S) (gk : e.good k) (hi : e.ix k.1 ≤ i) (hv : (2 : Int) ^ (12 - (i - e.ix k.1)) ∣ v) : e.G i (put S k v) := ⟨h.nd.put _ _, fun x hx => by
  rcases mem_put hx with q | ⟨q, _⟩
  · subst q
    exact ⟨gk, hi, hv⟩
  · exact h.ok x q⟩
theorem Ev.G.at0 {i : Nat} {S : Sh N} {k : Kq N} (h : e.G i S) : (2 : Int) ^ (12 - (i - e.ix k.1)) ∣ at0 S k := by
  rcases at0_mem (S := S) (k := k) with q | q
  · rw [q]
    exact Int.dvd_zero _
  · exact (h.ok _ q).2.2
theorem Ev.G.bump {i : Nat} {S : Sh N} {k : Kq N} {v : Int} (h : e.G i S) (gk : e.good k) (hi : e.ix k.1 ≤ i) (hv : (2 : Int) ^ (12 - (i - e.ix k.1)) ∣ v) : e.G i (bump S k v) := h.put gk hi (Int.dvd_add h.at0 hv)
theorem Ev.G.addAll {i : Nat} {T : Sh N} (ht : e.G i T) : ∀ {S : Sh N}, e.G i S → e.G i (addAll S T) := by
  induction T with
  | nil => exact fun h => h
  | cons x T ih =>
    intro S h
    obtain ⟨a, b, c⟩ := ht.ok x List.mem_cons_self
    exact ih ⟨(ht.nd.tail).1, fun y hy => ht.ok y (List.mem_cons_of_mem _ hy)⟩ (h.bump a b c)
theorem Ev.G.wn {i : Nat} {S : Sh N} (h : e.G i S) : e.G i (wn S) := ⟨h.nd.wn, fun x hx => h.ok x (List.mem_filter.mp hx).1⟩
theorem Ev.G.summed {i : Nat} {S T : Sh N} (h : e.G i S) (ht : e.G i T) : e.G i (summed S T) := (ht.addAll h).wn
theorem Ev.G.negated {i : Nat} {S : Sh N} (h : e.G i S) : e.G i (negated S) := ⟨by
  unfold ND
  rw [negated_keys]
  exact h.nd, fun x hx => by
    obtain ⟨y, hy, rfl⟩ := List.mem_map.mp hx
    obtain ⟨a, b, c⟩ := h.ok y hy
    exact ⟨a, b, (Int.dvd_neg).mpr c⟩⟩
theorem Ev.G.even {i : Nat} {S : Sh N} (h : e.G i S) (hi : i ≤ 11) : ∀ x ∈ S, (2 : Int) ∣ x.2 := fun x hx => by
  obtain ⟨a, b, c⟩ := h.ok x hx
  have z : (2 : Int) ^ 1 ∣ 2 ^ (12 - (i - e.ix x.1.1)) := pdvd (by omega)
  rw [Int.pow_succ, Int.pow_zero, Int.one_mul] at z
  exact Int.dvd_trans z c
theorem Ev.G.halved {i : Nat} {S : Sh N} (h : e.G i S) (hi : i ≤ 11) : e.G (i + 1) (halved S) := ⟨by
  unfold ND
  rw [halved_keys]
  exact h.nd, fun x hx => by
    obtain ⟨y, hy, rfl⟩ := List.mem_map.mp hx
    obtain ⟨a, b, c⟩ := h.ok y hy
    refine ⟨a, by show e.ix y.1.1 ≤ i + 1; omega, ?_⟩
    show (2 : Int) ^ (12 - (i + 1 - e.ix y.1.1)) ∣ y.2 / 2
    have z : 12 - (i - e.ix y.1.1) = (12 - (i + 1 - e.ix y.1.1)) + 1 := by omega
    rw [z, Int.pow_succ] at c
    obtain ⟨k, hk⟩ := c
    refine ⟨k, ?_⟩
    rw [hk, Int.mul_right_comm, Int.mul_ediv_cancel _ (by decide)]⟩
/-! ### turned -/
theorem good_tk {k : Kq N} {p : List Int} (h : e.good k) (hp : p.length = e.n) : e.good (k.1, k.2.1, ad k.2.2 p) := ⟨h.1, ad_len h.2 hp⟩
theorem turnOn_eq {s : Int} {p : List Int} : ∀ {S a : Sh N}, (∀ x ∈ S, (x.1.1, x.1.2.1, ad x.1.2.2 p) ∉ a.map (·.1)) → (S.map fun x => (x.1.1, x.1.2.1, ad x.1.2.2 p)).Nodup →
    turnOn s p a S = a ++ S.map fun x => ((x.1.1, x.1.2.1, ad x.1.2.2 p), s * x.2)
  | [], a, _, _ => by simp [turnOn]
  | x :: S, a, h, hn => by
    rw [List.map_cons, List.nodup_cons] at hn
    show turnOn s p (put a _ _) S = _
    have e1 : put a (x.1.1, x.1.2.1, ad x.1.2.2 p) (s * x.2) = a ++ [((x.1.1, x.1.2.1, ad x.1.2.2 p), s * x.2)] := by
      unfold put
      rw [if_neg (fun z => h x List.mem_cons_self (has_iff.mp z))]
    rw [e1, turnOn_eq (fun y hy z => ?_) hn.2]
    · simp
    · rw [List.map_append, List.mem_append] at z
      rcases z with z | z
      · exact h y (List.mem_cons_of_mem _ hy) z
      · rw [List.map_singleton, List.mem_singleton] at z
        have z : (y.1.1, y.1.2.1, ad y.1.2.2 p) = ((x.1.1, x.1.2.1, ad x.1.2.2 p) : Kq N) := z
        exact hn.1 (by rw [← z]; exact List.mem_map_of_mem (f := fun x : Kq N × Int => ((x.1.1, x.1.2.1, ad x.1.2.2 p) : Kq N)) hy)
theorem turned_eq {i : Nat} {S : Sh N} {s : Int} {p : List Int} (h : e.G i S) (hp : p.length = e.n) : turned S s p = S.map fun x => ((x.1.1, x.1.2.1, ad x.1.2.2 p), s * x.2) := by
  unfold turned
  rw [turnOn_eq (fun _ _ => by simp) ?_, List.nil_append]
  have nd := h.nd
  unfold ND at nd
  have ok := fun x hx => (h.ok x hx).1.2
  clear h
  induction S with
  | nil => simp
  | cons x S ih =>
    rw [List.map_cons, List.nodup_cons] at nd ⊢
    refine ⟨fun z => ?_, ih nd.2 fun y hy => ok y (List.mem_cons_of_mem _ hy)⟩
    obtain ⟨y, hy, q⟩ := List.mem_map.mp z
    injection q with q1 q
    injection q with q2 q3
    have q4 := ad_inj (ok y (List.mem_cons_of_mem _ hy)) (ok x List.mem_cons_self) hp q3
    refine nd.1 ?_
    have e2 : y.1 = x.1 := Prod.ext q1 (Prod.ext q2 q4)
    rw [← e2]
    exact List.mem_map_of_mem hy
theorem L_turned {i : Nat} {S : Sh N} {s : Int} {p : List Int} (f : Fn N) (h : e.G i S) (hp : p.length = e.n) : L (turned S s p) f = s * L S (sh p f) := by
  rw [turned_eq h hp]
  clear h
  induction S with
  | nil =>
    show (0 : Rat) = s * 0
    grind
  | cons x S ih =>
    rw [List.map_cons, L_cons, L_cons, ih, Rat.intCast_mul]
    show _ = (s : Rat) * (x.2 * f (x.1.1, x.1.2.1, ad x.1.2.2 p) + _)
    grind
theorem Ev.G.turned {i : Nat} {S : Sh N} {s : Int} {p : List Int} (h : e.G i S) (hp : p.length = e.n) : e.G i (turned S s p) := by
  unfold Al.turned
  have key : ∀ (S : Sh N), (∀ x ∈ S, e.good x.1 ∧ e.ix x.1.1 ≤ i ∧ (2 : Int) ^ (12 - (i - e.ix x.1.1)) ∣ x.2) → ∀ a, e.G i a → e.G i (turnOn s p a S) := by
    intro S
    induction S with
    | nil => exact fun _ a ha => ha
    | cons x S ih =>
      intro ok a ha
      obtain ⟨x1, x2, x3⟩ := ok x List.mem_cons_self
      refine ih (fun y hy => ok y (List.mem_cons_of_mem _ hy)) _ ?_
      exact ha.put (good_tk x1 hp) x2 (Int.dvd_trans x3 (Int.dvd_mul_left _ _))
  exact key S h.ok [] .nil
/-! ### flipped -/
theorem pow_unit (a b c : Nat) (h : a ≤ b) (hb : b ≤ c) (hc : c ≤ a + 11) : (2 : Int) ^ (12 - (c - a)) * 4096 = 2 ^ (12 - (c - b)) * 2 ^ (12 - (b - a)) := by
  rw [show (4096 : Int) = 2 ^ 12 from rfl, ← Int.pow_add, ← Int.pow_add]
  congr 1
  omega
theorem exact_ {a b c : Nat} {x y : Int} (h : a ≤ b) (hb : b ≤ c) (hc : c ≤ a + 11) (hx : (2 : Int) ^ (12 - (c - b)) ∣ x) (hy : (2 : Int) ^ (12 - (b - a)) ∣ y) :
    (4096 : Int) ∣ x * y ∧ (2 : Int) ^ (12 - (c - a)) ∣ x * y / 4096 := by
  obtain ⟨u, rfl⟩ := hx
  obtain ⟨v, rfl⟩ := hy
  have e : (2 : Int) ^ (12 - (c - b)) * u * (2 ^ (12 - (b - a)) * v) = 4096 * (2 ^ (12 - (c - a)) * (u * v)) := by
    have := pow_unit a b c h hb hc
    calc _ = (2 ^ (12 - (c - b)) * 2 ^ (12 - (b - a))) * (u * v) := by ac_rfl
      _ = (2 ^ (12 - (c - a)) * 4096) * (u * v) := by rw [this]
      _ = _ := by ac_rfl
  rw [e]
  exact ⟨Int.dvd_mul_right _ _, by rw [Int.mul_ediv_cancel_left _ (by decide)]; exact Int.dvd_mul_right _ _⟩
theorem flipOne_ok {i : Nat} (hi : i ≤ 11) {src : N} {c : Int} {q : List Int} (hq : q.length = e.n) (hs : e.ix src ≤ i) (hc : (2 : Int) ^ (12 - (i - e.ix src)) ∣ c) (f : Fn N) :
    ∀ {F a : Sh N}, (∀ y ∈ F, e.good y.1 ∧ e.ix y.1.1 ≤ e.ix src ∧ (2 : Int) ^ (12 - (e.ix src - e.ix y.1.1)) ∣ y.2) → e.G i a →
      e.G i (flipOne a F q c) ∧ L (flipOne a F q c) f = L a f + c * ((1 / 4096) * L F fun y => f (y.1, y.2.1, su y.2.2 q))
  | [], a, _, ha => ⟨ha, by
    show L a f = L a f + c * (1 / 4096 * 0)
    grind⟩
  | y :: F, a, ok, ha => by
    obtain ⟨y1, y2, y3⟩ := ok y List.mem_cons_self
    obtain ⟨d1, d2⟩ := exact_ (a := e.ix y.1.1) (b := e.ix src) (c := i) y2 hs (by omega) hc y3
    have gk : e.good (y.1.1, y.1.2.1, su y.1.2.2 q) := ⟨y1.1, su_len y1.2 hq⟩
    have hb := ha.bump (v := c * y.2 / 4096) gk (Nat.le_trans y2 hs) d2
    obtain ⟨r1, r2⟩ := flipOne_ok hi hq hs hc f (F := F) (fun z hz => ok z (List.mem_cons_of_mem _ hz)) hb
    refine ⟨r1, ?_⟩
    show L (flipOne (bump a _ (c * y.2 / 4096)) F q c) f = _
    rw [r2, L_bump ha.nd, L_cons]
    obtain ⟨k, hk⟩ := d1
    have e1 : (c * y.2 / 4096 : Int) = k := by rw [hk, Int.mul_ediv_cancel_left _ (by decide)]
    have e2 : (c : Rat) * y.2 = 4096 * k := by
      have : ((c * y.2 : Int) : Rat) = ((4096 * k : Int) : Rat) := by rw [hk]
      rw [Rat.intCast_mul, Rat.intCast_mul] at this
      exact this
    rw [e1]
    grind
theorem flipAll_ok (O : e.Ok) {i : Nat} (hi : i ≤ 11) (f : Fn N) :
    ∀ {S a : Sh N}, (∀ x ∈ S, e.good x.1 ∧ e.ix x.1.1 ≤ i ∧ (2 : Int) ^ (12 - (i - e.ix x.1.1)) ∣ x.2) → e.G i a → e.G i (flipAll e.fl a S) ∧ L (flipAll e.fl a S) f = L a f + L S (e.C f)
  | [], a, _, ha => ⟨ha, by
    show L a f = L a f + 0
    grind⟩
  | x :: S, a, ok, ha => by
    obtain ⟨x1, x2, x3⟩ := ok x List.mem_cons_self
    obtain ⟨_, g⟩ := O.fl _ _ x1.1
    obtain ⟨b1, b2⟩ := flipOne_ok hi x1.2 x2 x3 f (F := e.fl x.1.1 x.1.2.1) g.ok ha
    obtain ⟨r1, r2⟩ := flipAll_ok O hi f (S := S) (fun z hz => ok z (List.mem_cons_of_mem _ hz)) b1
    refine ⟨r1, ?_⟩
    show L (flipAll e.fl (flipOne a _ _ _) S) f = _
    rw [r2, b2, L_cons]
    show _ = L a f + (x.2 * ((1 / 4096) * _) + _)
    grind
theorem Ev.G.flipped {i : Nat} {S : Sh N} (h : e.G i S) (O : e.Ok) (hi : i ≤ 11) : e.G i (flipped e.fl S) := (flipAll_ok O hi (fun _ => 0) h.ok .nil).1.wn
theorem L_flipped {i : Nat} {S : Sh N} (h : e.G i S) (O : e.Ok) (hi : i ≤ 11) (f : Fn N) : L (flipped e.fl S) f = L S (e.C f) := by
  unfold Al.flipped
  rw [L_wn, (flipAll_ok O hi f h.ok .nil).2, L_nil]
  grind
end Al

namespace Al
variable {N : Type} [DecidableEq N]
/-! ## Moves as maps: z goes to s times the powers p of z (of z flipped, if over), and g more -/
structure Af (N : Type) where
  o : Bool
  s : Int
  p : List Int
  g : Fn N → Rat
def Ev.act (e : Ev N) (A : Af N) (f : Fn N) : Fn N := if A.o = true then e.C (sh A.p f) else sh A.p f
/-- first B, then A -/
def Ev.cp (e : Ev N) (A B : Af N) : Af N := ⟨A.o != B.o, A.s * B.s, if A.o = true then su A.p B.p else ad A.p B.p, fun f => A.g f + A.s * B.g (e.act A f)⟩
def Ev.one (e : Ev N) : Af N := ⟨false, 1, List.replicate e.n 0, fun _ => 0⟩
def Ev.Loc (e : Ev N) (g : Fn N → Rat) : Prop := ∀ f f', (∀ k, e.good k → f k = f' k) → g f = g f'
variable {e : Ev N}
theorem C_cong (O : e.Ok) {f f' : Fn N} (h : ∀ k, e.good k → f k = f' k) : ∀ k, e.good k → e.C f k = e.C f' k := fun k hk => by
  unfold Ev.C
  congr 1
  exact L_congr fun x hx => h _ ⟨((O.fl _ _ hk.1).2.ok x hx).1.1, su_len ((O.fl _ _ hk.1).2.ok x hx).1.2 hk.2⟩
theorem sh_cong {p : List Int} (hp : p.length = e.n) {f f' : Fn N} (h : ∀ k, e.good k → f k = f' k) : ∀ k, e.good k → sh p f k = sh p f' k := fun k hk => h _ (good_tk hk hp)
theorem act_cong (O : e.Ok) {A : Af N} (hp : A.p.length = e.n) {f f' : Fn N} (h : ∀ k, e.good k → f k = f' k) : ∀ k, e.good k → e.act A f k = e.act A f' k := fun k hk => by
  unfold Ev.act
  split
  · exact C_cong O (sh_cong hp h) k hk
  · exact sh_cong hp h k hk
theorem sh_sh {p q : List Int} (hp : p.length = e.n) (hq : q.length = e.n) (f : Fn N) : ∀ k, e.good k → sh q (sh p f) k = sh (ad p q) f k := fun k hk => by
  show f (k.1, k.2.1, ad (ad k.2.2 q) p) = f (k.1, k.2.1, ad k.2.2 (ad p q))
  rw [ad_assoc hk.2 hq hp, ad_comm hq hp]
theorem C_sh (O : e.Ok) {p : List Int} (hp : p.length = e.n) (f : Fn N) : ∀ k, e.good k → e.C (sh p f) k = e.C f (k.1, k.2.1, su k.2.2 p) := fun k hk => by
  unfold Ev.C
  congr 1
  refine L_congr fun x hx => ?_
  have gx := ((O.fl _ _ hk.1).2.ok x hx).1
  show f (x.1.1, x.1.2.1, ad (su x.1.2.2 k.2.2) p) = f (x.1.1, x.1.2.1, su x.1.2.2 (su k.2.2 p))
  have z : ad (su x.1.2.2 k.2.2) p = su x.1.2.2 (su k.2.2 p) := pow_ext (ad_len (su_len gx.2 hk.2) hp) (su_len gx.2 (su_len hk.2 hp)) (fun i a b h1 h2 => by simp only [ad_get, su_get, ng_get, List.getElem?_replicate, Option.bind_eq_some_iff, Option.map_eq_some_iff] at h1 h2; grind)
  rw [z]
theorem su_ad {a p q : List Int} (ha : a.length = e.n) (hp : p.length = e.n) (hq : q.length = e.n) : ad (su a q) p = ad a (su p q) := pow_ext (ad_len (su_len ha hq) hp) (ad_len ha (su_len hp hq)) (fun i a b h1 h2 => by simp only [ad_get, su_get, ng_get, List.getElem?_replicate, Option.bind_eq_some_iff, Option.map_eq_some_iff] at h1 h2; grind)
theorem su_ad2 {a p q : List Int} (ha : a.length = e.n) (hp : p.length = e.n) (hq : q.length = e.n) : su (ad a q) p = su a (su p q) := pow_ext (su_len (ad_len ha hq) hp) (su_len ha (su_len hp hq)) (fun i a b h1 h2 => by simp only [ad_get, su_get, ng_get, List.getElem?_replicate, Option.bind_eq_some_iff, Option.map_eq_some_iff] at h1 h2; grind)
theorem good_su {k : Kq N} {p : List Int} (h : e.good k) (hp : p.length = e.n) : e.good (k.1, k.2.1, su k.2.2 p) := ⟨h.1, su_len h.2 hp⟩
/-- one map behind the other leads functions so, too -/
theorem act_cp (O : e.Ok) {A B : Af N} (hA : A.p.length = e.n) (hB : B.p.length = e.n) (f : Fn N) : ∀ k, e.good k → e.act (e.cp A B) f k = e.act B (e.act A f) k := fun k hk => by
  unfold Ev.act Ev.cp
  cases ha : A.o <;> cases hb : B.o
  · simp only [Bool.false_eq_true, if_false, bne_self_eq_false]
    exact (sh_sh hA hB f k hk).symm
  · simp only [Bool.false_eq_true, if_false, Bool.false_bne, if_true]
    exact C_cong O (fun k hk => (sh_sh hA hB f k hk).symm) k hk
  · simp only [Bool.true_bne, Bool.not_false, if_true, Bool.false_eq_true, if_false]
    show e.C (sh (su A.p B.p) f) k = e.C (sh A.p f) (k.1, k.2.1, ad k.2.2 B.p)
    rw [C_sh O (su_len hA hB) f k hk, C_sh O hA f _ (good_tk hk hB)]
    show e.C f (k.1, k.2.1, _) = e.C f (k.1, k.2.1, su (ad k.2.2 B.p) A.p)
    rw [su_ad2 hk.2 hA hB]
  · simp only [bne_self_eq_false, Bool.false_eq_true, if_false, if_true]
    rw [C_sh O hB _ k hk]
    have h2 := C_cong O (fun k hk => C_sh O hA f k hk) (k.1, k.2.1, su k.2.2 B.p) (good_su hk hB)
    rw [h2]
    -- C of (C f shifted back)
    have h3 : ∀ k, e.good k → (fun k : Kq N => e.C f (k.1, k.2.1, su k.2.2 A.p)) k = sh (ng A.p) (e.C f) k := fun k hk => by
      show e.C f (k.1, k.2.1, su k.2.2 A.p) = e.C f (k.1, k.2.1, ad k.2.2 (ng A.p))
      have z : su k.2.2 A.p = ad k.2.2 (ng A.p) := pow_ext (su_len hk.2 hA) (ad_len hk.2 (ng_len hA)) (fun i a b h1 h2 => by simp only [ad_get, su_get, ng_get, List.getElem?_replicate, Option.bind_eq_some_iff, Option.map_eq_some_iff] at h1 h2; grind)
      rw [z]
    rw [C_cong O h3 _ (good_su hk hB), C_sh O (ng_len hA) _ _ (good_su hk hB)]
    show _ = e.C (e.C f) (k.1, k.2.1, su (su k.2.2 B.p) (ng A.p))
    have gk : e.good (k.1, k.2.1, su (su k.2.2 B.p) (ng A.p)) := ⟨hk.1, su_len (su_len hk.2 hB) (ng_len hA)⟩
    rw [O.cc f _ gk]
    show f (k.1, k.2.1, ad k.2.2 (su A.p B.p)) = _
    have z : ad k.2.2 (su A.p B.p) = su (su k.2.2 B.p) (ng A.p) := pow_ext (ad_len hk.2 (su_len hA hB)) (su_len (su_len hk.2 hB) (ng_len hA)) (fun i a b h1 h2 => by simp only [ad_get, su_get, ng_get, List.getElem?_replicate, Option.bind_eq_some_iff, Option.map_eq_some_iff] at h1 h2; grind)
    rw [z]
theorem cp_len {A B : Af N} (hA : A.p.length = e.n) (hB : B.p.length = e.n) : (e.cp A B).p.length = e.n := by
  unfold Ev.cp
  show (if A.o = true then su A.p B.p else ad A.p B.p).length = e.n
  split
  · exact su_len hA hB
  · exact ad_len hA hB
theorem cp_loc (O : e.Ok) {A B : Af N} (hA : A.p.length = e.n) (lA : e.Loc A.g) (lB : e.Loc B.g) : e.Loc (e.cp A B).g := fun f f' h => by
  show A.g f + A.s * B.g (e.act A f) = A.g f' + A.s * B.g (e.act A f')
  rw [lA f f' h, lB _ _ (act_cong O hA h)]
theorem cp_assoc (O : e.Ok) {A B D : Af N} (hA : A.p.length = e.n) (hB : B.p.length = e.n) (hD : D.p.length = e.n) (lD : e.Loc D.g) : e.cp (e.cp A B) D = e.cp A (e.cp B D) := by
  have h1 : (e.cp (e.cp A B) D).o = (e.cp A (e.cp B D)).o := by
    show ((A.o != B.o) != D.o) = (A.o != (B.o != D.o))
    cases A.o <;> cases B.o <;> cases D.o <;> rfl
  have h2 : (e.cp (e.cp A B) D).s = (e.cp A (e.cp B D)).s := Int.mul_assoc _ _ _
  have h3 : (e.cp (e.cp A B) D).p = (e.cp A (e.cp B D)).p := by
    show (if (A.o != B.o) = true then su (if A.o = true then su A.p B.p else ad A.p B.p) D.p else ad (if A.o = true then su A.p B.p else ad A.p B.p) D.p) = (if A.o = true then su A.p (if B.o = true then su B.p D.p else ad B.p D.p) else ad A.p (if B.o = true then su B.p D.p else ad B.p D.p))
    refine pow_ext (n := e.n) ?_ ?_ ?_
    · have := cp_len (e := e) (cp_len (e := e) hA hB) hD
      exact this
    · have := cp_len (e := e) hA (cp_len (e := e) hB hD)
      exact this
    · intro i a b x1 x2
      cases ha : A.o <;> cases hb : B.o <;> rw [ha, hb] at x1 x2 <;> simp only [Bool.false_eq_true, if_false, if_true, bne_self_eq_false, Bool.true_bne, Bool.false_bne, Bool.not_false, Bool.not_true, ad_get, su_get, Option.bind_eq_some_iff, Option.map_eq_some_iff] at x1 x2 <;> grind
  have h4 : (e.cp (e.cp A B) D).g = (e.cp A (e.cp B D)).g := by
    funext f
    show (A.g f + A.s * B.g (e.act A f)) + ((A.s * B.s : Int) : Rat) * D.g (e.act (e.cp A B) f) = A.g f + A.s * (B.g (e.act A f) + B.s * D.g (e.act B (e.act A f)))
    rw [lD _ _ (act_cp O hA hB f), Rat.intCast_mul]
    grind
  generalize e.cp (e.cp A B) D = x at h1 h2 h3 h4 ⊢
  generalize e.cp A (e.cp B D) = y at h1 h2 h3 h4 ⊢
  obtain ⟨x1, x2, x3, x4⟩ := x
  obtain ⟨y1, y2, y3, y4⟩ := y
  obtain rfl : x1 = y1 := h1
  obtain rfl : x2 = y2 := h2
  obtain rfl : x3 = y3 := h3
  obtain rfl : x4 = y4 := h4
  rfl
theorem sh_zero (f : Fn N) : ∀ k, e.good k → sh (List.replicate e.n 0) f k = f k := fun k hk => by
  show f (k.1, k.2.1, ad k.2.2 (List.replicate e.n 0)) = f k
  rw [ad_zero hk.2]
theorem one_cp {A : Af N} (hA : A.p.length = e.n) (lA : e.Loc A.g) : e.cp e.one A = A := by
  unfold Ev.cp Ev.one Ev.act
  obtain ⟨o, s, p, g⟩ := A
  simp only [Bool.false_bne, Bool.false_eq_true, if_false, Int.one_mul, zero_ad hA]
  congr 1
  funext f
  have q : g (sh (List.replicate e.n 0) f) = g f := lA _ _ (sh_zero f)
  rw [q]
  show (0 : Rat) + ((1 : Int) : Rat) * g f = g f
  have : ((1 : Int) : Rat) = 1 := rfl
  rw [this]
  grind
theorem cp_one {A : Af N} (hA : A.p.length = e.n) : e.cp A e.one = A := by
  unfold Ev.cp Ev.one
  obtain ⟨o, s, p, g⟩ := A
  have z : (if o = true then su p (List.replicate e.n 0) else ad p (List.replicate e.n 0)) = p := by
    cases o
    · exact ad_zero hA
    · exact su_zero hA
  simp only [Bool.bne_false, Int.mul_one, z]
  congr 1
  funext f
  grind
theorem one_len : (e.one : Af N).p.length = e.n := List.length_replicate
theorem one_loc : e.Loc (e.one : Af N).g := fun _ _ _ => rfl
/-- what holds of the move of each name -/
structure Ev.V (e : Ev N) (A : Af N) : Prop where
  len : A.p.length = e.n
  sg : A.s = 1 ∨ A.s = -1
  loc : e.Loc A.g
  peg : A.o = false → A.p = List.replicate e.n 0 ∧ A.s = -1
  inv : e.cp A A = e.one
theorem cj_inv (O : e.Ok) {W A : Af N} (w : e.V W) (a : e.V A) : e.V (e.cp (e.cp W A) W) ∧ (e.cp (e.cp W A) W).o = A.o := by
  have ho : (e.cp (e.cp W A) W).o = A.o := by
    show ((W.o != A.o) != W.o) = A.o
    cases W.o <;> cases A.o <;> rfl
  have l1 := cp_len (e := e) w.len a.len
  have lc1 := cp_loc O w.len w.loc a.loc
  have l2 := cp_len (e := e) l1 w.len
  have lc2 := cp_loc O l1 lc1 w.loc
  refine ⟨⟨l2, ?_, lc2, fun h => ?_, ?_⟩, ho⟩
  · show (W.s * A.s) * W.s = 1 ∨ (W.s * A.s) * W.s = -1
    rcases w.sg with h | h <;> rcases a.sg with h' | h' <;> rw [h, h'] <;> decide
  · rw [ho] at h
    obtain ⟨p1, p2⟩ := a.peg h
    constructor
    · show (if (W.o != A.o) = true then su (if W.o = true then su W.p A.p else ad W.p A.p) W.p else ad (if W.o = true then su W.p A.p else ad W.p A.p) W.p) = _
      rw [h, p1]
      cases hw : W.o
      · obtain ⟨q1, _⟩ := w.peg hw
        rw [if_neg (by decide), if_neg (by decide), q1, ad_zero (p := List.replicate e.n 0) (n := e.n) List.length_replicate, ad_zero (p := List.replicate e.n 0) (n := e.n) List.length_replicate]
      · simp only [Bool.true_bne, Bool.not_false, if_true]
        rw [su_zero w.len, su_self w.len]
    · show (W.s * A.s) * W.s = -1
      rw [p2]
      rcases w.sg with h | h <;> rw [h] <;> decide
  · -- W A W W A W
    have e1 : e.cp (e.cp (e.cp W A) W) (e.cp (e.cp W A) W) = e.cp (e.cp W A) (e.cp W (e.cp (e.cp W A) W)) := cp_assoc O l1 w.len l2 lc2
    have e2 : e.cp W (e.cp (e.cp W A) W) = e.cp A W := by
      rw [← cp_assoc O w.len l1 w.len w.loc, ← cp_assoc O w.len w.len a.len a.loc, w.inv, one_cp a.len a.loc]
    rw [e1, e2, cp_assoc O w.len a.len (cp_len (e := e) a.len w.len) (cp_loc O a.len a.loc w.loc), ← cp_assoc O a.len a.len w.len w.loc, a.inv, one_cp w.len w.loc, w.inv]
/-- a peg's map undoes itself -/
theorem V_peg {g : Fn N → Rat} (lg : e.Loc g) : e.V ⟨false, -1, List.replicate e.n 0, g⟩ := ⟨by simp, .inr rfl, lg, fun _ => ⟨rfl, rfl⟩, by
  unfold Ev.cp Ev.one Ev.act
  have z : ad (List.replicate e.n 0) (List.replicate e.n 0) = List.replicate e.n (0 : Int) := ad_zero (by simp)
  simp only [bne_self_eq_false, Bool.false_eq_true, if_false, z]
  congr 1
  funext f
  rw [lg _ _ (sh_zero f)]
  have : (((-1 : Int)) : Rat) = -1 := rfl
  rw [this]
  grind⟩
/-- a mirror's map, if what it adds is undone -/
theorem V_mir {s : Int} {p : List Int} {g : Fn N → Rat} (hp : p.length = e.n) (hs : s = 1 ∨ s = -1) (lg : e.Loc g) (h : ∀ f, g f + s * g (e.C (sh p f)) = 0) : e.V ⟨true, s, p, g⟩ := ⟨hp, hs, lg, fun z => (by cases z), by
  unfold Ev.cp Ev.one Ev.act
  have z : s * s = 1 := by
    rcases hs with h | h <;> rw [h] <;> decide
  simp only [bne_self_eq_false, if_true, su_self hp, z]
  congr 1
  funext f
  exact h f⟩
theorem V_mir_inv {A : Af N} (v : e.V A) (ho : A.o = true) (f : Fn N) : A.g f + A.s * A.g (e.C (sh A.p f)) = 0 := by
  have h := congrArg (fun z : Af N => z.g f) v.inv
  have h : A.g f + A.s * A.g (e.act A f) = 0 := h
  unfold Ev.act at h
  rw [if_pos ho] at h
  exact h
/-! ## Moves of names and of rows -/
def af (m : Mv N) : Af N := ⟨m.over, m.sign, m.pw, L m.sh⟩
def afJ (t : Js N) : Af N := ⟨t.over, t.sign, t.pw, L t.tot⟩
theorem G_loc {i : Nat} {S : Sh N} (h : e.G i S) : e.Loc (L S) := fun f f' q => L_congr fun x hx => q _ (h.ok x hx).1
/-- the move of a name of the lines up to number i -/
structure Ev.M (e : Ev N) (i : Nat) (m : Mv N) : Prop where
  v : e.V (af m)
  g : e.G i m.sh
theorem Ev.M.mono {i j : Nat} {m : Mv N} (h : e.M i m) (hij : i ≤ j) : e.M j m := ⟨h.v, h.g.mono hij⟩
theorem jStep_ok (O : e.Ok) {i : Nat} (hi : i ≤ 11) {t : Js N} {m : Mv N} (gt : e.G i t.tot) (lt : t.pw.length = e.n) (hm : e.M i m) : e.G i (jStep e.fl t m).tot ∧ afJ (jStep e.fl t m) = e.cp (afJ t) (af m) := by
  have gx : e.G i (if t.over = true then flipped e.fl m.sh else m.sh) := by
    split
    · exact hm.g.flipped O hi
    · exact hm.g
  have gl := gx.turned (s := t.sign) lt
  refine ⟨gl.addAll gt, ?_⟩
  unfold afJ jStep Ev.cp af
  simp only
  congr 1
  funext f
  rw [L_addAll f gt.nd, L_turned f gx lt]
  congr 2
  unfold Ev.act
  dsimp only
  split
  · exact L_flipped hm.g O hi _
  · rfl
theorem fold_ok (O : e.Ok) {i : Nat} (hi : i ≤ 11) : ∀ {ms : List (Mv N)} {t : Js N}, (∀ m ∈ ms, e.M i m) → e.G i t.tot → t.pw.length = e.n → e.Loc (L t.tot) →
    e.G i (ms.foldl (jStep e.fl) t).tot ∧ afJ (ms.foldl (jStep e.fl) t) = (ms.map af).foldl e.cp (afJ t)
  | [], t, _, g, l, _ => ⟨g, rfl⟩
  | m :: ms, t, h, g, l, lc => by
    obtain ⟨a, b⟩ := jStep_ok O hi g l (h m List.mem_cons_self)
    have l2 : (jStep e.fl t m).pw.length = e.n := by
      have := congrArg (fun z : Af N => z.p.length) b
      have z : (jStep e.fl t m).pw.length = (e.cp (afJ t) (af m)).p.length := this
      rw [z]
      exact cp_len l (h m List.mem_cons_self).v.len
    obtain ⟨c, d⟩ := fold_ok O hi (ms := ms) (fun m' hm => h m' (List.mem_cons_of_mem _ hm)) a l2 (G_loc a)
    refine ⟨c, ?_⟩
    show afJ (ms.foldl (jStep e.fl) (jStep e.fl t m)) = (ms.map af).foldl e.cp (e.cp (afJ t) (af m))
    rw [d, b]
/-- rows that are the same from both ends -/
inductive Pal {α : Type} : List α → α → Prop where
  | one (a : α) : Pal [a] a
  | wing (w : α) {mid : List α} {a : α} (h : Pal mid a) : Pal (w :: (mid ++ [w])) a
theorem Pal.rev {α : Type} {l : List α} {a : α} (h : Pal l a) : l.reverse = l := by
  induction h with
  | one a => rfl
  | wing w h ih => simp [ih]
theorem Pal.map {α β : Type} {l : List α} {a : α} (h : Pal l a) (f : α → β) : Pal (l.map f) (f a) := by
  induction h with
  | one a => exact .one _
  | wing w h ih =>
    rw [List.map_cons, List.map_append]
    exact .wing _ ih
theorem Pal.mem {α : Type} {l : List α} {a : α} (h : Pal l a) : a ∈ l := by
  induction h with
  | one a => exact List.mem_singleton.mpr rfl
  | wing w h ih => exact List.mem_cons_of_mem _ (List.mem_append_left _ ih)
theorem foldl_cp (O : e.Ok) : ∀ {l : List (Af N)} {A : Af N}, A.p.length = e.n → e.Loc A.g → (∀ B ∈ l, e.V B) → l.foldl e.cp A = e.cp A (l.foldl e.cp e.one) ∧ (l.foldl e.cp e.one).p.length = e.n ∧ e.Loc (l.foldl e.cp e.one).g
  | [], A, hA, _, _ => ⟨(cp_one hA).symm, one_len, one_loc⟩
  | B :: l, A, hA, lA, h => by
    have vB := h B List.mem_cons_self
    have hl := fun D hD => h D (List.mem_cons_of_mem _ hD)
    obtain ⟨a1, a2, a3⟩ := foldl_cp O (l := l) (A := e.cp A B) (cp_len hA vB.len) (cp_loc O hA lA vB.loc) hl
    obtain ⟨b1, b2, b3⟩ := foldl_cp O (l := l) (A := e.cp e.one B) (cp_len one_len vB.len) (cp_loc O one_len one_loc vB.loc) hl
    show l.foldl e.cp (e.cp A B) = e.cp A (l.foldl e.cp (e.cp e.one B)) ∧ (l.foldl e.cp (e.cp e.one B)).p.length = e.n ∧ e.Loc (l.foldl e.cp (e.cp e.one B)).g
    rw [a1, b1, one_cp vB.len vB.loc, cp_assoc O hA vB.len a2 a3]
    exact ⟨rfl, cp_len vB.len a2, cp_loc O vB.len vB.loc a3⟩
theorem pal_V (O : e.Ok) {l : List (Af N)} {A : Af N} (h : Pal l A) (hv : ∀ B ∈ l, e.V B) : e.V (l.foldl e.cp e.one) ∧ (l.foldl e.cp e.one).o = A.o := by
  induction h with
  | one A =>
    have v := hv A List.mem_cons_self
    show e.V (e.cp e.one A) ∧ (e.cp e.one A).o = A.o
    rw [one_cp v.len v.loc]
    exact ⟨v, rfl⟩
  | wing W h ih =>
    rename_i mid A
    have vW := hv W List.mem_cons_self
    obtain ⟨i1, i2⟩ := ih fun B hB => hv B (List.mem_cons_of_mem _ (List.mem_append_left _ hB))
    have e1 : (W :: (mid ++ [W])).foldl e.cp e.one = e.cp (e.cp W (mid.foldl e.cp e.one)) W := by
      rw [List.foldl_cons, List.foldl_append, one_cp vW.len vW.loc, (foldl_cp O vW.len vW.loc fun B hB => hv B (List.mem_cons_of_mem _ (List.mem_append_left _ hB))).1]
      rfl
    rw [e1]
    obtain ⟨c1, c2⟩ := cj_inv O vW i1
    exact ⟨c1, by rw [c2, i2]⟩
theorem afJ_joined (fl : N → Bool → Sh N) (n : Nat) (ms : List (Mv N)) : af (joined fl n ms) = afJ (jAll fl n ms) := by
  unfold af afJ joined
  simp only
  congr 1
  funext f
  exact L_wn _ f
theorem joined_pal (O : e.Ok) {i : Nat} (hi : i ≤ 11) {ms : List (Mv N)} {a : Mv N} (hp : Pal ms a) (h : ∀ m ∈ ms, e.M i m) : e.M i (joined e.fl e.n ms) ∧ (joined e.fl e.n ms).over = a.over := by
  obtain ⟨g, q⟩ := fold_ok O hi (ms := ms.reverse) (t := ⟨false, 1, List.replicate e.n 0, []⟩) (fun m hm => h m (List.mem_reverse.mp hm)) .nil (by simp) (fun _ _ _ => rfl)
  have q2 : afJ (jAll e.fl e.n ms) = (ms.map af).foldl e.cp e.one := by
    unfold jAll
    rw [q, hp.rev]
    rfl
  obtain ⟨v, o⟩ := pal_V O (hp.map af) (fun B hB => by
    obtain ⟨m, hm, rfl⟩ := List.mem_map.mp hB
    exact (h m hm).v)
  rw [← q2] at v o
  rw [← afJ_joined] at v o
  exact ⟨⟨v, (Ev.G.wn g : e.G i (wn (jAll e.fl e.n ms).tot))⟩, o⟩
/-- done twice, a move that undoes itself adds nothing -/
theorem twice_nil (O : e.Ok) {i : Nat} (hi : i ≤ 11) {m : Mv N} (h : e.M i m) : (joined e.fl e.n [m, m]).sh = [] := by
  obtain ⟨g, q⟩ := fold_ok O hi (ms := [m, m]) (t := ⟨false, 1, List.replicate e.n 0, []⟩) (fun x hx => by
    simp only [List.mem_cons, List.not_mem_nil, or_false, or_self] at hx
    rw [hx]
    exact h) .nil (by simp) (fun _ _ _ => rfl)
  have q2 : afJ (jAll e.fl e.n [m, m]) = e.one := by
    have z : afJ (jAll e.fl e.n [m, m]) = e.cp (e.cp e.one (af m)) (af m) := q
    rw [z, one_cp h.v.len h.v.loc, h.v.inv]
  have g2 : e.G i (wn (jAll e.fl e.n [m, m]).tot) := Ev.G.wn g
  refine L_zero g2.nd wn_nz fun f => ?_
  show L (wn (jAll e.fl e.n [m, m]).tot) f = 0
  rw [L_wn]
  exact congrArg (fun z : Af N => z.g f) q2
end Al

namespace Al
variable {N : Type} [DecidableEq N]
/-! ## A line more -/
def Ev.ext (e : Ev N) (nm : N) (i : Nat) (F : Bool → Sh N) (B : Bool → Bool) : Ev N :=
  ⟨e.n, fun a b => if a = nm then F b else e.fl a b, fun a b => e.kn a b ∨ (a = nm ∧ B b = true), fun a => if a = nm then i else e.ix a⟩
variable {e : Ev N} {nm : N} {i : Nat} {F : Bool → Sh N} {B : Bool → Bool}
theorem kn_ne (hn : ∀ b, ¬ e.kn nm b) {a : N} {b : Bool} (h : e.kn a b) : a ≠ nm := fun q => hn b (q ▸ h)
theorem ext_good (hn : ∀ b, ¬ e.kn nm b) {k : Kq N} (h : e.good k) : (e.ext nm i F B).good k := ⟨.inl h.1, h.2⟩
theorem ext_G (hn : ∀ b, ¬ e.kn nm b) {j : Nat} {S : Sh N} (h : e.G j S) : (e.ext nm i F B).G j S := ⟨h.nd, fun x hx => by
  obtain ⟨a, b, c⟩ := h.ok x hx
  have z : (e.ext nm i F B).ix x.1.1 = e.ix x.1.1 := if_neg (kn_ne hn a.1)
  rw [z]
  exact ⟨ext_good hn a, b, c⟩⟩
theorem ext_C (hn : ∀ b, ¬ e.kn nm b) (f : Fn N) {k : Kq N} (h : e.good k) : (e.ext nm i F B).C f k = e.C f k := by
  unfold Ev.C Ev.ext
  dsimp only
  rw [if_neg (kn_ne hn h.1)]
theorem ext_loc (hn : ∀ b, ¬ e.kn nm b) {g : Fn N → Rat} (h : e.Loc g) : (e.ext nm i F B).Loc g := fun f f' q => h f f' fun k hk => q k (ext_good hn hk)
theorem ext_V (hn : ∀ b, ¬ e.kn nm b) {A : Af N} (v : e.V A) : (e.ext nm i F B).V A := by
  refine ⟨v.len, v.sg, ext_loc hn v.loc, v.peg, ?_⟩
  refine Eq.trans ?_ (show e.cp A A = (e.ext nm i F B).one from v.inv)
  unfold Ev.cp
  congr 1
  funext f
  congr 2
  refine v.loc _ _ fun k hk => ?_
  unfold Ev.act
  split
  · exact ext_C hn _ hk
  · rfl
theorem ext_M (hn : ∀ b, ¬ e.kn nm b) {j : Nat} {m : Mv N} (h : e.M j m) : (e.ext nm i F B).M j m := ⟨ext_V hn h.v, ext_G hn h.g⟩
theorem ext_Ok (O : e.Ok) (hn : ∀ b, ¬ e.kn nm b) (hi : i ≤ 11) (hF : ∀ b, B b = true → (e.ext nm i F B).G i (F b)) (hc : ∀ f b r, B b = true → r.length = e.n → (e.ext nm i F B).C ((e.ext nm i F B).C f) (nm, b, r) = f (nm, b, r)) : (e.ext nm i F B).Ok := by
  constructor
  · intro a b h
    by_cases c : a = nm
    · subst c
      have hb : B b = true := by
        rcases h with h | h
        · exact (hn b h).elim
        · exact h.2
      have e1 : (e.ext a i F B).ix a = i := if_pos rfl
      have e2 : (e.ext a i F B).fl a b = F b := if_pos rfl
      rw [e1, e2]
      exact ⟨hi, hF b hb⟩
    · have h : e.kn a b := by
        rcases h with h | h
        · exact h
        · exact (c h.1).elim
      have e1 : (e.ext nm i F B).ix a = e.ix a := if_neg c
      have e2 : (e.ext nm i F B).fl a b = e.fl a b := if_neg c
      rw [e1, e2]
      obtain ⟨x, y⟩ := O.fl a b h
      exact ⟨x, ext_G hn y⟩
  · intro f k hk
    by_cases c : k.1 = nm
    · obtain ⟨a, b, r⟩ := k
      have c : a = nm := c
      subst c
      have hb : B b = true := by
        rcases hk.1 with h | h
        · exact (hn b h).elim
        · exact h.2
      exact hc f b r hb hk.2
    · have hg : e.good k := ⟨by
        rcases hk.1 with h | h
        · exact h
        · exact (c h.1).elim, hk.2⟩
      rw [ext_C hn _ hg]
      refine Eq.trans ?_ (O.cc f k hg)
      refine C_cong O (fun k2 h2 => ext_C hn f h2) k hg
/-! ### the forms -/
def spin (loose : List N) (nm : N) : List Int := loose.map fun l => if l = nm then 1 else 0
def still (n : Nat) : List Int := List.replicate n 0
def fMir (n : Nat) (sp : List Int) (nm : N) : Bool → Sh N := fun _ => [((nm, false, ng sp), unit)]
def fPeg (n : Nat) (nm : N) : Bool → Sh N := fun b => [((nm, !b, still n), unit)]
def fOn (n : Nat) (nm : N) (g : Mv N) : Bool → Sh N := fun _ => turned (summed [((nm, false, still n), unit)] (negated g.sh)) g.sign (ng g.pw)
theorem single_G {k : Kq N} {v : Int} (gk : e.good k) (hv : (4096 : Int) ∣ v) (hi : e.ix k.1 = i) : e.G i [(k, v)] := ⟨by simp [ND], fun x hx => by
  rw [List.mem_singleton] at hx
  subst hx
  refine ⟨gk, Nat.le_of_eq hi, ?_⟩
  show (2 : Int) ^ (12 - (i - e.ix k.1)) ∣ v
  rw [hi, Nat.sub_self]
  exact hv⟩
theorem okF (O : e.Ok) (hn : ∀ b, ¬ e.kn nm b) (hi : i ≤ 11) {sp : List Int} (hs : sp.length = e.n) : (e.ext nm i (fMir e.n sp nm) fun b => !b).Ok := by
  refine ext_Ok O hn hi (fun b hb => single_G ⟨.inr ⟨rfl, rfl⟩, ng_len hs⟩ (Int.dvd_refl _) (if_pos rfl)) fun f b r hb hr => ?_
  have one : ∀ (f : Fn N) (r : List Int), (e.ext nm i (fMir e.n sp nm) fun b => !b).C f (nm, b, r) = f (nm, false, su (ng sp) r) := fun f r => by
    show (1 / 4096 : Rat) * L (if nm = nm then fMir e.n sp nm b else e.fl nm b) _ = _
    rw [if_pos rfl]
    unfold fMir
    rw [L_cons, L_nil]
    show (1 / 4096 : Rat) * (((4096 : Int) : Rat) * f (nm, false, su (ng sp) r) + 0) = _
    have : ((4096 : Int) : Rat) = 4096 := rfl
    rw [this]
    grind
  have hb2 : b = false := by simpa using hb
  subst hb2
  rw [one, one]
  have z : su (ng sp) (su (ng sp) r) = r := pow_ext (su_len (ng_len hs) (su_len (ng_len hs) hr)) hr (fun i a b h1 h2 => by simp only [ad_get, su_get, ng_get, List.getElem?_replicate, Option.bind_eq_some_iff, Option.map_eq_some_iff] at h1 h2; grind)
  rw [z]
theorem okP (O : e.Ok) (hn : ∀ b, ¬ e.kn nm b) (hi : i ≤ 11) : (e.ext nm i (fPeg e.n nm) fun _ => true).Ok := by
  refine ext_Ok O hn hi (fun b hb => single_G ⟨.inr ⟨rfl, rfl⟩, List.length_replicate⟩ (Int.dvd_refl _) (if_pos rfl)) fun f b r hb hr => ?_
  have one : ∀ (f : Fn N) (b : Bool) (r : List Int), (e.ext nm i (fPeg e.n nm) fun _ => true).C f (nm, b, r) = f (nm, !b, su (still e.n) r) := fun f b r => by
    show (1 / 4096 : Rat) * L (if nm = nm then fPeg e.n nm b else e.fl nm b) _ = _
    rw [if_pos rfl]
    unfold fPeg
    rw [L_cons, L_nil]
    show (1 / 4096 : Rat) * (((4096 : Int) : Rat) * f (nm, !b, su (still e.n) r) + 0) = _
    have : ((4096 : Int) : Rat) = 4096 := rfl
    rw [this]
    grind
  rw [one, one, Bool.not_not]
  have hs : (still e.n).length = e.n := List.length_replicate
  have z : su (still e.n) (su (still e.n) r) = r := pow_ext (su_len hs (su_len hs hr)) hr (fun i a b h1 h2 => by simp only [still] at h1 h2; simp only [ad_get, su_get, ng_get, List.getElem?_replicate, Option.bind_eq_some_iff, Option.map_eq_some_iff] at h1 h2; grind)
  rw [z]
theorem okO (O : e.Ok) (hn : ∀ b, ¬ e.kn nm b) (hi : i ≤ 11) {g : Mv N} {j : Nat} (hg : e.M j g) (hj : j ≤ i) (ho : g.over = true) : (e.ext nm i (fOn e.n nm g) fun b => !b).Ok := by
  have lp : g.pw.length = e.n := hg.v.len
  have s1 : (e.ext nm i (fOn e.n nm g) fun b => !b).G i [((nm, false, still e.n), unit)] := single_G ⟨.inr ⟨rfl, rfl⟩, List.length_replicate⟩ (Int.dvd_refl _) (if_pos rfl)
  have s2 : (e.ext nm i (fOn e.n nm g) fun b => !b).G i (summed [((nm, false, still e.n), unit)] (negated g.sh)) := s1.summed (ext_G hn (hg.g.mono hj).negated)
  have one : ∀ (f : Fn N) (b : Bool) (r : List Int), r.length = e.n → (e.ext nm i (fOn e.n nm g) fun b => !b).C f (nm, b, r) = g.sign * (f (nm, false, su (ng g.pw) r) - (1 / 4096) * L g.sh (sh (su (ng g.pw) r) f)) := fun f b r hr => by
    show (1 / 4096 : Rat) * L (if nm = nm then fOn e.n nm g b else e.fl nm b) (fun y => f (y.1, y.2.1, su y.2.2 r)) = _
    rw [if_pos rfl]
    unfold fOn
    rw [L_turned _ s2 (ng_len lp), L_summed s1.nd, L_negated, L_cons, L_nil]
    have e1 : sh (ng g.pw) (fun y : Kq N => f (y.1, y.2.1, su y.2.2 r)) (nm, false, still e.n) = f (nm, false, su (ng g.pw) r) := by
      show f (nm, false, su (ad (still e.n) (ng g.pw)) r) = _
      rw [show ad (still e.n) (ng g.pw) = ng g.pw from zero_ad (ng_len lp)]
    have e2 : L g.sh (sh (ng g.pw) fun y : Kq N => f (y.1, y.2.1, su y.2.2 r)) = L g.sh (sh (su (ng g.pw) r) f) := L_congr fun x hx => by
      show f (x.1.1, x.1.2.1, su (ad x.1.2.2 (ng g.pw)) r) = f (x.1.1, x.1.2.1, ad x.1.2.2 (su (ng g.pw) r))
      have lx := (hg.g.ok x hx).1.2
      have z : su (ad x.1.2.2 (ng g.pw)) r = ad x.1.2.2 (su (ng g.pw) r) := pow_ext (su_len (ad_len lx (ng_len lp)) hr) (ad_len lx (su_len (ng_len lp) hr)) (fun i a b h1 h2 => by simp only [ad_get, su_get, ng_get, List.getElem?_replicate, Option.bind_eq_some_iff, Option.map_eq_some_iff] at h1 h2; grind)
      rw [z]
    dsimp only
    rw [e1, e2]
    have : ((unit : Int) : Rat) = 4096 := rfl
    rw [this]
    grind
  refine ext_Ok O hn hi (fun b hb => s2.turned (ng_len lp)) fun f b r hb hr => ?_
  have hb2 : b = false := by simpa using hb
  subst hb2
  have lq : (su (ng g.pw) r).length = e.n := su_len (ng_len lp) hr
  rw [one _ _ _ hr, one _ _ _ lq]
  have z1 : su (ng g.pw) (su (ng g.pw) r) = r := pow_ext (su_len (ng_len lp) lq) hr (fun i a b h1 h2 => by simp only [ad_get, su_get, ng_get, List.getElem?_replicate, Option.bind_eq_some_iff, Option.map_eq_some_iff] at h1 h2; grind)
  rw [z1]
  have inv := V_mir_inv hg.v ho (sh r f)
  have inv : L g.sh (sh r f) + g.sign * L g.sh (e.C (sh g.pw (sh r f))) = 0 := inv
  have e3 : L g.sh (sh (su (ng g.pw) r) ((e.ext nm i (fOn e.n nm g) fun b => !b).C f)) = L g.sh (e.C (sh g.pw (sh r f))) := L_congr fun x hx => by
    have gx := (hg.g.ok x hx).1
    show (e.ext nm i (fOn e.n nm g) fun b => !b).C f (x.1.1, x.1.2.1, ad x.1.2.2 (su (ng g.pw) r)) = _
    have g2 : e.good (x.1.1, x.1.2.1, ad x.1.2.2 (su (ng g.pw) r)) := good_tk gx lq
    rw [ext_C hn f g2, C_cong O (fun k hk => sh_sh hr lp f k hk) x.1 gx, C_sh O (ad_len hr lp) f x.1 gx]
    have z : ad x.1.2.2 (su (ng g.pw) r) = su x.1.2.2 (ad r g.pw) := pow_ext (ad_len gx.2 lq) (su_len gx.2 (ad_len hr lp)) (fun i a b h1 h2 => by simp only [ad_get, su_get, ng_get, List.getElem?_replicate, Option.bind_eq_some_iff, Option.map_eq_some_iff] at h1 h2; grind)
    rw [z]
  rw [e3]
  have sq : (g.sign : Rat) * g.sign = 1 := by
    rcases hg.v.sg with h | h
    · have h : g.sign = 1 := h
      rw [h]
      have : ((1 : Int) : Rat) = 1 := rfl
      rw [this]
      grind
    · have h : g.sign = -1 := h
      rw [h]
      have : ((-1 : Int) : Rat) = -1 := rfl
      rw [this]
      grind
  grind
/-- a line without a source -/
theorem okN (O : e.Ok) (hn : ∀ b, ¬ e.kn nm b) (hi : i ≤ 11) : (e.ext nm i (fun _ => []) fun _ => false).Ok := ext_Ok O hn hi (fun b hb => by cases hb) fun f b r hb _ => by cases hb
/-! ### the moves -/
def mFree (n : Nat) (sp : List Int) (nm : N) : Mv N := ⟨true, -1, sp, [((nm, false, still n), unit)]⟩
def mThr (fl : N → Bool → Sh N) (s : Int) (p : List Int) (P : Mv N) : Mv N := ⟨true, s, p, halved (summed P.sh (negated (turned (flipped fl P.sh) s p)))⟩
def mPeg (n : Nat) (nm : N) : Mv N := ⟨false, -1, still n, [((nm, false, still n), 8192)]⟩
def mAmid (n : Nat) (P Q : Mv N) : Mv N := ⟨false, -1, still n, halved (summed P.sh Q.sh)⟩
theorem M_free (O : e.Ok) (hn : ∀ b, ¬ e.kn nm b) (hi : i ≤ 11) {sp : List Int} (hs : sp.length = e.n) : (e.ext nm i (fMir e.n sp nm) fun b => !b).M i (mFree e.n sp nm) := by
  have g : (e.ext nm i (fMir e.n sp nm) fun b => !b).G i [((nm, false, still e.n), unit)] := single_G ⟨.inr ⟨rfl, rfl⟩, List.length_replicate⟩ (Int.dvd_refl _) (if_pos rfl)
  refine ⟨V_mir (s := -1) hs (.inr rfl) (G_loc g) fun f => ?_, g⟩
  show L [((nm, false, still e.n), unit)] f + (((-1 : Int)) : Rat) * L [((nm, false, still e.n), unit)] _ = 0
  rw [L_cons, L_nil, L_cons, L_nil]
  have z : (e.ext nm i (fMir e.n sp nm) fun b => !b).C (sh sp f) (nm, false, still e.n) = f (nm, false, still e.n) := by
    show (1 / 4096 : Rat) * L (if nm = nm then fMir e.n sp nm false else e.fl nm false) (fun y => f (y.1, y.2.1, ad (su y.2.2 (still e.n)) sp)) = _
    rw [if_pos rfl]
    unfold fMir
    rw [L_cons, L_nil]
    have z1 : ad (su (ng sp) (still e.n)) sp = still e.n := by
      refine pow_ext (ad_len (su_len (ng_len hs) List.length_replicate) hs) List.length_replicate (fun i a b h1 h2 => ?_)
      unfold still at h1 h2
      simp only [ad_get, su_get, ng_get, List.getElem?_replicate, Option.bind_eq_some_iff, Option.map_eq_some_iff] at h1 h2
      grind
    show (1 / 4096 : Rat) * (((4096 : Int) : Rat) * f (nm, false, ad (su (ng sp) (still e.n)) sp) + 0) = _
    rw [z1]
    have : ((4096 : Int) : Rat) = 4096 := rfl
    rw [this]
    grind
  dsimp only [mFree]
  rw [z]
  have : ((-1 : Int) : Rat) = -1 := rfl
  rw [this]
  grind
theorem M_peg (hn : ∀ b, ¬ e.kn nm b) {F : Bool → Sh N} {B : Bool → Bool} (hB : B false = true) : (e.ext nm i F B).M i (mPeg e.n nm) := by
  have g : (e.ext nm i F B).G i [((nm, false, still e.n), (8192 : Int))] := single_G ⟨.inr ⟨rfl, hB⟩, List.length_replicate⟩ ⟨2, rfl⟩ (if_pos rfl)
  exact ⟨V_peg (G_loc g), g⟩
theorem M_amid {j : Nat} (hj : j ≤ 11) {P Q : Mv N} (hp : e.M j P) (hq : e.M j Q) : e.M (j + 1) (mAmid e.n P Q) := by
  have g : e.G (j + 1) (halved (summed P.sh Q.sh)) := (hp.g.summed hq.g).halved hj
  exact ⟨V_peg (G_loc g), g⟩
theorem M_thr (O : e.Ok) {j : Nat} (hj : j ≤ 11) {s : Int} {p : List Int} {P : Mv N} (hs : s = 1 ∨ s = -1) (hpl : p.length = e.n) (hp : e.M j P) : e.M (j + 1) (mThr e.fl s p P) := by
  have g1 : e.G j (turned (flipped e.fl P.sh) s p) := (hp.g.flipped O hj).turned hpl
  have g2 : e.G j (summed P.sh (negated (turned (flipped e.fl P.sh) s p))) := hp.g.summed g1.negated
  have g3 : e.G (j + 1) (halved (summed P.sh (negated (turned (flipped e.fl P.sh) s p)))) := g2.halved hj
  have rd : ∀ f, L (halved (summed P.sh (negated (turned (flipped e.fl P.sh) s p)))) f = (1 / 2) * (L P.sh f - s * L P.sh (e.C (sh p f))) := fun f => by
    rw [L_halved f (g2.even hj), L_summed hp.g.nd, L_negated, L_turned f (hp.g.flipped O hj) hpl, L_flipped hp.g O hj]
    grind
  refine ⟨V_mir hpl hs (G_loc g3) fun f => ?_, g3⟩
  dsimp only [mThr]
  rw [rd, rd]
  have z : L P.sh (e.C (sh p (e.C (sh p f)))) = L P.sh f := L_congr fun x hx => by
    have gx := (hp.g.ok x hx).1
    rw [C_sh O hpl _ x.1 gx]
    have h2 := C_cong O (fun k hk => C_sh O hpl f k hk) (x.1.1, x.1.2.1, su x.1.2.2 p) (good_su gx hpl)
    rw [h2]
    have h3 : ∀ k, e.good k → (fun k : Kq N => e.C f (k.1, k.2.1, su k.2.2 p)) k = sh (ng p) (e.C f) k := fun k hk => by
      show e.C f (k.1, k.2.1, su k.2.2 p) = e.C f (k.1, k.2.1, ad k.2.2 (ng p))
      have z : su k.2.2 p = ad k.2.2 (ng p) := pow_ext (su_len hk.2 hpl) (ad_len hk.2 (ng_len hpl)) (fun i a b h1 h2 => by simp only [ad_get, su_get, ng_get, List.getElem?_replicate, Option.bind_eq_some_iff, Option.map_eq_some_iff] at h1 h2; grind)
      rw [z]
    rw [C_cong O h3 _ (good_su gx hpl), C_sh O (ng_len hpl) _ _ (good_su gx hpl)]
    show e.C (e.C f) (x.1.1, x.1.2.1, su (su x.1.2.2 p) (ng p)) = f x.1
    rw [O.cc f (x.1.1, x.1.2.1, su (su x.1.2.2 p) (ng p)) ⟨gx.1, su_len (su_len gx.2 hpl) (ng_len hpl)⟩]
    show f (x.1.1, x.1.2.1, su (su x.1.2.2 p) (ng p)) = _
    have z : su (su x.1.2.2 p) (ng p) = x.1.2.2 := pow_ext (su_len (su_len gx.2 hpl) (ng_len hpl)) gx.2 (fun i a b h1 h2 => by simp only [ad_get, su_get, ng_get, List.getElem?_replicate, Option.bind_eq_some_iff, Option.map_eq_some_iff] at h1 h2; grind)
    rw [z]
  rw [z]
  have sq : (s : Rat) * s = 1 := by
    rcases hs with h | h
    · rw [h]
      have : ((1 : Int) : Rat) = 1 := rfl
      rw [this]
      grind
    · rw [h]
      have : ((-1 : Int) : Rat) = -1 := rfl
      rw [this]
      grind
  grind
end Al

namespace Lm
open PySem PySem.Spec PyProof.Rows L2
/-! ## Dicts whose keys are tuples of a text, a bool and a tuple of ints -/
/-- what is never written: it stays whatever is done -/
structure Tk (H H' : Hp) : Prop where
  tup : ∀ b xs, H b = some (.tup xs) → H' b = some (.tup xs)
  frz : ∀ b o u, H b = some (.frz o u) → H' b = some (.frz o u)
theorem Tk.refl (H : Hp) : Tk H H := ⟨fun _ _ e => e, fun _ _ _ e => e⟩
theorem Tk.trans {H H1 H2 : Hp} (a : Tk H H1) (b : Tk H1 H2) : Tk H H2 := ⟨fun c xs e => b.tup c xs (a.tup c xs e), fun c o u e => b.frz c o u (a.frz c o u e)⟩
theorem Tk.same {H H' : Hp} (h : Same H H') : Tk H H' := ⟨fun b xs e => h b _ e, fun b o u e => h b _ e⟩
theorem Tk.new {H : Hp} {D : Addr} {o : HO} (h : H D = none) : Tk H (upd H D o) := ⟨fun b xs e => by rw [upd_ne (ne_of_none e h)]; exact e, fun b o u e => by rw [upd_ne (ne_of_none e h)]; exact e⟩
theorem Tk.put {H : Hp} {D : Addr} {o u : HO} (h : H D = some u) (mu : Mut (some u)) : Tk H (upd H D o) := ⟨fun b xs e => by rw [upd_ne (fun z => by rw [z, h] at e; cases e; exact mu)]; exact e, fun b o u e => by rw [upd_ne (fun z => by rw [z, h] at e; cases e; exact mu)]; exact e⟩
theorem sq_tk {K : PySem.W.Frag} {H H' : Hp} {a : Addr} {xs : List V} (h : SqT K H a xs) (k : Tk H H') : SqT K H' a xs := by
  rcases h with (h | ⟨o, h⟩) | h
  · exact .inl (.inl (k.tup _ _ h))
  · exact .inl (.inr ⟨o, k.frz _ _ _ h⟩)
  · exact .inr h
abbrev K3 := Al.Kq Str
abbrev K2 := Str × Bool
def nk3 (k : K3) : NestedKey := .tup [.text k.1, .num (if k.2.1 = true then 1 else 0), .tup (k.2.2.map .num)]
def nk2 (k : K2) : NestedKey := .tup [.text k.1, .num (if k.2 = true then 1 else 0)]
theorem nk_bool {a b : Bool} (h : (NestedKey.num (if a = true then 1 else 0)) = .num (if b = true then 1 else 0)) : a = b := by
  cases a <;> cases b <;> simp_all
theorem nk_nums : ∀ {p q : List Int}, p.map NestedKey.num = q.map NestedKey.num → p = q
  | [], [], _ => rfl
  | [], _ :: _, h => by simp at h
  | _ :: _, [], h => by simp at h
  | a :: p, b :: q, h => by
    rw [List.map_cons, List.map_cons] at h
    injection h with h1 h2
    injection h1 with h1
    rw [h1, nk_nums h2]
theorem nk3_inj {k l : K3} (h : nk3 k = nk3 l) : k = l := by
  obtain ⟨a, b, p⟩ := k
  obtain ⟨a', b', p'⟩ := l
  unfold nk3 at h
  injection h with h
  injection h with h1 h
  injection h with h2 h
  injection h with h3 _
  injection h1 with h1
  injection h3 with h3
  obtain rfl : a = a' := h1
  obtain rfl : b = b' := nk_bool h2
  obtain rfl : p = p' := nk_nums h3
  rfl
theorem nk2_inj {k l : K2} (h : nk2 k = nk2 l) : k = l := by
  obtain ⟨a, b⟩ := k
  obtain ⟨a', b'⟩ := l
  unfold nk2 at h
  injection h with h
  injection h with h1 h
  injection h with h2 _
  injection h1 with h1
  obtain rfl : a = a' := h1
  obtain rfl : b = b' := nk_bool h2
  rfl
/-- the tuple at a is this key -/
def At3 (K : PySem.W.Frag) (H : Hp) (k : K3) (a : Addr) : Prop := ∃ q, SqT K H a [.str k.1, .bl k.2.1, .ref q] ∧ SqT K H q (k.2.2.map V.int)
def At2 (K : PySem.W.Frag) (H : Hp) (k : K2) (a : Addr) : Prop := SqT K H a [.str k.1, .bl k.2]
def NKat (K : PySem.W.Frag) (H : Hp) (n : NestedKey) (a : Addr) : Prop := (∃ k, n = nk3 k ∧ At3 K H k a) ∨ ∃ k, n = nk2 k ∧ At2 K H k a
theorem At3.tk {K : PySem.W.Frag} {H H' : Hp} {k : K3} {a : Addr} (h : At3 K H k a) (t : Tk H H') : At3 K H' k a := let ⟨q, h1, h2⟩ := h; ⟨q, sq_tk h1 t, sq_tk h2 t⟩
theorem At2.tk {K : PySem.W.Frag} {H H' : Hp} {k : K2} {a : Addr} (h : At2 K H k a) (t : Tk H H') : At2 K H' k a := sq_tk h t
theorem NKat.tk {K : PySem.W.Frag} {H H' : Hp} {n : NestedKey} {a : Addr} (h : NKat K H n a) (t : Tk H H') : NKat K H' n a := by
  rcases h with ⟨k, e, h⟩ | ⟨k, e, h⟩
  · exact .inl ⟨k, e, h.tk t⟩
  · exact .inr ⟨k, e, h.tk t⟩
theorem nums_all {h : Heap} : ∀ {p : List Int} {us : List Value}, Vals (p.map V.int) us → NestedAll h (p.map NestedKey.num) us
  | [], us, r => by
    cases r
    exact .nil
  | i :: p, us, r => by
    cases r with
    | cons r1 r2 =>
      obtain ⟨t, rfl⟩ := r1
      exact .cons (.int i t) (nums_all r2)
section
variable {X : Cx} {pins : List (Addr × Obj)} {σ : L2.St} {H : Hp} {s : Shared} {n : NestedKey} {a : Addr}
theorem nums_depth : ∀ (p : List Int), NestedKey.depthAll (p.map NestedKey.num) ≤ 1 := fun p => by
  induction p with
  | nil => simp [NestedKey.depthAll]
  | cons i p ih =>
    rw [List.map_cons]
    unfold NestedKey.depthAll
    simp only [NestedKey.depth]
    omega
theorem nk_is (I : L2.Inv X pins σ H s) (h : NKat X.K H n a) : (nestedKind X.prog X.w).is s.heap n a := by
  rcases h with ⟨k, rfl, q, h1, h2⟩ | ⟨k, rfl, h⟩
  · obtain ⟨us, r, ⟨o, e, hc, m, hd⟩, _⟩ := I.tuple h1
    obtain ⟨ws, r2, ⟨o2, e2, hc2, m2, hd2⟩, _⟩ := I.tuple h2
    cases r with
    | cons r1 r =>
      cases r with
      | cons rb r =>
        cases r with
        | cons rq r =>
          cases r
          obtain ⟨t, rfl⟩ := r1
          cases rb
          cases rq
          refine ⟨.tup e hc hd (.cons (.text _ _) (.cons (.bool rfl) (.cons (.tup e2 hc2 hd2 ?_) .nil))), ?_⟩
          · rw [List.toList_toArray]
            exact nums_all r2
          · have z := nums_depth k.2.2
            simp only [nk3, NestedKey.depth, NestedKey.depthAll]
            omega
  · obtain ⟨us, r, ⟨o, e, hc, m, hd⟩, _⟩ := I.tuple h
    cases r with
    | cons r1 r =>
      cases r with
      | cons rb r =>
        cases r
        obtain ⟨t, rfl⟩ := r1
        cases rb
        refine ⟨.tup e hc hd (.cons (.text _ _) (.cons (.bool rfl) .nil)), ?_⟩
        simp only [nk2, NestedKey.depth, NestedKey.depthAll]
        omega
end
/-! ### the dict -/
abbrev NE := NestedKey × Addr × V
abbrev NR : List NE → List (NestedKey × Addr × Value) → Prop := Paired fun p q => p.1 = q.1 ∧ p.2.1 = q.2.1 ∧ RelV p.2.2 q.2.2
def dnP (P : Program) (w : World) (a : Addr) (es : List NE) (h : Heap) : Prop := es.length ≤ sizeLine ∧ (a == sysModules) = false ∧ ∃ xs, NR es xs ∧
  ∃ o des ep, h.get? a = some o ∧ o.ExactDict ∧ o.data = .dict des ep ∧ des.toList = xs.map (entryOfKey (nestedKind P w)) ∧ (xs.map (·.1)).Nodup
def dnO (P : Program) (w : World) (a : Addr) (es : List NE) : HO := .ext (dnP P w a es)
def nGet (es : List NE) (k : NestedKey) : Option V := (es.find? fun x => decide (x.1 = k)).map fun x => x.2.2
def nPut (es : List NE) (k : NestedKey) (b : Addr) (v : V) : List NE := if (nGet es k).isSome = true then es.map fun x => if x.1 = k then (x.1, x.2.1, v) else x else es ++ [(k, b, v)]
def KsOk (K : PySem.W.Frag) (H : Hp) (es : List NE) : Prop := ∀ x ∈ es, NKat K H x.1 x.2.1
theorem KsOk.tk {K : PySem.W.Frag} {H H' : Hp} {es : List NE} (h : KsOk K H es) (t : Tk H H') : KsOk K H' es := fun x hx => (h x hx).tk t
theorem dnO_ok {P : Program} {w : World} {H : Hp} {h : Heap} {a : Addr} {es : List NE} (x : dnP P w a es h) : ObjOk P w H h a (dnO P w a es) := by
  refine ⟨x, ?_, ?_⟩
  · obtain ⟨_, _, _, _, o, _, _, e, _⟩ := x
    exact ⟨o, e⟩
  · rintro h1 h2 ⟨z, y, xs, r, o, des, ep, e, q⟩ k
    exact ⟨z, y, xs, r, o, des, ep, k o e, q⟩
theorem dn_rd {P : Program} {w : World} {H : Hp} {h : Heap} {a : Addr} {es : List NE} (ok : HOk P w H h) (e : Rd H a (dnO P w a es)) : dnP P w a es h := (e.ok ok : ObjOk P w H h a (dnO P w a es)).1
theorem NR.get {k : NestedKey} : ∀ {es : List NE} {xs : List (NestedKey × Addr × Value)}, NR es xs → RelO (nGet es k) ((atKey xs k).map (·.2))
  | _, _, .nil => trivial
  | _, _, .cons (a := p) (b := q) r t => by
    unfold nGet atKey
    rw [List.find?_cons, List.find?_cons, r.1]
    by_cases c : q.1 = k
    · rw [decide_eq_true c]
      exact r.2.2
    · rw [decide_eq_false c]
      exact NR.get t
theorem NR.repl {k : NestedKey} {v : V} {u : Value} (rv : RelV v u) : ∀ {es : List NE} {xs : List (NestedKey × Addr × Value)}, NR es xs → NR (es.map fun x => if x.1 = k then (x.1, x.2.1, v) else x) (xs.map (putAt k u))
  | _, _, .nil => .nil
  | _, _, .cons (a := p) (b := q) r t => by
    refine .cons ?_ (NR.repl rv t)
    unfold putAt
    dsimp only
    by_cases c : p.1 = k
    · rw [if_pos c, if_pos (by rw [← r.1]; exact c)]
      exact ⟨r.1, r.2.1, rv⟩
    · rw [if_neg c, if_neg (by rw [← r.1]; exact c)]
      exact r
theorem NR.snoc {k : NestedKey} {b : Addr} {v : V} {u : Value} (rv : RelV v u) : ∀ {es : List NE} {xs : List (NestedKey × Addr × Value)}, NR es xs → NR (es ++ [(k, b, v)]) (xs ++ [(k, b, u)])
  | _, _, .nil => .cons ⟨rfl, rfl, rv⟩ .nil
  | _, _, .cons r t => .cons r (NR.snoc rv t)
theorem NR.put {k : NestedKey} {b : Addr} {v : V} {u : Value} (rv : RelV v u) {es : List NE} {xs : List (NestedKey × Addr × Value)} (r : NR es xs) : NR (nPut es k b v) (storedH xs k b u) := by
  have q := (NR.get (k := k) r).isSome_eq
  rw [Option.isSome_map] at q
  unfold nPut storedH
  rw [q]
  split
  · exact r.repl rv
  · exact r.snoc rv
theorem nPut_le (es : List NE) (k : NestedKey) (b : Addr) (v : V) : (nPut es k b v).length ≤ es.length + 1 := by
  unfold nPut
  split
  · simp
  · simp
theorem KsOk.put {K : PySem.W.Frag} {H : Hp} {es : List NE} {k : NestedKey} {b : Addr} {v : V} (h : KsOk K H es) (hk : NKat K H k b) : KsOk K H (nPut es k b v) := fun x hx => by
  unfold nPut at hx
  split at hx
  · obtain ⟨y, hy, e⟩ := List.mem_map.mp hx
    split at e
    · rw [← e]
      exact h y hy
    · rw [← e]
      exact h y hy
  · rcases List.mem_append.mp hx with q | q
    · exact h x q
    · rw [List.mem_singleton.mp q]
      exact hk
section
variable {X : Cx} {pins : List (Addr × Obj)} {σ : L2.St} {H : Hp} {s : Shared} {a b : Addr} {es : List NE} {k : NestedKey} {v d : V} {u r : Value} {A : Around} {E : Value → Shared → Prop}
theorem dn_of (I : L2.Inv X pins σ H s) (e : Rd H a (dnO X.prog X.w a es)) (ks : KsOk X.K H es) : es.length ≤ sizeLine ∧ (a == sysModules) = false ∧ ∃ xs, NR es xs ∧ s.heap.DictOfH (nestedKind X.prog X.w) a xs := by
  obtain ⟨z, y, xs, rel, o, des, ep, h1, h2, h3, h4, h5⟩ := dn_rd I.hok e
  refine ⟨z, y, xs, rel, o, des, ep, h1, h2, h3, h4, ?_, h5⟩
  clear h4 h5 z e
  induction rel with
  | nil =>
    intro x hx
    cases hx
  | cons hq t ih =>
    intro x hx
    rcases List.mem_cons.mp hx with c | c
    · subst c
      rw [← hq.1, ← hq.2.1]
      exact nk_is I (ks _ List.mem_cons_self)
    · exact ih (fun y hy => ks y (List.mem_cons_of_mem _ hy)) x c
theorem nd_getItem {Q : Value → Shared → Prop} (hu : A.in1.units + 8 < cLine) (I : L2.Inv X pins σ H s) (e : Rd H a (dnO X.prog X.w a es)) (ks : KsOk X.K H es) (hk : NKat X.K H k b) (hv : nGet es k = some v) (h : ∀ w' s', L2.Inv X pins σ H s' → RelV v w' → Q w' s') :
    wpAny (model X.prog X.w) A (getItem (.ref a) (.ref b)) Q E s := by
  obtain ⟨_, _, xs, rel, dd⟩ := dn_of I e ks
  have q := rel.get (k := k)
  rw [hv] at q
  cases c : atKey xs k with
  | none =>
    rw [c] at q
    exact q.elim
  | some p =>
    rw [c] at q
    exact wpAny_getItem_heap hu (nk_is I hk) dd c (h _ _ (I.tok _) q)
theorem nd_get2 {Q : Value → Shared → Prop} (hu : A.in1.units + 8 < cLine) (I : L2.Inv X pins σ H s) (e : Rd H a (dnO X.prog X.w a es)) (ks : KsOk X.K H es) (hk : NKat X.K H k b) (rd : RelV d r) (h : ∀ w' s', L2.Inv X pins σ H s' → RelV ((nGet es k).getD d) w' → Q w' s') :
    wpAny (model X.prog X.w) A (call (.builtin "dict.get") [.ref a, .ref b, r]) Q E s := by
  obtain ⟨_, hd, xs, rel, dd⟩ := dn_of I e ks
  exact call_meetsIn PySem.F.slot_dict_get dd.typeIs PySem.F.entry_dict_get (PySem.F.args_dict_get_3 _ _ _) (meetsH_dict_get_default (nestedKind X.prog X.w) a b hd r) ⟨hu, k, xs, nk_is I hk, dd, h _ _ (I.tok _) ((rel.get (k := k)).getD rd)⟩
theorem nd_new {P : Program} {w : World} {H' : Hp} {h' : Heap} {es : List NE} {xs : List (NestedKey × Addr × Value)} (z : es.length ≤ sizeLine) (hd : (a == sysModules) = false) (rel : NR es xs) (dd : h'.DictOfH (nestedKind P w) a xs) : ObjOk P w H' h' a (dnO P w a es) := by
  obtain ⟨o, des, ep, h1, h2, h3, h4, _, h5⟩ := dd
  exact dnO_ok ⟨z, hd, xs, rel, o, des, ep, h1, h2, h3, h4, h5⟩
theorem nd_dictSet {Q : Unit → Shared → Prop} (hu : A.units + 8 < cLine) (I : L2.Inv X pins σ H s) (e : H a = some (dnO X.prog X.w a es)) (ks : KsOk X.K H es) (hk : NKat X.K H k b) (hz : es.length < sizeLine) (rv : RelV v r)
    (h : ∀ s', L2.Inv X pins σ (upd H a (dnO X.prog X.w a (nPut es k b v))) s' → Q () s') : wpAny (model X.prog X.w) A (dictSet a (.ref b) r) Q E s := by
  obtain ⟨z, hd, xs, rel, dd⟩ := dn_of I (.inl e) ks
  have hx : xs.length ≤ sizeLine := by rw [← Paired.length rel]; exact z
  have hl : (nPut es k b v).length ≤ sizeLine := by have := nPut_le es k b v; omega
  refine wpAny_dictSet_heap (hsz := hx) hu (nk_is I hk) dd fun h' dd' hs => h _ ?_
  have he : ∃ q, h'.get? a = some q := let ⟨q, _, _, hq, _⟩ := dd'; ⟨q, hq⟩
  exact d_write I (by rw [e]; exact True.intro) hs he (nd_new hl hd (rel.put rv) dd')
theorem nd_setItem {Q : Unit → Shared → Prop} (hu : A.in1.units + 8 < cLine) (I : L2.Inv X pins σ H s) (e : H a = some (dnO X.prog X.w a es)) (ks : KsOk X.K H es) (hk : NKat X.K H k b) (hz : es.length < sizeLine) (rv : RelV v r)
    (h : ∀ s', L2.Inv X pins σ (upd H a (dnO X.prog X.w a (nPut es k b v))) s' → Q () s') : wpAny (model X.prog X.w) A (setItem (.ref a) (.ref b) r) Q E s := by
  obtain ⟨z, hd, xs, rel, dd⟩ := dn_of I (.inl e) ks
  have hx : xs.length ≤ sizeLine := by rw [← Paired.length rel]; exact z
  have hl : (nPut es k b v).length ≤ sizeLine := by have := nPut_le es k b v; omega
  refine wpAny_setItem_heap (hsz := hx) hu (nk_is I hk) dd fun h' dd' hs => h _ ?_
  have he : ∃ q, h'.get? a = some q := let ⟨q, _, _, hq, _⟩ := dd'; ⟨q, hq⟩
  exact d_write I (by rw [e]; exact True.intro) hs he (nd_new hl hd (rel.put rv) dd')
theorem nd_truth {Q : Bool → Shared → Prop} (I : L2.Inv X pins σ H s) (e : Rd H a (dnO X.prog X.w a es)) (ks : KsOk X.K H es) (h : ∀ s', L2.Inv X pins σ H s' → Q (!es.isEmpty) s') : wpAny (model X.prog X.w) A (truthy (.ref a)) Q E s := by
  obtain ⟨z, hd, xs, rel, dd⟩ := dn_of I e ks
  have hl : xs.length ≤ sizeLine := by rw [← Paired.length rel]; exact z
  have fit : (xs.length : Int) < 2 ^ 63 := by rw [sizeLine_eq] at hl; omega
  have em : (((xs.length : Nat) : Int) != 0) = !es.isEmpty := by
    cases rel with
    | nil => rfl
    | cons _ _ =>
      simp
      omega
  have ln : wpAny (model X.prog X.w) A (runValue (.builtin "len" ⟨[.ref a], []⟩)) (fun r s' => r = .int xs.length (s.toks + 1) ∧ Q (!es.isEmpty) s') E s := by
    refine wpAny_runValue (codeAny_builtin entry_len ?_)
    rw [Around.under_plainId plain_len _]
    refine wpAny_mono (wpAny_len_body_dictH (knd := nestedKind X.prog X.w) (Q := fun r s' => r = .int xs.length (s.toks + 1) ∧ Q (!es.isEmpty) s') hd dd fit ⟨rfl, h _ (I.tok _)⟩) ?_ fun _ _ e => e
    rintro fin s' ⟨r, rfl, hq⟩
    exact hq
  have go : ∀ (r : Value) (s' : Shared), (r = .int xs.length (s.toks + 1) ∧ Q (!es.isEmpty) s') → r = .int xs.length (s.toks + 1) ∧ Q (((xs.length : Nat) : Int) != 0) s' := fun r s' hq => by rw [em]; exact hq
  unfold truthy
  refine wpAny_bind (wpAny_callSpecial?_none (name := Str.ofString "__bool__") dd.typeIs noBool_dict ?_)
  refine wpAny_bind (wpAny_specialOf (name := Str.ofString "__len__") dd.typeIs F.slot_dict_len.lookup ?_)
  refine wpAny_bind (wpAny_mono ln (fun r s' hq => ?_) fun _ _ e => e)
  obtain ⟨er, hq2⟩ := go r s' hq
  rw [er]
  exact wpAny_pure hq2
end
end Lm

namespace Lm
open PySem PySem.Spec PyProof.Rows L2
/-! ## Rules of such dicts -/
/-- a fact of a key is asked for at the heap that is there -/
structure NKey (P : Program) (w : World) (K : PySem.W.Frag) (H : Hp) (a : Addr) (y : V) (es : List NE) (k : NestedKey) (b : Addr) : Prop where
  y : y = .ref b
  ks : KsOk K H es
  at_ : NKat K H k b
section
variable {X : Cx} {o i e f value : PySem.Expr} {pos pos' apos cpos : Pos} {td ty tv tx : TE}
def tNGet (P : Program) (w : World) (K : PySem.W.Frag) (td ty : TE) : TE := fun σ H Q => td σ H fun x H1 => ty σ H1 fun y H2 => ∃ a es k b v, x = .ref a ∧ Rd H2 a (dnO P w a es) ∧ NKey P w K H2 a y es k b ∧ nGet es k = some v ∧ Q v H2
theorem pe_nget (hu : X.A.units + 10 < cLine) (ho : PE X o td) (hi : PE X i ty) (hs : NoSl i) : PE X (.Subscript o i pos) (tNGet X.prog X.w X.K td ty) :=
  ⟨fun pins s σ H Q I h => subD_of PySem.F.slot_dict_getitem.lookup hs (thn (ho.run pins s σ H _ I h) fun u s1 ⟨x, H1, I1, rx, q1⟩ => thn (hi.run pins s1 σ H1 _ I1 q1) fun iv s2 ⟨y, H2, I2, ry, a, es, k, b, v, ex, rd, N, hv, q2⟩ => by
    subst ex
    obtain rfl : u = Value.ref a := rx
    obtain rfl := N.y
    obtain rfl : iv = Value.ref b := ry
    obtain ⟨_, _, _, _, dd⟩ := dn_of I2 rd N.ks
    exact ⟨dd.typeIs, nd_getItem (by have : X.A.in1.units ≤ X.A.units + 1 := by unfold Around.in1; simp
                                     omega) I2 rd N.ks N.at_ hv fun w' s3 I3 rw' => ⟨v, H2, I3, rw', q2⟩⟩)⟩
def sNPut (P : Program) (w : World) (K : PySem.W.Frag) (td ty tv : TE) : TS := fun D σ H => tv σ H fun v H1 => td σ H1 fun x H2 => ty σ H2 fun y H3 => ∃ a es k b, x = .ref a ∧ H3 a = some (dnO P w a es) ∧ NKey P w K H3 a y es k b ∧ es.length < sizeLine ∧
  D.nx σ (upd H3 a (dnO P w a (nPut es k b v)))
theorem ps_nput (hu : X.A.units + 10 < cLine) (ho : PE X o td) (hi : PE X i ty) (hv : PE X value tv) (hs : swapsWith value (some (.Subscript o i pos')) pos.line X.env = pure false) : PS X (.Assign [.Subscript o i pos'] value pos) (sNPut X.prog X.w X.K td ty tv) :=
  ⟨fun pins s σ H D I h => wpAny_Assign_Subscript (thn (hv.run pins s σ H _ I h) fun r s1 ⟨v, H1, I1, rv, q1⟩ => thn (ho.run pins s1 σ H1 _ I1 q1) fun u s2 ⟨x, H2, I2, rx, q2⟩ => thn (hi.run pins s2 σ H2 _ I2 q2) fun iv s3 ⟨y, H3, I3, ry, a, es, k, b, ex, rd, N, hz, q3⟩ => by
    subst ex
    obtain rfl : u = Value.ref a := rx
    obtain rfl := N.y
    obtain rfl : iv = Value.ref b := ry
    exact nd_setItem (by have : X.A.in1.units ≤ X.A.units + 1 := by unfold Around.in1; simp
                         omega) I3 rd N.ks N.at_ hz rv fun s4 I4 => ⟨σ, _, I4, q3⟩) hs⟩
def tNGet2 (P : Program) (w : World) (K : PySem.W.Frag) (td ty tx : TE) : TE := fun σ H Q => td σ H fun x H1 => ∃ a es1, x = .ref a ∧ Rd H1 a (dnO P w a es1) ∧ KsOk K H1 es1 ∧ ty σ H1 fun y H2 => tx σ H2 fun z H3 => ∃ es k b, Rd H3 a (dnO P w a es) ∧ NKey P w K H3 a y es k b ∧ Q ((nGet es k).getD z) H3
theorem pe_nget2 (hu : X.A.units + 10 < cLine) (ho : PE X o td) (he : PE X e ty) (hf : PE X f tx) (m : M2 X o "get" apos e f cpos) : PE X (.Call (.Attribute o "get" apos) [e, f] [] cpos) (tNGet2 X.prog X.w X.K td ty tx) := by
  constructor
  intro pins s σ H Q I h
  refine wpAny_Call_method m.base m.few m.line PySem.F.plainAttrs_dict PySem.F.slot_dict_get PySem.F.type_dict_get (thn (ho.run pins s σ H _ I h) ?_)
  rintro u s1 ⟨x, H1, I1, rx, a, es1, ex, d, k1, q1⟩
  subst ex
  obtain rfl : u = Value.ref a := rx
  obtain ⟨_, _, _, _, dd⟩ := dn_of I1 d k1
  refine ⟨dd.typeIs, fun b q => ?_, ?_⟩
  · cases q
    obtain ⟨ob, _, _, h1, h2, _⟩ := dd
    exact ⟨ob, h1, h2.2.1⟩
  · rw [m.trees]
    refine Calls.callWith_builtin rfl (Calls.evalArgs_plain (Calls.spliced_cons (thn (he.run pins s1 σ H1 _ I1 q1) ?_)))
    rintro iv s2 ⟨y, H2, I2, ry, q2⟩
    refine Calls.spliced_cons (thn (hf.run pins s2 σ H2 _ I2 q2) ?_)
    rintro fv s3 ⟨z, H3, I3, rz, es, k, b, rd, N, q3⟩
    refine Calls.spliced_nil ?_
    obtain rfl := N.y
    obtain rfl : iv = Value.ref b := ry
    have hu1 : X.A.in1.units ≤ X.A.units + 1 := by
      unfold Around.in1
      simp
    exact nd_get2 (by omega) I3 rd N.ks N.at_ rz fun w' s4 I4 rw' => ⟨_, H3, I4, rw', q3⟩
def tNTru (P : Program) (w : World) (K : PySem.W.Frag) (td : TE) : TT := fun σ H Q => td σ H fun x H1 => ∃ a es, x = .ref a ∧ Rd H1 a (dnO P w a es) ∧ KsOk K H1 es ∧ Q (!es.isEmpty) H1
theorem pt_ntruth (ho : PE X o td) (he : ∀ whole, isTrue o X.env whole = (do let v ← whole; standAt o.pos; holding [v] (truthy v))) : PT X o (tNTru X.prog X.w X.K td) :=
  ⟨fun pins s σ H Q I h => isTrue_plain (thn (ho.run pins s σ H _ I h) fun u s1 ⟨x, H1, I1, rx, a, es, ex, d, ks, q⟩ => by
    subst ex
    obtain rfl : u = Value.ref a := rx
    exact nd_truth I1 d ks fun s2 I2 => ⟨H1, I2, q⟩) (he _)⟩
/-! ### made -/
theorem dn_empty {P : Program} {w : World} {H : Hp} (h : Heap) (hb : sysModules < h.objs.size) : ObjOk P w H (h.push { cls := .type "dict", data := .dict #[] }) h.objs.size (dnO P w h.objs.size []) :=
  nd_new (Nat.zero_le _) (beq_eq_false_iff_ne.mpr (Nat.ne_of_gt hb)) .nil (Heap.DictOfH.new h)
def tNNew (P : Program) (w : World) : TE := fun _ H Q => ∀ p, H p = none → Q (.ref p) (upd H p (dnO P w p []))
theorem pe_nnew : PE X (.Dict [] [] pos) (tNNew X.prog X.w) := ⟨fun pins s σ H Q I h => by
  refine wpAny_Dict_empty ⟨.ref s.heap.objs.size, _, ?_, rfl, h _ (I.hok.fresh (Nat.le_refl _))⟩
  exact I.laid (a := s.heap.objs.size) (t' := s.toks) (fun _ _ q => Heap.get?_push_of_some _ q) (Nat.le_refl _) (dn_empty s.heap I.big)⟩
/-- e, whose value is never written from now on -/
def tFz (td : TE) : TE := fun σ H Q => td σ H fun v H1 => ∃ d u, v = .ref d ∧ H1 d = some u ∧ Mut (some u) ∧ ∀ od, Q v (upd H1 d (.frz od u))
theorem pe_fz (ho : PE X o td) : PE X o (tFz td) := ⟨fun pins s σ H Q I h => thn (ho.run pins s σ H _ I h) fun v s1 ⟨x, H1, I1, r, d, u, ex, hd, mu, q⟩ => by
  obtain ⟨od, I2⟩ := I1.lock hd mu
  exact ⟨x, _, I2, r, q od⟩⟩
/-! ### displays -/
abbrev NA := NestedKey × Addr × V
def nPuts (es : List NE) : List NA → List NE
  | [] => es
  | p :: ps => nPuts (nPut es p.1 p.2.1 p.2.2) ps
theorem NR.puts : ∀ {ps : List NA} {qs : List (NestedKey × Addr × Value)} {es : List NE} {xs : List (NestedKey × Addr × Value)}, NR ps qs → NR es xs → NR (nPuts es ps) (storedAllH xs qs)
  | _, _, _, _, .nil, r => r
  | _, _, es, xs, .cons (a := p) (b := q) (l₁ := ps) (l₂ := qs) h t, r => by
    have z := NR.put (k := p.1) (b := p.2.1) h.2.2 r
    show NR (nPuts (nPut es p.1 p.2.1 p.2.2) ps) (storedAllH (storedH xs q.1 q.2.1 q.2.2) qs)
    rw [← h.1, ← h.2.1]
    exact NR.puts t z
theorem nPuts_le : ∀ (ps : List NA) (es : List NE), (nPuts es ps).length ≤ es.length + ps.length
  | [], es => by
    unfold nPuts
    simp
  | p :: ps, es => by
    have h1 := nPuts_le ps (nPut es p.1 p.2.1 p.2.2)
    have h2 := nPut_le es p.1 p.2.1 p.2.2
    unfold nPuts
    rw [List.length_cons]
    omega
theorem KsOk.puts {K : PySem.W.Frag} {H : Hp} : ∀ {ps : List NA} {es : List NE}, KsOk K H es → (∀ p ∈ ps, NKat K H p.1 p.2.1) → KsOk K H (nPuts es ps)
  | [], _, h, _ => h
  | p :: ps, es, h, hp => by
    unfold nPuts
    exact KsOk.puts (h.put (hp p List.mem_cons_self)) fun q hq => hp q (List.mem_cons_of_mem _ hq)
theorem carries_n {pins : List (Addr × Obj)} {σ : L2.St} {H : Hp} {s : Shared} (I : L2.Inv X pins σ H s) : ∀ {ps : List NA} {ws : List (Value × Value)}, VV (ps.map fun p => (V.ref p.2.1, p.2.2)) ws → (∀ p ∈ ps, NKat X.K H p.1 p.2.1) → ∃ qs, CarriesH (nestedKind X.prog X.w) s.heap ws qs ∧ NR ps qs
  | [], ws, r, _ => by
    rw [List.map_nil] at r
    cases r
    exact ⟨[], trivial, .nil⟩
  | p :: ps, ws, r, hp => by
    rw [List.map_cons] at r
    cases r with
    | cons h t =>
      rename_i b bs
      obtain ⟨qs, c, n⟩ := carries_n I t fun q hq => hp q (List.mem_cons_of_mem _ hq)
      obtain ⟨b1, b2⟩ := b
      obtain ⟨h1, h2⟩ := h
      obtain rfl : b1 = Value.ref p.2.1 := h1
      exact ⟨(p.1, p.2.1, b2) :: qs, ⟨rfl, rfl, nk_is I (hp p List.mem_cons_self), c⟩, .cons ⟨rfl, rfl, h2⟩ n⟩
def tNDisp (P : Program) (w : World) (K : PySem.W.Frag) (trs : List (TE × TE)) : TE := fun σ H Q => ∀ p, H p = none → tPairs trs σ (upd H p (dnO P w p [])) fun ps H2 => H2 p = some (dnO P w p []) ∧ ∃ ns : List NA, ps = ns.map (fun x => (V.ref x.2.1, x.2.2)) ∧ ns.length ≤ 15 ∧ (∀ x ∈ ns, NKat K H2 x.1 x.2.1) ∧ Q (.ref p) (upd H2 p (dnO P w p (nPuts [] ns)))
theorem pe_ndisp {keys : List (Option PySem.Expr)} {values : List PySem.Expr} {trs : List (TE × TE)} (hu : X.A.units + 10 < cLine) (h : PPs X pos keys values trs) (hall : keys.all (·.isSome) = true) (hl : keys.length = values.length) (h0 : keys ≠ []) (h15 : keys.length ≤ 15) :
    PE X (.Dict keys values pos) (tNDisp X.prog X.w X.K trs) := ⟨fun pins s σ H Q I q => by
  have hn := I.hok.fresh (Nat.le_refl s.heap.objs.size)
  have I1 := I.laid (a := s.heap.objs.size) (t' := s.toks) (fun _ _ q => Heap.get?_push_of_some _ q) (Nat.le_refl _) (dn_empty (P := X.prog) (w := X.w) s.heap I.big)
  have len := pairTrees_length keys values X.env pos hall hl
  have ne : pairTrees keys values X.env pos ≠ [] := fun z => by
    rw [z] at len
    exact h0 (List.length_eq_zero_iff.mp len.symm)
  rw [arm_eval_Dict, zip_pairTrees keys values X.env pos hall hl, dictDisplay_pairs _ ne (by omega)]
  refine wpAny_bind (wpAny_standAt (wpAny_bind (wpAny_subDictH (knd := nestedKind X.prog X.w) (by show X.A.units + 8 < cLine; omega) (by rw [len]; exact h15) (thn (h.run pins _ σ _ _ I1 (q _ hn)) ?_))))
  rintro ws s2 ⟨ps, H2, I2, rel, e, ns, ep, h15', hk, q2⟩
  subst ep
  obtain ⟨qs, c, nr⟩ := carries_n I2 rel hk
  obtain ⟨_, hd, xs0, r0, dd⟩ := dn_of I2 (.inl e) fun x hx => by cases hx
  cases r0
  refine ⟨qs, c, dd, fun h' tk dd' hs => wpAny_pure ⟨.ref s.heap.objs.size, _, ?_, rfl, q2⟩⟩
  have hz : (nPuts [] ns).length ≤ sizeLine := by
    have h1 := nPuts_le ns []
    rw [List.length_nil] at h1
    rw [sizeLine_eq]
    omega
  have he : ∃ q, h'.get? s.heap.objs.size = some q := let ⟨q, _, _, hq, _⟩ := dd'; ⟨q, hq⟩
  exact d_write I2 (by rw [e]; exact True.intro) hs he (nd_new hz hd (NR.puts nr .nil) dd')⟩
end
/-! ### walked -/
/-- the keys of the dict at d -/
def Itn (P : Program) (w : World) (d : Addr) (o : Obj) (es : List NE) : It :=
  ⟨fun i H => H d = some (.frz o (dnO P w d es)) ∧ i < es.length, fun i H x H' => H' = H ∧ ∃ e, es[i]? = some e ∧ x = .ref e.2.1, fun i H => H d = some (.frz o (dnO P w d es)) ∧ es.length ≤ i⟩
/-- its pairs -/
def Itp (P : Program) (w : World) (d : Addr) (o : Obj) (es : List NE) : It :=
  ⟨fun i H => H d = some (.frz o (dnO P w d es)) ∧ i < es.length, fun i H x H' => ∃ T e, es[i]? = some e ∧ x = .ref T ∧ H T = none ∧ H' = upd H T (.tup [.ref e.2.1, e.2.2]), fun i H => H d = some (.frz o (dnO P w d es)) ∧ es.length ≤ i⟩
/-- what stands at a locked one -/
theorem nfz {X : Cx} {pins : List (Addr × Obj)} {σ : L2.St} {H : Hp} {s : Shared} {d : Addr} {o : Obj} {es : List NE} (I : L2.Inv X pins σ H s) (h : H d = some (.frz o (dnO X.prog X.w d es))) :
    s.heap.get? d = some o ∧ (d == sysModules) = false ∧ o.ExactDict ∧ ∃ ds ep, o.data = .dict ds ep ∧ ds.size = es.length ∧ ∀ (i : Nat) (e : NE), es[i]? = some e → ∃ en : DictEntry, ds[i]? = some en ∧ en.key = .ref e.2.1 ∧ RelV e.2.2 en.val := by
  obtain ⟨hg, ⟨_, hs, xs, rel, o', ds, ep, h1, h2, h3, h4, _⟩, _⟩ := I.hok d _ h
  rw [hg] at h1
  cases h1
  refine ⟨hg, hs, h2, ds, ep, h3, ?_, fun i e he => ?_⟩
  · have a := size_of_entries h4
    have b := Paired.length rel
    omega
  · obtain ⟨x, hx, e1, e2, e3⟩ := paired_get rel he
    have z := entry_at h4 i
    rw [hx] at z
    exact ⟨_, z, congrArg Value.ref e2.symm, e3⟩
section
variable {P : Program} {w : World} {K : PySem.W.Frag} {tg : PySem.Expr} {d : Addr} {o : Obj} {ds : Array DictEntry} {ep : Nat} {es : List NE}
theorem turn_nkeys (it : Addr) (hod : o.data = .dict ds ep) : Turn P w K tg (Itn P w d o es) [it] it (fun i h => h.IsKeyIter it d i es.length ep) := by
  constructor
  · exact List.mem_singleton.mpr rfl
  · intro i h st b hb
    rw [List.mem_singleton] at hb
    subst hb
    obtain ⟨ob, e1, _, e2⟩ := st
    exact ⟨ob, e1, fun v z => by rw [e2] at z; cases z⟩
  · intro i h h' st k
    exact st.at fun ob e1 => k it (List.mem_singleton.mpr rfl) ob e1
  · rintro X rfl rfl rfl _ i pins s σ H E I hf st ⟨hd, hi⟩
    obtain ⟨a0, a1, a2, a3, a4, a5⟩ := hf it (List.mem_singleton.mpr rfl)
    obtain ⟨hg, _, _, ds', ep', hod', hsz, ent⟩ := nfz I hd
    obtain ⟨rfl, rfl⟩ := dict_ep hod hod'
    have he : es[i]? = some es[i] := List.getElem?_eq_getElem hi
    obtain ⟨en, hen, hkey, _⟩ := ent i _ he
    refine next_key_item st hg hod hsz hen fun h' st' sb => ?_
    have I1 : L2.Inv X pins σ H { s with heap := h' } := I.turned (t' := s.toks) (fun b ob hb e => (sb.2 b hb).trans e) a0 a1 a3 a4 a5
    obtain ⟨ob, c1, c2, c3⟩ := id st'
    refine ⟨en.key, rfl, go_of (s := { s with heap := h' }) c1 c2 c3 (by decide) ?_⟩
    exact ⟨.ref es[i].2.1, H, I1, hkey, ⟨rfl, _, he, rfl⟩, st', fun b hb => (hf b hb).1⟩
  · rintro X rfl rfl rfl hc i pins s σ H E I hf st ⟨hd, hi⟩
    obtain ⟨a0, a1, a2, a3, a4, a5⟩ := hf it (List.mem_singleton.mpr rfl)
    obtain ⟨hg, _, _, ds', ep', hod', hsz, ent⟩ := nfz I hd
    obtain ⟨rfl, rfl⟩ := dict_ep hod hod'
    exact next_key_end (I.ok.hd hc) st hg hod hsz hi fun h' eb => ⟨rfl, I.turned (t' := s.toks) (fun b ob hb e => eb b ob hb e) a0 a1 a3 a4 a5⟩
  · intro A i s Q E st h
    exact wpAny_pyIter_keyiter st h
theorem turn_npairs {elts : List PySem.Expr} {kk : Nat} {tpos : Pos} (it : Addr) (hod : o.data = .dict ds ep) : Turn P w K (.Tuple elts kk tpos) (Itp P w d o es) [it] it (fun i h => ∃ x y, IsItemIter h it d i es.length ep x y) := by
  constructor
  · exact List.mem_singleton.mpr rfl
  · rintro i h ⟨x, y, st⟩ b hb
    rw [List.mem_singleton] at hb
    subst hb
    exact ⟨_, st, fun v z => nomatch z⟩
  · rintro i h h' ⟨x, y, st⟩ k
    exact ⟨x, y, k it (List.mem_singleton.mpr rfl) _ st⟩
  · rintro X rfl rfl rfl _ i pins s σ H E I hf ⟨x, y, st⟩ ⟨hd, hi⟩
    obtain ⟨hg, _, hx, ds', ep', hod', hsz, ent⟩ := nfz I hd
    obtain ⟨rfl, rfl⟩ := dict_ep hod hod'
    have he : es[i]? = some es[i] := List.getElem?_eq_getElem hi
    obtain ⟨en, hen, hkey, hval⟩ := ent i _ he
    have hlt : it < s.heap.objs.size := Heap.lt_size st
    have hids : i < ds'.size := by omega
    have hen2 : ds'[i] = en := by
      rw [Array.getElem?_eq_getElem hids] at hen
      exact Option.some.inj hen
    rw [← hsz] at st
    refine wpAny_pyNext_items_item_raw st ⟨o, hg, hx, hod⟩ hids fun h' ho hT hz hk => ⟨_, rfl, wpAny_letOwnedTupleGo_items (s := { s with heap := h' }) ho fun h2 he2 sb => ?_⟩
    rw [hen2] at hT he2
    have hT2 : h2.get? s.heap.objs.size = some { cls := .type "tuple", data := .seq #[en.key, en.val] } := (sb.2 _ (Nat.ne_of_gt hlt)).trans hT
    have new : ObjOk X.prog X.w (upd H s.heap.objs.size (.tup [.ref es[i].2.1, es[i].2.2])) h2 s.heap.objs.size (.tup [.ref es[i].2.1, es[i].2.2]) :=
      ⟨by show 2 ≤ sizeLine; decide, [en.key, en.val], .cons hkey (.cons hval .nil), _, hT2, rfl, _, rfl⟩
    have I1 : L2.Inv X pins σ (upd H s.heap.objs.size (.tup [.ref es[i].2.1, es[i].2.2])) { s with heap := h2 } := I.turnedNew (t' := s.toks) (ch := [it]) (fun b ob hb e => (sb.2 b (fun z => hb (List.mem_singleton.mpr z))).trans (hk b ob (fun z => hb (List.mem_singleton.mpr z)) e)) hf (Nat.le_refl _) new
    refine ⟨.ref s.heap.objs.size, _, I1, rfl, ⟨_, _, he, rfl, I.hok.fresh (Nat.le_refl _), rfl⟩, ⟨en.key, en.val, ?_⟩, fun b hb => ?_⟩
    · rw [← hsz]
      exact he2
    · rw [List.mem_singleton] at hb
      subst hb
      rw [upd_ne (Nat.ne_of_lt hlt)]
      exact (hf _ (List.mem_singleton.mpr rfl)).1
  · rintro X rfl rfl rfl hc i pins s σ H E I hf ⟨x, y, st⟩ ⟨hd, hi⟩
    obtain ⟨a0, a1, a2, a3, a4, a5⟩ := hf it (List.mem_singleton.mpr rfl)
    obtain ⟨hg, _, hx, ds', ep', hod', hsz, ent⟩ := nfz I hd
    obtain ⟨rfl, rfl⟩ := dict_ep hod hod'
    rw [← hsz] at st
    exact wpAny_pyNext_items_end_raw (I.ok.hd hc) st ⟨o, hg, hx, hod⟩ (by omega) fun h' eb => ⟨rfl, I.turned (t' := s.toks) (fun b ob hb e => eb b ob hb e) a0 a1 a3 a4 a5⟩
  · rintro A i s Q E ⟨x, y, st⟩ h
    exact PySem.W.kcp_self st h
end
def iNKeys (P : Program) (w : World) (td : TE) : TI := fun σ H R => td σ H fun x H1 => ∃ d o es, x = .ref d ∧ H1 d = some (.frz o (dnO P w d es)) ∧ R (Itn P w d o es) H1
def iNPairs (P : Program) (w : World) (td : TE) : TI := fun σ H R => td σ H fun x H1 => ∃ d o es, x = .ref d ∧ H1 d = some (.frz o (dnO P w d es)) ∧ R (Itp P w d o es) H1
section
variable {X : Cx} {tg e : PySem.Expr} {td : TE} {apos cpos : Pos}
theorem pi_nkeys (he : PE X e td) : PI X tg e (iNKeys X.prog X.w td) := ⟨fun pins s σ H R I h => thn (he.run pins s σ H _ I h) fun u s1 ⟨x, H1, I1, rx, d, o, es, ex, hd, q⟩ => by
  subst ex
  obtain rfl : u = Value.ref d := rx
  obtain ⟨hg, hs, hx, ds, ep, hod, hsz, _⟩ := nfz I1 hd
  refine iter_keys hs hg hx hod (pi_one (tk := s1.toks) I1 _ (turn_nkeys _ hod) ⟨_, Heap.get?_push_size _ rfl, rfl, ?_⟩ q)
  rw [hsz] <;> rfl⟩
theorem pi_npairs {elts : List PySem.Expr} {kk : Nat} {tpos : Pos} (he : PE X e td) (hbase : attributeBase e "items" X.env (eval e X.env) = eval e X.env := by rfl) (hline : (apos.endLine == cpos.line) = true := by rfl) :
    PI X (.Tuple elts kk tpos) (.Call (.Attribute e "items" apos) [] [] cpos) (iNPairs X.prog X.w td) := by
  constructor
  intro pins s σ H R I h
  refine wpAny_Call_method (T := "dict") (id := "dict.items") hbase rfl hline F.plainAttrs_dict F.slot_dict_items F.type_dict_items (thn (he.run pins s σ H _ I h) ?_)
  rintro u s1 ⟨x, H1, I1, rx, d, o, es, ex, hd, q⟩
  subst ex
  obtain rfl : u = Value.ref d := rx
  obtain ⟨hg, hs, hx, ds, ep, hod, hsz, _⟩ := nfz I1 hd
  have raw : s1.heap.DictRaw d ds ep := ⟨o, hg, hx, hod⟩
  refine ⟨raw.typeIs, fun b z => ?_, ?_⟩
  · cases z
    exact ⟨o, hg, hx.2.1⟩
  · have I2 : L2.Inv X pins σ H1 { s1 with heap := s1.heap.push { cls := .type "dict_items", data := .fields #[.ref d] } } := I1.kept (t' := s1.toks) fun b ob z => Heap.get?_push_of_some _ z
    have fin : wpAny (model X.prog X.w) X.A (pyIter (.ref s1.heap.objs.size)) (PIE X pins σ (.Tuple elts kk tpos) R) X.xe { s1 with heap := s1.heap.push { cls := .type "dict_items", data := .fields #[.ref d] } } := by
      refine wpAny_pyIter_items_raw (es := ds) (ep := ep) ⟨_, Heap.get?_push_size _ rfl, rfl, rfl⟩ (raw.at fun o e => Heap.get?_push_of_some _ e) (pi_one (tk := s1.toks) I2 _ (turn_npairs _ hod) ⟨.none, .none, ?_⟩ q)
      rw [hsz]
      exact Heap.get?_push_size _ rfl
    show wpAny _ _ (callWith cpos (.builtin "dict.items") [.ref d] [] []) _ X.xe s1
    exact method_meetsIn F.slot_dict_items F.entry_dict_items rfl (PySem.evalArgs_none ⟨rfl, raw.typeIs, F.args_dict_items_1 _, _, meets_dict_items_raw d hs, ⟨ds, ep, raw⟩, fin⟩)
end
end Lm

namespace Lm
open PySem PySem.Spec PyProof.Rows L2
/-! ## Comprehensions that make such dicts -/
section
variable {X : Cx}
def tNDc (P : Program) (w : World) (K : PySem.W.Frag) (wi : TI) (g : TG) (tt : TT) (tk tv : TE) (vs : List Nat) : TE := fun σ H Q => wi σ H fun J H1 => ∀ D, H1 D = none → ∃ W : Nat → Nat → Hp → Prop, (∃ m, W 0 m (upd H1 D (dnO P w D []))) ∧ ∀ i m H, W i m H →
  (J.stop i H ∧ Q (.ref D) H) ∨ (J.go i H ∧ ∃ Nx : Hp → Prop, (∀ H', Nx H' → ∃ m', m' < m ∧ W (i + 1) m' H') ∧ ∀ x H', J.yld i H x H' → g x (wipe σ vs) H' fun σ2 H2 => wipe σ2 vs = wipe σ vs ∧ tt σ2 H2 fun b H3 =>
    if b = true then tk σ2 H3 fun y H4 => tv σ2 H4 fun z H5 => ∃ es k b, H5 D = some (dnO P w D es) ∧ NKey P w K H5 D y es k b ∧ es.length < sizeLine ∧ Nx (upd H5 D (dnO P w D (nPut es k b z))) else Nx H3)
theorem ndc_core {pins : List (Addr × Obj)} {s : Shared} {σ : L2.St} {H : Hp} {Q : VK} {ke ve tgt itr : PySem.Expr} {conds : List PySem.Expr} {sco : Scope} {own : List (Str × Nat)} {po po' : Pos} {wi : TI} {g : TG} {tt : TT} {tk tv : TE} {use : Option (Value → Sem Unit)} {Qf : Value → Shared → Prop}
    (hu : X.A.units + 10 < cLine) (calm : X.calm = true) (nod : X.N.Nodup) (I : L2.Inv X pins σ H s) (hi : PI X tgt itr wi) (ok : BlkOk X.N X.env.scope sco own)
    (hg : ∀ (s : Shared) (H : Hp) (C : Addr) (cl : List (Str × Addr)) (fp : List Addr), PG (X.blk s H sco (compEnvC sco cl C X.env) fp) tgt g)
    (ht : ∀ (s : Shared) (H : Hp) (C : Addr) (cl : List (Str × Addr)) (fp : List Addr), PTs (X.blk s H sco (compEnvC sco cl C X.env) fp) conds tt)
    (hk : ∀ (s : Shared) (H : Hp) (C : Addr) (cl : List (Str × Addr)) (fp : List Addr), PE (X.blk s H sco (compEnvC sco cl C X.env) fp) ke tk)
    (hv : ∀ (s : Shared) (H : Hp) (C : Addr) (cl : List (Str × Addr)) (fp : List Addr), PE (X.blk s H sco (compEnvC sco cl C X.env) fp) ve tv)
    (pl : ∀ x, foldedSetIterable itr X.env x = pure x) (h : tNDc X.prog X.w X.K wi g tt tk tv (own.map (·.2)) σ H Q)
    (post : ∀ D C s' m H', L2.Inv X pins σ H' s' → Q (.ref D) H' → s'.heap.Ns C m → FpOk X pins H' C → compPost (model X.prog X.w) X.A X.xe use Qf (.ref D) C (.ok .next) s') :
    wpAny (model X.prog X.w) X.A (comprehension (.DictComp ke ve [⟨tgt, itr, conds, 0⟩] sco po) sco X.env po' newDict false (eval itr X.env) use) Qf X.xe s := by
  have cellsAt : ∀ n ∈ sco.names, n.2 = .free → ∃ c, X.env.cells.lookup n.1 = some c := fun n hn e => by
    rcases ok.free n hn e with q | q
    · exact I.ok.has _ (.inl q)
    · exact I.ok.has _ (.inr q)
  refine wpAny_comprehension_free (use := use) rfl pl (closure_ok cellsAt) ok.kind (fun n hn e => by rw [ok.uniq n hn, e])
    (thn (hi.run pins s σ H _ I h) fun xv s1 hx => thn hx fun itv s2 p2 => ?_)
  obtain ⟨it, fp, tn, J, H2, rfl, I2, T, st2, f2, q⟩ := p2
  refine wpAny_newObj_type (newEnv_comp ?_)
  generalize eD : s2.heap.objs.size = D
  have freeD : H2 D = none := I2.hok.fresh (Nat.le_of_eq eD)
  obtain ⟨W, ⟨m0, w0⟩, turn⟩ := q D freeD
  generalize es3 : ({ s2 with heap := s2.heap.push { cls := .type "dict", data := .dict #[] } } : Shared) = s3
  have I3 : L2.Inv X pins σ (upd H2 D (dnO X.prog X.w D [])) s3 := by
    rw [← es3]
    refine I2.laid (t' := s2.toks) (fun b o e => Heap.get?_push_of_some _ e) (Nat.le_of_eq eD) ?_
    rw [← eD]
    exact dn_empty s2.heap I2.big
  have hp3 : s3.heap = s2.heap.push { cls := .type "dict", data := .dict #[] } := by rw [← es3]
  have small : ∀ b ∈ fp, b < s2.heap.objs.size := fun b hb => let ⟨o, e, _⟩ := T.obj _ _ st2 b hb; Heap.lt_size e
  have f3 : ∀ b ∈ fp, FpOk X pins (upd H2 D (dnO X.prog X.w D [])) b ∧ b < s3.heap.objs.size := fun b hb => by
    have lt := small b hb
    refine ⟨⟨?_, (f2 b hb).2⟩, by rw [hp3, Heap.size_push]; exact Nat.lt_succ_of_lt lt⟩
    rw [upd_ne (by rw [← eD]; exact Nat.ne_of_lt lt)]
    exact (f2 b hb).1
  have st3 : tn 0 s3.heap := T.keep _ _ _ st2 fun b _ o e => by
    rw [hp3]
    exact Heap.get?_push_of_some _ e
  have I4 := block_start I3 ok nod f3
  have pg := hg s3 (upd H2 D (dnO X.prog X.w D [])) s3.heap.objs.size (cellsFrom (s3.heap.objs.size + 1) sco.names (cloFrom X.env.cells sco.names [])) fp
  have pt := ht s3 (upd H2 D (dnO X.prog X.w D [])) s3.heap.objs.size (cellsFrom (s3.heap.objs.size + 1) sco.names (cloFrom X.env.cells sco.names [])) fp
  have pk := hk s3 (upd H2 D (dnO X.prog X.w D [])) s3.heap.objs.size (cellsFrom (s3.heap.objs.size + 1) sco.names (cloFrom X.env.cells sco.names [])) fp
  have pv := hv s3 (upd H2 D (dnO X.prog X.w D [])) s3.heap.objs.size (cellsFrom (s3.heap.objs.size + 1) sco.names (cloFrom X.env.cells sco.names [])) fp
  show codeAny _ _ (.compStart (.DictComp ke ve [⟨tgt, itr, conds, 0⟩] sco po) 0 (.ref it) (.ref D) (compEnvC sco (cellsFrom (s3.heap.objs.size + 1) sco.names (cloFrom X.env.cells sco.names [])) s3.heap.objs.size X.env)) (compPost (model X.prog X.w) X.A X.xe use Qf (.ref D) s3.heap.objs.size) { s3 with heap := pushCells (s3.heap.push { cls := .type "dict", data := .dict #[] }) sco.names }
  have none3 : ∀ b ∈ fp, (upd H2 D (dnO X.prog X.w D [])) b = none := fun b hb => (f3 b hb).1.1
  generalize ece : compEnvC sco (cellsFrom (s3.heap.objs.size + 1) sco.names (cloFrom X.env.cells sco.names [])) s3.heap.objs.size X.env = ce at I4 pg pt pk pv ⊢
  have locC : ce.locals = s3.heap.objs.size := by
    subst ece
    rfl
  generalize eH3 : upd H2 D (dnO X.prog X.w D []) = H3 at I3 I4 pg pt pk pv w0 none3 f3
  generalize es4 : ({ s3 with heap := pushCells (s3.heap.push { cls := .type "dict", data := .dict #[] }) sco.names } : Shared) = s4 at I4 ⊢
  have st4 : tn 0 s4.heap := T.keep _ _ _ st3 fun b _ o e => by
    rw [← es4]
    exact pushCells_keeps _ _ _ _ (Heap.get?_push_of_some _ e)
  have stat : ∀ {σ' : L2.St} {H' : Hp} {s' : Shared}, L2.Inv (X.blk s3 H3 sco ce fp) [] σ' H' s' → (∀ b ∈ fp, H' b = none) → ∀ b ∈ fp, FpOk (X.blk s3 H3 sco ce fp) [] H' b := fun {σ' H' s'} I' hn b hb =>
    ⟨hn b hb, (I'.ok.exf b hb).1, I'.ok.exfs b hb, .inl hb, fun x c e => (I'.ok.exf b hb).2 x c e, fun p hp => absurd (show p ∈ ([] : List (Addr × Obj)) ++ [] from hp) (by simp)⟩
  have run : codeAny (model X.prog X.w) X.A (.compLoop (.DictComp ke ve [⟨tgt, itr, conds, 0⟩] sco po) 0 (.ref it) (.ref D) ce) (compPost (model X.prog X.w) X.A X.xe use Qf (.ref D) s3.heap.objs.size) s4 := by
    refine compLoop_anyD (fun n s' => ∃ i H', L2.Inv (X.blk s3 H3 sco ce fp) [] (wipe σ (own.map (·.2))) H' s' ∧ tn i s'.heap ∧ (∀ b ∈ fp, H' b = none) ∧ W i n H') ?_ m0 ⟨0, H3, I4, st4, none3, w0⟩
    rintro n s5 ⟨i, H5, I5, st5, n5, w5⟩
    rcases turn i n H5 w5 with ⟨stop, fin⟩ | ⟨go, Nx, less, step⟩
    · refine thnF (T.done (X.blk s3 H3 sco ce fp) rfl rfl rfl calm i [] s5 _ H5 (fun _ _ => False) I5 (stat I5 n5) st5 stop) ?_
      rintro r s6 ⟨rfl, I6⟩
      have I7 : L2.Inv X pins σ H5 s6 := I3.call' (ch := fp) I6.os I6.base I6.hok I6.bare fun b hb => ⟨(f3 b hb).1.2.2.2.1, (f3 b hb).1.2.1, (f3 b hb).1.2.2.2.2.1, (f3 b hb).1.2.2.2.2.2⟩
      have hC : H5 s3.heap.objs.size = none := by
        have z : H5 ce.locals = none := I6.free
        rw [locC] at z
        exact z
      obtain ⟨m, ns, _⟩ := I6.loc
      have ns : s6.heap.Ns ce.locals m := ns
      rw [locC] at ns
      exact post D s3.heap.objs.size s6 m H5 I7 fin ns (I3.fpOk (Nat.le_refl _) hC)
    · refine thnF (T.item (X.blk s3 H3 sco ce fp) rfl rfl rfl calm i [] s5 _ H5 (fun _ _ => False) I5 (stat I5 n5) st5 go) ?_
      rintro r s6 ⟨u, rfl, p6⟩
      refine thnF p6 ?_
      rintro _ s7 ⟨x, H7, I7, r7, y7, st7, n7⟩
      refine thnF (pg.run _ s7 _ H7 x u _ (I7.pinned (stat I7 n7) (T.obj _ _ st7)) r7 (step x H7 y7)) ?_
      rintro _ s8 ⟨σ8, H8, I8, wp8, q8⟩
      refine thnF (pt.run _ s8 σ8 H8 _ I8 q8) ?_
      rintro b s9 ⟨H9, I9, q9⟩
      have fin : ∀ {s' : Shared} {H' : Hp}, L2.Inv (X.blk s3 H3 sco ce fp) ([] ++ pinsAt fp s7.heap) σ8 H' s' → Nx H' → ∃ m, m < n ∧ ∃ i H', L2.Inv (X.blk s3 H3 sco ce fp) [] (wipe σ (own.map (·.2))) H' s' ∧ tn i s'.heap ∧ (∀ b ∈ fp, H' b = none) ∧ W i m H' := fun {s' H'} I' nx => by
        obtain ⟨m', lt, w'⟩ := less H' nx
        have kp : ∀ b ∈ fp, ∀ o, s7.heap.get? b = some o → s'.heap.get? b = some o ∧ H' b = none := fun b hb o e => by
          have z := I'.pin (b, o) (List.mem_append_right _ (List.mem_append_right _ (mem_pinsAt hb e)))
          exact ⟨z.1, z.2.1⟩
        have len : (wipe σ (own.map (·.2))).length = σ8.length := by rw [← wp8, wipe_length]
        refine ⟨m', lt, i + 1, H', (I'.unpinned (pins := [])).weak len (fun j v e => ?_), T.keep _ _ _ st7 fun b hb o e => (kp b hb o e).1, fun b hb => ?_, w'⟩
        · rw [← wp8] at e
          exact (wipe_some e).1
        · obtain ⟨o, e, _⟩ := T.obj _ _ st7 b hb
          exact (kp b hb o e).2
      cases b with
      | false =>
        rw [if_neg (by decide)] at q9 ⊢
        exact fin I9 q9
      | true =>
        rw [if_pos rfl] at q9 ⊢
        refine thnF (pk.run _ s9 σ8 H9 _ I9 q9) ?_
        rintro z s10 ⟨yk, H10, I10, r10, q10⟩
        refine thnF (pv.run _ s10 σ8 H10 _ I10 q10) ?_
        rintro z2 s11 ⟨yv, H11, I11, r11, es, k, b, hD, N, hz, nx⟩
        obtain rfl := N.y
        obtain rfl : z = Value.ref b := r10
        exact nd_dictSet (X := X.blk s3 H3 sco ce fp) (show X.A.units + 8 < cLine by omega) I11 hD N.ks N.at_ hz r11 fun s12 I12 => fin I12 nx
  exact codeAny_compStart_dict run (T.self X.A 0 _ _ _ st4 run)
theorem pe_ndc {ke ve tgt itr : PySem.Expr} {conds : List PySem.Expr} {sco : Scope} {own : List (Str × Nat)} {po : Pos} {wi : TI} {g : TG} {tt : TT} {tk tv : TE} (hu : X.A.units + 10 < cLine) (calm : X.calm = true) (nod : X.N.Nodup) (hi : PI X tgt itr wi) (ok : BlkOk X.N X.env.scope sco own)
    (hg : ∀ (s : Shared) (H : Hp) (C : Addr) (cl : List (Str × Addr)) (fp : List Addr), PG (X.blk s H sco (compEnvC sco cl C X.env) fp) tgt g)
    (ht : ∀ (s : Shared) (H : Hp) (C : Addr) (cl : List (Str × Addr)) (fp : List Addr), PTs (X.blk s H sco (compEnvC sco cl C X.env) fp) conds tt)
    (hk : ∀ (s : Shared) (H : Hp) (C : Addr) (cl : List (Str × Addr)) (fp : List Addr), PE (X.blk s H sco (compEnvC sco cl C X.env) fp) ke tk)
    (hv : ∀ (s : Shared) (H : Hp) (C : Addr) (cl : List (Str × Addr)) (fp : List Addr), PE (X.blk s H sco (compEnvC sco cl C X.env) fp) ve tv) (pl : ∀ x, foldedSetIterable itr X.env x = pure x := by intro _; rfl) :
    PE X (.DictComp ke ve [⟨tgt, itr, conds, 0⟩] sco po) (tNDc X.prog X.w X.K wi g tt tk tv (own.map (·.2))) := by
  constructor
  intro pins s σ H Q I h
  rw [arm_eval_DictComp]
  refine ndc_core hu calm nod I hi ok hg ht hk hv pl h ?_
  rintro D C s' m H' I' q ns ⟨f0, f1, f2, f3, f4, f5⟩
  exact ⟨m, ns, fun h'' sb => ⟨.ref D, H', I'.turned (t' := s'.toks) (fun b o hb e => (sb.2 b hb).trans e) f0 f1 f3 f4 f5, rfl, q⟩⟩
/-- over the keys, or the pairs, of a dict that is never written: by an invariant of how many are done -/
theorem ndc_by {P : Program} {w : World} {K : PySem.W.Frag} {J : It} {n : Nat} {g : TG} {tt : TT} {tk tv : TE} {vs : List Nat} {σ : L2.St} {H1 : Hp} {D : Addr} {Qd : Hp → Prop} (Pv : Nat → Hp → Prop) (h0 : Pv 0 (upd H1 D (dnO P w D [])))
    (go : ∀ i H, i < n → Pv i H → J.go i H) (stop : ∀ H, Pv n H → J.stop n H)
    (hs : ∀ i x H H', i < n → Pv i H → J.yld i H x H' → g x (wipe σ vs) H' fun σ2 H2 => wipe σ2 vs = wipe σ vs ∧ tt σ2 H2 fun b H3 =>
      if b = true then tk σ2 H3 fun y H4 => tv σ2 H4 fun z H5 => ∃ es k b, H5 D = some (dnO P w D es) ∧ NKey P w K H5 D y es k b ∧ es.length < sizeLine ∧ Pv (i + 1) (upd H5 D (dnO P w D (nPut es k b z))) else Pv (i + 1) H3)
    (hd : ∀ H, Pv n H → Qd H) :
    ∃ W : Nat → Nat → Hp → Prop, (∃ m, W 0 m (upd H1 D (dnO P w D []))) ∧ ∀ i m H, W i m H →
      (J.stop i H ∧ Qd H) ∨ (J.go i H ∧ ∃ Nx : Hp → Prop, (∀ H', Nx H' → ∃ m', m' < m ∧ W (i + 1) m' H') ∧ ∀ x H', J.yld i H x H' → g x (wipe σ vs) H' fun σ2 H2 => wipe σ2 vs = wipe σ vs ∧ tt σ2 H2 fun b H3 =>
        if b = true then tk σ2 H3 fun y H4 => tv σ2 H4 fun z H5 => ∃ es k b, H5 D = some (dnO P w D es) ∧ NKey P w K H5 D y es k b ∧ es.length < sizeLine ∧ Nx (upd H5 D (dnO P w D (nPut es k b z))) else Nx H3) := by
  refine ⟨fun i m H => m = n - i ∧ i ≤ n ∧ Pv i H, ⟨n, (Nat.sub_zero n).symm, Nat.zero_le _, h0⟩, ?_⟩
  rintro i m H ⟨rfl, hi, p⟩
  by_cases lt : i < n
  · exact .inr ⟨go i H lt p, Pv (i + 1), fun H' p' => ⟨n - (i + 1), by omega, rfl, lt, p'⟩, fun x H' y => hs i x H H' lt p y⟩
  · obtain rfl : i = n := by omega
    exact .inl ⟨stop H p, hd H p⟩
end
end Lm

namespace Lm
open PySem PySem.Spec PyProof.Rows L2
/-! ## Sums of sources as dicts -/
section
variable {K : PySem.W.Frag} {P : Program} {w : World} {a b d : Addr} {xs ys : List V} {o : Obj} {es : List NE}
theorem walk_zipT {n : Nat} (hn : n = min xs.length ys.length) : Walk (RZ.ItzT K a b) n (fun H => SqT K H a xs ∧ SqT K H b ys) (YPair (fun i => xs[i]?) (fun i => ys[i]?)) := by
  subst hn
  constructor
  · intro i H hi q
    have h1 : i < xs.length := by omega
    have h2 : i < ys.length := by omega
    exact ⟨xs, ys, xs[i], ys[i], q.1, q.2, List.getElem?_eq_getElem h1, List.getElem?_eq_getElem h2⟩
  · intro H q
    exact ⟨xs, ys, q.1, q.2, by omega⟩
  · rintro i H v H' _ q ⟨T, x, z, h1, h2, h3, h4, h5⟩
    exact ⟨T, x, z, h1, h2, h3, h4 xs q.1, h5 ys q.2⟩
theorem walk_n : Walk (Itn P w d o es) es.length (fun H => H d = some (.frz o (dnO P w d es))) (fun i H x H' => H' = H ∧ ∃ e, es[i]? = some e ∧ x = .ref e.2.1) :=
  ⟨fun _ _ hi q => ⟨q, hi⟩, fun _ q => ⟨q, Nat.le_refl _⟩, fun _ _ _ _ _ _ y => y⟩
theorem walk_p : Walk (Itp P w d o es) es.length (fun H => H d = some (.frz o (dnO P w d es))) (fun i H x H' => ∃ T e, es[i]? = some e ∧ x = .ref T ∧ H T = none ∧ H' = upd H T (.tup [.ref e.2.1, e.2.2])) :=
  ⟨fun _ _ hi q => ⟨q, hi⟩, fun _ q => ⟨q, Nat.le_refl _⟩, fun _ _ _ _ _ _ y => y⟩
/-- a comprehension of such a dict over a walk -/
theorem ndc_it {J : It} {n : Nat} {G : Hp → Prop} {Y : Nat → Hp → V → Hp → Prop} (wk : Walk J n G Y) {g : TG} {tt : TT} {tk tv : TE} {vs : List Nat} {σ : L2.St} {H1 : Hp} {D : Addr} {Qd : Hp → Prop} (Pv : Nat → Hp → Prop) (h0 : Pv 0 (upd H1 D (dnO P w D []))) (hG : ∀ i H, i ≤ n → Pv i H → G H)
    (hs : ∀ i x H H', i < n → Pv i H → Y i H x H' → g x (wipe σ vs) H' fun σ2 H2 => wipe σ2 vs = wipe σ vs ∧ tt σ2 H2 fun b H3 =>
      if b = true then tk σ2 H3 fun y H4 => tv σ2 H4 fun z H5 => ∃ es k b, H5 D = some (dnO P w D es) ∧ NKey P w K H5 D y es k b ∧ es.length < sizeLine ∧ Pv (i + 1) (upd H5 D (dnO P w D (nPut es k b z))) else Pv (i + 1) H3)
    (hd : ∀ H, Pv n H → Qd H) :
    ∃ W : Nat → Nat → Hp → Prop, (∃ m, W 0 m (upd H1 D (dnO P w D []))) ∧ ∀ i m H, W i m H →
      (J.stop i H ∧ Qd H) ∨ (J.go i H ∧ ∃ Nx : Hp → Prop, (∀ H', Nx H' → ∃ m', m' < m ∧ W (i + 1) m' H') ∧ ∀ x H', J.yld i H x H' → g x (wipe σ vs) H' fun σ2 H2 => wipe σ2 vs = wipe σ vs ∧ tt σ2 H2 fun b H3 =>
        if b = true then tk σ2 H3 fun y H4 => tv σ2 H4 fun z H5 => ∃ es k b, H5 D = some (dnO P w D es) ∧ NKey P w K H5 D y es k b ∧ es.length < sizeLine ∧ Nx (upd H5 D (dnO P w D (nPut es k b z))) else Nx H3) :=
  ndc_by Pv h0 (fun i H hi p => wk.goes i H hi (hG i H (Nat.le_of_lt hi) p)) (fun H p => wk.stops H (hG n H (Nat.le_refl _) p)) (fun i x H H' hi p y => hs i x H H' hi p (wk.yields i H x H' hi (hG i H (Nat.le_of_lt hi) p) y)) hd
end
theorem units10 {A : Around} {k : Nat} (hr : Room k A) : A.units + 10 < cLine := by
  have := hr.un
  omega
/-- what stands in it, its keys and shares -/
def EsOf (es : List NE) (S : Al.Sh Str) : Prop := es.map (fun x => (x.1, x.2.2)) = S.map fun x => (nk3 x.1, V.int x.2)
theorem EsOf.len {es : List NE} {S : Al.Sh Str} (h : EsOf es S) : es.length = S.length := by
  have := congrArg List.length h
  rw [List.length_map, List.length_map] at this
  exact this
theorem EsOf.nil : EsOf [] [] := rfl
theorem EsOf.at_ {es : List NE} {S : Al.Sh Str} (h : EsOf es S) {i : Nat} {e : NE} (he : es[i]? = some e) : ∃ x, S[i]? = some x ∧ e.1 = nk3 x.1 ∧ e.2.2 = .int x.2 := by
  have z := congrArg (fun l : List (NestedKey × V) => l[i]?) h
  simp only [List.getElem?_map, he, Option.map_some] at z
  cases q : S[i]? with
  | none =>
    rw [q] at z
    cases z
  | some x =>
    rw [q] at z
    have z := Option.some.inj z
    exact ⟨x, rfl, congrArg Prod.fst z, congrArg Prod.snd z⟩
theorem EsOf.cons {e : NE} {es : List NE} {x : K3 × Int} {S : Al.Sh Str} (h : EsOf (e :: es) (x :: S)) : (e.1 = nk3 x.1 ∧ e.2.2 = .int x.2) ∧ EsOf es S := by
  unfold EsOf at h
  rw [List.map_cons, List.map_cons, List.cons.injEq] at h
  exact ⟨⟨congrArg Prod.fst h.1, congrArg Prod.snd h.1⟩, h.2⟩
theorem EsOf.get {k : K3} : ∀ {es : List NE} {S : Al.Sh Str}, EsOf es S → nGet es (nk3 k) = if Al.has S k = true then some (.int (Al.at0 S k)) else none
  | [], [], _ => rfl
  | [], _ :: _, h => by simp [EsOf] at h
  | _ :: _, [], h => by simp [EsOf] at h
  | e :: es, x :: S, h => by
    obtain ⟨⟨h1, h2⟩, h3⟩ := h.cons
    unfold nGet Al.has Al.at0
    rw [List.find?_cons, List.any_cons, h1]
    by_cases c : x.1 = k
    · rw [decide_eq_true (show nk3 x.1 = nk3 k by rw [c]), decide_eq_true c, Bool.true_or, if_pos rfl, if_pos c]
      exact congrArg some h2
    · rw [decide_eq_false (fun z => c (nk3_inj z)), decide_eq_false c, Bool.false_or, if_neg c]
      exact EsOf.get h3
theorem EsOf.getD {k : K3} {es : List NE} {S : Al.Sh Str} (h : EsOf es S) : (nGet es (nk3 k)).getD (.int 0) = .int (Al.at0 S k) := by
  rw [h.get]
  split
  · rfl
  · rename_i c
    rw [Al.at0_none (fun z => c (Al.has_iff.mpr z))]
    rfl
theorem EsOf.repl {k : K3} {v : Int} : ∀ {es : List NE} {S : Al.Sh Str}, EsOf es S → EsOf (es.map fun x => if x.1 = nk3 k then (x.1, x.2.1, V.int v) else x) (S.map fun x => if x.1 = k then (x.1, v) else x)
  | [], [], _ => rfl
  | [], _ :: _, h => by simp [EsOf] at h
  | _ :: _, [], h => by simp [EsOf] at h
  | e :: es, x :: S, h => by
    obtain ⟨⟨h1, h2⟩, h3⟩ := h.cons
    have ih := EsOf.repl (k := k) (v := v) h3
    unfold EsOf at ih ⊢
    rw [List.map_cons, List.map_cons, List.map_cons, List.map_cons, ih]
    congr 1
    by_cases c : x.1 = k
    · rw [if_pos c, if_pos (by rw [h1, c])]
      dsimp only
      rw [h1]
    · rw [if_neg c, if_neg (fun z => c (nk3_inj (h1.symm.trans z))), h1, h2]
theorem EsOf.put {k : K3} {b : Addr} {v : Int} {es : List NE} {S : Al.Sh Str} (h : EsOf es S) : EsOf (nPut es (nk3 k) b (.int v)) (Al.put S k v) := by
  unfold nPut Al.put
  rw [h.get]
  by_cases c : Al.has S k = true
  · rw [if_pos c, if_pos c]
    exact h.repl
  · rw [if_neg c, if_neg c, if_neg (by decide)]
    unfold EsOf at h ⊢
    rw [List.map_append, List.map_append, h]
    rfl
/-- a dict that is never written -/
def ShF (P : Program) (w : World) (K : PySem.W.Frag) (H : Hp) (a : Addr) (S : Al.Sh Str) : Prop := ∃ o es, H a = some (.frz o (dnO P w a es)) ∧ KsOk K H es ∧ EsOf es S
/-- one that is being made -/
def ShM (P : Program) (w : World) (K : PySem.W.Frag) (H : Hp) (a : Addr) (S : Al.Sh Str) : Prop := ∃ es, H a = some (dnO P w a es) ∧ KsOk K H es ∧ EsOf es S
theorem ShF.tk {P : Program} {w : World} {K : PySem.W.Frag} {H H' : Hp} {a : Addr} {S : Al.Sh Str} (h : ShF P w K H a S) (t : Tk H H') : ShF P w K H' a S := let ⟨o, es, h1, h2, h3⟩ := h; ⟨o, es, t.frz _ _ _ h1, h2.tk t, h3⟩
theorem nk32 {k : K3} {l : K2} (h : nk3 k = nk2 l) : False := by
  unfold nk3 nk2 at h
  injection h with h
  injection h with _ h
  injection h with _ h
  cases h
theorem NKat.at3 {K : PySem.W.Frag} {H : Hp} {k : K3} {a : Addr} (h : NKat K H (nk3 k) a) : At3 K H k a := by
  rcases h with ⟨l, e, h⟩ | ⟨l, e, h⟩
  · rw [nk3_inj e]
    exact h
  · exact (nk32 e).elim
theorem NKat.at2 {K : PySem.W.Frag} {H : Hp} {k : K2} {a : Addr} (h : NKat K H (nk2 k) a) : At2 K H k a := by
  rcases h with ⟨l, e, h⟩ | ⟨l, e, h⟩
  · exact (nk32 e.symm).elim
  · rw [nk2_inj e]
    exact h
theorem NKat.of3 {K : PySem.W.Frag} {H : Hp} {k : K3} {a : Addr} (h : At3 K H k a) : NKat K H (nk3 k) a := .inl ⟨k, rfl, h⟩
theorem NKat.of2 {K : PySem.W.Frag} {H : Hp} {k : K2} {a : Addr} (h : At2 K H k a) : NKat K H (nk2 k) a := .inr ⟨k, rfl, h⟩
/-- the flips of sources, by (name, bool) -/
def FlR (P : Program) (w : World) (K : PySem.W.Frag) (H : Hp) (f : Addr) (fl : Str → Bool → Al.Sh Str) (dom : Str → Bool → Prop) : Prop :=
  ∃ es, Rd H f (dnO P w f es) ∧ KsOk K H es ∧ ∀ n b, dom n b → ∃ d, nGet es (nk2 (n, b)) = some (.ref d) ∧ ShF P w K H d (fl n b)
theorem FlR.same {P : Program} {w : World} {K : PySem.W.Frag} {H H' : Hp} {f : Addr} {fl : Str → Bool → Al.Sh Str} {dom : Str → Bool → Prop} (h : FlR P w K H f fl dom) (s : Same H H') : FlR P w K H' f fl dom := by
  obtain ⟨es, h1, h2, h3⟩ := h
  refine ⟨es, ?_, h2.tk (.same s), fun n b hd => ?_⟩
  · rcases h1 with h1 | ⟨o, h1⟩
    · exact .inl (s _ _ h1)
    · exact .inr ⟨o, s _ _ h1⟩
  · obtain ⟨d, e1, e2⟩ := h3 n b hd
    exact ⟨d, e1, e2.tk (.same s)⟩
/-! ### what the defs promise -/
def spPw (K : PySem.W.Frag) (F : List Int → List Int → List Int) : Sp := fun vs H Q _ => ∃ (p q : Addr) (xs ys : List Int), vs = [.ref p, .ref q] ∧ SqT K H p (xs.map V.int) ∧ SqT K H q (ys.map V.int) ∧ xs.length ≤ 12 ∧ ∀ H' r, Same H H' → H r = none → H' r = some (.tup ((F xs ys).map V.int)) → Q (.ref r) H'
def spPn (K : PySem.W.Frag) : Sp := fun vs H Q _ => ∃ (p : Addr) (xs : List Int), vs = [.ref p] ∧ SqT K H p (xs.map V.int) ∧ xs.length ≤ 12 ∧ ∀ H' r, Same H H' → H r = none → H' r = some (.tup ((Al.ng xs).map V.int)) → Q (.ref r) H'
def Small (S : Al.Sh Str) : Prop := S.length ≤ 8000000
def spSh1 (P : Program) (w : World) (K : PySem.W.Frag) (F : Al.Sh Str → Al.Sh Str) : Sp := fun vs H Q _ => ∃ (a : Addr) (S : Al.Sh Str), vs = [.ref a] ∧ ShF P w K H a S ∧ Small S ∧ Al.ND S ∧ ∀ H' r, Same H H' → H r = none → ShF P w K H' r (F S) → Q (.ref r) H'
def spSummed (P : Program) (w : World) (K : PySem.W.Frag) : Sp := fun vs H Q _ => ∃ (a b : Addr) (S T : Al.Sh Str), vs = [.ref a, .ref b] ∧ ShF P w K H a S ∧ ShF P w K H b T ∧ S.length + T.length ≤ 8000000 ∧ Al.ND S ∧ Al.ND T ∧ ∀ H' r, Same H H' → H r = none → ShF P w K H' r (Al.summed S T) → Q (.ref r) H'
/-- over all its members, one by one -/
theorem foldl_take {α β : Type} (f : β → α → β) (a : β) (l : List α) {i : Nat} {x : α} (h : l[i]? = some x) : (l.take (i + 1)).foldl f a = f ((l.take i).foldl f a) x := by
  rw [List.take_add_one, h, List.foldl_append]
  rfl
end Lm
namespace Lm
open PySem PySem.Spec PyProof.Rows L2
theorem sm_put {H H1 : Hp} {D : Addr} {o : HO} (s : Same H H1) (hD : H D = none) : Same H (upd H1 D o) := fun b u e => by
  rw [upd_ne (ne_of_none e hD)]
  exact s b u e
theorem sm_new {H H1 : Hp} {T : Addr} {o : HO} (s : Same H H1) (hT : H1 T = none) : Same H (upd H1 T o) := fun b u e => by
  rw [upd_ne (ne_of_none (s b u e) hT)]
  exact s b u e
theorem take_map {α : Type} {l : List α} {i : Nat} {x : α} (f : α → V) (h : l[i]? = some x) : (l.take (i + 1)).map f = (l.take i).map f ++ [f x] := by
  rw [List.take_add_one, h, List.map_append]
  rfl
theorem map_at {α : Type} {l : List α} {i : Nat} {u : V} {f : α → V} (h : (l.map f)[i]? = some u) : ∃ x, l[i]? = some x ∧ u = f x := by
  rw [List.getElem?_map] at h
  obtain ⟨x, h1, h2⟩ := Option.map_eq_some_iff.mp h
  exact ⟨x, h1, h2.symm⟩
theorem few_take {α : Type} {l : List α} {i n : Nat} (f : α → V) (h : i ≤ n) (hn : n < sizeLine) : ((l.take i).map f).length < sizeLine := by
  rw [List.length_map, List.length_take]
  omega
end Lm
namespace Lm
open PySem PySem.Spec PyProof.Rows L2
theorem unp2 {K : PySem.W.Frag} {p : Addr} {c m : V} {i j : Nat} {σ : L2.St} {H : Hp} {N : L2.St → Hp → Prop} (e : SqT K H p [c, m]) (q : N ((σ.set i (some c)).set j (some m)) H) : gTup K 2 (gCons (gName i) (gCons (gName j) gNil)) (.ref p) σ H N := ⟨p, _, rfl, e, rfl, _, _, rfl, _, _, rfl, rfl, q⟩
/-- ((a, b, c), d) -/
theorem unp31 {K : PySem.W.Frag} {p r : Addr} {a b c m : V} {i j k l : Nat} {σ : L2.St} {H : Hp} {N : L2.St → Hp → Prop} (e : SqT K H p [.ref r, m]) (e2 : SqT K H r [a, b, c]) (q : N ((((σ.set i (some a)).set j (some b)).set k (some c)).set l (some m)) H) :
    gTup K 2 (gCons (gTup K 3 (gCons (gName i) (gCons (gName j) (gCons (gName k) gNil)))) (gCons (gName l) gNil)) (.ref p) σ H N := ⟨p, _, rfl, e, rfl, _, _, rfl, r, _, rfl, e2, rfl, _, _, rfl, _, _, rfl, _, _, rfl, rfl, _, _, rfl, rfl, q⟩
end Lm
namespace Al
variable {N : Type} [DecidableEq N]
theorem at0_at {S : Sh N} (h : ND S) {k : Kq N} {v : Int} (hm : (k, v) ∈ S) : has S k = true ∧ at0 S k = v := by
  refine ⟨has_iff.mpr (List.mem_map_of_mem (f := (·.1)) hm), ?_⟩
  induction S with
  | nil => cases hm
  | cons x S ih =>
    obtain ⟨h1, h2⟩ := h.tail
    unfold at0
    rcases List.mem_cons.mp hm with q | q
    · rw [if_pos (by rw [← q]), ← q]
    · rw [if_neg (fun z => h2 _ q z.symm)]
      exact ih h1 q
theorem wn_snoc {S : Sh N} {i : Nat} {x : Kq N × Int} (h : S[i]? = some x) : wn (S.take (i + 1)) = if x.2 ≠ 0 then wn (S.take i) ++ [x] else wn (S.take i) := by
  unfold wn
  rw [List.take_add_one, h, List.filter_append]
  by_cases c : x.2 = 0
  · simp [c]
  · simp [c]
theorem wn_le (S : Sh N) : (wn S).length ≤ S.length := List.length_filter_le _ _
/-- a key that comes for the first time is put behind the others -/
theorem put_take {S T : Sh N} {F : Kq N × Int → Kq N × Int} (nd : (S.map fun x => (F x).1).Nodup) {i : Nat} {x : Kq N × Int} (h : S[i]? = some x) (hT : ∀ y ∈ T, ∃ z ∈ S.take i, y.1 = (F z).1) : put T (F x).1 (F x).2 = T ++ [F x] := by
  unfold put
  rw [if_neg]
  intro c
  obtain ⟨y, hy, e⟩ := List.mem_map.mp (has_iff.mp c)
  obtain ⟨z, hz, e2⟩ := hT y hy
  obtain ⟨j, hj⟩ := List.mem_iff_getElem?.mp hz
  rw [List.getElem?_take] at hj
  split at hj
  · rename_i lt
    have h1 : (S.map fun x => (F x).1)[j]? = some (F z).1 := by rw [List.getElem?_map, hj]; rfl
    have h2 : (S.map fun x => (F x).1)[i]? = some (F x).1 := by rw [List.getElem?_map, h]; rfl
    have e3 : (F z).1 = (F x).1 := e2.symm.trans e
    rw [e3] at h1
    have hji : j < (S.map fun x => (F x).1).length := (List.getElem?_eq_some_iff.mp h1).1
    have := (List.getElem?_inj hji nd).mp (h1.trans h2.symm)
    omega
  · cases hj
end Al
namespace Lm
open PySem PySem.Spec PyProof.Rows L2
theorem EsOf.mem {es : List NE} {S : Al.Sh Str} (h : EsOf es S) (nd : Al.ND S) {i : Nat} {e : NE} (he : es[i]? = some e) : ∃ x, S[i]? = some x ∧ e.1 = nk3 x.1 ∧ nGet es e.1 = some (.int x.2) := by
  obtain ⟨x, h1, h2, h3⟩ := h.at_ he
  obtain ⟨a, b⟩ := Al.at0_at nd (List.mem_of_getElem? h1)
  exact ⟨x, h1, h2, by rw [h2, h.get, if_pos a, b]⟩
end Lm
namespace Lm
open PySem PySem.Spec PyProof.Rows L2
theorem pe_ngetP {X : Cx} {o i : PySem.Expr} {pos : Pos} {td ty : TE} (P : Program) (w : World) (K : PySem.W.Frag) (hu : X.A.units + 10 < cLine) (ho : PE X o td) (hi : PE X i ty) (hs : NoSl i) (hP : X.prog = P := by rfl) (hw : X.w = w := by rfl) (hK : X.K = K := by rfl) : PE X (.Subscript o i pos) (tNGet P w K td ty) := by
  subst hP hw hK
  exact pe_nget hu ho hi hs
end Lm
namespace Lm
open PySem PySem.Spec PyProof.Rows L2
theorem sw_trueD {ke ve : PySem.Expr} {gs : List PySem.Comprehension} {sco : Scope} {po py : Pos} {y : Str} {l : Nat} {env : Env} (hk : env.scope.kind = .function) (hy : env.scope.names.lookup y = some .local) (hl : (py.line == po.line) = true)
    (own : (sco.names.any fun (n, k) => n == y && (k == .local || k == .cell)) = false) : swapsWith (.DictComp ke ve gs sco po) (some (.Name y py)) l env = pure true := by
  have e1 : env.kindOf y = some .local := hy
  have e2 : env.blockKind = .function := by
    unfold Env.blockKind
    rw [hk]
    rfl
  unfold swapsWith
  simp only [e2, e1, own, Expr.pos, hl]
  rfl
/-- name = {..: .. for ..} on one line, the name a local -/
theorem ps_setDc {X : Cx} {n : Nat} {y : Str} {py : Pos} {ke ve tgt itr : PySem.Expr} {conds : List PySem.Expr} {sco : Scope} {own : List (Str × Nat)} {po so : Pos} {wi : TI} {g : TG} {tt : TT} {tk tv : TE} (hu : X.A.units + 10 < cLine) (calm : X.calm = true) (nod : X.N.Nodup) (hy : X.N[n]? = some y) (hyl : X.env.scope.names.lookup y = some .local)
    (hsw : swapsWith (.DictComp ke ve [⟨tgt, itr, conds, 0⟩] sco po) (some (.Name y py)) so.line X.env = pure true) (hi : PI X tgt itr wi) (ok : BlkOk X.N X.env.scope sco own)
    (hg : ∀ (s : Shared) (H : Hp) (C : Addr) (cl : List (Str × Addr)) (fp : List Addr), PG (X.blk s H sco (compEnvC sco cl C X.env) fp) tgt g)
    (ht : ∀ (s : Shared) (H : Hp) (C : Addr) (cl : List (Str × Addr)) (fp : List Addr), PTs (X.blk s H sco (compEnvC sco cl C X.env) fp) conds tt)
    (hk : ∀ (s : Shared) (H : Hp) (C : Addr) (cl : List (Str × Addr)) (fp : List Addr), PE (X.blk s H sco (compEnvC sco cl C X.env) fp) ke tk)
    (hv : ∀ (s : Shared) (H : Hp) (C : Addr) (cl : List (Str × Addr)) (fp : List Addr), PE (X.blk s H sco (compEnvC sco cl C X.env) fp) ve tv) (pl : ∀ x, foldedSetIterable itr X.env x = pure x := by intro _; rfl) :
    PS X (.Assign [.Name y py] (.DictComp ke ve [⟨tgt, itr, conds, 0⟩] sco po) so) (tAsg (tNDc X.prog X.w X.K wi g tt tk tv (own.map (·.2))) (gName n)) := by
  constructor
  intro pins s σ H D I h
  rw [exec_Assign_Name_used _ _ _ _ hsw]
  refine wpAny_bind (wpAny_standAt (wpAny_bind ?_))
  show wpAny _ X.A (do let _ ← comprehension (.DictComp ke ve [⟨tgt, itr, conds, 0⟩] sco po) sco X.env (firstIterPos [⟨tgt, itr, conds, 0⟩] po) newDict false (eval itr X.env) (some (assign (.Name y py) X.env))) _ _ s
  have h2 : tNDc X.prog X.w X.K wi g tt tk tv (own.map (·.2)) σ H (fun x H1 => gName n x σ H1 D.nx) := h
  refine wpAny_bind (thn (ndc_core (Qf := fun _ s' => SP X pins D .next s') hu calm nod I hi ok hg ht hk hv pl h2 ?_) fun _ s' hq => wpAny_pure (wpAny_pure hq))
  rintro L C s' m H' I' q ns ⟨f0, f1, f2, f3, f4, f5⟩
  show wpAny _ _ (assign (.Name y py) X.env (.ref L)) _ _ _
  refine wpAny_assign_Name (store_ok2 (v := V.ref L) I' nod hy (.inl hyl) rfl ?_ (.inr hyl))
  rintro s2 I2 ⟨a, sb, ha⟩
  have apart : C ≠ a := by
    rcases ha with z | z
    · rw [z]
      exact f1
    · exact fun e => f4 y a z e.symm
  exact ⟨m, ns.sameBut sb apart, fun h3 sb3 => ⟨_, H', I2.turned (t' := s2.toks) (fun b o hb e => (sb3.2 b hb).trans e) f0 f1 f3 f4 f5, q⟩⟩
end Lm
namespace Al
variable {N : Type} [DecidableEq N]
theorem put_le (S : Sh N) (k : Kq N) (v : Int) : (put S k v).length ≤ S.length + 1 := by
  unfold put
  split
  · simp
  · simp
theorem addAll_le (S T : Sh N) : (addAll S T).length ≤ S.length + T.length := by
  induction T generalizing S with
  | nil => exact Nat.le_refl _
  | cons x T ih =>
    have h1 := ih (bump S x.1 x.2)
    have h2 : (bump S x.1 x.2).length ≤ S.length + 1 := put_le S x.1 _
    show (addAll (bump S x.1 x.2) T).length ≤ _
    rw [List.length_cons]
    omega
theorem addAll_take {S T : Sh N} {i : Nat} {x : Kq N × Int} (h : T[i]? = some x) : addAll S (T.take (i + 1)) = bump (addAll S (T.take i)) x.1 x.2 := by
  unfold addAll
  rw [List.take_add_one, h, List.foldl_append]
  rfl
theorem nd_take {S : Sh N} (h : ND S) (i : Nat) : ND (S.take i) := by
  unfold ND at h ⊢
  rw [List.map_take]
  exact h.sublist (List.take_sublist _ _)
end Al
namespace Al
variable {N : Type} [DecidableEq N]
def fsz (fl : N → Bool → Sh N) (S : Sh N) : Nat := (S.map fun x => (fl x.1.1 x.1.2.1).length).sum
theorem fsz_cons (fl : N → Bool → Sh N) (x : Kq N × Int) (S : Sh N) : fsz fl (x :: S) = (fl x.1.1 x.1.2.1).length + fsz fl S := by simp [fsz]
theorem fsz_append (fl : N → Bool → Sh N) (S T : Sh N) : fsz fl (S ++ T) = fsz fl S + fsz fl T := by simp [fsz, List.map_append, List.sum_append]
theorem fsz_take {fl : N → Bool → Sh N} {S : Sh N} {i : Nat} {x : Kq N × Int} (h : S[i]? = some x) : fsz fl (S.take i) + (fl x.1.1 x.1.2.1).length ≤ fsz fl S := by
  have e : S = S.take i ++ (x :: S.drop (i + 1)) := by
    have hi := (List.getElem?_eq_some_iff.mp h)
    obtain ⟨lt, e⟩ := hi
    rw [← e]
    exact (List.take_append_drop i S).symm.trans (by rw [List.drop_eq_getElem_cons lt])
  have e2 : fsz fl S = fsz fl (S.take i) + ((fl x.1.1 x.1.2.1).length + fsz fl (S.drop (i + 1))) := by
    conv => lhs; rw [e]
    rw [fsz_append, fsz_cons]
  omega
theorem flipOne_take {a F : Sh N} {q : List Int} {c : Int} {i : Nat} {y : Kq N × Int} (h : F[i]? = some y) : flipOne a (F.take (i + 1)) q c = bump (flipOne a (F.take i) q c) (y.1.1, y.1.2.1, su y.1.2.2 q) (c * y.2 / unit) := by
  unfold flipOne
  rw [List.take_add_one, h, List.foldl_append]
  rfl
theorem flipAll_take {fl : N → Bool → Sh N} {a S : Sh N} {i : Nat} {x : Kq N × Int} (h : S[i]? = some x) : flipAll fl a (S.take (i + 1)) = flipOne (flipAll fl a (S.take i)) (fl x.1.1 x.1.2.1) x.1.2.2 x.2 := by
  unfold flipAll
  rw [List.take_add_one, h, List.foldl_append]
  rfl
theorem turnOn_take {s : Int} {p : List Int} {a S : Sh N} {i : Nat} {x : Kq N × Int} (h : S[i]? = some x) : turnOn s p a (S.take (i + 1)) = put (turnOn s p a (S.take i)) (x.1.1, x.1.2.1, ad x.1.2.2 p) (s * x.2) := by
  unfold turnOn
  rw [List.take_add_one, h, List.foldl_append]
  rfl
theorem flipOne_le {F : Sh N} {q : List Int} {c : Int} : ∀ a : Sh N, (flipOne a F q c).length ≤ a.length + F.length := by
  induction F with
  | nil => exact fun a => Nat.le_refl _
  | cons y F ih =>
    intro a
    have h1 := ih (bump a (y.1.1, y.1.2.1, su y.1.2.2 q) (c * y.2 / unit))
    have h2 : (bump a (y.1.1, y.1.2.1, su y.1.2.2 q) (c * y.2 / unit)).length ≤ a.length + 1 := put_le _ _ _
    show (flipOne (bump a _ _) F q c).length ≤ _
    rw [List.length_cons]
    omega
theorem flipAll_le {fl : N → Bool → Sh N} {S : Sh N} : ∀ a : Sh N, (flipAll fl a S).length ≤ a.length + fsz fl S := by
  induction S with
  | nil => exact fun a => Nat.le_refl _
  | cons x S ih =>
    intro a
    have h1 := ih (flipOne a (fl x.1.1 x.1.2.1) x.1.2.2 x.2)
    have h2 := flipOne_le (F := fl x.1.1 x.1.2.1) (q := x.1.2.2) (c := x.2) a
    show (flipAll fl (flipOne a _ _ _) S).length ≤ _
    rw [fsz_cons]
    omega
theorem turnOn_le {s : Int} {p : List Int} {S : Sh N} : ∀ a : Sh N, (turnOn s p a S).length ≤ a.length + S.length := by
  induction S with
  | nil => exact fun a => Nat.le_refl _
  | cons x S ih =>
    intro a
    have h1 := ih (put a (x.1.1, x.1.2.1, ad x.1.2.2 p) (s * x.2))
    have h2 := put_le a (x.1.1, x.1.2.1, ad x.1.2.2 p) (s * x.2)
    show (turnOn s p (put a _ _) S).length ≤ _
    rw [List.length_cons]
    omega
theorem ND.flipOne {F : Sh N} {q : List Int} {c : Int} : ∀ {a : Sh N}, ND a → ND (flipOne a F q c) := by
  induction F with
  | nil => exact fun h => h
  | cons y F ih => exact fun h => ih (h.bump _ _)
theorem ND.flipAll {fl : N → Bool → Sh N} {S : Sh N} : ∀ {a : Sh N}, ND a → ND (flipAll fl a S) := by
  induction S with
  | nil => exact fun h => h
  | cons x S ih => exact fun h => ih h.flipOne
theorem ND.nil : ND ([] : Sh N) := by simp [ND]
end Al
namespace Lm
open PySem PySem.Spec PyProof.Rows L2
/-- what is asked of what stands in dicts -/
structure InS (S : Al.Sh Str) : Prop where
  nd : Al.ND S
  pw : ∀ x ∈ S, x.1.2.2.length ≤ 12
  sz : ∀ x ∈ S, x.2.natAbs < 2 ^ 400000
def spFlipped (P : Program) (w : World) (K : PySem.W.Frag) : Sp := fun vs H Q _ => ∃ (a f : Addr) (S : Al.Sh Str) (fl : Str → Bool → Al.Sh Str) (dom : Str → Bool → Prop), vs = [.ref a, .ref f] ∧ ShF P w K H a S ∧ FlR P w K H f fl dom ∧ InS S ∧ (∀ x ∈ S, dom x.1.1 x.1.2.1) ∧ (∀ n b, dom n b → InS (fl n b)) ∧ Al.fsz fl S ≤ 8000000 ∧
  ∀ H' r, Same H H' → H r = none → ShF P w K H' r (Al.flipped fl S) → Q (.ref r) H'
def spTurned (P : Program) (w : World) (K : PySem.W.Frag) : Sp := fun vs H Q _ => ∃ (a p : Addr) (S : Al.Sh Str) (s : Int) (pw : List Int), vs = [.ref a, .int s, .ref p] ∧ ShF P w K H a S ∧ InS S ∧ Small S ∧ SqT K H p (pw.map V.int) ∧ (s = 1 ∨ s = -1) ∧ ∀ H' r, Same H H' → H r = none → ShF P w K H' r (Al.turned S s pw) → Q (.ref r) H'
end Lm

namespace Lm
open PySem PySem.Spec PyProof.Rows L2
open C8 (Cal Mak)
/-! ## Own classes that hold data; moves -/
structure ObC (K : PySem.W.Frag) (mg : Str → Option Value) (x : Str) (fs : List Str) : Prop where
  m : mg x = some (.ref (He.ga K x))
  cl : Cls K (He.ga K x)
  na : ∀ f ∈ fs, NoAttr K (He.ga K x) f
def mvF (o : Bool) (s : Int) (p q : Addr) : List (Str × V) := [("over", .bl o), ("sign", .int s), ("powers", .ref p), ("shares", .ref q)]
/-- the object at a is this move -/
def MvAt (P : Program) (w : World) (K : PySem.W.Frag) (H : Hp) (a : Addr) (m : Al.Mv Str) : Prop := ∃ dx p q, H a = some (.ins (He.ga K "Move") dx (mvF m.over m.sign p q)) ∧ SqT K H p (m.pw.map V.int) ∧ ShF P w K H q m.sh
theorem MvAt.keep {P : Program} {w : World} {K : PySem.W.Frag} {H H' : Hp} {a : Addr} {m : Al.Mv Str} (h : MvAt P w K H a m) (t : Tk H H') (k : ∀ dx fs, H a = some (.ins (He.ga K "Move") dx fs) → H' a = some (.ins (He.ga K "Move") dx fs)) : MvAt P w K H' a m := by
  obtain ⟨dx, p, q, h1, h2, h3⟩ := h
  exact ⟨dx, p, q, k _ _ h1, sq_tk h2 t, h3.tk t⟩
theorem MvAt.same {P : Program} {w : World} {K : PySem.W.Frag} {H H' : Hp} {a : Addr} {m : Al.Mv Str} (h : MvAt P w K H a m) (s : Same H H') : MvAt P w K H' a m := h.keep (.same s) fun _ _ e => s _ _ e
/-- the classes' __init__ of four -/
def spMvI (K : PySem.W.Frag) : Sp := fun vs H Q _ => ∃ (x dx p q : Addr) (o : Bool) (s : Int), vs = [.ref x, .bl o, .int s, .ref p, .ref q] ∧ H x = some (.ins (He.ga K "Move") dx []) ∧ Q .non (upd H x (.ins (He.ga K "Move") dx (mvF o s p q)))
/-- what is asked of a move that is led through flips -/
structure MIn (fl : Str → Bool → Al.Sh Str) (dom : Str → Bool → Prop) (B : Nat) (m : Al.Mv Str) : Prop where
  s : InS m.sh
  f : InS (Al.flipped fl m.sh)
  d : ∀ x ∈ m.sh, dom x.1.1 x.1.2.1
  l : m.sh.length ≤ B
  z : Al.fsz fl m.sh ≤ B
  sg : m.sign = 1 ∨ m.sign = -1
  pw : m.pw.length ≤ 12
def spJoined (P : Program) (w : World) (K : PySem.W.Frag) : Sp := fun vs H Q _ => ∃ (l f : Addr) (n : Nat) (as : List Addr) (ms : List (Al.Mv Str)) (fl : Str → Bool → Al.Sh Str) (dom : Str → Bool → Prop) (B : Nat), vs = [.ref l, .int (n : Int), .ref f] ∧ SqL K H l (as.map V.ref) ∧ as.length = ms.length ∧ ms.length ≤ 6 ∧
  (∀ (i : Nat) a m, as[i]? = some a → ms[i]? = some m → MvAt P w K H a m) ∧ FlR P w K H f fl dom ∧ (∀ nm b, dom nm b → InS (fl nm b)) ∧ (∀ m ∈ ms, MIn fl dom B m) ∧ 6 * B ≤ 8000000 ∧ n ≤ 12 ∧
  ∀ H' r, Same H H' → H r = none → MvAt P w K H' r (Al.joined fl n ms) → Q (.ref r) H'
def kindS (fl : Str → Bool → Al.Sh Str) (m : Al.Mv Str) : Str := if m.over = true then (if (Al.joined fl m.pw.length [m, m]).sh.isEmpty = true then "mirroring" else "glide") else if (m.pw.any fun p => p != 0) = true then "turn" else if m.sign = -1 then "half turn" else if m.sh.isEmpty = true then "nothing" else "shift"
def spKind (P : Program) (w : World) (K : PySem.W.Frag) : Sp := fun vs H Q _ => ∃ (a f : Addr) (m : Al.Mv Str) (fl : Str → Bool → Al.Sh Str) (dom : Str → Bool → Prop) (B : Nat), vs = [.ref a, .ref f] ∧ MvAt P w K H a m ∧ FlR P w K H f fl dom ∧ (∀ nm b, dom nm b → InS (fl nm b)) ∧ MIn fl dom B m ∧ 6 * B ≤ 8000000 ∧ ∀ H', Same H H' → Q (.str (kindS fl m)) H'
theorem rep_zero {K : PySem.W.Frag} {H : Hp} {l : Addr} {n : Nat} {Q : VK} (hl : SqT K H l [.int 0]) (hn : n ≤ 12) (k : ∀ p H', Same H H' → SqT K H' p ((List.replicate n (0 : Int)).map V.int) → Q (.ref p) H') : rRep0 K (.ref l) (.int (n : Int)) H Q ∨ rRepT K (.ref l) (.int (n : Int)) H Q := by
  rcases (by omega : n = 0 ∨ n = 1 ∨ 2 ≤ n) with rfl | rfl | h2
  · exact .inl ⟨l, _, _, rfl, rfl, hl, by decide, by decide, .inr ⟨by simp, rfl, fun p hp => k p _ (Same.new hp) (SqT.of upd_same)⟩⟩
  · exact .inl ⟨l, _, _, rfl, rfl, hl, by decide, by decide, .inl ⟨.inr rfl, k l H (Same.refl H) hl⟩⟩
  · refine .inr ⟨l, _, _, rfl, rfl, hl, by simp, by omega, by omega, by decide, fun p hp => k p _ (Same.new hp) (SqT.of ?_)⟩
    have e : (List.replicate ((n : Int)).toNat [V.int 0]).flatten = (List.replicate n (0 : Int)).map V.int := by
      rw [Int.toNat_natCast]
      clear k h2 hn
      induction n with
      | zero => rfl
      | succ n ih =>
        rw [List.replicate_succ, List.replicate_succ, List.flatten_cons, ih]
        rfl
    rw [← e]
    exact upd_same
end Lm
namespace Al
variable {N : Type} [DecidableEq N]
def jT (fl : N → Bool → Sh N) (n : Nat) (ms : List (Mv N)) (i : Nat) : Js N := (ms.reverse.take i).foldl (jStep fl) ⟨false, 1, List.replicate n 0, []⟩
theorem jT_take {fl : N → Bool → Sh N} {n : Nat} {ms : List (Mv N)} {i : Nat} {m : Mv N} (h : ms.reverse[i]? = some m) : jT fl n ms (i + 1) = jStep fl (jT fl n ms i) m := by
  unfold jT
  rw [List.take_add_one, h, List.foldl_append]
  rfl
theorem jT_all (fl : N → Bool → Sh N) (n : Nat) (ms : List (Mv N)) : jT fl n ms ms.length = jAll fl n ms := by
  unfold jT jAll
  rw [List.take_of_length_le (by rw [List.length_reverse]; exact Nat.le_refl _)]
theorem flipped_le (fl : N → Bool → Sh N) (S : Sh N) : (flipped fl S).length ≤ fsz fl S := by
  have h1 := wn_le (flipAll fl [] S)
  have h2 := flipAll_le (fl := fl) (S := S) []
  rw [List.length_nil] at h2
  unfold flipped
  omega
theorem turned_le (S : Sh N) (s : Int) (p : List Int) : (turned S s p).length ≤ S.length := by
  have h := turnOn_le (s := s) (p := p) (S := S) []
  rw [List.length_nil] at h
  unfold turned
  omega
theorem ND.turnOn {s : Int} {p : List Int} {S : Sh N} : ∀ {a : Sh N}, ND a → ND (turnOn s p a S) := by
  induction S with
  | nil => exact fun h => h
  | cons x S ih => exact fun h => ih (h.put _ _)
theorem ND.turned (S : Sh N) (s : Int) (p : List Int) : ND (turned S s p) := ND.turnOn ND.nil
theorem zip_le {p q : List Int} {F : Int → Int → Int} (h : p.length ≤ 12) : (List.zipWith F p q).length ≤ 12 := by
  rw [List.length_zipWith]
  omega
/-- what holds of it on its way -/
theorem jT_ok {fl : N → Bool → Sh N} {n B : Nat} {ms : List (Mv N)} (hn : n ≤ 12) (h : ∀ m ∈ ms, m.sh.length ≤ B ∧ fsz fl m.sh ≤ B ∧ (m.sign = 1 ∨ m.sign = -1)) : ∀ i, ((jT fl n ms i).sign = 1 ∨ (jT fl n ms i).sign = -1) ∧ (jT fl n ms i).pw.length ≤ 12 ∧ ND (jT fl n ms i).tot ∧ (jT fl n ms i).tot.length ≤ i * B := by
  intro i
  induction i with
  | zero =>
    refine ⟨.inl rfl, ?_, ND.nil, Nat.zero_le _⟩
    show (List.replicate n (0 : Int)).length ≤ 12
    rw [List.length_replicate]
    exact hn
  | succ i ih =>
    obtain ⟨h1, h2, h3, h4⟩ := ih
    cases q : ms.reverse[i]? with
    | none =>
      have e : jT fl n ms (i + 1) = jT fl n ms i := by
        unfold jT
        rw [List.take_add_one, q]
        simp
      rw [e]
      refine ⟨h1, h2, h3, Nat.le_trans h4 (Nat.mul_le_mul_right _ (Nat.le_succ _))⟩
    | some m =>
      rw [jT_take q]
      obtain ⟨m1, m2, m3⟩ := h m (List.mem_reverse.mp (List.mem_of_getElem? q))
      refine ⟨?_, ?_, ND.addAll h3, ?_⟩
      · show (jT fl n ms i).sign * m.sign = 1 ∨ (jT fl n ms i).sign * m.sign = -1
        rcases h1 with z | z <;> rcases m3 with z' | z' <;> rw [z, z'] <;> decide
      · show (if (jT fl n ms i).over = true then su (jT fl n ms i).pw m.pw else ad (jT fl n ms i).pw m.pw).length ≤ 12
        split
        · exact zip_le h2
        · exact zip_le h2
      · have l1 := addAll_le (jT fl n ms i).tot (turned (if (jT fl n ms i).over = true then flipped fl m.sh else m.sh) (jT fl n ms i).sign (jT fl n ms i).pw)
        have l2 := turned_le (if (jT fl n ms i).over = true then flipped fl m.sh else m.sh) (jT fl n ms i).sign (jT fl n ms i).pw
        have l3 : (if (jT fl n ms i).over = true then flipped fl m.sh else m.sh).length ≤ B := by
          split
          · exact Nat.le_trans (flipped_le _ _) m2
          · exact m1
        show (addAll _ _).length ≤ _
        rw [Nat.succ_mul]
        omega
end Al
namespace Lm
open PySem PySem.Spec PyProof.Rows L2
theorem pe_nnewP {X : Cx} {pos : Pos} (P : Program) (w : World) (hP : X.prog = P := by rfl) (hw : X.w = w := by rfl) : PE X (.Dict [] [] pos) (tNNew P w) := by
  subst hP hw
  exact pe_nnew
end Lm
namespace Lm
open PySem PySem.Spec PyProof.Rows L2
theorem KeptBut.tk {H H' : Hp} {D : Addr} {u : HO} (h : KeptBut D H H') (hD : H D = some u) (mu : Mut (some u)) : Tk H H' :=
  ⟨fun b xs e => h b _ e (fun z => by rw [z, hD] at e; cases e; exact mu), fun b o v e => h b _ e (fun z => by rw [z, hD] at e; cases e; exact mu)⟩
theorem KeptBut.sm {H0 H H' : Hp} {D : Addr} (h : KeptBut D H H') (s : Same H0 H) (hD : H0 D = none) : Same H0 H' := fun b o e => h b o (s b o e) (ne_of_none e hD)
theorem KeptBut.put {H H1 : Hp} {D : Addr} {o : HO} (h : KeptBut D H H1) : KeptBut D H (upd H1 D o) := fun b u e n => by
  rw [upd_ne n]
  exact h b u e n
theorem KeptBut.then {H H1 H2 : Hp} {D : Addr} (h : KeptBut D H H1) (s : Same H1 H2) : KeptBut D H H2 := fun b u e n => s b u (h b u e n)
theorem ShM.keep {P : Program} {w : World} {K : PySem.W.Frag} {H H' : Hp} {D : Addr} {S : Al.Sh Str} (h : ShM P w K H D S) (s : Same H H') : ShM P w K H' D S := let ⟨es, e, k, z⟩ := h; ⟨es, s _ _ e, k.tk (.same s), z⟩
theorem ShM.mut {P : Program} {w : World} {K : PySem.W.Frag} {H : Hp} {D : Addr} {S : Al.Sh Str} (h : ShM P w K H D S) : ∃ u, H D = some u ∧ Mut (some u) := let ⟨_, e, _⟩ := h; ⟨_, e, trivial⟩
theorem bl_ne {a b : Bool} : (!decide (V.bl a = V.bl b)) = (a != b) := by
  cases a <;> cases b <;> rfl
end Lm

namespace Al
variable {N : Type} [DecidableEq N]
/-! ## How many members sums have, how great these are -/
/-- sum of the sizes of shares -/
def n1 (S : Sh N) : Nat := (S.map fun x => x.2.natAbs).sum
theorem n1_cons (x : Kq N × Int) (S : Sh N) : n1 (x :: S) = x.2.natAbs + n1 S := by simp [n1]
theorem n1_append (S T : Sh N) : n1 (S ++ T) = n1 S + n1 T := by simp [n1, List.map_append, List.sum_append]
theorem n1_mem {S : Sh N} {x : Kq N × Int} (h : x ∈ S) : x.2.natAbs ≤ n1 S := by
  induction S with
  | nil => cases h
  | cons y S ih =>
    rw [n1_cons]
    rcases List.mem_cons.mp h with q | q
    · rw [q]
      omega
    · have := ih q
      omega
theorem n1_put {S : Sh N} (h : ND S) (k : Kq N) (v : Int) : n1 (put S k v) + (at0 S k).natAbs = n1 S + v.natAbs := by
  unfold put
  by_cases c : has S k = true
  · rw [if_pos c]
    have c2 := has_iff.mp c
    clear c
    induction S with
    | nil => cases c2
    | cons x S ih =>
      obtain ⟨h1, h2⟩ := h.tail
      rw [List.map_cons, n1_cons, n1_cons]
      by_cases e : x.1 = k
      · rw [if_pos e]
        have z : (S.map fun y => if y.1 = k then (y.1, v) else y) = S := by
          refine (List.map_congr_left fun y hy => ?_).trans (List.map_id S)
          exact if_neg (fun q => h2 y hy (q.trans e.symm))
        rw [z]
        have a : at0 (x :: S) k = x.2 := by
          unfold at0
          exact if_pos e
        rw [a]
        dsimp only
        omega
      · rw [if_neg e]
        have a : at0 (x :: S) k = at0 S k := by
          conv => lhs; unfold at0
          exact if_neg e
        rw [a]
        have c3 : k ∈ S.map (·.1) := by
          rw [List.map_cons, List.mem_cons] at c2
          exact c2.resolve_left fun q => e q.symm
        have := ih h1 c3
        omega
  · rw [if_neg c, n1_append, n1_cons, at0_none (fun z => c (has_iff.mpr z))]
    show n1 S + (v.natAbs + 0) + 0 = _
    omega
theorem n1_bump {S : Sh N} (h : ND S) (k : Kq N) (v : Int) : n1 (bump S k v) ≤ n1 S + v.natAbs := by
  have z := n1_put h k (at0 S k + v)
  have y := Int.natAbs_add_le (at0 S k) v
  unfold bump
  omega
theorem n1_addAll {T : Sh N} : ∀ {S : Sh N}, ND S → n1 (addAll S T) ≤ n1 S + n1 T := by
  induction T with
  | nil => exact fun _ => Nat.le_refl _
  | cons x T ih =>
    intro S h
    have a := ih (h.bump x.1 x.2)
    have b := n1_bump h x.1 x.2
    show n1 (addAll (bump S x.1 x.2) T) ≤ _
    rw [n1_cons]
    omega
theorem n1_wn (S : Sh N) : n1 (wn S) ≤ n1 S := by
  induction S with
  | nil => exact Nat.le_refl _
  | cons x S ih =>
    unfold wn at ih ⊢
    rw [List.filter_cons, n1_cons]
    split
    · rw [n1_cons]
      omega
    · omega
theorem n1_negated (S : Sh N) : n1 (negated S) = n1 S := by
  unfold negated n1
  rw [List.map_map]
  congr 1
  refine List.map_congr_left fun x _ => ?_
  show (-x.2).natAbs = _
  omega
theorem n1_halved (S : Sh N) : n1 (halved S) ≤ n1 S := by
  induction S with
  | nil => exact Nat.le_refl _
  | cons x S ih =>
    unfold halved at ih ⊢
    rw [List.map_cons, n1_cons, n1_cons]
    have : (x.2 / 2).natAbs ≤ x.2.natAbs := by omega
    dsimp only
    omega
theorem n1_turnOn {s : Int} (hs : s = 1 ∨ s = -1) {p : List Int} {S : Sh N} : ∀ {a : Sh N}, ND a → n1 (turnOn s p a S) ≤ n1 a + n1 S := by
  induction S with
  | nil => exact fun _ => Nat.le_refl _
  | cons x S ih =>
    intro a h
    have i1 := ih (h.put (x.1.1, x.1.2.1, ad x.1.2.2 p) (s * x.2))
    have i2 := n1_put h (x.1.1, x.1.2.1, ad x.1.2.2 p) (s * x.2)
    have i3 : (s * x.2).natAbs = x.2.natAbs := by
      rcases hs with z | z <;> rw [z] <;> omega
    show n1 (turnOn s p (put a _ _) S) ≤ _
    rw [n1_cons]
    omega
theorem div_le (z : Int) : (z / 4096).natAbs ≤ z.natAbs := by omega
theorem n1_flipOne {F : Sh N} {q : List Int} {c : Int} : ∀ {a : Sh N}, ND a → n1 (flipOne a F q c) ≤ n1 a + c.natAbs * n1 F := by
  induction F with
  | nil => exact fun _ => Nat.le_refl _
  | cons y F ih =>
    intro a h
    have i1 := ih (h.bump (y.1.1, y.1.2.1, su y.1.2.2 q) (c * y.2 / unit))
    have i2 := n1_bump h (y.1.1, y.1.2.1, su y.1.2.2 q) (c * y.2 / unit)
    have i3 : (c * y.2 / unit).natAbs ≤ c.natAbs * y.2.natAbs := by
      rw [← Int.natAbs_mul]
      exact div_le _
    show n1 (flipOne (bump a _ _) F q c) ≤ _
    rw [n1_cons, Nat.mul_add]
    omega
theorem n1_flipAll {fl : N → Bool → Sh N} {m : Nat} {S : Sh N} (hF : ∀ x ∈ S, n1 (fl x.1.1 x.1.2.1) ≤ m) : ∀ {a : Sh N}, ND a → n1 (flipAll fl a S) ≤ n1 a + n1 S * m := by
  induction S with
  | nil => exact fun _ => Nat.le_add_right _ _
  | cons x S ih =>
    intro a h
    have i1 := ih (fun y hy => hF y (List.mem_cons_of_mem _ hy)) (h.flipOne (F := fl x.1.1 x.1.2.1) (q := x.1.2.2) (c := x.2))
    have i2 := n1_flipOne (F := fl x.1.1 x.1.2.1) (q := x.1.2.2) (c := x.2) h
    have i3 : x.2.natAbs * n1 (fl x.1.1 x.1.2.1) ≤ x.2.natAbs * m := Nat.mul_le_mul_left _ (hF x List.mem_cons_self)
    show n1 (flipAll fl (flipOne a _ _ _) S) ≤ _
    rw [n1_cons, Nat.add_mul]
    omega
theorem n1_flipped {fl : N → Bool → Sh N} {m : Nat} {S : Sh N} (hF : ∀ x ∈ S, n1 (fl x.1.1 x.1.2.1) ≤ m) : n1 (flipped fl S) ≤ n1 S * m := by
  have a := n1_flipAll hF ND.nil
  have b := n1_wn (flipAll fl [] S)
  have c : n1 ([] : Sh N) = 0 := rfl
  unfold flipped
  omega
theorem n1_jT {fl : N → Bool → Sh N} {n m b : Nat} {ms : List (Mv N)} (h : ∀ x ∈ ms, n1 x.sh ≤ b ∧ n1 x.sh * m ≤ b ∧ (∀ y ∈ x.sh, n1 (fl y.1.1 y.1.2.1) ≤ m)) (hj : ∀ i, ((jT fl n ms i).sign = 1 ∨ (jT fl n ms i).sign = -1) ∧ ND (jT fl n ms i).tot) : ∀ i, n1 (jT fl n ms i).tot ≤ i * b := by
  intro i
  induction i with
  | zero => exact Nat.zero_le _
  | succ i ih =>
    cases q : ms.reverse[i]? with
    | none =>
      have e : jT fl n ms (i + 1) = jT fl n ms i := by
        unfold jT
        rw [List.take_add_one, q]
        simp
      rw [e]
      exact Nat.le_trans ih (Nat.mul_le_mul_right _ (Nat.le_succ _))
    | some x =>
      rw [jT_take q]
      obtain ⟨m1, m2, m3⟩ := h x (List.mem_reverse.mp (List.mem_of_getElem? q))
      obtain ⟨h1, h3⟩ := hj i
      have l1 := n1_addAll (T := turned (if (jT fl n ms i).over = true then flipped fl x.sh else x.sh) (jT fl n ms i).sign (jT fl n ms i).pw) h3
      have l2 := n1_turnOn (p := (jT fl n ms i).pw) (S := if (jT fl n ms i).over = true then flipped fl x.sh else x.sh) h1 ND.nil
      have l3 : n1 (if (jT fl n ms i).over = true then flipped fl x.sh else x.sh) ≤ b := by
        split
        · exact Nat.le_trans (n1_flipped m3) m2
        · exact m1
      have c : n1 ([] : Sh N) = 0 := rfl
      show n1 (addAll _ _) ≤ _
      unfold turned at l1 ⊢
      rw [Nat.succ_mul]
      omega
/-! ### what a reading depends on: few keys -/
def Ev.Bd (e : Ev N) (g : Fn N → Rat) (s : Nat) : Prop := ∃ U : List (Kq N), (∀ k ∈ U, e.good k) ∧ U.length ≤ s ∧ (U.map fun k => (e.fl k.1 k.2.1).length).sum ≤ s ∧ ∀ f f', (∀ k ∈ U, f k = f' k) → g f = g f'
/-- of a reading and of the one of what is flipped -/
structure Ev.W (e : Ev N) (g : Fn N → Rat) (s : Nat) : Prop where
  a : e.Bd g s
  b : e.Bd (fun f => g (e.C f)) s
variable {e : Ev N}
theorem Ev.Bd.mono {g : Fn N → Rat} {s t : Nat} (h : e.Bd g s) (hs : s ≤ t) : e.Bd g t := let ⟨U, a, b, c, d⟩ := h; ⟨U, a, by omega, by omega, d⟩
theorem Ev.W.mono {g : Fn N → Rat} {s t : Nat} (h : e.W g s) (hs : s ≤ t) : e.W g t := ⟨h.a.mono hs, h.b.mono hs⟩
theorem Ev.Bd.add {g g' : Fn N → Rat} {s t : Nat} {c d : Rat} (h : e.Bd g s) (h' : e.Bd g' t) : e.Bd (fun f => c * g f + d * g' f) (s + t) := by
  obtain ⟨U, a1, a2, a3, a4⟩ := h
  obtain ⟨V, b1, b2, b3, b4⟩ := h'
  refine ⟨U ++ V, fun k hk => ?_, by rw [List.length_append]; omega, by rw [List.map_append, List.sum_append]; omega, fun f f' q => ?_⟩
  · rcases List.mem_append.mp hk with z | z
    · exact a1 k z
    · exact b1 k z
  · dsimp only
    rw [a4 f f' fun k hk => q k (List.mem_append_left _ hk), b4 f f' fun k hk => q k (List.mem_append_right _ hk)]
theorem Bd_sh {g : Fn N → Rat} {s : Nat} {p : List Int} (h : e.Bd g s) (hp : p.length = e.n) : e.Bd (fun f => g (sh p f)) s := by
  obtain ⟨U, a1, a2, a3, a4⟩ := h
  refine ⟨U.map fun k => (k.1, k.2.1, ad k.2.2 p), fun k hk => ?_, by rw [List.length_map]; exact a2, by rw [List.map_map]; exact a3, fun f f' q => a4 _ _ fun k hk => q _ (List.mem_map_of_mem (f := fun k : Kq N => ((k.1, k.2.1, ad k.2.2 p) : Kq N)) hk)⟩
  obtain ⟨u, hu, rfl⟩ := List.mem_map.mp hk
  exact good_tk (a1 u hu) hp
theorem Ev.Bd.congr {g g' : Fn N → Rat} {s : Nat} (h : e.Bd g s) (q : ∀ f, g' f = g f) : e.Bd g' s := by
  obtain ⟨U, a1, a2, a3, a4⟩ := h
  exact ⟨U, a1, a2, a3, fun f f' z => by rw [q, q, a4 f f' z]⟩
/-- shifted back, of what is flipped behind a shift -/
theorem C_back (O : e.Ok) {p : List Int} (hp : p.length = e.n) (f : Fn N) : ∀ k, e.good k → sh p (e.C f) k = e.C (sh (ng p) f) k := fun k hk => by
  rw [C_sh O (ng_len hp) f k hk]
  show e.C f (k.1, k.2.1, ad k.2.2 p) = e.C f (k.1, k.2.1, su k.2.2 (ng p))
  have z : ad k.2.2 p = su k.2.2 (ng p) := pow_ext (ad_len hk.2 hp) (su_len hk.2 (ng_len hp)) (fun i a b h1 h2 => by simp only [ad_get, su_get, ng_get, List.getElem?_replicate, Option.bind_eq_some_iff, Option.map_eq_some_iff] at h1 h2; grind)
  rw [z]
theorem C_shC (O : e.Ok) {p : List Int} (hp : p.length = e.n) (f : Fn N) : ∀ k, e.good k → e.C (sh p (e.C f)) k = sh (ng p) f k := fun k hk => by
  rw [C_cong O (C_back O hp f) k hk, O.cc _ k hk]
theorem W_sh (O : e.Ok) {g : Fn N → Rat} {s : Nat} {p : List Int} (h : e.W g s) (lg : e.Loc g) (hp : p.length = e.n) : e.W (fun f => g (sh p f)) s := ⟨Bd_sh h.a hp, (Bd_sh h.b (ng_len hp)).congr fun f => lg _ _ (C_back O hp f)⟩
theorem W_csh (O : e.Ok) {g : Fn N → Rat} {s : Nat} {p : List Int} (h : e.W g s) (lg : e.Loc g) (hp : p.length = e.n) : e.W (fun f => g (e.C (sh p f))) s := ⟨Bd_sh h.b hp, (Bd_sh h.a (ng_len hp)).congr fun f => lg _ _ (C_shC O hp f)⟩
theorem W_act (O : e.Ok) {g : Fn N → Rat} {s : Nat} {A : Af N} (h : e.W g s) (lg : e.Loc g) (hp : A.p.length = e.n) : e.W (fun f => g (e.act A f)) s := by
  unfold Ev.act
  cases A.o
  · exact W_sh O h lg hp
  · exact W_csh O h lg hp
theorem Ev.W.add {g g' : Fn N → Rat} {s t : Nat} {c d : Rat} (h : e.W g s) (h' : e.W g' t) : e.W (fun f => c * g f + d * g' f) (s + t) := ⟨h.a.add h'.a, h.b.add h'.b⟩
theorem Ev.W.congr {g g' : Fn N → Rat} {s : Nat} (h : e.W g s) (q : ∀ f, g' f = g f) : e.W g' s := ⟨h.a.congr q, h.b.congr fun f => q _⟩
theorem W_one : e.W (e.one : Af N).g 0 := ⟨⟨[], (fun _ h => by cases h), Nat.le_refl _, Nat.le_refl _, fun _ _ _ => rfl⟩, ⟨[], (fun _ h => by cases h), Nat.le_refl _, Nat.le_refl _, fun _ _ _ => rfl⟩⟩
theorem W_cp (O : e.Ok) {A B : Af N} {s t : Nat} (hA : A.p.length = e.n) (wA : e.W A.g s) (wB : e.W B.g t) (lB : e.Loc B.g) : e.W (e.cp A B).g (s + t) := by
  refine (Ev.W.add (c := 1) (d := A.s) wA (W_act O wB lB hA)).congr fun f => ?_
  show A.g f + A.s * B.g (e.act A f) = 1 * A.g f + A.s * B.g (e.act A f)
  grind
theorem W_fold (O : e.Ok) {s : Nat} : ∀ {l : List (Af N)} {A : Af N} {t : Nat}, e.V A ∨ A = e.one → e.W A.g t → (∀ B ∈ l, e.V B ∧ e.W B.g s) → A.p.length = e.n → e.W (l.foldl e.cp A).g (t + l.length * s)
  | [], A, t, _, w, _, _ => w.mono (by simp)
  | B :: l, A, t, _, w, h, hp => by
    obtain ⟨vB, wB⟩ := h B List.mem_cons_self
    have w2 := W_cp O hp w wB vB.loc
    -- only the length is used further
    have key : ∀ (l : List (Af N)) (A : Af N) (t : Nat), e.W A.g t → (∀ B ∈ l, e.V B ∧ e.W B.g s) → A.p.length = e.n → e.W (l.foldl e.cp A).g (t + l.length * s) := by
      intro l
      induction l with
      | nil => exact fun A t w _ _ => w.mono (by simp)
      | cons D l ih =>
        intro A t w h hp
        obtain ⟨vD, wD⟩ := h D List.mem_cons_self
        have := ih (e.cp A D) (t + s) (W_cp O hp w wD vD.loc) (fun B hB => h B (List.mem_cons_of_mem _ hB)) (cp_len hp vD.len)
        refine this.mono ?_
        rw [List.length_cons, Nat.succ_mul]
        omega
    have := key l (e.cp A B) (t + s) w2 (fun D hD => h D (List.mem_cons_of_mem _ hD)) (cp_len hp vB.len)
    refine this.mono ?_
    rw [List.length_cons, Nat.succ_mul]
    omega
/-- so many members has a sum without nothing in it -/
theorem Bd_sub {X : Sh N} (nd : ND X) (nz : ∀ x ∈ X, x.2 ≠ 0) {s : Nat} (h : e.Bd (L X) s) : X.length ≤ s ∧ fsz e.fl X ≤ s := by
  obtain ⟨U, a1, a2, a3, a4⟩ := h
  have sub : ∀ x ∈ X, x.1 ∈ U := fun x hx => by
    refine Classical.byContradiction fun c => ?_
    have z := a4 (fun k => if k = x.1 then 1 else 0) (fun _ => 0 * 0) fun k hk => by
      have ne : k ≠ x.1 := fun q => c (by rw [← q]; exact hk)
      rw [if_neg ne]
      grind
    have y : L X (fun _ => (0 : Rat) * 0) = 0 := by
      rw [L_smul]
      grind
    rw [y] at z
    have w : ∀ (X : Sh N), ND X → x ∈ X → L X (fun k => if k = x.1 then 1 else 0) = x.2 := by
      intro X
      induction X with
      | nil => exact fun _ h => by cases h
      | cons u X ih =>
        intro nd hx
        obtain ⟨h1, h2⟩ := nd.tail
        rw [L_cons]
        rcases List.mem_cons.mp hx with q | q
        · subst q
          rw [if_pos rfl]
          have : L X (fun k => if k = x.1 then (1 : Rat) else 0) = L X fun _ => 0 * 0 := L_congr fun y hy => by
            rw [if_neg (h2 y hy)]
            grind
          rw [this, L_smul]
          grind
        · rw [if_neg (fun c => h2 x q c.symm), ih h1 q]
          grind
    rw [w X nd hx] at z
    exact nz x hx (by exact_mod_cast z)
  have gen : ∀ (X : Sh N) (U : List (Kq N)), ND X → (∀ x ∈ X, x.1 ∈ U) → X.length ≤ U.length ∧ fsz e.fl X ≤ (U.map fun k => (e.fl k.1 k.2.1).length).sum := by
    intro X
    induction X with
    | nil => exact fun U _ _ => ⟨Nat.zero_le _, Nat.zero_le _⟩
    | cons x X ih =>
      intro U nd sub
      obtain ⟨h1, h2⟩ := nd.tail
      have hx := sub x List.mem_cons_self
      obtain ⟨i1, i2⟩ := ih (U.erase x.1) h1 fun y hy => (List.mem_erase_of_ne (h2 y hy)).mpr (sub y (List.mem_cons_of_mem _ hy))
      have l1 := List.length_erase_of_mem hx
      have l0 : 0 < U.length := List.length_pos_of_mem hx
      have pm := List.perm_cons_erase hx
      have l2 : (U.map fun k => (e.fl k.1 k.2.1).length).sum = (e.fl x.1.1 x.1.2.1).length + ((U.erase x.1).map fun k => (e.fl k.1 k.2.1).length).sum := by
        rw [(pm.map _).sum_nat, List.map_cons, List.sum_cons]
      rw [List.length_cons, fsz_cons]
      omega
  obtain ⟨g1, g2⟩ := gen X U nd sub
  omega
end Al

namespace Al
variable {N : Type} [DecidableEq N]
/-! ## Lines, one behind the other -/
inductive Fm where
  | free | thr | along | across | frm | is_ | on | about | amid
  deriving DecidableEq
structure Ln (N : Type) where
  mir : Bool
  name : N
  fm : Fm
  oth : List N
def Ln.row (l : Ln N) : List N := match l.fm, l.oth with
  | .is_, r => r
  | .frm, [a, b] => [b, a, b]
  | .about, [a, b] => [b, a, b]
  | _, _ => []
structure Pst (N : Type) where
  ev : Ev N
  mv : N → Mv N
  ns : List (Bool × N)
def newF (e : Ev N) (mv : N → Mv N) (loose : List N) (l : Ln N) : Bool → Sh N := match l.mir, l.fm, l.oth with
  | true, .free, _ => fMir e.n (spin loose l.name) l.name
  | false, .free, _ => fPeg e.n l.name
  | _, .on, a :: _ => fOn e.n l.name (mv a)
  | _, _, _ => fun _ => []
def newB (l : Ln N) : Bool → Bool := match l.mir, l.fm with
  | true, .free => fun b => !b
  | false, .free => fun _ => true
  | _, .on => fun b => !b
  | _, _ => fun _ => false
def newE (loose : List N) (st : Pst N) (l : Ln N) : Ev N := st.ev.ext l.name st.ns.length (newF st.ev st.mv loose l) (newB l)
def newM (loose : List N) (st : Pst N) (l : Ln N) : Mv N :=
  if l.row ≠ [] then joined (newE loose st l).fl st.ev.n (l.row.map st.mv)
  else match l.mir, l.fm, l.oth with
  | true, .thr, p :: _ => mThr (newE loose st l).fl (-1) (spin loose l.name) (st.mv p)
  | true, .along, a :: p :: _ => mThr (newE loose st l).fl (st.mv a).sign (st.mv a).pw (st.mv p)
  | true, .across, a :: p :: _ => mThr (newE loose st l).fl (-(st.mv a).sign) (st.mv a).pw (st.mv p)
  | true, _, _ => mFree st.ev.n (spin loose l.name) l.name
  | false, .amid, p :: q :: _ => mAmid st.ev.n (st.mv p) (st.mv q)
  | false, _, _ => mPeg st.ev.n l.name
def Pst.step (loose : List N) (st : Pst N) (l : Ln N) : Pst N := ⟨newE loose st l, fun a => if a = l.name then newM loose st l else st.mv a, st.ns ++ [(l.mir, l.name)]⟩
def Pst.init (n : Nat) : Pst N := ⟨⟨n, fun _ _ => [], fun _ _ => False, fun _ => 0⟩, fun _ => ⟨false, 1, [], []⟩, []⟩
/-- a line that can stand behind those of these names -/
inductive LOk (ns : List (Bool × N)) : Ln N → Prop where
  | free (mir : Bool) (nm : N) : LOk ns ⟨mir, nm, .free, []⟩
  | thr (nm p : N) (hp : (false, p) ∈ ns) : LOk ns ⟨true, nm, .thr, [p]⟩
  | along (nm a p : N) (ha : (true, a) ∈ ns) (hp : (false, p) ∈ ns) : LOk ns ⟨true, nm, .along, [a, p]⟩
  | across (nm a p : N) (ha : (true, a) ∈ ns) (hp : (false, p) ∈ ns) : LOk ns ⟨true, nm, .across, [a, p]⟩
  | frmM (nm a b : N) (ha : (true, a) ∈ ns) (hb : (true, b) ∈ ns) : LOk ns ⟨true, nm, .frm, [a, b]⟩
  | frmP (nm p a : N) (hp : (false, p) ∈ ns) (ha : (true, a) ∈ ns) : LOk ns ⟨false, nm, .frm, [p, a]⟩
  | is_ (mir : Bool) (nm a : N) (row : List N) (hr : Pal row a) (ha : (mir, a) ∈ ns) (hk : ∀ x ∈ row, ∃ k, (k, x) ∈ ns) (h5 : row.length ≤ 5) : LOk ns ⟨mir, nm, .is_, row⟩
  | on (nm a : N) (ha : (true, a) ∈ ns) : LOk ns ⟨false, nm, .on, [a]⟩
  | about (nm p q : N) (hp : (false, p) ∈ ns) (hq : (false, q) ∈ ns) : LOk ns ⟨false, nm, .about, [p, q]⟩
  | amid (nm p q : N) (hp : (false, p) ∈ ns) (hq : (false, q) ∈ ns) : LOk ns ⟨false, nm, .amid, [p, q]⟩
def fac (l : Ln N) : Nat := match l.fm with
  | .free => 1
  | .is_ => 5
  | _ => 3
/-- of a name's move, behind i lines -/
structure Nm (e : Ev N) (i s b : Nat) (k : Bool) (u : Mv N) : Prop where
  m : e.M i u
  o : u.over = k
  w : e.W (L u.sh) s
  z : ∀ x ∈ u.sh, x.2 ≠ 0
  n : n1 u.sh < 2 ^ b
theorem Nm.mono {e : Ev N} {i j s t b c : Nat} {k : Bool} {m : Mv N} (h : Nm e i s b k m) (hi : i ≤ j) (hs : s ≤ t) (hb : b ≤ c) : Nm e j t c k m := ⟨h.m.mono hi, h.o, h.w.mono hs, h.z, Nat.lt_of_lt_of_le h.n (Nat.pow_le_pow_right (by decide) hb)⟩
structure Iv (loose : List N) (st : Pst N) (s b : Nat) : Prop where
  ok : st.ev.Ok
  n : st.ev.n = loose.length
  kn : ∀ a c, st.ev.kn a c → ∃ k, (k, a) ∈ st.ns
  mv : ∀ k a, (k, a) ∈ st.ns → Nm st.ev (st.ns.length - 1) s b k (st.mv a)
  fl : ∀ a c, st.ev.kn a c → n1 (st.ev.fl a c) < 2 ^ b ∧ (∀ x ∈ st.ev.fl a c, x.2 ≠ 0)
  s1 : 1 ≤ s
  b1 : 14 ≤ b
section
variable {e : Ev N} {nm : N} {i : Nat} {F : Bool → Sh N} {B : Bool → Bool}
theorem ext_Bd (hn : ∀ b, ¬ e.kn nm b) {g : Fn N → Rat} {s : Nat} (h : e.Bd g s) : (e.ext nm i F B).Bd g s := by
  obtain ⟨U, a1, a2, a3, a4⟩ := h
  refine ⟨U, fun k hk => ext_good hn (a1 k hk), a2, ?_, a4⟩
  have : (U.map fun k => ((e.ext nm i F B).fl k.1 k.2.1).length) = U.map fun k => (e.fl k.1 k.2.1).length := List.map_congr_left fun k hk => by
    have : (e.ext nm i F B).fl k.1 k.2.1 = e.fl k.1 k.2.1 := if_neg (kn_ne hn (a1 k hk).1)
    rw [this]
  rw [this]
  exact a3
theorem ext_W (hn : ∀ b, ¬ e.kn nm b) {g : Fn N → Rat} {s : Nat} (h : e.W g s) (lg : e.Loc g) : (e.ext nm i F B).W g s := ⟨ext_Bd hn h.a, (ext_Bd hn h.b).congr fun f => lg _ _ fun k hk => ext_C hn f hk⟩
theorem ext_Nm (hn : ∀ b, ¬ e.kn nm b) {j s b : Nat} {k : Bool} {m : Mv N} (h : Nm e j s b k m) : Nm (e.ext nm i F B) j s b k m := ⟨ext_M hn h.m, h.o, ext_W hn h.w (G_loc h.m.g), h.z, h.n⟩
theorem C_mir {sp : List Int} (f : Fn N) (b : Bool) (r : List Int) : (e.ext nm i (fMir e.n sp nm) fun b => !b).C f (nm, b, r) = f (nm, false, su (ng sp) r) := by
  show (1 / 4096 : Rat) * L (if nm = nm then fMir e.n sp nm b else e.fl nm b) _ = _
  rw [if_pos rfl]
  unfold fMir
  rw [L_cons, L_nil]
  show (1 / 4096 : Rat) * (((4096 : Int) : Rat) * f (nm, false, su (ng sp) r) + 0) = _
  have : ((4096 : Int) : Rat) = 4096 := rfl
  rw [this]
  grind
theorem C_peg (f : Fn N) (b : Bool) (r : List Int) : (e.ext nm i (fPeg e.n nm) fun _ => true).C f (nm, b, r) = f (nm, !b, su (still e.n) r) := by
  show (1 / 4096 : Rat) * L (if nm = nm then fPeg e.n nm b else e.fl nm b) _ = _
  rw [if_pos rfl]
  unfold fPeg
  rw [L_cons, L_nil]
  show (1 / 4096 : Rat) * (((4096 : Int) : Rat) * f (nm, !b, su (still e.n) r) + 0) = _
  have : ((4096 : Int) : Rat) = 4096 := rfl
  rw [this]
  grind
theorem Bd_one {g : Fn N → Rat} {k : Kq N} {c : Rat} {s : Nat} (gk : e.good k) (hs : 1 ≤ s) (hf : (e.fl k.1 k.2.1).length ≤ s) (h : ∀ f, g f = c * f k) : e.Bd g s := ⟨[k], fun x hx => by
  rw [List.mem_singleton] at hx
  rw [hx]
  exact gk, hs, by simpa using hf, fun f f' q => by rw [h, h, q k List.mem_cons_self]⟩
theorem L_one (k : Kq N) (v : Int) (f : Fn N) : L [(k, v)] f = v * f k := by
  rw [L_cons, L_nil]
  grind
theorem still_len {n : Nat} : (still n).length = n := List.length_replicate
theorem one_lt {b : Nat} (hb : 14 ≤ b) {v : Nat} (hv : v < 16384) : v < 2 ^ b := Nat.lt_of_lt_of_le hv (Nat.pow_le_pow_right (n := 2) (by decide) hb : 2 ^ 14 ≤ 2 ^ b)
theorem nm_free (O : e.Ok) (hn : ∀ b, ¬ e.kn nm b) (hi : i ≤ 11) {sp : List Int} (hs : sp.length = e.n) {b : Nat} (hb : 14 ≤ b) : Nm (e.ext nm i (fMir e.n sp nm) fun b => !b) i 1 b true (mFree e.n sp nm) := by
  have gk : ∀ r : List Int, r.length = e.n → (e.ext nm i (fMir e.n sp nm) fun b => !b).good (nm, false, r) := fun r hr => ⟨.inr ⟨rfl, rfl⟩, hr⟩
  have fk : ((e.ext nm i (fMir e.n sp nm) fun b => !b).fl nm false).length ≤ 1 := by
    have : (e.ext nm i (fMir e.n sp nm) fun b => !b).fl nm false = fMir e.n sp nm false := if_pos rfl
    rw [this]
    exact Nat.le_refl _
  refine ⟨M_free O hn hi hs, rfl, ⟨Bd_one (gk _ still_len) (Nat.le_refl _) fk fun f => L_one _ _ f, Bd_one (c := ((unit : Int) : Rat)) (gk _ (su_len (ng_len hs) still_len)) (Nat.le_refl _) fk fun f => ?_⟩, fun x hx => ?_, ?_⟩
  · show L [((nm, false, still e.n), unit)] _ = _
    rw [L_one, C_mir]
  · have hx : x ∈ [((nm, false, still e.n), unit)] := hx
    rw [List.mem_singleton] at hx
    rw [hx]
    show (4096 : Int) ≠ 0
    decide
  · exact one_lt hb (by show 4096 + 0 < 16384; decide)
theorem nm_peg (O : e.Ok) (hn : ∀ b, ¬ e.kn nm b) {b : Nat} (hb : 14 ≤ b) : Nm (e.ext nm i (fPeg e.n nm) fun _ => true) i 1 b false (mPeg e.n nm) := by
  have gk : ∀ (c : Bool) (r : List Int), r.length = e.n → (e.ext nm i (fPeg e.n nm) fun _ => true).good (nm, c, r) := fun c r hr => ⟨.inr ⟨rfl, rfl⟩, hr⟩
  have fk : ∀ c, ((e.ext nm i (fPeg e.n nm) fun _ => true).fl nm c).length ≤ 1 := fun c => by
    have : (e.ext nm i (fPeg e.n nm) fun _ => true).fl nm c = fPeg e.n nm c := if_pos rfl
    rw [this]
    exact Nat.le_refl _
  refine ⟨M_peg hn rfl, rfl, ⟨Bd_one (gk _ _ still_len) (Nat.le_refl _) (fk _) fun f => L_one _ _ f, Bd_one (c := ((8192 : Int) : Rat)) (gk true _ (su_len still_len still_len)) (Nat.le_refl _) (fk true) fun f => ?_⟩, fun x hx => ?_, ?_⟩
  · show L [((nm, false, still e.n), 8192)] _ = _
    rw [L_one, C_peg]
    rfl
  · have hx : x ∈ [((nm, false, still e.n), (8192 : Int))] := hx
    rw [List.mem_singleton] at hx
    rw [hx]
    show (8192 : Int) ≠ 0
    decide
  · exact one_lt hb (by show 8192 + 0 < 16384; decide)
theorem fsz_put {fl : N → Bool → Sh N} (S : Sh N) (k : Kq N) (v : Int) : fsz fl (put S k v) ≤ fsz fl S + (fl k.1 k.2.1).length := by
  have e : ∀ S : Sh N, fsz fl S = ((S.map (·.1)).map fun k => (fl k.1 k.2.1).length).sum := fun S => by
    unfold fsz
    rw [List.map_map]
    rfl
  rw [e (put S k v), e S, put_keys]
  split
  · omega
  · simp
theorem fsz_addAll {fl : N → Bool → Sh N} {T : Sh N} : ∀ S : Sh N, fsz fl (addAll S T) ≤ fsz fl S + fsz fl T := by
  induction T with
  | nil => exact fun _ => Nat.le_refl _
  | cons x T ih =>
    intro S
    have a := ih (bump S x.1 x.2)
    have b := fsz_put (fl := fl) S x.1 (at0 S x.1 + x.2)
    show fsz fl (addAll (bump S x.1 x.2) T) ≤ _
    rw [fsz_cons]
    unfold bump at a ⊢
    omega
theorem fsz_wn (fl : N → Bool → Sh N) (S : Sh N) : fsz fl (wn S) ≤ fsz fl S := by
  induction S with
  | nil => exact Nat.le_refl _
  | cons x S ih =>
    unfold wn at ih ⊢
    rw [List.filter_cons, fsz_cons]
    split
    · rw [fsz_cons]
      omega
    · omega
theorem fsz_negated (fl : N → Bool → Sh N) (S : Sh N) : fsz fl (negated S) = fsz fl S := by
  unfold negated fsz
  rw [List.map_map]
  rfl
theorem fsz_turned {fl : N → Bool → Sh N} {j : Nat} {S : Sh N} {s : Int} {p : List Int} (h : e.G j S) (hp : p.length = e.n) : fsz fl (turned S s p) = fsz fl S := by
  rw [turned_eq h hp]
  unfold fsz
  rw [List.map_map]
  rfl
theorem nm_on (O : e.Ok) (hn : ∀ b, ¬ e.kn nm b) (hi : i ≤ 11) {g : Mv N} {j s b : Nat} (hg : Nm e j s b true g) (hj : j ≤ i) (hs : 1 ≤ s) (hb : 14 ≤ b) : Nm (e.ext nm i (fOn e.n nm g) fun b => !b) i (3 * s) b false (mPeg e.n nm) ∧ n1 (fOn e.n nm g false) < 2 ^ (2 * b + 3) ∧ ∀ x ∈ fOn e.n nm g false, x.2 ≠ 0 := by
  have lp : g.pw.length = e.n := hg.m.v.len
  have O2 := okO O hn hi hg.m hj hg.o
  have s1 : (e.ext nm i (fOn e.n nm g) fun b => !b).G i [((nm, false, still e.n), unit)] := single_G ⟨.inr ⟨rfl, rfl⟩, List.length_replicate⟩ (Int.dvd_refl _) (if_pos rfl)
  have s2 : (e.ext nm i (fOn e.n nm g) fun b => !b).G i (summed [((nm, false, still e.n), unit)] (negated g.sh)) := s1.summed (ext_G hn (hg.m.g.mono hj).negated)
  have lp' : (ng g.pw).length = (e.ext nm i (fOn e.n nm g) fun b => !b).n := ng_len lp
  have s3 : (e.ext nm i (fOn e.n nm g) fun b => !b).G i (fOn e.n nm g false) := s2.turned lp'
  have gk : ∀ r : List Int, r.length = e.n → (e.ext nm i (fOn e.n nm g) fun b => !b).good (nm, false, r) := fun r hr => ⟨.inr ⟨rfl, rfl⟩, hr⟩
  have fe : (e.ext nm i (fOn e.n nm g) fun b => !b).fl nm false = fOn e.n nm g false := if_pos rfl
  obtain ⟨z1, z2⟩ := Bd_sub hg.m.g.nd hg.z hg.w.a
  have len : (fOn e.n nm g false).length ≤ 1 + s := by
    have a := turned_le (summed [((nm, false, still e.n), unit)] (negated g.sh)) g.sign (ng g.pw)
    have b := wn_le (addAll [((nm, false, still e.n), unit)] (negated g.sh))
    have c := addAll_le [((nm, false, still e.n), unit)] (negated g.sh)
    have d : (negated g.sh).length = g.sh.length := List.length_map _
    show (turned _ _ _).length ≤ _
    unfold summed at a ⊢
    rw [List.length_singleton] at c
    omega
  have fk : ((e.ext nm i (fOn e.n nm g) fun b => !b).fl nm false).length ≤ 3 * s := by
    rw [fe]
    omega
  have old : fsz (e.ext nm i (fOn e.n nm g) fun b => !b).fl g.sh = fsz e.fl g.sh := by
    unfold fsz
    congr 1
    refine List.map_congr_left fun x hx => ?_
    have : (e.ext nm i (fOn e.n nm g) fun b => !b).fl x.1.1 x.1.2.1 = e.fl x.1.1 x.1.2.1 := if_neg (kn_ne hn (hg.m.g.ok x hx).1.1)
    rw [this]
  have sz : fsz (e.ext nm i (fOn e.n nm g) fun b => !b).fl (fOn e.n nm g false) ≤ 3 * s := by
    have t := fsz_turned (fl := (e.ext nm i (fOn e.n nm g) fun b => !b).fl) (s := g.sign) s2 lp'
    have b := fsz_wn (e.ext nm i (fOn e.n nm g) fun b => !b).fl (addAll [((nm, false, still e.n), unit)] (negated g.sh))
    have c := fsz_addAll (fl := (e.ext nm i (fOn e.n nm g) fun b => !b).fl) (T := negated g.sh) [((nm, false, still e.n), unit)]
    rw [fsz_negated, old] at c
    have d : fsz (e.ext nm i (fOn e.n nm g) fun b => !b).fl [((nm, false, still e.n), unit)] = (fOn e.n nm g false).length := by
      rw [fsz_cons]
      show ((e.ext nm i (fOn e.n nm g) fun b => !b).fl nm false).length + 0 = _
      rw [fe]
      rfl
    show fsz _ (turned (summed [((nm, false, still e.n), unit)] (negated g.sh)) g.sign (ng g.pw)) ≤ _
    unfold summed at t ⊢
    omega
  have nz : ∀ x ∈ fOn e.n nm g false, x.2 ≠ 0 := fun x hx => by
    have hx : x ∈ turned (summed [((nm, false, still e.n), unit)] (negated g.sh)) g.sign (ng g.pw) := hx
    rw [turned_eq s2 lp'] at hx
    obtain ⟨y, hy, rfl⟩ := List.mem_map.mp hx
    have a := wn_nz y hy
    show g.sign * y.2 ≠ 0
    rcases hg.m.v.sg with h | h
    · have h : g.sign = 1 := h
      rw [h]
      omega
    · have h : g.sign = -1 := h
      rw [h]
      omega
  refine ⟨⟨M_peg hn rfl, rfl, ⟨Bd_one (gk _ still_len) (by omega) fk fun f => L_one _ _ f, ?_⟩, fun x hx => ?_, ?_⟩, ?_, nz⟩
  · -- what is flipped
    refine ⟨(fOn e.n nm g false).map fun x => (x.1.1, x.1.2.1, su x.1.2.2 (still e.n)), fun k hk => ?_, ?_, ?_, fun f f' q => ?_⟩
    · obtain ⟨x, hx, rfl⟩ := List.mem_map.mp hk
      exact good_su (s3.ok x hx).1 still_len
    · rw [List.length_map]
      omega
    · rw [List.map_map]
      exact sz
    · show L [((nm, false, still e.n), 8192)] _ = L [((nm, false, still e.n), 8192)] _
      rw [L_one, L_one]
      congr 1
      unfold Ev.C
      dsimp only
      rw [fe]
      congr 1
      exact L_congr fun x hx => q _ (List.mem_map_of_mem (f := fun x : Kq N × Int => ((x.1.1, x.1.2.1, su x.1.2.2 (still e.n)) : Kq N)) hx)
  · have hx : x ∈ [((nm, false, still e.n), (8192 : Int))] := hx
    rw [List.mem_singleton] at hx
    rw [hx]
    show (8192 : Int) ≠ 0
    decide
  · exact one_lt hb (by show 8192 + 0 < 16384; decide)
  · have a : n1 (fOn e.n nm g false) ≤ n1 (summed [((nm, false, still e.n), unit)] (negated g.sh)) := by
      have := n1_turnOn (p := ng g.pw) (S := summed [((nm, false, still e.n), unit)] (negated g.sh)) hg.m.v.sg ND.nil
      have c : n1 ([] : Sh N) = 0 := rfl
      have d : n1 (fOn e.n nm g false) = n1 (turnOn g.sign (ng g.pw) [] (summed [((nm, false, still e.n), unit)] (negated g.sh))) := rfl
      have this : n1 (turnOn g.sign (ng g.pw) [] (summed [((nm, false, still e.n), unit)] (negated g.sh))) ≤ n1 ([] : Sh N) + _ := this
      omega
    have b2 := n1_wn (addAll [((nm, false, still e.n), unit)] (negated g.sh))
    have c := n1_addAll (T := negated g.sh) s1.nd
    rw [n1_negated] at c
    have d : n1 [((nm, false, still e.n), unit)] = 4096 := rfl
    have h := hg.n
    have two : 2 ^ b + 4096 ≤ 2 ^ (2 * b + 3) := by
      have p1 : 2 ^ (2 * b + 3) = 2 ^ b * 2 ^ (b + 3) := by rw [← Nat.pow_add]; congr 1; omega
      have p2 : 2 ^ 14 ≤ 2 ^ b := Nat.pow_le_pow_right (by decide) hb
      have p3 : 2 ≤ 2 ^ (b + 3) := Nat.le_trans (by decide : 2 ≤ 2 ^ 3) (Nat.pow_le_pow_right (by decide) (by omega))
      have p4 : 2 ^ b * 2 ≤ 2 ^ b * 2 ^ (b + 3) := Nat.mul_le_mul_left _ p3
      omega
    unfold summed at a
    omega
end
end Al

namespace Al
variable {N : Type} [DecidableEq N]
section
variable {e : Ev N}
theorem two_pow {b : Nat} : 2 ^ (2 * b + 3) = 8 * (2 ^ b * 2 ^ b) := by
  rw [Nat.pow_add, ← Nat.pow_add 2 b b, ← Nat.two_mul]
  omega
theorem pow_pos' (b : Nat) : 0 < 2 ^ b := Nat.pow_pos (by decide)
theorem nm_amid {j s b : Nat} (hj : j ≤ 11) {P Q : Mv N} (hp : Nm e j s b false P) (hq : Nm e j s b false Q) : Nm e (j + 1) (2 * s) (2 * b + 3) false (mAmid e.n P Q) := by
  have g2 := hp.m.g.summed hq.m.g
  refine ⟨M_amid hj hp.m hq.m, rfl, ?_, fun x hx => ?_, ?_⟩
  · refine ((hp.w.add hq.w (c := 1 / 2) (d := 1 / 2)).congr fun f => ?_).mono (by omega)
    show L (halved (summed P.sh Q.sh)) f = _
    rw [L_halved f (g2.even hj), L_summed hp.m.g.nd]
    grind
  · have hx : x ∈ halved (summed P.sh Q.sh) := hx
    obtain ⟨y, hy, rfl⟩ := List.mem_map.mp hx
    have a := wn_nz y hy
    obtain ⟨c, hc⟩ := g2.even hj y hy
    show y.2 / 2 ≠ 0
    omega
  · have a := n1_halved (summed P.sh Q.sh)
    have b1 := n1_wn (addAll P.sh Q.sh)
    have c := n1_addAll (T := Q.sh) hp.m.g.nd
    have h1 := hp.n
    have h2 := hq.n
    have z : 2 ^ b ≤ 2 ^ b * 2 ^ b := Nat.le_mul_of_pos_left _ (pow_pos' b)
    show n1 (halved (summed P.sh Q.sh)) < _
    unfold summed at a ⊢
    rw [two_pow]
    omega
theorem nm_thr (O : e.Ok) {j s b : Nat} (hj : j ≤ 11) {sg : Int} {p : List Int} {P : Mv N} (hs : sg = 1 ∨ sg = -1) (hpl : p.length = e.n) (hp : Nm e j s b false P) (hF : ∀ x ∈ P.sh, n1 (e.fl x.1.1 x.1.2.1) ≤ 2 ^ b) : Nm e (j + 1) (2 * s) (2 * b + 3) true (mThr e.fl sg p P) := by
  have gf := hp.m.g.flipped O hj
  have g1 : e.G j (turned (flipped e.fl P.sh) sg p) := gf.turned hpl
  have g2 : e.G j (summed P.sh (negated (turned (flipped e.fl P.sh) sg p))) := hp.m.g.summed g1.negated
  refine ⟨M_thr O hj hs hpl hp.m, rfl, ?_, fun x hx => ?_, ?_⟩
  · refine ((hp.w.add (W_csh O hp.w (G_loc hp.m.g) hpl) (c := 1 / 2) (d := -(1 / 2) * sg)).congr fun f => ?_).mono (by omega)
    show L (halved (summed P.sh (negated (turned (flipped e.fl P.sh) sg p)))) f = _
    rw [L_halved f (g2.even hj), L_summed hp.m.g.nd, L_negated, L_turned f gf hpl, L_flipped hp.m.g O hj]
    grind
  · have hx : x ∈ halved (summed P.sh (negated (turned (flipped e.fl P.sh) sg p))) := hx
    obtain ⟨y, hy, rfl⟩ := List.mem_map.mp hx
    have a := wn_nz y hy
    obtain ⟨c, hc⟩ := g2.even hj y hy
    show y.2 / 2 ≠ 0
    omega
  · have a := n1_halved (summed P.sh (negated (turned (flipped e.fl P.sh) sg p)))
    have b1 := n1_wn (addAll P.sh (negated (turned (flipped e.fl P.sh) sg p)))
    have c := n1_addAll (T := negated (turned (flipped e.fl P.sh) sg p)) hp.m.g.nd
    rw [n1_negated] at c
    have d := n1_turnOn (p := p) (S := flipped e.fl P.sh) hs ND.nil
    have d0 : n1 ([] : Sh N) = 0 := rfl
    have f := n1_flipped hF
    have h1 := hp.n
    have z : 2 ^ b ≤ 2 ^ b * 2 ^ b := Nat.le_mul_of_pos_left _ (pow_pos' b)
    have y : n1 P.sh * 2 ^ b ≤ 2 ^ b * 2 ^ b := Nat.mul_le_mul_right _ (Nat.le_of_lt h1)
    have d : n1 (turned (flipped e.fl P.sh) sg p) ≤ n1 ([] : Sh N) + n1 (flipped e.fl P.sh) := d
    show n1 (halved (summed P.sh (negated (turned (flipped e.fl P.sh) sg p)))) < _
    unfold summed at a ⊢
    rw [two_pow]
    omega
theorem nm_row (O : e.Ok) {j s b : Nat} (hj : j ≤ 11) {ms : List (Mv N)} {a : Mv N} {k : Bool} (hn : e.n ≤ 12) (hp : Pal ms a) (ha : a.over = k) (h : ∀ m ∈ ms, ∃ k, Nm e j s b k m) (h5 : ms.length ≤ 5) (hF : ∀ m ∈ ms, ∀ x ∈ m.sh, n1 (e.fl x.1.1 x.1.2.1) ≤ 2 ^ b) : Nm e j (ms.length * s) (2 * b + 3) k (joined e.fl e.n ms) := by
  obtain ⟨M, o⟩ := joined_pal O hj hp fun m hm => (h m hm).elim fun k x => x.m
  have sb := fun m hm => (h m hm).elim fun k (x : Nm e j s b k m) => Bd_sub x.m.g.nd x.z x.w.a
  have jk := jT_ok (fl := e.fl) (n := e.n) (B := s) (ms := ms) hn fun m hm => ⟨(sb m hm).1, (sb m hm).2, (h m hm).elim fun k x => x.m.v.sg⟩
  refine ⟨M, o.trans ha, ?_, wn_nz, ?_⟩
  · obtain ⟨g, q⟩ := fold_ok O hj (ms := ms.reverse) (t := ⟨false, 1, List.replicate e.n 0, []⟩) (fun m hm => (h m (List.mem_reverse.mp hm)).elim fun k x => x.m) .nil (by simp) (fun _ _ _ => rfl)
    have w := W_fold O (s := s) (l := ms.map af) (A := e.one) (t := 0) (.inr rfl) W_one (fun B hB => by
      obtain ⟨m, hm, rfl⟩ := List.mem_map.mp hB
      obtain ⟨k, x⟩ := h m hm
      exact ⟨x.m.v, x.w⟩) one_len
    rw [List.length_map, Nat.zero_add] at w
    refine w.congr fun f => ?_
    have e1 : L (joined e.fl e.n ms).sh f = (afJ (jAll e.fl e.n ms)).g f := L_wn _ f
    rw [e1]
    unfold jAll
    rw [q, hp.rev]
    rfl
  · have a := n1_wn (jAll e.fl e.n ms).tot
    have c := n1_jT (fl := e.fl) (n := e.n) (m := 2 ^ b) (b := 2 ^ b * 2 ^ b) (ms := ms) (fun m hm => by
      obtain ⟨k, x⟩ := h m hm
      have h1 := x.n
      have z : 2 ^ b ≤ 2 ^ b * 2 ^ b := Nat.le_mul_of_pos_left _ (pow_pos' b)
      exact ⟨by omega, Nat.mul_le_mul_right _ (Nat.le_of_lt h1), hF m hm⟩) (fun i => ⟨(jk i).1, (jk i).2.2.1⟩) ms.length
    rw [jT_all] at c
    have y : ms.length * (2 ^ b * 2 ^ b) ≤ 5 * (2 ^ b * 2 ^ b) := Nat.mul_le_mul_right _ h5
    have z : 0 < 2 ^ b * 2 ^ b := Nat.mul_pos (pow_pos' b) (pow_pos' b)
    show n1 (wn (jAll e.fl e.n ms).tot) < _
    rw [two_pow]
    omega
end
theorem spin_len (loose : List N) (nm : N) : (spin loose nm).length = loose.length := by
  unfold spin
  rw [List.length_map]
theorem Iv.init (n : Nat) (loose : List N) (h : loose.length = n) : Iv loose (Pst.init n : Pst N) 1 14 := by
  refine ⟨⟨fun a b h => False.elim h, fun f k h => False.elim h.1⟩, h.symm, fun a c h => False.elim h, fun k a h => (by cases h), fun a c h => False.elim h, Nat.le_refl _, Nat.le_refl _⟩
/-- a line more -/
theorem Iv.step {loose : List N} {st : Pst N} {s b : Nat} {l : Ln N} (I : Iv loose st s b) (h : LOk st.ns l) (hnew : ∀ k, (k, l.name) ∉ st.ns) (hi : st.ns.length ≤ 11) (h12 : loose.length ≤ 12) : Iv loose (st.step loose l) (fac l * s) (2 * b + 3) ∧ (newM loose st l).over = l.mir := by
  have hn : ∀ c, ¬ st.ev.kn l.name c := fun c z => (I.kn _ _ z).elim fun k z => hnew k z
  have fs : 1 ≤ fac l := by
    unfold fac
    split <;> decide
  have ls : s ≤ fac l * s := Nat.le_mul_of_pos_left _ fs
  have s1 := I.s1
  have b1 := I.b1
  -- what the new one is, in the new surroundings
  have main : (newE loose st l).Ok ∧ Nm (newE loose st l) st.ns.length (fac l * s) (2 * b + 3) l.mir (newM loose st l) ∧ ∀ c, newB l c = true → n1 (newF st.ev st.mv loose l c) < 2 ^ (2 * b + 3) ∧ ∀ x ∈ newF st.ev st.mv loose l c, x.2 ≠ 0 := by
    have old : ∀ {k : Bool} {a : N}, (k, a) ∈ st.ns → Nm (newE loose st l) (st.ns.length - 1) s b k (st.mv a) := fun ha => ext_Nm hn (I.mv _ _ ha)
    have pos : ∀ {k : Bool} {a : N}, (k, a) ∈ st.ns → st.ns.length - 1 + 1 = st.ns.length := fun ha => Nat.sub_add_cancel (List.length_pos_of_mem ha)
    have oldF : ∀ {k : Bool} {a : N}, (k, a) ∈ st.ns → ∀ x ∈ (st.mv a).sh, n1 ((newE loose st l).fl x.1.1 x.1.2.1) ≤ 2 ^ b := fun ha x hx => by
      have gx := ((I.mv _ _ ha).m.g.ok x hx).1.1
      have : (newE loose st l).fl x.1.1 x.1.2.1 = st.ev.fl x.1.1 x.1.2.1 := if_neg (kn_ne hn gx)
      rw [this]
      exact Nat.le_of_lt (I.fl _ _ gx).1
    have nn : (newE loose st l).n = st.ev.n := rfl
    cases h with
    | free mir nm =>
      cases mir with
      | true =>
        have sl : (spin loose nm).length = st.ev.n := by rw [spin_len, I.n]
        refine ⟨okF I.ok hn hi sl, (nm_free I.ok hn hi sl (b := b) b1).mono (Nat.le_refl _) (by omega) (by omega), fun c _ => ?_⟩
        show n1 (fMir st.ev.n (spin loose nm) nm c) < _ ∧ ∀ x ∈ fMir st.ev.n (spin loose nm) nm c, x.2 ≠ 0
        refine ⟨one_lt (by omega) (by show 4096 + 0 < 16384; decide), fun x hx => ?_⟩
        unfold fMir at hx
        rw [List.mem_singleton] at hx
        rw [hx]
        show (4096 : Int) ≠ 0
        decide
      | false =>
        refine ⟨okP I.ok hn hi, (nm_peg I.ok hn (i := st.ns.length) (b := b) b1).mono (Nat.le_refl _) (by omega) (by omega), fun c _ => ?_⟩
        show n1 (fPeg st.ev.n nm c) < _ ∧ ∀ x ∈ fPeg st.ev.n nm c, x.2 ≠ 0
        refine ⟨one_lt (by omega) (by show 4096 + 0 < 16384; decide), fun x hx => ?_⟩
        unfold fPeg at hx
        rw [List.mem_singleton] at hx
        rw [hx]
        show (4096 : Int) ≠ 0
        decide
    | on nm a ha =>
      obtain ⟨x1, x2, x3⟩ := nm_on I.ok hn hi (I.mv _ _ ha) (by omega) s1 b1
      refine ⟨okO I.ok hn hi (I.mv _ _ ha).m (by omega) (I.mv _ _ ha).o, x1.mono (Nat.le_refl _) (Nat.le_refl _) (by omega), fun c hc => ?_⟩
      have : c = false := by
        have hc : (!c) = true := hc
        simpa using hc
      subst this
      exact ⟨x2, x3⟩
    | thr nm p hp =>
      have O2 := okN (nm := nm) I.ok hn hi
      have sl : (spin loose nm).length = st.ev.n := by rw [spin_len, I.n]
      have z := nm_thr (e := newE loose st ⟨true, nm, .thr, [p]⟩) O2 (by omega) (.inr rfl) sl (old hp) (oldF hp)
      rw [pos hp] at z
      exact ⟨O2, z.mono (Nat.le_refl _) (by show 2 * s ≤ 3 * s; omega) (Nat.le_refl _), fun c hc => by cases hc⟩
    | along nm a p ha hp =>
      have O2 := okN (nm := nm) I.ok hn hi
      have va := (I.mv _ _ ha).m.v
      have z := nm_thr (e := newE loose st ⟨true, nm, .along, [a, p]⟩) O2 (by omega) (sg := (st.mv a).sign) (p := (st.mv a).pw) va.sg va.len (old hp) (oldF hp)
      rw [pos hp] at z
      exact ⟨O2, z.mono (Nat.le_refl _) (by show 2 * s ≤ 3 * s; omega) (Nat.le_refl _), fun c hc => by cases hc⟩
    | across nm a p ha hp =>
      have O2 := okN (nm := nm) I.ok hn hi
      have va := (I.mv _ _ ha).m.v
      have sg : -(st.mv a).sign = 1 ∨ -(st.mv a).sign = -1 := by
        rcases va.sg with q | q
        · have q : (st.mv a).sign = 1 := q
          rw [q]
          exact .inr rfl
        · have q : (st.mv a).sign = -1 := q
          rw [q]
          exact .inl rfl
      have z := nm_thr (e := newE loose st ⟨true, nm, .across, [a, p]⟩) O2 (by omega) (sg := -(st.mv a).sign) (p := (st.mv a).pw) sg va.len (old hp) (oldF hp)
      rw [pos hp] at z
      exact ⟨O2, z.mono (Nat.le_refl _) (by show 2 * s ≤ 3 * s; omega) (Nat.le_refl _), fun c hc => by cases hc⟩
    | amid nm p q hp hq =>
      have O2 := okN (nm := nm) I.ok hn hi
      have z := nm_amid (e := newE loose st ⟨false, nm, .amid, [p, q]⟩) (by omega) (old hp) (old hq)
      rw [pos hp] at z
      exact ⟨O2, z.mono (Nat.le_refl _) (by show 2 * s ≤ 3 * s; omega) (Nat.le_refl _), fun c hc => by cases hc⟩
    | frmM nm a b' ha hb =>
      have O2 := okN (nm := nm) I.ok hn hi
      have pl : Pal [st.mv b', st.mv a, st.mv b'] (st.mv a) := .wing _ (.one _)
      have z := nm_row (e := newE loose st ⟨true, nm, .frm, [a, b']⟩) O2 (j := st.ns.length - 1) (by omega) (by rw [nn, I.n]; exact h12) pl (old ha).o (fun m hm => by
        simp only [List.mem_cons, List.not_mem_nil, or_false] at hm
        rcases hm with rfl | rfl | rfl
        · exact ⟨_, old hb⟩
        · exact ⟨_, old ha⟩
        · exact ⟨_, old hb⟩) (by show 3 ≤ 5; decide) (fun m hm => by
        simp only [List.mem_cons, List.not_mem_nil, or_false] at hm
        rcases hm with rfl | rfl | rfl
        · exact oldF hb
        · exact oldF ha
        · exact oldF hb)
      exact ⟨O2, z.mono (by omega) (Nat.le_refl _) (Nat.le_refl _), fun c hc => by cases hc⟩
    | frmP nm p a hp ha =>
      have O2 := okN (nm := nm) I.ok hn hi
      have pl : Pal [st.mv a, st.mv p, st.mv a] (st.mv p) := .wing _ (.one _)
      have z := nm_row (e := newE loose st ⟨false, nm, .frm, [p, a]⟩) O2 (j := st.ns.length - 1) (by omega) (by rw [nn, I.n]; exact h12) pl (old hp).o (fun m hm => by
        simp only [List.mem_cons, List.not_mem_nil, or_false] at hm
        rcases hm with rfl | rfl | rfl
        · exact ⟨_, old ha⟩
        · exact ⟨_, old hp⟩
        · exact ⟨_, old ha⟩) (by show 3 ≤ 5; decide) (fun m hm => by
        simp only [List.mem_cons, List.not_mem_nil, or_false] at hm
        rcases hm with rfl | rfl | rfl
        · exact oldF ha
        · exact oldF hp
        · exact oldF ha)
      exact ⟨O2, z.mono (by omega) (Nat.le_refl _) (Nat.le_refl _), fun c hc => by cases hc⟩
    | about nm p q hp hq =>
      have O2 := okN (nm := nm) I.ok hn hi
      have pl : Pal [st.mv q, st.mv p, st.mv q] (st.mv p) := .wing _ (.one _)
      have z := nm_row (e := newE loose st ⟨false, nm, .about, [p, q]⟩) O2 (j := st.ns.length - 1) (by omega) (by rw [nn, I.n]; exact h12) pl (old hp).o (fun m hm => by
        simp only [List.mem_cons, List.not_mem_nil, or_false] at hm
        rcases hm with rfl | rfl | rfl
        · exact ⟨_, old hq⟩
        · exact ⟨_, old hp⟩
        · exact ⟨_, old hq⟩) (by show 3 ≤ 5; decide) (fun m hm => by
        simp only [List.mem_cons, List.not_mem_nil, or_false] at hm
        rcases hm with rfl | rfl | rfl
        · exact oldF hq
        · exact oldF hp
        · exact oldF hq)
      exact ⟨O2, z.mono (by omega) (Nat.le_refl _) (Nat.le_refl _), fun c hc => by cases hc⟩
    | is_ mir nm a row hr ha hk h5 =>
      have O2 : (newE loose st ⟨mir, nm, .is_, row⟩).Ok := by
        have z := okN (nm := nm) I.ok hn hi
        cases mir <;> exact z
      have ne : row ≠ [] := fun z => by
        have := hr.mem
        rw [z] at this
        cases this
      have z := nm_row (e := newE loose st ⟨mir, nm, .is_, row⟩) O2 (j := st.ns.length - 1) (k := mir) (by omega) (by rw [nn, I.n]; exact h12) (hr.map st.mv) (old ha).o (fun m hm => by
        obtain ⟨x, hx, rfl⟩ := List.mem_map.mp hm
        obtain ⟨k, hk2⟩ := hk x hx
        exact ⟨_, old hk2⟩) (by rw [List.length_map]; exact h5) (fun m hm => by
        obtain ⟨x, hx, rfl⟩ := List.mem_map.mp hm
        obtain ⟨k, hk2⟩ := hk x hx
        exact oldF hk2)
      have em : newM loose st ⟨mir, nm, .is_, row⟩ = joined (newE loose st ⟨mir, nm, .is_, row⟩).fl st.ev.n (row.map st.mv) := by
        unfold newM
        exact if_pos ne
      rw [em]
      refine ⟨O2, z.mono (by omega) ?_ (Nat.le_refl _), fun c hc => by cases mir <;> cases hc⟩
      rw [List.length_map]
      exact Nat.mul_le_mul_right _ h5
  obtain ⟨O2, M2, F2⟩ := main
  refine ⟨⟨O2, I.n, fun a c hk => ?_, fun k a ha => ?_, fun a c hk => ?_, by omega, by omega⟩, M2.o⟩
  · rcases hk with hk | ⟨rfl, _⟩
    · obtain ⟨k, z⟩ := I.kn a c hk
      exact ⟨k, List.mem_append_left _ z⟩
    · exact ⟨l.mir, List.mem_append_right _ (List.mem_singleton.mpr rfl)⟩
  · have len : (st.step loose l).ns.length - 1 = st.ns.length := by
      show (st.ns ++ [(l.mir, l.name)]).length - 1 = _
      rw [List.length_append]
      rfl
    rw [len]
    show Nm (newE loose st l) _ _ _ k (if a = l.name then newM loose st l else st.mv a)
    rcases List.mem_append.mp ha with z | z
    · have ne : a ≠ l.name := fun q => hnew k (q ▸ z)
      rw [if_neg ne]
      exact (ext_Nm hn (I.mv k a z)).mono (by omega) ls (by omega)
    · rw [List.mem_singleton] at z
      obtain ⟨rfl, rfl⟩ := Prod.mk.inj z
      rw [if_pos rfl]
      exact M2
  · show n1 (if a = l.name then newF st.ev st.mv loose l c else st.ev.fl a c) < _ ∧ ∀ x ∈ (if a = l.name then newF st.ev st.mv loose l c else st.ev.fl a c), x.2 ≠ 0
    rcases hk with hk | ⟨rfl, hc⟩
    · rw [if_neg (kn_ne hn hk)]
      obtain ⟨z1, z2⟩ := I.fl a c hk
      exact ⟨Nat.lt_of_lt_of_le z1 (Nat.pow_le_pow_right (by decide) (by omega)), z2⟩
    · rw [if_pos rfl]
      exact F2 c hc
end Al

namespace Lm
open PySem PySem.Spec PyProof.Rows L2
/-! ## Plans, lines -/
abbrev LnS := Al.Ln Str
def formS : Al.Fm → Str
  | .free => "any"
  | .thr => "through"
  | .along => "along"
  | .across => "across"
  | .frm => "from"
  | .is_ => "is"
  | .on => "on"
  | .about => "about"
  | .amid => "amid"
def wordS (mir : Bool) : Str := if mir = true then "mirror" else "peg"
def plF (p0 md fd : Addr) : List (Str × V) := [("loose", .ref p0), ("moves", .ref md), ("flips", .ref fd)]
abbrev NsT := List (Bool × Str)
/-- the dict of moves -/
def MdAt (P : Program) (w : World) (K : PySem.W.Frag) (H : Hp) (md : Addr) (mv : Str → Al.Mv Str) (ns : NsT) : Prop := ∃ kvs : List (Key × V), H md = some (.dK kvs) ∧ kvs.map (·.1) = ns.map (fun p => Sum.inr p.2) ∧ ∀ k a, (k, a) ∈ ns → ∃ x, valV kvs (Sum.inr a) = some (.ref x) ∧ MvAt P w K H x (mv a)
def FlM (P : Program) (w : World) (K : PySem.W.Frag) (H : Hp) (fd : Addr) (fl : Str → Bool → Al.Sh Str) (dom : Str → Bool → Prop) (m : Nat) : Prop := ∃ es, H fd = some (dnO P w fd es) ∧ es.length ≤ m ∧ KsOk K H es ∧ ∀ n b, dom n b → ∃ d, nGet es (nk2 (n, b)) = some (.ref d) ∧ ShF P w K H d (fl n b)
structure PlAt (P : Program) (w : World) (K : PySem.W.Frag) (H : Hp) (pl md fd : Addr) (loose : List Str) (fl : Str → Bool → Al.Sh Str) (dom : Str → Bool → Prop) (mv : Str → Al.Mv Str) (ns : NsT) (m : Nat) : Prop where
  pl : ∃ dx p0, H pl = some (.ins (He.ga K "Plan") dx (plF p0 md fd)) ∧ SqT K H p0 (loose.map V.str)
  md : MdAt P w K H md mv ns
  fd : FlM P w K H fd fl dom m
theorem MdAt.same {P : Program} {w : World} {K : PySem.W.Frag} {H H' : Hp} {md : Addr} {mv : Str → Al.Mv Str} {ns : NsT} (h : MdAt P w K H md mv ns) (s : Same H H') : MdAt P w K H' md mv ns := by
  obtain ⟨kvs, h1, h2, h3⟩ := h
  refine ⟨kvs, s _ _ h1, h2, fun k a ha => ?_⟩
  obtain ⟨x, e1, e2⟩ := h3 k a ha
  exact ⟨x, e1, e2.same s⟩
theorem FlM.same {P : Program} {w : World} {K : PySem.W.Frag} {H H' : Hp} {fd : Addr} {fl : Str → Bool → Al.Sh Str} {dom : Str → Bool → Prop} {m : Nat} (h : FlM P w K H fd fl dom m) (s : Same H H') : FlM P w K H' fd fl dom m := by
  obtain ⟨es, h1, h2, h3, h4⟩ := h
  refine ⟨es, s _ _ h1, h2, h3.tk (.same s), fun n b hd => ?_⟩
  obtain ⟨d, e1, e2⟩ := h4 n b hd
  exact ⟨d, e1, e2.tk (.same s)⟩
theorem FlM.r {P : Program} {w : World} {K : PySem.W.Frag} {H : Hp} {fd : Addr} {fl : Str → Bool → Al.Sh Str} {dom : Str → Bool → Prop} {m : Nat} (h : FlM P w K H fd fl dom m) : FlR P w K H fd fl dom := let ⟨es, h1, _, h3, h4⟩ := h; ⟨es, .inl h1, h3, h4⟩
theorem PlAt.same {P : Program} {w : World} {K : PySem.W.Frag} {H H' : Hp} {pl md fd : Addr} {loose : List Str} {fl : Str → Bool → Al.Sh Str} {dom : Str → Bool → Prop} {mv : Str → Al.Mv Str} {ns : NsT} {m : Nat} (h : PlAt P w K H pl md fd loose fl dom mv ns m) (s : Same H H') : PlAt P w K H' pl md fd loose fl dom mv ns m := by
  obtain ⟨dx, p0, h1, h2⟩ := h.pl
  exact ⟨⟨dx, p0, s _ _ h1, sq_tk h2 (.same s)⟩, h.md.same s, h.fd.same s⟩
/-- what is asked of what it tells -/
structure PlIn (loose : List Str) (fl : Str → Bool → Al.Sh Str) (dom : Str → Bool → Prop) (mv : Str → Al.Mv Str) (ns : NsT) (B : Nat) : Prop where
  nb : ∀ k a, (k, a) ∈ ns → Al.n1 (mv a).sh < 2 ^ 100000
  mi : ∀ k a, (k, a) ∈ ns → MIn fl dom B (mv a) ∧ (mv a).over = k
  fi : ∀ n b, dom n b → InS (fl n b)
  b : 6 * B ≤ 8000000
  n : loose.length ≤ 12
theorem PlIn.sub {loose : List Str} {fl : Str → Bool → Al.Sh Str} {dom : Str → Bool → Prop} {mv mv' : Str → Al.Mv Str} {ns ns' : NsT} {B : Nat} (h : PlIn loose fl dom mv ns B) (s : ∀ k a, (k, a) ∈ ns' → (k, a) ∈ ns ∧ mv a = mv' a) : PlIn loose fl dom mv' ns' B :=
  ⟨fun k a z => (s k a z).2 ▸ h.nb k a (s k a z).1, fun k a z => (s k a z).2 ▸ h.mi k a (s k a z).1, h.fi, h.b, h.n⟩
theorem put_keys {S : Al.Sh Str} {k : K3} {v : Int} : ∀ y ∈ Al.put S k v, y.1 = k ∨ y.1 ∈ S.map (·.1) := by
  intro y hy
  unfold Al.put at hy
  split at hy
  · obtain ⟨x, hx, e⟩ := List.mem_map.mp hy
    split at e
    · rename_i c
      exact .inl (by rw [← e]; exact c)
    · exact .inr (by rw [← e]; exact List.mem_map_of_mem (f := (·.1)) hx)
  · rcases List.mem_append.mp hy with q | q
    · exact .inr (List.mem_map_of_mem (f := (·.1)) q)
    · rw [List.mem_singleton] at q
      exact .inl (by rw [q])
theorem addAll_keys {T : Al.Sh Str} : ∀ {S : Al.Sh Str}, ∀ y ∈ Al.addAll S T, y.1 ∈ S.map (·.1) ∨ y.1 ∈ T.map (·.1) := by
  induction T with
  | nil => exact fun {S} y hy => .inl (List.mem_map_of_mem (f := (·.1)) hy)
  | cons x T ih =>
    intro S y hy
    rcases ih y hy with q | q
    · obtain ⟨z, hz, e⟩ := List.mem_map.mp q
      rcases put_keys z hz with r | r
      · exact .inr (by rw [← e, r]; exact List.mem_map_of_mem (f := fun z : K3 × Int => z.1) (List.mem_cons_self (a := x) (l := T)))
      · exact .inl (by rw [← e]; exact r)
    · exact .inr (List.mem_cons_of_mem _ q)
theorem InS.summed {S T : Al.Sh Str} (hS : InS S) (hT : InS T) (h : Al.n1 S + Al.n1 T < 2 ^ 200000) : InS (Al.summed S T) := by
  have nd : Al.ND (Al.summed S T) := (Al.ND.addAll hS.nd).wn
  refine ⟨nd, fun x hx => ?_, fun x hx => ?_⟩
  · rcases addAll_keys x (List.mem_filter.mp hx).1 with q | q
    · obtain ⟨z, hz, e⟩ := List.mem_map.mp q
      rw [← e]
      exact hS.pw z hz
    · obtain ⟨z, hz, e⟩ := List.mem_map.mp q
      rw [← e]
      exact hT.pw z hz
  · have h1 := Al.n1_mem hx
    have h2 := Al.n1_wn (Al.addAll S T)
    have h3 := Al.n1_addAll (T := T) hS.nd
    have h4 : (2 : Nat) ^ 200000 ≤ 2 ^ 400000 := Nat.pow_le_pow_right (by decide) (by decide)
    have h5 : Al.n1 (Al.summed S T) = Al.n1 (Al.wn (Al.addAll S T)) := rfl
    generalize (2 : Nat) ^ 200000 = u at h h4
    generalize (2 : Nat) ^ 400000 = v at h4 ⊢
    omega
theorem summed_len (S T : Al.Sh Str) : (Al.summed S T).length ≤ S.length + T.length := Nat.le_trans (Al.wn_le _) (Al.addAll_le S T)
theorem negated_len (S : Al.Sh Str) : (Al.negated S).length = S.length := by
  unfold Al.negated
  rw [List.length_map]
theorem negated_nd {S : Al.Sh Str} (h : Al.ND S) : Al.ND (Al.negated S) := by
  unfold Al.ND Al.negated at *
  rw [List.map_map]
  exact h
theorem summed_nd {S T : Al.Sh Str} (h : Al.ND S) : Al.ND (Al.summed S T) := (Al.ND.addAll h).wn
theorem InS.negated {S : Al.Sh Str} (h : InS S) : InS (Al.negated S) := ⟨negated_nd h.nd, fun x hx => by
  obtain ⟨y, hy, e⟩ := List.mem_map.mp hx
  rw [← e]
  exact h.pw y hy, fun x hx => by
  obtain ⟨y, hy, e⟩ := List.mem_map.mp hx
  rw [← e]
  show (-y.2).natAbs < _
  rw [Int.natAbs_neg]
  exact h.sz y hy⟩
theorem InS.one {k : K3} {v : Int} (hk : k.2.2.length ≤ 12) (hv : v.natAbs ≤ 8192) : InS [(k, v)] := ⟨by simp [Al.ND], fun x hx => by
  rw [List.mem_singleton.mp hx]
  exact hk, fun x hx => by
  rw [List.mem_singleton.mp hx]
  have : (2 : Nat) ^ 14 ≤ 2 ^ 400000 := Nat.pow_le_pow_right (by decide) (by decide)
  generalize (2 : Nat) ^ 400000 = u at this ⊢
  omega⟩
theorem InS.of {e : Al.Ev Str} {i b : Nat} {S : Al.Sh Str} (g : e.G i S) (hn : e.n ≤ 12) (h : Al.n1 S < 2 ^ b) (hb : b ≤ 400000) : InS S :=
  ⟨g.nd, fun x hx => by rw [(g.ok x hx).1.2]; exact hn, fun x hx => Nat.lt_of_lt_of_le (Nat.lt_of_le_of_lt (Al.n1_mem hx) h) (Nat.pow_le_pow_right (by decide) hb)⟩
theorem MIn.of {e : Al.Ev Str} {i s b c : Nat} {k : Bool} {m : Al.Mv Str} (h : Al.Nm e i s b k m) (O : e.Ok) (hi : i ≤ 11) (hn : e.n ≤ 12) (hF : ∀ x ∈ m.sh, Al.n1 (e.fl x.1.1 x.1.2.1) ≤ 2 ^ b) (hb : 2 * b ≤ 400000) (hs : s ≤ c) : MIn e.fl e.kn c m := by
  obtain ⟨z1, z2⟩ := Al.Bd_sub h.m.g.nd h.z h.w.a
  refine ⟨InS.of h.m.g hn h.n (by omega), InS.of (h.m.g.flipped O hi) hn (b := 2 * b) ?_ hb, fun x hx => (h.m.g.ok x hx).1.1, by omega, by omega, h.m.v.sg, ?_⟩
  · have f := Al.n1_flipped hF
    have h1 := h.n
    have y : Al.n1 m.sh * 2 ^ b < 2 ^ b * 2 ^ b := Nat.mul_lt_mul_of_pos_right h1 (Nat.pow_pos (by decide))
    rw [Nat.two_mul, Nat.pow_add]
    omega
  · have : m.pw.length = e.n := h.m.v.len
    omega
def lnF (text : Str) (l : LnS) (po pw pr : Addr) : List (Str × V) := [("text", .str text), ("form", .str (formS l.fm)), ("word", .str (wordS l.mir)), ("name", .str l.name), ("others", .ref po), ("wanted", .ref pw), ("row", .ref pr)]
def wantS (l : LnS) : List Str := match l.fm with
  | .free => []
  | .thr => ["peg"]
  | .along => ["mirror", "peg"]
  | .across => ["mirror", "peg"]
  | .frm => if l.mir = true then ["mirror", "mirror"] else ["peg", "mirror"]
  | .is_ => l.oth.map fun _ => ""
  | .on => ["mirror"]
  | .about => ["peg", "peg"]
  | .amid => ["peg", "peg"]
def LnAt (K : PySem.W.Frag) (H : Hp) (a : Addr) (text : Str) (l : LnS) : Prop := ∃ dx po pw pr, H a = some (.ins (He.ga K "Line") dx (lnF text l po pw pr)) ∧ SqT K H po (l.oth.map V.str) ∧ SqT K H pw ((wantS l).map V.str) ∧ SqT K H pr (l.row.map V.str)
theorem LnAt.keep {K : PySem.W.Frag} {H H' : Hp} {a : Addr} {text : Str} {l : LnS} (h : LnAt K H a text l) (t : Tk H H') (k : ∀ dx fs, H a = some (.ins (He.ga K "Line") dx fs) → H' a = some (.ins (He.ga K "Line") dx fs)) : LnAt K H' a text l := by
  obtain ⟨dx, po, pw, pr, h1, h2, h3, h4⟩ := h
  exact ⟨dx, po, pw, pr, k _ _ h1, sq_tk h2 t, sq_tk h3 t, sq_tk h4 t⟩
theorem LnAt.same {K : PySem.W.Frag} {H H' : Hp} {a : Addr} {text : Str} {l : LnS} (h : LnAt K H a text l) (s : Same H H') : LnAt K H' a text l := h.keep (.same s) fun _ _ e => s _ _ e
/-! ### the promises -/
abbrev PlSp := (pl md fd : Addr) → (loose : List Str) → (fl : Str → Bool → Al.Sh Str) → (dom : Str → Bool → Prop) → (mv : Str → Al.Mv Str) → (ns : NsT) → (m B : Nat) → Prop
def spNoPw (P : Program) (w : World) (K : PySem.W.Frag) : Sp := fun vs H Q _ => ∃ (pl dx p0 md fd : Addr) (loose : List Str), vs = [.ref pl] ∧ H pl = some (.ins (He.ga K "Plan") dx (plF p0 md fd)) ∧ SqT K H p0 (loose.map V.str) ∧ loose.length ≤ 12 ∧ ∀ H' r, Same H H' → SqT K H' r ((Al.still loose.length).map V.int) → Q (.ref r) H'
def spSpin (P : Program) (w : World) (K : PySem.W.Frag) : Sp := fun vs H Q _ => ∃ (pl dx p0 md fd : Addr) (loose : List Str) (nm : Str), vs = [.ref pl, .str nm] ∧ H pl = some (.ins (He.ga K "Plan") dx (plF p0 md fd)) ∧ SqT K H p0 (loose.map V.str) ∧ loose.length ≤ 12 ∧ ∀ H' r, Same H H' → SqT K H' r ((Al.spin loose nm).map V.int) → Q (.ref r) H'
def spMoveBy (P : Program) (w : World) (K : PySem.W.Frag) : Sp := fun vs H Q _ => ∃ (pl md fd st : Addr) (loose : List Str) (fl : Str → Bool → Al.Sh Str) (dom : Str → Bool → Prop) (mv : Str → Al.Mv Str) (ns : NsT) (m B : Nat) (steps : List Str), vs = [.ref pl, .ref st] ∧
  PlAt P w K H pl md fd loose fl dom mv ns m ∧ PlIn loose fl dom mv ns B ∧ SqT K H st (steps.map V.str) ∧ steps.length ≤ 6 ∧ (∀ x ∈ steps, ∃ k, (k, x) ∈ ns) ∧ ∀ H' r, Same H H' → H r = none → MvAt P w K H' r (Al.joined fl loose.length (steps.map mv)) → Q (.ref r) H'
def spMirThr (P : Program) (w : World) (K : PySem.W.Frag) : Sp := fun vs H Q _ => ∃ (pl md fd pp : Addr) (loose : List Str) (fl : Str → Bool → Al.Sh Str) (dom : Str → Bool → Prop) (mv : Str → Al.Mv Str) (ns : NsT) (m B : Nat) (s : Int) (pw : List Int) (peg : Str), vs = [.ref pl, .int s, .ref pp, .str peg] ∧
  PlAt P w K H pl md fd loose fl dom mv ns m ∧ PlIn loose fl dom mv ns B ∧ (∃ k, (k, peg) ∈ ns) ∧ SqT K H pp (pw.map V.int) ∧ (s = 1 ∨ s = -1) ∧ ∀ H' r, Same H H' → H r = none → MvAt P w K H' r (Al.mThr fl s pw (mv peg)) → Q (.ref r) H'
/-- with a line -/
def spLn (P : Program) (w : World) (K : PySem.W.Frag) (ok : NsT → LnS → Prop) (res : List Str → (Str → Bool → Al.Sh Str) → (Str → Al.Mv Str) → LnS → Al.Mv Str) : Sp := fun vs H Q _ => ∃ (pl md fd la : Addr) (loose : List Str) (fl : Str → Bool → Al.Sh Str) (dom : Str → Bool → Prop) (mv : Str → Al.Mv Str) (ns : NsT) (m B : Nat) (text : Str) (l : LnS), vs = [.ref pl, .ref la] ∧
  PlAt P w K H pl md fd loose fl dom mv ns m ∧ PlIn loose fl dom mv ns B ∧ LnAt K H la text l ∧ Al.LOk ns l ∧ ok ns l ∧ ∀ H' r, Same H H' → H r = none → MvAt P w K H' r (res loose fl mv l) → Q (.ref r) H'
def mirS (loose : List Str) (fl : Str → Bool → Al.Sh Str) (mv : Str → Al.Mv Str) (l : LnS) : Al.Mv Str := match l.fm, l.oth with
  | .thr, p :: _ => Al.mThr fl (-1) (Al.spin loose l.name) (mv p)
  | .along, a :: p :: _ => Al.mThr fl (mv a).sign (mv a).pw (mv p)
  | .across, a :: p :: _ => Al.mThr fl (-(mv a).sign) (mv a).pw (mv p)
  | _, _ => Al.mFree loose.length (Al.spin loose l.name) l.name
def pegS (loose : List Str) (fl : Str → Bool → Al.Sh Str) (mv : Str → Al.Mv Str) (l : LnS) : Al.Mv Str := match l.fm, l.oth with
  | .amid, p :: q :: _ => Al.mAmid loose.length (mv p) (mv q)
  | _, _ => Al.mPeg loose.length l.name
def movS (loose : List Str) (fl : Str → Bool → Al.Sh Str) (mv : Str → Al.Mv Str) (l : LnS) : Al.Mv Str := if l.row ≠ [] then Al.joined fl loose.length (l.row.map mv) else if l.mir = true then mirS loose fl mv l else pegS loose fl mv l
theorem movS_new {loose : List Str} {st : Al.Pst Str} {l : LnS} (hn : st.ev.n = loose.length) : movS loose (Al.newE loose st l).fl st.mv l = Al.newM loose st l := by
  unfold movS Al.newM
  rw [hn]
  split
  · rfl
  · unfold mirS pegS
    cases l.mir <;> cases l.fm <;> rcases l.oth with _ | ⟨_, _ | ⟨_, _⟩⟩ <;> rfl
theorem PlIn.of {loose : List Str} {st : Al.Pst Str} {s b : Nat} (I : Al.Iv loose st s b) (hs : s ≤ 1000000) (hb : b ≤ 100000) (hi : st.ns.length ≤ 12) (h12 : loose.length ≤ 12) : PlIn loose st.ev.fl st.ev.kn st.mv st.ns 1000000 := by
  have hn : st.ev.n ≤ 12 := by rw [I.n]; exact h12
  refine ⟨fun k a h => ?_, fun k a h => ?_, fun a c h => ?_, by decide, h12⟩
  · exact Nat.lt_of_lt_of_le (I.mv k a h).n (Nat.pow_le_pow_right (by decide) (by omega))
  · have m := I.mv k a h
    exact ⟨MIn.of m I.ok (by omega) hn (fun x hx => Nat.le_of_lt (I.fl _ _ (m.m.g.ok x hx).1.1).1) (by omega) hs, m.o⟩
  · exact InS.of (I.ok.fl a c h).2 hn (I.fl a c h).1 (by omega)
theorem units1 {A : Around} {k : Nat} (hr : Room k A) : A.units + 1 < cLine := by
  have := hr.un
  omega
/-- a move that can stand, said in a word -/
def askS (mir : Bool) : Str := if mir = true then "mirroring" else "half turn"
theorem kind_ask {e : Al.Ev Str} {i : Nat} {m : Al.Mv Str} (O : e.Ok) (hi : i ≤ 11) (h : e.M i m) : kindS e.fl m = askS m.over := by
  have hl : m.pw.length = e.n := h.v.len
  unfold kindS askS
  cases ho : m.over with
  | true =>
    rw [if_pos rfl, if_pos rfl, hl, Al.twice_nil O hi h]
    rfl
  | false =>
    have z := h.v.peg ho
    have z1 : m.pw = List.replicate e.n 0 := z.1
    have z2 : m.sign = -1 := z.2
    have an : (m.pw.any fun p => p != 0) = false := by
      rw [z1, List.any_eq_false]
      intro x hx
      rw [(List.mem_replicate.mp hx).2]
      decide
    rw [an, if_pos z2]
    rfl
/-- the flips that a line brings -/
def flS (loose : List Str) (mv : Str → Al.Mv Str) (l : LnS) : Bool → Al.Sh Str := Al.newF (⟨loose.length, fun _ _ => [], fun _ _ => False, fun _ => 0⟩ : Al.Ev Str) mv loose l
def flB (l : LnS) : List Bool := match l.mir, l.fm with
  | true, .free => [false]
  | false, .free => [false, true]
  | _, .on => [false]
  | _, _ => []
def FlD (P : Program) (w : World) (K : PySem.W.Frag) (H : Hp) (r : Addr) (nm : Str) (bs : List Bool) (F : Bool → Al.Sh Str) : Prop := ∃ o, ∃ xs : List (Bool × Addr × Addr), H r = some (.frz o (dnO P w r (xs.map fun x => (nk2 (nm, x.1), x.2.1, V.ref x.2.2)))) ∧ xs.map (·.1) = bs ∧ ∀ x ∈ xs, At2 K H (nm, x.1) x.2.1 ∧ ShF P w K H x.2.2 (F x.1)
def spFlips (P : Program) (w : World) (K : PySem.W.Frag) : Sp := fun vs H Q _ => ∃ (pl md fd la : Addr) (loose : List Str) (fl : Str → Bool → Al.Sh Str) (dom : Str → Bool → Prop) (mv : Str → Al.Mv Str) (ns : NsT) (m B : Nat) (text : Str) (l : LnS), vs = [.ref pl, .ref la] ∧
  PlAt P w K H pl md fd loose fl dom mv ns m ∧ PlIn loose fl dom mv ns B ∧ LnAt K H la text l ∧ Al.LOk ns l ∧ ∀ H' r, Same H H' → H r = none → FlD P w K H' r l.name (flB l) (flS loose mv l) → Q (.ref r) H'
def spPlI (P : Program) (w : World) (K : PySem.W.Frag) : Sp := fun vs H Q _ => ∃ (x dx p : Addr), vs = [.ref x, .ref p] ∧ H x = some (.ins (He.ga K "Plan") dx []) ∧ ∀ H' md fd, H md = none → H fd = none → KeptBut x H H' → H' x = some (.ins (He.ga K "Plan") dx (plF p md fd)) → H' md = some (.dK []) → H' fd = some (dnO P w fd []) → md ≠ fd → Q .non H'
theorem addrs_of {α β : Type} {R : α → β → Prop} : ∀ {l : List α}, (∀ x ∈ l, ∃ y, R x y) → ∃ ys : List β, ys.length = l.length ∧ ∀ (i : Nat) x y, l[i]? = some x → ys[i]? = some y → R x y
  | [], _ => ⟨[], rfl, fun i x y h _ => by simp at h⟩
  | a :: l, h => by
    obtain ⟨y, hy⟩ := h a (List.mem_cons_self ..)
    obtain ⟨ys, e, q⟩ := addrs_of (l := l) fun x hx => h x (List.mem_cons_of_mem _ hx)
    refine ⟨y :: ys, by rw [List.length_cons, List.length_cons, e], fun i x z h1 h2 => ?_⟩
    cases i with
    | zero =>
      cases h1
      cases h2
      exact hy
    | succ i => exact q i x z h1 h2
theorem DGet.at_ {H : Hp} {a : Addr} {kvs : List (Key × V)} {x : Str} {v : V} (e : H a = some (.dK kvs)) (hv : valV kvs (Sum.inr x) = some v) : DGet H a (.str x) (some v) := by
  have z := DGet.k (k := Sum.inr x) e
  rw [hv] at z
  exact z
theorem pe_fldP {X : Cx} {e : PySem.Expr} {f : Str} {pos : Pos} {ta : TE} (K : PySem.W.Frag) (he : PE X e ta) (hb : attributeBase e f X.env (eval e X.env) = eval e X.env) (hK : X.K = K := by rfl) : PE X (.Attribute e f pos) (tFld K ta f) := by
  subst hK
  exact pe_fld he hb
theorem ite_seq {a : Str} {A B : Prop} (h : A) : if decide (V.str a = V.str a) = true then A else B := by
  rw [decide_eq_true rfl]
  exact h
theorem ite_sne {a b : Str} {A B : Prop} (ne : a ≠ b) (h : B) : if decide (V.str a = V.str b) = true then A else B := by
  rw [decide_eq_false (fun z => ne (by cases z; rfl))]
  exact h
theorem disp1 {P : Program} {w : World} {K : PySem.W.Frag} {H : Hp} {D q : Addr} {k : K3} {v : Int} {od : Obj} (e : H D = some (dnO P w D [])) (at3 : At3 K H k q) :
    ShF P w K (upd (upd H D (dnO P w D (nPuts [] [(nk3 k, q, V.int v)]))) D (.frz od (dnO P w D (nPuts [] [(nk3 k, q, V.int v)])))) D [(k, v)] := by
  rw [upd_upd]
  refine ⟨od, [(nk3 k, q, .int v)], upd_same, fun x hx => ?_, rfl⟩
  rw [List.mem_singleton.mp hx]
  exact .of3 (at3.tk (.put e trivial))
theorem disp_sm {H0 H : Hp} {D : Addr} {a b : HO} (s : Same H0 H) (hD : H0 D = none) : Same H0 (upd (upd H D a) D b) := sm_put (sm_put s hD) hD
theorem Tk.putput {H : Hp} {D : Addr} {a b u : HO} (h : H D = some u) (mu : Mut (some u)) : Tk H (upd (upd H D a) D b) := by
  rw [upd_upd]
  exact .put h mu
theorem mv_made {P : Program} {w : World} {K : PySem.W.Frag} {H0 H : Hp} {p q : Addr} {Q : VK} {E : XK} (m : Al.Mv Str) (s : Same H0 H) (hp : SqT K H p (m.pw.map V.int)) (hq : ShF P w K H q m.sh) (k : ∀ H' r, Same H0 H' → H0 r = none → MvAt P w K H' r m → Q (.ref r) H') :
    ∀ x dx, H x = none → H dx = none → dx ≠ x → spMvI K [.ref x, .bl m.over, .int m.sign, .ref p, .ref q] (upd (upd H dx (.own x)) x (.ins (He.ga K "Move") dx [])) (fun v H2 => v = .non ∧ Q (.ref x) H2) E := by
  intro x dz hx hdz ne
  refine ⟨x, dz, p, q, _, _, rfl, upd_same, rfl, ?_⟩
  rw [upd_upd]
  have sx : Same H (upd (upd H dz (.own x)) x (.ins (He.ga K "Move") dz (mvF m.over m.sign p q))) := sm_put (Same.new hdz) hx
  exact k _ x (s.trans sx) (s.free hx) ⟨dz, p, q, upd_same, sq_tk hp (.same sx), hq.tk (.same sx)⟩
theorem _root_.Al.LOk.rows {ns : NsT} {l : LnS} (h : Al.LOk ns l) : (∀ x ∈ l.row, ∃ k, (k, x) ∈ ns) ∧ l.row.length ≤ 6 := by
  cases h with
  | frmM nm a b ha hb =>
    refine ⟨fun x hx => ?_, by show 3 ≤ 6; decide⟩
    simp only [Al.Ln.row, List.mem_cons, List.not_mem_nil, or_false] at hx
    rcases hx with rfl | rfl | rfl
    · exact ⟨_, hb⟩
    · exact ⟨_, ha⟩
    · exact ⟨_, hb⟩
  | frmP nm p a hp ha =>
    refine ⟨fun x hx => ?_, by show 3 ≤ 6; decide⟩
    simp only [Al.Ln.row, List.mem_cons, List.not_mem_nil, or_false] at hx
    rcases hx with rfl | rfl | rfl
    · exact ⟨_, ha⟩
    · exact ⟨_, hp⟩
    · exact ⟨_, ha⟩
  | about nm p a hp ha =>
    refine ⟨fun x hx => ?_, by show 3 ≤ 6; decide⟩
    simp only [Al.Ln.row, List.mem_cons, List.not_mem_nil, or_false] at hx
    rcases hx with rfl | rfl | rfl
    · exact ⟨_, ha⟩
    · exact ⟨_, hp⟩
    · exact ⟨_, ha⟩
  | is_ mir nm a row hr ha hk h5 => exact ⟨hk, Nat.le_succ_of_le h5⟩
  | _ => exact ⟨fun x hx => (by cases hx), Nat.zero_le _⟩
theorem nGet_none {es : List NE} {k : NestedKey} (h : ∀ y ∈ es, k ≠ y.1) : nGet es k = none := by
  unfold nGet
  rw [List.find?_eq_none.mpr fun y hy => by simpa using (h y hy).symm]
  rfl
theorem nPuts_new : ∀ {ns : List NA} {es : List NE}, (ns.map (·.1)).Nodup → (∀ x ∈ ns, ∀ y ∈ es, x.1 ≠ y.1) → nPuts es ns = es ++ ns
  | [], es, _, _ => (List.append_nil es).symm
  | x :: ns, es, nd, h => by
    have e : nPut es x.1 x.2.1 x.2.2 = es ++ [x] := by
      unfold nPut
      rw [nGet_none (h x (List.mem_cons_self ..)), if_neg (by decide)]
    rw [List.map_cons, List.nodup_cons] at nd
    show nPuts (nPut es x.1 x.2.1 x.2.2) ns = _
    rw [e, nPuts_new nd.2 fun z hz y hy => ?_, List.append_assoc]
    · rfl
    · rcases List.mem_append.mp hy with q | q
      · exact h z (List.mem_cons_of_mem _ hz) y q
      · rw [List.mem_singleton.mp q]
        intro c
        exact nd.1 (c ▸ List.mem_map_of_mem (f := (·.1)) hz)
theorem fld_made {P : Program} {w : World} {K : PySem.W.Frag} {H : Hp} {D : Addr} {od : Obj} {nm : Str} {xs : List (Bool × Addr × Addr)} {F : Bool → Al.Sh Str} (e : H D = some (dnO P w D [])) (nd : (xs.map (·.1)).Nodup) (h : ∀ x ∈ xs, At2 K H (nm, x.1) x.2.1 ∧ ShF P w K H x.2.2 (F x.1)) :
    FlD P w K (upd (upd H D (dnO P w D (nPuts [] (xs.map fun x => (nk2 (nm, x.1), x.2.1, V.ref x.2.2))))) D (.frz od (dnO P w D (nPuts [] (xs.map fun x => (nk2 (nm, x.1), x.2.1, V.ref x.2.2)))))) D nm (xs.map (·.1)) F := by
  have n2 : ((xs.map fun x => (nk2 (nm, x.1), x.2.1, V.ref x.2.2)).map fun z : NA => z.1).Nodup := by
    rw [List.map_map]
    have z : (((fun z : NA => z.1) ∘ fun x : Bool × Addr × Addr => ((nk2 (nm, x.1), x.2.1, V.ref x.2.2) : NA))) = (fun b => nk2 (nm, b)) ∘ fun x => x.1 := rfl
    rw [z, ← List.map_map]
    exact List.Pairwise.map _ (fun a b q c => q (by have := nk2_inj c; cases this; rfl)) nd
  have z := nPuts_new (es := []) n2 fun x _ y hy => by cases hy
  rw [z, upd_upd]
  refine ⟨od, xs, upd_same, rfl, fun x hx => ?_⟩
  obtain ⟨h1, h2⟩ := h x hx
  exact ⟨h1.tk (.put e trivial), h2.tk (.put e trivial)⟩
theorem add_pow {a c m n : Nat} (h : a < 2 ^ m) (hc : c ≤ 2 ^ 12) (hm : 12 ≤ m) (hn : m + 1 ≤ n) : c + a < 2 ^ n := by
  have h1 : 2 ^ 12 ≤ 2 ^ m := Nat.pow_le_pow_right (by decide) hm
  have h2 : 2 ^ (m + 1) ≤ 2 ^ n := Nat.pow_le_pow_right (by decide) hn
  rw [Nat.pow_succ] at h2
  omega
end Lm

namespace Lm
open PySem PySem.Spec PyProof.Rows L2
/-! ## Plans grow line by line -/
theorem nGet_put (es : List NE) (k k' : NestedKey) (b : Addr) (v : V) : nGet (nPut es k b v) k' = if k' = k then some v else nGet es k' := by
  unfold nPut
  cases q : nGet es k with
  | none =>
    rw [if_neg (by decide)]
    by_cases c : k' = k
    · rw [if_pos c, c]
      have hn : es.find? (fun x => decide (x.1 = k)) = none := by
        cases z : es.find? (fun x => decide (x.1 = k)) with
        | none => rfl
        | some y =>
          unfold nGet at q
          rw [z] at q
          cases q
      unfold nGet
      rw [List.find?_append, hn]
      simp
    · rw [if_neg c]
      unfold nGet
      rw [List.find?_append]
      have : List.find? (fun x : NE => decide (x.1 = k')) [(k, b, v)] = none := by
        rw [List.find?_cons, decide_eq_false (fun z => c (Eq.symm z))]
        rfl
      rw [this, Option.or_none]
  | some u =>
    rw [if_pos (show (some u).isSome = true from rfl)]
    have hk : ∃ x ∈ es, x.1 = k := by
      unfold nGet at q
      obtain ⟨x, hx, _⟩ := Option.map_eq_some_iff.mp q
      exact ⟨x, List.mem_of_find?_eq_some hx, by simpa using List.find?_some hx⟩
    clear q
    unfold nGet
    induction es with
    | nil => obtain ⟨x, hx, _⟩ := hk; cases hx
    | cons y es ih =>
      rw [List.map_cons, List.find?_cons, List.find?_cons]
      by_cases c : k' = k
      · rw [if_pos c] at ih ⊢
        subst c
        by_cases d : y.1 = k'
        · rw [if_pos d, decide_eq_true (show (y.1, y.2.1, v).1 = k' from d)]
          rfl
        · rw [if_neg d, decide_eq_false d]
          refine ih ?_
          obtain ⟨x, hx, e⟩ := hk
          rcases List.mem_cons.mp hx with z | z
          · exact (d (z ▸ e)).elim
          · exact ⟨x, z, e⟩
      · rw [if_neg c] at ih ⊢
        by_cases d : y.1 = k'
        · have n : ¬ y.1 = k := fun z => c (d.symm.trans z)
          rw [if_neg n, decide_eq_true d]
        · have e1 : decide ((if y.1 = k then (y.1, y.2.1, v) else y).1 = k') = false := by
            split <;> exact decide_eq_false d
          rw [e1, decide_eq_false d]
          by_cases hk' : ∃ x ∈ es, x.1 = k
          · exact ih hk'
          · have : es.map (fun x => if x.1 = k then (x.1, x.2.1, v) else x) = es := by
              conv => rhs; rw [← List.map_id es]
              exact List.map_congr_left fun x hx => if_neg fun z => hk' ⟨x, hx, z⟩
            rw [this]
theorem FlM.put {P : Program} {w : World} {K : PySem.W.Frag} {H : Hp} {fd : Addr} {fl : Str → Bool → Al.Sh Str} {dom dom' : Str → Bool → Prop} {m : Nat} {es : List NE} {nm : Str} {b : Bool} {q d : Addr} (e : H fd = some (dnO P w fd es)) (l : es.length ≤ m) (k : KsOk K H es)
    (h : ∀ n b, dom n b → ∃ d, nGet es (nk2 (n, b)) = some (.ref d) ∧ ShF P w K H d (fl n b)) (a2 : At2 K H (nm, b) q) (S : ShF P w K H d (fl nm b)) (hd : ∀ n c, dom' n c → dom n c ∨ (n = nm ∧ c = b)) : FlM P w K (upd H fd (dnO P w fd (nPut es (nk2 (nm, b)) q (.ref d)))) fd fl dom' (m + 1) := by
  have t : Tk H (upd H fd (dnO P w fd (nPut es (nk2 (nm, b)) q (.ref d)))) := .put e trivial
  refine ⟨_, upd_same, Nat.le_trans (nPut_le _ _ _ _) (Nat.succ_le_succ l), (k.put (.of2 a2)).tk t, fun n c hc => ?_⟩
  rw [nGet_put]
  by_cases z : nk2 (n, c) = nk2 (nm, b)
  · have z2 := nk2_inj z
    cases z2
    exact ⟨d, if_pos rfl, S.tk t⟩
  · rw [if_neg z]
    rcases hd n c hc with q1 | ⟨rfl, rfl⟩
    · obtain ⟨d', e1, e2⟩ := h n c q1
      exact ⟨d', e1, e2.tk t⟩
    · exact (z rfl).elim
theorem val_none {kvs : List (Key × V)} {ns : NsT} {x : Str} (h : kvs.map (·.1) = ns.map (fun p => Sum.inr p.2)) (hx : ∀ k, (k, x) ∉ ns) : valV kvs (Sum.inr x) = none := by
  unfold valV
  rw [List.find?_eq_none.mpr]
  · rfl
  · intro kv hkv
    have : kv.1 ∈ ns.map (fun p => (Sum.inr p.2 : Key)) := h ▸ List.mem_map_of_mem (f := (·.1)) hkv
    obtain ⟨p, hp, e⟩ := List.mem_map.mp this
    rw [← e]
    simp only [decide_eq_true_eq]
    intro z
    injection z with z
    exact hx p.1 (by rw [← z]; exact hp)
theorem MdAt.put {P : Program} {w : World} {K : PySem.W.Frag} {H : Hp} {md r : Addr} {mv : Str → Al.Mv Str} {ns : NsT} {kvs : List (Key × V)} {mir : Bool} {x : Str} {m : Al.Mv Str} (e : H md = some (.dK kvs)) (ks : kvs.map (·.1) = ns.map (fun p => Sum.inr p.2)) (h : ∀ k a, (k, a) ∈ ns → ∃ y, valV kvs (Sum.inr a) = some (.ref y) ∧ MvAt P w K H y (mv a))
    (hx : ∀ k, (k, x) ∉ ns) (hm : MvAt P w K H r m) : MdAt P w K (upd H md (.dK (putK kvs (Sum.inr x) (.ref r)))) md (fun a => if a = x then m else mv a) (ns ++ [(mir, x)]) := by
  have vn := val_none ks hx
  have t : Tk H (upd H md (.dK (putK kvs (Sum.inr x) (.ref r)))) := .put e trivial
  have kp : ∀ {y : Addr} {u : Al.Mv Str}, MvAt P w K H y u → MvAt P w K (upd H md (.dK (putK kvs (Sum.inr x) (.ref r)))) y u := fun hy => hy.keep t fun dx fs z => by
    rw [upd_ne (fun c => by rw [c, e] at z; cases z)]
    exact z
  refine ⟨_, upd_same, ?_, fun k a ha => ?_⟩
  · rw [putK_new _ vn, List.map_append, ks, List.map_append]
    rfl
  · rw [valV_put]
    by_cases c : a = x
    · refine ⟨r, if_pos (by rw [c]), ?_⟩
      show MvAt P w K _ r (if a = x then m else mv a)
      rw [if_pos c]
      exact kp hm
    · rw [if_neg (fun z => c (by injection z))]
      show ∃ y, valV kvs (Sum.inr a) = some (V.ref y) ∧ MvAt P w K _ y (if a = x then m else mv a)
      rw [if_neg c]
      rcases List.mem_append.mp ha with q | q
      · obtain ⟨y, e1, e2⟩ := h k a q
        exact ⟨y, e1, kp e2⟩
      · rw [List.mem_singleton] at q
        cases q
        exact (c rfl).elim
theorem flB_iff {l : LnS} (b : Bool) : b ∈ flB l ↔ Al.newB l b = true := by
  unfold flB Al.newB
  rcases l with ⟨mir, nm, fm, oth⟩
  cases mir <;> cases fm <;> cases b <;> simp
theorem flB_le (l : LnS) : (flB l).length ≤ 2 := by
  unfold flB
  rcases l with ⟨mir, nm, fm, oth⟩
  cases mir <;> cases fm <;> first | exact Nat.zero_le _ | exact Nat.le_refl _ | exact Nat.le_succ _
def isLoose (l : LnS) : Bool := l.mir && (decide (l.fm = .free) || decide (l.fm = .thr))
def looseS (ls : List LnS) : List Str := (ls.filter isLoose).map fun l => l.name
def nsS (ls : List LnS) : NsT := ls.map fun l => (l.mir, l.name)
/-- lines each of which can stand behind those ahead of it -/
structure VB (ls : List LnS) : Prop where
  ok : ∀ (i : Nat) l, ls[i]? = some l → Al.LOk (nsS (ls.take i)) l ∧ ∀ k, (k, l.name) ∉ nsS (ls.take i)
  n : ls.length ≤ 12
  lo : (looseS ls).length ≤ 12
  is_ : (ls.filter fun l => decide (l.fm = .is_)).length ≤ 3
def stS (ls : List LnS) : Al.Pst Str := ls.foldl (Al.Pst.step (looseS ls)) (Al.Pst.init (looseS ls).length)
def stI (loose : List Str) (ls : List LnS) : Al.Pst Str := ls.foldl (Al.Pst.step loose) (Al.Pst.init loose.length)
theorem stI_ns (loose : List Str) (ls : List LnS) : (stI loose ls).ns = nsS ls := by
  unfold stI
  have : ∀ (ls : List LnS) (st : Al.Pst Str), (ls.foldl (Al.Pst.step loose) st).ns = st.ns ++ nsS ls := by
    intro ls
    induction ls with
    | nil => intro st; exact (List.append_nil _).symm
    | cons l ls ih =>
      intro st
      rw [List.foldl_cons, ih]
      show (st.ns ++ [(l.mir, l.name)]) ++ nsS ls = _
      rw [List.append_assoc]
      rfl
  rw [this]
  rfl
theorem stI_take {loose : List Str} {ls : List LnS} {i : Nat} {l : LnS} (h : ls[i]? = some l) : stI loose (ls.take (i + 1)) = (stI loose (ls.take i)).step loose l := by
  unfold stI
  exact foldl_take _ _ _ h
def sS (ls : List LnS) : Nat := ls.foldl (fun s l => Al.fac l * s) 1
def bS (i : Nat) : Nat := 17 * 2 ^ i - 3
theorem bS_step (i : Nat) : 2 * bS i + 3 = bS (i + 1) := by
  unfold bS
  have : 1 ≤ 2 ^ i := Nat.pow_pos (by decide)
  rw [Nat.pow_succ]
  omega
theorem VB.iv {ls : List LnS} (v : VB ls) {loose : List Str} (hl : loose.length ≤ 12) : ∀ i, i ≤ ls.length → Al.Iv loose (stI loose (ls.take i)) (sS (ls.take i)) (bS i)
  | 0, _ => Al.Iv.init _ _ rfl
  | i + 1, h => by
    obtain ⟨l, hi⟩ : ∃ l, ls[i]? = some l := ⟨_, List.getElem?_eq_getElem (by omega)⟩
    obtain ⟨ok, new⟩ := v.ok i l hi
    rw [← stI_ns loose] at ok new
    have ih := v.iv hl i (by omega)
    have len : (stI loose (ls.take i)).ns.length ≤ 11 := by
      rw [stI_ns]
      unfold nsS
      rw [List.length_map, List.length_take]
      have := v.n
      omega
    have z := (ih.step ok new len hl).1
    rw [bS_step] at z
    have e : sS (ls.take (i + 1)) = Al.fac l * sS (ls.take i) := by
      unfold sS
      exact foldl_take _ _ _ hi
    rw [stI_take hi, e]
    exact z
theorem sS_le {ls : List LnS} (v : VB ls) (i : Nat) : sS (ls.take i) ≤ 1000000 := by
  -- three to the number of lines behind the first, five thirds for each that winds
  have key : ∀ (r : List LnS) (s : Nat), r.foldl (fun s l => Al.fac l * s) s * 3 ^ (r.filter fun l => decide (l.fm = .is_)).length ≤ s * (3 ^ r.length * 5 ^ (r.filter fun l => decide (l.fm = .is_)).length) := by
    intro r
    induction r with
    | nil => intro s; exact Nat.le_refl _
    | cons l r ih =>
      intro s
      rw [List.foldl_cons, List.length_cons, List.filter_cons]
      have z := ih (Al.fac l * s)
      by_cases c : l.fm = .is_
      · rw [if_pos (decide_eq_true c), List.length_cons, Nat.pow_succ, Nat.pow_succ, Nat.pow_succ]
        have f : Al.fac l = 5 := by
          unfold Al.fac
          rw [c]
        rw [f] at z ⊢
        have z2 := Nat.mul_le_mul_right 3 z
        calc _ = (r.foldl (fun s l => Al.fac l * s) (5 * s)) * 3 ^ (r.filter fun l => decide (l.fm = .is_)).length * 3 := by rw [Nat.mul_assoc]
          _ ≤ _ := z2
          _ = _ := by simp only [Nat.mul_assoc, Nat.mul_comm, Nat.mul_left_comm]
      · rw [if_neg (by rw [decide_eq_false c]; decide), Nat.pow_succ]
        have f : Al.fac l ≤ 3 := by
          unfold Al.fac
          split
          · decide
          · rename_i q
            exact (c q).elim
          · decide
        refine Nat.le_trans z ?_
        calc _ ≤ 3 * s * (3 ^ r.length * 5 ^ (r.filter fun l => decide (l.fm = .is_)).length) := Nat.mul_le_mul_right _ (Nat.mul_le_mul_right _ f)
          _ = _ := by simp only [Nat.mul_assoc, Nat.mul_comm, Nat.mul_left_comm]
  cases hl : ls with
  | nil => simp [sS]
  | cons a r =>
    cases i with
    | zero => simp [sS]
    | succ i =>
      have ok := (v.ok 0 a (by rw [hl]; rfl)).1
      rw [List.take_zero] at ok
      have fa : Al.fac a = 1 := by
        cases ok with
        | free => rfl
        | thr _ _ h => cases h
        | along _ _ _ h => cases h
        | across _ _ _ h => cases h
        | frmM _ _ _ h => cases h
        | frmP _ _ _ h => cases h
        | is_ _ _ _ _ _ h => cases h
        | on _ _ h => cases h
        | about _ _ _ h => cases h
        | amid _ _ _ h => cases h
      have e : sS ((a :: r).take (i + 1)) = (r.take i).foldl (fun s l => Al.fac l * s) 1 := by
        unfold sS
        rw [List.take_succ_cons, List.foldl_cons, fa]
      rw [e]
      have z := key (r.take i) 1
      have h1 : (r.take i).length ≤ 11 := by
        have h0 := v.n
        rw [hl, List.length_cons] at h0
        rw [List.length_take]
        omega
      have h2 : ((r.take i).filter fun l => decide (l.fm = .is_)).length ≤ 3 := by
        have h0 := v.is_
        rw [hl] at h0
        refine Nat.le_trans (List.Sublist.length_le ?_) h0
        exact ((List.take_sublist i r).filter _).trans ((List.sublist_cons_self a r).filter _)
      have h3 : 3 ^ (r.take i).length ≤ 3 ^ 11 := Nat.pow_le_pow_right (by decide) h1
      generalize ((r.take i).filter fun l => decide (l.fm = .is_)).length = e at z h2
      generalize (r.take i).foldl (fun s l => Al.fac l * s) 1 = q at z ⊢
      generalize 3 ^ (r.take i).length = p at z h3
      have h4 : p ≤ 177147 := h3
      rcases (by omega : e = 0 ∨ e = 1 ∨ e = 2 ∨ e = 3) with rfl | rfl | rfl | rfl <;> omega
theorem bS_le {i : Nat} (h : i ≤ 12) : bS i ≤ 100000 := by
  unfold bS
  have : 2 ^ i ≤ 2 ^ 12 := Nat.pow_le_pow_right (by decide) h
  omega
theorem VB.pli {ls : List LnS} (v : VB ls) {i : Nat} (hi : i ≤ ls.length) : PlIn (looseS ls) (stI (looseS ls) (ls.take i)).ev.fl (stI (looseS ls) (ls.take i)).ev.kn (stI (looseS ls) (ls.take i)).mv (stI (looseS ls) (ls.take i)).ns 1000000 := by
  refine PlIn.of (v.iv v.lo i hi) (sS_le v i) (bS_le (Nat.le_trans hi v.n)) ?_ v.lo
  rw [stI_ns]
  unfold nsS
  rw [List.length_map, List.length_take]
  have := v.n
  omega
def spIsLoose (K : PySem.W.Frag) : Sp := fun vs H Q _ => ∃ (a : Addr) (t : Str) (l : LnS), vs = [.ref a] ∧ LnAt K H a t l ∧ Q (.bl (isLoose l)) H
def LnsAt (K : PySem.W.Frag) (H : Hp) (as : List Addr) (ts : List Str) (ls : List LnS) : Prop := as.length = ls.length ∧ ∀ (i : Nat) a l, as[i]? = some a → ls[i]? = some l → ∃ t, ts[i]? = some t ∧ LnAt K H a t l
def spPlan (P : Program) (w : World) (K : PySem.W.Frag) : Sp := fun vs H Q _ => ∃ (la : Addr) (as : List Addr) (ts : List Str) (ls : List LnS), vs = [.ref la] ∧ SqL K H la (as.map V.ref) ∧ LnsAt K H as ts ls ∧ VB ls ∧
  ∀ H' r md fd, Same H H' → H r = none → H md = none → H fd = none → PlAt P w K H' r md fd (looseS ls) (stS ls).ev.fl (stS ls).ev.kn (stS ls).mv (nsS ls) (2 * ls.length) → Q (.ref r) H'
theorem nGet_xs {nm : Str} : ∀ {xs : List (Bool × Addr × Addr)} {x : Bool × Addr × Addr}, (xs.map (·.1)).Nodup → x ∈ xs → nGet (xs.map fun x => (nk2 (nm, x.1), x.2.1, V.ref x.2.2)) (nk2 (nm, x.1)) = some (.ref x.2.2)
  | [], _, _, h => by cases h
  | y :: xs, x, nd, h => by
    rw [List.map_cons, List.nodup_cons] at nd
    unfold nGet
    rw [List.map_cons, List.find?_cons]
    rcases List.mem_cons.mp h with q | q
    · rw [q, decide_eq_true rfl]
      rfl
    · have ne : ¬ nk2 (nm, y.1) = nk2 (nm, x.1) := fun z => nd.1 (by
        have e := nk2_inj z
        rw [show y.1 = x.1 from congrArg Prod.snd e]
        exact List.mem_map_of_mem (f := (·.1)) q)
      rw [decide_eq_false ne]
      exact nGet_xs nd.2 q
theorem flB_nd (l : LnS) : (flB l).Nodup := by
  unfold flB
  rcases l with ⟨mir, nm, fm, oth⟩
  cases mir <;> cases fm <;> simp
theorem kb_ne {P : Program} {w : World} {H H' : Hp} {fd : Addr} {es : List NE} (kb : KeptBut fd H H') (e : H fd = some (dnO P w fd es)) {b : Addr} {o : HO} (hb : H b = some o) (ne : o ≠ dnO P w fd es) : H' b = some o := kb b o hb (fun z => ne (by rw [z, e] at hb; exact (Option.some.inj hb).symm))
theorem MdAt.kept {P : Program} {w : World} {K : PySem.W.Frag} {H H' : Hp} {md fd : Addr} {mv : Str → Al.Mv Str} {ns : NsT} {es : List NE} (h : MdAt P w K H md mv ns) (kb : KeptBut fd H H') (e : H fd = some (dnO P w fd es)) : MdAt P w K H' md mv ns := by
  obtain ⟨kvs, h1, h2, h3⟩ := h
  refine ⟨kvs, kb_ne kb e h1 (by intro z; cases z), h2, fun k a ha => ?_⟩
  obtain ⟨x, e1, e2⟩ := h3 k a ha
  exact ⟨x, e1, e2.keep (kb.tk e trivial) fun dx fs q => kb_ne kb e q (by intro z; cases z)⟩
theorem LnAt.kept {P : Program} {w : World} {K : PySem.W.Frag} {H H' : Hp} {a fd : Addr} {t : Str} {l : LnS} {es : List NE} (h : LnAt K H a t l) (kb : KeptBut fd H H') (e : H fd = some (dnO P w fd es)) : LnAt K H' a t l := h.keep (kb.tk e trivial) fun dx fs q => kb_ne kb e q (by intro z; cases z)
theorem FlM.mono {P : Program} {w : World} {K : PySem.W.Frag} {H : Hp} {fd : Addr} {fl fl' : Str → Bool → Al.Sh Str} {dom dom' : Str → Bool → Prop} {m m' : Nat} (h : FlM P w K H fd fl dom m) (hm : m ≤ m') (hd : ∀ n b, dom' n b → dom n b ∧ fl' n b = fl n b) : FlM P w K H fd fl' dom' m' := by
  obtain ⟨es, h1, h2, h3, h4⟩ := h
  refine ⟨es, h1, Nat.le_trans h2 hm, h3, fun n b q => ?_⟩
  obtain ⟨q1, q2⟩ := hd n b q
  rw [q2]
  exact h4 n b q1
theorem FlM.md {P : Program} {w : World} {K : PySem.W.Frag} {H : Hp} {fd md : Addr} {fl : Str → Bool → Al.Sh Str} {dom : Str → Bool → Prop} {m : Nat} {kvs : List (Key × V)} {o : HO} (h : FlM P w K H fd fl dom m) (e : H md = some (.dK kvs)) : FlM P w K (upd H md o) fd fl dom m := by
  obtain ⟨es, h1, h2, h3, h4⟩ := h
  have t : Tk H (upd H md o) := .put e trivial
  refine ⟨es, by rw [upd_ne (fun z => by rw [z, e] at h1; cases h1)]; exact h1, h2, h3.tk t, fun n b q => ?_⟩
  obtain ⟨d, q1, q2⟩ := h4 n b q
  exact ⟨d, q1, q2.tk t⟩
theorem ite_eqS {a b : Str} {A B : Prop} (e : a = b) (h : A) : if decide (V.str a = V.str b) = true then A else B := by
  rw [decide_eq_true (by rw [e])]
  exact h
theorem ite_nEq {a b : Str} {A B : Prop} (e : a = b) (h : B) : if (!decide (V.str a = V.str b)) = true then A else B := by
  rw [decide_eq_true (by rw [e])]
  exact h
end Lm

namespace Lm
open PySem PySem.Spec PyProof.Rows L2
/-! ## Written dicts with text keys: in, d[k], for -/
def keyS (e : DictEntry) : Option Str := match e.key with
  | .str x _ => some x
  | _ => none
structure KTab (K : PySem.W.Frag) (w : World) (d : Addr) (kvs : List (Str × V)) : Prop where
  ex : ∃ es n, KDict K w d es n ∧ es.toList.map keyS = kvs.map fun p => some p.1
  val : ∀ p ∈ kvs, ∃ u, PySem.W.nsIn K d p.1 = some (some u) ∧ RelV p.2 u
section
variable {K : PySem.W.Frag} {w : World} {d : Addr} {kvs : List (Str × V)}
theorem KTab.miss (k : KTab K w d kvs) {z : Str} (h : z ∉ kvs.map (·.1)) : PySem.W.nsIn K d z = some none := by
  obtain ⟨es, n, D, e⟩ := k.ex
  have key : ∀ x ∈ es.toList, ∃ y t, x.key = .str y t ∧ y ≠ z := fun x hx => by
    have : keyS x ∈ kvs.map fun p => some p.1 := e ▸ List.mem_map_of_mem (f := keyS) hx
    obtain ⟨p, hp, ep⟩ := List.mem_map.mp this
    unfold keyS at ep
    split at ep
    · rename_i y t q
      exact ⟨y, t, q, fun c => h (by rw [← c, ← Option.some.inj ep]; exact List.mem_map_of_mem (f := (·.1)) hp)⟩
    · cases ep
  unfold PySem.W.nsIn
  rw [D.at_]
  have h1 : es.toList.find? (·.key.isStr z) = none := List.find?_eq_none.mpr fun x hx => by
    obtain ⟨y, t, q, ne⟩ := key x hx
    rw [q]
    simpa [Value.isStr] using ne
  have h2 : es.toList.any (·.refKey) = false := by
    rw [List.any_eq_false]
    intro x hx
    obtain ⟨y, t, q, _⟩ := key x hx
    unfold DictEntry.refKey
    rw [q]
    exact Bool.false_ne_true
  dsimp only
  rw [h1, h2]
  rfl
def rInT (d : Addr) (kvs : List (Str × V)) : R2 := fun x y H Q => ∃ z, x = .str z ∧ y = .ref d ∧ Q (.bl (decide (z ∈ kvs.map (·.1)))) H
def rIxT (d : Addr) (kvs : List (Str × V)) : R2 := fun x y H Q => ∃ z v, x = .ref d ∧ y = .str z ∧ (z, v) ∈ kvs ∧ Q v H
theorem op_inT {X : Cx} (k : KTab K w d kvs) (hK : X.K = K := by rfl) (hw : X.w = w := by rfl) : OpR X (compareOp .In) (rInT d kvs) := by
  subst hK hw
  obtain ⟨es, n, D, e⟩ := k.ex
  intro pins s σ H x y v u Q I rx ry h
  obtain ⟨z, rfl, rfl, q⟩ := h
  by_cases c : z ∈ kvs.map (·.1)
  · obtain ⟨p, hp, ep⟩ := List.mem_map.mp c
    obtain ⟨u0, e1, _⟩ := k.val p hp
    rw [decide_eq_true c] at q
    exact op_in_kd D pins s σ H _ _ _ _ Q I rx ry ⟨z, some u0, rfl, rfl, by rw [← ep]; exact e1, q⟩
  · rw [decide_eq_false c] at q
    exact op_in_kd D pins s σ H _ _ _ _ Q I rx ry ⟨z, none, rfl, rfl, k.miss c, q⟩
theorem ix_tab {X : Cx} (k : KTab K w d kvs) (hK : X.K = K := by rfl) (hw : X.w = w := by rfl) : IxR X (rIxT d kvs) := by
  subst hK hw
  obtain ⟨es, n, D, e⟩ := k.ex
  intro value slice pins s σ H x y v u Q I rx ry h hs
  obtain ⟨z, r, rfl, rfl, hm, q⟩ := h
  obtain ⟨u0, e1, ru⟩ := k.val _ hm
  exact ix_kdict value slice pins s σ H _ _ _ _ Q I rx ry ⟨d, z, r, rfl, rfl, ⟨es, n, u0, D.at_, D.lit, e1, ru⟩, q⟩ hs
def Itw (ks : List Str) : It := ⟨fun i _ => i < ks.length, fun i H x H' => H' = H ∧ ∃ k, ks[i]? = some k ∧ x = .str k, fun i _ => ks.length ≤ i⟩
theorem walk_tab {ks : List Str} : Walk (Itw ks) ks.length (fun _ => True) (fun i H x H' => H' = H ∧ ∃ k, ks[i]? = some k ∧ x = .str k) :=
  ⟨fun _ _ hi _ => hi, fun _ _ => Nat.le_refl _, fun _ _ _ _ _ _ y => y⟩
theorem turn_kw {P : Program} {tg : PySem.Expr} {es : Array DictEntry} {n : Nat} (it : Addr) (D : KDict K w d es n) (hk : es.toList.map keyS = kvs.map fun p => some p.1) : Turn P w K tg (Itw (kvs.map (·.1))) [it] it (fun i h => h.IsKeyIter it d i es.size n) := by
  have hl : es.size = (kvs.map (·.1)).length := by
    have z := congrArg List.length hk
    rw [List.length_map, List.length_map, Array.length_toList] at z
    rw [List.length_map]
    exact z
  constructor
  · exact List.mem_singleton.mpr rfl
  · intro i h st b hb
    rw [List.mem_singleton] at hb
    subst hb
    obtain ⟨ob, e1, _, e2⟩ := st
    exact ⟨ob, e1, fun v z => by rw [e2] at z; cases z⟩
  · intro i h h' st k
    exact st.at fun ob e1 => k it (List.mem_singleton.mpr rfl) ob e1
  · rintro X rfl rfl rfl _ i pins s σ H E I hf st hi
    obtain ⟨a0, a1, a2, a3, a4, a5⟩ := hf it (List.mem_singleton.mpr rfl)
    have hi2 : i < es.size := by rw [hl]; exact hi
    have he : es[i]? = some es[i] := Array.getElem?_eq_getElem hi2
    refine next_key_item st (I.kIn _ _ D.at_) rfl rfl he fun h' st' sb => ?_
    have I1 : L2.Inv X pins σ H { s with heap := h' } := I.turned (t' := s.toks) (fun b ob hb e => (sb.2 b hb).trans e) a0 a1 a3 a4 a5
    obtain ⟨ob, c1, c2, c3⟩ := id st'
    have z : (es.toList.map keyS)[i]? = (kvs.map fun p => some p.1)[i]? := by rw [hk]
    rw [List.getElem?_map, Array.getElem?_toList, he, List.getElem?_map] at z
    obtain ⟨p, hp, ep⟩ := Option.map_eq_some_iff.mp z.symm
    have key : ∃ t, es[i].key = .str p.1 t := by
      unfold keyS at ep
      split at ep
      · rename_i y t q
        exact ⟨t, by rw [q, Option.some.inj ep]⟩
      · cases ep
    obtain ⟨t, et⟩ := key
    refine ⟨es[i].key, rfl, go_of (s := { s with heap := h' }) c1 c2 c3 (by decide) ?_⟩
    exact ⟨.str p.1, H, I1, ⟨t, et⟩, ⟨rfl, p.1, by rw [List.getElem?_map, hp]; rfl, rfl⟩, st', fun b hb => (hf b hb).1⟩
  · rintro X rfl rfl rfl hc i pins s σ H E I hf st hi
    obtain ⟨a0, a1, a2, a3, a4, a5⟩ := hf it (List.mem_singleton.mpr rfl)
    exact next_key_end (I.ok.hd hc) st (I.kIn _ _ D.at_) rfl rfl (by rw [hl]; exact hi) fun h' eb => ⟨rfl, I.turned (t' := s.toks) (fun b ob hb e => eb b ob hb e) a0 a1 a3 a4 a5⟩
  · intro A i s Q E st h
    exact wpAny_pyIter_keyiter st h
def iTab (d : Addr) (kvs : List (Str × V)) (td : TE) : TI := fun σ H R => td σ H fun x H1 => x = .ref d ∧ R (Itw (kvs.map (·.1))) H1
theorem pi_tab {X : Cx} {tg e : PySem.Expr} {td : TE} (k : KTab K w d kvs) (he : PE X e td) (hK : X.K = K := by rfl) (hw : X.w = w := by rfl) : PI X tg e (iTab d kvs td) := ⟨fun pins s σ H R I h => thn (he.run pins s σ H _ I h) fun u s1 ⟨x, H1, I1, rx, ex, q⟩ => by
  subst hK hw
  obtain ⟨es, n, D, hk⟩ := k.ex
  subst ex
  obtain rfl : u = Value.ref d := rx
  exact iter_keys D.low (I1.kIn _ _ D.at_) ⟨rfl, rfl, rfl⟩ rfl (pi_one (tk := s1.toks) I1 _ (turn_kw _ D hk) ⟨_, Heap.get?_push_size _ rfl, rfl, rfl⟩ q)⟩
end
end Lm

namespace Lm
open PySem PySem.Spec PyProof.Rows L2
/-! ## The words of lines -/
def likeL (ws sg : List Str) : List Bool := List.zipWith (fun x s => if Txt.isupper s = true then nameB x else decide (x = s)) ws sg
def like (ws sg : List Str) : Bool := decide (ws.length = sg.length) && (likeL ws sg).all id
theorem like_len {ws sg : List Str} (h : ws.length ≠ sg.length) : like ws sg = false := by
  unfold like
  rw [decide_eq_false h, Bool.false_and]
theorem like_no {ws sg : List Str} {i : Nat} {x s : Str} (h1 : ws[i]? = some x) (h2 : sg[i]? = some s) (hu : Txt.isupper s = false) (ne : x ≠ s) : like ws sg = false := by
  have m : false ∈ likeL ws sg := by
    unfold likeL
    refine List.mem_iff_getElem?.mpr ⟨i, ?_⟩
    rw [List.getElem?_zipWith, h1, h2]
    dsimp only
    rw [hu, if_neg Bool.false_ne_true, decide_eq_false ne]
  have : (likeL ws sg).all id = false := by
    rw [Bool.eq_false_iff]
    intro z
    exact absurd (List.all_eq_true.mp z _ m) (by decide)
  unfold like
  rw [this, Bool.and_false]
def pats : List (List Str) := [["mirror", "NAME"], ["mirror", "NAME", "through", "P"], ["mirror", "NAME", "along", "A", "through", "P"], ["mirror", "NAME", "across", "A", "through", "P"], ["mirror", "NAME", "from", "A", "in", "B"], ["mirror", "NAME", "is", "ROW"],
  ["peg", "NAME"], ["peg", "NAME", "on", "A"], ["peg", "NAME", "from", "P", "in", "A"], ["peg", "NAME", "from", "P", "about", "Q"], ["peg", "NAME", "amid", "P", "Q"], ["peg", "NAME", "is", "ROW"]]
def fmKv : List (Str × V) := [("mirror NAME", .str "any"), ("mirror NAME through P", .str "through"), ("mirror NAME along A through P", .str "along"), ("mirror NAME across A through P", .str "across"), ("mirror NAME from A in B", .str "from"), ("mirror NAME is ROW", .str "is"),
  ("peg NAME", .str "any"), ("peg NAME on A", .str "on"), ("peg NAME from P in A", .str "from"), ("peg NAME from P about Q", .str "about"), ("peg NAME amid P Q", .str "amid"), ("peg NAME is ROW", .str "is")]
def waKv : List (Str × V) := [("A", .str "mirror"), ("B", .str "mirror"), ("P", .str "peg"), ("Q", .str "peg"), ("ROW", .str "")]
theorem split_pats : (fmKv.map (·.1)).map (fun k => Txt.split k " ") = pats := by decide +kernel
def signsFor (pat : List Str) (n : Nat) : List Str := if pat.getLast? = some ("ROW" : Str) ∧ pat.length < n ∧ n < pat.length + 6 then pat ++ List.replicate (n - pat.length) ("ROW" : Str) else pat
def wordsS (l : LnS) : List Str := match l.fm, l.oth with
  | .free, _ => [wordS l.mir, l.name]
  | .thr, [p] => [wordS l.mir, l.name, "through", p]
  | .along, [a, p] => [wordS l.mir, l.name, "along", a, "through", p]
  | .across, [a, p] => [wordS l.mir, l.name, "across", a, "through", p]
  | .frm, [a, b] => [wordS l.mir, l.name, "from", a, "in", b]
  | .is_, r => wordS l.mir :: l.name :: "is" :: r
  | .on, [a] => [wordS l.mir, l.name, "on", a]
  | .about, [p, q] => [wordS l.mir, l.name, "from", p, "about", q]
  | .amid, [p, q] => [wordS l.mir, l.name, "amid", p, q]
  | _, _ => []
def signsS (l : LnS) : List Str := match l.mir, l.fm with
  | m, .free => [wordS m, "NAME"]
  | m, .thr => [wordS m, "NAME", "through", "P"]
  | m, .along => [wordS m, "NAME", "along", "A", "through", "P"]
  | m, .across => [wordS m, "NAME", "across", "A", "through", "P"]
  | true, .frm => ["mirror", "NAME", "from", "A", "in", "B"]
  | false, .frm => ["peg", "NAME", "from", "P", "in", "A"]
  | m, .is_ => wordS m :: "NAME" :: "is" :: List.replicate l.oth.length "ROW"
  | m, .on => [wordS m, "NAME", "on", "A"]
  | m, .about => [wordS m, "NAME", "from", "P", "about", "Q"]
  | m, .amid => [wordS m, "NAME", "amid", "P", "Q"]
def patS (l : LnS) : Nat := match l.mir, l.fm with
  | true, .free => 0
  | false, .free => 6
  | _, .thr => 1
  | _, .along => 2
  | _, .across => 3
  | true, .frm => 4
  | false, .frm => 8
  | true, .is_ => 5
  | false, .is_ => 11
  | _, .on => 7
  | _, .about => 9
  | _, .amid => 10
structure NmOk (l : LnS) : Prop where
  nm : nameB l.name = true
  oth : ∀ x ∈ l.oth, nameB x = true
  sp : ∀ x ∈ wordsS l, 32 ∉ TL.tl x ∧ 10 ∉ TL.tl x
  wl : ∀ x ∈ wordsS l, x.length ≤ 8
theorem upN : Txt.isupper ("NAME" : Str) = true := by decide +kernel
theorem upA : Txt.isupper ("A" : Str) = true := by decide +kernel
theorem upB : Txt.isupper ("B" : Str) = true := by decide +kernel
theorem upP : Txt.isupper ("P" : Str) = true := by decide +kernel
theorem upQ : Txt.isupper ("Q" : Str) = true := by decide +kernel
theorem upR : Txt.isupper ("ROW" : Str) = true := by decide +kernel
theorem lo1 : Txt.isupper ("mirror" : Str) = false := by decide +kernel
theorem lo2 : Txt.isupper ("peg" : Str) = false := by decide +kernel
theorem lo3 : Txt.isupper ("through" : Str) = false := by decide +kernel
theorem lo4 : Txt.isupper ("along" : Str) = false := by decide +kernel
theorem lo5 : Txt.isupper ("across" : Str) = false := by decide +kernel
theorem lo6 : Txt.isupper ("from" : Str) = false := by decide +kernel
theorem lo7 : Txt.isupper ("in" : Str) = false := by decide +kernel
theorem lo8 : Txt.isupper ("is" : Str) = false := by decide +kernel
theorem lo9 : Txt.isupper ("on" : Str) = false := by decide +kernel
theorem loa : Txt.isupper ("about" : Str) = false := by decide +kernel
theorem lob : Txt.isupper ("amid" : Str) = false := by decide +kernel
theorem lo_word (m : Bool) : Txt.isupper (wordS m) = false := by cases m <;> decide +kernel
theorem likeL_up {x s : Str} {ws sg : List Str} (hu : Txt.isupper s = true) (hx : nameB x = true) : likeL (x :: ws) (s :: sg) = true :: likeL ws sg := by
  show (if Txt.isupper s = true then nameB x else decide (x = s)) :: likeL ws sg = _
  rw [hu, if_pos rfl, hx]
theorem likeL_lo {s : Str} {ws sg : List Str} (hu : Txt.isupper s = false) : likeL (s :: ws) (s :: sg) = true :: likeL ws sg := by
  show (if Txt.isupper s = true then nameB s else decide (s = s)) :: likeL ws sg = _
  rw [hu, if_neg Bool.false_ne_true, decide_eq_true rfl]
theorem likeL_row : ∀ {r : List Str}, (∀ x ∈ r, nameB x = true) → likeL r (List.replicate r.length "ROW") = r.map fun _ => true
  | [], _ => rfl
  | x :: r, h => by
    rw [List.length_cons, List.replicate_succ, likeL_up upR (h x (List.mem_cons_self ..)), likeL_row fun y hy => h y (List.mem_cons_of_mem _ hy)]
    rfl
theorem like_yes {ns : NsT} {l : LnS} (h : Al.LOk ns l) (n : NmOk l) : like (wordsS l) (signsS l) = true := by
  have e : wordsS l ≠ [] ∧ (wordsS l).length = (signsS l).length ∧ (likeL (wordsS l) (signsS l)).all id = true := by
    obtain ⟨hn, ho, _, _⟩ := n
    cases h with
    | free mir nm => exact ⟨by simp [wordsS], rfl, by show (likeL [wordS mir, nm] [wordS mir, "NAME"]).all id = true; rw [likeL_lo (lo_word _), likeL_up upN hn]; rfl⟩
    | thr nm p hp => exact ⟨by simp [wordsS], rfl, by show (likeL ["mirror", nm, "through", p] ["mirror", "NAME", "through", "P"]).all id = true; rw [likeL_lo lo1, likeL_up upN hn, likeL_lo lo3, likeL_up upP (ho p (by simp))]; rfl⟩
    | along nm a p ha hp => exact ⟨by simp [wordsS], rfl, by show (likeL ["mirror", nm, "along", a, "through", p] ["mirror", "NAME", "along", "A", "through", "P"]).all id = true; rw [likeL_lo lo1, likeL_up upN hn, likeL_lo lo4, likeL_up upA (ho a (by simp)), likeL_lo lo3, likeL_up upP (ho p (by simp))]; rfl⟩
    | across nm a p ha hp => exact ⟨by simp [wordsS], rfl, by show (likeL ["mirror", nm, "across", a, "through", p] ["mirror", "NAME", "across", "A", "through", "P"]).all id = true; rw [likeL_lo lo1, likeL_up upN hn, likeL_lo lo5, likeL_up upA (ho a (by simp)), likeL_lo lo3, likeL_up upP (ho p (by simp))]; rfl⟩
    | frmM nm a b ha hb => exact ⟨by simp [wordsS], rfl, by show (likeL ["mirror", nm, "from", a, "in", b] ["mirror", "NAME", "from", "A", "in", "B"]).all id = true; rw [likeL_lo lo1, likeL_up upN hn, likeL_lo lo6, likeL_up upA (ho a (by simp)), likeL_lo lo7, likeL_up upB (ho b (by simp))]; rfl⟩
    | frmP nm p a hp ha => exact ⟨by simp [wordsS], rfl, by show (likeL ["peg", nm, "from", p, "in", a] ["peg", "NAME", "from", "P", "in", "A"]).all id = true; rw [likeL_lo lo2, likeL_up upN hn, likeL_lo lo6, likeL_up upP (ho p (by simp)), likeL_lo lo7, likeL_up upA (ho a (by simp))]; rfl⟩
    | on nm a ha => exact ⟨by simp [wordsS], rfl, by show (likeL ["peg", nm, "on", a] ["peg", "NAME", "on", "A"]).all id = true; rw [likeL_lo lo2, likeL_up upN hn, likeL_lo lo9, likeL_up upA (ho a (by simp))]; rfl⟩
    | about nm p q hp hq => exact ⟨by simp [wordsS], rfl, by show (likeL ["peg", nm, "from", p, "about", q] ["peg", "NAME", "from", "P", "about", "Q"]).all id = true; rw [likeL_lo lo2, likeL_up upN hn, likeL_lo lo6, likeL_up upP (ho p (by simp)), likeL_lo loa, likeL_up upQ (ho q (by simp))]; rfl⟩
    | amid nm p q hp hq => exact ⟨by simp [wordsS], rfl, by show (likeL ["peg", nm, "amid", p, q] ["peg", "NAME", "amid", "P", "Q"]).all id = true; rw [likeL_lo lo2, likeL_up upN hn, likeL_lo lob, likeL_up upP (ho p (by simp)), likeL_up upQ (ho q (by simp))]; rfl⟩
    | is_ mir nm a row hr ha hk h5 =>
      refine ⟨by simp [wordsS], ?_, ?_⟩
      · show (wordS mir :: nm :: "is" :: row).length = (wordS mir :: "NAME" :: "is" :: List.replicate row.length "ROW").length
        simp
      · show (likeL (wordS mir :: nm :: "is" :: row) (wordS mir :: "NAME" :: "is" :: List.replicate row.length "ROW")).all id = true
        rw [likeL_lo (lo_word _), likeL_up upN hn, likeL_lo lo8, likeL_row ho]
        simp
  unfold like
  rw [decide_eq_true e.2.1, e.2.2]
  rfl
theorem signsFor_get {pat : List Str} {n i : Nat} {s : Str} (h : pat[i]? = some s) : (signsFor pat n)[i]? = some s := by
  unfold signsFor
  split
  · rw [List.getElem?_append_left (List.getElem?_eq_some_iff.mp h).1]
    exact h
  · exact h
theorem signsFor_plain {pat : List Str} {n : Nat} (h : pat.getLast? ≠ some ("ROW" : Str)) : signsFor pat n = pat := by
  unfold signsFor
  rw [if_neg fun z => h z.1]
theorem like_not {ns : NsT} {l : LnS} (h : Al.LOk ns l) {i : Nat} {pat : List Str} (hp : pats[i]? = some pat) (hi : i < patS l) : like (wordsS l) (signsFor pat (wordsS l).length) = false := by
  cases h with
  | free mir nm =>
    cases mir with
    | true =>
      exact (Nat.not_lt_zero _ hi).elim
    | false =>
      rcases (show i = 0 ∨ i = 1 ∨ i = 2 ∨ i = 3 ∨ i = 4 ∨ i = 5 by have hi2 : i < 6 := hi; omega) with rfl | rfl | rfl | rfl | rfl | rfl
      · cases hp
        exact like_no (i := 0) (x := "peg") rfl (signsFor_get rfl) lo1 (by decide)
      · cases hp
        exact like_no (i := 0) (x := "peg") rfl (signsFor_get rfl) lo1 (by decide)
      · cases hp
        exact like_no (i := 0) (x := "peg") rfl (signsFor_get rfl) lo1 (by decide)
      · cases hp
        exact like_no (i := 0) (x := "peg") rfl (signsFor_get rfl) lo1 (by decide)
      · cases hp
        exact like_no (i := 0) (x := "peg") rfl (signsFor_get rfl) lo1 (by decide)
      · cases hp
        exact like_no (i := 0) (x := "peg") rfl (signsFor_get rfl) lo1 (by decide)
  | thr nm p hp0 =>
      rcases (show i = 0 by have hi2 : i < 1 := hi; omega) with rfl
      · cases hp
        exact like_len (by rw [signsFor_plain (by decide)]; simp [wordsS, pats])
  | along nm a p ha hp0 =>
      rcases (show i = 0 ∨ i = 1 by have hi2 : i < 2 := hi; omega) with rfl | rfl
      · cases hp
        exact like_len (by rw [signsFor_plain (by decide)]; simp [wordsS, pats])
      · cases hp
        exact like_len (by rw [signsFor_plain (by decide)]; simp [wordsS, pats])
  | across nm a p ha hp0 =>
      rcases (show i = 0 ∨ i = 1 ∨ i = 2 by have hi2 : i < 3 := hi; omega) with rfl | rfl | rfl
      · cases hp
        exact like_len (by rw [signsFor_plain (by decide)]; simp [wordsS, pats])
      · cases hp
        exact like_len (by rw [signsFor_plain (by decide)]; simp [wordsS, pats])
      · cases hp
        exact like_no (i := 2) (x := "across") rfl (signsFor_get rfl) lo4 (by decide)
  | frmM nm a b ha hb =>
      rcases (show i = 0 ∨ i = 1 ∨ i = 2 ∨ i = 3 by have hi2 : i < 4 := hi; omega) with rfl | rfl | rfl | rfl
      · cases hp
        exact like_len (by rw [signsFor_plain (by decide)]; simp [wordsS, pats])
      · cases hp
        exact like_len (by rw [signsFor_plain (by decide)]; simp [wordsS, pats])
      · cases hp
        exact like_no (i := 2) (x := "from") rfl (signsFor_get rfl) lo4 (by decide)
      · cases hp
        exact like_no (i := 2) (x := "from") rfl (signsFor_get rfl) lo5 (by decide)
  | frmP nm p a hp0 ha =>
      rcases (show i = 0 ∨ i = 1 ∨ i = 2 ∨ i = 3 ∨ i = 4 ∨ i = 5 ∨ i = 6 ∨ i = 7 by have hi2 : i < 8 := hi; omega) with rfl | rfl | rfl | rfl | rfl | rfl | rfl | rfl
      · cases hp
        exact like_no (i := 0) (x := "peg") rfl (signsFor_get rfl) lo1 (by decide)
      · cases hp
        exact like_no (i := 0) (x := "peg") rfl (signsFor_get rfl) lo1 (by decide)
      · cases hp
        exact like_no (i := 0) (x := "peg") rfl (signsFor_get rfl) lo1 (by decide)
      · cases hp
        exact like_no (i := 0) (x := "peg") rfl (signsFor_get rfl) lo1 (by decide)
      · cases hp
        exact like_no (i := 0) (x := "peg") rfl (signsFor_get rfl) lo1 (by decide)
      · cases hp
        exact like_no (i := 0) (x := "peg") rfl (signsFor_get rfl) lo1 (by decide)
      · cases hp
        exact like_len (by rw [signsFor_plain (by decide)]; simp [wordsS, pats])
      · cases hp
        exact like_len (by rw [signsFor_plain (by decide)]; simp [wordsS, pats])
  | on nm a ha =>
      rcases (show i = 0 ∨ i = 1 ∨ i = 2 ∨ i = 3 ∨ i = 4 ∨ i = 5 ∨ i = 6 by have hi2 : i < 7 := hi; omega) with rfl | rfl | rfl | rfl | rfl | rfl | rfl
      · cases hp
        exact like_no (i := 0) (x := "peg") rfl (signsFor_get rfl) lo1 (by decide)
      · cases hp
        exact like_no (i := 0) (x := "peg") rfl (signsFor_get rfl) lo1 (by decide)
      · cases hp
        exact like_no (i := 0) (x := "peg") rfl (signsFor_get rfl) lo1 (by decide)
      · cases hp
        exact like_no (i := 0) (x := "peg") rfl (signsFor_get rfl) lo1 (by decide)
      · cases hp
        exact like_no (i := 0) (x := "peg") rfl (signsFor_get rfl) lo1 (by decide)
      · cases hp
        exact like_no (i := 0) (x := "peg") rfl (signsFor_get rfl) lo1 (by decide)
      · cases hp
        exact like_len (by rw [signsFor_plain (by decide)]; simp [wordsS, pats])
  | about nm p q hp0 hq =>
      rcases (show i = 0 ∨ i = 1 ∨ i = 2 ∨ i = 3 ∨ i = 4 ∨ i = 5 ∨ i = 6 ∨ i = 7 ∨ i = 8 by have hi2 : i < 9 := hi; omega) with rfl | rfl | rfl | rfl | rfl | rfl | rfl | rfl | rfl
      · cases hp
        exact like_no (i := 0) (x := "peg") rfl (signsFor_get rfl) lo1 (by decide)
      · cases hp
        exact like_no (i := 0) (x := "peg") rfl (signsFor_get rfl) lo1 (by decide)
      · cases hp
        exact like_no (i := 0) (x := "peg") rfl (signsFor_get rfl) lo1 (by decide)
      · cases hp
        exact like_no (i := 0) (x := "peg") rfl (signsFor_get rfl) lo1 (by decide)
      · cases hp
        exact like_no (i := 0) (x := "peg") rfl (signsFor_get rfl) lo1 (by decide)
      · cases hp
        exact like_no (i := 0) (x := "peg") rfl (signsFor_get rfl) lo1 (by decide)
      · cases hp
        exact like_len (by rw [signsFor_plain (by decide)]; simp [wordsS, pats])
      · cases hp
        exact like_len (by rw [signsFor_plain (by decide)]; simp [wordsS, pats])
      · cases hp
        exact like_no (i := 4) (x := "about") rfl (signsFor_get rfl) lo7 (by decide)
  | amid nm p q hp0 hq =>
      rcases (show i = 0 ∨ i = 1 ∨ i = 2 ∨ i = 3 ∨ i = 4 ∨ i = 5 ∨ i = 6 ∨ i = 7 ∨ i = 8 ∨ i = 9 by have hi2 : i < 10 := hi; omega) with rfl | rfl | rfl | rfl | rfl | rfl | rfl | rfl | rfl | rfl
      · cases hp
        exact like_no (i := 0) (x := "peg") rfl (signsFor_get rfl) lo1 (by decide)
      · cases hp
        exact like_no (i := 0) (x := "peg") rfl (signsFor_get rfl) lo1 (by decide)
      · cases hp
        exact like_no (i := 0) (x := "peg") rfl (signsFor_get rfl) lo1 (by decide)
      · cases hp
        exact like_no (i := 0) (x := "peg") rfl (signsFor_get rfl) lo1 (by decide)
      · cases hp
        exact like_no (i := 0) (x := "peg") rfl (signsFor_get rfl) lo1 (by decide)
      · cases hp
        exact like_no (i := 0) (x := "peg") rfl (signsFor_get rfl) lo1 (by decide)
      · cases hp
        exact like_len (by rw [signsFor_plain (by decide)]; simp [wordsS, pats])
      · cases hp
        exact like_len (by rw [signsFor_plain (by decide)]; simp [wordsS, pats])
      · cases hp
        exact like_len (by rw [signsFor_plain (by decide)]; simp [wordsS, pats])
      · cases hp
        exact like_len (by rw [signsFor_plain (by decide)]; simp [wordsS, pats])
  | is_ mir nm a row hr ha hk h5 =>
    cases mir with
    | true =>
      rcases (show i = 0 ∨ i = 1 ∨ i = 2 ∨ i = 3 ∨ i = 4 by have hi2 : i < 5 := hi; omega) with rfl | rfl | rfl | rfl | rfl
      · cases hp
        exact like_len (by rw [signsFor_plain (by decide)]; simp [wordsS, pats])
      · cases hp
        exact like_no (i := 2) (x := "is") rfl (signsFor_get rfl) lo3 (by decide)
      · cases hp
        exact like_no (i := 2) (x := "is") rfl (signsFor_get rfl) lo4 (by decide)
      · cases hp
        exact like_no (i := 2) (x := "is") rfl (signsFor_get rfl) lo5 (by decide)
      · cases hp
        exact like_no (i := 2) (x := "is") rfl (signsFor_get rfl) lo6 (by decide)
    | false =>
      rcases (show i = 0 ∨ i = 1 ∨ i = 2 ∨ i = 3 ∨ i = 4 ∨ i = 5 ∨ i = 6 ∨ i = 7 ∨ i = 8 ∨ i = 9 ∨ i = 10 by have hi2 : i < 11 := hi; omega) with rfl | rfl | rfl | rfl | rfl | rfl | rfl | rfl | rfl | rfl | rfl
      · cases hp
        exact like_no (i := 0) (x := "peg") rfl (signsFor_get rfl) lo1 (by decide)
      · cases hp
        exact like_no (i := 0) (x := "peg") rfl (signsFor_get rfl) lo1 (by decide)
      · cases hp
        exact like_no (i := 0) (x := "peg") rfl (signsFor_get rfl) lo1 (by decide)
      · cases hp
        exact like_no (i := 0) (x := "peg") rfl (signsFor_get rfl) lo1 (by decide)
      · cases hp
        exact like_no (i := 0) (x := "peg") rfl (signsFor_get rfl) lo1 (by decide)
      · cases hp
        exact like_no (i := 0) (x := "peg") rfl (signsFor_get rfl) lo1 (by decide)
      · cases hp
        exact like_len (by rw [signsFor_plain (by decide)]; simp [wordsS, pats])
      · cases hp
        exact like_no (i := 2) (x := "is") rfl (signsFor_get rfl) lo9 (by decide)
      · cases hp
        exact like_no (i := 2) (x := "is") rfl (signsFor_get rfl) lo6 (by decide)
      · cases hp
        exact like_no (i := 2) (x := "is") rfl (signsFor_get rfl) lo6 (by decide)
      · cases hp
        exact like_no (i := 2) (x := "is") rfl (signsFor_get rfl) lob (by decide)
theorem row_split {k m : Nat} (a b c : Str) (hk : 4 ≤ m) (he : m = k + 3) : [a, b, c, ("ROW" : Str)] ++ List.replicate (m - 4) ("ROW" : Str) = a :: b :: c :: List.replicate k "ROW" := by
  obtain ⟨j, rfl⟩ : ∃ j, k = j + 1 := ⟨k - 1, by omega⟩
  rw [show m - 4 = j by omega, List.replicate_succ]
  rfl
theorem Pal_pos {row : List Str} {a : Str} (h : Al.Pal row a) : 1 ≤ row.length := by
  cases h with
  | one => exact Nat.le_refl _
  | wing w h =>
    rw [List.length_cons]
    omega
theorem signs_at {ns : NsT} {l : LnS} (h : Al.LOk ns l) {pat : List Str} (hp : pats[patS l]? = some pat) : signsFor pat (wordsS l).length = signsS l := by
  cases h with
  | free mir nm => cases mir <;> cases hp <;> exact signsFor_plain (by decide)
  | is_ mir nm a row hr ha hk h5 =>
    have r1 := Pal_pos hr
    have e : (wordsS ⟨mir, nm, .is_, row⟩).length = row.length + 3 := rfl
    rw [e]
    have key : ∀ a : Str, signsFor [a, "NAME", "is", "ROW"] (row.length + 3) = a :: "NAME" :: "is" :: List.replicate row.length "ROW" := fun a => by
      unfold signsFor
      have l4 : [a, ("NAME" : Str), "is", "ROW"].length = 4 := rfl
      rw [l4]
      split
      · exact row_split _ _ _ (by omega) rfl
      · rename_i c
        have e1 : row.length = 1 := by
          rcases Nat.lt_or_ge 1 row.length with z | z
          · exact (c ⟨rfl, by omega, by omega⟩).elim
          · omega
        rw [e1]
        rfl
    cases mir <;> cases hp <;> exact key _
  | _ => cases hp <;> exact signsFor_plain (by decide)
theorem fm_at {ns : NsT} {l : LnS} (h : Al.LOk ns l) : ∃ k, fmKv[patS l]? = some (k, .str (formS l.fm)) := by
  cases h with
  | free mir nm => cases mir <;> exact ⟨_, rfl⟩
  | is_ mir nm a row hr ha hk h5 => cases mir <;> exact ⟨_, rfl⟩
  | _ => exact ⟨_, rfl⟩
theorem patS_lt {ns : NsT} {l : LnS} (h : Al.LOk ns l) : patS l < 12 := by
  cases h with
  | free mir nm => cases mir <;> first | exact (by decide : (0 : Nat) < 12) | exact (by decide : (6 : Nat) < 12)
  | is_ mir nm a row hr ha hk h5 => cases mir <;> first | exact (by decide : (5 : Nat) < 12) | exact (by decide : (11 : Nat) < 12)
  | _ => first | exact (by decide : (1 : Nat) < 12) | exact (by decide : (2 : Nat) < 12) | exact (by decide : (3 : Nat) < 12) | exact (by decide : (4 : Nat) < 12) | exact (by decide : (7 : Nat) < 12) | exact (by decide : (8 : Nat) < 12) | exact (by decide : (9 : Nat) < 12) | exact (by decide : (10 : Nat) < 12)
theorem words_len {ns : NsT} {l : LnS} (h : Al.LOk ns l) : (wordsS l).length ≤ 8 ∧ 2 ≤ (wordsS l).length := by
  cases h with
  | is_ mir nm a row hr ha hk h5 =>
    have e : (wordsS ⟨mir, nm, .is_, row⟩).length = row.length + 3 := rfl
    rw [e]
    omega
  | _ => first | exact (by decide : (2 : Nat) ≤ 8 ∧ 2 ≤ 2) | exact (by decide : (4 : Nat) ≤ 8 ∧ 2 ≤ 4) | exact (by decide : (6 : Nat) ≤ 8 ∧ 2 ≤ 6) | exact (by decide : (5 : Nat) ≤ 8 ∧ 2 ≤ 5)
def inW (s : Str) : Bool := decide (s ∈ waKv.map (·.1))
theorem inW_NAME : inW ("NAME" : Str) = false := by decide +kernel
theorem inW_A : inW ("A" : Str) = true := by decide +kernel
theorem inW_B : inW ("B" : Str) = true := by decide +kernel
theorem inW_P : inW ("P" : Str) = true := by decide +kernel
theorem inW_Q : inW ("Q" : Str) = true := by decide +kernel
theorem inW_ROW : inW ("ROW" : Str) = true := by decide +kernel
theorem inW_mirror : inW ("mirror" : Str) = false := by decide +kernel
theorem inW_peg : inW ("peg" : Str) = false := by decide +kernel
theorem inW_through : inW ("through" : Str) = false := by decide +kernel
theorem inW_along : inW ("along" : Str) = false := by decide +kernel
theorem inW_across : inW ("across" : Str) = false := by decide +kernel
theorem inW_from : inW ("from" : Str) = false := by decide +kernel
theorem inW_in : inW ("in" : Str) = false := by decide +kernel
theorem inW_is : inW ("is" : Str) = false := by decide +kernel
theorem inW_on : inW ("on" : Str) = false := by decide +kernel
theorem inW_about : inW ("about" : Str) = false := by decide +kernel
theorem inW_amid : inW ("amid" : Str) = false := by decide +kernel
theorem inW_word (m : Bool) : inW (wordS m) = false := by cases m <;> decide +kernel
def wv (s : Str) : Str := if s = "A" ∨ s = "B" then "mirror" else if s = "P" ∨ s = "Q" then "peg" else ""
theorem wv_mem {s : Str} (h : inW s = true) : (s, V.str (wv s)) ∈ waKv := by
  have h2 : s ∈ waKv.map (·.1) := of_decide_eq_true h
  simp only [waKv, List.map_cons, List.map_nil, List.mem_cons, List.not_mem_nil, or_false] at h2
  rcases h2 with rfl | rfl | rfl | rfl | rfl
  · exact List.mem_cons_self ..
  · exact List.mem_cons_of_mem _ (List.mem_cons_self ..)
  · exact List.mem_cons_of_mem _ (List.mem_cons_of_mem _ (List.mem_cons_self ..))
  · exact List.mem_cons_of_mem _ (List.mem_cons_of_mem _ (List.mem_cons_of_mem _ (List.mem_cons_self ..)))
  · exact List.mem_cons_of_mem _ (List.mem_cons_of_mem _ (List.mem_cons_of_mem _ (List.mem_cons_of_mem _ (List.mem_cons_self ..))))
def othOf (ws sg : List Str) : List Str := ((ws.zip sg).filter fun p => inW p.2).map (·.1)
def wanOf (sg : List Str) : List Str := (sg.filter inW).map wv
theorem oth_row : ∀ r : List Str, othOf r (List.replicate r.length "ROW") = r
  | [] => rfl
  | x :: r => by
    have ih := oth_row r
    unfold othOf at ih ⊢
    rw [List.length_cons, List.replicate_succ, List.zip_cons_cons, List.filter_cons]
    dsimp only
    rw [inW_ROW, if_pos rfl, List.map_cons, ih]
theorem othOf_no {x s : Str} {ws sg : List Str} (h : inW s = false) : othOf (x :: ws) (s :: sg) = othOf ws sg := by
  unfold othOf
  rw [List.zip_cons_cons, List.filter_cons]
  dsimp only
  rw [h, if_neg Bool.false_ne_true]
theorem othOf_yes {x s : Str} {ws sg : List Str} (h : inW s = true) : othOf (x :: ws) (s :: sg) = x :: othOf ws sg := by
  unfold othOf
  rw [List.zip_cons_cons, List.filter_cons]
  dsimp only
  rw [h, if_pos rfl]
  rfl
theorem wanOf_no {s : Str} {sg : List Str} (h : inW s = false) : wanOf (s :: sg) = wanOf sg := by
  unfold wanOf
  rw [List.filter_cons, h, if_neg Bool.false_ne_true]
theorem wanOf_yes {s : Str} {sg : List Str} (h : inW s = true) : wanOf (s :: sg) = wv s :: wanOf sg := by
  unfold wanOf
  rw [List.filter_cons, h, if_pos rfl]
  rfl
theorem wan_row : ∀ r : List Str, wanOf (List.replicate r.length "ROW") = r.map fun _ => ("" : Str)
  | [] => rfl
  | x :: r => by
    rw [List.length_cons, List.replicate_succ, wanOf_yes inW_ROW, wan_row r]
    have : wv "ROW" = "" := by decide +kernel
    rw [this]
    rfl
theorem oth_is {ns : NsT} {l : LnS} (h : Al.LOk ns l) : othOf (wordsS l) (signsS l) = l.oth := by
  cases h with
  | free mir nm => show othOf [wordS mir, nm] [wordS mir, "NAME"] = []; rw [othOf_no (inW_word _), othOf_no inW_NAME]; rfl
  | thr nm p hp => show othOf ["mirror", nm, "through", p] ["mirror", "NAME", "through", "P"] = _; rw [othOf_no inW_mirror, othOf_no inW_NAME, othOf_no inW_through, othOf_yes inW_P]; rfl
  | along nm a p ha hp => show othOf ["mirror", nm, "along", a, "through", p] ["mirror", "NAME", "along", "A", "through", "P"] = _; rw [othOf_no inW_mirror, othOf_no inW_NAME, othOf_no inW_along, othOf_yes inW_A, othOf_no inW_through, othOf_yes inW_P]; rfl
  | across nm a p ha hp => show othOf ["mirror", nm, "across", a, "through", p] ["mirror", "NAME", "across", "A", "through", "P"] = _; rw [othOf_no inW_mirror, othOf_no inW_NAME, othOf_no inW_across, othOf_yes inW_A, othOf_no inW_through, othOf_yes inW_P]; rfl
  | frmM nm a b ha hb => show othOf ["mirror", nm, "from", a, "in", b] ["mirror", "NAME", "from", "A", "in", "B"] = _; rw [othOf_no inW_mirror, othOf_no inW_NAME, othOf_no inW_from, othOf_yes inW_A, othOf_no inW_in, othOf_yes inW_B]; rfl
  | frmP nm p a hp ha => show othOf ["peg", nm, "from", p, "in", a] ["peg", "NAME", "from", "P", "in", "A"] = _; rw [othOf_no inW_peg, othOf_no inW_NAME, othOf_no inW_from, othOf_yes inW_P, othOf_no inW_in, othOf_yes inW_A]; rfl
  | on nm a ha => show othOf ["peg", nm, "on", a] ["peg", "NAME", "on", "A"] = _; rw [othOf_no inW_peg, othOf_no inW_NAME, othOf_no inW_on, othOf_yes inW_A]; rfl
  | about nm p q hp hq => show othOf ["peg", nm, "from", p, "about", q] ["peg", "NAME", "from", "P", "about", "Q"] = _; rw [othOf_no inW_peg, othOf_no inW_NAME, othOf_no inW_from, othOf_yes inW_P, othOf_no inW_about, othOf_yes inW_Q]; rfl
  | amid nm p q hp hq => show othOf ["peg", nm, "amid", p, q] ["peg", "NAME", "amid", "P", "Q"] = _; rw [othOf_no inW_peg, othOf_no inW_NAME, othOf_no inW_amid, othOf_yes inW_P, othOf_yes inW_Q]; rfl
  | is_ mir nm a row hr ha hk h5 =>
    show othOf (wordS mir :: nm :: "is" :: row) (wordS mir :: "NAME" :: "is" :: List.replicate row.length "ROW") = row
    rw [othOf_no (inW_word _), othOf_no inW_NAME, othOf_no inW_is, oth_row]
theorem wvA : wv "A" = "mirror" := by decide +kernel
theorem wvB : wv "B" = "mirror" := by decide +kernel
theorem wvP : wv "P" = "peg" := by decide +kernel
theorem wvQ : wv "Q" = "peg" := by decide +kernel
theorem wan_is {ns : NsT} {l : LnS} (h : Al.LOk ns l) : wanOf (signsS l) = wantS l := by
  cases h with
  | free mir nm => show wanOf [wordS mir, "NAME"] = _; rw [wanOf_no (inW_word _), wanOf_no inW_NAME]; rfl
  | thr nm p hp => show wanOf ["mirror", "NAME", "through", "P"] = _; rw [wanOf_no inW_mirror, wanOf_no inW_NAME, wanOf_no inW_through, wanOf_yes inW_P, wvP]; rfl
  | along nm a p ha hp => show wanOf ["mirror", "NAME", "along", "A", "through", "P"] = _; rw [wanOf_no inW_mirror, wanOf_no inW_NAME, wanOf_no inW_along, wanOf_yes inW_A, wanOf_no inW_through, wanOf_yes inW_P, wvP, wvA]; rfl
  | across nm a p ha hp => show wanOf ["mirror", "NAME", "across", "A", "through", "P"] = _; rw [wanOf_no inW_mirror, wanOf_no inW_NAME, wanOf_no inW_across, wanOf_yes inW_A, wanOf_no inW_through, wanOf_yes inW_P, wvP, wvA]; rfl
  | frmM nm a b ha hb => show wanOf ["mirror", "NAME", "from", "A", "in", "B"] = _; rw [wanOf_no inW_mirror, wanOf_no inW_NAME, wanOf_no inW_from, wanOf_yes inW_A, wanOf_no inW_in, wanOf_yes inW_B, wvA, wvB]; rfl
  | frmP nm p a hp ha => show wanOf ["peg", "NAME", "from", "P", "in", "A"] = _; rw [wanOf_no inW_peg, wanOf_no inW_NAME, wanOf_no inW_from, wanOf_yes inW_P, wanOf_no inW_in, wanOf_yes inW_A, wvA, wvP]; rfl
  | on nm a ha => show wanOf ["peg", "NAME", "on", "A"] = _; rw [wanOf_no inW_peg, wanOf_no inW_NAME, wanOf_no inW_on, wanOf_yes inW_A, wvA]; rfl
  | about nm p q hp hq => show wanOf ["peg", "NAME", "from", "P", "about", "Q"] = _; rw [wanOf_no inW_peg, wanOf_no inW_NAME, wanOf_no inW_from, wanOf_yes inW_P, wanOf_no inW_about, wanOf_yes inW_Q, wvP, wvQ]; rfl
  | amid nm p q hp hq => show wanOf ["peg", "NAME", "amid", "P", "Q"] = _; rw [wanOf_no inW_peg, wanOf_no inW_NAME, wanOf_no inW_amid, wanOf_yes inW_P, wanOf_yes inW_Q, wvP, wvQ]; rfl
  | is_ mir nm a row hr ha hk h5 =>
    show wanOf (wordS mir :: "NAME" :: "is" :: List.replicate row.length "ROW") = row.map fun _ => ("" : Str)
    rw [wanOf_no (inW_word _), wanOf_no inW_NAME, wanOf_no inW_is, wan_row]
/-! ### promises -/
def rowS (f : Str) (oth : List Str) : List Str := if f = "is" then oth else if f = "from" ∨ f = "about" then (match oth with
  | [a, b] => [b, a, b]
  | _ => []) else []
theorem fm_two : ∀ f : Al.Fm, f ≠ .frm → f ≠ .about → ¬ (formS f = "from" ∨ formS f = "about") := by
  intro f h1 h2
  cases f <;> first | exact absurd rfl h1 | exact absurd rfl h2 | decide
theorem row_is {ns : NsT} {l : LnS} (h : Al.LOk ns l) : rowS (formS l.fm) l.oth = l.row ∧ ((formS l.fm = "from" ∨ formS l.fm = "about") → ∃ a b, l.oth = [a, b]) := by
  cases h with
  | frmM nm a b ha hb => exact ⟨rfl, fun _ => ⟨_, _, rfl⟩⟩
  | frmP nm p a hp ha => exact ⟨rfl, fun _ => ⟨_, _, rfl⟩⟩
  | about nm p q hp hq => exact ⟨rfl, fun _ => ⟨_, _, rfl⟩⟩
  | is_ mir nm a row hr ha hk h5 => exact ⟨rfl, fun z => (fm_two .is_ (by decide) (by decide) z).elim⟩
  | free => exact ⟨rfl, fun z => (fm_two .free (by decide) (by decide) z).elim⟩
  | thr => exact ⟨rfl, fun z => (fm_two .thr (by decide) (by decide) z).elim⟩
  | along => exact ⟨rfl, fun z => (fm_two .along (by decide) (by decide) z).elim⟩
  | across => exact ⟨rfl, fun z => (fm_two .across (by decide) (by decide) z).elim⟩
  | on => exact ⟨rfl, fun z => (fm_two .on (by decide) (by decide) z).elim⟩
  | amid => exact ⟨rfl, fun z => (fm_two .amid (by decide) (by decide) z).elim⟩
theorem words01 {ns : NsT} {l : LnS} (h : Al.LOk ns l) : (wordsS l)[0]? = some (wordS l.mir) ∧ (wordsS l)[1]? = some l.name := by
  cases h <;> exact ⟨rfl, rfl⟩
def spRowOf (K : PySem.W.Frag) : Sp := fun vs H Q _ => ∃ (f : Str) (p : Addr) (oth : List Str), vs = [.str f, .ref p] ∧ SqT K H p (oth.map V.str) ∧ ((f = "from" ∨ f = "about") → ∃ a b, oth = [a, b]) ∧ ∀ H' r, Same H H' → SqT K H' r ((rowS f oth).map V.str) → Q (.ref r) H'
def spLnI (K : PySem.W.Frag) : Sp := fun vs H Q _ => ∃ (x dx pw ps : Addr) (text : Str) (ns : NsT) (l : LnS), vs = [.ref x, .str text, .str (formS l.fm), .ref pw, .ref ps] ∧ H x = some (.ins (He.ga K "Line") dx []) ∧ SqL K H pw ((wordsS l).map V.str) ∧ SqL K H ps ((signsS l).map V.str) ∧ pw ≠ x ∧ ps ≠ x ∧ Al.LOk ns l ∧
  ∀ H', KeptBut x H H' → LnAt K H' x text l → Q .non H'
def spSigns (K : PySem.W.Frag) : Sp := fun vs H Q _ => ∃ (k : Str) (pat : List Str) (n : Nat), vs = [.str k, .int (n : Int)] ∧ Txt.split k " " = pat ∧ pat ∈ pats ∧ n ≤ 100 ∧ k.length ≤ 100 ∧ ∀ H' r, Same H H' → H r = none → H' r = some (.lst ((signsFor pat n).map V.str)) → Q (.ref r) H'
def spLike (K : PySem.W.Frag) : Sp := fun vs H Q _ => ∃ (p q : Addr) (ws sg : List Str), vs = [.ref p, .ref q] ∧ SqL K H p (ws.map V.str) ∧ SqL K H q (sg.map V.str) ∧ ws.length ≤ 100 ∧ (∀ x ∈ ws, x.length ≤ 100000) ∧ ∀ H', Same H H' → Q (.bl (like ws sg)) H'
def spLineOf (K : PySem.W.Frag) : Sp := fun vs H Q _ => ∃ (ns : NsT) (l : LnS), vs = [.str (Txt.join " " (wordsS l))] ∧ Al.LOk ns l ∧ NmOk l ∧ ∀ H' r, Same H H' → H r = none → LnAt K H' r (Txt.join " " (wordsS l)) l → Q (.ref r) H'
theorem like_lenS {ns : NsT} {l : LnS} (h : Al.LOk ns l) : (signsS l).length = (wordsS l).length := by
  cases h with
  | is_ mir nm a row hr ha hk h5 => simp [signsS, wordsS]
  | _ => rfl
theorem pats_shape {pat : List Str} (h : pat ∈ pats) : pat.length ≤ 6 ∧ ∃ pre v, pat = pre ++ [v] := by
  have ne : pat ≠ [] ∧ pat.length ≤ 6 := by
    have all : pats.all (fun p => !p.isEmpty && decide (p.length ≤ 6)) = true := by decide +kernel
    have z := List.all_eq_true.mp all _ h
    rw [Bool.and_eq_true] at z
    refine ⟨fun e => ?_, of_decide_eq_true z.2⟩
    rw [e] at z
    exact absurd z.1 (by decide)
  rcases List.eq_nil_or_concat pat with e | ⟨pre, v, e⟩
  · exact (ne.1 e).elim
  · exact ⟨ne.2, pre, v, by rw [e, List.concat_eq_append]⟩
theorem ite_nI {a b : Int} {A B : Prop} (e : a = b) (h : B) : if (!decide (V.int a = V.int b)) = true then A else B := by
  rw [decide_eq_true (by rw [e])]
  exact h
theorem ite_nN {a b : Int} {A B : Prop} (ne : a ≠ b) (h : A) : if (!decide (V.int a = V.int b)) = true then A else B := by
  rw [decide_eq_false (fun z => ne (by injection z))]
  exact h
theorem rep_flat (n : Nat) (v : V) : (List.replicate n [v]).flatten = List.replicate n v := by
  induction n with
  | zero => rfl
  | succ n ih => rw [List.replicate_succ, List.replicate_succ, List.flatten_cons, ih]; rfl
theorem likeL_at {ws sg : List Str} {i : Nat} {x s : Str} (h1 : ws[i]? = some x) (h2 : sg[i]? = some s) : (likeL ws sg)[i]? = some (if Txt.isupper s = true then nameB x else decide (x = s)) := by
  unfold likeL
  rw [List.getElem?_zipWith, h1, h2]
theorem text_len {ws : List Str} (h : ∀ x ∈ ws, x.length ≤ 8) (hl : ws.length ≤ 100) : (Txt.join " " ws).length ≤ 1000 := by
  have e : Txt.join " " ws = Str.join " " ws := TL.join_eq _ _
  rw [e]
  have h1 := StrLaws.join_length_le " " ws
  have key : ∀ l : List Str, (∀ n ∈ l, n.length ≤ 8) → (l.map (·.length)).sum ≤ 8 * l.length := by
    intro l
    induction l with
    | nil => intro _; exact Nat.le_refl _
    | cons a r ih =>
      intro q
      have h1 := q a List.mem_cons_self
      have h2 := ih fun n m => q n (List.mem_cons_of_mem _ m)
      simp only [List.map_cons, List.sum_cons, List.length_cons]
      omega
  have h2 := key ws h
  have h4 : (" " : Str).length = 1 := rfl
  rw [h4] at h1
  omega
theorem split_words {ns : NsT} {l : LnS} (h : Al.LOk ns l) (n : NmOk l) : Txt.split (Txt.join " " (wordsS l)) " " = wordsS l :=
  TL.split_join (s := 32) (S := []) rfl (by decide +kernel) (fun z => by have := (words_len h).2; rw [z] at this; exact absurd this (by decide)) fun x hx => (n.sp x hx).1
theorem pat_key {i : Nat} {k : Str} {v : V} (h : fmKv[i]? = some (k, v)) : pats[i]? = some (Txt.split k " ") ∧ k.length ≤ 100 := by
  have z : (((fmKv.map (·.1)).map fun k => Txt.split k " ")[i]?) = pats[i]? := by rw [split_pats]
  rw [List.getElem?_map, List.getElem?_map, h] at z
  refine ⟨z.symm, ?_⟩
  have all : fmKv.all (fun p => decide (p.1.length ≤ 100)) = true := by decide +kernel
  exact of_decide_eq_true (List.all_eq_true.mp all _ (List.mem_of_getElem? h))
/-! ### books' lines -/
def isRowL (l : LnS) : Bool := decide (l.fm = .frm) || decide (l.fm = .is_)
def textS (l : LnS) : Str := Txt.join " " (wordsS l)
def fewB (ls : List LnS) : Bool := decide ((looseS ls).length ≤ 5) && decide ((ls.filter isRowL).length ≤ 3)
structure VBk (ls : List LnS) : Prop where
  ok : ∀ (i : Nat) l, ls[i]? = some l → Al.LOk (nsS (ls.take i)) l ∧ ∀ k, (k, l.name) ∉ nsS (ls.take i)
  n : ls.length ≤ 12
  nm : ∀ l ∈ ls, NmOk l
  ds : ∀ l ∈ ls, l.fm ≠ .is_ → l.oth.Nodup
  few : fewB ls = true
theorem VBk.vb {ls : List LnS} (h : VBk ls) : VB ls := by
  have f := h.few
  unfold fewB at f
  rw [Bool.and_eq_true, decide_eq_true_eq, decide_eq_true_eq] at f
  refine ⟨h.ok, h.n, by omega, Nat.le_trans ?_ f.2⟩
  refine (List.Sublist.length_le ?_)
  have e : (ls.filter fun l => decide (l.fm = .is_)) = (ls.filter isRowL).filter fun l => decide (l.fm = .is_) := by
    rw [List.filter_filter]
    congr 1
    funext l
    unfold isRowL
    cases decide (l.fm = .is_) <;> simp
  rw [e]
  exact List.filter_sublist
theorem fewB_take {ls : List LnS} (h : fewB ls = true) (i : Nat) : fewB (ls.take i) = true := by
  unfold fewB looseS at h ⊢
  rw [Bool.and_eq_true, decide_eq_true_eq, decide_eq_true_eq, List.length_map] at h ⊢
  exact ⟨Nat.le_trans (List.Sublist.length_le ((List.take_sublist i ls).filter _)) h.1, Nat.le_trans (List.Sublist.length_le ((List.take_sublist i ls).filter _)) h.2⟩
def ahK (ns : NsT) : List (Key × V) := ns.map fun p => (Sum.inr p.2, V.str (wordS p.1))
theorem ahK_none {ns : NsT} {x : Str} (h : ∀ k, (k, x) ∉ ns) : valV (ahK ns) (Sum.inr x) = none := by
  unfold valV ahK
  rw [List.find?_eq_none.mpr]
  · rfl
  · intro kv hkv
    obtain ⟨p, hp, e⟩ := List.mem_map.mp hkv
    rw [← e]
    simp only [decide_eq_true_eq]
    intro z
    injection z with z
    exact h p.1 (by rw [← z]; exact hp)
theorem ahK_put {ns : NsT} {m : Bool} {x : Str} (h : ∀ k, (k, x) ∉ ns) : putK (ahK ns) (Sum.inr x) (.str (wordS m)) = ahK (ns ++ [(m, x)]) := by
  rw [putK_new _ (ahK_none h)]
  unfold ahK
  rw [List.map_append]
  rfl
def spOfRow (K : PySem.W.Frag) : Sp := fun vs H Q _ => ∃ (a : Addr) (t : Str) (l : LnS), vs = [.ref a] ∧ LnAt K H a t l ∧ Q (.bl (isRowL l)) H
def spFew (K : PySem.W.Frag) : Sp := fun vs H Q _ => ∃ (p : Addr) (as : List Addr) (ts : List Str) (ls : List LnS), vs = [.ref p] ∧ SqL K H p (as.map V.ref) ∧ LnsAt K H as ts ls ∧ ls.length ≤ 13 ∧ ∀ H', Same H H' → Q (.bl (fewB ls)) H'
def spHas (K : PySem.W.Frag) : Sp := fun vs H Q _ => ∃ (a d : Addr) (t : Str) (l : LnS) (ns : NsT), vs = [.ref a, .ref d] ∧ LnAt K H a t l ∧ H d = some (.dK (ahK ns)) ∧ (ns.map (·.2)).Nodup ∧ Al.LOk ns l ∧ (l.fm ≠ .is_ → l.oth.Nodup) ∧ ∀ H', Same H H' → Q (.bl true) H'
def spNewNm (K : PySem.W.Frag) : Sp := fun vs H Q _ => ∃ (a d : Addr) (t : Str) (l : LnS) (ns : NsT), vs = [.ref a, .ref d] ∧ LnAt K H a t l ∧ H d = some (.dK (ahK ns)) ∧ (ns.map (·.2)).Nodup ∧ Al.LOk ns l ∧ (l.fm ≠ .is_ → l.oth.Nodup) ∧ (∀ k, (k, l.name) ∉ ns) ∧ ∀ H', Same H H' → Q (.bl true) H'
def spFit (K : PySem.W.Frag) : Sp := fun vs H Q _ => ∃ (p : Addr) (ls : List LnS), vs = [.ref p] ∧ SqL K H p ((ls.map textS).map V.str) ∧ VBk ls ∧ ∀ H' r as, Same H H' → H r = none → H' r = some (.lst (as.map V.ref)) → LnsAt K H' as (ls.map textS) ls → Q (.ref r) H'
theorem zip_filter {α β : Type} {f : β → Bool} : ∀ {as : List α} {ls : List β}, as.length = ls.length → ((as.zip ls).filter fun p => f p.2).length = (ls.filter f).length
  | [], [], _ => rfl
  | [], _ :: _, h => by cases h
  | _ :: _, [], h => by cases h
  | a :: as, l :: ls, h => by
    have ih := zip_filter (f := f) (Nat.succ.inj h)
    rw [List.zip_cons_cons, List.filter_cons, List.filter_cons]
    cases f l <;> simp [ih]
theorem zip_take {α β : Type} {f : β → Bool} {as : List α} {ls : List β} {i : Nat} {a : α} {l : β} (h1 : as[i]? = some a) (h2 : ls[i]? = some l) (g : α → V) : (((as.zip ls).take (i + 1)).filter fun p => f p.2).map (fun p => g p.1) = if f l = true then (((as.zip ls).take i).filter fun p => f p.2).map (fun p => g p.1) ++ [g a] else (((as.zip ls).take i).filter fun p => f p.2).map fun p => g p.1 := by
  have at_ : (as.zip ls)[i]? = some (a, l) := by
    rw [List.getElem?_zip_eq_some]
    exact ⟨h1, h2⟩
  rw [List.take_add_one, at_, List.filter_append, List.map_append]
  cases q : f l <;> simp [q]
theorem VBk.nodup {ls : List LnS} (h : VBk ls) : ∀ i, ((nsS (ls.take i)).map (·.2)).Nodup
  | 0 => by rw [List.take_zero]; exact List.nodup_nil
  | i + 1 => by
    have ih := h.nodup i
    rw [List.take_add_one]
    cases q : ls[i]? with
    | none =>
      show ((nsS (ls.take i ++ [])).map (·.2)).Nodup
      rw [List.append_nil]
      exact ih
    | some l =>
      show ((nsS (ls.take i ++ [l])).map (·.2)).Nodup
      have new := (h.ok i l q).2
      unfold nsS at ih new ⊢
      rw [List.map_append, List.map_append, List.nodup_append]
      refine ⟨ih, by simp, fun x hx y hy e => ?_⟩
      simp only [List.map_cons, List.map_nil, List.mem_singleton] at hy
      subst hy
      obtain ⟨p, hp, e2⟩ := List.mem_map.mp hx
      exact new p.1 (by rw [← e, ← e2]; exact hp)
theorem oth_in {ns : NsT} {l : LnS} (h : Al.LOk ns l) : ∀ x ∈ l.oth, ∃ k, (k, x) ∈ ns := by
  cases h with
  | is_ mir nm a row hr ha hk h5 => exact hk
  | free => intro x hx; cases hx
  | thr nm p hp => intro x hx; rw [List.mem_singleton.mp hx]; exact ⟨_, hp⟩
  | on nm a ha => intro x hx; rw [List.mem_singleton.mp hx]; exact ⟨_, ha⟩
  | along nm a p ha hp =>
    intro x hx
    simp only [List.mem_cons, List.not_mem_nil, or_false] at hx
    rcases hx with rfl | rfl
    · exact ⟨_, ha⟩
    · exact ⟨_, hp⟩
  | across nm a p ha hp =>
    intro x hx
    simp only [List.mem_cons, List.not_mem_nil, or_false] at hx
    rcases hx with rfl | rfl
    · exact ⟨_, ha⟩
    · exact ⟨_, hp⟩
  | frmM nm a p ha hp =>
    intro x hx
    simp only [List.mem_cons, List.not_mem_nil, or_false] at hx
    rcases hx with rfl | rfl
    · exact ⟨_, ha⟩
    · exact ⟨_, hp⟩
  | frmP nm a p ha hp =>
    intro x hx
    simp only [List.mem_cons, List.not_mem_nil, or_false] at hx
    rcases hx with rfl | rfl
    · exact ⟨_, ha⟩
    · exact ⟨_, hp⟩
  | about nm a p ha hp =>
    intro x hx
    simp only [List.mem_cons, List.not_mem_nil, or_false] at hx
    rcases hx with rfl | rfl
    · exact ⟨_, ha⟩
    · exact ⟨_, hp⟩
  | amid nm a p ha hp =>
    intro x hx
    simp only [List.mem_cons, List.not_mem_nil, or_false] at hx
    rcases hx with rfl | rfl
    · exact ⟨_, ha⟩
    · exact ⟨_, hp⟩
theorem two_want {ns : NsT} {a p : Str} {k1 k2 : Bool} {u v : Str} (ha : (k1, a) ∈ ns) (hp : (k2, p) ∈ ns) (e1 : wordS k1 = u) (e2 : wordS k2 = v) : ∀ (i : Nat) (x w : Str), [a, p][i]? = some x → [u, v][i]? = some w → ∃ k, (k, x) ∈ ns ∧ wordS k = w := by
  intro i x w h1 h2
  rcases i with _ | _ | i
  · cases h1
    cases h2
    exact ⟨_, ha, e1⟩
  · cases h1
    cases h2
    exact ⟨_, hp, e2⟩
  · simp at h1
theorem one_want {ns : NsT} {a : Str} {k1 : Bool} {u : Str} (ha : (k1, a) ∈ ns) (e1 : wordS k1 = u) : ∀ (i : Nat) (x w : Str), [a][i]? = some x → [u][i]? = some w → ∃ k, (k, x) ∈ ns ∧ wordS k = w := by
  intro i x w h1 h2
  rcases i with _ | i
  · cases h1
    cases h2
    exact ⟨_, ha, e1⟩
  · simp at h1
theorem want_ok {ns : NsT} {l : LnS} (h : Al.LOk ns l) (ni : l.fm ≠ .is_) : (wantS l).length = l.oth.length ∧ ∀ (i : Nat) (x w : Str), l.oth[i]? = some x → (wantS l)[i]? = some w → ∃ k, (k, x) ∈ ns ∧ wordS k = w := by
  cases h with
  | is_ mir nm a row hr ha hk h5 => exact (ni rfl).elim
  | free => exact ⟨rfl, fun i x w h1 h2 => by simp at h1⟩
  | thr nm p hp => exact ⟨rfl, one_want hp rfl⟩
  | on nm a ha => exact ⟨rfl, one_want ha rfl⟩
  | along nm a p ha hp => exact ⟨rfl, two_want ha hp rfl rfl⟩
  | across nm a p ha hp => exact ⟨rfl, two_want ha hp rfl rfl⟩
  | frmM nm a p ha hp => exact ⟨rfl, two_want ha hp rfl rfl⟩
  | frmP nm a p ha hp => exact ⟨rfl, two_want ha hp rfl rfl⟩
  | about nm a p ha hp => exact ⟨rfl, two_want ha hp rfl rfl⟩
  | amid nm a p ha hp => exact ⟨rfl, two_want ha hp rfl rfl⟩
theorem ahK_some : ∀ {ns : NsT} {k : Bool} {x : Str}, (ns.map (·.2)).Nodup → (k, x) ∈ ns → valV (ahK ns) (Sum.inr x) = some (.str (wordS k))
  | [], _, _, _, h => by cases h
  | p :: ns, k, x, nd, h => by
    rw [List.map_cons, List.nodup_cons] at nd
    unfold ahK
    rw [List.map_cons]
    rcases List.mem_cons.mp h with q | q
    · rw [← q]
      exact valV_pos rfl
    · rw [valV_neg (fun z => nd.1 (by injection z with z; rw [z]; exact List.mem_map_of_mem (f := (·.2)) q))]
      exact ahK_some nd.2 q
theorem oth_le {ns : NsT} {l : LnS} (h : Al.LOk ns l) : l.oth.length ≤ 5 := by
  cases h with
  | is_ mir nm a row hr ha hk h5 => exact h5
  | _ => first | exact (by decide : (0 : Nat) ≤ 5) | exact (by decide : (1 : Nat) ≤ 5) | exact (by decide : (2 : Nat) ≤ 5)
end Lm

namespace Lm
open PySem PySem.Spec PyProof.Rows
/-! ## len(set(t)), t a tuple of unlike texts -/
abbrev bareSet (led : Bool) : Obj := { cls := .type "set", dict := none, data := .set #[] 0 (.fresh 0 0 led) }
section
variable {pg : Program} {w : World} {A : Around} {R : Result → Shared → Prop} {J z : Addr} {fp wr : List Addr} {G : Array GenState → Array GenState → Prop} {m : Nat} {P : Nat → Value → Prop} {St : Nat → Shared → Prop}
def hasN (ns : List Str) : Str → Bool := fun y => ns.any fun x => x == y
theorem fill_names (wk : WalksS pg w A.in1 J fp wr G m P St) (zf : z ∉ fp) {ns : List Str} (nd : ns.Nodup) (len : ns.length = m) (few : m + 1 < scanBound) (is_ : ∀ i v, P i v → ∃ t, v = .str (ns.getD i Str.empty) t) :
    ∀ (left i : Nat) (s : Shared), m - i = left → i ≤ m → St i s → s.heap.SetOf (strKind pg w) z (hasN (ns.take i)) i →
      (∀ s', Moved (z :: wr) G s s' → s'.heap.SetOf (strKind pg w) z (hasN ns) m → R (.ok (.ret .none)) s') →
      codeAny (model pg w) A (.builtin "set.update.loop" ⟨[.ref z, .ref J], []⟩) R s := by
  have zw : z ∉ wr := fun q => zf (wk.sub _ q)
  have more : ∀ b ∈ wr, b ∈ z :: wr := fun b q => List.mem_cons_of_mem _ q
  intro left
  induction left with
  | zero =>
    intro i s hl hi st hz done
    obtain rfl : i = m := by omega
    have e : ns.take i = ns := List.take_of_length_le (Nat.le_of_eq len)
    rw [e] at hz
    refine codeAny_builtin F.entry_set_update_loop ?_; rw [Around.under_plainId F.plain_set_update_loop _]; show wpAny _ A.in1 (pyNext (.ref J) >>= _) _ _ s
    refine wpAny_bind (wk.done s _ _ st fun s1 mv => ?_)
    show wpAny _ A.in1 (ret Value.none) _ _ s1
    refine wpAny_pure (done s1 (mv.mono more) ?_)
    obtain ⟨ob, es, ep, tb, at_, rest⟩ := hz
    exact ⟨ob, es, ep, tb, mv.heap z _ zw at_, rest⟩
  | succ left ih =>
    intro i s hl hi st hz done
    have lt : i < m := by omega
    refine codeAny_builtin F.entry_set_update_loop ?_; rw [Around.under_plainId F.plain_set_update_loop _]; show wpAny _ A.in1 (pyNext (.ref J) >>= _) _ _ s
    refine wpAny_bind (wk.item i s _ _ lt st fun v s1 pv st1 mv => ?_)
    obtain ⟨t, rfl⟩ := is_ i v pv
    have hz1 : s1.heap.SetOf (strKind pg w) z (hasN (ns.take i)) i := by
      obtain ⟨ob, es, ep, tb, at_, rest⟩ := hz
      exact ⟨ob, es, ep, tb, mv.heap z _ zw at_, rest⟩
    have lt2 : i < ns.length := by omega
    have at_ : ns[i]? = some (ns.getD i Str.empty) := by
      rw [List.getD_eq_getElem?_getD, List.getElem?_eq_getElem lt2]
      rfl
    generalize ns.getD i Str.empty = x at at_ pv ⊢
    show wpAny _ A.in1 (holding [Value.str x t] (setAdd z (.str x t)) >>= _) _ _ s1
    refine wpAny_bind (wpAny_holding ?_); unfold setAdd; refine wpAny_holding (wpAny_bind ((strKind pg w).pyHash (k := x) (strKind_is _ _ _ _) ?_))
    refine wpAny_setAddHashed_of (knd := strKind pg w) (s := { s1 with toks := s1.toks + 1 }) (strKind_is _ _ _ _) rfl hz1 (by omega) fun hp same hz2 => ?_
    have no : hasN (ns.take i) x = false := by
      unfold hasN
      rw [List.any_eq_false]
      intro y hy c
      obtain rfl : y = x := by simpa using c
      obtain ⟨j, hj⟩ := List.mem_iff_getElem?.mp hy
      rw [List.getElem?_take] at hj
      split at hj
      · rename_i lj
        have := (List.getElem?_inj (show j < ns.length by omega) nd).mp (hj.trans at_.symm)
        omega
      · cases hj
    have hz3 : hp.SetOf (strKind pg w) z (hasN (ns.take (i + 1))) (i + 1) := by
      refine SetOf_congr hz2 (fun y => ?_) (by rw [no]; rfl)
      unfold hasN
      rw [List.take_add_one, at_, List.any_append]
      by_cases c : y = x
      · subst c
        simp
      · have : (x == y) = false := by simpa using fun q : x = y => c q.symm
        simp [c, this]
    refine wpAny_pure ⟨plainId_quiet F.plain_set_update_loop _, ih (i + 1) _ (by omega) lt (wk.frame _ s1 _ _ st1 (Nat.le_succ _) fun b hb o e => ?_) hz3 fun s2 mv2 hz4 => ?_⟩
    · rw [same.2 b (fun q : b = z => zf (q ▸ hb))]
      exact e
    · refine done s2 (Moved.trans wk.gtrans ((mv.mono more).then_heap (Nat.le_succ _) fun b o hb e => ?_) mv2) hz4
      rw [same.2 b (fun q : b = z => hb (q ▸ List.mem_cons_self))]
      exact e
end
section
variable {pg : Program} {w : World} {A : Around} {E : Value → Shared → Prop} {s : Shared}
theorem set_of_names {tp : Addr} {vals : Array Value} {ns : List Str} {Q : Value → Shared → Prop} (calm : A.handled = none) (ht : s.heap.IsTuple tp vals) (hn : StrsAre vals.toList ns) (nd : ns.Nodup) (few : ns.length + 1 < scanBound)
    (fin : ∀ (hp : Heap) (tk : Nat), hp.SetOf (strKind pg w) s.heap.objs.size (hasN ns) ns.length → (∀ b o, b < s.heap.objs.size → s.heap.get? b = some o → hp.get? b = some o) → Q (.ref s.heap.objs.size) { s with heap := hp, toks := tk }) :
    wpAny (model pg w) A (call (.type "set") [.ref tp]) Q E s := by
  have sz : ns.length = vals.size := by rw [← StrsAre.len_eq hn, Array.length_toList]
  obtain ⟨c0, mro1, hmro⟩ := F.called_set.mro
  have a1 := F.called_set.made
  have a2 := F.called_set.sub
  refine wpAny_call (codeAny_of_tree ?_); show wpAny _ _ (callAny (.type "set") _) _ _ _; refine wpAny_pure ⟨Code.quiet_builtin _ (by decide +kernel), codeAny_builtin F.entry_type_call ?_⟩; rw [Around.under_plain (weight_type_call_type "set" [.ref tp] []) rfl]
  have a3 := F.called_set.notType
  have a4 := F.called_set.canCreate
  have a5 := F.typeCall_set_1 (.ref tp)
  repeat (any_goals (first | assumption | wp_step))
  refine codeAny_mono (code_set_new_1 (.ref tp) (E := E) (Q₁ := fun ob t1 => ∃ led : Bool, ob = .ref s.heap.objs.size ∧ t1 = { s with heap := s.heap.push (bareSet led) }) fun led => ⟨led, rfl, rfl⟩) fun r t1 hr => ?_
  cases r with
  | error e => exact hr
  | ok fl =>
    cases fl with
    | ret ob =>
      obtain ⟨led, rfl, rfl⟩ := hr
      have b1 : (s.heap.push (bareSet led)).get? s.heap.objs.size = some (bareSet led) := Heap.get?_push_size _ rfl
      have b2 : Shared.TypeIs { s with heap := s.heap.push (bareSet led) } (.ref s.heap.objs.size) "set" := ⟨_, b1, rfl⟩
      have b3 := F.called_set.init.lookup
      have b4 := F.called_set.init.bind (.ref s.heap.objs.size)
      repeat (any_goals (first | assumption | wp_step))
      refine codeAny_mono (codeAny_call_builtin (R := wants (fun r t2 => r = .none ∧ ∃ hp tk, t2 = { s with heap := hp, toks := tk } ∧ hp.SetOf (strKind pg w) s.heap.objs.size (hasN ns) ns.length ∧ ∀ b o, b < s.heap.objs.size → s.heap.get? b = some o → hp.get? b = some o) E) F.called_set.init.plain F.entry_set_init (check_set_init_1 b2 ?_)) fun r2 t2 hr2 => ?_
      · obtain ⟨ot, at_, c1, k1, d1⟩ := ht
        obtain ⟨ocl, odi, oda, osl⟩ := ot
        simp only at c1 d1
        subst c1
        subst d1
        have at1 : (s.heap.push (bareSet led)).get? tp = some { cls := .type "tuple", dict := odi, data := .seq vals k1, slots := osl } := Heap.get?_push_of_some _ at_
        have c2 := F.sub_tuple_set
        have c3 := F.sub_tuple_frozenset
        have c4 : (Value.type "tuple" == Value.type "dict") = false := by decide
        have it1 : (s.heap.push (bareSet led)).IsTuple tp vals := ⟨_, at1, rfl, k1, rfl⟩
        unfold Builtin.«set.__init__» noKeywords Builtin.Frozenset.updateFrom; generalize ePI : pyIter = PI
        wp_walk
        subst ePI
        refine wpAny_pyIter_tuple it1 ?_; refine wpAny_bind (wpAny_runValue ?_)
        have lo : tp < s.heap.objs.size := Heap.lt_size at_
        have calm3 : A.in1.in1.in1.handled = none := by simp [calm]
        have ps : (s.heap.push (bareSet led)).objs.size = s.heap.objs.size + 1 := Heap.size_push ..
        have n1 : tp ≠ (s.heap.push (bareSet led)).objs.size := ps ▸ Nat.ne_of_lt (Nat.lt_succ_of_lt lo)
        have n2 : s.heap.objs.size ∉ [(s.heap.push (bareSet led)).objs.size, tp] := by
          rw [ps]
          simp only [List.mem_cons, List.not_mem_nil, or_false, not_or]
          exact ⟨Nat.ne_of_lt (Nat.lt_succ_self s.heap.objs.size), Nat.ne_of_gt lo⟩
        refine fill_names ((Walks.tuple calm3 _ tp n1 vals).toS) n2 nd sz (by omega) (fun i v hv => SS.strs_at hn i v (by rw [Array.getElem?_toList]; exact hv)) (vals.size - 0) 0 _ (by omega) (Nat.zero_le _) ⟨⟨_, Heap.get?_push_size _ rfl, rfl, rfl⟩, it1.push _⟩ ?_ ?_
        · exact SetOf_congr ((setObjOf_fresh (knd := strKind pg w) led).setOf (Heap.get?_push_of_some _ b1) (by unfold scanBound; omega)) (fun _ => rfl) rfl
        · intro t3 mv z3
          obtain ⟨hp, g3, dr, tk, os3⟩ := t3
          have e1 : g3 = s.gens := mv.gens
          have e2 : dr = s.drawn := mv.drawn
          have e3 : os3 = s.os := mv.os
          subst e1 e2 e3
          show wpAny _ _ _ _ _ _; refine wpAny_pure ?_; show wpAny _ _ (ret Value.none) _ _ _; refine wpAny_pure ⟨rfl, hp, tk, rfl, by rw [sz]; exact z3, fun b o hb e => ?_⟩
          refine mv.heap b o ?_ (Heap.get?_push_of_some _ (Heap.get?_push_of_some _ e))
          rw [ps]
          simp only [List.mem_cons, List.not_mem_nil, or_false, not_or]
          exact ⟨Nat.ne_of_lt hb, Nat.ne_of_lt (Nat.lt_succ_of_lt hb)⟩
      · cases r2 with
        | error e => exact hr2
        | ok fl2 =>
          cases fl2 with
          | ret r =>
            obtain ⟨rfl, hp, tk, rfl, z3, kp⟩ := hr2
            repeat (any_goals (first | assumption | wp_step))
            exact fin _ _ z3 kp
          | _ => exact hr2.elim
    | _ => exact hr.elim
end
namespace L2X
open L2
/-- len(set(t)) -/
def tLenN (K : PySem.W.Frag) (ta : TE) : TE := fun σ H Q => ta σ H fun x H1 => ∃ (l : Addr) (ns : List Str), x = .ref l ∧ SqT K H1 l (ns.map V.str) ∧ ns.Nodup ∧ ns.length ≤ 100 ∧ Q (.int ns.length) H1
theorem pe_lenN {X : Cx} {e : PySem.Expr} {ta : TE} {p1 p2 p3 p4 : Pos} (calm : X.calm = true) (g1 : Gl X "len") (m1 : X.mg "len" = none) (g2 : Gl X "set") (m2 : X.mg "set" = none) (he : PE X e ta)
    (st : starEach [e] X.env = (false, eval e X.env) :: starEach [] X.env := by rfl) : PE X (.Call (.Name "len" p1) [.Call (.Name "set" p2) [e] [] p3] [] p4) (tLenN X.K ta) := by
  constructor
  intro pins s σ H Q I h
  refine Call_ (ld_blt I g1 m1 boot_len (callWith_builtin1 (args_cons ?_ rfl) rfl rfl))
  refine Call_ (ld_blt I g2 m2 boot_set (callWith_type1 (args_cons (thn (he.run pins s σ H _ I h) fun v s1 ⟨x, H1, I1, rx, q⟩ => args_nil ?_) st) st rfl))
  obtain ⟨l, ns, rfl, hq, nd, few, q⟩ := q
  cases rx
  obtain ⟨its, r, tup, _⟩ := I1.tuple hq
  refine set_of_names (I1.ok.hd calm) tup (by simpa using strsAre_of r) nd (by unfold scanBound; omega) fun hp tk hS keep => args_nil ?_
  obtain ⟨o, es, ep, t, at_, ex, dt, _, _, _, ft, cn⟩ := hS
  have I2 : L2.Inv X pins σ H1 { s1 with heap := hp, toks := tk } := I1.kept fun b o e => keep b o (Heap.lt_size e) e
  exact call_len_set at_ ex dt ft (by rw [cn]; omega) ⟨.int ns.length, H1, I2.tok _, ⟨_, by rw [cn]⟩, q⟩
end L2X
end Lm

namespace Lm
open PySem PySem.Spec PyProof.Rows L2
/-! ## A new tuple, whose object is known: t.index(x) -/
def TuZ (H : Hp) (p : Addr) (xs : List V) : Prop := ∃ o, H p = some (.frz o (.tup xs)) ∧ o.dict = none
theorem TuZ.sqt {K : PySem.W.Frag} {H : Hp} {p : Addr} {xs : List V} (h : TuZ H p xs) : SqT K H p xs := by
  obtain ⟨o, e, _⟩ := h
  exact .inl (.inr ⟨o, e⟩)
theorem TuZ.tk {H H' : Hp} {p : Addr} {xs : List V} (h : TuZ H p xs) (t : Tk H H') : TuZ H' p xs := by
  obtain ⟨o, e, d⟩ := h
  exact ⟨o, t.frz _ _ _ e, d⟩
theorem call_tuple_ofZ {X : Cx} : CallR X (.type "tuple") (fun xs H Q => ∃ p ys, xs = [.ref p] ∧ SqL X.K H p ys ∧ ∀ l o, H l = none → o.dict = none → Q (.ref l) (upd H l (.frz o (.tup ys)))) := by
  intro pins s σ H xs us Q I r h
  obtain ⟨p, ys, rfl, hq, q⟩ := h
  obtain ⟨u, rfl, rx⟩ := vals1 r
  cases rx
  obtain ⟨its, r', pl, hz⟩ := I.list hq
  have hlen := r'.length
  refine call_tuple_list pl.isList (fun h' kp => ?_) (by simp only [List.size_toArray] <;> omega)
  have I1 : Inv X pins σ H { s with heap := h' } := I.kept (t' := s.toks) kp
  have I2 : Inv X pins σ (upd H h'.objs.size (.frz { cls := .type "tuple", data := .seq its.toArray } (.tup ys))) { s with heap := h'.push { cls := .type "tuple", data := .seq its.toArray } } :=
    I1.laid (t' := s.toks) (fun b o e => Heap.get?_push_of_some _ e) (Nat.le_refl _) (show ObjOk X.prog X.w _ _ _ (.frz _ (.tup ys)) from ⟨Heap.get?_push_size _ rfl, hz, its, r', IsTup.new _ _⟩)
  exact ⟨.ref h'.objs.size, _, I2, rfl, q _ _ (I1.hok.fresh (Nat.le_refl _)) rfl⟩
/-- t.index(z), t such a tuple of texts -/
def tTupIx (to : TE) (t : TA) : TE := fun σ H Q => to σ H fun x H1 => (∃ p ys, x = .ref p ∧ TuZ H1 p ys) ∧ t σ H1 fun vs H2 => ∃ (p : Addr) (ys : List Str) (z : Str) (j : Nat), x = .ref p ∧ vs = [.str z] ∧ TuZ H2 p (ys.map V.str) ∧ ys[j]? = some z ∧ (∀ m, m < j → ys[m]? ≠ some z) ∧ Q (.int (j : Nat)) H2
theorem pe_tupIx {X : Cx} {o e : PySem.Expr} {es : List PySem.Expr} {to : TE} {t : TA} {apos cpos : Pos} (ho : PE X o to) (ha : PA X (e :: es) t)
    (hbase : attributeBase o "index" X.env (eval o X.env) = eval o X.env := by rfl)
    (hfew : ((backTo cpos (starEach (e :: es) X.env)).all (fun x => !x.1) && (backToKw cpos (keywordEach [] X.env)).all (fun x => x.1.isSome)
      && decide ((e :: es).length + ([] : List Keyword).length + (if ([] : List Keyword).isEmpty then 0 else 1) < 30)) = true := by rfl)
    (hline : (apos.endLine == cpos.line) = true := by rfl) (hs : starEach (e :: es) X.env = (false, eval e X.env) :: starEach es X.env := by rfl) (hplain : (backTo cpos (starEach es X.env)).any (·.1) = false := by rfl) :
    PE X (.Call (.Attribute o "index" apos) (e :: es) [] cpos) (tTupIx to t) := by
  refine ⟨fun pins s σ H Q I h => ?_⟩
  refine wpAny_Call_method_late hbase hfew hline rfl (thn (ho.run pins s σ H _ I h) fun v s1 ⟨x, H1, I1, r1, ⟨p, ys, ex, oz, hz, dz⟩, q1⟩ => ?_)
  subst ex
  have r1' : v = Value.ref p := r1
  subst r1'
  obtain ⟨g1, _, its, _, o', g2, gc, _⟩ := (show ObjOk X.prog X.w H1 s1.heap p (.frz oz (.tup ys)) from I1.hok p _ hz)
  rw [g1] at g2
  cases g2
  refine ⟨"tuple", "tuple.index", PySem.F.plainAttrs_tuple, PySem.F.slot_tuple_index, PySem.F.type_tuple_index, ⟨oz, g1, gc⟩, fun a e => ?_, ?_⟩
  · cases e
    exact ⟨oz, g1, dz⟩
  have hA := ha.run cpos pins s1 σ H1 _ I1 q1
  rw [hs] at hA ⊢
  refine Calls.callWith_builtin (by show (false || (backTo cpos (starEach es X.env)).any (·.1)) = false; rw [hplain] <;> rfl) (Calls.evalArgs_plain ?_)
  refine thn hA fun us s2 ⟨vs, H2, I2, r2, p', ys', z, j, ex, ev, tz, h1, h2, q⟩ => ?_
  cases ex
  exact mt_tup_index pins s2 σ H2 (.ref p) vs _ us Q I2 rfl r2 ⟨p, ys', z, j, rfl, ev, tz.sqt, h1, h2, q⟩
end Lm

namespace Lm
open PySem PySem.Spec PyProof.Rows L2
/-! ## Books -/
def bkF (t : Str) (p1 p2 p3 p4 p5 pl : Addr) : List (Str × V) := [("text", .str t), ("names", .ref p1), ("mirrors", .ref p2), ("pegs", .ref p3), ("loose", .ref p4), ("lines", .ref p5), ("plan", .ref pl)]
def bookS (ls : List LnS) : Str := Txt.join "\n" (ls.map textS)
def namesS (ls : List LnS) : List Str := ls.map fun l => l.name
def ofS (m : Bool) (ls : List LnS) : List Str := (ls.filter fun l => l.mir == m).map fun l => l.name
def BkAt (P : Program) (w : World) (K : PySem.W.Frag) (H : Hp) (a : Addr) (ls : List LnS) : Prop := ∃ dx p1 p2 p3 p4 p5 pl md fd as, H a = some (.ins (He.ga K "Book") dx (bkF (bookS ls) p1 p2 p3 p4 p5 pl)) ∧ TuZ H p1 ((namesS ls).map V.str) ∧ SqT K H p2 ((ofS true ls).map V.str) ∧ SqT K H p3 ((ofS false ls).map V.str) ∧
  SqT K H p4 ((looseS ls).map V.str) ∧ SqT K H p5 (as.map V.ref) ∧ LnsAt K H as (ls.map textS) ls ∧ PlAt P w K H pl md fd (looseS ls) (stS ls).ev.fl (stS ls).ev.kn (stS ls).mv (nsS ls) (2 * ls.length)
theorem LnsAt.same {K : PySem.W.Frag} {H H' : Hp} {as : List Addr} {ts : List Str} {ls : List LnS} (h : LnsAt K H as ts ls) (s : Same H H') : LnsAt K H' as ts ls := ⟨h.1, fun i a l ha hl => by
  obtain ⟨t, h1, h2⟩ := h.2 i a l ha hl
  exact ⟨t, h1, h2.same s⟩⟩
theorem BkAt.same {P : Program} {w : World} {K : PySem.W.Frag} {H H' : Hp} {a : Addr} {ls : List LnS} (h : BkAt P w K H a ls) (s : Same H H') : BkAt P w K H' a ls := by
  obtain ⟨dx, p1, p2, p3, p4, p5, pl, md, fd, as, h1, h2, h3, h4, h5, h6, h7, h8⟩ := h
  exact ⟨dx, p1, p2, p3, p4, p5, pl, md, fd, as, s _ _ h1, h2.tk (.same s), sq_tk h3 (.same s), sq_tk h4 (.same s), sq_tk h5 (.same s), sq_tk h6 (.same s), h7.same s, h8.same s⟩
theorem not_join {n : Nat} (hn : n ≠ 32) : ∀ {ps : List (List Nat)}, (∀ p ∈ ps, n ∉ p) → n ∉ TL.joinL [32] ps
  | [], _ => by simp [TL.joinL]
  | [p], h => by
    show n ∉ p
    exact h p (List.mem_singleton.mpr rfl)
  | p :: q :: r, h => by
    show n ∉ p ++ ([32] ++ TL.joinL [32] (q :: r))
    intro z
    rcases List.mem_append.mp z with z | z
    · exact h p (List.mem_cons_self ..) z
    · rcases List.mem_append.mp z with z | z
      · exact hn (List.mem_singleton.mp z)
      · exact not_join hn (fun x hx => h x (List.mem_cons_of_mem _ hx)) z
theorem textS_no {l : LnS} (n : NmOk l) : 10 ∉ TL.tl (textS l) := by
  unfold textS
  rw [TL.join_eq, TL.tl_join]
  have e : TL.tl (" " : Str) = [32] := rfl
  rw [e]
  refine not_join (by decide) fun p hp => ?_
  obtain ⟨x, hx, rfl⟩ := List.mem_map.mp hp
  exact (n.sp x hx).2
theorem split_book {ls : List LnS} (h : ∀ l ∈ ls, NmOk l) (ne : ls ≠ []) : Txt.split (bookS ls) "\n" = ls.map textS :=
  TL.split_join (s := 10) (S := []) rfl (by decide +kernel) (fun z => ne (List.map_eq_nil_iff.mp z)) fun x hx => by
    obtain ⟨l, hl, rfl⟩ := List.mem_map.mp hx
    exact textS_no (h l hl)
theorem book_len {ls : List LnS} (v : VBk ls) : (bookS ls).length ≤ 20000 := by
  have e : bookS ls = Str.join "\n" (ls.map textS) := TL.join_eq _ _
  rw [e]
  have h1 := StrLaws.join_length_le "\n" (ls.map textS)
  have key : ∀ r : List LnS, (∀ l ∈ r, (textS l).length ≤ 1000) → ((r.map textS).map (·.length)).sum ≤ 1000 * r.length := by
    intro r
    induction r with
    | nil => intro _; exact Nat.le_refl _
    | cons a r ih =>
      intro q
      have h1 := q a List.mem_cons_self
      have h2 := ih fun n m => q n (List.mem_cons_of_mem _ m)
      simp only [List.map_cons, List.sum_cons, List.length_cons]
      omega
  have h2 := key ls fun l hl => by
    obtain ⟨i, hi⟩ := List.mem_iff_getElem?.mp hl
    exact text_len (v.nm l hl).wl (by have := (words_len (v.ok i l hi).1).1; omega)
  have h3 := v.n
  have h4 : ("\n" : Str).length = 1 := rfl
  rw [h4, List.length_map] at h1
  omega
def spBkI (P : Program) (w : World) (K : PySem.W.Frag) : Sp := fun vs H Q _ => ∃ (x dx : Addr) (ls : List LnS), vs = [.ref x, .str (bookS ls)] ∧ H x = some (.ins (He.ga K "Book") dx []) ∧ VBk ls ∧ ls ≠ [] ∧ ∀ H', KeptBut x H H' → BkAt P w K H' x ls → Q .non H'
theorem LnAt.keptx {K : PySem.W.Frag} {H H' : Hp} {x c dx a : Addr} {t : Str} {l : LnS} (h : LnAt K H a t l) (hx : H x = some (.ins c dx [])) (kb : KeptBut x H H') : LnAt K H' a t l := h.keep (kb.tk hx trivial) fun dy fs e => by
  obtain ⟨dl, po, pw, pr, h1, _⟩ := h
  refine kb a _ e fun z => ?_
  rw [z, hx] at h1
  cases h1
theorem LnsAt.keptx {K : PySem.W.Frag} {H H' : Hp} {x c dx : Addr} {as : List Addr} {ts : List Str} {ls : List LnS} (h : LnsAt K H as ts ls) (hx : H x = some (.ins c dx [])) (kb : KeptBut x H H') : LnsAt K H' as ts ls := ⟨h.1, fun i a l ha hl => by
  obtain ⟨t, h1, h2⟩ := h.2 i a l ha hl
  exact ⟨t, h1, h2.keptx hx kb⟩⟩
theorem MvAt.keptx {P : Program} {w : World} {K : PySem.W.Frag} {H H' : Hp} {x c dx a : Addr} {m : Al.Mv Str} (h : MvAt P w K H a m) (hx : H x = some (.ins c dx [])) (kb : KeptBut x H H') : MvAt P w K H' a m := h.keep (kb.tk hx trivial) fun dy fs e => by
  obtain ⟨dl, p, q, h1, _⟩ := h
  refine kb a _ e fun z => ?_
  rw [z, hx] at h1
  cases h1
theorem PlAt.keptx {P : Program} {w : World} {K : PySem.W.Frag} {H H' : Hp} {x c dx pl md fd : Addr} {loose : List Str} {fl : Str → Bool → Al.Sh Str} {dom : Str → Bool → Prop} {mv : Str → Al.Mv Str} {ns : NsT} {m : Nat} (h : PlAt P w K H pl md fd loose fl dom mv ns m) (hx : H x = some (.ins c dx [])) (kb : KeptBut x H H') : PlAt P w K H' pl md fd loose fl dom mv ns m := by
  have t := kb.tk hx trivial
  obtain ⟨dy, p0, h1, h2⟩ := h.pl
  obtain ⟨kvs, m1, m2, m3⟩ := h.md
  obtain ⟨es, f1, f2, f3, f4⟩ := h.fd
  refine ⟨⟨dy, p0, kb _ _ h1 (fun z => by rw [z, hx] at h1; cases h1), sq_tk h2 t⟩, ⟨kvs, kb _ _ m1 (fun z => by rw [z, hx] at m1; cases m1), m2, fun k a ha => ?_⟩, ⟨es, kb _ _ f1 (fun z => by rw [z, hx] at f1; cases f1), f2, f3.tk t, fun n b hd => ?_⟩⟩
  · obtain ⟨y, e1, e2⟩ := m3 k a ha
    exact ⟨y, e1, e2.keptx hx kb⟩
  · obtain ⟨d, e1, e2⟩ := f4 n b hd
    exact ⟨d, e1, e2.tk t⟩
theorem ins_ne {c c' dx dy : Addr} {fs : List (Str × V)} (h : (some (HO.ins c dx []) : Option HO) = some (.ins c' dy fs)) (ne : fs ≠ []) : False := by
  injection h with h
  injection h with _ _ h
  exact ne h.symm
theorem filt_take {f : LnS → Bool} {ls : List LnS} {i : Nat} {l : LnS} (h : ls[i]? = some l) (g : LnS → V) : ((ls.take (i + 1)).filter f).map g = if f l = true then ((ls.take i).filter f).map g ++ [g l] else ((ls.take i).filter f).map g := by
  rw [List.take_add_one, h, List.filter_append, List.map_append]
  cases q : f l <;> simp [q]
/-! ### the law's lines -/
def lawF : Al.Fm → Str
  | .free => "free"
  | .thr => "through"
  | .along => "along"
  | .across => "across"
  | .frm => "in"
  | .is_ => "is"
  | .on => "on"
  | .about => "about"
  | .amid => "amid"
def LoAt (K : PySem.W.Frag) (H : Hp) (a : Addr) (l : LnS) : Prop := ∃ po, SqT K H a [.str (wordS l.mir), .str l.name, .str (lawF l.fm), .ref po] ∧ SqT K H po (l.oth.map V.str)
theorem LoAt.same {K : PySem.W.Frag} {H H' : Hp} {a : Addr} {l : LnS} (h : LoAt K H a l) (s : Same H H') : LoAt K H' a l := let ⟨po, h1, h2⟩ := h; ⟨po, sq_tk h1 (.same s), sq_tk h2 (.same s)⟩
def spLoText (K : PySem.W.Frag) : Sp := fun vs H Q _ => ∃ (a : Addr) (l : LnS) (ns : NsT), vs = [.ref a] ∧ LoAt K H a l ∧ Al.LOk ns l ∧ NmOk l ∧ ∀ H', Same H H' → Q (.str (textS l)) H'
theorem ite_yes {b : Bool} {A B : Prop} (e : b = true) (h : A) : if b = true then A else B := by
  rw [if_pos e]
  exact h
theorem ite_no {b : Bool} {A B : Prop} (e : b = false) (h : B) : if b = true then A else B := by
  rw [e, if_neg Bool.false_ne_true]
  exact h
/-- a lore, as a list of such tuples -/
def LoresAt (K : PySem.W.Frag) (H : Hp) (as : List Addr) (ls : List LnS) : Prop := as.length = ls.length ∧ ∀ (i : Nat) a l, as[i]? = some a → ls[i]? = some l → LoAt K H a l
theorem LoresAt.same {K : PySem.W.Frag} {H H' : Hp} {as : List Addr} {ls : List LnS} (h : LoresAt K H as ls) (s : Same H H') : LoresAt K H' as ls := ⟨h.1, fun i a l ha hl => (h.2 i a l ha hl).same s⟩
def spLoreText (K : PySem.W.Frag) : Sp := fun vs H Q _ => ∃ (p : Addr) (as : List Addr) (ls : List LnS), vs = [.ref p] ∧ SqL K H p (as.map V.ref) ∧ LoresAt K H as ls ∧ VBk ls ∧ ∀ H', Same H H' → Q (.str (bookS ls)) H'
def whatS : Option Bool → Str
  | none => ""
  | some m => wordS m
def whatB (o : Option Bool) (l : LnS) : Bool := match o with
  | none => true
  | some m => l.mir == m
def namesOfS (o : Option Bool) (ls : List LnS) : List Str := (ls.filter (whatB o)).map fun l => l.name
def spLoNames (K : PySem.W.Frag) : Sp := fun vs H Q _ => ∃ (p : Addr) (as : List Addr) (ls : List LnS) (o : Option Bool), vs = [.ref p, .str (whatS o)] ∧ SqL K H p (as.map V.ref) ∧ LoresAt K H as ls ∧ ls.length ≤ 12 ∧ ∀ H' r, Same H H' → H r = none → H' r = some (.lst ((namesOfS o ls).map V.str)) → Q (.ref r) H'
theorem what_in (o : Option Bool) (l : LnS) : inV (.str (whatS o)) [.str "", .str (wordS l.mir)] = whatB o l := by
  rcases o with _ | m
  · rcases l with ⟨mir, nm, fm, oth⟩
    cases mir <;> rfl
  · rcases l with ⟨mir, nm, fm, oth⟩
    cases mir <;> cases m <;> rfl
theorem ix_seqP {X : Cx} (K : PySem.W.Frag) (hK : X.K = K := by rfl) : IxR X (rIx K) := by
  subst hK
  exact ix_seq
theorem op_in_seqP {X : Cx} (K : PySem.W.Frag) (hK : X.K = K := by rfl) : OpR X (compareOp .In) (rIn K false) := by
  subst hK
  exact op_in_seq
/-- _law_some -/
def spSome (K : PySem.W.Frag) : Sp := fun vs H Q _ => ∃ (a l : Addr) (n m : Nat) (xs : List Str), vs = [.ref a, .ref l, .int (m : Int)] ∧ PotAt H a n ∧ n + m < 1000000 ∧ l ≠ a ∧ (SqL K H l (xs.map V.str) ∨ SqT K H l (xs.map V.str)) ∧ xs.Nodup ∧ m ≤ xs.length ∧ xs.length ≤ 100 ∧
  ∀ (H' : Hp) (r : Addr) (ys : List Str), PotAt H' a (n + m) → KeptBut a H H' → H r = none → H' r = some (.lst (ys.map V.str)) → ys.length = m → ys.Nodup → (∀ y ∈ ys, y ∈ xs) → Q (.ref r) H'
theorem map_eraseIdx {rs : List Str} {k : Nat} : (rs.map V.str).eraseIdx k = (rs.eraseIdx k).map V.str := by
  induction rs generalizing k with
  | nil => rfl
  | cons a r ih =>
    cases k with
    | zero => rfl
    | succ k => exact congrArg (V.str a :: ·) ih
theorem erase_perm : ∀ {rs : List Str} {k : Nat} {y : Str}, rs[k]? = some y → (y :: rs.eraseIdx k).Perm rs
  | [], k, y, h => by simp at h
  | a :: r, 0, y, h => by
    cases h
    exact List.Perm.refl _
  | a :: r, k + 1, y, h => (List.Perm.swap a y (r.eraseIdx k)).trans ((erase_perm (rs := r) (k := k) (y := y) h).cons a)
theorem perm_pop {rs ys xs : List Str} {k : Nat} {y : Str} (h : (ys ++ rs).Perm xs) (hk : rs[k]? = some y) : ((ys ++ [y]) ++ rs.eraseIdx k).Perm xs := by
  refine List.Perm.trans ?_ h
  rw [List.append_assoc]
  exact List.Perm.append_left ys (erase_perm hk)
def poolS : List Str := ["a", "b", "c", "d", "e", "p", "q", "r", "s", "on", "in", "is", "mirror", "peg", "through", "row", "from", "amid", "even", "step", "x", "zzzzzzzz"]
theorem poolS_nd : poolS.Nodup := by decide +kernel
theorem poolS_ok : ∀ x ∈ poolS, nameB x = true ∧ 32 ∉ TL.tl x ∧ 10 ∉ TL.tl x ∧ x.length ≤ 8 := by
  have all : poolS.all (fun x => nameB x && (!(TL.tl x).contains 32 && (!(TL.tl x).contains 10 && decide (x.length ≤ 8)))) = true := by decide +kernel
  intro x hx
  have z := List.all_eq_true.mp all x hx
  simp only [Bool.and_eq_true, Bool.not_eq_true', decide_eq_true_eq] at z
  obtain ⟨z1, z2, z3, z4⟩ := z
  refine ⟨z1, fun c => ?_, fun c => ?_, z4⟩
  · rw [List.contains_iff_mem.mpr c] at z2
    cases z2
  · rw [List.contains_iff_mem.mpr c] at z3
    cases z3
def spNms : Sp := fun vs H Q _ => ∃ (a : Addr) (n m : Nat), vs = [.ref a, .int (m : Int)] ∧ PotAt H a n ∧ n + m < 1000000 ∧ m ≤ 22 ∧ ∀ (H' : Hp) (r : Addr) (ys : List Str), PotAt H' a (n + m) → KeptBut a H H' → H r = none → H' r = some (.lst (ys.map V.str)) → ys.length = m → ys.Nodup → (∀ y ∈ ys, y ∈ poolS) → Q (.ref r) H'
end Lm

namespace Lm
open PySem PySem.Spec PyProof.Rows L2
/-! ## Lines that laws draw -/
def spOdd : Sp := fun vs H Q _ => ∃ (a : Addr) (n : Nat), vs = [.ref a] ∧ PotAt H a n ∧ n < 999999 ∧ ∀ v H', PotAt H' a (n + 1) → KeptBut a H H' → Sm 40 3 (fresh H H') v → Q v H'
def sgS : List Bool → Str
  | [true] => "m"
  | [false] => "p"
  | [true, false] => "mp"
  | [false, true] => "pm"
  | [false, false] => "pp"
  | [true, true] => "mm"
  | _ => ""
def signS (b : Bool) : Str := if b = true then "m" else "p"
inductive FmOk (ls : List LnS) : Bool → Al.Fm → List Bool → Prop where
  | free (m : Bool) (h : m = true → (looseS ls).length < 5) : FmOk ls m .free []
  | thr (h : (looseS ls).length < 5) (hp : 0 < (ofS false ls).length) : FmOk ls true .thr [false]
  | along (hm : 0 < (ofS true ls).length) (hp : 0 < (ofS false ls).length) : FmOk ls true .along [true, false]
  | across (hm : 0 < (ofS true ls).length) (hp : 0 < (ofS false ls).length) : FmOk ls true .across [true, false]
  | frmM (hm : 1 < (ofS true ls).length) (hw : (ls.filter isRowL).length < 3) : FmOk ls true .frm [true, true]
  | frmP (hm : 0 < (ofS true ls).length) (hp : 0 < (ofS false ls).length) (hw : (ls.filter isRowL).length < 3) : FmOk ls false .frm [false, true]
  | is_ (m : Bool) (hm : 0 < (ofS m ls).length) (hw : (ls.filter isRowL).length < 3) : FmOk ls m .is_ [m]
  | on (hm : 0 < (ofS true ls).length) : FmOk ls false .on [true]
  | about (hp : 1 < (ofS false ls).length) : FmOk ls false .about [false, false]
  | amid (hp : 1 < (ofS false ls).length) : FmOk ls false .amid [false, false]
/-- the found forms -/
def FoAt (H : Hp) (ls : List LnS) (rs : List V) : Prop := ∀ v ∈ rs, ∃ t m f sg, v = .ref t ∧ H t = some (.tup [.str (wordS m), .str (lawF f), .str (sgS sg)]) ∧ FmOk ls m f sg
theorem FoAt.same {H H' : Hp} {ls : List LnS} {rs : List V} (h : FoAt H ls rs) (s : Same H H') : FoAt H' ls rs := fun v hv => by
  obtain ⟨t, m, f, sg, h1, h2, h3⟩ := h v hv
  exact ⟨t, m, f, sg, h1, s _ _ h2, h3⟩
def spForms (K : PySem.W.Frag) : Sp := fun vs H Q _ => ∃ (p : Addr) (as : List Addr) (ls : List LnS), vs = [.ref p] ∧ SqL K H p (as.map V.ref) ∧ LoresAt K H as ls ∧ ls.length ≤ 12 ∧ ∀ H' r rs, Same H H' → H r = none → H' r = some (.lst rs) → FoAt H' ls rs → rs ≠ [] → rs.length ≤ 40 → Q (.ref r) H'
/-- names that were picked by their signs -/
structure PickOk (ls : List LnS) (sg : List Bool) (xs : List Str) : Prop where
  len : xs.length = sg.length
  mem : ∀ (i : Nat) b x, sg[i]? = some b → xs[i]? = some x → (b, x) ∈ nsS ls
  nd : xs.Nodup
theorem of_mem {m : Bool} {ls : List LnS} {x : Str} : x ∈ ofS m ls ↔ (m, x) ∈ nsS ls := by
  unfold ofS nsS
  constructor
  · intro h
    obtain ⟨l, hl, rfl⟩ := List.mem_map.mp h
    obtain ⟨h1, h2⟩ := List.mem_filter.mp hl
    exact List.mem_map.mpr ⟨l, h1, by rw [beq_iff_eq] at h2; rw [h2]⟩
  · intro h
    obtain ⟨l, hl, e⟩ := List.mem_map.mp h
    cases e
    exact List.mem_map.mpr ⟨l, List.mem_filter.mpr ⟨hl, by simp⟩, rfl⟩
theorem of_nodup {m : Bool} {ls : List LnS} (h : (namesS ls).Nodup) : (ofS m ls).Nodup := by
  unfold ofS
  exact List.Nodup.sublist ((List.filter_sublist (l := ls)).map _) h
theorem ns_kind {ls : List LnS} (h : (namesS ls).Nodup) {a b : Bool} {x : Str} (ha : (a, x) ∈ nsS ls) (hb : (b, x) ∈ nsS ls) : a = b := by
  unfold nsS at ha hb
  unfold namesS at h
  obtain ⟨l, hl, e1⟩ := List.mem_map.mp ha
  obtain ⟨l', hl', e2⟩ := List.mem_map.mp hb
  cases e1
  injection e2 with e3 e4
  have : l' = l := by
    clear ha hb e3
    induction ls with
    | nil => cases hl
    | cons y ls ih =>
      rw [List.map_cons, List.nodup_cons] at h
      rcases List.mem_cons.mp hl with z | z
      · rcases List.mem_cons.mp hl' with z' | z'
        · rw [z, z']
        · exact absurd (by rw [← z, ← e4]; exact List.mem_map_of_mem (f := fun l => l.name) z') h.1
      · rcases List.mem_cons.mp hl' with z' | z'
        · exact absurd (by rw [← z', e4]; exact List.mem_map_of_mem (f := fun l => l.name) z) h.1
        · exact ih h.2 z z'
  rw [← this, e3]
theorem two_left {xs : List Str} {y : Str} (h : 1 < xs.length) (nd : xs.Nodup) : ∃ z ∈ xs, z ≠ y := by
  match xs, h with
  | [], h => cases h
  | [_], h => exact absurd h (by simp)
  | a :: b :: r, _ =>
    by_cases e : a = y
    · refine ⟨b, by simp, fun q => ?_⟩
      rw [List.nodup_cons] at nd
      exact nd.1 (by rw [e, ← q]; simp)
    · exact ⟨a, by simp, e⟩
/-- there is always one more to be picked -/
theorem pick_some {ls : List LnS} {m : Bool} {f : Al.Fm} {sg : List Bool} {xs : List Str} {b : Bool} (nd : (namesS ls).Nodup) (h : FmOk ls m f sg) (hx : PickOk ls (sg.take xs.length) xs) (hb : sg[xs.length]? = some b) : ∃ y ∈ ofS b ls, y ∉ xs := by
  have one : ∀ {c : Bool}, 0 < (ofS c ls).length → ∃ y ∈ ofS c ls, y ∉ ([] : List Str) := fun {c} z => by
    cases e : ofS c ls with
    | nil => rw [e] at z; cases z
    | cons y r => exact ⟨y, by simp, by simp⟩
  have two : ∀ {c : Bool} {x : Str}, 1 < (ofS c ls).length → ∃ y ∈ ofS c ls, y ∉ [x] := fun {c x} z => by
    obtain ⟨y, h1, h2⟩ := two_left (y := x) z (of_nodup nd)
    exact ⟨y, h1, fun q => h2 (List.mem_singleton.mp q)⟩
  have oth : ∀ {c d : Bool} {x : Str}, c ≠ d → (d, x) ∈ nsS ls → 0 < (ofS c ls).length → ∃ y ∈ ofS c ls, y ∉ [x] := fun {c d x} ne hm z => by
    obtain ⟨y, h1, _⟩ := one z
    refine ⟨y, h1, fun q => ?_⟩
    rw [List.mem_singleton.mp q] at h1
    exact ne (ns_kind nd (of_mem.mp h1) hm)
  match xs, hx, hb with
  | [], _, hb =>
    cases h with
    | free m hm => cases hb
    | thr _ hp => cases hb; exact one hp
    | along hm hp => cases hb; exact one hm
    | across hm hp => cases hb; exact one hm
    | frmM hm _ => cases hb; exact one (by omega)
    | frmP _ hp _ => cases hb; exact one hp
    | is_ m hm _ => cases hb; exact one hm
    | on hm => cases hb; exact one hm
    | about hp => cases hb; exact one (by omega)
    | amid hp => cases hb; exact one (by omega)
  | [x], hx, hb =>
    have x0 : ∀ d, sg[0]? = some d → (d, x) ∈ nsS ls := fun d e => hx.mem 0 d x (by rw [show [x].length = 1 from rfl, List.getElem?_take_of_lt (by decide : 0 < 1)]; exact e) rfl
    cases h with
    | free m hm => cases hb
    | thr _ hp => cases hb
    | along hm hp => cases hb; exact oth (by decide) (x0 _ rfl) hp
    | across hm hp => cases hb; exact oth (by decide) (x0 _ rfl) hp
    | frmM hm _ => cases hb; exact two hm
    | frmP hm _ _ => cases hb; exact oth (by decide) (x0 _ rfl) hm
    | is_ m hm _ => cases hb
    | on hm => cases hb
    | about hp => cases hb; exact two hp
    | amid hp => cases hb; exact two hp
  | _ :: _ :: r, _, hb =>
    have : sg.length ≤ 2 := by cases h <;> simp
    rw [List.getElem?_eq_none (by simp only [List.length_cons]; omega)] at hb
    cases hb
theorem PickOk.more {ls : List LnS} {sg : List Bool} {xs : List Str} {b : Bool} {y : Str} (hx : PickOk ls (sg.take xs.length) xs) (hb : sg[xs.length]? = some b) (hy : y ∈ ofS b ls) (ny : y ∉ xs) : PickOk ls (sg.take (xs ++ [y]).length) (xs ++ [y]) := by
  have hl : xs.length < sg.length := (List.getElem?_eq_some_iff.mp hb).1
  have e : sg.take (xs.length + 1) = sg.take xs.length ++ [b] := by
    rw [List.take_add_one, hb]
    rfl
  rw [List.length_append, show [y].length = 1 from rfl, e]
  refine ⟨?_, fun i c x h1 h2 => ?_, ?_⟩
  · rw [List.length_append, List.length_append, ← hx.len]
    rfl
  · by_cases hi : i < xs.length
    · rw [List.getElem?_append_left hi] at h2
      rw [List.getElem?_append_left (by rw [← hx.len]; exact hi)] at h1
      exact hx.mem i c x h1 h2
    · rw [List.getElem?_append_right (by omega)] at h2
      rw [List.getElem?_append_right (by rw [← hx.len]; omega)] at h1
      have i0 : i - xs.length = 0 := by
        have := (List.getElem?_eq_some_iff.mp h2).1
        simpa using this
      rw [i0] at h2
      rw [← hx.len, i0] at h1
      cases h1
      cases h2
      exact of_mem.mp hy
  · rw [List.nodup_append]
    exact ⟨hx.nd, by simp, fun a ha b hb e => ny (by rw [← List.mem_singleton.mp hb, ← e]; exact ha)⟩
/-- the line of what was picked -/
theorem pick_ok {ls : List LnS} {m : Bool} {f : Al.Fm} {sg : List Bool} {xs : List Str} {nm : Str} (h : FmOk ls m f sg) (ni : f ≠ .is_) (hx : PickOk ls sg xs) : Al.LOk (nsS ls) ⟨m, nm, f, xs⟩ := by
  have l := hx.len
  have e := hx.mem
  cases h with
  | free m hm =>
    obtain rfl := List.eq_nil_of_length_eq_zero l
    exact .free m nm
  | thr _ hp =>
    match xs, l with
    | [p], _ => exact .thr nm p (e 0 _ _ rfl rfl)
  | along hm hp =>
    match xs, l with
    | [a, p], _ => exact .along nm a p (e 0 _ _ rfl rfl) (e 1 _ _ rfl rfl)
  | across hm hp =>
    match xs, l with
    | [a, p], _ => exact .across nm a p (e 0 _ _ rfl rfl) (e 1 _ _ rfl rfl)
  | frmM hm _ =>
    match xs, l with
    | [a, p], _ => exact .frmM nm a p (e 0 _ _ rfl rfl) (e 1 _ _ rfl rfl)
  | frmP _ hp _ =>
    match xs, l with
    | [a, p], _ => exact .frmP nm a p (e 0 _ _ rfl rfl) (e 1 _ _ rfl rfl)
  | is_ m hm _ => exact absurd rfl ni
  | on hm =>
    match xs, l with
    | [p], _ => exact .on nm p (e 0 _ _ rfl rfl)
  | about hp =>
    match xs, l with
    | [a, p], _ => exact .about nm a p (e 0 _ _ rfl rfl) (e 1 _ _ rfl rfl)
  | amid hp =>
    match xs, l with
    | [a, p], _ => exact .amid nm a p (e 0 _ _ rfl rfl) (e 1 _ _ rfl rfl)
theorem pal_wings (ws : List Str) (a : Str) : Al.Pal (ws ++ [a] ++ ws.reverse) a := by
  induction ws with
  | nil => exact .one a
  | cons w ws ih =>
    have e : w :: ws ++ [a] ++ (w :: ws).reverse = w :: ((ws ++ [a] ++ ws.reverse) ++ [w]) := by simp
    rw [e]
    exact .wing w ih
/-- few: with a line more -/
theorem few_more {ls : List LnS} {m : Bool} {f : Al.Fm} {sg : List Bool} {nm : Str} {xs : List Str} (h : FmOk ls m f sg) (w : fewB ls = true) : fewB (ls ++ [⟨m, nm, f, xs⟩]) = true := by
  unfold fewB looseS at w ⊢
  rw [Bool.and_eq_true, decide_eq_true_eq, decide_eq_true_eq, List.length_map] at w ⊢
  rw [List.filter_append, List.filter_append, List.length_append, List.length_append]
  have w1 := w.1
  have w2 := w.2
  cases h with
  | free m hm =>
    cases m with
    | true =>
      have := hm rfl
      unfold looseS at this
      rw [List.length_map] at this
      constructor
      · show _ + 1 ≤ 5; omega
      · show _ + 0 ≤ 3; omega
    | false => exact ⟨w1, w2⟩
  | thr h1 hp =>
    unfold looseS at h1
    rw [List.length_map] at h1
    constructor
    · show _ + 1 ≤ 5; omega
    · show _ + 0 ≤ 3; omega
  | along hm hp => exact ⟨w1, w2⟩
  | across hm hp => exact ⟨w1, w2⟩
  | frmM hm hw => exact ⟨w1, by show _ + 1 ≤ 3; omega⟩
  | frmP hm hp hw => exact ⟨w1, by show _ + 1 ≤ 3; omega⟩
  | is_ m hm hw =>
    cases m <;> exact ⟨w1, by show _ + 1 ≤ 3; omega⟩
  | on hm => exact ⟨w1, w2⟩
  | about hp => exact ⟨w1, w2⟩
  | amid hp => exact ⟨w1, w2⟩
/-- names of the pool -/
def NmPool (ls : List LnS) : Prop := ∀ l ∈ ls, l.name ∈ poolS
theorem VBk.names_nd {ls : List LnS} (h : VBk ls) : (namesS ls).Nodup := by
  have := h.nodup ls.length
  rw [List.take_length] at this
  unfold nsS at this
  rw [List.map_map] at this
  exact this
theorem pool_nm {ns : NsT} {l : LnS} (h : Al.LOk ns l) (p : l.name ∈ poolS) (q : ∀ k x, (k, x) ∈ ns → x ∈ poolS) : NmOk l := by
  have po : ∀ x ∈ l.oth, x ∈ poolS := fun x hx => by
    obtain ⟨k, hk⟩ := oth_in h x hx
    exact q k x hk
  have wd : ∀ x ∈ wordsS l, (x ∈ poolS) ∨ x ∈ (["mirror", "peg", "through", "along", "across", "from", "in", "is", "on", "about", "amid"] : List Str) := by
    intro x hx
    have wm : ∀ m, wordS m ∈ (["mirror", "peg", "through", "along", "across", "from", "in", "is", "on", "about", "amid"] : List Str) := fun m => by cases m <;> decide +kernel
    cases h with
    | free mir nm =>
      simp only [wordsS, List.mem_cons, List.not_mem_nil, or_false] at hx
      rcases hx with rfl | rfl
      · exact .inr (wm _)
      · exact .inl p
    | is_ mir nm a row hr ha hk h5 =>
      simp only [wordsS, List.mem_cons] at hx
      rcases hx with rfl | rfl | rfl | hx
      · exact .inr (wm _)
      · exact .inl p
      · exact .inr (by decide +kernel)
      · exact .inl (po x hx)
    | thr nm p' hp =>
      simp only [wordsS, List.mem_cons, List.not_mem_nil, or_false] at hx
      rcases hx with rfl | rfl | rfl | rfl
      · exact .inr (wm _)
      · exact .inl p
      · exact .inr (by decide +kernel)
      · exact .inl (po _ (by simp))
    | on nm p' hp =>
      simp only [wordsS, List.mem_cons, List.not_mem_nil, or_false] at hx
      rcases hx with rfl | rfl | rfl | rfl
      · exact .inr (wm _)
      · exact .inl p
      · exact .inr (by decide +kernel)
      · exact .inl (po _ (by simp))
    | amid nm a' p' ha hp =>
      simp only [wordsS, List.mem_cons, List.not_mem_nil, or_false] at hx
      rcases hx with rfl | rfl | rfl | rfl | rfl
      · exact .inr (wm _)
      · exact .inl p
      · exact .inr (by decide +kernel)
      · exact .inl (po _ (by simp))
      · exact .inl (po _ (by simp))
    | along nm a' p' ha hp =>
      simp only [wordsS, List.mem_cons, List.not_mem_nil, or_false] at hx
      rcases hx with rfl | rfl | rfl | rfl | rfl | rfl
      · exact .inr (wm _)
      · exact .inl p
      · exact .inr (by decide +kernel)
      · exact .inl (po _ (by simp))
      · exact .inr (by decide +kernel)
      · exact .inl (po _ (by simp))
    | across nm a' p' ha hp =>
      simp only [wordsS, List.mem_cons, List.not_mem_nil, or_false] at hx
      rcases hx with rfl | rfl | rfl | rfl | rfl | rfl
      · exact .inr (wm _)
      · exact .inl p
      · exact .inr (by decide +kernel)
      · exact .inl (po _ (by simp))
      · exact .inr (by decide +kernel)
      · exact .inl (po _ (by simp))
    | frmM nm a' p' ha hp =>
      simp only [wordsS, List.mem_cons, List.not_mem_nil, or_false] at hx
      rcases hx with rfl | rfl | rfl | rfl | rfl | rfl
      · exact .inr (wm _)
      · exact .inl p
      · exact .inr (by decide +kernel)
      · exact .inl (po _ (by simp))
      · exact .inr (by decide +kernel)
      · exact .inl (po _ (by simp))
    | frmP nm a' p' ha hp =>
      simp only [wordsS, List.mem_cons, List.not_mem_nil, or_false] at hx
      rcases hx with rfl | rfl | rfl | rfl | rfl | rfl
      · exact .inr (wm _)
      · exact .inl p
      · exact .inr (by decide +kernel)
      · exact .inl (po _ (by simp))
      · exact .inr (by decide +kernel)
      · exact .inl (po _ (by simp))
    | about nm a' p' ha hp =>
      simp only [wordsS, List.mem_cons, List.not_mem_nil, or_false] at hx
      rcases hx with rfl | rfl | rfl | rfl | rfl | rfl
      · exact .inr (wm _)
      · exact .inl p
      · exact .inr (by decide +kernel)
      · exact .inl (po _ (by simp))
      · exact .inr (by decide +kernel)
      · exact .inl (po _ (by simp))
  have kw : ∀ x ∈ (["mirror", "peg", "through", "along", "across", "from", "in", "is", "on", "about", "amid"] : List Str), 32 ∉ TL.tl x ∧ 10 ∉ TL.tl x ∧ x.length ≤ 8 := by
    have all : (["mirror", "peg", "through", "along", "across", "from", "in", "is", "on", "about", "amid"] : List Str).all (fun x => (!(TL.tl x).contains 32 && (!(TL.tl x).contains 10 && decide (x.length ≤ 8)))) = true := by decide +kernel
    intro x hx
    have z := List.all_eq_true.mp all x hx
    simp only [Bool.and_eq_true, Bool.not_eq_true', decide_eq_true_eq] at z
    obtain ⟨z2, z3, z4⟩ := z
    refine ⟨fun c => ?_, fun c => ?_, z4⟩
    · rw [List.contains_iff_mem.mpr c] at z2
      cases z2
    · rw [List.contains_iff_mem.mpr c] at z3
      cases z3
  exact ⟨(poolS_ok _ p).1, fun x hx => (poolS_ok _ (po x hx)).1, fun x hx => (wd x hx).elim (fun z => ⟨(poolS_ok _ z).2.1, (poolS_ok _ z).2.2.1⟩) fun z => ⟨(kw _ z).1, (kw _ z).2.1⟩, fun x hx => (wd x hx).elim (fun z => (poolS_ok _ z).2.2.2) fun z => (kw _ z).2.2⟩
/-- a line more -/
theorem VBk.more {ls : List LnS} {l : LnS} (h : VBk ls) (hn : ls.length ≤ 11) (ok : Al.LOk (nsS ls) l) (new : l.name ∉ namesS ls) (nm : NmOk l) (ds : l.fm ≠ .is_ → l.oth.Nodup) (few : fewB (ls ++ [l]) = true) : VBk (ls ++ [l]) := by
  refine ⟨fun i x hx => ?_, by rw [List.length_append]; show _ + 1 ≤ 12; omega, fun x hx => ?_, fun x hx => ?_, few⟩
  · by_cases hi : i < ls.length
    · rw [List.getElem?_append_left hi] at hx
      rw [List.take_append_of_le_length (by omega)]
      exact h.ok i x hx
    · have i0 : i = ls.length := by
        have := (List.getElem?_eq_some_iff.mp hx).1
        rw [List.length_append] at this
        have : i < ls.length + 1 := this
        omega
      subst i0
      rw [List.getElem?_append_right (Nat.le_refl _), Nat.sub_self] at hx
      cases hx
      rw [List.take_append_of_le_length (Nat.le_refl _), List.take_length]
      refine ⟨ok, fun k z => new ?_⟩
      unfold nsS at z
      obtain ⟨y, hy, e⟩ := List.mem_map.mp z
      exact List.mem_map.mpr ⟨y, hy, congrArg Prod.snd e⟩
  · rcases List.mem_append.mp hx with z | z
    · exact h.nm x z
    · rw [List.mem_singleton.mp z]
      exact nm
  · rcases List.mem_append.mp hx with z | z
    · exact h.ds x z
    · rw [List.mem_singleton.mp z]
      exact ds
theorem VBk.nil : VBk [] := ⟨fun i l h => (by simp at h), by decide, fun _ h => (nomatch h), fun _ h => (nomatch h), by decide⟩
/-- the first line is no row -/
theorem first_plain {ls : List LnS} (h : VBk ls) (ne : ls ≠ []) : ∃ l ∈ ls, l.fm ≠ .is_ := by
  match ls, h, ne with
  | l :: r, h, _ =>
    refine ⟨l, List.mem_cons_self, ?_⟩
    have z := (h.ok 0 l rfl).1
    rw [List.take_zero] at z
    cases z with
    | is_ _ _ a _ _ ha => exact (nomatch ha)
    | _ => exact fun z => nomatch z
/-- an expression that gives a list of forms -/
def FoE (ls : List LnS) (c : Bool) (n : Nat) (σ : L2.St) (te : TE) : Prop := ∀ (H : Hp) (Q : VK), (∀ p rs H', Same H H' → H p = none → H' p = some (.lst rs) → (c = true → FoAt H' ls rs) → rs.length ≤ n → Q (.ref p) H') → te σ H Q
def CndE (σ : L2.St) (te : TE) (c : Bool) : Prop := ∀ (H : Hp) (Q : VK), Q (.bl c) H → te σ H Q
abbrev rInt1 : List V → Hp → VK → Prop := fun xs H Q => (∃ i, xs = [.int i] ∧ Q (.int i) H) ∨ ∃ k, xs = [.bl k] ∧ Q (.int (if k then 1 else 0)) H
abbrev teFo (x y z : Str) : TE := tTup (tCons (tC (.str x)) (tCons (tC (.str y)) (tCons (tC (.str z)) tNil)))
theorem FoAt.put {H : Hp} {ls : List LnS} {rs : List V} {F : Addr} {us : List V} {o : HO} (h : FoAt H ls rs) (e : H F = some (.lst us)) : FoAt (upd H F o) ls rs := fun v hv => by
  obtain ⟨t, m, f, sg, h1, h2, h3⟩ := h v hv
  exact ⟨t, m, f, sg, h1, by rw [upd_ne (fun z => by rw [z, e] at h2; cases h2)]; exact h2, h3⟩
theorem fo_one {ls : List LnS} {σ : L2.St} {c : Bool} {x y z : Str} {m : Bool} {f : Al.Fm} {sg : List Bool} (h : c = true → FmOk ls m f sg) (ex : x = wordS m) (ey : y = lawF f) (ez : z = sgS sg) : FoE ls c 1 σ (tLst (tCons (teFo x y z) tNil)) := fun H Q q => by
  subst ex ey ez
  refine ⟨(by show 3 ≤ sizeLine; decide), fun t ht => ⟨(by show 1 ≤ sizeLine; decide), fun p hp => q p _ _ ((Same.new ht).trans (Same.new hp)) ((Same.new ht).free hp) upd_same (fun hc v hv => ?_) (Nat.le_refl _)⟩⟩
  rw [List.mem_singleton.mp hv]
  exact ⟨t, m, f, sg, rfl, Same.new hp _ _ upd_same, h hc⟩
theorem fo_two {ls : List LnS} {σ : L2.St} {c : Bool} {x y z x' y' z' : Str} {m m' : Bool} {f f' : Al.Fm} {sg sg' : List Bool} (h : c = true → FmOk ls m f sg ∧ FmOk ls m' f' sg') (ex : x = wordS m) (ey : y = lawF f) (ez : z = sgS sg) (ex' : x' = wordS m') (ey' : y' = lawF f') (ez' : z' = sgS sg') :
    FoE ls c 2 σ (tLst (tCons (teFo x y z) (tCons (teFo x' y' z') tNil))) := fun H Q q => by
  subst ex ey ez ex' ey' ez'
  refine ⟨(by show 3 ≤ sizeLine; decide), fun t ht => ⟨(by show 3 ≤ sizeLine; decide), fun u hu => ⟨(by show 2 ≤ sizeLine; decide), fun p hp => q p _ _ (((Same.new ht).trans (Same.new hu)).trans (Same.new hp)) (((Same.new ht).trans (Same.new hu)).free hp) upd_same (fun hc v hv => ?_) (Nat.le_refl _)⟩⟩⟩
  rcases List.mem_cons.mp hv with e | e
  · rw [e]
    exact ⟨t, m, f, sg, rfl, Same.new hp _ _ (Same.new hu _ _ upd_same), (h hc).1⟩
  · rw [List.mem_singleton.mp e]
    exact ⟨u, m', f', sg', rfl, Same.new hp _ _ upd_same, (h hc).2⟩
theorem fo_rep {ls : List LnS} {σ : L2.St} {c : Bool} {n : Nat} {te ce : TE} (hn : n ≤ 40) (h : FoE ls c n σ te) (hc : CndE σ ce c) : FoE ls true n σ (tOp rRep te (tCB rInt1 (tCons ce tNil))) := fun H Q q => by
  refine h H _ fun p rs H1 s1 hp e1 m1 l1 => ?_
  refine hc H1 _ (.inr ⟨c, rfl, ?_⟩)
  refine ⟨p, _, rs, rfl, rfl, e1, by split <;> decide, by split <;> decide, ?_, fun r hr => ?_⟩
  · rw [sizeLine_eq]
    have : rs.length * (if c = true then (1 : Int) else 0).toNat ≤ 40 * 1 := Nat.mul_le_mul (by omega) (by split <;> decide)
    omega
  refine q r _ _ (s1.trans (Same.new hr)) (s1.free hr) upd_same (fun _ v hv => ?_) ?_
  · cases c with
    | false => cases hv
    | true =>
      have hv' : v ∈ rs := by simpa using hv
      exact (m1 rfl).same (Same.new hr) v hv'
  · cases c with
    | false => exact Nat.zero_le _
    | true => simpa using l1
theorem fo_dbl {ls : List LnS} {σ : L2.St} {n : Nat} {te : TE} (hn : n ≤ 20) (h : FoE ls true n σ te) : FoE ls true (n + n) σ (tOp rRep te (tC (.int 2))) := fun H Q q => by
  refine h H _ fun p rs H1 s1 hp e1 m1 l1 => ?_
  refine ⟨p, _, rs, rfl, rfl, e1, by decide, by decide, ?_, fun r hr => ?_⟩
  · rw [sizeLine_eq]
    show rs.length * 2 ≤ _
    omega
  have e : (List.replicate (2 : Int).toNat rs).flatten = rs ++ rs := by
    show (List.replicate 2 rs).flatten = _
    simp [List.replicate]
  rw [e]
  refine q r _ _ (s1.trans (Same.new hr)) (s1.free hr) upd_same (fun _ v hv => ?_) (by rw [List.length_append]; omega)
  exact (m1 rfl).same (Same.new hr) v ((List.mem_append.mp hv).elim id id)
theorem fo_cat {ls : List LnS} {σ : L2.St} {n m : Nat} {te te' : TE} (hn : n + m ≤ 40) (h : FoE ls true n σ te) (h' : FoE ls true m σ te') : FoE ls true (n + m) σ (tOp rCat te te') := fun H Q q => by
  refine h H _ fun p rs H1 s1 hp e1 m1 l1 => ?_
  refine h' H1 _ fun p' rs' H2 s2 hp' e2 m2 l2 => ?_
  refine ⟨p, p', rs, rs', rfl, rfl, s2 _ _ e1, e2, by rw [sizeLine_eq]; omega, fun r hr => ?_⟩
  refine q r _ _ ((s1.trans s2).trans (Same.new hr)) ((s1.trans s2).free hr) upd_same (fun _ v hv => ?_) (by rw [List.length_append]; omega)
  rcases List.mem_append.mp hv with z | z
  · exact ((m1 rfl).same s2).same (Same.new hr) v z
  · exact (m2 rfl).same (Same.new hr) v z
/-- the list that grows -/
structure FoI (H0 : Hp) (F : Addr) (ls : List LnS) (n : Nat) (H : Hp) : Prop where
  s : Same H0 H
  f : ∃ rs, H F = some (.lst rs) ∧ FoAt H ls rs ∧ rs ≠ [] ∧ rs.length ≤ n
theorem FoI.mono {H0 H : Hp} {F : Addr} {ls : List LnS} {n m : Nat} (i : FoI H0 F ls n H) (h : n ≤ m) : FoI H0 F ls m H := let ⟨s, rs, h1, h2, h3, h4⟩ := i; ⟨s, rs, h1, h2, h3, Nat.le_trans h4 h⟩
theorem fo_ext {K : PySem.W.Frag} {H0 H : Hp} {F : Addr} {ls : List LnS} {σ : L2.St} {n m : Nat} {te : TE} {D : Ends} (i : FoI H0 F ls n H) (h0 : H0 F = none) (hσ : σ[6]? = some (some (.ref F))) (h : FoE ls true m σ te) (hn : n + m ≤ 40)
    (q : ∀ H', FoI H0 F ls (n + m) H' → D.nx σ H') : tDrop (tBM K "list" rExtend (tVar 6) (tCons te tNil)) D σ H := by
  obtain ⟨s, rs, e, fo, ne, l⟩ := i
  refine ⟨_, hσ, .inl ⟨rfl, _, SqL.of e⟩, ?_⟩
  refine h H _ fun p ts H1 s1 hp e1 m1 l1 => ?_
  have e' := s1 _ _ e
  refine ⟨F, p, rs, ts, rfl, rfl, e', e1, by rw [sizeLine_eq]; omega, q _ ⟨sm_put (s.trans s1) h0, rs ++ ts, upd_same, fun v hv => ?_, by simp [ne], by rw [List.length_append]; omega⟩⟩
  rcases List.mem_append.mp hv with z | z
  · exact (fo.same s1).put e' v z
  · exact (m1 rfl).put e' v z
theorem fo_first {H0 H : Hp} {ls : List LnS} {σ : L2.St} {D : Ends} (s : Same H0 H) (q : ∀ H' F, H0 F = none → FoI H0 F ls 1 H' → D.nx (σ.set 6 (some (.ref F))) H') : tAsg (tLst (tCons (teFo "peg" "free" "") tNil)) (gName 6) D σ H := by
  refine ⟨(by show 3 ≤ sizeLine; decide), fun t ht => ⟨(by show 1 ≤ sizeLine; decide), fun F hF => ?_⟩⟩
  have s2 : Same H0 (upd (upd H t (.tup [.str "peg", .str "free", .str ""])) F (.lst [.ref t])) := (s.trans (Same.new ht)).trans (Same.new hF)
  refine q _ F ((s.trans (Same.new ht)).free hF) ⟨s2, _, upd_same, fun v hv => ?_, by simp, Nat.le_refl _⟩
  rw [List.mem_singleton.mp hv]
  exact ⟨t, false, .free, [], rfl, Same.new hF _ _ upd_same, .free false fun z => nomatch z⟩
theorem cnd_lt {σ : L2.St} {i : Nat} {a b : Int} (h : σ[i]? = some (some (.int a))) : CndE σ (tOp (rI0 fun i j => .bl (decide (i < j))) (tVar i) (tC (.int b))) (decide (a < b)) := fun H Q q => ⟨_, h, _, _, rfl, rfl, q⟩
theorem cnd_gt {σ : L2.St} {i : Nat} {a b : Int} (h : σ[i]? = some (some (.int a))) : CndE σ (tOp (rI0 fun i j => .bl (decide (j < i))) (tVar i) (tC (.int b))) (decide (b < a)) := fun H Q q => ⟨_, h, _, _, rfl, rfl, q⟩
theorem cnd_and {σ : L2.St} {te tf : TE} {c d : Bool} (h : CndE σ te c) (h' : CndE σ tf d) : CndE σ (tAndV te tf) (c && d) := fun H Q q => h H _ ⟨c, rfl, by
  cases c with
  | true => exact h' H Q q
  | false => exact q⟩
theorem if_cnd {σ : L2.St} {te : TE} {c : Bool} {t u : TS} {D : Ends} {H : Hp} (h : CndE σ te c) (h1 : c = true → t D σ H) (h2 : c = false → u D σ H) : tIfS (tTest te) t u D σ H := h H _ ⟨c, rfl, by
  cases c with
  | true => exact h1 rfl
  | false => exact h2 rfl⟩
theorem dec_nat {a b : Nat} : decide ((a : Int) < (b : Int)) = decide (a < b) := by
  by_cases h : a < b
  · rw [decide_eq_true h, decide_eq_true (by omega)]
  · rw [decide_eq_false h, decide_eq_false (by omega)]
theorem LoAt.tk {K : PySem.W.Frag} {H H' : Hp} {a : Addr} {l : LnS} (h : LoAt K H a l) (s : Tk H H') : LoAt K H' a l := let ⟨po, h1, h2⟩ := h; ⟨po, sq_tk h1 s, sq_tk h2 s⟩
theorem LoresAt.tk {K : PySem.W.Frag} {H H' : Hp} {as : List Addr} {ls : List LnS} (h : LoresAt K H as ls) (s : Tk H H') : LoresAt K H' as ls := ⟨h.1, fun i a l ha hl => (h.2 i a l ha hl).tk s⟩
theorem PotAt.tk {H H' : Hp} {a : Addr} {n : Nat} (h : PotAt H a n) (k : KeptBut a H H') : Tk H H' := by
  obtain ⟨p0, p1, p2, e, _⟩ := h
  exact k.tk e trivial
theorem inV_strs {x : Str} {xs : List Str} : inV (.str x) (xs.map V.str) = decide (x ∈ xs) := by
  unfold inV
  induction xs with
  | nil => rfl
  | cons y ys ih =>
    rw [List.map_cons, List.any_cons, ih]
    have e : eqV (.str y) (.str x) = decide (x = y) := by
      show (y == x) = _
      by_cases q : y = x
      · rw [q, beq_self_eq_true, decide_eq_true rfl]
      · rw [beq_eq_false_iff_ne.mpr q, decide_eq_false (fun z => q z.symm)]
    rw [e]
    by_cases h1 : x = y <;> by_cases h2 : x ∈ ys <;> simp [h1, h2]
theorem sg_sign {ls : List LnS} {m : Bool} {f : Al.Fm} {sg : List Bool} (h : FmOk ls m f sg) : (sgS sg).cps.size = sg.length ∧ ∀ (i c : Nat), (sgS sg).cps[i]? = some c → ∃ b, sg[i]? = some b ∧ (⟨#[c]⟩ : Str) = signS b := by
  have one : ∀ (sg : List Bool), sg ∈ [[], [true], [false], [true, false], [false, true], [false, false], [true, true]] → (sgS sg).cps.size = sg.length ∧ ∀ (i c : Nat), (sgS sg).cps[i]? = some c → ∃ b, sg[i]? = some b ∧ (⟨#[c]⟩ : Str) = signS b := by
    have key : ([[], [true], [false], [true, false], [false, true], [false, false], [true, true]] : List (List Bool)).all (fun sg => decide ((sgS sg).cps.size = sg.length) && (List.range sg.length).all fun i => match (sgS sg).cps[i]?, sg[i]? with
      | some c, some b => decide ((⟨#[c]⟩ : Str) = signS b)
      | _, _ => false) = true := by decide +kernel
    intro sg hs
    have z := List.all_eq_true.mp key sg hs
    rw [Bool.and_eq_true, decide_eq_true_eq] at z
    refine ⟨z.1, fun i c hc => ?_⟩
    have hi : i < sg.length := by
      rw [← z.1]
      exact (Array.getElem?_eq_some_iff.mp hc).1
    have y := List.all_eq_true.mp z.2 i (List.mem_range.mpr hi)
    rw [hc, List.getElem?_eq_getElem hi] at y
    exact ⟨_, List.getElem?_eq_getElem hi, of_decide_eq_true y⟩
  refine one sg ?_
  cases h with
  | is_ m => cases m <;> simp
  | _ => simp
theorem lawF_is {f : Al.Fm} : decide (V.str (lawF f) = V.str "is") = decide (f = .is_) := by cases f <;> decide
theorem ne_is {l : LnS} : (!decide (V.str (lawF l.fm) = V.str "is")) = !decide (l.fm = .is_) := by rw [lawF_is]
theorem op_notIn_seqP {X : Cx} (K : PySem.W.Frag) (hK : X.K = K := by rfl) : OpR X (compareOp .NotIn) (rIn K true) := by
  subst hK
  exact op_notIn_seq
theorem seq_ofL {t u : TS} {D : Ends} {σ : L2.St} {H : Hp} (h : t { D with nx := u D } σ H) : tSeq t u D σ H := h
theorem asg_oneL {te : TE} {g : TG} {D : Ends} {σ : L2.St} {H : Hp} (h : te σ H fun x H1 => g x σ H1 D.nx) : tAsg te g D σ H := h
theorem if_isL {c : TT} {t u : TS} {D : Ends} {σ : L2.St} {H : Hp} (h : c σ H fun b H1 => if b = true then t D σ H1 else u D σ H1) : tIfS c t u D σ H := h
theorem filt_takeB {α : Type} {f : LnS → Bool} {ls : List LnS} {i : Nat} {l : LnS} (h : ls[i]? = some l) (g : LnS → α) : ((ls.take (i + 1)).filter f).map g = if f l = true then ((ls.take i).filter f).map g ++ [g l] else ((ls.take i).filter f).map g := by
  rw [List.take_add_one, h, List.filter_append, List.map_append]
  cases q : f l <;> simp [q]
theorem loose_in (l : LnS) : inV (.str (lawF l.fm)) [.str "free", .str "through"] = (decide (l.fm = .free) || decide (l.fm = .thr)) := by
  rcases l with ⟨mir, nm, fm, oth⟩
  cases fm <;> rfl
theorem wind_in (l : LnS) : inV (.str (lawF l.fm)) [.str "in", .str "is"] = isRowL l := by
  rcases l with ⟨mir, nm, fm, oth⟩
  cases fm <;> rfl
def spFurther (K : PySem.W.Frag) : Sp := fun vs H Q _ => ∃ (a p : Addr) (as : List Addr) (ls : List LnS) (n : Nat) (nm : Str), vs = [.ref a, .ref p, .str nm] ∧ PotAt H a n ∧ n + 10 < 1000000 ∧ p ≠ a ∧ SqL K H p (as.map V.ref) ∧ LoresAt K H as ls ∧ VBk ls ∧ ls.length ≤ 12 ∧
  ∀ H' r l, KeptBut a H H' → H r = none → PotAt H' a (n + 10) → LoAt K H' r l → l.name = nm → Al.LOk (nsS ls) l → (l.fm ≠ .is_ → l.oth.Nodup) → fewB (ls ++ [l]) = true → Q (.ref r) H'
def spLore (K : PySem.W.Frag) : Sp := fun vs H Q _ => ∃ (a : Addr) (n lo hi : Nat), vs = [.ref a, .int (lo : Int), .int (hi : Int)] ∧ PotAt H a n ∧ n + 200 < 1000000 ∧ lo ≤ hi ∧ hi ≤ 12 ∧
  ∀ H' r as ls, KeptBut a H H' → H r = none → PotAt H' a (n + 200) → H' r = some (.lst (as.map V.ref)) → LoresAt K H' as ls → VBk ls → NmPool ls → lo ≤ ls.length → ls.length ≤ hi → Q (.ref r) H'
end Lm

namespace PySem.SeqAt
open PySem AutoSeq1 MeetsSeq
section
variable {M : Model} {A : Around} {E : Value → Shared → Prop} {s : Shared}
theorem lm_str_dict (b : Str) (u : Tok) (l : Addr) (dd : Option Addr) (es : Array DictEntry) (n : Nat) (sl : Array (Option Value)) :
    Meets (Builtin.«str.__eq__» ⟨[.str b u, .ref l], []⟩) (fun _ R s => s.heap.get? l = some { cls := .type "dict", dict := dd, data := .dict es n, slots := sl } ∧ R (.ok (.ret .notImplemented)) s) :=
  .of_wp fun prog w A R s h => by
    obtain ⟨hp, g, d, tk, os⟩ := s
    obtain ⟨hl, h⟩ := h
    wp_walk using wpAny_loadPart' hl, wpAny_load hl
    exact ⟨_, rfl, h⟩
theorem lm_dict_str (l : Addr) (dd : Option Addr) (es : Array DictEntry) (n : Nat) (sl : Array (Option Value)) (b : Str) (u : Tok) :
    Meets (Builtin.«dict.__eq__» ⟨[.ref l, .str b u], []⟩) (fun _ R s => s.heap.get? l = some { cls := .type "dict", dict := dd, data := .dict es n, slots := sl } ∧ R (.ok (.ret .notImplemented)) s) :=
  .of_wp fun prog w A R s h => by
    obtain ⟨hp, g, d, tk, os⟩ := s
    obtain ⟨hl, h⟩ := h
    have f1 := F.sub_str_dict
    wp_walk using wpAny_loadPart' hl, wpAny_load hl
    exact ⟨_, rfl, h⟩
theorem RcAt.str_dict {l : Addr} {dd : Option Addr} {es : Array DictEntry} {n : Nat} {sl : Array (Option Value)} (b : Str) (u : Tok) (ho : s.heap.get? l = some { cls := .type "dict", dict := dd, data := .dict es n, slots := sl }) (hu : A.units < cLine) : RcAt A s (.str b u) (.ref l) false := fun prog w E Q h =>
  rc_eq_decline_or (k := false) (typeIs_str s b u) ⟨_, ho, rfl⟩ (by decide) F.sub_dict_str F.slot_str_eq F.slot_dict_eq_refl
    (fun _ hq => call_meets F.slot_str_eq (typeIs_str s b u) F.entry_str_eq (F.args_str_eq_2 _ _) (lm_str_dict b u l dd es n sl) ⟨ho, hq⟩)
    (fun _ hq => call_meets F.slot_dict_eq_refl ⟨_, ho, rfl⟩ F.entry_dict_eq (F.args_dict_eq_2 _ _) (lm_dict_str l dd es n sl b u) ⟨ho, hq⟩)
    (fun _ hq => wpAny_of_eq (rfl : isSame (.str b u) (.ref l) = pure false) hq) (.inr hu) h
theorem EqAt.str_dict {l : Addr} {dd : Option Addr} {es : Array DictEntry} {n : Nat} {sl : Array (Option Value)} (b : Str) (u : Tok) (ho : s.heap.get? l = some { cls := .type "dict", dict := dd, data := .dict es n, slots := sl }) (hu : A.units < cLine) : EqAt A s (.str b u) (.ref l) false := fun prog w E Q h => by
  unfold eqBool
  refine wpAny_holding ?_
  refine wpAny_ite_split (fun hab => absurd (eq_of_beq hab) nofun) (fun _ => ?_)
  exact wpAny_bind (RcAt.str_dict b u ho hu prog w E _ (wpAny_truthy_bool h))
end
end PySem.SeqAt
namespace Lm
open PySem PySem.Spec PyProof.Rows L2
/-! ## x in texts, x any value -/
/-- a list, a tuple or a dict -/
def Con (H : Hp) (a : Addr) : Prop := (∃ xs, H a = some (.lst xs)) ∨ (∃ xs, H a = some (.tup xs)) ∨ ∃ kvs, H a = some (.dK kvs)
def rInT2 (K : PySem.W.Frag) (neg : Bool) : R2 := fun x y H Q => ∃ (p : Addr) (ns : List Str), y = .ref p ∧ (SqL K H p (ns.map V.str) ∨ SqT K H p (ns.map V.str)) ∧ ((flatV x = true ∧ Q (.bl (if neg then !inV x (ns.map V.str) else inV x (ns.map V.str))) H) ∨ ∃ a, x = .ref a ∧ Con H a ∧ Q (.bl neg) H)
section
variable {X : Cx} {pins : List (Addr × Obj)} {σ : L2.St} {H : Hp} {s : Shared}
theorem eq_con {A : Around} {a : Addr} (hu : A.units < cLine) (I : Inv X pins σ H s) (c : Con H a) (b : Str) (u : Tok) : SeqAt.EqAt A s (.str b u) (.ref a) false := by
  rcases c with ⟨xs, c⟩ | ⟨xs, c⟩ | ⟨kvs, c⟩
  · obtain ⟨its, r, pl, hz⟩ := I.list (SqL.of c)
    exact SeqAt.EqAt.str_list b u pl.isList hu
  · obtain ⟨its, r, pl, hz⟩ := I.tuple (SqT.of c)
    exact SeqAt.EqAt.str_tuple b u pl hu
  · obtain ⟨_, _, vs, _, ob, es, ep, e, ⟨c1, c2, c3⟩, d, _⟩ := (show ObjOk X.prog X.w H s.heap a (.dK kvs) from I.hok a _ c)
    obtain ⟨cls, dd, dt, sl⟩ := ob
    simp only at c1 c2 c3 d
    subst c1 c2 c3 d
    exact SeqAt.EqAt.str_dict b u e hu
theorem vals_str : ∀ {ns : List Str} {us : List Value}, Vals (ns.map V.str) us → ∀ u ∈ us, ∃ b t, u = .str b t
  | [], _, r, u, hu => by
    cases r
    cases hu
  | n :: ns, _, r, u, hu => by
    cases r with
    | cons r1 rr =>
      obtain ⟨t, rfl⟩ := r1
      rcases List.mem_cons.mp hu with z | z
      · exact ⟨n, t, z⟩
      · exact vals_str rr u z
theorem op_inT2 (hu : X.A.units + 1 < cLine) : OpR X (compareOp .In) (rInT2 X.K false) := by
  intro pins s σ H x y v u Q I rx ry h
  obtain ⟨p, ns, rfl, hq, h⟩ := h
  have fs : (ns.map V.str).all flatV = true := List.all_eq_true.mpr fun v hv => by
    obtain ⟨y, _, rfl⟩ := List.mem_map.mp hv
    rfl
  rcases h with ⟨fx, q⟩ | ⟨a, rfl, hc, q⟩
  · exact op_in_seq pins s σ H x (.ref p) v u Q I rx ry ⟨p, _, rfl, hq, fx, fs, q⟩
  · cases ry
    cases rx
    have e1 : ∀ us : List Value, us.toArray.any (fun _ => false) = false := fun us => by simp
    rcases hq with hq | hq
    · obtain ⟨its, r, pl, hz⟩ := I.list hq
      refine SeqAt.in_listAt (fun _ => false) pl.isList (fun w hw => ?_) ⟨.bl _, H, I, rfl, ?_⟩
      · obtain ⟨b, t, rfl⟩ := vals_str r w (by simpa using hw)
        exact eq_con hu I hc b t
      · rw [e1]
        exact q
    · obtain ⟨its, r, pl, hz⟩ := I.tuple hq
      refine SeqAt.in_tupleAt (fun _ => false) pl (fun w hw => ?_) ⟨.bl _, H, I, rfl, ?_⟩
      · obtain ⟨b, t, rfl⟩ := vals_str r w (by simpa using hw)
        exact eq_con hu I hc b t
      · rw [e1]
        exact q
theorem op_notInT2 (hu : X.A.units + 1 < cLine) : OpR X (compareOp .NotIn) (rInT2 X.K true) := by
  intro pins s σ H x y v u Q I rx ry h
  obtain ⟨p, ns, rfl, hq, h⟩ := h
  have fs : (ns.map V.str).all flatV = true := List.all_eq_true.mpr fun v hv => by
    obtain ⟨y, _, rfl⟩ := List.mem_map.mp hv
    rfl
  rcases h with ⟨fx, q⟩ | ⟨a, rfl, hc, q⟩
  · exact op_notIn_seq pins s σ H x (.ref p) v u Q I rx ry ⟨p, _, rfl, hq, fx, fs, q⟩
  · cases ry
    cases rx
    have e1 : ∀ us : List Value, us.toArray.any (fun _ => false) = false := fun us => by simp
    rcases hq with hq | hq
    · obtain ⟨its, r, pl, hz⟩ := I.list hq
      refine SeqAt.notIn_listAt (fun _ => false) pl.isList (fun w hw => ?_) ⟨.bl _, H, I, rfl, ?_⟩
      · obtain ⟨b, t, rfl⟩ := vals_str r w (by simpa using hw)
        exact eq_con hu I hc b t
      · rw [e1]
        exact q
    · obtain ⟨its, r, pl, hz⟩ := I.tuple hq
      refine SeqAt.notIn_tupleAt (fun _ => false) pl (fun w hw => ?_) ⟨.bl _, H, I, rfl, ?_⟩
      · obtain ⟨b, t, rfl⟩ := vals_str r w (by simpa using hw)
        exact eq_con hu I hc b t
      · rw [e1]
        exact q
end
/-- small data is a flat value or one of these -/
theorem Sm.con {B k : Nat} {H : Hp} {v : V} (h : Sm B k H v) : flatV v = true ∨ ∃ a, v = .ref a ∧ Con H a := by
  obtain ⟨d, r, _⟩ := h
  cases r with
  | non => exact .inl rfl
  | bl b => exact .inl rfl
  | int i => exact .inl rfl
  | str x => exact .inl rfl
  | lst e _ => exact .inr ⟨_, rfl, .inl ⟨_, e⟩⟩
  | tup e _ => exact .inr ⟨_, rfl, .inr (.inl ⟨_, e⟩)⟩
  | dic e _ => exact .inr ⟨_, rfl, .inr (.inr ⟨_, e⟩)⟩
/-- x in texts: what is asked -/
theorem in_says {K : PySem.W.Frag} {neg : Bool} {H : Hp} {Q : VK} {p : Addr} {ns : List Str} {v : V} {b : Bool} (hq : SqL K H p (ns.map V.str) ∨ SqT K H p (ns.map V.str)) (hv : flatV v = true ∨ ∃ a, v = .ref a ∧ Con H a) (hb : (∃ x, v = .str x ∧ x ∈ ns) ↔ b = true) (q : Q (.bl (neg ^^ b)) H) : rInT2 K neg v (.ref p) H Q := by
  refine ⟨p, ns, rfl, hq, ?_⟩
  rcases hv with hv | ⟨a, rfl, hc⟩
  · refine .inl ⟨hv, ?_⟩
    have e : inV v (ns.map V.str) = b := by
      cases v with
      | str x =>
        rw [inV_strs]
        cases b with
        | true =>
          obtain ⟨y, e, m⟩ := hb.mpr rfl
          cases e
          exact decide_eq_true m
        | false => exact decide_eq_false fun m => by have := hb.mp ⟨x, rfl, m⟩; cases this
      | ref a => cases hv
      | _ =>
        have : b = false := by
          cases b with
          | false => rfl
          | true =>
            obtain ⟨y, e, m⟩ := hb.mpr rfl
            cases e
        rw [this]
        unfold inV
        rw [List.any_eq_false]
        intro y hy
        obtain ⟨z, _, rfl⟩ := List.mem_map.mp hy
        first | exact Bool.false_ne_true | (simp [eqV]) | (intro q; cases q)
    rw [e]
    cases neg <;> cases b <;> exact q
  · refine .inr ⟨a, rfl, hc, ?_⟩
    have : b = false := by
      cases b with
      | false => rfl
      | true =>
        obtain ⟨y, e, m⟩ := hb.mpr rfl
        cases e
    rw [this, Bool.xor_false] at q
    exact q
end Lm

namespace Lm
open PySem PySem.Spec PyProof.Rows L2
/-! ## Books told further, and without a line -/
def spBkTold (P : Program) (w : World) (K : PySem.W.Frag) : Sp := fun vs H Q _ => ∃ (b : Addr) (ls : List LnS) (l : LnS), vs = [.ref b, .str (textS l)] ∧ BkAt P w K H b ls ∧ ls ≠ [] ∧ VBk (ls ++ [l]) ∧ ∀ H' r, Same H H' → H r = none → BkAt P w K H' r (ls ++ [l]) → Q (.ref r) H'
def spWithout (P : Program) (w : World) (K : PySem.W.Frag) : Sp := fun vs H Q E => ∃ (b : Addr) (ls : List LnS) (v : V), vs = [.ref b, v] ∧ BkAt P w K H b ls ∧ VBk ls ∧ (flatV v = true ∨ ∃ a, v = .ref a ∧ Con H a) ∧
  (((∀ x, v = .str x → x ∉ namesS ls) ∧ Wish K H E "NoName" v) ∨
    ∃ i l, v = .str l.name ∧ ls[i]? = some l ∧
      (((∃ l' ∈ ls, l.name ∈ l'.oth) ∧ Wish K H E "Used" v) ∨
        ((∀ l' ∈ ls, l.name ∉ l'.oth) ∧ ls.length = 1 ∧ Wish K H E "Few" (.int 1)) ∨
        ((∀ l' ∈ ls, l.name ∉ l'.oth) ∧ ls.length ≠ 1 ∧ ∀ H' r, Same H H' → H r = none → BkAt P w K H' r (ls.eraseIdx i) → Q (.ref r) H')))
theorem mk_book {P : Program} {w : World} {K : PySem.W.Frag} {H : Hp} {ls : List LnS} {R : Addr → Hp → Prop} {E : XK} (vb : VBk ls) (ne : ls ≠ []) (q : ∀ H' r, Same H H' → H r = none → BkAt P w K H' r ls → R r H') :
    ∀ x dx, H x = none → H dx = none → dx ≠ x → spBkI P w K (.ref x :: ([.str (bookS ls)] ++ [])) (upd (upd H dx (.own x)) x (.ins (He.ga K "Book") dx [])) (fun v H2 => v = .non ∧ R x H2) E := by
  intro x dx hx hd hne
  refine ⟨x, dx, ls, rfl, upd_same, vb, ne, fun H' kb bk => ⟨rfl, q H' x (fun b o hb => ?_) hx bk⟩⟩
  have n1 : b ≠ x := ne_of_none hb hx
  have n2 : b ≠ dx := ne_of_none hb hd
  exact kb b o (by rw [upd_ne n1, upd_ne n2]; exact hb) n1
theorem bookS_snoc {ls : List LnS} {l : LnS} (ne : ls ≠ []) : bookS (ls ++ [l]) = bookS ls ++ "\n" ++ textS l := by
  unfold bookS
  rw [List.map_append, TL.join_eq, TL.join_eq]
  apply TL.ext_tl
  have h : ∀ (ps : List Str), ps ≠ [] → TL.tl (Str.join "\n" (ps ++ [textS l])) = TL.tl (Str.join "\n" ps ++ "\n" ++ textS l) := by
    intro ps
    have ea := TL.tl_append
    induction ps with
    | nil => intro z; exact absurd rfl z
    | cons p r ih =>
      intro _
      cases r with
      | nil =>
        rw [TL.tl_join, ea, ea]
        show TL.joinL _ [TL.tl p, TL.tl (textS l)] = _
        rw [TL.tl_join]
        show TL.tl p ++ (TL.tl ("\n" : Str) ++ TL.tl (textS l)) = TL.tl p ++ TL.tl ("\n" : Str) ++ TL.tl (textS l)
        rw [List.append_assoc]
      | cons s r =>
        have ih := ih (by simp)
        rw [TL.tl_join, ea, ea] at ih ⊢
        rw [TL.tl_join] at ih ⊢
        show TL.tl p ++ (TL.tl ("\n" : Str) ++ TL.joinL (TL.tl ("\n" : Str)) ((s :: r ++ [textS l]).map TL.tl)) = _
        rw [ih]
        show _ = TL.tl p ++ (TL.tl ("\n" : Str) ++ TL.joinL (TL.tl ("\n" : Str)) ((s :: r).map TL.tl)) ++ TL.tl ("\n" : Str) ++ TL.tl (textS l)
        simp only [List.append_assoc]
  exact h _ (fun z => ne (List.map_eq_nil_iff.mp z))
theorem _root_.Al.LOk.sub {ns ns' : NsT} {l : LnS} (h : Al.LOk ns l) (s : ∀ k x, x ∈ l.oth → (k, x) ∈ ns → (k, x) ∈ ns') : Al.LOk ns' l := by
  have pm : ∀ {r : List Str} {a : Str}, Al.Pal r a → a ∈ r := fun {r a} p => by
    induction p with
    | one a => exact List.mem_singleton.mpr rfl
    | wing w h ih => exact List.mem_cons_of_mem _ (List.mem_append_left _ ih)
  cases h with
  | free m nm => exact .free m nm
  | thr nm p hp => exact .thr nm p (s _ _ (by simp) hp)
  | along nm a p ha hp => exact .along nm a p (s _ _ (by simp) ha) (s _ _ (by simp) hp)
  | across nm a p ha hp => exact .across nm a p (s _ _ (by simp) ha) (s _ _ (by simp) hp)
  | frmM nm a p ha hp => exact .frmM nm a p (s _ _ (by simp) ha) (s _ _ (by simp) hp)
  | frmP nm a p ha hp => exact .frmP nm a p (s _ _ (by simp) ha) (s _ _ (by simp) hp)
  | is_ m nm a row hr ha hk h5 => exact .is_ m nm a row hr (s _ _ (pm hr) ha) (fun x hx => let ⟨k, hk⟩ := hk x hx; ⟨k, s _ _ hx hk⟩) h5
  | on nm a ha => exact .on nm a (s _ _ (by simp) ha)
  | about nm a p ha hp => exact .about nm a p (s _ _ (by simp) ha) (s _ _ (by simp) hp)
  | amid nm a p ha hp => exact .amid nm a p (s _ _ (by simp) ha) (s _ _ (by simp) hp)
theorem few_sub {ls ls' : List LnS} (h : fewB ls = true) (s : ls'.Sublist ls) : fewB ls' = true := by
  unfold fewB looseS at h ⊢
  rw [Bool.and_eq_true, decide_eq_true_eq, decide_eq_true_eq, List.length_map] at h ⊢
  exact ⟨Nat.le_trans (List.Sublist.length_le (s.filter _)) h.1, Nat.le_trans (List.Sublist.length_le (s.filter _)) h.2⟩
theorem few_perm {ls ls' : List LnS} (h : fewB ls = true) (s : ls'.Perm ls) : fewB ls' = true := by
  unfold fewB looseS at h ⊢
  rw [Bool.and_eq_true, decide_eq_true_eq, decide_eq_true_eq, List.length_map] at h ⊢
  exact ⟨by rw [(s.filter _).length_eq]; exact h.1, by rw [(s.filter _).length_eq]; exact h.2⟩
theorem erase_permA {α : Type} : ∀ {rs : List α} {k : Nat} {y : α}, rs[k]? = some y → (rs.eraseIdx k ++ [y]).Perm rs
  | [], k, y, h => by simp at h
  | a :: r, 0, y, h => by
    cases h
    exact List.perm_append_comm
  | a :: r, k + 1, y, h => (erase_permA (rs := r) (k := k) (y := y) h).cons a
theorem VBk.nm_ne {ls : List LnS} (v : VBk ls) {i j : Nat} {l l' : LnS} (h : ls[i]? = some l) (h' : ls[j]? = some l') (ne : i ≠ j) : l.name ≠ l'.name := by
  intro e
  have key : ∀ {i j : Nat} {l l' : LnS}, ls[i]? = some l → ls[j]? = some l' → i < j → l.name = l'.name → False := fun {i j l l'} h h' lt e => by
    refine (v.ok j l' h').2 l.mir ?_
    unfold nsS
    exact List.mem_map.mpr ⟨l, List.mem_iff_getElem?.mpr ⟨i, by rw [List.getElem?_take_of_lt lt]; exact h⟩, by rw [e]⟩
  rcases Nat.lt_or_ge i j with z | z
  · exact key h h' z e
  · exact key h' h (by omega) e.symm
theorem ns_erase {ls : List LnS} {i : Nat} {l : LnS} {k : Bool} {x : Str} (h : ls[i]? = some l) (ne : x ≠ l.name) (hx : (k, x) ∈ nsS ls) : (k, x) ∈ nsS (ls.eraseIdx i) := by
  unfold nsS at hx ⊢
  obtain ⟨y, hy, e⟩ := List.mem_map.mp hx
  cases e
  obtain ⟨j, hj⟩ := List.mem_iff_getElem?.mp hy
  refine List.mem_map.mpr ⟨y, List.mem_eraseIdx_iff_getElem?.mpr ⟨j, fun z => ?_, hj⟩, rfl⟩
  rw [z, h] at hj
  cases hj
  exact ne rfl
theorem ns_of_take {ls : List LnS} {j : Nat} {k : Bool} {x : Str} (hx : (k, x) ∈ nsS (ls.take j)) : (k, x) ∈ nsS ls := by
  unfold nsS at hx ⊢
  obtain ⟨y, hy, e⟩ := List.mem_map.mp hx
  exact List.mem_map.mpr ⟨y, List.mem_of_mem_take hy, e⟩
theorem ns_of_erase {ls : List LnS} {i : Nat} {k : Bool} {x : Str} (hx : (k, x) ∈ nsS (ls.eraseIdx i)) : (k, x) ∈ nsS ls := by
  unfold nsS at hx ⊢
  obtain ⟨y, hy, e⟩ := List.mem_map.mp hx
  exact List.mem_map.mpr ⟨y, List.mem_of_mem_eraseIdx hy, e⟩
theorem take_erase_lt {α : Type} : ∀ {ls : List α} {i j : Nat}, j ≤ i → (ls.eraseIdx i).take j = ls.take j
  | [], _, _, _ => by simp
  | _ :: _, _, 0, _ => by simp
  | a :: r, 0, j + 1, h => by omega
  | a :: r, i + 1, j + 1, h => by
    show a :: (r.eraseIdx i).take j = a :: r.take j
    rw [take_erase_lt (by omega)]
theorem take_erase_ge {α : Type} : ∀ {ls : List α} {i j : Nat}, i ≤ j → (ls.eraseIdx i).take j = (ls.take (j + 1)).eraseIdx i
  | [], _, _, _ => by simp
  | a :: r, 0, j, _ => by simp
  | a :: r, i + 1, 0, h => by omega
  | a :: r, i + 1, j + 1, h => by
    show a :: (r.eraseIdx i).take j = a :: (r.take (j + 1)).eraseIdx i
    rw [take_erase_ge (by omega)]
theorem VBk.erase {ls : List LnS} (v : VBk ls) {i : Nat} {l : LnS} (h : ls[i]? = some l) (no : ∀ l' ∈ ls, l.name ∉ l'.oth) : VBk (ls.eraseIdx i) := by
  refine ⟨fun j l' hj => ?_, Nat.le_trans (List.Sublist.length_le (List.eraseIdx_sublist ls i)) v.n, fun x hx => v.nm x (List.mem_of_mem_eraseIdx hx), fun x hx => v.ds x (List.mem_of_mem_eraseIdx hx), few_sub v.few (List.eraseIdx_sublist ls i)⟩
  have il : i < ls.length := (List.getElem?_eq_some_iff.mp h).1
  by_cases hji : j < i
  · rw [List.getElem?_eraseIdx_of_lt hji] at hj
    rw [take_erase_lt (by omega)]
    exact v.ok j l' hj
  · rw [List.getElem?_eraseIdx_of_ge (by omega)] at hj
    obtain ⟨o1, o2⟩ := v.ok (j + 1) l' hj
    have e : (ls.eraseIdx i).take j = (ls.take (j + 1)).eraseIdx i := take_erase_ge (by omega)
    rw [e]
    have hi : (ls.take (j + 1))[i]? = some l := by
      rw [List.getElem?_take_of_lt (by omega)]
      exact h
    exact ⟨o1.sub fun k x hx hk => ns_erase hi (fun z => no l' (List.mem_of_getElem? hj) (by rw [← z]; exact hx)) hk, fun k hk => o2 k (ns_of_erase hk)⟩
theorem VBk.behind {ls : List LnS} (v : VBk ls) {i : Nat} {l : LnS} (h : ls[i]? = some l) (no : ∀ l' ∈ ls, l.name ∉ l'.oth) : VBk (ls.eraseIdx i ++ [l]) := by
  have il : i < ls.length := (List.getElem?_eq_some_iff.mp h).1
  have m := List.mem_of_getElem? h
  have o := (v.ok i l h).1
  have n12 := v.n
  refine (v.erase h no).more (by rw [List.length_eraseIdx_of_lt il]; omega) (o.sub fun k x hx hk => ?_) (fun z => ?_) (v.nm l m) (v.ds l m) (few_perm v.few (erase_permA h))
  · exact ns_erase h (fun z => no l m (by rw [← z]; exact hx)) (ns_of_take hk)
  · unfold namesS at z
    obtain ⟨y, hy, e⟩ := List.mem_map.mp z
    obtain ⟨j, hj, hy2⟩ := List.mem_eraseIdx_iff_getElem?.mp hy
    exact v.nm_ne hy2 h hj e
theorem erase_filter {ls : List LnS} (v : VBk ls) {i : Nat} {l : LnS} (h : ls[i]? = some l) : (ls.filter fun x => !decide (V.str x.name = V.str l.name)) = ls.eraseIdx i := by
  have key : ∀ (ls : List LnS) (i : Nat), (∀ j l', ls[j]? = some l' → (j = i ↔ l'.name = l.name)) → i < ls.length → (ls.filter fun x => !decide (V.str x.name = V.str l.name)) = ls.eraseIdx i := by
    intro ls
    induction ls with
    | nil => intro i _ z; cases z
    | cons y ls ih =>
      intro i hu hi
      have y0 := hu 0 y rfl
      cases i with
      | zero =>
        have e := y0.mp rfl
        rw [List.filter_cons, if_neg (by rw [e, decide_eq_true rfl]; decide)]
        show _ = ls
        rw [List.filter_eq_self]
        intro x hx
        obtain ⟨j, hj⟩ := List.mem_iff_getElem?.mp hx
        have := hu (j + 1) x hj
        have ne : x.name ≠ l.name := fun q => by have := this.mpr q; omega
        rw [decide_eq_false (fun q => ne (by injection q))]
        rfl
      | succ i =>
        have ne : y.name ≠ l.name := fun q => by have := y0.mpr q; omega
        rw [List.filter_cons, if_pos (by rw [decide_eq_false (fun q => ne (by injection q))]; rfl), ih i (fun j l' hj => ?_) (by simpa using hi)]
        · rfl
        · have := hu (j + 1) l' hj
          constructor
          · intro q; exact this.mp (by omega)
          · intro q; have := this.mpr q; omega
  refine key ls i (fun j l' hj => ⟨fun e => ?_, fun e => ?_⟩) (List.getElem?_eq_some_iff.mp h).1
  · rw [e, h] at hj
    cases hj
    rfl
  · exact Classical.byContradiction fun ne => v.nm_ne hj h ne e
def errs5 : List Str := ["BadBook", "BadLine", "NoName", "Used", "Few"]
/-- _law_right, asked more than once of a pot -/
def spRightN (T : List (Addr × Str)) : Sp := fun vs H Q _ => ∃ (a : Addr) (n : Nat), vs = [.ref a] ∧ PotAt H a n ∧ n + 1000 < 1000000 ∧ LamX.Tabs T H ∧ ∀ H', KeptT a H H' → LamX.Tabs T H' → PotAt H' a (n + 1000) → Q (.bl true) H'
end Lm

namespace Lm
open PySem PySem.Spec PyProof.Rows L2
open LamX (CodeO TabS Tabs ExtN TabB LamS lamCx lamEnv lamS_by)
/-! ## What stays while the pot and tables change -/
theorem PotAt.at_ {H H' : Hp} {a : Addr} {n : Nat} (h : PotAt H a n) (k : KeptT a H H') {b : Addr} {o : HO} (e : H b = some o) (nl : ∀ x y z : V, o ≠ .lst [x, y, z]) (nt : ∀ ps, o ≠ .tbl ps) : H' b = some o := by
  obtain ⟨p0, p1, p2, e0, _⟩ := h
  exact k b o e (fun z => by rw [z, e0] at e; cases e; exact nl _ _ _ rfl) nt
theorem PotAt.tkT {H H' : Hp} {a : Addr} {n : Nat} (h : PotAt H a n) (k : KeptT a H H') : Tk H H' := ⟨fun b xs e => h.at_ k e (fun _ _ _ z => nomatch z) (fun _ z => nomatch z), fun b o u e => h.at_ k e (fun _ _ _ z => nomatch z) (fun _ z => nomatch z)⟩
theorem LnsAt.keptT {K : PySem.W.Frag} {H H' : Hp} {a : Addr} {n : Nat} {as : List Addr} {ts : List Str} {ls : List LnS} (h : LnsAt K H as ts ls) (k : KeptT a H H') (hp : PotAt H a n) : LnsAt K H' as ts ls := ⟨h.1, fun i b l ha hl => by
  obtain ⟨t, h1, h2⟩ := h.2 i b l ha hl
  exact ⟨t, h1, h2.keep (hp.tkT k) fun _ _ e => hp.at_ k e (fun _ _ _ z => nomatch z) (fun _ z => nomatch z)⟩⟩
theorem dnO_ne_lst {P : Program} {w : World} {fd : Addr} {es : List NE} {xs : List V} : dnO P w fd es ≠ .lst xs := by
  intro z
  unfold dnO at z
  cases z
theorem dnO_ne_tbl {P : Program} {w : World} {fd : Addr} {es : List NE} {ps : Array Value} : dnO P w fd es ≠ .tbl ps := by
  intro z
  unfold dnO at z
  cases z
theorem PlAt.keptT {P : Program} {w : World} {K : PySem.W.Frag} {H H' : Hp} {a pl md fd : Addr} {n : Nat} {loose : List Str} {fl : Str → Bool → Al.Sh Str} {dom : Str → Bool → Prop} {mv : Str → Al.Mv Str} {ns : NsT} {m : Nat} (h : PlAt P w K H pl md fd loose fl dom mv ns m) (k : KeptT a H H') (hp : PotAt H a n) : PlAt P w K H' pl md fd loose fl dom mv ns m := by
  have t := hp.tkT k
  obtain ⟨dy, p0, h1, h2⟩ := h.pl
  obtain ⟨kvs, m1, m2, m3⟩ := h.md
  obtain ⟨es, f1, f2, f3, f4⟩ := h.fd
  refine ⟨⟨dy, p0, hp.at_ k h1 (fun _ _ _ z => nomatch z) (fun _ z => nomatch z), sq_tk h2 t⟩, ⟨kvs, hp.at_ k m1 (fun _ _ _ z => nomatch z) (fun _ z => nomatch z), m2, fun k' a ha => ?_⟩, ⟨es, hp.at_ k f1 (fun _ _ _ => dnO_ne_lst) fun _ => dnO_ne_tbl, f2, f3.tk t, fun n b hd => ?_⟩⟩
  · obtain ⟨y, e1, e2⟩ := m3 k' a ha
    exact ⟨y, e1, e2.keep t fun _ _ e => hp.at_ k e (fun _ _ _ z => nomatch z) (fun _ z => nomatch z)⟩
  · obtain ⟨d, e1, e2⟩ := f4 n b hd
    exact ⟨d, e1, e2.tk t⟩
theorem BkAt.keptT {P : Program} {w : World} {K : PySem.W.Frag} {H H' : Hp} {a b : Addr} {n : Nat} {ls : List LnS} (h : BkAt P w K H b ls) (k : KeptT a H H') (hp : PotAt H a n) : BkAt P w K H' b ls := by
  have t := hp.tkT k
  obtain ⟨dx, p1, p2, p3, p4, p5, pl, md, fd, as, h1, h2, h3, h4, h5, h6, h7, h8⟩ := h
  exact ⟨dx, p1, p2, p3, p4, p5, pl, md, fd, as, hp.at_ k h1 (fun _ _ _ z => nomatch z) (fun _ z => nomatch z), h2.tk t, sq_tk h3 t, sq_tk h4 t, sq_tk h5 t, sq_tk h6 t, h7.keptT k hp, h8.keptT k hp⟩
theorem KeptT.lst {H H' : Hp} {a b : Addr} {xs : List V} (k : KeptT a H H') (e : H b = some (.lst xs)) (ne : b ≠ a) : H' b = some (.lst xs) := k b _ e ne (fun _ z => nomatch z)
/-! ## Errors that were caught -/
section
variable {P : Program} {w : World} {K : PySem.W.Frag} {mg : Str → Option Value} {base : Heap} {ns : List Str} {x : Str} {H : Hp} {e : Addr} {u : V} {σ : L2.St} {i : Nat}
theorem err_is {Qb : Bool → Hp → Prop} (Z : ErrL P w K mg base ns) (hx : x ∈ ns) (er : ErrR K H e x u) (hi : σ[i]? = some (some (.ref e))) (q : Qb false H) : tNot (tB (tCB (rIsR K) (tCons (tVar i) (tCons (tC (.ref (He.ga K x))) tNil)))) σ H Qb := by
  obtain ⟨dd, g1, g2⟩ := er
  obtain ⟨fI, _, hC, _⟩ := Z.ini
  have C := hC x hx
  have kl := (Z.kit x hx x hx).trans (congrArg some (decide_eq_true rfl))
  exact ⟨_, hi, _, _, _, _, true, rfl, .own _, .inr ⟨e, _, dd, rfl, rfl, C.ex, g1, _, g2⟩, kl, true, rfl, q⟩
theorem err_val {Q : VK} (Z : ErrL P w K mg base ns) (hx : x ∈ ns) (er : ErrR K H e x u) (hi : σ[i]? = some (some (.ref e))) (q : Q u H) : tExR K "value" (tVar i) σ H Q := by
  obtain ⟨dd, g1, g2⟩ := er
  obtain ⟨fI, _, hC, _⟩ := Z.ini
  have C := hC x hx
  exact ⟨_, hi, e, _, dd, _, u, rfl, C.xf, C.nv, g1, g2, by simp [List.lookup], q⟩
theorem ErrR.keptT {a : Addr} {n : Nat} {H' : Hp} (h : ErrR K H e x u) (k : KeptT a H H') (hp : PotAt H a n) : ErrR K H' e x u := by
  obtain ⟨d, h1, h2⟩ := h
  exact ⟨d, hp.at_ k h1 (fun _ _ _ z => nomatch z) (fun _ z => nomatch z), hp.at_ k h2 (fun _ _ _ z => nomatch z) (fun _ z => nomatch z)⟩
theorem ErrR.same {H' : Hp} (h : ErrR K H e x u) (s : Same H H') : ErrR K H' e x u := by
  obtain ⟨d, h1, h2⟩ := h
  exact ⟨d, s _ _ h1, s _ _ h2⟩
end
/-! ## without, told -/
section
variable {P : Program} {w : World} {K : PySem.W.Frag} {mg : Str → Option Value} {base : Heap} {ns : List Str} {T0 : List (Addr × Str)} {σ : L2.St} {H : Hp} {Q : VK} {i j : Nat} {b : Addr} {v : V} {ls : List LnS}
theorem ExtN.sameR {H H1 H2 : Hp} (e : ExtN H H1) (s : Same H1 H2) : ExtN H H2 := e.trans (ext_same s)
theorem Con.ext {H H' : Hp} {a : Addr} (c : Con H a) (e : ExtN H H') : Con H' a := by
  rcases c with ⟨xs, c⟩ | ⟨xs, c⟩ | ⟨kvs, c⟩
  · exact .inl ⟨xs, e _ _ c (fun _ z => nomatch z)⟩
  · exact .inr (.inl ⟨xs, e _ _ c (fun _ z => nomatch z)⟩)
  · exact .inr (.inr ⟨kvs, e _ _ c (fun _ z => nomatch z)⟩)
theorem told_wo {x : Str} {u : V} (Z : ErrL P w K mg base ns) (hx : x ∈ ns) (hT : Tabs T0 H) (hi : σ[i]? = some (some (.ref b))) (hj : σ[j]? = some (some v)) {a : Addr} {n : Nat} (hp : PotAt H a n) (hb : BkAt P w K H b ls) (vb : VBk ls) (hv : flatV v = true ∨ ∃ a, v = .ref a ∧ Con H a)
    (case : ((∀ y, v = .str y → y ∉ namesS ls) ∧ x = "NoName" ∧ u = v) ∨ ∃ (k : Nat) (l : LnS), v = .str l.name ∧ ls[k]? = some l ∧ (((∃ l' ∈ ls, l.name ∈ l'.oth) ∧ x = "Used" ∧ u = v) ∨ ((∀ l' ∈ ls, l.name ∉ l'.oth) ∧ ls.length = 1 ∧ x = "Few" ∧ u = .int 1)))
    (res : ∀ e p H', ExtN H H' → Tabs T0 H' → H' p = some (.tup [.ref e, .non]) → ErrR K H' e x u → Q (.ref p) H') :
    tLamF T0 (spTold K) (fun E => tMeth (He.ga K "Book") "without" (spWithout P w K) [] E (tVar i) (tCons (tVar j) tNil)) tNil σ H Q := by
  refine ⟨hT, fun H1 eN t1 c' q hc => ⟨hc, rfl, fun H2 s2 => ⟨s2 _ _ hc, ?_⟩⟩⟩
  have e2 : ExtN H H2 := eN.trans (ext_same s2)
  have hb2 := hb.keptT (ext_kept (a := a) e2) hp
  have hv2 : flatV v = true ∨ ∃ a, v = .ref a ∧ Con H2 a := hv.elim .inl fun ⟨a, e, c⟩ => .inr ⟨a, e, c.ext e2⟩
  obtain ⟨dx, p1, p2, p3, p4, p5, pl, md, fd, as, h1, _⟩ := id hb2
  have wt : Wish K H2 _ x u := wish_told Z hx fun e p H3 s3 e3 er => res e p H3 (e2.trans (ext_same s3)) (tabs_same (tabs_same t1 s2) s3) e3 er
  refine ⟨_, hi, b, dx, _, rfl, h1, rfl, _, hj, b, ls, v, rfl, hb2, vb, hv2, ?_⟩
  rcases case with ⟨no, rfl, rfl⟩ | ⟨k, l, ev, hl, ⟨us, rfl, rfl⟩ | ⟨no, one, rfl, rfl⟩⟩
  · exact .inl ⟨no, wt⟩
  · exact .inr ⟨k, l, ev, hl, .inl ⟨us, wt⟩⟩
  · exact .inr ⟨k, l, ev, hl, .inr (.inl ⟨no, one, wt⟩)⟩
theorem told_wi (hT : Tabs T0 H) (hi : σ[i]? = some (some (.ref b))) (hj : σ[j]? = some (some v)) {a : Addr} {n k : Nat} {l : LnS} (hp : PotAt H a n) (hb : BkAt P w K H b ls) (vb : VBk ls) (ev : v = .str l.name) (hl : ls[k]? = some l) (no : ∀ l' ∈ ls, l.name ∉ l'.oth) (n1 : ls.length ≠ 1)
    (res : ∀ r p H', ExtN H H' → Tabs T0 H' → H' p = some (.tup [.non, .ref r]) → BkAt P w K H' r (ls.eraseIdx k) → Q (.ref p) H') :
    tLamF T0 (spTold K) (fun E => tMeth (He.ga K "Book") "without" (spWithout P w K) [] E (tVar i) (tCons (tVar j) tNil)) tNil σ H Q := by
  refine ⟨hT, fun H1 eN t1 c' q hc => ⟨hc, rfl, fun H2 s2 => ⟨s2 _ _ hc, ?_⟩⟩⟩
  have e2 : ExtN H H2 := eN.trans (ext_same s2)
  have hb2 := hb.keptT (ext_kept (a := a) e2) hp
  obtain ⟨dx, p1, p2, p3, p4, p5, pl, md, fd, as, h1, _⟩ := id hb2
  refine ⟨_, hi, b, dx, _, rfl, h1, rfl, _, hj, b, ls, v, rfl, hb2, vb, .inl (by rw [ev]; rfl), .inr ⟨k, l, ev, hl, .inr (.inr ⟨no, n1, fun H3 r s3 hr bk p hp => ?_⟩)⟩⟩
  exact res r p _ ((e2.trans (ext_same s3)).trans (ext_same (Same.new hp))) (tabs_same (tabs_same (tabs_same t1 s2) s3) (Same.new hp)) upd_same (bk.same (Same.new hp))
end
/-! ## lists of addresses, a place left out -/
theorem cut_to {xs : List V} {i : Nat} (h : i ≤ xs.length) : cutV xs none (some (i : Int)) = xs.take i := by
  unfold cutV
  rw [HT.sIx_none, HT.sIx_nat, List.drop_zero, Nat.sub_zero, Nat.min_eq_left h]
theorem cut_from {xs : List V} {i : Nat} (h : i ≤ xs.length) : cutV xs (some (i : Int)) none = xs.drop i := by
  unfold cutV
  rw [HT.sIx_none, HT.sIx_nat, Nat.min_eq_left h, List.take_of_length_le (by rw [List.length_drop]; exact Nat.le_refl _)]
theorem cut_one {xs : List V} {i : Nat} {x : V} (h : xs[i]? = some x) : cutV xs (some (i : Int)) (some ((i + 1 : Nat) : Int)) = [x] := by
  have il := (List.getElem?_eq_some_iff.mp h).1
  unfold cutV
  rw [HT.sIx_nat, HT.sIx_nat, Nat.min_eq_left (by omega), Nat.min_eq_left (by omega), show i + 1 - i = 1 by omega, List.drop_eq_getElem_cons il]
  rw [List.getElem?_eq_getElem il] at h
  cases h
  rw [List.take_succ_cons, List.take_zero]
theorem take_drop_erase {α : Type} {xs : List α} {i : Nat} : xs.take i ++ xs.drop (i + 1) = xs.eraseIdx i := (List.eraseIdx_eq_take_drop_succ xs i).symm
theorem map_eraseA {α β : Type} {f : α → β} : ∀ {xs : List α} {i : Nat}, (xs.map f).eraseIdx i = (xs.eraseIdx i).map f
  | [], _ => rfl
  | _ :: _, 0 => rfl
  | x :: xs, i + 1 => congrArg (f x :: ·) map_eraseA
theorem LoresAt.erase {K : PySem.W.Frag} {H : Hp} {as : List Addr} {ls : List LnS} (h : LoresAt K H as ls) (i : Nat) : LoresAt K H (as.eraseIdx i) (ls.eraseIdx i) := by
  refine ⟨?_, fun j a l ha hl => ?_⟩
  · rw [List.length_eraseIdx, List.length_eraseIdx, h.1]
  · by_cases hj : j < i
    · rw [List.getElem?_eraseIdx_of_lt hj] at ha hl
      exact h.2 j a l ha hl
    · rw [List.getElem?_eraseIdx_of_ge (by omega)] at ha hl
      exact h.2 (j + 1) a l ha hl
theorem LoresAt.snoc {K : PySem.W.Frag} {H : Hp} {as : List Addr} {ls : List LnS} {a : Addr} {l : LnS} (h : LoresAt K H as ls) (hl : LoAt K H a l) : LoresAt K H (as ++ [a]) (ls ++ [l]) := by
  refine ⟨by rw [List.length_append, List.length_append, h.1]; rfl, fun q b l' hb hl' => ?_⟩
  by_cases hq : q < as.length
  · rw [List.getElem?_append_left hq] at hb
    rw [List.getElem?_append_left (by rw [← h.1]; exact hq)] at hl'
    exact h.2 q b l' hb hl'
  · have q0 : q = as.length := by
      have := (List.getElem?_eq_some_iff.mp hb).1
      rw [List.length_append] at this
      have : q < as.length + 1 := this
      omega
    rw [q0, List.getElem?_append_right (Nat.le_refl _), Nat.sub_self] at hb
    rw [q0, h.1, List.getElem?_append_right (Nat.le_refl _), Nat.sub_self] at hl'
    cases hb
    cases hl'
    exact hl
/-- lore[:at] + lore[at + 1:] -/
theorem sl_erase {K : PySem.W.Frag} {σ : L2.St} {H : Hp} {Q : VK} {i j k : Nat} {p : Addr} {as : List Addr} (hi : σ[i]? = some (some (.ref p))) (hj : σ[j]? = some (some (.int (k : Int)))) (hp : SqL K H p (as.map V.ref)) (h12 : as.length ≤ 12) (hk : k < as.length)
    (q : ∀ H' r, Same H H' → H r = none → H' r = some (.lst ((as.eraseIdx k).map V.ref)) → Q (.ref r) H') :
    tOp rCat (tSl (rSlL K) (tVar i) tNoPart (tPart (tVar j))) (tSl (rSlL K) (tVar i) (tPart (tOp (rI0 fun i j => .int (i + j)) (tVar j) (tC (.int 1)))) tNoPart) σ H Q := by
  refine ⟨_, hi, _, hj, _, rfl, p, _, rfl, hp, fun a1 h1 => ?_⟩
  refine ⟨_, hi, _, hj, _, _, rfl, rfl, _, rfl, p, _, rfl, (Same.new h1).seq hp, fun a2 h2 => ?_⟩
  have e1 := cut_to (xs := as.map V.ref) (i := k) (by rw [List.length_map]; omega)
  have e2 := cut_from (xs := as.map V.ref) (i := k + 1) (by rw [List.length_map]; omega)
  have e3 : ((k : Int) + 1) = ((k + 1 : Nat) : Int) := by omega
  rw [e1] at h2 ⊢
  rw [e3, e2]
  refine ⟨a1, a2, _, _, rfl, rfl, Same.new h2 _ _ upd_same, upd_same, ?_, fun r hr => ?_⟩
  · rw [List.length_take, List.length_drop, List.length_map, sizeLine_eq]
    omega
  rw [take_drop_erase, map_eraseA]
  exact q _ r (((Same.new h1).trans (Same.new h2)).trans (Same.new hr)) (((Same.new h1).trans (Same.new h2)).free hr) upd_same
/-- rest + lore[at:at + 1] -/
theorem sl_snoc {K : PySem.W.Frag} {σ : L2.St} {H : Hp} {Q : VK} {i j m k : Nat} {p r0 a : Addr} {as bs : List Addr} (hm : σ[m]? = some (some (.ref r0))) (hi : σ[i]? = some (some (.ref p))) (hj : σ[j]? = some (some (.int (k : Int)))) (hp : SqL K H p (as.map V.ref)) (e : H r0 = some (.lst (bs.map V.ref))) (h12 : bs.length ≤ 12) (hk : as[k]? = some a)
    (q : ∀ H' r, Same H H' → H r = none → H' r = some (.lst ((bs ++ [a]).map V.ref)) → Q (.ref r) H') :
    tOp rCat (tVar m) (tSl (rSlL K) (tVar i) (tPart (tVar j)) (tPart (tOp (rI0 fun i j => .int (i + j)) (tVar j) (tC (.int 1))))) σ H Q := by
  refine ⟨_, hm, _, hi, _, hj, _, rfl, _, hj, _, _, rfl, rfl, _, rfl, p, _, rfl, hp, fun a1 h1 => ?_⟩
  have e1 := cut_one (xs := as.map V.ref) (i := k) (x := .ref a) (by rw [List.getElem?_map, hk]; rfl)
  have e3 : ((k : Int) + 1) = ((k + 1 : Nat) : Int) := by omega
  rw [e3, e1]
  refine ⟨r0, a1, _, _, rfl, rfl, Same.new h1 _ _ e, upd_same, ?_, fun r hr => ?_⟩
  · rw [List.length_map, sizeLine_eq]
    show _ + 1 ≤ _
    omega
  have e4 : bs.map V.ref ++ [V.ref a] = (bs ++ [a]).map V.ref := by simp
  rw [e4]
  exact q _ r ((Same.new h1).trans (Same.new hr)) ((Same.new h1).free hr) upd_same
/-- any([name in line[3] for line in lore]) -/
theorem any_other {K : PySem.W.Frag} {σ : L2.St} {H : Hp} {Q : Bool → Hp → Prop} {i j m : Nat} {p : Addr} {as : List Addr} {ls : List LnS} {nm : Str} {own : List Nat} (hi : σ[i]? = some (some (.ref p))) (hj : (wipe σ own)[j]? = some (some (.str nm))) (hm : m ∈ own) (jm : j ≠ m) (lm : m < σ.length) (hp : SqL K H p (as.map V.ref)) (hl : LoresAt K H as ls) (n12 : ls.length ≤ 12)
    (hw : ∀ a : Addr, wipe ((wipe σ own).set m (some (.ref a))) own = wipe σ own) (q : ∀ H', Same H H' → Q (ls.any fun x => decide (nm ∈ x.oth)) H') :
    tB (tCB (rAny K) (tCons (tLc (iList K (tVar i)) (gName m) tYes (tOp (rIn K false) (tVar j) (tOp (rIx K) (tVar m) (tC (.int 3)))) own) tNil)) σ H Q := by
  have fl : ∀ l : LnS, (l.oth.map V.str).all flatV = true := fun l => List.all_eq_true.mpr fun v hv => by
    obtain ⟨y, _, rfl⟩ := List.mem_map.mp hv
    rfl
  have wl : (wipe σ own).length = σ.length := wipe_length _ _
  refine ⟨_, hi, p, rfl, ⟨_, hp⟩, fun D hD => ?_⟩
  refine lc_it walk_list (fun j H' => Same H H' ∧ H' D = some (.lst (((ls.take j).map fun x => decide (nm ∈ x.oth)).map V.bl))) ⟨Same.new hD, upd_same⟩ (fun j H' _ h => h.1.seq hp) ?_ ?_
  · rintro k x G1 G2 hk ⟨s1, e1⟩ ⟨rfl, hu⟩
    rw [List.length_map] at hk
    obtain ⟨a, ha, rfl⟩ := map_at hu
    obtain ⟨l', hl'⟩ : ∃ l', ls[k]? = some l' := ⟨_, List.getElem?_eq_getElem (by have := hl.1; omega)⟩
    obtain ⟨po, g1, g2⟩ := (hl.2 k a l' ha hl').same s1
    refine ⟨hw a, yes_if ⟨_, by rw [List.getElem?_set_ne (Ne.symm jm)]; exact hj, _, by rw [List.getElem?_set_self (by rw [wl]; exact lm)], .inr (.inl ⟨a, _, _, _, rfl, rfl, g1, atI_of (j := 3) rfl rfl, po, _, rfl, .inr g2, rfl, fl l', _, e1, ?_, sm_put s1 hD, ?_⟩)⟩⟩
    · rw [List.length_map, List.length_map, List.length_take, sizeLine_eq]
      omega
    · rw [upd_same, List.take_add_one, hl', List.map_append, List.map_append]
      show some (HO.lst (_ ++ [V.bl (if false = true then !inV (.str nm) (l'.oth.map V.str) else inV (.str nm) (l'.oth.map V.str))])) = _
      rw [if_neg Bool.false_ne_true, inV_strs]
      rfl
  rintro H1 ⟨s1, e1⟩
  rw [List.length_map, hl.1, List.take_length] at e1
  refine ⟨D, _, rfl, SqL.of e1, _, rfl, ?_⟩
  have e : ((ls.map fun x => decide (nm ∈ x.oth)).any id) = ls.any fun x => decide (nm ∈ x.oth) := by
    rw [List.any_map]
    rfl
  rw [e]
  exact q H1 s1
theorem or_ofL {t u : TT} {σ : L2.St} {H : Hp} {Q : Bool → Hp → Prop} (h : t σ H fun c H1 => if c = true then Q true H1 else u σ H1 Q) : tOr t u σ H Q := h
theorem asg_pairL {te1 te2 : TE} {g : TG} {D : Ends} {σ : L2.St} {H : Hp} (h : te1 σ H fun x H1 => te2 σ H1 fun y H2 => [x, y].length ≤ sizeLine ∧ ∀ p, H2 p = none → g (.ref p) σ (upd H2 p (.tup [x, y])) D.nx) : tAsg (tTup (tCons te1 (tCons te2 tNil))) g D σ H := h
theorem unpackP {K : PySem.W.Frag} {p : Addr} {c m : V} {i j : Nat} {σ : L2.St} {H : Hp} {N : L2.St → Hp → Prop} (e : H p = some (.tup [c, m])) (q : N ((σ.set i (some c)).set j (some m)) H) : gTup K 2 (gCons (gName i) (gCons (gName j) gNil)) (.ref p) σ H N :=
  ⟨p, _, rfl, SqT.of e, rfl, _, _, rfl, _, _, rfl, rfl, q⟩
theorem test_ofL {te : TE} {σ : L2.St} {H : Hp} {Q : Bool → Hp → Prop} (h : te σ H fun x H' => ∃ k, x = .bl k ∧ Q k H') : tTest te σ H Q := h
theorem op_ofL {r : R2} {ta tb : TE} {σ : L2.St} {H : Hp} {Q : VK} (h : ta σ H fun x H1 => tb σ H1 fun y H2 => r x y H2 Q) : tOp r ta tb σ H Q := h
theorem cb_ofL {r : List V → Hp → VK → Prop} {te : TE} {σ : L2.St} {H : Hp} {Q : VK} (h : te σ H fun x H1 => r [x] H1 Q) : tCB r (tCons te tNil) σ H Q := h
theorem repr_int1 {H : Hp} {Q : VK} (q : Q (.str "1") H) : rReprD [.int 1] H Q := ⟨.int 1, .int 1, rfl, .int 1, by decide +kernel, by decide +kernel, by rw [sizeLine_eq]; decide +kernel, by
  have e : (PyData.int 1).shown = "1" := by decide +kernel
  rw [e]
  exact q⟩
theorem shown_pool : ∀ x ∈ poolS, (PyData.str x).shown.length ≤ 40 := by
  have all : poolS.all (fun x => decide ((PyData.str x).shown.length ≤ 40)) = true := by decide +kernel
  exact fun x hx => of_decide_eq_true (List.all_eq_true.mp all x hx)
theorem names_none (ls : List LnS) : namesOfS none ls = namesS ls := by
  unfold namesOfS namesS
  congr 1
  exact List.filter_eq_self.mpr fun _ _ => rfl
theorem tabs_keptT {T : List (Addr × Str)} {H H' : Hp} {a : Addr} {n : Nat} (t : Tabs T H) (k : KeptBut a H H') (hp : PotAt H a n) : Tabs T H' := tabs_pot t k hp
end Lm

namespace Lm
open PySem PySem.Spec PyProof.Rows L2
/-! ## Written dicts, from the head -/
theorem tab_at {fa : List He.Fa} {fn : List He.DefD} {ts : List He.Tab} {w : World} {K : PySem.W.Frag} (c : He.SaysT fa fn ts w K) (i : Nat) {t : He.Tab} (h : ts[i]? = some t) : He.dicW K (t.1 K) = some (He.keysIn w.params t.2) := by
  have e : ts.map (fun t => He.dicW K (t.1 K)) = ts.map fun t => some (He.keysIn w.params t.2) := congrArg (fun z : He.AlT => z.2) c
  have e2 : (ts.map fun t => He.dicW K (t.1 K))[i]? = (ts.map fun t => some (He.keysIn w.params t.2))[i]? := by rw [e]
  rw [List.getElem?_map, List.getElem?_map, h] at e2
  exact Option.some.inj e2
theorem keys_of {P : Params} : ∀ {l : List DictEntry} {ks : List Str}, l.map He.keyOf = He.keysIn P ks → l.map keyS = ks.map some
  | [], [], _ => rfl
  | [], _ :: _, h => by cases h
  | _ :: _, [], h => by cases h
  | e :: r, k :: ks, h => by
    have h1 : He.keyOf e :: r.map He.keyOf = some (k, PyData.keyHash P k) :: He.keysIn P ks := h
    injection h1 with h2 h3
    show keyS e :: r.map keyS = some k :: ks.map some
    rw [keys_of h3]
    congr 1
    unfold He.keyOf at h2
    unfold keyS
    split at h2
    · rename_i x t q
      rw [q]
      injection h2 with h4
      injection h4 with h5 h6
      rw [h5]
    · cases h2
theorem ktab_of {K : PySem.W.Frag} {w : World} {a : Addr} {kvs : List (Str × He.Dv)} (h : He.dicW K a = some (He.keysIn w.params (kvs.map (·.1)))) (v : He.valsB K a kvs = true) : KTab K w a (kvs.map fun q => (q.1, q.2.v K)) := by
  obtain ⟨es, n, D⟩ := He.dicW_ok h
  refine ⟨⟨es, n, D, ?_⟩, fun p hp => ?_⟩
  · unfold He.dicW at h
    rw [D.at_] at h
    have b : (decide ("dict" = "dict") && ((#[] : Array (Option Value)).isEmpty && !(a == sysModules))) = true := by
      rw [D.low]
      rfl
    have h1 : (match decide ("dict" = "dict") && ((#[] : Array (Option Value)).isEmpty && !(a == sysModules)) with
      | true => some (es.toList.map He.keyOf)
      | false => none) = some (He.keysIn w.params (kvs.map (·.1))) := h
    rw [b] at h1
    have h2 := keys_of (Option.some.inj h1)
    rw [h2, List.map_map, List.map_map]
    rfl
  · obtain ⟨q, hq, rfl⟩ := List.mem_map.mp hp
    exact He.valsB_ok v hq
theorem KTab.dct {K : PySem.W.Frag} {w : World} {a : Addr} {kvs : List (Str × V)} (k : KTab K w a kvs) {x : Str} {v : V} (h : (x, v) ∈ kvs) : KDct K w a x v := by
  obtain ⟨es, n, D, _⟩ := k.ex
  obtain ⟨u, e, r⟩ := k.val _ h
  exact ⟨es, n, u, D.at_, D.lit, e, r⟩
end Lm

namespace K12
open PySem PySem.Spec PyProof.Rows L2 Lm
open C8 (Cal Mak Met pe_c pe_mk pe_mt pe_mt0 pss_cut tCut)
open LamX (CodeO TabS Tabs ExtN TabB)
--KR 9
def top (i : Nat) : Stmt := PySem.Challenge.pw_loosemirrors_k12_lines_left_out.main.body.getD i (.Pass ⟨0, 0, 0, 0⟩)
abbrev s_added : Stmt := top 30
abbrev n_added : List Str := ["powers", "more", "one", "other"]
abbrev p_added : List Str := ["powers", "more"]
theorem sc_added : FnScope n_added p_added (defScope s_added) := ⟨rfl, rfl, rfl, by decide +kernel, rfl, by decide +kernel, by decide +kernel⟩
abbrev s_taken : Stmt := top 31
abbrev n_taken : List Str := ["powers", "less", "one", "other"]
abbrev p_taken : List Str := ["powers", "less"]
theorem sc_taken : FnScope n_taken p_taken (defScope s_taken) := ⟨rfl, rfl, rfl, by decide +kernel, rfl, by decide +kernel, by decide +kernel⟩
abbrev s_contrary_powers : Stmt := top 32
abbrev n_contrary_powers : List Str := ["powers", "one"]
abbrev p_contrary_powers : List Str := ["powers"]
theorem sc_contrary_powers : FnScope n_contrary_powers p_contrary_powers (defScope s_contrary_powers) := ⟨rfl, rfl, rfl, by decide +kernel, rfl, by decide +kernel, by decide +kernel⟩
abbrev s_without_nothing : Stmt := top 33
abbrev n_without_nothing : List Str := ["shares", "key"]
abbrev p_without_nothing : List Str := ["shares"]
theorem sc_without_nothing : FnScope n_without_nothing p_without_nothing (defScope s_without_nothing) := ⟨rfl, rfl, rfl, by decide +kernel, rfl, by decide +kernel, by decide +kernel⟩
abbrev s_summed : Stmt := top 34
abbrev n_summed : List Str := ["shares", "more", "total", "key"]
abbrev p_summed : List Str := ["shares", "more"]
theorem sc_summed : FnScope n_summed p_summed (defScope s_summed) := ⟨rfl, rfl, rfl, by decide +kernel, rfl, by decide +kernel, by decide +kernel⟩
abbrev s_negated : Stmt := top 35
abbrev n_negated : List Str := ["shares", "key"]
abbrev p_negated : List Str := ["shares"]
theorem sc_negated : FnScope n_negated p_negated (defScope s_negated) := ⟨rfl, rfl, rfl, by decide +kernel, rfl, by decide +kernel, by decide +kernel⟩
abbrev s_halved : Stmt := top 36
abbrev n_halved : List Str := ["shares", "key"]
abbrev p_halved : List Str := ["shares"]
theorem sc_halved : FnScope n_halved p_halved (defScope s_halved) := ⟨rfl, rfl, rfl, by decide +kernel, rfl, by decide +kernel, by decide +kernel⟩
abbrev s_flipped : Stmt := top 37
abbrev n_flipped : List Str := ["shares", "flips", "total", "source", "is_flipped", "powers", "share", "image", "is_over", "turns", "part", "key"]
abbrev p_flipped : List Str := ["shares", "flips"]
theorem sc_flipped : FnScope n_flipped p_flipped (defScope s_flipped) := ⟨rfl, rfl, rfl, by decide +kernel, rfl, by decide +kernel, by decide +kernel⟩
abbrev s_turned : Stmt := top 38
abbrev n_turned : List Str := ["shares", "sign", "powers", "source", "is_flipped", "own", "share"]
abbrev p_turned : List Str := ["shares", "sign", "powers"]
theorem sc_turned : FnScope n_turned p_turned (defScope s_turned) := ⟨rfl, rfl, rfl, by decide +kernel, rfl, by decide +kernel, by decide +kernel⟩
section
variable {P : Program} {w : World} {K : PySem.W.Frag} {mg : Str → Option Value} {base : Heap} {f : Addr} {fd : FuncData}
theorem ok_added (F : FunD K "added" "added" (defArgs s_added) (defBody s_added) (defScope s_added) [] [] f fd) (hm : mg "added" = some (.ref f)) (T : Bl mg base) (Tz : mg "zip" = none) : Cal P w K mg base 1 "added" (spPw K Al.ad) [] := by
  refine calD F hm sc_added (fun _ _ _ _ _ _ us hl => match us, hl with | [_, _], _ => rfl) (fun vs H Q E h => ?_) (fun cdv A outer s H vs Q E hr h => ?_)
  · obtain ⟨p, q, xs, ys, rfl, _⟩ := h
    rfl
  obtain ⟨p, q, xs, ys, rfl, hp, hq, hl, k⟩ := h
  refine ⟨_, (pss_one (ps_ret (pe_callTy call_tuple_of (by rfl) T.tuple (by decide +kernel) (pa_cons (pe_lc (own := [("one", 2), ("other", 3)]) (g := (gTup K 2 (gCons (gName 2) (gCons (gName 3) gNil)))) (tt := tYes) rfl sc_added.nd (RZ.pi_zipA (by rfl) Tz (pa_cons (pv 0) (pa_cons (pv 1) pa_nil))) (blkOk_by (own := [("one", 2), ("other", 3)]) (N := n_added) (sc := defScope s_added) (by decide +kernel)) (fun _ _ _ _ _ => (pg_tup rfl (pgs_cons (pg_name (i := 2) sc_added.nd rfl (by first | exact Or.inl rfl | exact Or.inr rfl)) (pgs_cons (pg_name (i := 3) sc_added.nd rfl (by first | exact Or.inl rfl | exact Or.inr rfl)) pgs_nil)))) (fun _ _ _ _ _ => pts_nil) (fun _ _ _ _ _ => (pe_op op_add (pv 2) (pv 3)))) pa_nil)))), ?_⟩
  refine ⟨_, rfl, _, rfl, p, q, _, _, rfl, .inr ⟨hp, hq, fun D hD => ?_⟩⟩
  refine lc_it (walk_zipT rfl) (fun i H' => Same H H' ∧ H' D = some (.lst (((Al.ad xs ys).take i).map V.int))) ⟨Same.new hD, upd_same⟩ (fun i H' _ h => ⟨sq_tk hp (.same h.1), sq_tk hq (.same h.1)⟩) ?_ ?_
  · rintro i x H1 H2 hi ⟨s, e⟩ ⟨T, u, v, rfl, hT, rfl, hu, hv⟩
    obtain ⟨n, hn, rfl⟩ := map_at hu
    obtain ⟨m, hm, rfl⟩ := map_at hv
    have lt : i < 12 := by
      rw [List.length_map, List.length_map] at hi
      omega
    have at_ : (Al.ad xs ys)[i]? = some (n + m) := by
      rw [Al.ad_get, hn, hm]
      rfl
    refine unp2 (SqT.of upd_same) ⟨rfl, yes_if ⟨_, rfl, _, rfl, _, _, rfl, rfl, _, (by rw [upd_ne (ne_of_none e hT)]; exact e), few_take V.int (Nat.le_of_lt lt) (by decide), sm_put (sm_new s hT) hD, ?_⟩⟩
    rw [upd_same, take_map V.int at_]
  · rintro H1 ⟨s, e⟩
    refine ⟨D, _, rfl, .inl ⟨SqL.of e, fun p2 hp2 => k _ p2 (sm_new s hp2) (s.free hp2) ?_⟩⟩
    rw [upd_same, List.take_of_length_le]
    unfold Al.ad
    rw [List.length_zipWith, List.length_map, List.length_map]
    exact Nat.le_refl _
theorem ok_taken (F : FunD K "taken" "taken" (defArgs s_taken) (defBody s_taken) (defScope s_taken) [] [] f fd) (hm : mg "taken" = some (.ref f)) (T : Bl mg base) (Tz : mg "zip" = none) : Cal P w K mg base 1 "taken" (spPw K Al.su) [] := by
  refine calD F hm sc_taken (fun _ _ _ _ _ _ us hl => match us, hl with | [_, _], _ => rfl) (fun vs H Q E h => ?_) (fun cdv A outer s H vs Q E hr h => ?_)
  · obtain ⟨p, q, xs, ys, rfl, _⟩ := h
    rfl
  obtain ⟨p, q, xs, ys, rfl, hp, hq, hl, k⟩ := h
  refine ⟨_, (pss_one (ps_ret (pe_callTy call_tuple_of (by rfl) T.tuple (by decide +kernel) (pa_cons (pe_lc (own := [("one", 2), ("other", 3)]) (g := (gTup K 2 (gCons (gName 2) (gCons (gName 3) gNil)))) (tt := tYes) rfl sc_taken.nd (RZ.pi_zipA (by rfl) Tz (pa_cons (pv 0) (pa_cons (pv 1) pa_nil))) (blkOk_by (own := [("one", 2), ("other", 3)]) (N := n_taken) (sc := defScope s_taken) (by decide +kernel)) (fun _ _ _ _ _ => (pg_tup rfl (pgs_cons (pg_name (i := 2) sc_taken.nd rfl (by first | exact Or.inl rfl | exact Or.inr rfl)) (pgs_cons (pg_name (i := 3) sc_taken.nd rfl (by first | exact Or.inl rfl | exact Or.inr rfl)) pgs_nil)))) (fun _ _ _ _ _ => pts_nil) (fun _ _ _ _ _ => (pe_op op_sub (pv 2) (pv 3)))) pa_nil)))), ?_⟩
  refine ⟨_, rfl, _, rfl, p, q, _, _, rfl, .inr ⟨hp, hq, fun D hD => ?_⟩⟩
  refine lc_it (walk_zipT rfl) (fun i H' => Same H H' ∧ H' D = some (.lst (((Al.su xs ys).take i).map V.int))) ⟨Same.new hD, upd_same⟩ (fun i H' _ h => ⟨sq_tk hp (.same h.1), sq_tk hq (.same h.1)⟩) ?_ ?_
  · rintro i x H1 H2 hi ⟨s, e⟩ ⟨T, u, v, rfl, hT, rfl, hu, hv⟩
    obtain ⟨n, hn, rfl⟩ := map_at hu
    obtain ⟨m, hm, rfl⟩ := map_at hv
    have lt : i < 12 := by
      rw [List.length_map, List.length_map] at hi
      omega
    have at_ : (Al.su xs ys)[i]? = some (n - m) := by
      rw [Al.su_get, hn, hm]
      rfl
    refine unp2 (SqT.of upd_same) ⟨rfl, yes_if ⟨_, rfl, _, rfl, _, _, rfl, rfl, _, (by rw [upd_ne (ne_of_none e hT)]; exact e), few_take V.int (Nat.le_of_lt lt) (by decide), sm_put (sm_new s hT) hD, ?_⟩⟩
    rw [upd_same, take_map V.int at_]
  · rintro H1 ⟨s, e⟩
    refine ⟨D, _, rfl, .inl ⟨SqL.of e, fun p2 hp2 => k _ p2 (sm_new s hp2) (s.free hp2) ?_⟩⟩
    rw [upd_same, List.take_of_length_le]
    unfold Al.su
    rw [List.length_zipWith, List.length_map, List.length_map]
    exact Nat.le_refl _
theorem ok_contrary (F : FunD K "contrary_powers" "contrary_powers" (defArgs s_contrary_powers) (defBody s_contrary_powers) (defScope s_contrary_powers) [] [] f fd) (hm : mg "contrary_powers" = some (.ref f)) (T : Bl mg base) : Cal P w K mg base 1 "contrary_powers" (spPn K) [] := by
  refine calD F hm sc_contrary_powers (fun _ _ _ _ _ _ us hl => match us, hl with | [_], _ => rfl) (fun vs H Q E h => ?_) (fun cdv A outer s H vs Q E hr h => ?_)
  · obtain ⟨p, xs, rfl, _⟩ := h
    rfl
  obtain ⟨p, xs, rfl, hp, hl, k⟩ := h
  refine ⟨_, (pss_one (ps_ret (pe_callTy call_tuple_of (by rfl) T.tuple (by decide +kernel) (pa_cons (pe_lc (own := [("one", 1)]) (g := (gName 1)) (tt := tYes) rfl sc_contrary_powers.nd (pi_tup (pv 0)) (blkOk_by (own := [("one", 1)]) (N := n_contrary_powers) (sc := defScope s_contrary_powers) (by decide +kernel)) (fun _ _ _ _ _ => (pg_name (i := 1) sc_contrary_powers.nd rfl (by first | exact Or.inl rfl | exact Or.inr rfl))) (fun _ _ _ _ _ => pts_nil) (fun _ _ _ _ _ => (pe_un un_neg (pv 1)))) pa_nil)))), ?_⟩
  refine ⟨_, rfl, p, rfl, ⟨_, hp⟩, fun D hD => ?_⟩
  refine lc_it walk_tup (fun i H' => Same H H' ∧ H' D = some (.lst (((Al.ng xs).take i).map V.int))) ⟨Same.new hD, upd_same⟩ (fun i H' _ h => sq_tk hp (.same h.1)) ?_ ?_
  · rintro i x H1 H2 hi ⟨s, e⟩ ⟨rfl, hu⟩
    obtain ⟨n, hn, rfl⟩ := map_at hu
    have lt : i < 12 := by
      rw [List.length_map] at hi
      omega
    have at_ : (Al.ng xs)[i]? = some (-n) := by
      rw [Al.ng_get, hn]
      rfl
    refine ⟨rfl, yes_if ⟨_, rfl, _, rfl, _, e, few_take V.int (Nat.le_of_lt lt) (by decide), sm_put s hD, ?_⟩⟩
    rw [upd_same, take_map V.int at_]
  · rintro H1 ⟨s, e⟩
    refine ⟨D, _, rfl, .inl ⟨SqL.of e, fun p2 hp2 => k _ p2 (sm_new s hp2) (s.free hp2) ?_⟩⟩
    rw [upd_same, List.take_of_length_le]
    unfold Al.ng
    rw [List.length_map, List.length_map]
    exact Nat.le_refl _
theorem ok_wn (F : FunD K "without_nothing" "without_nothing" (defArgs s_without_nothing) (defBody s_without_nothing) (defScope s_without_nothing) [] [] f fd) (hm : mg "without_nothing" = some (.ref f)) (T : Bl mg base) : Cal P w K mg base 1 "without_nothing" (spSh1 P w K Al.wn) [] := by
  refine calD F hm sc_without_nothing (fun _ _ _ _ _ _ us hl => match us, hl with | [_], _ => rfl) (fun vs H Q E h => ?_) (fun cdv A outer s H vs Q E hr h => ?_)
  · obtain ⟨a, S, rfl, _⟩ := h
    rfl
  obtain ⟨a, S, rfl, ⟨o, es, ha, hk, he⟩, sm, nd, k⟩ := h
  refine ⟨_, (pss_one (ps_ret (pe_fz (pe_ndc (own := [("key", 1)]) (g := (gName 1)) (units10 hr) rfl sc_without_nothing.nd (pi_nkeys (pv 0)) (blkOk_by (own := [("key", 1)]) (N := n_without_nothing) (sc := defScope s_without_nothing) (by decide +kernel)) (fun _ _ _ _ _ => (pg_name (i := 1) sc_without_nothing.nd rfl (by first | exact Or.inl rfl | exact Or.inr rfl))) (fun _ _ _ _ _ => (pts_one (pt_cmpR op_ne (pe_ngetP P w K (units10 hr) (pv 0) (pv 1) (fun _ _ => rfl)) pe_int (nomark _)))) (fun _ _ _ _ _ => (pv 1)) (fun _ _ _ _ _ => (pe_ngetP P w K (units10 hr) (pv 0) (pv 1) (fun _ _ => rfl))))))), ?_⟩
  refine ⟨_, rfl, a, o, es, rfl, ha, fun D hD => ?_⟩
  refine ndc_it walk_n (fun i H' => Same H H' ∧ ShM P w K H' D (Al.wn (S.take i))) ⟨Same.new hD, [], upd_same, (fun _ z => by cases z), EsOf.nil⟩ (fun i H' _ h => h.1 _ _ ha) ?_ ?_
  · rintro i x H1 H2 hi ⟨s, es2, eD, k2, e2⟩ ⟨rfl, e, hie, rfl⟩
    obtain ⟨y, hy, hn, hg⟩ := he.mem nd hie
    have ke : NKat K H2 e.1 e.2.1 := (hk.tk (.same s)) e (List.mem_of_getElem? hie)
    have N1 : NKey P w K H2 a (.ref e.2.1) es e.1 e.2.1 := ⟨rfl, hk.tk (.same s), ke⟩
    have rd : Rd H2 a (dnO P w a es) := .inr ⟨o, s _ _ ha⟩
    refine ⟨rfl, _, rfl, _, rfl, a, es, e.1, e.2.1, _, rfl, rd, N1, hg, rfl, _, rfl, ?_⟩
    have w1 := Al.wn_snoc hy
    refine ite2 (fun c => ?_) (fun c => ?_)
    · have c2 : y.2 ≠ 0 := by simpa using c
      rw [if_pos c2] at w1
      refine ⟨_, rfl, _, rfl, _, rfl, a, es, e.1, e.2.1, _, rfl, rd, N1, hg, es2, e.1, e.2.1, eD, ⟨rfl, k2, ke⟩, ?_, sm_put s hD, _, upd_same, (k2.put ke).tk (.put eD trivial), ?_⟩
      · rw [e2.len]
        have := Al.wn_le (S.take i)
        rw [List.length_take] at this
        have z : S.length ≤ 8000000 := sm
        rw [sizeLine_eq]
        omega
      · rw [w1, hn]
        have z := e2.put (k := y.1) (b := e.2.1) (v := y.2)
        have nd2 : (S.map fun x => ((fun x => x) x : K3 × Int).1).Nodup := nd
        have pt : Al.put (Al.wn (S.take i)) y.1 y.2 = Al.wn (S.take i) ++ [y] := Al.put_take (F := fun x => x) nd2 hy fun u hu => ⟨u, (List.mem_filter.mp hu).1, rfl⟩
        rw [pt] at z
        exact z
    · have c2 : ¬ y.2 ≠ 0 := by simpa using c
      rw [if_neg c2] at w1
      exact ⟨s, es2, eD, k2, by rw [w1]; exact e2⟩
  · rintro H1 ⟨s, es2, eD, k2, e2⟩
    rw [he.len, List.take_length] at e2
    refine ⟨D, _, rfl, eD, trivial, fun od => k _ D (sm_put s hD) hD ⟨od, es2, upd_same, k2.tk (.put eD trivial), e2⟩⟩
theorem ok_summed (F : FunD K "summed" "summed" (defArgs s_summed) (defBody s_summed) (defScope s_summed) [] [] f fd) (hm : mg "summed" = some (.ref f)) (T : Bl mg base) (c_without_nothing : Cal P w K mg base 1 "without_nothing" (spSh1 P w K Al.wn) []) : Cal P w K mg base 2 "summed" (spSummed P w K) [] := by
  refine calD F hm sc_summed (fun _ _ _ _ _ _ us hl => match us, hl with | [_, _], _ => rfl) (fun vs H Q E h => ?_) (fun cdv A outer s H vs Q E hr h => ?_)
  · obtain ⟨a, b, S, T, rfl, _⟩ := h
    rfl
  obtain ⟨a, b, S, R, rfl, ⟨o, es, ha, hk, he⟩, ⟨o2, es2, hb, hk2, he2⟩, sm, nd, nd2, k⟩ := h
  refine ⟨_, (pss_cons (ps_setDc (n := 2) (own := [("key", 3)]) (g := (gName 3)) (tt := tYes) (units10 hr) rfl sc_summed.nd rfl rfl (sw_trueD rfl rfl rfl (by decide +kernel)) (pi_nkeys (pv 0)) (blkOk_by (own := [("key", 3)]) (N := n_summed) (sc := defScope s_summed) (by decide +kernel)) (fun _ _ _ _ _ => (pg_name (i := 3) sc_summed.nd rfl (by first | exact Or.inl rfl | exact Or.inr rfl))) (fun _ _ _ _ _ => pts_nil) (fun _ _ _ _ _ => (pv 3)) (fun _ _ _ _ _ => (pe_ngetP P w K (units10 hr) (pv 0) (pv 3) (fun _ _ => rfl))))
    (pss_cons (ps_for PassesOwn.never rfl (pi_nkeys (pv 1)) (pg_name (i := 3) sc_summed.nd rfl (by first | exact Or.inl rfl | exact Or.inr rfl))
    (pss_one (ps_nput (units10 hr) (pv 2) (pv 3) (pe_op op_add (pe_nget2 (units10 hr) (pv 2) (pv 3) pe_int ⟨rfl, rfl, rfl, rfl⟩) (pe_ngetP P w K (units10 hr) (pv 1) (pv 3) (fun _ _ => rfl))) (by rfl))))
    (pss_one (ps_ret (pe_c c_without_nothing hr (by decide) (by rfl) (pa_cons (pe_fz (pv 2)) pa_nil)))))), ?_⟩
  refine ⟨_, rfl, a, o, es, rfl, ha, fun D hD => ?_⟩
  refine ndc_it walk_n (fun i H' => Same H H' ∧ ShM P w K H' D (S.take i)) ⟨Same.new hD, [], upd_same, (fun _ z => by cases z), EsOf.nil⟩ (fun i H' _ h => h.1 _ _ ha) ?_ ?_
  · rintro i x H1 H2 hi ⟨s, es3, eD, k3, e3⟩ ⟨rfl, e, hie, rfl⟩
    obtain ⟨y, hy, hn, hg⟩ := he.mem nd hie
    have ke : NKat K H2 e.1 e.2.1 := (hk.tk (.same s)) e (List.mem_of_getElem? hie)
    refine ⟨rfl, yes_if ⟨_, rfl, _, rfl, _, rfl, a, es, e.1, e.2.1, _, rfl, .inr ⟨o, s _ _ ha⟩, ⟨rfl, hk.tk (.same s), ke⟩, hg, es3, e.1, e.2.1, eD, ⟨rfl, k3, ke⟩, ?_, sm_put s hD, _, upd_same, (k3.put ke).tk (.put eD trivial), ?_⟩⟩
    · rw [e3.len, List.length_take, sizeLine_eq]
      omega
    · rw [hn]
      have z := e3.put (k := y.1) (b := e.2.1) (v := y.2)
      have nd3 : (S.map fun x => ((fun x => x) x : K3 × Int).1).Nodup := nd
      have pt : Al.put (S.take i) y.1 y.2 = S.take i ++ [y] := Al.put_take (F := fun x => x) nd3 hy fun u hu => ⟨u, hu, rfl⟩
      rw [pt] at z
      rw [List.take_add_one, hy]
      exact z
  rintro H1 ⟨s1, hM⟩
  rw [he.len, List.take_length] at hM
  refine ⟨_, rfl, b, o2, es2, rfl, s1 _ _ hb, ?_⟩
  refine for_it walk_n (fun i σ H' => Same H H' ∧ ShM P w K H' D (Al.addAll S (R.take i)) ∧ ∃ c, σ = [some (.ref a), some (.ref b), some (.ref D), c]) ⟨s1, hM, _, rfl⟩ (fun i σ H' _ h => h.1 _ _ hb) ?_ ?_
  · rintro i x σ H2 H3 hi ⟨s, ⟨es3, eD, k3, e3⟩, c, rfl⟩ ⟨rfl, e, hie, rfl⟩
    obtain ⟨y, hy, hn, hg⟩ := he2.mem nd2 hie
    have ke : NKat K H3 e.1 e.2.1 := (hk2.tk (.same s)) e (List.mem_of_getElem? hie)
    have N3 : NKey P w K H3 D (.ref e.2.1) es3 e.1 e.2.1 := ⟨rfl, k3, ke⟩
    refine ⟨_, rfl, D, es3, rfl, .inl eD, k3, _, rfl, es3, e.1, e.2.1, .inl eD, N3, _, rfl, _, rfl, b, es2, e.1, e.2.1, _, rfl, .inr ⟨o2, s _ _ hb⟩, ⟨rfl, hk2.tk (.same s), ke⟩, hg, _, _, (by rw [hn]; exact e3.getD), rfl, _, rfl, _, rfl, D, es3, e.1, e.2.1, rfl, eD, N3, ?_, sm_put s hD, ⟨_, upd_same, (k3.put ke).tk (.put eD trivial), ?_⟩, _, rfl⟩
    · rw [e3.len, sizeLine_eq]
      have := Al.addAll_le S (R.take i)
      rw [List.length_take] at this
      omega
    · rw [hn, Al.addAll_take hy]
      exact e3.put
  · rintro σ H2 ⟨s, ⟨es3, eD, k3, e3⟩, c, rfl⟩
    rw [he2.len, List.take_length] at e3
    refine ⟨_, rfl, D, _, rfl, eD, trivial, fun od => ⟨D, Al.addAll S R, rfl, ⟨od, es3, upd_same, k3.tk (.put eD trivial), e3⟩, ?_, Al.ND.addAll nd, fun H' r s' hr' hS => k H' r (fun q u e => s' _ _ (sm_put s hD q u e)) ?_ hS⟩⟩
    · exact Nat.le_trans (Al.addAll_le _ _) sm
    · exact (sm_put s hD).free hr'
theorem ok_negated (F : FunD K "negated" "negated" (defArgs s_negated) (defBody s_negated) (defScope s_negated) [] [] f fd) (hm : mg "negated" = some (.ref f)) (T : Bl mg base) : Cal P w K mg base 1 "negated" (spSh1 P w K Al.negated) [] := by
  refine calD F hm sc_negated (fun _ _ _ _ _ _ us hl => match us, hl with | [_], _ => rfl) (fun vs H Q E h => ?_) (fun cdv A outer s H vs Q E hr h => ?_)
  · obtain ⟨a, S, rfl, _⟩ := h
    rfl
  obtain ⟨a, S, rfl, ⟨o, es, ha, hk, he⟩, sm, nd, k⟩ := h
  refine ⟨_, (pss_one (ps_ret (pe_fz (pe_ndc (own := [("key", 1)]) (g := (gName 1)) (tt := tYes) (units10 hr) rfl sc_negated.nd (pi_nkeys (pv 0)) (blkOk_by (own := [("key", 1)]) (N := n_negated) (sc := defScope s_negated) (by decide +kernel)) (fun _ _ _ _ _ => (pg_name (i := 1) sc_negated.nd rfl (by first | exact Or.inl rfl | exact Or.inr rfl))) (fun _ _ _ _ _ => pts_nil) (fun _ _ _ _ _ => (pv 1)) (fun _ _ _ _ _ => (pe_un un_neg (pe_ngetP P w K (units10 hr) (pv 0) (pv 1) (fun _ _ => rfl)))))))), ?_⟩
  refine ⟨_, rfl, a, o, es, rfl, ha, fun D hD => ?_⟩
  refine ndc_it walk_n (fun i H' => Same H H' ∧ ShM P w K H' D (Al.negated (S.take i))) ⟨Same.new hD, [], upd_same, (fun _ z => by cases z), EsOf.nil⟩ (fun i H' _ h => h.1 _ _ ha) ?_ ?_
  · rintro i x H1 H2 hi ⟨s, es3, eD, k3, e3⟩ ⟨rfl, e, hie, rfl⟩
    obtain ⟨y, hy, hn, hg⟩ := he.mem nd hie
    have ke : NKat K H2 e.1 e.2.1 := (hk.tk (.same s)) e (List.mem_of_getElem? hie)
    refine ⟨rfl, yes_if ⟨_, rfl, _, rfl, _, rfl, a, es, e.1, e.2.1, _, rfl, .inr ⟨o, s _ _ ha⟩, ⟨rfl, hk.tk (.same s), ke⟩, hg, _, rfl, es3, e.1, e.2.1, eD, ⟨rfl, k3, ke⟩, ?_, sm_put s hD, _, upd_same, (k3.put ke).tk (.put eD trivial), ?_⟩⟩
    · rw [e3.len]
      unfold Al.negated
      rw [List.length_map, List.length_take, sizeLine_eq]
      have z : S.length ≤ 8000000 := sm
      omega
    · rw [hn]
      have z := e3.put (k := y.1) (b := e.2.1) (v := -y.2)
      have nd3 : (S.map fun x => ((fun x => (x.1, -x.2)) x : K3 × Int).1).Nodup := nd
      have pt : Al.put (Al.negated (S.take i)) y.1 (-y.2) = Al.negated (S.take i) ++ [(y.1, -y.2)] := Al.put_take (F := fun x => (x.1, -x.2)) nd3 hy fun u hu => by
        obtain ⟨v, hv, rfl⟩ := List.mem_map.mp hu
        exact ⟨v, hv, rfl⟩
      rw [pt] at z
      unfold Al.negated at z ⊢
      rw [List.take_add_one, hy, List.map_append]
      exact z
  · rintro H1 ⟨s, es2, eD, k2, e2⟩
    rw [he.len, List.take_length] at e2
    exact ⟨D, _, rfl, eD, trivial, fun od => k _ D (sm_put s hD) hD ⟨od, es2, upd_same, k2.tk (.put eD trivial), e2⟩⟩
theorem ok_halved (F : FunD K "halved" "halved" (defArgs s_halved) (defBody s_halved) (defScope s_halved) [] [] f fd) (hm : mg "halved" = some (.ref f)) (T : Bl mg base) : Cal P w K mg base 1 "halved" (spSh1 P w K Al.halved) [] := by
  refine calD F hm sc_halved (fun _ _ _ _ _ _ us hl => match us, hl with | [_], _ => rfl) (fun vs H Q E h => ?_) (fun cdv A outer s H vs Q E hr h => ?_)
  · obtain ⟨a, S, rfl, _⟩ := h
    rfl
  obtain ⟨a, S, rfl, ⟨o, es, ha, hk, he⟩, sm, nd, k⟩ := h
  refine ⟨_, (pss_one (ps_ret (pe_fz (pe_ndc (own := [("key", 1)]) (g := (gName 1)) (tt := tYes) (units10 hr) rfl sc_halved.nd (pi_nkeys (pv 0)) (blkOk_by (own := [("key", 1)]) (N := n_halved) (sc := defScope s_halved) (by decide +kernel)) (fun _ _ _ _ _ => (pg_name (i := 1) sc_halved.nd rfl (by first | exact Or.inl rfl | exact Or.inr rfl))) (fun _ _ _ _ _ => pts_nil) (fun _ _ _ _ _ => (pv 1)) (fun _ _ _ _ _ => (pe_op op_fdiv (pe_ngetP P w K (units10 hr) (pv 0) (pv 1) (fun _ _ => rfl)) pe_int)))))), ?_⟩
  refine ⟨_, rfl, a, o, es, rfl, ha, fun D hD => ?_⟩
  refine ndc_it walk_n (fun i H' => Same H H' ∧ ShM P w K H' D (Al.halved (S.take i))) ⟨Same.new hD, [], upd_same, (fun _ z => by cases z), EsOf.nil⟩ (fun i H' _ h => h.1 _ _ ha) ?_ ?_
  · rintro i x H1 H2 hi ⟨s, es3, eD, k3, e3⟩ ⟨rfl, e, hie, rfl⟩
    obtain ⟨y, hy, hn, hg⟩ := he.mem nd hie
    have ke : NKat K H2 e.1 e.2.1 := (hk.tk (.same s)) e (List.mem_of_getElem? hie)
    refine ⟨rfl, yes_if ⟨_, rfl, _, rfl, _, rfl, a, es, e.1, e.2.1, _, rfl, .inr ⟨o, s _ _ ha⟩, ⟨rfl, hk.tk (.same s), ke⟩, hg, _, _, rfl, rfl, ⟨by decide, by decide⟩, es3, e.1, e.2.1, eD, ⟨rfl, k3, ke⟩, ?_, sm_put s hD, _, upd_same, (k3.put ke).tk (.put eD trivial), ?_⟩⟩
    · rw [e3.len]
      unfold Al.halved
      rw [List.length_map, List.length_take, sizeLine_eq]
      have z : S.length ≤ 8000000 := sm
      omega
    · rw [hn]
      have z := e3.put (k := y.1) (b := e.2.1) (v := y.2 / 2)
      have nd3 : (S.map fun x => ((fun x => (x.1, x.2 / 2)) x : K3 × Int).1).Nodup := nd
      have pt : Al.put (Al.halved (S.take i)) y.1 (y.2 / 2) = Al.halved (S.take i) ++ [(y.1, y.2 / 2)] := Al.put_take (F := fun x => (x.1, x.2 / 2)) nd3 hy fun u hu => by
        obtain ⟨v, hv, rfl⟩ := List.mem_map.mp hu
        exact ⟨v, hv, rfl⟩
      rw [pt] at z
      unfold Al.halved at z ⊢
      rw [List.take_add_one, hy, List.map_append]
      exact z
  · rintro H1 ⟨s, es2, eD, k2, e2⟩
    rw [he.len, List.take_length] at e2
    exact ⟨D, _, rfl, eD, trivial, fun od => k _ D (sm_put s hD) hD ⟨od, es2, upd_same, k2.tk (.put eD trivial), e2⟩⟩
theorem ok_flipped (F : FunD K "flipped" "flipped" (defArgs s_flipped) (defBody s_flipped) (defScope s_flipped) [] [] f fd) (hm : mg "flipped" = some (.ref f)) (T : Bl mg base) (hU : ∃ u, mg "UNIT" = some u ∧ RelV (.int 4096) u) (c_without_nothing : Cal P w K mg base 1 "without_nothing" (spSh1 P w K Al.wn) []) (c_taken : Cal P w K mg base 1 "taken" (spPw K Al.su) []) :
    Cal P w K mg base 2 "flipped" (spFlipped P w K) [] := by
  refine calD F hm sc_flipped (fun _ _ _ _ _ _ us hl => match us, hl with | [_, _], _ => rfl) (fun vs H Q E h => ?_) (fun cdv A outer s H vs Q E hr h => ?_)
  · obtain ⟨a, f, S, fl, dom, rfl, _⟩ := h
    rfl
  obtain ⟨a, g, S, fl, dom, rfl, ⟨o, es, ha, hk, he⟩, hF, iS, hd, iF, sz, k⟩ := h
  refine ⟨_, (pss_cons (ps_set (i := 2) sc_flipped.nd rfl (by first | exact Or.inl rfl | exact Or.inr rfl) (pe_nnewP P w))
    (pss_cons (ps_for PassesOwn.never rfl (pi_npairs (pv 0)) (pg_tup rfl (pgs_cons (pg_tup rfl (pgs_cons (pg_name (i := 3) sc_flipped.nd rfl (by first | exact Or.inl rfl | exact Or.inr rfl)) (pgs_cons (pg_name (i := 4) sc_flipped.nd rfl (by first | exact Or.inl rfl | exact Or.inr rfl)) (pgs_cons (pg_name (i := 5) sc_flipped.nd rfl (by first | exact Or.inl rfl | exact Or.inr rfl)) pgs_nil)))) (pgs_cons (pg_name (i := 6) sc_flipped.nd rfl (by first | exact Or.inl rfl | exact Or.inr rfl)) pgs_nil)))
    (pss_one (ps_for PassesOwn.never rfl (pi_npairs (pe_nget (units10 hr) (pv 1) (pe_tup (pa_cons (pv 3) (pa_cons (pv 4) pa_nil))) (fun _ _ => rfl))) (pg_tup rfl (pgs_cons (pg_tup rfl (pgs_cons (pg_name (i := 7) sc_flipped.nd rfl (by first | exact Or.inl rfl | exact Or.inr rfl)) (pgs_cons (pg_name (i := 8) sc_flipped.nd rfl (by first | exact Or.inl rfl | exact Or.inr rfl)) (pgs_cons (pg_name (i := 9) sc_flipped.nd rfl (by first | exact Or.inl rfl | exact Or.inr rfl)) pgs_nil)))) (pgs_cons (pg_name (i := 10) sc_flipped.nd rfl (by first | exact Or.inl rfl | exact Or.inr rfl)) pgs_nil)))
    (pss_cons (ps_set (i := 11) sc_flipped.nd rfl (by first | exact Or.inl rfl | exact Or.inr rfl) (pe_tup (pa_cons (pv 7) (pa_cons (pv 8) (pa_cons (pe_c c_taken hr (by decide) (by rfl) (pa_cons (pv 9) (pa_cons (pv 5) pa_nil))) pa_nil)))))
    (pss_one (ps_nput (units10 hr) (pv 2) (pv 11) (pe_op op_add (pe_nget2 (units10 hr) (pv 2) (pv 11) pe_int ⟨rfl, rfl, rfl, rfl⟩) (pe_op op_fdiv (pe_op op_mulW (pv 6) (pv 10)) (C8.pe_gc (v := .int 4096) (by rfl) hU))) (by rfl)))))))
    (pss_one (ps_ret (pe_c c_without_nothing hr (by decide) (by rfl) (pa_cons (pe_fz (pv 2)) pa_nil)))))), ?_⟩
  refine fun D hD => ?_
  refine ⟨_, rfl, a, o, es, rfl, (Same.new hD) _ _ ha, ?_⟩
  refine for_it walk_p (fun i σ H' => Same H H' ∧ ShM P w K H' D (Al.flipAll fl [] (S.take i)) ∧ ∃ c3 c4 c5 c6 c7 c8 c9 c10 c11, σ = [some (.ref a), some (.ref g), some (.ref D), c3, c4, c5, c6, c7, c8, c9, c10, c11]) ⟨Same.new hD, ⟨[], upd_same, (fun _ z => by cases z), EsOf.nil⟩, _, _, _, _, _, _, _, _, _, rfl⟩ (fun i σ H' _ h => h.1 _ _ ha) ?_ ?_
  · rintro i x σ H2 H3 hi ⟨s, hM, c3, c4, c5, c6, c7, c8, c9, c10, c11, rfl⟩ ⟨T1, e, hie, rfl, hT1, rfl⟩
    obtain ⟨y, hy, hn, hg⟩ := he.mem iS.nd hie
    have hv : e.2.2 = .int y.2 := (he.at_ hie).elim fun x hx => by
      have : x = y := Option.some.inj (hx.1.symm.trans hy)
      rw [hx.2.2, this]
    have s3 : Same H (upd H2 T1 (.tup [.ref e.2.1, e.2.2])) := sm_new s hT1
    have ke := (hk.tk (.same s3)) e (List.mem_of_getElem? hie)
    rw [hn] at ke
    obtain ⟨q, hq1, hq2⟩ := ke.at3
    have ym := List.mem_of_getElem? hy
    rw [hv] at s3 hq1 hq2 ⊢
    have hM3 : ShM P w K (upd H2 T1 (.tup [.ref e.2.1, .int y.2])) D (Al.flipAll fl [] (S.take i)) := by
      obtain ⟨es3, eD, k3, e3⟩ := hM
      exact ⟨es3, by rw [upd_ne (ne_of_none eD hT1)]; exact eD, k3.tk (.new hT1), e3⟩
    refine unp31 (SqT.of upd_same) hq1 ?_
    generalize upd H2 T1 (.tup [.ref e.2.1, .int y.2]) = H3 at s3 hq1 hq2 hM3 ⊢
    -- the inner loop
    refine ⟨_, rfl, _, rfl, _, rfl, (by show 2 ≤ sizeLine; decide), fun T2 hT2 => ?_⟩
    have s4 : Same H (upd H3 T2 (.tup [.str y.1.1, .bl y.1.2.1])) := sm_new s3 hT2
    obtain ⟨fes, frd, fks, fcon⟩ := hF.same s4
    obtain ⟨d, fd1, o2, es2, fd2, fd3, fd4⟩ := fcon y.1.1 y.1.2.1 (hd y ym)
    refine ⟨g, fes, nk2 (y.1.1, y.1.2.1), T2, .ref d, rfl, frd, ⟨rfl, fks, .of2 (SqT.of upd_same)⟩, fd1, d, o2, es2, rfl, fd2, ?_⟩
    have hM4 : ShM P w K (upd H3 T2 (.tup [.str y.1.1, .bl y.1.2.1])) D (Al.flipAll fl [] (S.take i)) := by
      obtain ⟨es3, eD, k3, e3⟩ := hM3
      exact ⟨es3, by rw [upd_ne (ne_of_none eD hT2)]; exact eD, k3.tk (.new hT2), e3⟩
    have q4 : SqT K (upd H3 T2 (.tup [.str y.1.1, .bl y.1.2.1])) q (y.1.2.2.map V.int) := sq_tk hq2 (.new hT2)
    generalize upd H3 T2 (.tup [.str y.1.1, .bl y.1.2.1]) = H4 at s4 hM4 q4 fd2 fd3 ⊢
    have iF2 := iF y.1.1 y.1.2.1 (hd y ym)
    have big := Al.fsz_take (fl := fl) hy
    refine for_it walk_p (fun j σ H' => (Same H H' ∧ Tk H4 H') ∧ ShM P w K H' D (Al.flipOne (Al.flipAll fl [] (S.take i)) ((fl y.1.1 y.1.2.1).take j) y.1.2.2 y.2) ∧ ∃ c7 c8 c9 c10 c11, σ = [some (.ref a), some (.ref g), some (.ref D), some (.str y.1.1), some (.bl y.1.2.1), some (.ref q), some (.int y.2), c7, c8, c9, c10, c11]) ⟨⟨s4, Tk.refl _⟩, hM4, _, _, _, _, _, rfl⟩ (fun j σ H' _ h => h.1.2.frz _ _ _ fd2) ?_ ?_
    · rintro j x σ H5 H6 hj ⟨⟨s5, t⟩, hM5, d7, d8, d9, d10, d11, rfl⟩ ⟨T3, e2, hje, rfl, hT3, rfl⟩
      obtain ⟨z, hz, hzn, hzv⟩ := fd4.at_ hje
      have s6 : Same H (upd H5 T3 (.tup [.ref e2.2.1, e2.2.2])) := sm_new s5 hT3
      have t6 : Tk H4 (upd H5 T3 (.tup [.ref e2.2.1, e2.2.2])) := t.trans (.new hT3)
      have kz := (fd3.tk t6) e2 (List.mem_of_getElem? hje)
      rw [hzn] at kz
      obtain ⟨q2, hr1, hr2⟩ := kz.at3
      have zm := List.mem_of_getElem? hz
      rw [hzv] at s6 t6 hr1 hr2 ⊢
      have hM6 : ShM P w K (upd H5 T3 (.tup [.ref e2.2.1, .int z.2])) D (Al.flipOne (Al.flipAll fl [] (S.take i)) ((fl y.1.1 y.1.2.1).take j) y.1.2.2 y.2) := by
        obtain ⟨es3, eD, k3, e3⟩ := hM5
        exact ⟨es3, by rw [upd_ne (ne_of_none eD hT3)]; exact eD, k3.tk (.new hT3), e3⟩
      refine unp31 (SqT.of upd_same) hr1 ?_
      generalize upd H5 T3 (.tup [.ref e2.2.1, .int z.2]) = H6 at s6 t6 hr1 hr2 hM6 ⊢
      refine ⟨_, rfl, _, rfl, _, rfl, _, rfl, q2, q, _, _, rfl, hr2, sq_tk q4 t6, iF2.pw z zm, fun H7 r s7 hr7 er => ?_⟩
      refine ⟨(by show 3 ≤ sizeLine; decide), fun T4 hT4 => ?_⟩
      have t8 : Same H6 (upd H7 T4 (.tup [.str z.1.1, .bl z.1.2.1, .ref r])) := sm_new s7 hT4
      have hM8 : ShM P w K (upd H7 T4 (.tup [.str z.1.1, .bl z.1.2.1, .ref r])) D (Al.flipOne (Al.flipAll fl [] (S.take i)) ((fl y.1.1 y.1.2.1).take j) y.1.2.2 y.2) := by
        obtain ⟨es3, eD, k3, e3⟩ := hM6
        exact ⟨es3, t8 _ _ eD, k3.tk (.same t8), e3⟩
      have key : At3 K (upd H7 T4 (.tup [.str z.1.1, .bl z.1.2.1, .ref r])) (z.1.1, z.1.2.1, Al.su z.1.2.2 y.1.2.2) T4 := ⟨r, SqT.of upd_same, SqT.of (by rw [upd_ne (ne_of_none er hT4)]; exact er)⟩
      have t9 : Tk H4 (upd H7 T4 (.tup [.str z.1.1, .bl z.1.2.1, .ref r])) := t6.trans (.same t8)
      have s9 : Same H (upd H7 T4 (.tup [.str z.1.1, .bl z.1.2.1, .ref r])) := s6.trans t8
      generalize upd H7 T4 (.tup [.str z.1.1, .bl z.1.2.1, .ref r]) = H8 at t8 t9 s9 hM8 key ⊢
      obtain ⟨es3, eD, k3, e3⟩ := hM8
      have N8 : NKey P w K H8 D (.ref T4) es3 (nk3 (z.1.1, z.1.2.1, Al.su z.1.2.2 y.1.2.2)) T4 := ⟨rfl, k3, .of3 key⟩
      refine ⟨_, rfl, D, es3, rfl, .inl eD, k3, _, rfl, es3, _, T4, .inl eD, N8, _, rfl, _, rfl, _, _, rfl, rfl, wide_mul (iS.sz y ym) (iF2.sz z zm) (by decide) (by decide) (by decide), _, _, rfl, rfl, ⟨by decide, by decide⟩, _, _, e3.getD, rfl, _, rfl, _, rfl, D, es3, _, T4, rfl, eD, N8, ?_, ⟨sm_put s9 hD, t9.trans (.put eD trivial)⟩, ⟨_, upd_same, (k3.put (.of3 key)).tk (.put eD trivial), ?_⟩, _, _, _, _, _, rfl⟩
      · rw [e3.len, sizeLine_eq]
        have l1 := Al.flipOne_le (F := (fl y.1.1 y.1.2.1).take j) (q := y.1.2.2) (c := y.2) (Al.flipAll fl [] (S.take i))
        have l2 := Al.flipAll_le (fl := fl) (S := S.take i) []
        rw [List.length_take] at l1
        rw [List.length_nil] at l2
        omega
      · rw [Al.flipOne_take hz]
        exact e3.put
    · rintro σ H5 ⟨⟨s5, _⟩, hM5, d7, d8, d9, d10, d11, rfl⟩
      rw [fd4.len, List.take_length] at hM5
      refine ⟨s5, ?_, _, _, _, _, _, _, _, _, _, rfl⟩
      rw [Al.flipAll_take hy]
      exact hM5
  · rintro σ H2 ⟨s, ⟨es3, eD, k3, e3⟩, c3, c4, c5, c6, c7, c8, c9, c10, c11, rfl⟩
    rw [he.len, List.take_length] at e3
    refine ⟨_, rfl, D, _, rfl, eD, trivial, fun od => ⟨D, Al.flipAll fl [] S, rfl, ⟨od, es3, upd_same, k3.tk (.put eD trivial), e3⟩, ?_, Al.ND.flipAll .nil, fun H' r s' hr' hS => k H' r (fun q u e => s' _ _ (sm_put s hD q u e)) ?_ hS⟩⟩
    · have l2 := Al.flipAll_le (fl := fl) (S := S) []
      rw [List.length_nil] at l2
      unfold Small
      omega
    · exact (sm_put s hD).free hr'
theorem ok_turned (F : FunD K "turned" "turned" (defArgs s_turned) (defBody s_turned) (defScope s_turned) [] [] f fd) (hm : mg "turned" = some (.ref f)) (T : Bl mg base) (c_added : Cal P w K mg base 1 "added" (spPw K Al.ad) []) : Cal P w K mg base 2 "turned" (spTurned P w K) [] := by
  refine calD F hm sc_turned (fun _ _ _ _ _ _ us hl => match us, hl with | [_, _, _], _ => rfl) (fun vs H Q E h => ?_) (fun cdv A outer s H vs Q E hr h => ?_)
  · obtain ⟨a, p, S, i, pw, rfl, _⟩ := h
    rfl
  obtain ⟨a, p, S, sg, pw, rfl, ⟨o, es, ha, hk, he⟩, iS, sm, hp, hsg, k⟩ := h
  refine ⟨_, (pss_one (ps_ret (pe_fz (pe_ndc (own := [("source", 3), ("is_flipped", 4), ("own", 5), ("share", 6)]) (g := (gTup K 2 (gCons (gTup K 3 (gCons (gName 3) (gCons (gName 4) (gCons (gName 5) gNil)))) (gCons (gName 6) gNil)))) (tt := tYes) (units10 hr) rfl sc_turned.nd (pi_npairs (pv 0)) (blkOk_by (own := [("source", 3), ("is_flipped", 4), ("own", 5), ("share", 6)]) (N := n_turned) (sc := defScope s_turned) (by decide +kernel)) (fun _ _ _ _ _ => (pg_tup rfl (pgs_cons (pg_tup rfl (pgs_cons (pg_name (i := 3) sc_turned.nd rfl (by first | exact Or.inl rfl | exact Or.inr rfl)) (pgs_cons (pg_name (i := 4) sc_turned.nd rfl (by first | exact Or.inl rfl | exact Or.inr rfl)) (pgs_cons (pg_name (i := 5) sc_turned.nd rfl (by first | exact Or.inl rfl | exact Or.inr rfl)) pgs_nil)))) (pgs_cons (pg_name (i := 6) sc_turned.nd rfl (by first | exact Or.inl rfl | exact Or.inr rfl)) pgs_nil)))) (fun _ _ _ _ _ => pts_nil) (fun _ _ _ _ _ => (pe_tup (pa_cons (pv 3) (pa_cons (pv 4) (pa_cons (pe_c c_added hr (by decide) (by rfl) (pa_cons (pv 5) (pa_cons (pv 2) pa_nil))) pa_nil))))) (fun _ _ _ _ _ => (pe_op op_mul (pv 1) (pv 6))))))), ?_⟩
  refine ⟨_, rfl, a, o, es, rfl, ha, fun D hD => ?_⟩
  refine ndc_it walk_p (fun i H' => Same H H' ∧ ShM P w K H' D (Al.turnOn sg pw [] (S.take i))) ⟨Same.new hD, [], upd_same, (fun _ z => by cases z), EsOf.nil⟩ (fun i H' _ h => h.1 _ _ ha) ?_ ?_
  · rintro i x H1 H2 hi ⟨s, hM⟩ ⟨T1, e, hie, rfl, hT1, rfl⟩
    obtain ⟨y, hy, hn, hv⟩ := he.at_ hie
    have s3 : Same H (upd H1 T1 (.tup [.ref e.2.1, e.2.2])) := sm_new s hT1
    have ke := (hk.tk (.same s3)) e (List.mem_of_getElem? hie)
    rw [hn] at ke
    obtain ⟨q, hq1, hq2⟩ := ke.at3
    have ym := List.mem_of_getElem? hy
    rw [hv] at s3 hq1 hq2 ⊢
    have hM3 : ShM P w K (upd H1 T1 (.tup [.ref e.2.1, .int y.2])) D (Al.turnOn sg pw [] (S.take i)) := by
      obtain ⟨es3, eD, k3, e3⟩ := hM
      exact ⟨es3, by rw [upd_ne (ne_of_none eD hT1)]; exact eD, k3.tk (.new hT1), e3⟩
    refine unp31 (SqT.of upd_same) hq1 ?_
    generalize upd H1 T1 (.tup [.ref e.2.1, .int y.2]) = H3 at s3 hq1 hq2 hM3 ⊢
    refine ⟨rfl, yes_if ⟨_, rfl, _, rfl, _, rfl, _, rfl, q, p, _, _, rfl, hq2, sq_tk hp (.same s3), iS.pw y ym, fun H4 r s4 hr4 er => ⟨(by show 3 ≤ sizeLine; decide), fun T4 hT4 => ?_⟩⟩⟩
    have t5 : Same H3 (upd H4 T4 (.tup [.str y.1.1, .bl y.1.2.1, .ref r])) := sm_new s4 hT4
    have key : At3 K (upd H4 T4 (.tup [.str y.1.1, .bl y.1.2.1, .ref r])) (y.1.1, y.1.2.1, Al.ad y.1.2.2 pw) T4 := ⟨r, SqT.of upd_same, SqT.of (by rw [upd_ne (ne_of_none er hT4)]; exact er)⟩
    have hM5 : ShM P w K (upd H4 T4 (.tup [.str y.1.1, .bl y.1.2.1, .ref r])) D (Al.turnOn sg pw [] (S.take i)) := by
      obtain ⟨es3, eD, k3, e3⟩ := hM3
      exact ⟨es3, t5 _ _ eD, k3.tk (.same t5), e3⟩
    have s5 : Same H (upd H4 T4 (.tup [.str y.1.1, .bl y.1.2.1, .ref r])) := s3.trans t5
    generalize upd H4 T4 (.tup [.str y.1.1, .bl y.1.2.1, .ref r]) = H5 at t5 s5 hM5 key ⊢
    obtain ⟨es3, eD, k3, e3⟩ := hM5
    refine ⟨_, rfl, _, rfl, _, _, rfl, rfl, ?_, es3, _, T4, eD, ⟨rfl, k3, .of3 key⟩, ?_, sm_put s5 hD, _, upd_same, (k3.put (.of3 key)).tk (.put eD trivial), ?_⟩
    · rcases hsg with z | z <;> rw [z] <;> exact .inl ⟨by decide, by decide⟩
    · rw [e3.len, sizeLine_eq]
      have l1 := Al.turnOn_le (s := sg) (p := pw) (S := S.take i) []
      have z : S.length ≤ 8000000 := sm
      rw [List.length_take, List.length_nil] at l1
      omega
    · rw [Al.turnOn_take hy]
      exact e3.put
  · rintro H1 ⟨s, es2, eD, k2, e2⟩
    rw [he.len, List.take_length] at e2
    exact ⟨D, _, rfl, eD, trivial, fun od => k _ D (sm_put s hD) hD ⟨od, es2, upd_same, k2.tk (.put eD trivial), e2⟩⟩
end

end K12

namespace K12
open PySem PySem.Spec PyProof.Rows L2 Lm
open C8 (Cal Mak Met pe_c pe_mk pe_mt pe_mt0 pss_cut tCut)
open LamX (CodeO TabS Tabs ExtN TabB)
--KR 9
--NOTOP
abbrev s_Move_init : Stmt := inClass (top 29) 0
abbrev n_Move_init : List Str := ["self", "over", "sign", "powers", "shares"]
abbrev p_Move_init : List Str := ["self", "over", "sign", "powers", "shares"]
theorem sc_Move_init : FnScope n_Move_init p_Move_init (defScope s_Move_init) := ⟨rfl, rfl, rfl, by decide +kernel, rfl, by decide +kernel, by decide +kernel⟩
abbrev s_joined : Stmt := top 39
abbrev n_joined : List Str := ["moves", "many", "flips", "over", "sign", "powers", "total", "move", "shares", "led", "key"]
abbrev p_joined : List Str := ["moves", "many", "flips"]
theorem sc_joined : FnScope n_joined p_joined (defScope s_joined) := ⟨rfl, rfl, rfl, by decide +kernel, rfl, by decide +kernel, by decide +kernel⟩
abbrev s_kind_of : Stmt := top 40
abbrev n_kind_of : List Str := ["move", "flips", "twice", "power"]
abbrev p_kind_of : List Str := ["move", "flips"]
theorem sc_kind_of : FnScope n_kind_of p_kind_of (defScope s_kind_of) := ⟨rfl, rfl, rfl, by decide +kernel, rfl, by decide +kernel, by decide +kernel⟩
section
variable {P : Program} {w : World} {K : PySem.W.Frag} {mg : Str → Option Value} {base : Heap} {f : Addr} {fd : FuncData}
theorem ok_Move_init (F : FunD K "__init__" "Move.__init__" (defArgs s_Move_init) (defBody s_Move_init) (defScope s_Move_init) [] [] f fd) (MC : ObC K mg "Move" ["over", "sign", "powers", "shares"]) : FnOk P w K mg base CX0 1 f fd ["self", "over", "sign", "powers", "shares"] (spMvI K) := by
  refine F.ok sc_Move_init (fun vs H Q E h => ?_) (fun cdv A outer s H vs Q E hr h => ⟨_, (pss_cons (ps_fld (pv 0) (pv 1) rfl)
    (pss_cons (ps_fld (pv 0) (pv 2) rfl)
    (pss_cons (ps_fld (pv 0) (pv 3) rfl)
    (pss_one (ps_fld (pv 0) (pv 4) rfl))))), ?_⟩)
  · obtain ⟨x, dx, p, q, o, s, rfl, _⟩ := h
    rfl
  obtain ⟨x, dx, p, q, o, sg, rfl, hx, k⟩ := h
  refine ⟨_, rfl, _, rfl, x, _, dx, _, rfl, hx, MC.cl, MC.na _ (by decide), (show 0 < 1000 by decide), ?_⟩
  refine ⟨_, rfl, _, rfl, x, _, dx, _, rfl, upd_same, MC.cl, MC.na _ (by decide), (show 1 < 1000 by decide), ?_⟩
  refine ⟨_, rfl, _, rfl, x, _, dx, _, rfl, upd_same, MC.cl, MC.na _ (by decide), (show 2 < 1000 by decide), ?_⟩
  refine ⟨_, rfl, _, rfl, x, _, dx, _, rfl, upd_same, MC.cl, MC.na _ (by decide), (show 3 < 1000 by decide), ?_⟩
  rw [upd_upd, upd_upd, upd_upd]
  exact k
theorem ok_joined (F : FunD K "joined" "joined" (defArgs s_joined) (defBody s_joined) (defScope s_joined) [] [] f fd) (hm : mg "joined" = some (.ref f)) (T : Bl mg base) (Tr : mg "reversed" = none) (MC : ObC K mg "Move" ["over", "sign", "powers", "shares"]) (c_Move : Mak P w K mg base 1 "Move" (He.ga K "Move") (spMvI K) [])
    (c_without_nothing : Cal P w K mg base 1 "without_nothing" (spSh1 P w K Al.wn) []) (c_added : Cal P w K mg base 1 "added" (spPw K Al.ad) []) (c_taken : Cal P w K mg base 1 "taken" (spPw K Al.su) []) (c_flipped : Cal P w K mg base 2 "flipped" (spFlipped P w K) []) (c_turned : Cal P w K mg base 2 "turned" (spTurned P w K) []) :
    Cal P w K mg base 3 "joined" (spJoined P w K) [] := by
  refine calD F hm sc_joined (fun _ _ _ _ _ _ us hl => match us, hl with | [_, _, _], _ => rfl) (fun vs H Q E h => ?_) (fun cdv A outer s H vs Q E hr h => ?_)
  · obtain ⟨l, g, n, as, ms, fl, dom, B, rfl, _⟩ := h
    rfl
  obtain ⟨l, g, n, as, ms, fl, dom, B, rfl, hl, hlen, h6, hat, hF, iF, hM, hB, hn, k⟩ := h
  refine ⟨_, (pss_cons (ps_par3 (i := 3) (j := 4) (l := 5) (by rfl) sc_joined.nd rfl rfl rfl (by decide) (by decide) (by decide) rfl rfl rfl (pa_cons pe_bl (pa_cons pe_int (pa_cons (pe_op op_repA (pe_tup (pa_cons pe_int pa_nil)) (pv 1)) pa_nil))) (by rfl))
    (pss_cons (ps_set (i := 6) sc_joined.nd rfl (by first | exact Or.inl rfl | exact Or.inr rfl) (pe_nnewP P w))
    (pss_cons (ps_for PassesOwn.never rfl (pi_reversed (by rfl) Tr (pa_cons (pe_callTy call_list_of (by rfl) T.list (by decide +kernel) (pa_cons (pv 0) pa_nil)) (pa_nil))) (pg_name (i := 7) sc_joined.nd rfl (by first | exact Or.inl rfl | exact Or.inr rfl))
    (pss_cut (ps_set (i := 8) sc_joined.nd rfl (by first | exact Or.inl rfl | exact Or.inr rfl) (pe_ifExp (pt_val (pv 3)) (pe_c c_flipped hr (by decide) (by rfl) (pa_cons (pe_fld (pv 7) rfl) (pa_cons (pv 2) pa_nil))) (pe_fld (pv 7) rfl)))
    (pss_cons (ps_set (i := 9) sc_joined.nd rfl (by first | exact Or.inl rfl | exact Or.inr rfl) (pe_c c_turned hr (by decide) (by rfl) (pa_cons (pv 8) (pa_cons (pv 4) (pa_cons (pv 5) pa_nil)))))
    (pss_cons (ps_for PassesOwn.never rfl (pi_nkeys (pv 9)) (pg_name (i := 10) sc_joined.nd rfl (by first | exact Or.inl rfl | exact Or.inr rfl))
    (pss_one (ps_nput (units10 hr) (pv 6) (pv 10) (pe_op op_add (pe_nget2 (units10 hr) (pv 6) (pv 10) pe_int ⟨rfl, rfl, rfl, rfl⟩) (pe_ngetP P w K (units10 hr) (pv 9) (pv 10) (fun _ _ => rfl))) (by rfl))))
    (pss_cut (ps_set (i := 5) sc_joined.nd rfl (by first | exact Or.inl rfl | exact Or.inr rfl) (pe_ifExp (pt_val (pv 3)) (pe_c c_taken hr (by decide) (by rfl) (pa_cons (pv 5) (pa_cons (pe_fld (pv 7) rfl) pa_nil))) (pe_c c_added hr (by decide) (by rfl) (pa_cons (pv 5) (pa_cons (pe_fld (pv 7) rfl) pa_nil)))))
    (pss_cons (ps_set (i := 4) sc_joined.nd rfl (by first | exact Or.inl rfl | exact Or.inr rfl) (pe_op op_mul (pv 4) (pe_fld (pv 7) rfl)))
    (pss_one (ps_set (i := 3) sc_joined.nd rfl (by first | exact Or.inl rfl | exact Or.inr rfl) (pe_cmpR op_ne (pv 3) (pe_fld (pv 7) rfl) (nomark _))))))))))
    (pss_one (ps_ret (pe_mk c_Move hr (by decide) (by rfl) (pa_cons (pv 3) (pa_cons (pv 4) (pa_cons (pv 5) (pa_cons (pe_c c_without_nothing hr (by decide) (by rfl) (pa_cons (pe_fz (pv 6)) pa_nil)) pa_nil)))))))))), ?_⟩
  have jok := Al.jT_ok (fl := fl) (n := n) (B := B) (ms := ms) hn fun m hm => ⟨(hM m hm).l, (hM m hm).z, (hM m hm).sg⟩
  refine ⟨(by show 1 ≤ sizeLine; decide), fun p0 hp0 => ⟨_, rfl, rep_zero (SqT.of upd_same) hn fun p H1 s1 hp => ⟨_, _, _, rfl, ?_⟩⟩⟩
  have s1 : Same H H1 := (Same.new hp0).trans s1
  refine fun D hD => ?_
  have s2 : Same H (upd H1 D (dnO P w D [])) := sm_new s1 hD
  have hp2 : SqT K (upd H1 D (dnO P w D [])) p ((List.replicate n (0 : Int)).map V.int) := sq_tk hp (.new hD)
  have D2 : ShM P w K (upd H1 D (dnO P w D [])) D [] := ⟨[], upd_same, (fun _ z => by cases z), EsOf.nil⟩
  have hD0 : H D = none := s1.free hD
  generalize upd H1 D (dnO P w D []) = H2 at s2 hp2 D2 ⊢
  refine ⟨_, rfl, l, _, rfl, .inl (Same.seq s2 hl), fun l2 hl2 => ⟨l2, as.map V.ref, rfl, SqL.of upd_same, ?_⟩⟩
  have lD : l2 ≠ D := by
    obtain ⟨_, eD, _⟩ := D2
    exact (ne_of_none eD hl2).symm
  refine for_it walk_rev (fun i σ H' => Same H H' ∧ H' l2 = some (.lst (as.map V.ref)) ∧ ShM P w K H' D (Al.jT fl n ms i).tot ∧ ∃ p c7 c8 c9 c10, SqT K H' p ((Al.jT fl n ms i).pw.map V.int) ∧ σ = [some (.ref l), some (.int (n : Int)), some (.ref g), some (.bl (Al.jT fl n ms i).over), some (.int (Al.jT fl n ms i).sign), some (.ref p), some (.ref D), c7, c8, c9, c10])
    ⟨sm_new s2 hl2, upd_same, ?_, p, _, _, _, _, sq_tk hp2 (.new hl2), rfl⟩ (fun i σ H' _ h => SqL.of h.2.1) ?_ ?_
  · obtain ⟨es, eD, k2, e2⟩ := D2
    exact ⟨es, by rw [upd_ne lD.symm]; exact eD, k2.tk (.new hl2), e2⟩
  · rintro i x σ H3 H4 hi ⟨s3, el, hM3, p, c7, c8, c9, c10, hp3, rfl⟩ ⟨rfl, hx⟩
    rw [List.length_map] at hi hx
    obtain ⟨a, ha, rfl⟩ := map_at hx
    have hj : as.length - 1 - i < ms.length := by omega
    obtain ⟨m, hm⟩ : ∃ m, ms[as.length - 1 - i]? = some m := ⟨_, List.getElem?_eq_getElem hj⟩
    have hrev : ms.reverse[i]? = some m := by
      rw [List.getElem?_reverse (by omega), ← hm, hlen]
    have mm := List.mem_of_getElem? hm
    have mi := hM m mm
    obtain ⟨j1, j2, j3, j4⟩ := jok i
    have ji := Al.jT_take (fl := fl) (n := n) hrev
    have jn := jok (i + 1)
    generalize Al.jT fl n ms i = t at hM3 hp3 j1 j2 j3 j4 ji ⊢
    generalize Al.jT fl n ms (i + 1) = t' at ji jn ⊢
    subst ji
    obtain ⟨dx, mp, mq, hm1, hm2, hm3⟩ := (hat _ a m ha hm).same s3
    have hS : (if t.over = true then Al.flipped fl m.sh else m.sh).length ≤ B := by
      split
      · exact Nat.le_trans (Al.flipped_le _ _) mi.z
      · exact mi.l
    have hI : InS (if t.over = true then Al.flipped fl m.sh else m.sh) := by
      split
      · exact mi.f
      · exact mi.s
    have step : Al.jStep fl t m = ⟨t.over != m.over, t.sign * m.sign, if t.over = true then Al.su t.pw m.pw else Al.ad t.pw m.pw, Al.addAll t.tot (Al.turned (if t.over = true then Al.flipped fl m.sh else m.sh) t.sign t.pw)⟩ := rfl
    rw [step] at jn ⊢
    clear step
    refine ⟨fun σ H' => Same H4 H' ∧ ∃ q c9 c10, ShF P w K H' q (if t.over = true then Al.flipped fl m.sh else m.sh) ∧ σ = [some (.ref l), some (.int (n : Int)), some (.ref g), some (.bl t.over), some (.int t.sign), some (.ref p), some (.ref D), some (.ref a), some (.ref q), c9, c10], ?_, ?_⟩
    · refine ⟨_, rfl, _, rfl, ?_⟩
      cases ho : t.over with
      | true =>
        refine iteT ⟨_, rfl, a, _, dx, _, _, rfl, hm1, MC.cl, MC.na _ (by decide), rfl, _, rfl, mq, g, m.sh, fl, dom, rfl, hm3, hF.same s3, mi.s, mi.d, iF, (by have := mi.z; omega), fun H5 r s5 hr5 hS5 => ⟨s5, r, _, _, ?_, rfl⟩⟩
        rw [if_pos rfl]
        exact hS5
      | false =>
        refine iteF ⟨_, rfl, a, _, dx, _, _, rfl, hm1, MC.cl, MC.na _ (by decide), rfl, Same.refl _, mq, _, _, ?_, rfl⟩
        rw [if_neg (by decide)]
        exact hm3
    rintro σ H5 ⟨s5, q, c9, c10, hX, rfl⟩
    generalize (if t.over = true then Al.flipped fl m.sh else m.sh) = X at hS hI jn hX ⊢
    refine ⟨_, rfl, _, rfl, _, rfl, q, p, X, t.sign, t.pw, rfl, hX, hI, (by unfold Small; omega), sq_tk hp3 (.same s5), j1, fun H6 r s6 hr6 hS6 => ?_⟩
    have s46 : Same H4 H6 := s5.trans s6
    obtain ⟨o6, es6, e6, k6, c6⟩ := hS6
    refine ⟨_, rfl, r, o6, es6, rfl, e6, ?_⟩
    have hM6 := hM3.keep s46
    obtain ⟨u6, uD, uM⟩ := hM6.mut
    refine for_it walk_n (fun i σ H' => KeptBut D H6 H' ∧ ShM P w K H' D (Al.addAll t.tot ((Al.turned X t.sign t.pw).take i)) ∧ ∃ c10, σ = [some (.ref l), some (.int (n : Int)), some (.ref g), some (.bl t.over), some (.int t.sign), some (.ref p), some (.ref D), some (.ref a), some (.ref q), some (.ref r), c10]) ⟨KeptBut.refl, hM6, _, rfl⟩ (fun i σ H' _ h => (h.1.tk uD uM).frz _ _ _ e6) ?_ ?_
    · rintro i2 x σ H7 H8 hi2 ⟨kb, ⟨es3, eD, k3, e3⟩, c, rfl⟩ ⟨rfl, e, hie, rfl⟩
      obtain ⟨y, hy, hn', hg⟩ := c6.mem (Al.ND.turned _ _ _) hie
      have tk := kb.tk uD uM
      have ke : NKat K H8 e.1 e.2.1 := (k6.tk tk) e (List.mem_of_getElem? hie)
      have N3 : NKey P w K H8 D (.ref e.2.1) es3 e.1 e.2.1 := ⟨rfl, k3, ke⟩
      refine ⟨_, rfl, D, es3, rfl, .inl eD, k3, _, rfl, es3, e.1, e.2.1, .inl eD, N3, _, rfl, _, rfl, r, es6, e.1, e.2.1, _, rfl, .inr ⟨o6, tk.frz _ _ _ e6⟩, ⟨rfl, k6.tk tk, ke⟩, hg, _, _, (by rw [hn']; exact e3.getD), rfl, _, rfl, _, rfl, D, es3, e.1, e.2.1, rfl, eD, N3, ?_, kb.put, ⟨_, upd_same, (k3.put ke).tk (.put eD trivial), ?_⟩, _, rfl⟩
      · rw [e3.len, sizeLine_eq]
        have l1 := Al.addAll_le t.tot ((Al.turned X t.sign t.pw).take i2)
        have l2 := Al.turned_le X t.sign t.pw
        rw [List.length_take] at l1
        have : i * B ≤ 6 * B := Nat.mul_le_mul_right _ (by omega)
        omega
      · rw [hn', Al.addAll_take hy]
        exact e3.put
    rintro σ H7 ⟨kb, hM7, c, rfl⟩
    rw [c6.len, List.take_length] at hM7
    have tk := kb.tk uD uM
    have m7 : H7 a = some (.ins (He.ga K "Move") dx (mvF m.over m.sign mp mq)) := kb a _ (s46 _ _ hm1) (ne_of (s46 _ _ hm1) uD (fun z => by rw [← z] at uM; obtain ⟨_, y, _⟩ := hM6; rw [uD] at y; cases z.trans (Option.some.inj y)))
    have p7 : SqT K H7 p (t.pw.map V.int) := sq_tk hp3 ((Tk.same s46).trans tk)
    have mp7 : SqT K H7 mp (m.pw.map V.int) := sq_tk hm2 ((Tk.same s46).trans tk)
    refine ⟨fun σ H' => Same H7 H' ∧ ∃ p', SqT K H' p' ((if t.over = true then Al.su t.pw m.pw else Al.ad t.pw m.pw).map V.int) ∧ σ = [some (.ref l), some (.int (n : Int)), some (.ref g), some (.bl t.over), some (.int t.sign), some (.ref p'), some (.ref D), some (.ref a), some (.ref q), some (.ref r), c], ?_, ?_⟩
    · refine ⟨_, rfl, _, rfl, ?_⟩
      cases ho : t.over with
      | true =>
        refine iteT ⟨_, rfl, _, rfl, a, _, dx, _, _, rfl, m7, MC.cl, MC.na _ (by decide), rfl, p, mp, _, _, rfl, p7, mp7, j2, fun H8 r8 s8 hr8 e8 => ⟨s8, r8, ?_, rfl⟩⟩
        rw [if_pos rfl]
        exact SqT.of e8
      | false =>
        refine iteF ⟨_, rfl, _, rfl, a, _, dx, _, _, rfl, m7, MC.cl, MC.na _ (by decide), rfl, p, mp, _, _, rfl, p7, mp7, j2, fun H8 r8 s8 hr8 e8 => ⟨s8, r8, ?_, rfl⟩⟩
        rw [if_neg (by decide)]
        exact SqT.of e8
    rintro σ H8 ⟨s8, p', hp8, rfl⟩
    refine ⟨_, rfl, _, rfl, a, _, dx, _, _, rfl, s8 _ _ m7, MC.cl, MC.na _ (by decide), rfl, _, _, rfl, rfl, ?_, ?_⟩
    · rcases j1 with z | z <;> rw [z] <;> exact .inl ⟨by decide, by decide⟩
    refine ⟨_, rfl, _, rfl, a, _, dx, _, _, rfl, s8 _ _ m7, MC.cl, MC.na _ (by decide), rfl, rfl, ?_⟩
    refine ⟨(kb.sm (s3.trans s46) hD0).trans s8, s8 _ _ (kb _ _ (s46 _ _ el) lD), hM7.keep s8, p', some (.ref a), some (.ref q), some (.ref r), c, hp8, ?_⟩
    rw [bl_ne]
    rfl
  · rintro σ H3 ⟨s3, el, ⟨es3, eD, k3, e3⟩, p, c7, c8, c9, c10, hp3, rfl⟩
    rw [List.length_map, hlen] at hp3 e3 ⊢
    obtain ⟨j1, j2, j3, j4⟩ := jok ms.length
    rw [Al.jT_all] at hp3 e3 j1 j2 j3 j4 ⊢
    refine ⟨_, rfl, _, rfl, _, rfl, _, rfl, D, _, rfl, eD, trivial, fun od => ⟨D, (Al.jAll fl n ms).tot, rfl, ⟨od, es3, upd_same, k3.tk (.put eD trivial), e3⟩, ?_, j3, fun H4 r s4 hr4 hS4 => ?_⟩⟩
    · have : ms.length * B ≤ 6 * B := Nat.mul_le_mul_right _ h6
      unfold Small
      omega
    have s34 : Same H H4 := fun b u e => s4 _ _ (sm_put s3 hD0 b u e)
    have p4 : SqT K H4 p ((Al.jAll fl n ms).pw.map V.int) := sq_tk hp3 ((Tk.put eD trivial).trans (.same s4))
    intro x dx hx hdx ne
    refine ⟨x, dx, p, r, _, _, rfl, upd_same, rfl, ?_⟩
    rw [upd_upd]
    have sx : Same H4 (upd (upd H4 dx (.own x)) x (.ins (He.ga K "Move") dx (mvF (Al.jAll fl n ms).over (Al.jAll fl n ms).sign p r))) := sm_put (Same.new hdx) hx
    exact k _ x (s34.trans sx) (s34.free hx) ⟨dx, p, r, upd_same, sq_tk p4 (.same sx), hS4.tk (.same sx)⟩
theorem ok_kind_of (F : FunD K "kind_of" "kind_of" (defArgs s_kind_of) (defBody s_kind_of) (defScope s_kind_of) [] [] f fd) (hm : mg "kind_of" = some (.ref f)) (T : Bl mg base) (Ta : mg "any" = none) (MC : ObC K mg "Move" ["over", "sign", "powers", "shares"]) (c_joined : Cal P w K mg base 3 "joined" (spJoined P w K) []) : Cal P w K mg base 4 "kind_of" (spKind P w K) [] := by
  refine calD F hm sc_kind_of (fun _ _ _ _ _ _ us hl => match us, hl with | [_, _], _ => rfl) (fun vs H Q E h => ?_) (fun cdv A outer s H vs Q E hr h => ?_)
  · obtain ⟨a, g, m, fl, dom, B, rfl, _⟩ := h
    rfl
  obtain ⟨a, g, m, fl, dom, B, rfl, hM, hF, iF, mi, hB, k⟩ := h
  refine ⟨_, (pss_cons (ps_if (pt_val (pe_fld (pv 0) rfl)) (pss_cons (ps_set (i := 2) sc_kind_of.nd rfl (by first | exact Or.inl rfl | exact Or.inr rfl) (pe_c c_joined hr (by decide) (by rfl) (pa_cons (pe_lst (pa_cons (pv 0) (pa_cons (pv 0) pa_nil))) (pa_cons (pe_callB call_len_seq (by rfl) T.len (by decide +kernel) (pa_cons (pe_fld (pv 0) rfl) pa_nil)) (pa_cons (pv 1) pa_nil)))))
    (pss_one (ps_ret (pe_ifExp (pt_ntruth (pe_fld (pv 2) rfl) (fun _ => rfl)) pe_str pe_str)))) pss_nil)
    (pss_cons (ps_if (pt_val (pe_callB (cr_any rfl) (by rfl) Ta (by decide +kernel) (pa_cons (pe_lc (own := [("power", 3)]) (g := (gName 3)) (tt := tYes) rfl sc_kind_of.nd (pi_tup (pe_fld (pv 0) rfl)) (blkOk_by (own := [("power", 3)]) (N := n_kind_of) (sc := defScope s_kind_of) (by decide +kernel)) (fun _ _ _ _ _ => (pg_name (i := 3) sc_kind_of.nd rfl (by first | exact Or.inl rfl | exact Or.inr rfl))) (fun _ _ _ _ _ => pts_nil) (fun _ _ _ _ _ => (pe_cmpR op_ne (pv 3) pe_int (nomark _)))) pa_nil))) (pss_one (ps_ret pe_str)) pss_nil)
    (pss_cons (ps_if (pt_cmpR op_eq (pe_fld (pv 0) rfl) (pe_un un_neg pe_int) (nomark _)) (pss_one (ps_ret pe_str)) pss_nil)
    (pss_one (ps_ret (pe_ifExp (pt_ntruth (pe_fld (pv 0) rfl) (fun _ => rfl)) pe_str pe_str)))))), ?_⟩
  obtain ⟨dx, mp, mq, m1, m2, m3⟩ := id hM
  refine ⟨_, rfl, a, _, dx, _, _, rfl, m1, MC.cl, MC.na _ (by decide), rfl, _, rfl, ?_⟩
  cases ho : m.over with
  | true =>
    have e : kindS fl m = if (Al.joined fl m.pw.length [m, m]).sh.isEmpty = true then ("mirroring" : Str) else ("glide" : Str) := by
      unfold kindS
      rw [ho, if_pos rfl]
    refine iteT ⟨_, rfl, _, rfl, (by show 2 ≤ sizeLine; decide), fun L hL => ⟨_, rfl, a, _, dx, _, _, rfl, (by rw [upd_ne (ne_of_none m1 hL)]; exact m1), MC.cl, MC.na _ (by decide), rfl, mp, _, rfl, .inr (sq_tk m2 (.new hL)), _, rfl, ?_⟩⟩
    refine ⟨L, g, (m.pw.map V.int).length, [a, a], [m, m], fl, dom, B, rfl, SqL.of upd_same, rfl, (by show 2 ≤ 6; decide), fun i b m' hb hm' => ?_, hF.same (Same.new hL), iF, fun m' hm' => ?_, hB, ?_, fun H1 r s1 hr1 hM1 => ?_⟩
    · have e1 : b = a := by
        have z := List.mem_of_getElem? hb
        simpa using z
      have e2 : m' = m := by
        have z := List.mem_of_getElem? hm'
        simpa using z
      rw [e1, e2]
      exact hM.same (Same.new hL)
    · have e2 : m' = m := by simpa using hm'
      rw [e2]
      exact mi
    · rw [List.length_map]
      exact mi.pw
    rw [List.length_map] at hM1
    obtain ⟨dx2, p2, q2, h1, h2, o2, es2, h3, h4, h5⟩ := hM1
    refine ⟨_, rfl, r, _, dx2, _, _, rfl, h1, MC.cl, MC.na _ (by decide), rfl, q2, es2, rfl, .inr ⟨o2, h3⟩, h4, ?_⟩
    have k2 := k H1 (fun b u eb => s1 _ _ (by rw [upd_ne (ne_of_none eb hL)]; exact eb))
    rw [e] at k2
    have em : es2.isEmpty = (Al.joined fl m.pw.length [m, m]).sh.isEmpty := by
      have := h5.len
      cases es2 with
      | nil => cases hh : (Al.joined fl m.pw.length [m, m]).sh with
        | nil => rfl
        | cons _ _ => rw [hh] at this; cases this
      | cons _ _ => cases hh : (Al.joined fl m.pw.length [m, m]).sh with
        | nil => rw [hh] at this; cases this
        | cons _ _ => rfl
    rw [em]
    cases hh : (Al.joined fl m.pw.length [m, m]).sh.isEmpty with
    | true =>
      rw [hh, if_pos rfl] at k2
      exact iteF k2
    | false =>
      rw [hh, if_neg (by decide)] at k2
      exact iteT k2
  | false =>
    have e : kindS fl m = if (m.pw.any fun p => p != 0) = true then ("turn" : Str) else if m.sign = -1 then ("half turn" : Str) else if m.sh.isEmpty = true then ("nothing" : Str) else ("shift" : Str) := by
      unfold kindS
      rw [ho, if_neg (by decide)]
    refine iteF ⟨_, rfl, a, _, dx, _, _, rfl, m1, MC.cl, MC.na _ (by decide), rfl, mp, rfl, ⟨_, m2⟩, fun D hD => ?_⟩
    refine lc_it walk_tup (fun i H' => Same H H' ∧ H' D = some (.lst ((m.pw.take i).map fun p => V.bl (p != 0)))) ⟨Same.new hD, upd_same⟩ (fun i H' _ h => sq_tk m2 (.same h.1)) ?_ ?_
    · rintro i x H1 H2 hi ⟨s1, e1⟩ ⟨rfl, hu⟩
      obtain ⟨p, hp, rfl⟩ := map_at hu
      have lt : i < 12 := by
        rw [List.length_map] at hi
        have := mi.pw
        omega
      refine ⟨rfl, yes_if ⟨_, rfl, rfl, _, e1, few_take _ (Nat.le_of_lt lt) (by decide), sm_put s1 hD, ?_⟩⟩
      have z : (!decide (V.int p = V.int 0)) = (p != 0) := by rw [dec_int]; rfl
      rw [upd_same, take_map (fun p => V.bl (p != 0)) hp, z]
    · rintro H1 ⟨s1, e1⟩
      rw [List.length_map, List.take_length] at e1
      refine ⟨D, m.pw.map fun p => p != 0, rfl, SqL.of (by rw [e1, List.map_map]; rfl), _, rfl, ?_⟩
      have k2 := k H1 s1
      rw [e] at k2
      have an : (m.pw.map fun p => p != 0).any id = m.pw.any fun p => p != 0 := by
        rw [List.any_map]
        rfl
      rw [an]
      have m1' := s1 _ _ m1
      refine ite2 (fun c => ?_) (fun c => ?_)
      · rw [if_pos c] at k2
        exact k2
      · rw [if_neg c] at k2
        refine ⟨_, rfl, a, _, dx, _, _, rfl, m1', MC.cl, MC.na _ (by decide), rfl, _, rfl, rfl, _, rfl, ite2 (fun c2 => ?_) (fun c2 => ?_)⟩
        · rw [if_pos (by simpa using c2)] at k2
          exact k2
        · rw [if_neg (by simpa using c2)] at k2
          obtain ⟨o2, es2, h3, h4, h5⟩ := m3.tk (.same s1)
          refine ⟨_, rfl, a, _, dx, _, _, rfl, m1', MC.cl, MC.na _ (by decide), rfl, mq, es2, rfl, .inr ⟨o2, h3⟩, h4, ?_⟩
          have em : es2.isEmpty = m.sh.isEmpty := by
            have := h5.len
            cases es2 with
            | nil => cases hh : m.sh with
              | nil => rfl
              | cons _ _ => rw [hh] at this; cases this
            | cons _ _ => cases hh : m.sh with
              | nil => rw [hh] at this; cases this
              | cons _ _ => rfl
          rw [em]
          cases hh : m.sh.isEmpty with
          | true =>
            rw [hh, if_pos rfl] at k2
            exact iteF k2
          | false =>
            rw [hh, if_neg (by decide)] at k2
            exact iteT k2
end

end K12

namespace K12
open PySem PySem.Spec PyProof.Rows L2 Lm
open C8 (Cal Mak Met pe_c pe_mk pe_mt pe_mt0 pss_cut tCut)
open LamX (CodeO TabS Tabs ExtN TabB)
--KR 9
--NOTOP
abbrev s_Plan_init : Stmt := inClass (top 43) 0
abbrev n_Plan_init : List Str := ["self", "loose"]
abbrev p_Plan_init : List Str := ["self", "loose"]
theorem sc_Plan_init : FnScope n_Plan_init p_Plan_init (defScope s_Plan_init) := ⟨rfl, rfl, rfl, by decide +kernel, rfl, by decide +kernel, by decide +kernel⟩
abbrev s_no_powers : Stmt := top 47
abbrev n_no_powers : List Str := ["plan"]
abbrev p_no_powers : List Str := ["plan"]
theorem sc_no_powers : FnScope n_no_powers p_no_powers (defScope s_no_powers) := ⟨rfl, rfl, rfl, by decide +kernel, rfl, by decide +kernel, by decide +kernel⟩
abbrev s_spin_of : Stmt := top 46
abbrev n_spin_of : List Str := ["plan", "name", "loose"]
abbrev p_spin_of : List Str := ["plan", "name"]
theorem sc_spin_of : FnScope n_spin_of p_spin_of (defScope s_spin_of) := ⟨rfl, rfl, rfl, by decide +kernel, rfl, by decide +kernel, by decide +kernel⟩
abbrev s_move_by : Stmt := top 45
abbrev n_move_by : List Str := ["plan", "steps", "name"]
abbrev p_move_by : List Str := ["plan", "steps"]
theorem sc_move_by : FnScope n_move_by p_move_by (defScope s_move_by) := ⟨rfl, rfl, rfl, by decide +kernel, rfl, by decide +kernel, by decide +kernel⟩
abbrev s_mirror_through : Stmt := top 50
abbrev n_mirror_through : List Str := ["plan", "sign", "powers", "peg", "twice", "led"]
abbrev p_mirror_through : List Str := ["plan", "sign", "powers", "peg"]
theorem sc_mirror_through : FnScope n_mirror_through p_mirror_through (defScope s_mirror_through) := ⟨rfl, rfl, rfl, by decide +kernel, rfl, by decide +kernel, by decide +kernel⟩
section
variable {P : Program} {w : World} {K : PySem.W.Frag} {mg : Str → Option Value} {base : Heap} {f : Addr} {fd : FuncData}
theorem ok_Plan_init (F : FunD K "__init__" "Plan.__init__" (defArgs s_Plan_init) (defBody s_Plan_init) (defScope s_Plan_init) [] [] f fd) (PC : ObC K mg "Plan" ["loose", "moves", "flips"]) : FnOk P w K mg base CX0 1 f fd ["self", "loose"] (spPlI P w K) := by
  refine F.ok sc_Plan_init (fun vs H Q E h => ?_) (fun cdv A outer s H vs Q E hr h => ⟨_, (pss_cons (ps_fld (pv 0) (pv 1) rfl)
    (pss_cons (ps_fld (pv 0) pe_dnewK rfl)
    (pss_one (ps_fld (pv 0) (pe_nnewP P w) rfl)))), ?_⟩)
  · obtain ⟨x, dx, p, rfl, _⟩ := h
    rfl
  obtain ⟨x, dx, p, rfl, hx, k⟩ := h
  refine ⟨_, rfl, _, rfl, x, _, dx, _, rfl, hx, PC.cl, PC.na _ (by decide), (show 0 < 1000 by decide), fun md hmd => ?_⟩
  have hmd' : H md = none := by
    by_cases e : md = x
    · rw [e, upd_same] at hmd
      cases hmd
    · rw [upd_ne e] at hmd
      exact hmd
  have mx : md ≠ x := fun z => by rw [z, hx] at hmd'; cases hmd'
  have h1 : upd (upd H x (.ins (He.ga K "Plan") dx [("loose", .ref p)])) md (.dK []) x = some (.ins (He.ga K "Plan") dx [("loose", .ref p)]) := by
    rw [upd_ne mx.symm]
    exact upd_same
  refine ⟨_, rfl, x, _, dx, _, rfl, h1, PC.cl, PC.na _ (by decide), (show 1 < 1000 by decide), fun fd hfd => ?_⟩
  have fx : fd ≠ x := fun z => by rw [z, upd_same] at hfd; cases hfd
  rw [upd_ne fx] at hfd
  have fm : fd ≠ md := fun z => by rw [z, upd_same] at hfd; cases hfd
  rw [upd_ne fm, upd_ne fx] at hfd
  have h2 : upd (upd (upd (upd H x (.ins (He.ga K "Plan") dx [("loose", .ref p)])) md (.dK [])) x (.ins (He.ga K "Plan") dx [("loose", .ref p), ("moves", .ref md)])) fd (dnO P w fd []) x = some (.ins (He.ga K "Plan") dx [("loose", .ref p), ("moves", .ref md)]) := by
    rw [upd_ne fx.symm]
    exact upd_same
  refine ⟨_, rfl, x, _, dx, _, rfl, h2, PC.cl, PC.na _ (by decide), (show 2 < 1000 by decide), ?_⟩
  refine k _ md fd hmd' hfd (fun b o e ne => ?_) upd_same (by rw [upd_ne mx, upd_ne fm.symm, upd_ne mx]; exact upd_same) (by rw [upd_ne fx]; exact upd_same) fm.symm
  rw [upd_ne ne, upd_ne (ne_of_none e hfd), upd_ne ne, upd_ne (ne_of_none e hmd'), upd_ne ne]
  exact e
theorem ok_no_powers (F : FunD K "no_powers" "no_powers" (defArgs s_no_powers) (defBody s_no_powers) (defScope s_no_powers) [] [] f fd) (hm : mg "no_powers" = some (.ref f)) (T : Bl mg base) (PC : ObC K mg "Plan" ["loose", "moves", "flips"]) : Cal P w K mg base 1 "no_powers" (spNoPw P w K) [] := by
  refine calD F hm sc_no_powers (fun _ _ _ _ _ _ us hl => match us, hl with | [_], _ => rfl) (fun vs H Q E h => ?_) (fun cdv A outer s H vs Q E hr h => ?_)
  · obtain ⟨pl, dx, p0, md, fd, loose, rfl, _⟩ := h
    rfl
  obtain ⟨pl, dx, p0, md, fd, loose, rfl, hpl, hl, hn, k⟩ := h
  refine ⟨_, (pss_one (ps_ret (pe_op op_repA (pe_tup (pa_cons pe_int pa_nil)) (pe_callB call_len_seq (by rfl) T.len (by decide +kernel) (pa_cons (pe_fld (pv 0) rfl) pa_nil))))), ?_⟩
  refine ⟨(by show 1 ≤ sizeLine; decide), fun p1 hp1 => ⟨_, rfl, pl, _, dx, _, _, rfl, (by rw [upd_ne (ne_of_none hpl hp1)]; exact hpl), PC.cl, PC.na _ (by decide), rfl, p0, _, rfl, .inr (sq_tk hl (.new hp1)), rep_zero (SqT.of upd_same) (by rw [List.length_map]; exact hn) fun p H1 s1 hp => ?_⟩⟩
  rw [List.length_map] at hp
  exact k _ _ ((Same.new hp1).trans s1) hp
theorem ok_spin_of (F : FunD K "spin_of" "spin_of" (defArgs s_spin_of) (defBody s_spin_of) (defScope s_spin_of) [] [] f fd) (hm : mg "spin_of" = some (.ref f)) (T : Bl mg base) (PC : ObC K mg "Plan" ["loose", "moves", "flips"]) : Cal P w K mg base 1 "spin_of" (spSpin P w K) [] := by
  refine calD F hm sc_spin_of (fun _ _ _ _ _ _ us hl => match us, hl with | [_, _], _ => rfl) (fun vs H Q E h => ?_) (fun cdv A outer s H vs Q E hr h => ?_)
  · obtain ⟨pl, dx, p0, md, fd, loose, nm, rfl, _⟩ := h
    rfl
  obtain ⟨pl, dx, p0, md, fd, loose, nm, rfl, hpl, hl, hn, k⟩ := h
  refine ⟨_, (pss_one (ps_ret (pe_callTy call_tuple_of (by rfl) T.tuple (by decide +kernel) (pa_cons (pe_lc (own := [("loose", 2)]) (g := (gName 2)) (tt := tYes) rfl sc_spin_of.nd (pi_tup (pe_fld (pv 0) rfl)) (blkOk_by (own := [("loose", 2)]) (N := n_spin_of) (sc := defScope s_spin_of) (by decide +kernel)) (fun _ _ _ _ _ => (pg_name (i := 2) sc_spin_of.nd rfl (by first | exact Or.inl rfl | exact Or.inr rfl))) (fun _ _ _ _ _ => pts_nil) (fun _ _ _ _ _ => (pe_callTy call_int1 (by rfl) T.int (by decide +kernel) (pa_cons (pe_cmpR op_eq (pv 2) (pv 1) (nomark _)) pa_nil)))) pa_nil)))), ?_⟩
  refine ⟨_, rfl, pl, _, dx, _, _, rfl, hpl, PC.cl, PC.na _ (by decide), rfl, p0, rfl, ⟨_, hl⟩, fun D hD => ?_⟩
  refine lc_it walk_tup (fun i H' => Same H H' ∧ H' D = some (.lst (((Al.spin loose nm).take i).map V.int))) ⟨Same.new hD, upd_same⟩ (fun i H' _ h => sq_tk hl (.same h.1)) ?_ ?_
  · rintro i x H1 H2 hi ⟨s1, e1⟩ ⟨rfl, hu⟩
    obtain ⟨q, hq, rfl⟩ := map_at hu
    have lt : i < 12 := by
      rw [List.length_map] at hi
      omega
    have at_ : (Al.spin loose nm)[i]? = some (if q = nm then (1 : Int) else 0) := by
      unfold Al.spin
      rw [List.getElem?_map, hq]
      rfl
    refine ⟨rfl, yes_if ⟨_, rfl, _, rfl, rfl, .inr ⟨_, rfl, _, e1, few_take _ (Nat.le_of_lt lt) (by decide), sm_put s1 hD, ?_⟩⟩⟩
    rw [upd_same, take_map V.int at_]
    by_cases c : q = nm
    · rw [if_pos c, decide_eq_true (by rw [c]), if_pos rfl]
    · rw [if_neg c, decide_eq_false (fun z => c (by cases z; rfl)), if_neg (by decide)]
  · rintro H1 ⟨s1, e1⟩
    refine ⟨D, _, rfl, .inl ⟨SqL.of e1, fun p2 hp2 => k _ p2 (sm_new s1 hp2) (SqT.of ?_)⟩⟩
    rw [upd_same, List.take_of_length_le]
    unfold Al.spin
    rw [List.length_map, List.length_map]
    exact Nat.le_refl _
theorem ok_move_by (F : FunD K "move_by" "move_by" (defArgs s_move_by) (defBody s_move_by) (defScope s_move_by) [] [] f fd) (hm : mg "move_by" = some (.ref f)) (T : Bl mg base) (PC : ObC K mg "Plan" ["loose", "moves", "flips"]) (c_joined : Cal P w K mg base 3 "joined" (spJoined P w K) []) : Cal P w K mg base 4 "move_by" (spMoveBy P w K) [] := by
  refine calD F hm sc_move_by (fun _ _ _ _ _ _ us hl => match us, hl with | [_, _], _ => rfl) (fun vs H Q E h => ?_) (fun cdv A outer s H vs Q E hr h => ?_)
  · obtain ⟨pl, md, fd, st, loose, fl, dom, mv, ns, m, B, steps, rfl, _⟩ := h
    rfl
  obtain ⟨pl, md, fd, st, loose, fl, dom, mv, ns, m, B, steps, rfl, PA, PI, hst, h6, hin, k⟩ := h
  refine ⟨_, (pss_one (ps_ret (pe_c c_joined hr (by decide) (by rfl) (pa_cons (pe_lc (own := [("name", 2)]) (g := (gName 2)) (tt := tYes) rfl sc_move_by.nd (pi_tup (pv 1)) (blkOk_by (own := [("name", 2)]) (N := n_move_by) (sc := defScope s_move_by) (by decide +kernel)) (fun _ _ _ _ _ => (pg_name (i := 2) sc_move_by.nd rfl (by first | exact Or.inl rfl | exact Or.inr rfl))) (fun _ _ _ _ _ => pts_nil) (fun _ _ _ _ _ => (pe_dget (units1 hr) (pe_fldP K (pv 0) rfl) (pv 2) (fun _ _ => rfl)))) (pa_cons (pe_callB call_len_seq (by rfl) T.len (by decide +kernel) (pa_cons (pe_fld (pv 0) rfl) pa_nil)) (pa_cons (pe_fld (pv 0) rfl) pa_nil)))))), ?_⟩
  obtain ⟨dx, p0, hpl, hp0⟩ := PA.pl
  obtain ⟨kvs, hmd, _, hmv⟩ := PA.md
  obtain ⟨as, las, has⟩ := addrs_of (l := steps) (R := fun x a => valV kvs (Sum.inr x) = some (.ref a) ∧ MvAt P w K H a (mv x)) fun x hx => by
    obtain ⟨kk, hk⟩ := hin x hx
    exact hmv kk x hk
  refine ⟨_, rfl, st, rfl, ⟨_, hst⟩, fun D hD => ?_⟩
  refine lc_it walk_tup (fun i H' => Same H H' ∧ H' D = some (.lst ((as.take i).map V.ref))) ⟨Same.new hD, upd_same⟩ (fun i H' _ h => sq_tk hst (.same h.1)) ?_ ?_
  · rintro i x H1 H2 hi ⟨s1, e1⟩ ⟨rfl, hu⟩
    rw [List.length_map] at hi
    obtain ⟨q, hq, rfl⟩ := map_at hu
    have hj : i < as.length := by omega
    obtain ⟨a, ha⟩ : ∃ a, as[i]? = some a := ⟨_, List.getElem?_eq_getElem hj⟩
    obtain ⟨v1, v2⟩ := has i q a hq ha
    refine ⟨rfl, yes_if ⟨_, rfl, pl, _, dx, _, _, rfl, s1 _ _ hpl, PC.cl, PC.na _ (by decide), rfl, _, rfl, md, _, rfl, DGet.at_ (s1 _ _ hmd) v1, _, e1, few_take _ (n := 6) (by omega) (by decide), sm_put s1 hD, ?_⟩⟩
    rw [upd_same, take_map V.ref ha]
  · rintro H1 ⟨s1, e1⟩
    rw [List.length_map, ← las, List.take_length] at e1
    refine ⟨_, rfl, pl, _, dx, _, _, rfl, s1 _ _ hpl, PC.cl, PC.na _ (by decide), rfl, p0, _, rfl, .inr (sq_tk hp0 (.same s1)), _, rfl, pl, _, dx, _, _, rfl, s1 _ _ hpl, PC.cl, PC.na _ (by decide), rfl, ?_⟩
    refine ⟨D, fd, _, as, steps.map mv, fl, dom, B, rfl, SqL.of e1, (by rw [List.length_map]; exact las), (by rw [List.length_map]; exact h6), fun i a u ha hu => ?_, (PA.fd.same s1).r, PI.fi, fun u hu => ?_, PI.b, (by rw [List.length_map]; exact PI.n), fun H2 r s2 hr2 hM => ?_⟩
    · rw [List.getElem?_map] at hu
      obtain ⟨x, hx, e⟩ := Option.map_eq_some_iff.mp hu
      rw [← e]
      exact (has i x a hx ha).2.same s1
    · obtain ⟨x, hx, e⟩ := List.mem_map.mp hu
      obtain ⟨kk, hk⟩ := hin x hx
      rw [← e]
      exact (PI.mi kk x hk).1
    · rw [List.length_map] at hM
      exact k _ r (s1.trans s2) (s1.free hr2) hM
theorem ok_mirror_through (F : FunD K "mirror_through" "mirror_through" (defArgs s_mirror_through) (defBody s_mirror_through) (defScope s_mirror_through) [] [] f fd) (hm : mg "mirror_through" = some (.ref f)) (T : Bl mg base) (PC : ObC K mg "Plan" ["loose", "moves", "flips"]) (MC : ObC K mg "Move" ["over", "sign", "powers", "shares"]) (c_Move : Mak P w K mg base 1 "Move" (He.ga K "Move") (spMvI K) [])
    (c_flipped : Cal P w K mg base 2 "flipped" (spFlipped P w K) []) (c_turned : Cal P w K mg base 2 "turned" (spTurned P w K) []) (c_summed : Cal P w K mg base 2 "summed" (spSummed P w K) []) (c_negated : Cal P w K mg base 1 "negated" (spSh1 P w K Al.negated) []) (c_halved : Cal P w K mg base 1 "halved" (spSh1 P w K Al.halved) []) :
    Cal P w K mg base 3 "mirror_through" (spMirThr P w K) [] := by
  refine calD F hm sc_mirror_through (fun _ _ _ _ _ _ us hl => match us, hl with | [_, _, _, _], _ => rfl) (fun vs H Q E h => ?_) (fun cdv A outer s H vs Q E hr h => ?_)
  · obtain ⟨pl, md, fd, pp, loose, fl, dom, mv, ns, m, B, sg, pw, peg, rfl, _⟩ := h
    rfl
  obtain ⟨pl, md, fd, pp, loose, fl, dom, mv, ns, m, B, sg, pw, peg, rfl, PA, PI, ⟨kk, hk⟩, hpw, hsg, k⟩ := h
  refine ⟨_, (pss_cons (ps_set (i := 4) sc_mirror_through.nd rfl (by first | exact Or.inl rfl | exact Or.inr rfl) (pe_fld (pe_dget (units1 hr) (pe_fld (pv 0) rfl) (pv 3) (fun _ _ => rfl)) rfl))
    (pss_cons (ps_set (i := 5) sc_mirror_through.nd rfl (by first | exact Or.inl rfl | exact Or.inr rfl) (pe_c c_turned hr (by decide) (by rfl) (pa_cons (pe_c c_flipped hr (by decide) (by rfl) (pa_cons (pv 4) (pa_cons (pe_fld (pv 0) rfl) pa_nil))) (pa_cons (pv 1) (pa_cons (pv 2) pa_nil)))))
    (pss_one (ps_ret (pe_mk c_Move hr (by decide) (by rfl) (pa_cons pe_bl (pa_cons (pv 1) (pa_cons (pv 2) (pa_cons (pe_c c_halved hr (by decide) (by rfl) (pa_cons (pe_c c_summed hr (by decide) (by rfl) (pa_cons (pv 4) (pa_cons (pe_c c_negated hr (by decide) (by rfl) (pa_cons (pv 5) pa_nil)) pa_nil))) pa_nil)) pa_nil))))))))), ?_⟩
  obtain ⟨dx, p0, hpl, hp0⟩ := PA.pl
  obtain ⟨kvs, hmd, _, hmv⟩ := PA.md
  obtain ⟨a, v1, ⟨dy, mp, mq, m1, m2, m3⟩⟩ := hmv kk peg hk
  have mi := (PI.mi kk peg hk).1
  have B8 : 2 * B ≤ 8000000 := by
    have := PI.b
    omega
  refine ⟨_, rfl, pl, _, dx, _, _, rfl, hpl, PC.cl, PC.na _ (by decide), rfl, _, rfl, md, _, rfl, DGet.at_ hmd v1, a, _, dy, _, _, rfl, m1, MC.cl, MC.na _ (by decide), rfl, ?_⟩
  generalize mv peg = pg at m3 mi k v1
  refine ⟨_, rfl, _, rfl, pl, _, dx, _, _, rfl, hpl, PC.cl, PC.na _ (by decide), rfl, mq, fd, pg.sh, fl, dom, rfl, m3, PA.fd.r, mi.s, mi.d, PI.fi, (by have := mi.z; omega), fun H1 f1 s1 hf1 S1 => ?_⟩
  have l1 := Nat.le_trans (Al.flipped_le fl pg.sh) mi.z
  refine ⟨_, rfl, _, rfl, f1, pp, _, sg, pw, rfl, S1, mi.f, (by unfold Small; omega), sq_tk hpw (.same s1), hsg, fun H2 f2 s2 hf2 S2 => ?_⟩
  have l2 := Nat.le_trans (Al.turned_le (Al.flipped fl pg.sh) sg pw) l1
  have n2 := Al.ND.turned (Al.flipped fl pg.sh) sg pw
  refine ⟨_, rfl, _, rfl, _, rfl, _, rfl, f2, _, rfl, S2, (by unfold Small; omega), n2, fun H3 f3 s3 hf3 S3 => ?_⟩
  have s13 : Same H H3 := (s1.trans s2).trans s3
  have l3 := negated_len (Al.turned (Al.flipped fl pg.sh) sg pw)
  refine ⟨mq, f3, _, _, rfl, m3.tk (.same s13), S3, (by have := mi.l; omega), mi.s.nd, negated_nd n2, fun H4 f4 s4 hf4 S4 => ?_⟩
  have l4 := summed_len pg.sh (Al.negated (Al.turned (Al.flipped fl pg.sh) sg pw))
  refine ⟨f4, _, rfl, S4, (by unfold Small; have := mi.l; omega), summed_nd mi.s.nd, fun H5 f5 s5 hf5 S5 => ?_⟩
  intro x dz hx hdz ne
  refine ⟨x, dz, pp, f5, _, _, rfl, upd_same, rfl, ?_⟩
  rw [upd_upd]
  have s15 : Same H H5 := (s13.trans s4).trans s5
  have sx : Same H5 (upd (upd H5 dz (.own x)) x (.ins (He.ga K "Move") dz (mvF true sg pp f5))) := sm_put (Same.new hdz) hx
  exact k _ x (s15.trans sx) (s15.free hx) ⟨dz, pp, f5, upd_same, sq_tk hpw (.same (s15.trans sx)), S5.tk (.same sx)⟩
end

end K12

namespace K12
open PySem PySem.Spec PyProof.Rows L2 Lm
open C8 (Cal Mak Met pe_c pe_mk pe_mt pe_mt0 pss_cut tCut)
open LamX (CodeO TabS Tabs ExtN TabB)
--KR 9
--NOTOP
abbrev s_mirror_of : Stmt := top 49
abbrev n_mirror_of : List Str := ["plan", "line", "guide", "sign"]
abbrev p_mirror_of : List Str := ["plan", "line"]
theorem sc_mirror_of : FnScope n_mirror_of p_mirror_of (defScope s_mirror_of) := ⟨rfl, rfl, rfl, by decide +kernel, rfl, by decide +kernel, by decide +kernel⟩
abbrev s_peg_of : Stmt := top 51
abbrev n_peg_of : List Str := ["plan", "line", "one", "other", "shares"]
abbrev p_peg_of : List Str := ["plan", "line"]
theorem sc_peg_of : FnScope n_peg_of p_peg_of (defScope s_peg_of) := ⟨rfl, rfl, rfl, by decide +kernel, rfl, by decide +kernel, by decide +kernel⟩
abbrev s_move_of : Stmt := top 48
abbrev n_move_of : List Str := ["plan", "line"]
abbrev p_move_of : List Str := ["plan", "line"]
theorem sc_move_of : FnScope n_move_of p_move_of (defScope s_move_of) := ⟨rfl, rfl, rfl, by decide +kernel, rfl, by decide +kernel, by decide +kernel⟩
section
variable {P : Program} {w : World} {K : PySem.W.Frag} {mg : Str → Option Value} {base : Heap} {f : Addr} {fd : FuncData}
theorem ok_mirror_of (F : FunD K "mirror_of" "mirror_of" (defArgs s_mirror_of) (defBody s_mirror_of) (defScope s_mirror_of) [] [] f fd) (hm : mg "mirror_of" = some (.ref f)) (T : Bl mg base) (PC : ObC K mg "Plan" ["loose", "moves", "flips"]) (MC : ObC K mg "Move" ["over", "sign", "powers", "shares"]) (LC : ObC K mg "Line" ["text", "form", "word", "name", "others", "wanted", "row"]) (hU : ∃ u, mg "UNIT" = some u ∧ L2.RelV (V.int 4096) u)
    (c_Move : Mak P w K mg base 1 "Move" (He.ga K "Move") (spMvI K) []) (c_spin_of : Cal P w K mg base 1 "spin_of" (spSpin P w K) []) (c_no_powers : Cal P w K mg base 1 "no_powers" (spNoPw P w K) []) (c_mirror_through : Cal P w K mg base 3 "mirror_through" (spMirThr P w K) []) :
    Cal P w K mg base 4 "mirror_of" (spLn P w K (fun _ l => l.mir = true ∧ l.row = []) mirS) [] := by
  refine calD F hm sc_mirror_of (fun _ _ _ _ _ _ us hl => match us, hl with | [_, _], _ => rfl) (fun vs H Q E h => ?_) (fun cdv A outer s H vs Q E hr h => ?_)
  · obtain ⟨pl, md, fd, la, loose, fl, dom, mv, ns, m, B, text, l, rfl, _⟩ := h
    rfl
  obtain ⟨pl, md, fd, la, loose, fl, dom, mv, ns, m, B, text, l, rfl, PA, PI, LA, LO, ⟨hmir, hrow⟩, k⟩ := h
  refine ⟨_, (pss_cons (ps_if (pt_cmpR op_eq (pe_fld (pv 1) rfl) pe_str (nomark _)) (pss_one (ps_ret (pe_mk c_Move hr (by decide) (by rfl) (pa_cons pe_bl (pa_cons (pe_un un_neg pe_int) (pa_cons (pe_c c_spin_of hr (by decide) (by rfl) (pa_cons (pv 0) (pa_cons (pe_fld (pv 1) rfl) pa_nil))) (pa_cons (pe_fz (pe_ndisp (units10 hr) (pps_cons (pe_tup (pa_cons (pe_fld (pv 1) rfl) (pa_cons pe_bl (pa_cons (pe_c c_no_powers hr (by decide) (by rfl) (pa_cons (pv 0) pa_nil)) pa_nil)))) (C8.pe_gc (v := .int 4096) (by rfl) hU) pps_nil) (by rfl) (by rfl) (fun z => by cases z) (by decide))) pa_nil))))))) pss_nil)
    (pss_cons (ps_if (pt_cmpR op_eq (pe_fld (pv 1) rfl) pe_str (nomark _)) (pss_one (ps_ret (pe_c c_mirror_through hr (by decide) (by rfl) (pa_cons (pv 0) (pa_cons (pe_un un_neg pe_int) (pa_cons (pe_c c_spin_of hr (by decide) (by rfl) (pa_cons (pv 0) (pa_cons (pe_fld (pv 1) rfl) pa_nil))) (pa_cons (pe_ix ix_seq (pe_fld (pv 1) rfl) pe_int (fun _ _ => rfl)) pa_nil))))))) pss_nil)
    (pss_cons (ps_set (i := 2) sc_mirror_of.nd rfl (by first | exact Or.inl rfl | exact Or.inr rfl) (pe_dget (units1 hr) (pe_fld (pv 0) rfl) (pe_ix ix_seq (pe_fld (pv 1) rfl) pe_int (fun _ _ => rfl)) (fun _ _ => rfl)))
    (pss_cons (ps_set (i := 3) sc_mirror_of.nd rfl (by first | exact Or.inl rfl | exact Or.inr rfl) (pe_ifExp (pt_cmpR op_eq (pe_fld (pv 1) rfl) pe_str (nomark _)) (pe_un un_neg (pe_fld (pv 2) rfl)) (pe_fld (pv 2) rfl)))
    (pss_one (ps_ret (pe_c c_mirror_through hr (by decide) (by rfl) (pa_cons (pv 0) (pa_cons (pv 3) (pa_cons (pe_fld (pv 2) rfl) (pa_cons (pe_ix ix_seq (pe_fld (pv 1) rfl) pe_int (fun _ _ => rfl)) pa_nil))))))))))), ?_⟩
  obtain ⟨dx, p0, hpl, hp0⟩ := PA.pl
  obtain ⟨dl, po, pw, pr, hla, hpo, _, _⟩ := LA
  refine ⟨_, rfl, la, _, dl, _, _, rfl, hla, LC.cl, LC.na _ (by decide), rfl, rfl, _, rfl, ?_⟩
  cases LO with
  | free mir nm =>
    obtain rfl : mir = true := hmir
    apply ite_seq
    refine ⟨_, rfl, _, rfl, _, rfl, la, _, dl, _, _, rfl, hla, LC.cl, LC.na _ (by decide), rfl, pl, dx, p0, md, fd, loose, nm, rfl, hpl, hp0, PI.n, fun H1 r1 s1 e1 => ?_⟩
    refine fun D hD => ?_
    have s2 : Same H (upd H1 D (dnO P w D [])) := sm_new s1 hD
    refine ⟨_, rfl, la, _, dl, _, _, rfl, s2 _ _ hla, LC.cl, LC.na _ (by decide), rfl, _, rfl, pl, dx, p0, md, fd, loose, rfl, s2 _ _ hpl, sq_tk hp0 (.same s2), PI.n, fun H3 r3 s3 e3 => ?_⟩
    refine ⟨(by show 3 ≤ sizeLine; decide), fun q hq => ?_⟩
    have eD : (upd H3 q (.tup [.str nm, .bl false, .ref r3])) D = some (dnO P w D []) := by
      rw [upd_ne (ne_of_none (s3 _ _ upd_same) hq)]
      exact s3 _ _ upd_same
    have at3 : At3 K (upd H3 q (.tup [.str nm, .bl false, .ref r3])) (nm, false, Al.still loose.length) q := ⟨r3, SqT.of upd_same, sq_tk e3 (.new hq)⟩
    refine ⟨eD, [(nk3 (nm, false, Al.still loose.length), q, .int 4096)], rfl, (by show 1 ≤ 15; decide), fun x hx => ?_, D, _, rfl, upd_same, trivial, fun od => ?_⟩
    · rw [List.mem_singleton.mp hx]
      exact .of3 at3
    · exact mv_made (Q := Q) ⟨true, -1, Al.spin loose nm, [((nm, false, Al.still loose.length), 4096)]⟩ (disp_sm (sm_new (s2.trans s3) hq) (s1.free hD)) (sq_tk e1 ((Tk.new hD).trans ((Tk.same s3).trans ((Tk.new hq).trans (.putput eD trivial))))) (disp1 eD at3) k
  | thr nm p hp =>
    apply ite_sne (show ("through" : Str) ≠ "any" by decide)
    refine ⟨_, rfl, la, _, dl, _, _, rfl, hla, LC.cl, LC.na _ (by decide), rfl, rfl, _, rfl, ?_⟩
    apply ite_seq
    refine ⟨_, rfl, _, rfl, _, rfl, _, rfl, la, _, dl, _, _, rfl, hla, LC.cl, LC.na _ (by decide), rfl, pl, dx, p0, md, fd, loose, nm, rfl, hpl, hp0, PI.n, fun H1 r1 s1 e1 => ?_⟩
    refine ⟨_, rfl, la, _, dl, _, _, rfl, s1 _ _ hla, LC.cl, LC.na _ (by decide), rfl, ?_⟩
    refine .inr (.inl ⟨po, _, _, _, rfl, rfl, sq_tk hpo (.same s1), atI_of (j := 0) rfl rfl, ?_⟩)
    exact ⟨pl, md, fd, r1, loose, fl, dom, mv, ns, m, B, _, _, p, rfl, PA.same s1, PI, ⟨_, hp⟩, e1, .inr rfl, fun H2 r2 s2 h2 M2 => k _ _ (s1.trans s2) (s1.free h2) M2⟩
  | along nm a p ha hp =>
    apply ite_sne (show ("along" : Str) ≠ "any" by decide)
    refine ⟨_, rfl, la, _, dl, _, _, rfl, hla, LC.cl, LC.na _ (by decide), rfl, rfl, _, rfl, ?_⟩
    apply ite_sne (show ("along" : Str) ≠ "through" by decide)
    obtain ⟨kvs, hmd, _, hmv⟩ := PA.md
    obtain ⟨ga, v1, ⟨dy, mp, mq, m1, m2, m3⟩⟩ := hmv _ a ha
    have mi := (PI.mi _ a ha).1
    refine ⟨_, rfl, pl, _, dx, _, _, rfl, hpl, PC.cl, PC.na _ (by decide), rfl, _, rfl, la, _, dl, _, _, rfl, hla, LC.cl, LC.na _ (by decide), rfl, .inr (.inl ⟨po, _, _, _, rfl, rfl, hpo, atI_of (j := 0) rfl rfl, ?_⟩)⟩
    refine ⟨md, _, rfl, DGet.at_ hmd v1, ?_⟩
    refine ⟨_, rfl, la, _, dl, _, _, rfl, hla, LC.cl, LC.na _ (by decide), rfl, rfl, _, rfl, ?_⟩
    apply ite_sne (show ("along" : Str) ≠ "across" by decide)
    refine ⟨_, rfl, ga, _, dy, _, _, rfl, m1, MC.cl, MC.na _ (by decide), rfl, ?_⟩
    refine ⟨_, rfl, _, rfl, _, rfl, ga, _, dy, _, _, rfl, m1, MC.cl, MC.na _ (by decide), rfl, _, rfl, la, _, dl, _, _, rfl, hla, LC.cl, LC.na _ (by decide), rfl, .inr (.inl ⟨po, _, _, _, rfl, rfl, hpo, atI_of (j := 1) rfl rfl, ?_⟩)⟩
    exact ⟨pl, md, fd, mp, loose, fl, dom, mv, ns, m, B, _, _, p, rfl, PA, PI, ⟨_, hp⟩, m2, mi.sg, k⟩
  | across nm a p ha hp =>
    apply ite_sne (show ("across" : Str) ≠ "any" by decide)
    refine ⟨_, rfl, la, _, dl, _, _, rfl, hla, LC.cl, LC.na _ (by decide), rfl, rfl, _, rfl, ?_⟩
    apply ite_sne (show ("across" : Str) ≠ "through" by decide)
    obtain ⟨kvs, hmd, _, hmv⟩ := PA.md
    obtain ⟨ga, v1, ⟨dy, mp, mq, m1, m2, m3⟩⟩ := hmv _ a ha
    have mi := (PI.mi _ a ha).1
    refine ⟨_, rfl, pl, _, dx, _, _, rfl, hpl, PC.cl, PC.na _ (by decide), rfl, _, rfl, la, _, dl, _, _, rfl, hla, LC.cl, LC.na _ (by decide), rfl, .inr (.inl ⟨po, _, _, _, rfl, rfl, hpo, atI_of (j := 0) rfl rfl, ?_⟩)⟩
    refine ⟨md, _, rfl, DGet.at_ hmd v1, ?_⟩
    refine ⟨_, rfl, la, _, dl, _, _, rfl, hla, LC.cl, LC.na _ (by decide), rfl, rfl, _, rfl, ?_⟩
    apply ite_seq
    refine ⟨_, rfl, ga, _, dy, _, _, rfl, m1, MC.cl, MC.na _ (by decide), rfl, _, rfl, ?_⟩
    refine ⟨_, rfl, _, rfl, _, rfl, ga, _, dy, _, _, rfl, m1, MC.cl, MC.na _ (by decide), rfl, _, rfl, la, _, dl, _, _, rfl, hla, LC.cl, LC.na _ (by decide), rfl, .inr (.inl ⟨po, _, _, _, rfl, rfl, hpo, atI_of (j := 1) rfl rfl, ?_⟩)⟩
    refine ⟨pl, md, fd, mp, loose, fl, dom, mv, ns, m, B, _, _, p, rfl, PA, PI, ⟨_, hp⟩, m2, ?_, k⟩
    rcases mi.sg with z | z <;> rw [z]
    · exact .inr rfl
    · exact .inl rfl
  | frmM nm a b ha hb => cases hrow
  | frmP nm p a hp ha => cases hrow
  | is_ mir nm a row hr1 ha hk h5 =>
    have z : row = [] := hrow
    rw [z] at hr1
    cases hr1
  | on nm a ha => cases hmir
  | about nm p q hp hq => cases hrow
  | amid nm p q hp hq => cases hmir
theorem ok_peg_of (F : FunD K "peg_of" "peg_of" (defArgs s_peg_of) (defBody s_peg_of) (defScope s_peg_of) [] [] f fd) (hm : mg "peg_of" = some (.ref f)) (T : Bl mg base) (PC : ObC K mg "Plan" ["loose", "moves", "flips"]) (MC : ObC K mg "Move" ["over", "sign", "powers", "shares"]) (LC : ObC K mg "Line" ["text", "form", "word", "name", "others", "wanted", "row"]) (hU : ∃ u, mg "UNIT" = some u ∧ L2.RelV (V.int 4096) u)
    (c_Move : Mak P w K mg base 1 "Move" (He.ga K "Move") (spMvI K) []) (c_no_powers : Cal P w K mg base 1 "no_powers" (spNoPw P w K) []) (c_summed : Cal P w K mg base 2 "summed" (spSummed P w K) []) (c_halved : Cal P w K mg base 1 "halved" (spSh1 P w K Al.halved) []) :
    Cal P w K mg base 3 "peg_of" (spLn P w K (fun _ l => l.mir = false ∧ l.row = []) pegS) [] := by
  refine calD F hm sc_peg_of (fun _ _ _ _ _ _ us hl => match us, hl with | [_, _], _ => rfl) (fun vs H Q E h => ?_) (fun cdv A outer s H vs Q E hr h => ?_)
  · obtain ⟨pl, md, fd, la, loose, fl, dom, mv, ns, m, B, text, l, rfl, _⟩ := h
    rfl
  obtain ⟨pl, md, fd, la, loose, fl, dom, mv, ns, m, B, text, l, rfl, PA, PI, LA, LO, ⟨hmir, hrow⟩, k⟩ := h
  refine ⟨_, (pss_cons (ps_if (pt_cmpR op_eq (pe_fld (pv 1) rfl) pe_str (nomark _)) (pss_cons (ps_par (i := 2) (j := 3) (by rfl) sc_peg_of.nd rfl rfl (by decide) rfl rfl (pa_cons (pe_dget (units1 hr) (pe_fld (pv 0) rfl) (pe_ix ix_seq (pe_fld (pv 1) rfl) pe_int (fun _ _ => rfl)) (fun _ _ => rfl)) (pa_cons (pe_dget (units1 hr) (pe_fld (pv 0) rfl) (pe_ix ix_seq (pe_fld (pv 1) rfl) pe_int (fun _ _ => rfl)) (fun _ _ => rfl)) pa_nil)) (by rfl))
    (pss_one (ps_set (i := 4) sc_peg_of.nd rfl (by first | exact Or.inl rfl | exact Or.inr rfl) (pe_c c_halved hr (by decide) (by rfl) (pa_cons (pe_c c_summed hr (by decide) (by rfl) (pa_cons (pe_fld (pv 2) rfl) (pa_cons (pe_fld (pv 3) rfl) pa_nil))) pa_nil))))) (pss_one (ps_set (i := 4) sc_peg_of.nd rfl (by first | exact Or.inl rfl | exact Or.inr rfl) (pe_fz (pe_ndisp (units10 hr) (pps_cons (pe_tup (pa_cons (pe_fld (pv 1) rfl) (pa_cons pe_bl (pa_cons (pe_c c_no_powers hr (by decide) (by rfl) (pa_cons (pv 0) pa_nil)) pa_nil)))) (pe_op op_mul pe_int (C8.pe_gc (v := .int 4096) (by rfl) hU)) pps_nil) (by rfl) (by rfl) (fun z => by cases z) (by decide))))))
    (pss_one (ps_ret (pe_mk c_Move hr (by decide) (by rfl) (pa_cons pe_bl (pa_cons (pe_un un_neg pe_int) (pa_cons (pe_c c_no_powers hr (by decide) (by rfl) (pa_cons (pv 0) pa_nil)) (pa_cons (pv 4) pa_nil)))))))), ?_⟩
  obtain ⟨dx, p0, hpl, hp0⟩ := PA.pl
  obtain ⟨dl, po, pw, pr, hla, hpo, _, _⟩ := LA
  refine ⟨_, rfl, la, _, dl, _, _, rfl, hla, LC.cl, LC.na _ (by decide), rfl, rfl, _, rfl, ?_⟩
  cases LO with
  | free mir nm =>
    obtain rfl : mir = false := hmir
    apply ite_sne (show ("any" : Str) ≠ "amid" by decide)
    refine fun D hD => ?_
    have s2 : Same H (upd H D (dnO P w D [])) := Same.new hD
    refine ⟨_, rfl, la, _, dl, _, _, rfl, s2 _ _ hla, LC.cl, LC.na _ (by decide), rfl, _, rfl, pl, dx, p0, md, fd, loose, rfl, s2 _ _ hpl, sq_tk hp0 (.same s2), PI.n, fun H3 r3 s3 e3 => ?_⟩
    refine ⟨(by show 3 ≤ sizeLine; decide), fun q hq => ?_⟩
    have eD : (upd H3 q (.tup [.str nm, .bl false, .ref r3])) D = some (dnO P w D []) := by
      rw [upd_ne (ne_of_none (s3 _ _ upd_same) hq)]
      exact s3 _ _ upd_same
    have at3 : At3 K (upd H3 q (.tup [.str nm, .bl false, .ref r3])) (nm, false, Al.still loose.length) q := ⟨r3, SqT.of upd_same, sq_tk e3 (.new hq)⟩
    refine ⟨_, _, rfl, rfl, .inl ⟨by decide, by decide⟩, ?_⟩
    refine ⟨eD, [(nk3 (nm, false, Al.still loose.length), q, .int 8192)], rfl, (by show 1 ≤ 15; decide), fun x hx => ?_, D, _, rfl, upd_same, trivial, fun od => ?_⟩
    · rw [List.mem_singleton.mp hx]
      exact .of3 at3
    · have s4 := disp_sm (a := dnO P w D (nPuts [] [(nk3 (nm, false, Al.still loose.length), q, V.int 8192)])) (b := .frz od (dnO P w D (nPuts [] [(nk3 (nm, false, Al.still loose.length), q, V.int 8192)]))) (sm_new (o := .tup [.str nm, .bl false, .ref r3]) (s2.trans s3) hq) hD
      refine ⟨_, rfl, _, rfl, pl, dx, p0, md, fd, loose, rfl, s4 _ _ hpl, sq_tk hp0 (.same s4), PI.n, fun H5 r5 s5 e5 => ⟨_, rfl, ?_⟩⟩
      exact mv_made (Q := Q) ⟨false, -1, Al.still loose.length, [((nm, false, Al.still loose.length), 8192)]⟩ (s4.trans s5) e5 ((disp1 eD at3).tk (.same s5)) k
  | on nm a ha =>
    apply ite_sne (show ("on" : Str) ≠ "amid" by decide)
    refine fun D hD => ?_
    have s2 : Same H (upd H D (dnO P w D [])) := Same.new hD
    refine ⟨_, rfl, la, _, dl, _, _, rfl, s2 _ _ hla, LC.cl, LC.na _ (by decide), rfl, _, rfl, pl, dx, p0, md, fd, loose, rfl, s2 _ _ hpl, sq_tk hp0 (.same s2), PI.n, fun H3 r3 s3 e3 => ?_⟩
    refine ⟨(by show 3 ≤ sizeLine; decide), fun q hq => ?_⟩
    have eD : (upd H3 q (.tup [.str nm, .bl false, .ref r3])) D = some (dnO P w D []) := by
      rw [upd_ne (ne_of_none (s3 _ _ upd_same) hq)]
      exact s3 _ _ upd_same
    have at3 : At3 K (upd H3 q (.tup [.str nm, .bl false, .ref r3])) (nm, false, Al.still loose.length) q := ⟨r3, SqT.of upd_same, sq_tk e3 (.new hq)⟩
    refine ⟨_, _, rfl, rfl, .inl ⟨by decide, by decide⟩, ?_⟩
    refine ⟨eD, [(nk3 (nm, false, Al.still loose.length), q, .int 8192)], rfl, (by show 1 ≤ 15; decide), fun x hx => ?_, D, _, rfl, upd_same, trivial, fun od => ?_⟩
    · rw [List.mem_singleton.mp hx]
      exact .of3 at3
    · have s4 := disp_sm (a := dnO P w D (nPuts [] [(nk3 (nm, false, Al.still loose.length), q, V.int 8192)])) (b := .frz od (dnO P w D (nPuts [] [(nk3 (nm, false, Al.still loose.length), q, V.int 8192)]))) (sm_new (o := .tup [.str nm, .bl false, .ref r3]) (s2.trans s3) hq) hD
      refine ⟨_, rfl, _, rfl, pl, dx, p0, md, fd, loose, rfl, s4 _ _ hpl, sq_tk hp0 (.same s4), PI.n, fun H5 r5 s5 e5 => ⟨_, rfl, ?_⟩⟩
      exact mv_made (Q := Q) ⟨false, -1, Al.still loose.length, [((nm, false, Al.still loose.length), 8192)]⟩ (s4.trans s5) e5 ((disp1 eD at3).tk (.same s5)) k
  | amid nm p q hp hq =>
    apply ite_seq
    obtain ⟨kvs, hmd, _, hmv⟩ := PA.md
    obtain ⟨ga, v1, ⟨dy, mp, mq, m1, m2, m3⟩⟩ := hmv _ p hp
    obtain ⟨gb, v2, ⟨dz, np, nq, n1, n2, n3⟩⟩ := hmv _ q hq
    have mi := (PI.mi _ p hp).1
    have ni := (PI.mi _ q hq).1
    have hB := PI.b
    refine ⟨_, rfl, pl, _, dx, _, _, rfl, hpl, PC.cl, PC.na _ (by decide), rfl, _, rfl, la, _, dl, _, _, rfl, hla, LC.cl, LC.na _ (by decide), rfl, .inr (.inl ⟨po, _, _, _, rfl, rfl, hpo, atI_of (j := 0) rfl rfl, ?_⟩)⟩
    refine ⟨md, _, rfl, DGet.at_ hmd v1, ?_⟩
    refine ⟨_, rfl, pl, _, dx, _, _, rfl, hpl, PC.cl, PC.na _ (by decide), rfl, _, rfl, la, _, dl, _, _, rfl, hla, LC.cl, LC.na _ (by decide), rfl, .inr (.inl ⟨po, _, _, _, rfl, rfl, hpo, atI_of (j := 1) rfl rfl, ?_⟩)⟩
    refine ⟨md, _, rfl, DGet.at_ hmd v2, _, _, rfl, ?_⟩
    refine ⟨_, rfl, ga, _, dy, _, _, rfl, m1, MC.cl, MC.na _ (by decide), rfl, _, rfl, gb, _, dz, _, _, rfl, n1, MC.cl, MC.na _ (by decide), rfl, ?_⟩
    refine ⟨mq, nq, _, _, rfl, m3, n3, (by have := mi.l; have := ni.l; omega), mi.s.nd, ni.s.nd, fun H1 r1 s1 h1 S1 => ?_⟩
    have l1 := summed_len (mv p).sh (mv q).sh
    refine ⟨r1, _, rfl, S1, (by unfold Small; have := mi.l; have := ni.l; omega), summed_nd mi.s.nd, fun H2 r2 s2 h2 S2 => ?_⟩
    have s12 := s1.trans s2
    refine ⟨_, rfl, _, rfl, pl, dx, p0, md, fd, loose, rfl, s12 _ _ hpl, sq_tk hp0 (.same s12), PI.n, fun H5 r5 s5 e5 => ⟨_, rfl, ?_⟩⟩
    exact mv_made (Q := Q) (Al.mAmid loose.length (mv p) (mv q)) (s12.trans s5) e5 (S2.tk (.same s5)) k
  | thr nm p hp => cases hmir
  | along nm a p ha hp => cases hmir
  | across nm a p ha hp => cases hmir
  | frmM nm a b ha hb => cases hrow
  | frmP nm p a hp ha => cases hrow
  | is_ mir nm a row hr1 ha hk h5 =>
    have z : row = [] := hrow
    rw [z] at hr1
    cases hr1
  | about nm p q hp hq => cases hrow
theorem ok_move_of (F : FunD K "move_of" "move_of" (defArgs s_move_of) (defBody s_move_of) (defScope s_move_of) [] [] f fd) (hm : mg "move_of" = some (.ref f)) (T : Bl mg base) (LC : ObC K mg "Line" ["text", "form", "word", "name", "others", "wanted", "row"])
    (c_move_by : Cal P w K mg base 4 "move_by" (spMoveBy P w K) []) (c_mirror_of : Cal P w K mg base 4 "mirror_of" (spLn P w K (fun _ l => l.mir = true ∧ l.row = []) mirS) []) (c_peg_of : Cal P w K mg base 3 "peg_of" (spLn P w K (fun _ l => l.mir = false ∧ l.row = []) pegS) []) :
    Cal P w K mg base 5 "move_of" (spLn P w K (fun _ _ => True) movS) [] := by
  refine calD F hm sc_move_of (fun _ _ _ _ _ _ us hl => match us, hl with | [_, _], _ => rfl) (fun vs H Q E h => ?_) (fun cdv A outer s H vs Q E hr h => ?_)
  · obtain ⟨pl, md, fd, la, loose, fl, dom, mv, ns, m, B, text, l, rfl, _⟩ := h
    rfl
  obtain ⟨pl, md, fd, la, loose, fl, dom, mv, ns, m, B, text, l, rfl, PA, PI, LA, LO, _, k⟩ := h
  refine ⟨_, (pss_cons (ps_if (pt_truth (pe_fld (pv 1) rfl) (by intro _; rfl)) (pss_one (ps_ret (pe_c c_move_by hr (by decide) (by rfl) (pa_cons (pv 0) (pa_cons (pe_fld (pv 1) rfl) pa_nil))))) pss_nil)
    (pss_cons (ps_if (pt_cmpR op_eq (pe_fld (pv 1) rfl) pe_str (nomark _)) (pss_one (ps_ret (pe_c c_mirror_of hr (by decide) (by rfl) (pa_cons (pv 0) (pa_cons (pv 1) pa_nil))))) pss_nil)
    (pss_one (ps_ret (pe_c c_peg_of hr (by decide) (by rfl) (pa_cons (pv 0) (pa_cons (pv 1) pa_nil))))))), ?_⟩
  obtain ⟨dl, po, pw, pr, hla, hpo, hpw, hpr⟩ := id LA
  refine ⟨_, rfl, la, _, dl, _, _, rfl, hla, LC.cl, LC.na _ (by decide), rfl, _, .inr (.inl ⟨_, hpr, rfl⟩), ?_⟩
  have rw_in := LO.rows
  cases hrow : l.row with
  | nil =>
    refine iteF ⟨_, rfl, la, _, dl, _, _, rfl, hla, LC.cl, LC.na _ (by decide), rfl, rfl, _, rfl, ?_⟩
    have e : movS loose fl mv l = if l.mir = true then mirS loose fl mv l else pegS loose fl mv l := by
      unfold movS
      rw [hrow]
      rfl
    rw [e] at k
    cases hmir : l.mir with
    | true =>
      rw [hmir, if_pos rfl] at k
      apply ite_seq
      exact ⟨_, rfl, _, rfl, pl, md, fd, la, loose, fl, dom, mv, ns, m, B, text, l, rfl, PA, PI, LA, LO, ⟨hmir, hrow⟩, k⟩
    | false =>
      rw [hmir, if_neg (by decide)] at k
      apply ite_sne (show ("peg" : Str) ≠ "mirror" by decide)
      exact ⟨_, rfl, _, rfl, pl, md, fd, la, loose, fl, dom, mv, ns, m, B, text, l, rfl, PA, PI, LA, LO, ⟨hmir, hrow⟩, k⟩
  | cons a r =>
    refine iteT ⟨_, rfl, _, rfl, la, _, dl, _, _, rfl, hla, LC.cl, LC.na _ (by decide), rfl, ?_⟩
    have e : movS loose fl mv l = Al.joined fl loose.length (l.row.map mv) := by
      unfold movS
      rw [if_pos (by rw [hrow]; exact List.cons_ne_nil _ _)]
    rw [e] at k
    exact ⟨pl, md, fd, pr, loose, fl, dom, mv, ns, m, B, l.row, rfl, PA, PI, hpr, rw_in.2, rw_in.1, k⟩
end

end K12

namespace K12
open PySem PySem.Spec PyProof.Rows L2 Lm
open C8 (Cal Mak Met pe_c pe_mk pe_mt pe_mt0 pss_cut tCut)
open LamX (CodeO TabS Tabs ExtN TabB)
--KR 9
--NOTOP
abbrev s_flips_of : Stmt := top 52
abbrev n_flips_of : List Str := ["plan", "line", "name", "still", "guide", "rest"]
abbrev p_flips_of : List Str := ["plan", "line"]
theorem sc_flips_of : FnScope n_flips_of p_flips_of (defScope s_flips_of) := ⟨rfl, rfl, rfl, by decide +kernel, rfl, by decide +kernel, by decide +kernel⟩
section
variable {P : Program} {w : World} {K : PySem.W.Frag} {mg : Str → Option Value} {base : Heap} {f : Addr} {fd : FuncData}
theorem ok_flips_of (F : FunD K "flips_of" "flips_of" (defArgs s_flips_of) (defBody s_flips_of) (defScope s_flips_of) [] [] f fd) (hm : mg "flips_of" = some (.ref f)) (T : Bl mg base) (PC : ObC K mg "Plan" ["loose", "moves", "flips"]) (MC : ObC K mg "Move" ["over", "sign", "powers", "shares"]) (LC : ObC K mg "Line" ["text", "form", "word", "name", "others", "wanted", "row"]) (hU : ∃ u, mg "UNIT" = some u ∧ L2.RelV (V.int 4096) u)
    (c_spin_of : Cal P w K mg base 1 "spin_of" (spSpin P w K) []) (c_no_powers : Cal P w K mg base 1 "no_powers" (spNoPw P w K) []) (c_contrary_powers : Cal P w K mg base 1 "contrary_powers" (spPn K) []) (c_turned : Cal P w K mg base 2 "turned" (spTurned P w K) []) (c_summed : Cal P w K mg base 2 "summed" (spSummed P w K) []) (c_negated : Cal P w K mg base 1 "negated" (spSh1 P w K Al.negated) []) :
    Cal P w K mg base 3 "flips_of" (spFlips P w K) [] := by
  refine calD F hm sc_flips_of (fun _ _ _ _ _ _ us hl => match us, hl with | [_, _], _ => rfl) (fun vs H Q E h => ?_) (fun cdv A outer s H vs Q E hr h => ?_)
  · obtain ⟨pl, md, fd, la, loose, fl, dom, mv, ns, m, B, text, l, rfl, _⟩ := h
    rfl
  obtain ⟨pl, md, fd, la, loose, fl, dom, mv, ns, m, B, text, l, rfl, PA, PI, LA, LO, k⟩ := h
  refine ⟨_, (pss_cons (ps_par (i := 2) (j := 3) (by rfl) sc_flips_of.nd rfl rfl (by decide) rfl rfl (pa_cons (pe_fld (pv 1) rfl) (pa_cons (pe_c c_no_powers hr (by decide) (by rfl) (pa_cons (pv 0) pa_nil)) pa_nil)) (by rfl))
    (pss_cons (ps_if (PW.pt (pw_and (pt_cmpR op_eq (pe_fld (pv 1) rfl) pe_str (nomark _)) (pw_and1 (pt_cmpR op_eq (pe_fld (pv 1) rfl) pe_str (nomark _))))) (pss_one (ps_ret (pe_fz (pe_ndisp (units10 hr) (pps_cons (pe_tup (pa_cons (pv 2) (pa_cons pe_bl pa_nil))) (pe_fz (pe_ndisp (units10 hr) (pps_cons (pe_tup (pa_cons (pv 2) (pa_cons pe_bl (pa_cons (pe_c c_contrary_powers hr (by decide) (by rfl) (pa_cons (pe_c c_spin_of hr (by decide) (by rfl) (pa_cons (pv 0) (pa_cons (pv 2) pa_nil))) pa_nil)) pa_nil)))) (C8.pe_gc (v := .int 4096) (by rfl) hU) pps_nil) (by rfl) (by rfl) (fun z => by cases z) (by decide))) pps_nil) (by rfl) (by rfl) (fun z => by cases z) (by decide))))) pss_nil)
    (pss_cons (ps_if (pt_cmpR op_eq (pe_fld (pv 1) rfl) pe_str (nomark _)) (pss_one (ps_ret (pe_fz (pe_ndisp (units10 hr) (pps_cons (pe_tup (pa_cons (pv 2) (pa_cons pe_bl pa_nil))) (pe_fz (pe_ndisp (units10 hr) (pps_cons (pe_tup (pa_cons (pv 2) (pa_cons pe_bl (pa_cons (pv 3) pa_nil)))) (C8.pe_gc (v := .int 4096) (by rfl) hU) pps_nil) (by rfl) (by rfl) (fun z => by cases z) (by decide))) (pps_cons (pe_tup (pa_cons (pv 2) (pa_cons pe_bl pa_nil))) (pe_fz (pe_ndisp (units10 hr) (pps_cons (pe_tup (pa_cons (pv 2) (pa_cons pe_bl (pa_cons (pv 3) pa_nil)))) (C8.pe_gc (v := .int 4096) (by rfl) hU) pps_nil) (by rfl) (by rfl) (fun z => by cases z) (by decide))) pps_nil)) (by rfl) (by rfl) (fun z => by cases z) (by decide))))) pss_nil)
    (pss_cons (ps_if (pt_cmpR op_eq (pe_fld (pv 1) rfl) pe_str (nomark _)) (pss_cons (ps_set (i := 4) sc_flips_of.nd rfl (by first | exact Or.inl rfl | exact Or.inr rfl) (pe_dget (units1 hr) (pe_fld (pv 0) rfl) (pe_ix ix_seq (pe_fld (pv 1) rfl) pe_int (fun _ _ => rfl)) (fun _ _ => rfl)))
    (pss_cons (ps_set (i := 5) sc_flips_of.nd rfl (by first | exact Or.inl rfl | exact Or.inr rfl) (pe_c c_summed hr (by decide) (by rfl) (pa_cons (pe_fz (pe_ndisp (units10 hr) (pps_cons (pe_tup (pa_cons (pv 2) (pa_cons pe_bl (pa_cons (pv 3) pa_nil)))) (C8.pe_gc (v := .int 4096) (by rfl) hU) pps_nil) (by rfl) (by rfl) (fun z => by cases z) (by decide))) (pa_cons (pe_c c_negated hr (by decide) (by rfl) (pa_cons (pe_fld (pv 4) rfl) pa_nil)) pa_nil))))
    (pss_one (ps_ret (pe_fz (pe_ndisp (units10 hr) (pps_cons (pe_tup (pa_cons (pv 2) (pa_cons pe_bl pa_nil))) (pe_c c_turned hr (by decide) (by rfl) (pa_cons (pv 5) (pa_cons (pe_fld (pv 4) rfl) (pa_cons (pe_c c_contrary_powers hr (by decide) (by rfl) (pa_cons (pe_fld (pv 4) rfl) pa_nil)) pa_nil)))) pps_nil) (by rfl) (by rfl) (fun z => by cases z) (by decide))))))) pss_nil)
    (pss_one (ps_ret (pe_fz (pe_nnewP P w)))))))), ?_⟩
  obtain ⟨dx, p0, hpl, hp0⟩ := PA.pl
  obtain ⟨dl, po, pw, pr, hla, hpo, _, _⟩ := LA
  refine ⟨_, rfl, la, _, dl, _, _, rfl, hla, LC.cl, LC.na _ (by decide), rfl, _, rfl, pl, dx, p0, md, fd, loose, rfl, hpl, hp0, PI.n, fun H1 r1 s1 e1 => ⟨_, _, rfl, ?_⟩⟩
  refine ⟨_, rfl, la, _, dl, _, _, rfl, s1 _ _ hla, LC.cl, LC.na _ (by decide), rfl, rfl, _, rfl, ?_⟩
  cases LO with
  | free mir nm =>
    apply ite_seq
    refine ⟨_, rfl, la, _, dl, _, _, rfl, s1 _ _ hla, LC.cl, LC.na _ (by decide), rfl, rfl, _, rfl, ?_⟩
    cases mir with
    | true =>
      apply ite_seq
      refine fun D1 hD1 => ⟨_, rfl, (by show 2 ≤ sizeLine; decide), fun q1 hq1 D2 hD2 => ?_⟩
      have hD20 : (upd H1 D1 (dnO P w D1 [])) D2 = none := (Same.new hq1).free hD2
      have sb : Same H (upd (upd (upd H1 D1 (dnO P w D1 [])) q1 (.tup [.str nm, .bl false])) D2 (dnO P w D2 [])) := sm_new (sm_new (sm_new s1 hD1) hq1) hD2
      refine ⟨_, rfl, _, rfl, _, rfl, pl, dx, p0, md, fd, loose, nm, rfl, sb _ _ hpl, sq_tk hp0 (.same sb), PI.n, fun H2 r2 s2 e2 => ⟨r2, _, rfl, e2, (by unfold Al.spin; rw [List.length_map]; exact PI.n), fun H3 r3 s3 hr3 e3 => ⟨(by show 3 ≤ sizeLine; decide), fun q2 hq2 => ?_⟩⟩⟩
      have sd : Same (upd (upd H1 D1 (dnO P w D1 [])) q1 (.tup [.str nm, .bl false])) (upd H3 q2 (.tup [.str nm, .bl false, .ref r3])) := sm_new ((Same.new hD2).trans (s2.trans s3)) hq2
      have eD2 : (upd H3 q2 (.tup [.str nm, .bl false, .ref r3])) D2 = some (dnO P w D2 []) := Same.new hq2 _ _ (s3 _ _ (s2 _ _ upd_same))
      have at3 : At3 K (upd H3 q2 (.tup [.str nm, .bl false, .ref r3])) (nm, false, Al.ng (Al.spin loose nm)) q2 := ⟨r3, SqT.of upd_same, SqT.of (Same.new hq2 _ _ e3)⟩
      refine ⟨eD2, [(nk3 (nm, false, Al.ng (Al.spin loose nm)), q2, .int 4096)], rfl, (by show 1 ≤ 15; decide), fun x hx => ?_, D2, _, rfl, upd_same, trivial, fun od2 => ?_⟩
      · rw [List.mem_singleton.mp hx]
        exact .of3 at3
      have S2 := disp1 (od := od2) (v := 4096) eD2 at3
      have se := disp_sm (a := dnO P w D2 (nPuts [] [(nk3 (nm, false, Al.ng (Al.spin loose nm)), q2, V.int 4096)])) (b := .frz od2 (dnO P w D2 (nPuts [] [(nk3 (nm, false, Al.ng (Al.spin loose nm)), q2, V.int 4096)]))) sd hD2
      have eD1 := ((Same.new hq1).trans se) _ _ (upd_same (a := D1))
      have at2 : At2 K _ (nm, false) q1 := sq_tk (SqT.of upd_same) (.same se)
      refine ⟨eD1, [(nk2 (nm, false), q1, .ref D2)], rfl, (by show 1 ≤ 15; decide), fun x hx => ?_, D1, _, rfl, upd_same, trivial, fun od => ?_⟩
      · rw [List.mem_singleton.mp hx]
        exact .of2 at2
      exact k _ D1 (disp_sm ((s1.trans (Same.new hD1)).trans ((Same.new hq1).trans se)) (s1.free hD1)) (s1.free hD1) (fld_made (xs := [(false, q1, D2)]) eD1 (by simp) fun x hx => by
        rw [List.mem_singleton.mp hx]
        exact ⟨at2, S2⟩)
    | false =>
      apply ite_sne (show ("peg" : Str) ≠ "mirror" by decide)
      refine ⟨_, rfl, la, _, dl, _, _, rfl, s1 _ _ hla, LC.cl, LC.na _ (by decide), rfl, rfl, _, rfl, ?_⟩
      apply ite_seq
      refine fun D1 hD1 => ⟨_, rfl, (by show 2 ≤ sizeLine; decide), fun q1 hq1 D2 hD2 => ?_⟩
      refine ⟨_, rfl, _, rfl, (by show 3 ≤ sizeLine; decide), fun q2 hq2 => ?_⟩
      have e2 : SqT K (upd (upd (upd (upd H1 D1 (dnO P w D1 [])) q1 (.tup [.str nm, .bl false])) D2 (dnO P w D2 [])) q2 (.tup [.str nm, .bl true, .ref r1])) r1 ((Al.still loose.length).map V.int) := sq_tk e1 ((Tk.new hD1).trans ((Tk.new hq1).trans ((Tk.new hD2).trans (Tk.new hq2))))
      have sd : Same (upd (upd H1 D1 (dnO P w D1 [])) q1 (.tup [.str nm, .bl false])) (upd (upd (upd (upd H1 D1 (dnO P w D1 [])) q1 (.tup [.str nm, .bl false])) D2 (dnO P w D2 [])) q2 (.tup [.str nm, .bl true, .ref r1])) := sm_new (Same.new hD2) hq2
      have eD2 : (upd (upd (upd (upd H1 D1 (dnO P w D1 [])) q1 (.tup [.str nm, .bl false])) D2 (dnO P w D2 [])) q2 (.tup [.str nm, .bl true, .ref r1])) D2 = some (dnO P w D2 []) := Same.new hq2 _ _ upd_same
      have at3 : At3 K (upd (upd (upd (upd H1 D1 (dnO P w D1 [])) q1 (.tup [.str nm, .bl false])) D2 (dnO P w D2 [])) q2 (.tup [.str nm, .bl true, .ref r1])) (nm, true, Al.still loose.length) q2 := ⟨r1, SqT.of upd_same, e2⟩
      refine ⟨eD2, [(nk3 (nm, true, Al.still loose.length), q2, .int 4096)], rfl, (by show 1 ≤ 15; decide), fun x hx => ?_, D2, _, rfl, upd_same, trivial, fun od2 => ?_⟩
      · rw [List.mem_singleton.mp hx]
        exact .of3 at3
      have S2 := disp1 (od := od2) (v := 4096) eD2 at3
      have se := disp_sm (a := dnO P w D2 (nPuts [] [(nk3 (nm, true, Al.still loose.length), q2, V.int 4096)])) (b := .frz od2 (dnO P w D2 (nPuts [] [(nk3 (nm, true, Al.still loose.length), q2, V.int 4096)]))) sd hD2
      have e3 := sq_tk e2 (.putput (a := dnO P w D2 (nPuts [] [(nk3 (nm, true, Al.still loose.length), q2, V.int 4096)])) (b := .frz od2 (dnO P w D2 (nPuts [] [(nk3 (nm, true, Al.still loose.length), q2, V.int 4096)]))) eD2 trivial)
      refine ⟨_, rfl, (by show 2 ≤ sizeLine; decide), fun q3 hq3 D3 hD3 => ?_⟩
      refine ⟨_, rfl, _, rfl, (by show 3 ≤ sizeLine; decide), fun q4 hq4 => ?_⟩
      have tk4 := (Tk.new (o := .tup [.str nm, .bl true]) hq3).trans ((Tk.new (o := dnO P w D3 []) hD3).trans (Tk.new (o := .tup [.str nm, .bl false, .ref r1]) hq4))
      have sg := sm_new (o := .tup [.str nm, .bl false, .ref r1]) (Same.new (o := dnO P w D3 []) hD3) hq4
      have eD3 := Same.new (o := .tup [.str nm, .bl false, .ref r1]) hq4 _ _ (upd_same (a := D3) (o := dnO P w D3 []))
      have at4 : At3 K _ (nm, false, Al.still loose.length) q4 := ⟨r1, SqT.of upd_same, sq_tk e3 tk4⟩
      refine ⟨eD3, [(nk3 (nm, false, Al.still loose.length), q4, .int 4096)], rfl, (by show 1 ≤ 15; decide), fun x hx => ?_, D3, _, rfl, upd_same, trivial, fun od3 => ?_⟩
      · rw [List.mem_singleton.mp hx]
        exact .of3 at4
      have S3 := disp1 (od := od3) (v := 4096) eD3 at4
      have sh := disp_sm (a := dnO P w D3 (nPuts [] [(nk3 (nm, false, Al.still loose.length), q4, V.int 4096)])) (b := .frz od3 (dnO P w D3 (nPuts [] [(nk3 (nm, false, Al.still loose.length), q4, V.int 4096)]))) sg hD3
      have sf := (Same.new (o := .tup [.str nm, .bl true]) hq3).trans sh
      have eD1 := (((Same.new hq1).trans se).trans sf) _ _ (upd_same (a := D1))
      have at2 : At2 K _ (nm, false) q1 := sq_tk (SqT.of upd_same) (.same (se.trans sf))
      have at2' : At2 K _ (nm, true) q3 := sq_tk (SqT.of upd_same) (.same sh)
      refine ⟨eD1, [(nk2 (nm, false), q1, .ref D2), (nk2 (nm, true), q3, .ref D3)], rfl, (by show 2 ≤ 15; decide), fun x hx => ?_, D1, _, rfl, upd_same, trivial, fun od => ?_⟩
      · simp only [List.mem_cons, List.not_mem_nil, or_false] at hx
        rcases hx with rfl | rfl
        · exact .of2 at2
        · exact .of2 at2'
      exact k _ D1 (disp_sm ((s1.trans (Same.new hD1)).trans (((Same.new hq1).trans se).trans sf)) (s1.free hD1)) (s1.free hD1) (fld_made (xs := [(false, q1, D2), (true, q3, D3)]) eD1 (by simp) fun x hx => by
        simp only [List.mem_cons, List.not_mem_nil, or_false] at hx
        rcases hx with rfl | rfl
        · exact ⟨at2, S2.tk (.same sf)⟩
        · exact ⟨at2', S3⟩)
  | on nm a ha =>
    apply ite_sne (show ("on" : Str) ≠ "any" by decide)
    refine iteF ⟨_, rfl, la, _, dl, _, _, rfl, s1 _ _ hla, LC.cl, LC.na _ (by decide), rfl, rfl, _, rfl, ?_⟩
    apply ite_sne (show ("on" : Str) ≠ "any" by decide)
    refine ⟨_, rfl, la, _, dl, _, _, rfl, s1 _ _ hla, LC.cl, LC.na _ (by decide), rfl, rfl, _, rfl, ?_⟩
    apply ite_seq
    obtain ⟨kvs, hmd, _, hmv⟩ := PA.md
    obtain ⟨ga, v1, ⟨dy, mp, mq, m1, m2, m3⟩⟩ := hmv _ a ha
    have mi := (PI.mi _ a ha).1
    have hB := PI.b
    have nb := PI.nb _ a ha
    refine ⟨_, rfl, pl, _, dx, _, _, rfl, s1 _ _ hpl, PC.cl, PC.na _ (by decide), rfl, _, rfl, la, _, dl, _, _, rfl, s1 _ _ hla, LC.cl, LC.na _ (by decide), rfl, .inr (.inl ⟨po, _, _, _, rfl, rfl, sq_tk hpo (.same s1), atI_of (j := 0) rfl rfl, ?_⟩)⟩
    refine ⟨md, _, rfl, DGet.at_ (s1 _ _ hmd) v1, ?_⟩
    have eF : flS loose mv ⟨false, nm, .on, [a]⟩ false = Al.turned (Al.summed [((nm, false, Al.still loose.length), (4096 : Int))] (Al.negated (mv a).sh)) (mv a).sign (Al.ng (mv a).pw) := rfl
    generalize mv a = g at m1 m2 m3 mi nb eF
    refine fun D2 hD2 => ⟨_, rfl, _, rfl, (by show 3 ≤ sizeLine; decide), fun q2 hq2 => ?_⟩
    have at3 : At3 K (upd (upd H1 D2 (dnO P w D2 [])) q2 (.tup [.str nm, .bl false, .ref r1])) (nm, false, Al.still loose.length) q2 := ⟨r1, SqT.of upd_same, sq_tk e1 ((Tk.new hD2).trans (.new hq2))⟩
    have eD2 : (upd (upd H1 D2 (dnO P w D2 [])) q2 (.tup [.str nm, .bl false, .ref r1])) D2 = some (dnO P w D2 []) := Same.new hq2 _ _ upd_same
    refine ⟨eD2, [(nk3 (nm, false, Al.still loose.length), q2, .int 4096)], rfl, (by show 1 ≤ 15; decide), fun x hx => ?_, D2, _, rfl, upd_same, trivial, fun od2 => ?_⟩
    · rw [List.mem_singleton.mp hx]
      exact .of3 at3
    have S2 := disp1 (od := od2) (v := 4096) eD2 at3
    have se := disp_sm (a := dnO P w D2 (nPuts [] [(nk3 (nm, false, Al.still loose.length), q2, V.int 4096)])) (b := .frz od2 (dnO P w D2 (nPuts [] [(nk3 (nm, false, Al.still loose.length), q2, V.int 4096)]))) (sm_new (o := .tup [.str nm, .bl false, .ref r1]) (Same.new (o := dnO P w D2 []) hD2) hq2) hD2
    have sA := s1.trans se
    refine ⟨_, rfl, ga, _, dy, _, _, rfl, sA _ _ m1, MC.cl, MC.na _ (by decide), rfl, mq, g.sh, rfl, m3.tk (.same sA), (by unfold Small; have := mi.l; omega), mi.s.nd, fun H3 r3 s3 hr3 S3 => ?_⟩
    have gl := negated_len g.sh
    have i1 : InS [((nm, false, Al.still loose.length), (4096 : Int))] := InS.one (by show (Al.still loose.length).length ≤ 12; unfold Al.still; rw [List.length_replicate]; exact PI.n) (by decide)
    refine ⟨D2, r3, _, _, rfl, S2.tk (.same s3), S3, (by have := mi.l; rw [gl]; show 1 + g.sh.length ≤ 8000000; omega), i1.nd, negated_nd mi.s.nd, fun H4 r4 s4 hr4 S4 => ?_⟩
    have sB : Same H H4 := (sA.trans s3).trans s4
    have i2 : InS (Al.summed [((nm, false, Al.still loose.length), (4096 : Int))] (Al.negated g.sh)) := i1.summed mi.s.negated (by
      rw [Al.n1_negated]
      have e : Al.n1 [((nm, false, Al.still loose.length), (4096 : Int))] = 4096 := rfl
      rw [e]
      exact add_pow nb (by decide) (by decide) (by decide))
    have l4 := summed_len [((nm, false, Al.still loose.length), (4096 : Int))] (Al.negated g.sh)
    refine fun D1 hD1 => ⟨_, rfl, (by show 2 ≤ sizeLine; decide), fun q1 hq1 => ?_⟩
    have sC := sm_new (o := .tup [.str nm, .bl false]) (sm_new (o := dnO P w D1 []) sB hD1) hq1
    refine ⟨_, rfl, _, rfl, ga, _, dy, _, _, rfl, sC _ _ m1, MC.cl, MC.na _ (by decide), rfl, _, rfl, ga, _, dy, _, _, rfl, sC _ _ m1, MC.cl, MC.na _ (by decide), rfl, mp, _, rfl, sq_tk m2 (.same sC), mi.pw, fun H5 r5 s5 hr5 e5 => ?_⟩
    refine ⟨r4, r5, _, _, _, rfl, (S4.tk (.new hD1)).tk ((Tk.new hq1).trans (.same s5)), i2, (by unfold Small; have := mi.l; rw [gl] at l4; have e : [((nm, false, Al.still loose.length), (4096 : Int))].length = 1 := rfl; rw [e] at l4; omega), SqT.of e5, mi.sg, fun H6 r6 s6 hr6 S6 => ?_⟩
    have sf := s5.trans s6
    have eD1 := ((Same.new (o := .tup [.str nm, .bl false]) hq1).trans sf) _ _ (upd_same (a := D1) (o := dnO P w D1 []))
    have at2 : At2 K H6 (nm, false) q1 := sq_tk (SqT.of upd_same) (.same sf)
    refine ⟨eD1, [(nk2 (nm, false), q1, .ref r6)], rfl, (by show 1 ≤ 15; decide), fun x hx => ?_, D1, _, rfl, upd_same, trivial, fun od => ?_⟩
    · rw [List.mem_singleton.mp hx]
      exact .of2 at2
    exact k _ D1 (disp_sm (sC.trans sf) (sB.free hD1)) (sB.free hD1) (fld_made (xs := [(false, q1, r6)]) (F := flS loose mv ⟨false, nm, .on, [a]⟩) eD1 (by simp) fun x hx => by
      rw [List.mem_singleton.mp hx]
      refine ⟨at2, ?_⟩
      show ShF P w K H6 r6 (flS loose mv ⟨false, nm, .on, [a]⟩ false)
      rw [eF]
      exact S6)
  | thr nm p hp =>
    apply ite_sne (show ("through" : Str) ≠ "any" by decide)
    refine iteF ⟨_, rfl, la, _, dl, _, _, rfl, s1 _ _ hla, LC.cl, LC.na _ (by decide), rfl, rfl, _, rfl, ?_⟩
    apply ite_sne (show ("through" : Str) ≠ "any" by decide)
    refine ⟨_, rfl, la, _, dl, _, _, rfl, s1 _ _ hla, LC.cl, LC.na _ (by decide), rfl, rfl, _, rfl, ?_⟩
    apply ite_sne (show ("through" : Str) ≠ "on" by decide)
    exact fun D hD => ⟨D, _, rfl, upd_same, trivial, fun od => k _ D (disp_sm s1 (s1.free hD)) (s1.free hD) ⟨od, [], (by rw [upd_upd]; exact upd_same), rfl, fun x hx => by cases hx⟩⟩
  | along nm a p ha hp =>
    apply ite_sne (show ("along" : Str) ≠ "any" by decide)
    refine iteF ⟨_, rfl, la, _, dl, _, _, rfl, s1 _ _ hla, LC.cl, LC.na _ (by decide), rfl, rfl, _, rfl, ?_⟩
    apply ite_sne (show ("along" : Str) ≠ "any" by decide)
    refine ⟨_, rfl, la, _, dl, _, _, rfl, s1 _ _ hla, LC.cl, LC.na _ (by decide), rfl, rfl, _, rfl, ?_⟩
    apply ite_sne (show ("along" : Str) ≠ "on" by decide)
    exact fun D hD => ⟨D, _, rfl, upd_same, trivial, fun od => k _ D (disp_sm s1 (s1.free hD)) (s1.free hD) ⟨od, [], (by rw [upd_upd]; exact upd_same), rfl, fun x hx => by cases hx⟩⟩
  | across nm a p ha hp =>
    apply ite_sne (show ("across" : Str) ≠ "any" by decide)
    refine iteF ⟨_, rfl, la, _, dl, _, _, rfl, s1 _ _ hla, LC.cl, LC.na _ (by decide), rfl, rfl, _, rfl, ?_⟩
    apply ite_sne (show ("across" : Str) ≠ "any" by decide)
    refine ⟨_, rfl, la, _, dl, _, _, rfl, s1 _ _ hla, LC.cl, LC.na _ (by decide), rfl, rfl, _, rfl, ?_⟩
    apply ite_sne (show ("across" : Str) ≠ "on" by decide)
    exact fun D hD => ⟨D, _, rfl, upd_same, trivial, fun od => k _ D (disp_sm s1 (s1.free hD)) (s1.free hD) ⟨od, [], (by rw [upd_upd]; exact upd_same), rfl, fun x hx => by cases hx⟩⟩
  | frmM nm a b ha hb =>
    apply ite_sne (show ("from" : Str) ≠ "any" by decide)
    refine iteF ⟨_, rfl, la, _, dl, _, _, rfl, s1 _ _ hla, LC.cl, LC.na _ (by decide), rfl, rfl, _, rfl, ?_⟩
    apply ite_sne (show ("from" : Str) ≠ "any" by decide)
    refine ⟨_, rfl, la, _, dl, _, _, rfl, s1 _ _ hla, LC.cl, LC.na _ (by decide), rfl, rfl, _, rfl, ?_⟩
    apply ite_sne (show ("from" : Str) ≠ "on" by decide)
    exact fun D hD => ⟨D, _, rfl, upd_same, trivial, fun od => k _ D (disp_sm s1 (s1.free hD)) (s1.free hD) ⟨od, [], (by rw [upd_upd]; exact upd_same), rfl, fun x hx => by cases hx⟩⟩
  | frmP nm p a hp ha =>
    apply ite_sne (show ("from" : Str) ≠ "any" by decide)
    refine iteF ⟨_, rfl, la, _, dl, _, _, rfl, s1 _ _ hla, LC.cl, LC.na _ (by decide), rfl, rfl, _, rfl, ?_⟩
    apply ite_sne (show ("from" : Str) ≠ "any" by decide)
    refine ⟨_, rfl, la, _, dl, _, _, rfl, s1 _ _ hla, LC.cl, LC.na _ (by decide), rfl, rfl, _, rfl, ?_⟩
    apply ite_sne (show ("from" : Str) ≠ "on" by decide)
    exact fun D hD => ⟨D, _, rfl, upd_same, trivial, fun od => k _ D (disp_sm s1 (s1.free hD)) (s1.free hD) ⟨od, [], (by rw [upd_upd]; exact upd_same), rfl, fun x hx => by cases hx⟩⟩
  | is_ mir nm a row hr1 ha hk h5 =>
    apply ite_sne (show ("is" : Str) ≠ "any" by decide)
    refine iteF ⟨_, rfl, la, _, dl, _, _, rfl, s1 _ _ hla, LC.cl, LC.na _ (by decide), rfl, rfl, _, rfl, ?_⟩
    apply ite_sne (show ("is" : Str) ≠ "any" by decide)
    refine ⟨_, rfl, la, _, dl, _, _, rfl, s1 _ _ hla, LC.cl, LC.na _ (by decide), rfl, rfl, _, rfl, ?_⟩
    apply ite_sne (show ("is" : Str) ≠ "on" by decide)
    exact fun D hD => ⟨D, _, rfl, upd_same, trivial, fun od => k _ D (disp_sm s1 (s1.free hD)) (s1.free hD) ⟨od, [], (by rw [upd_upd]; exact upd_same), (by cases mir <;> rfl), fun x hx => by cases hx⟩⟩
  | about nm p q hp hq =>
    apply ite_sne (show ("about" : Str) ≠ "any" by decide)
    refine iteF ⟨_, rfl, la, _, dl, _, _, rfl, s1 _ _ hla, LC.cl, LC.na _ (by decide), rfl, rfl, _, rfl, ?_⟩
    apply ite_sne (show ("about" : Str) ≠ "any" by decide)
    refine ⟨_, rfl, la, _, dl, _, _, rfl, s1 _ _ hla, LC.cl, LC.na _ (by decide), rfl, rfl, _, rfl, ?_⟩
    apply ite_sne (show ("about" : Str) ≠ "on" by decide)
    exact fun D hD => ⟨D, _, rfl, upd_same, trivial, fun od => k _ D (disp_sm s1 (s1.free hD)) (s1.free hD) ⟨od, [], (by rw [upd_upd]; exact upd_same), rfl, fun x hx => by cases hx⟩⟩
  | amid nm p q hp hq =>
    apply ite_sne (show ("amid" : Str) ≠ "any" by decide)
    refine iteF ⟨_, rfl, la, _, dl, _, _, rfl, s1 _ _ hla, LC.cl, LC.na _ (by decide), rfl, rfl, _, rfl, ?_⟩
    apply ite_sne (show ("amid" : Str) ≠ "any" by decide)
    refine ⟨_, rfl, la, _, dl, _, _, rfl, s1 _ _ hla, LC.cl, LC.na _ (by decide), rfl, rfl, _, rfl, ?_⟩
    apply ite_sne (show ("amid" : Str) ≠ "on" by decide)
    exact fun D hD => ⟨D, _, rfl, upd_same, trivial, fun od => k _ D (disp_sm s1 (s1.free hD)) (s1.free hD) ⟨od, [], (by rw [upd_upd]; exact upd_same), rfl, fun x hx => by cases hx⟩⟩
end

end K12

namespace K12
open PySem PySem.Spec PyProof.Rows L2 Lm
open C8 (Cal Mak Met pe_c pe_mk pe_mt pe_mt0 pss_cut tCut)
open LamX (CodeO TabS Tabs ExtN TabB)
--KR 9
--NOTOP
abbrev s_is_loose : Stmt := top 21
abbrev n_is_loose : List Str := ["line"]
abbrev p_is_loose : List Str := ["line"]
theorem sc_is_loose : FnScope n_is_loose p_is_loose (defScope s_is_loose) := ⟨rfl, rfl, rfl, by decide +kernel, rfl, by decide +kernel, by decide +kernel⟩
abbrev s_plan_of : Stmt := top 44
abbrev n_plan_of : List Str := ["lines", "plan", "line", "flips", "key", "move"]
abbrev p_plan_of : List Str := ["lines"]
theorem sc_plan_of : FnScope n_plan_of p_plan_of (defScope s_plan_of) := ⟨rfl, rfl, rfl, by decide +kernel, rfl, by decide +kernel, by decide +kernel⟩
section
variable {P : Program} {w : World} {K : PySem.W.Frag} {mg : Str → Option Value} {base : Heap} {f : Addr} {fd : FuncData}
theorem ok_is_loose (F : FunD K "is_loose" "is_loose" (defArgs s_is_loose) (defBody s_is_loose) (defScope s_is_loose) [] [] f fd) (hm : mg "is_loose" = some (.ref f)) (T : Bl mg base) (LC : ObC K mg "Line" ["text", "form", "word", "name", "others", "wanted", "row"]) : Cal P w K mg base 1 "is_loose" (spIsLoose K) [] := by
  refine calD F hm sc_is_loose (fun _ _ _ _ _ _ us hl => match us, hl with | [_], _ => rfl) (fun vs H Q E h => ?_) (fun cdv A outer s H vs Q E hr h => ?_)
  · obtain ⟨a, t, l, rfl, _⟩ := h
    rfl
  obtain ⟨a, t, l, rfl, LA, k⟩ := h
  refine ⟨_, (pss_one (ps_ret (pe_and (pe_cmpR op_eq (pe_fld (pv 0) rfl) pe_str (nomark _)) (pe_one (pe_or (pe_cmpR op_eq (pe_fld (pv 0) rfl) pe_str (nomark _)) (pe_one (pe_cmpR op_eq (pe_fld (pv 0) rfl) pe_str (nomark _)))))))), ?_⟩
  obtain ⟨dl, po, pw, pr, hla, _, _, _⟩ := LA
  refine ⟨_, rfl, a, _, dl, _, _, rfl, hla, LC.cl, LC.na _ (by decide), rfl, rfl, _, rfl, ?_⟩
  rcases l with ⟨mir, nm, fm, oth⟩
  cases mir with
  | false =>
    apply ite_sne (show ("peg" : Str) ≠ "mirror" by decide)
    exact k
  | true =>
    apply ite_seq
    refine ⟨_, rfl, a, _, dl, _, _, rfl, hla, LC.cl, LC.na _ (by decide), rfl, rfl, _, rfl, ?_⟩
    by_cases c : fm = .free
    · subst c
      apply ite_seq
      exact k
    · have ne : formS fm ≠ "any" := by cases fm <;> first | exact absurd rfl c | decide
      apply ite_sne ne
      refine ⟨_, rfl, a, _, dl, _, _, rfl, hla, LC.cl, LC.na _ (by decide), rfl, rfl, ?_⟩
      have e : decide (V.str (formS fm) = V.str "through") = isLoose ⟨true, nm, fm, oth⟩ := by
        by_cases d : fm = .thr
        · subst d
          rfl
        · have ne2 : formS fm ≠ "through" := by cases fm <;> first | exact absurd rfl d | decide
          rw [decide_eq_false (fun z => ne2 (by injection z))]
          unfold isLoose
          rw [decide_eq_false (show ¬ fm = .free from c), decide_eq_false (show ¬ fm = .thr from d)]
          rfl
      rw [← e] at k
      exact k
theorem ok_plan_of {aA : Addr} (F : FunD K "plan_of" "plan_of" (defArgs s_plan_of) (defBody s_plan_of) (defScope s_plan_of) [] [] f fd) (hm : mg "plan_of" = some (.ref f)) (T : Bl mg base) (PC : ObC K mg "Plan" ["loose", "moves", "flips"]) (MC : ObC K mg "Move" ["over", "sign", "powers", "shares"]) (LC : ObC K mg "Line" ["text", "form", "word", "name", "others", "wanted", "row"])
    (hA : mg "ASKED" = some (.ref aA)) (kA1 : KDct K w aA "mirror" (.str "mirroring")) (kA2 : KDct K w aA "peg" (.str "half turn")) (c_Plan : Mak P w K mg base 1 "Plan" (He.ga K "Plan") (spPlI P w K) []) (c_is_loose : Cal P w K mg base 1 "is_loose" (spIsLoose K) [])
    (c_flips_of : Cal P w K mg base 3 "flips_of" (spFlips P w K) []) (c_move_of : Cal P w K mg base 5 "move_of" (spLn P w K (fun _ _ => True) movS) []) (c_kind_of : Cal P w K mg base 4 "kind_of" (spKind P w K) []) :
    Cal P w K mg base 6 "plan_of" (spPlan P w K) [] := by
  refine calD F hm sc_plan_of (fun _ _ _ _ _ _ us hl => match us, hl with | [_], _ => rfl) (fun vs H Q E h => ?_) (fun cdv A outer s H vs Q E hr h => ?_)
  · obtain ⟨la, as, ts, ls, rfl, _⟩ := h
    rfl
  obtain ⟨la, as, ts, ls, rfl, hl, ⟨lals, hls⟩, vb, k⟩ := h
  refine ⟨_, (pss_cons (ps_set (i := 1) sc_plan_of.nd rfl (by first | exact Or.inl rfl | exact Or.inr rfl) (pe_mk c_Plan hr (by decide) (by rfl) (pa_cons (pe_callTy call_tuple_of (by rfl) T.tuple (by decide +kernel) (pa_cons (pe_lc (own := [("line", 2)]) (g := (gName 2)) rfl sc_plan_of.nd (pi_list (pv 0)) (blkOk_by (own := [("line", 2)]) (N := n_plan_of) (sc := defScope s_plan_of) (by decide +kernel)) (fun _ _ _ _ _ => (pg_name (i := 2) sc_plan_of.nd rfl (by first | exact Or.inl rfl | exact Or.inr rfl))) (fun _ _ _ _ _ => (pts_one (pt_val (pe_c c_is_loose hr (by decide) (by rfl) (pa_cons (pv 2) pa_nil))))) (fun _ _ _ _ _ => (pe_fldP K (pv 2) rfl))) pa_nil)) pa_nil)))
    (pss_cons (ps_for PassesOwn.never rfl (pi_list (pv 0)) (pg_name (i := 2) sc_plan_of.nd rfl (by first | exact Or.inl rfl | exact Or.inr rfl))
    (pss_cons (ps_set (i := 3) sc_plan_of.nd rfl (by first | exact Or.inl rfl | exact Or.inr rfl) (pe_c c_flips_of hr (by decide) (by rfl) (pa_cons (pv 1) (pa_cons (pv 2) pa_nil))))
    (pss_cons (ps_for PassesOwn.never rfl (pi_nkeys (pv 3)) (pg_name (i := 4) sc_plan_of.nd rfl (by first | exact Or.inl rfl | exact Or.inr rfl))
    (pss_one (ps_nput (units10 hr) (pe_fld (pv 1) rfl) (pv 4) (pe_ngetP P w K (units10 hr) (pv 3) (pv 4) (fun _ _ => rfl)) (by rfl))))
    (pss_cons (ps_set (i := 5) sc_plan_of.nd rfl (by first | exact Or.inl rfl | exact Or.inr rfl) (pe_c c_move_of hr (by decide) (by rfl) (pa_cons (pv 1) (pa_cons (pv 2) pa_nil))))
    (pss_cut (ps_if (PW.pt (pw_and (pt_cmpR op_eq (pe_fld (pv 2) rfl) pe_str (nomark _)) (pw_and1 (pt_cmpR op_ne (pe_c c_kind_of hr (by decide) (by rfl) (pa_cons (pv 5) (pa_cons (pe_fld (pv 1) rfl) pa_nil))) (pe_ix ix_kdict (pe_glob (v := .ref aA) (by rfl) hA rfl) (pe_fld (pv 2) rfl) (fun _ _ => rfl)) (nomark _))))) (pss_one (ps_ret (pv 1))) pss_nil)
    (pss_one (ps_dput (units1 hr) (pe_fld (pv 1) rfl) (pe_fldP K (pv 2) rfl) (pv 5) (by rfl))))))))
    (pss_one (ps_ret (pv 1))))), ?_⟩
  have n12 := vb.n
  -- the loose ones' names
  refine ⟨_, rfl, la, rfl, ⟨_, hl⟩, fun D hD => ?_⟩
  refine lc_it walk_list (fun i H' => Same H H' ∧ H' D = some (.lst ((looseS (ls.take i)).map V.str))) ⟨Same.new hD, upd_same⟩ (fun i H' _ h => Same.seq h.1 hl) ?_ ?_
  · rintro i x H1 H2 hi ⟨s1, e1⟩ ⟨rfl, hu⟩
    rw [List.length_map] at hi
    obtain ⟨a, ha, rfl⟩ := map_at hu
    have hj : i < ls.length := by omega
    obtain ⟨l, hl⟩ : ∃ l, ls[i]? = some l := ⟨_, List.getElem?_eq_getElem hj⟩
    obtain ⟨t, _, LA⟩ := hls i a l ha hl
    have LA1 := LA.same s1
    obtain ⟨dl, po, pw, pr, hla, _, _, _⟩ := id LA1
    have tk : looseS (ls.take (i + 1)) = if isLoose l = true then looseS (ls.take i) ++ [l.name] else looseS (ls.take i) := by
      unfold looseS
      rw [List.take_add_one, hl, List.filter_append, List.map_append]
      cases q : isLoose l <;> simp [q]
    refine ⟨rfl, ⟨_, rfl, a, t, l, rfl, LA1, _, rfl, ?_⟩⟩
    cases q : isLoose l with
    | true =>
      rw [q, if_pos rfl] at tk
      refine iteT ⟨_, rfl, a, _, dl, _, _, rfl, hla, LC.cl, LC.na _ (by decide), rfl, _, e1, ?_, sm_put s1 hD, ?_⟩
      · rw [List.length_map]
        refine Nat.lt_of_le_of_lt (m := 12) ?_ (by decide)
        unfold looseS
        rw [List.length_map]
        refine Nat.le_trans (List.length_filter_le _ _) ?_
        rw [List.length_take]
        omega
      · rw [upd_same, tk, List.map_append]
        rfl
    | false =>
      rw [q, if_neg (by decide)] at tk
      refine iteF ⟨s1, ?_⟩
      rw [tk]
      exact e1
  rintro H1 ⟨s1, e1⟩
  rw [List.length_map, lals, List.take_length] at e1
  refine ⟨D, _, rfl, .inl ⟨SqL.of e1, fun p0 hp0 => ?_⟩⟩
  have s2 := sm_new (o := .tup ((looseS ls).map V.str)) s1 hp0
  intro pl dx hpl hdx ne
  refine ⟨pl, dx, p0, rfl, upd_same, fun H' md fd hmd hfd kb h1 h2 h3 mf => ⟨rfl, ?_⟩⟩
  have hp : ∀ b o, (upd H1 p0 (.tup ((looseS ls).map V.str))) b = some o → b ≠ pl ∧ b ≠ dx := fun b o e => ⟨ne_of_none e hpl, ne_of_none e hdx⟩
  have s3 : Same (upd H1 p0 (.tup ((looseS ls).map V.str))) H' := fun b o e => kb b o (by rw [upd_ne (hp b o e).1, upd_ne (hp b o e).2]; exact e) (hp b o e).1
  have fr : ∀ b, (upd (upd (upd H1 p0 (.tup ((looseS ls).map V.str))) dx (.own pl)) pl (.ins (He.ga K "Plan") dx [])) b = none → H b = none := fun b e => by
    have h1 : b ≠ pl := fun z => by rw [z, upd_same] at e; cases e
    rw [upd_ne h1] at e
    have h2 : b ≠ dx := fun z => by rw [z, upd_same] at e; cases e
    rw [upd_ne h2] at e
    exact s2.free e
  have hmd0 := fr md hmd
  have hfd0 := fr fd hfd
  have hpl0 : H pl = none := s2.free hpl
  have s4 := s2.trans s3
  have hp0' : SqT K H' p0 ((looseS ls).map V.str) := SqT.of (s3 _ _ upd_same)
  have PA0 : PlAt P w K H' pl md fd (looseS ls) (stI (looseS ls) (ls.take 0)).ev.fl (stI (looseS ls) (ls.take 0)).ev.kn (stI (looseS ls) (ls.take 0)).mv (stI (looseS ls) (ls.take 0)).ns 0 :=
    ⟨⟨dx, p0, h1, hp0'⟩, ⟨[], h2, rfl, fun _ _ z => by cases z⟩, ⟨[], h3, Nat.le_refl _, (fun _ z => by cases z), fun _ _ z => False.elim z⟩⟩
  clear kb h1 h2 h3 hp0' fr hp hmd hfd hpl hdx s3 s2 hp0 e1 s1
  refine ⟨_, rfl, la, rfl, ⟨_, Same.seq s4 hl⟩, ?_⟩
  refine for_it walk_list (fun i σ H2 => Same H H2 ∧ PlAt P w K H2 pl md fd (looseS ls) (stI (looseS ls) (ls.take i)).ev.fl (stI (looseS ls) (ls.take i)).ev.kn (stI (looseS ls) (ls.take i)).mv (stI (looseS ls) (ls.take i)).ns (2 * i) ∧ ∃ c2 c3 c4 c5, σ = [some (.ref la), some (.ref pl), c2, c3, c4, c5])
    ⟨s4, PA0, _, _, _, _, rfl⟩ (fun i σ H2 _ h => Same.seq h.1 hl) ?_ ?_
  · rintro i x σ Hx H2 hi ⟨s2, PA, c2, c3, c4, c5, rfl⟩ ⟨rfl, hx⟩
    rw [List.length_map] at hi
    obtain ⟨a, ha, rfl⟩ := map_at hx
    have hj : i < ls.length := by omega
    obtain ⟨l, hl⟩ : ∃ l, ls[i]? = some l := ⟨_, List.getElem?_eq_getElem hj⟩
    obtain ⟨t, _, LA⟩ := hls i a l ha hl
    obtain ⟨LO, new⟩ := vb.ok i l hl
    have PI := vb.pli (i := i) (by omega)
    have PI2 := vb.pli (i := i + 1) (by omega)
    have iv := vb.iv vb.lo i (by omega)
    have iv2 := vb.iv vb.lo (i + 1) (by omega)
    rw [stI_take hl] at PI2 iv2 ⊢
    rw [← stI_ns (looseS ls)] at LO new
    have hlen : (stI (looseS ls) (ls.take i)).ns.length = i := by
      rw [stI_ns]
      unfold nsS
      rw [List.length_map, List.length_take]
      omega
    generalize stI (looseS ls) (ls.take i) = st at hlen PA PI iv LO new PI2 iv2 ⊢
    have eN : st.ev.n = (looseS ls).length := iv.n
    have PI3 : PlIn (looseS ls) (Al.newE (looseS ls) st l).fl (Al.newE (looseS ls) st l).kn st.mv st.ns 1000000 := PI2.sub fun k u hu => ⟨List.mem_append_left _ hu, by
      show (if u = l.name then _ else st.mv u) = st.mv u
      rw [if_neg (fun z : u = l.name => new k (by rw [← z]; exact hu))]⟩
    have MI : MIn (Al.newE (looseS ls) st l).fl (Al.newE (looseS ls) st l).kn 1000000 (Al.newM (looseS ls) st l) ∧ (Al.newM (looseS ls) st l).over = l.mir := by
      have z := PI2.mi l.mir l.name (List.mem_append_right _ (List.mem_singleton.mpr rfl))
      have e : ((st.step (looseS ls) l).mv l.name) = Al.newM (looseS ls) st l := if_pos rfl
      rw [e] at z
      exact z
    have KA : kindS (Al.newE (looseS ls) st l).fl (Al.newM (looseS ls) st l) = askS l.mir := by
      have z := iv2.mv l.mir l.name (List.mem_append_right _ (List.mem_singleton.mpr rfl))
      have e : ((st.step (looseS ls) l).mv l.name) = Al.newM (looseS ls) st l := if_pos rfl
      rw [e] at z
      rw [← MI.2]
      refine kind_ask iv2.ok (i := (st.step (looseS ls) l).ns.length - 1) ?_ z.m
      have sl : (st.step (looseS ls) l).ns.length = st.ns.length + 1 := by
        show (st.ns ++ [(l.mir, l.name)]).length = _
        rw [List.length_append]
        rfl
      omega
    have LA2 : LnAt K H2 a t l := LA.same s2
    refine ⟨_, rfl, _, rfl, pl, md, fd, a, looseS ls, _, _, _, _, _, _, t, l, rfl, PA, PI, LA2, LO, fun H3 r s3 hr FD => ?_⟩
    have LA3 := LA2.same s3
    have PA3 := PA.same s3
    clear LA2 PA
    obtain ⟨o, xs, er, hbs, hxs⟩ := FD
    have xl : xs.length = (flB l).length := by rw [← hbs, List.length_map]
    obtain ⟨dy, p1, hpl3, hp1⟩ := PA3.pl
    obtain ⟨es0, hfd3, hm0, ks0, hg0⟩ := id PA3.fd
    have F0 : FlM P w K H3 fd (Al.newE (looseS ls) st l).fl (fun n b => st.ev.kn n b ∨ (n = l.name ∧ b ∈ (flB l).take 0)) (2 * i + 0) := PA3.fd.mono (Nat.le_refl _) fun n b q => by
      rcases q with q | ⟨_, q⟩
      · refine ⟨q, if_neg fun z => ?_⟩
        obtain ⟨kk, hk⟩ := iv.kn _ _ q
        exact new kk (by rw [← z]; exact hk)
      · rw [List.take_zero] at q
        cases q
    refine ⟨_, rfl, r, o, _, rfl, er, ?_⟩
    refine for_it walk_n (fun j σ H4 => KeptBut fd H3 H4 ∧ FlM P w K H4 fd (Al.newE (looseS ls) st l).fl (fun n b => st.ev.kn n b ∨ (n = l.name ∧ b ∈ (flB l).take j)) (2 * i + j) ∧ ∃ c4 c5, σ = [some (.ref la), some (.ref pl), some (.ref a), some (.ref r), c4, c5])
      ⟨KeptBut.refl, F0, _, _, rfl⟩ (fun j σ H4 _ h => (h.1.tk hfd3 trivial).frz _ _ _ er) ?_ ?_
    · rintro j x σ H4 H5 hj ⟨kb, ⟨es1, hfd4, hm1, ks1, hg1⟩, c4, c5, rfl⟩ ⟨rfl, e, hie, rfl⟩
      rw [List.length_map] at hj
      obtain ⟨y, hy⟩ : ∃ y, xs[j]? = some y := ⟨_, List.getElem?_eq_getElem hj⟩
      have he : e = (nk2 (l.name, y.1), y.2.1, V.ref y.2.2) := by
        rw [List.getElem?_map, hy] at hie
        exact (Option.some.inj hie).symm
      subst he
      have ym := List.mem_of_getElem? hy
      have tk := kb.tk hfd3 trivial
      obtain ⟨y1, y2⟩ := hxs y ym
      have er4 := tk.frz _ _ _ er
      have a24 : At2 K _ (l.name, y.1) y.2.1 := y1.tk tk
      have ksx : KsOk K _ (xs.map fun x => (nk2 (l.name, x.1), x.2.1, V.ref x.2.2)) := fun z hz => by
        obtain ⟨u, hu, rfl⟩ := List.mem_map.mp hz
        exact .of2 ((hxs u hu).1.tk tk)
      have by_ : (flB l)[j]? = some y.1 := by
        rw [← hbs, List.getElem?_map, hy]
        rfl
      refine ⟨_, rfl, _, rfl, r, _, nk2 (l.name, y.1), y.2.1, .ref y.2.2, rfl, .inr ⟨o, er4⟩, ⟨rfl, ksx, .of2 a24⟩, nGet_xs (by rw [hbs]; exact flB_nd l) ym, ?_⟩
      refine ⟨_, rfl, pl, _, dy, _, _, rfl, kb_ne kb hfd3 hpl3 (by intro z; cases z), PC.cl, PC.na _ (by decide), rfl, _, rfl, fd, es1, nk2 (l.name, y.1), y.2.1, rfl, hfd4, ⟨rfl, ks1, .of2 a24⟩, ?_, kb.put, ?_, _, _, rfl⟩
      · have := flB_le l
        refine Nat.lt_of_le_of_lt hm1 (Nat.lt_of_le_of_lt (m := 100) ?_ (by decide))
        omega
      · refine FlM.put hfd4 hm1 ks1 hg1 a24 ?_ fun n c q => ?_
        · have z := y2.tk tk
          have ee : (Al.newE (looseS ls) st l).fl l.name y.1 = flS (looseS ls) st.mv l y.1 := by
            show (if l.name = l.name then Al.newF st.ev st.mv (looseS ls) l y.1 else _) = _
            rw [if_pos rfl]
            unfold flS Al.newF
            rw [eN]
          rw [ee]
          exact z
        · rcases q with q | ⟨q1, q2⟩
          · exact .inl (.inl q)
          · rw [List.take_add_one, by_] at q2
            rcases List.mem_append.mp q2 with q3 | q3
            · exact .inl (.inr ⟨q1, q3⟩)
            · exact .inr ⟨q1, List.mem_singleton.mp q3⟩
    rintro σ H4 ⟨kb, FM, c4, c5, rfl⟩
    rw [List.length_map, xl, List.take_length] at FM
    have FM4 : FlM P w K H4 fd (Al.newE (looseS ls) st l).fl (Al.newE (looseS ls) st l).kn (2 * i + 2) := FM.mono (by have := flB_le l; omega) fun n b q => ⟨by
      rcases q with q | ⟨q1, q2⟩
      · exact .inl q
      · exact .inr ⟨q1, (flB_iff b).mpr q2⟩, rfl⟩
    have hpl4 := kb_ne kb hfd3 hpl3 (by intro z; cases z)
    have PA4 : PlAt P w K H4 pl md fd (looseS ls) (Al.newE (looseS ls) st l).fl (Al.newE (looseS ls) st l).kn st.mv st.ns (2 * i + 2) := ⟨⟨dy, p1, hpl4, sq_tk hp1 (kb.tk hfd3 trivial)⟩, PA3.md.kept kb hfd3, FM4⟩
    have LA4 := LA3.kept kb hfd3
    have s4 : Same H H4 := kb.sm (s2.trans s3) hfd0
    clear LA3 PA3 FM FM4 F0 kb hg0 ks0 hm0 hxs er hbs
    refine ⟨_, rfl, _, rfl, pl, md, fd, a, looseS ls, _, _, _, _, _, _, t, l, rfl, PA4, PI3, LA4, LO, trivial, fun H5 r2 s5 hr5 M5 => ?_⟩
    rw [movS_new eN] at M5
    have s45 := s4.trans s5
    have PA5 := PA4.same s5
    have LA5 := LA4.same s5
    refine ⟨fun σ H6 => Same H5 H6 ∧ ∃ c4, σ = [some (.ref la), some (.ref pl), some (.ref a), some (.ref r), c4, some (.ref r2)], ?_, ?_⟩
    · obtain ⟨dl, po, pw, pr, hla, _, _, _⟩ := id LA5
      refine ⟨_, rfl, a, _, dl, _, _, rfl, hla, LC.cl, LC.na _ (by decide), rfl, rfl, _, rfl, ?_⟩
      by_cases c : l.fm = .is_
      · refine ite_eqS (by rw [c]; rfl) ?_
        refine ⟨_, rfl, _, rfl, pl, _, dy, _, _, rfl, s5 _ _ hpl4, PC.cl, PC.na _ (by decide), rfl, r2, fd, _, _, _, _, rfl, M5, PA5.fd.r, PI3.fi, MI.1, PI3.b, fun H6 s6 => ?_⟩
        rw [KA]
        refine ⟨_, rfl, a, _, dl, _, _, rfl, s6 _ _ hla, LC.cl, LC.na _ (by decide), rfl, aA, wordS l.mir, .str (askS l.mir), rfl, rfl, ?_, rfl, _, rfl, ?_⟩
        · cases l.mir with
          | true => exact kA1
          | false => exact kA2
        · exact ite_nEq rfl ⟨s6, _, rfl⟩
      · have ne : formS l.fm ≠ "is" := by
          generalize l.fm = fm at c
          cases fm <;> first | exact absurd rfl c | decide
        refine ite_sne ne ?_
        exact iteF ⟨Same.refl _, _, rfl⟩
    rintro σ H6 ⟨s6, c6, rfl⟩
    have PA6 := PA5.same s6
    have LA6 := LA5.same s6
    have M6 := M5.same s6
    obtain ⟨dl, po, pw, pr, hla, _, _, _⟩ := id LA6
    obtain ⟨dz, p2, hpl6, hp2⟩ := PA6.pl
    obtain ⟨kvs, hmd6, hks, hmv⟩ := PA6.md
    have kl : kvs.length < sizeLine := by
      have z := congrArg List.length hks
      rw [List.length_map, List.length_map] at z
      exact Nat.lt_of_le_of_lt (m := 12) (by omega) (by decide)
    refine ⟨_, rfl, _, rfl, pl, _, dz, _, _, rfl, hpl6, PC.cl, PC.na _ (by decide), rfl, _, rfl, a, _, dl, _, _, rfl, hla, LC.cl, LC.na _ (by decide), rfl, md, _, rfl, DPut.k (k := Sum.inr l.name) hmd6 kl, sm_put (s45.trans s6) hmd0, ?_, _, _, _, _, rfl⟩
    refine ⟨⟨dz, p2, by rw [upd_ne (fun z => by rw [z, hmd6] at hpl6; cases hpl6)]; exact hpl6, sq_tk hp2 (.put hmd6 trivial)⟩, MdAt.put hmd6 hks hmv new M6, ?_⟩
    exact PA6.fd.md hmd6
  · rintro σ H2 ⟨s2, PA, c2, c3, c4, c5, rfl⟩
    rw [List.length_map, lals, List.take_length] at PA
    rw [stI_ns] at PA
    exact ⟨_, rfl, k H2 pl md fd s2 hpl0 hmd0 hfd0 PA⟩
end

end K12

namespace K12
open PySem PySem.Spec PyProof.Rows L2 Lm
open C8 (Cal Mak Met pe_c pe_mk pe_mt pe_mt0 pss_cut tCut)
open LamX (CodeO TabS Tabs ExtN TabB)
--KR 9
--NOTOP
abbrev s_row_of : Stmt := top 17
abbrev n_row_of : List Str := ["form", "others"]
abbrev p_row_of : List Str := ["form", "others"]
theorem sc_row_of : FnScope n_row_of p_row_of (defScope s_row_of) := ⟨rfl, rfl, rfl, by decide +kernel, rfl, by decide +kernel, by decide +kernel⟩
abbrev s_Line_init : Stmt := inClass (top 16) 0
abbrev n_Line_init : List Str := ["self", "text", "form", "words", "signs", "word", "sign"]
abbrev p_Line_init : List Str := ["self", "text", "form", "words", "signs"]
theorem sc_Line_init : FnScope n_Line_init p_Line_init (defScope s_Line_init) := ⟨rfl, rfl, rfl, by decide +kernel, rfl, by decide +kernel, by decide +kernel⟩
section
variable {P : Program} {w : World} {K : PySem.W.Frag} {mg : Str → Option Value} {base : Heap} {f : Addr} {fd : FuncData}
theorem ok_row_of (F : FunD K "row_of" "row_of" (defArgs s_row_of) (defBody s_row_of) (defScope s_row_of) [] [] f fd) (hm : mg "row_of" = some (.ref f)) (T : Bl mg base) : Cal P w K mg base 1 "row_of" (spRowOf K) [] := by
  refine calD F hm sc_row_of (fun _ _ _ _ _ _ us hl => match us, hl with | [_, _], _ => rfl) (fun vs H Q E h => ?_) (fun cdv A outer s H vs Q E hr h => ?_)
  · obtain ⟨g, p, oth, rfl, _⟩ := h
    rfl
  obtain ⟨g, p, oth, rfl, hp, h2, k⟩ := h
  refine ⟨_, (pss_cons (ps_if (pt_cmpR op_eq (pv 0) pe_str (nomark _)) (pss_one (ps_ret (pv 1))) pss_nil)
    (pss_cons (ps_if (PW.pt (pw_or (pt_cmpR op_eq (pv 0) pe_str (nomark _)) (pw_or1 (pt_cmpR op_eq (pv 0) pe_str (nomark _))))) (pss_one (ps_ret (pe_tup (pa_cons (pe_ix ix_seq (pv 1) pe_int (fun _ _ => rfl)) (pa_cons (pe_ix ix_seq (pv 1) pe_int (fun _ _ => rfl)) (pa_cons (pe_ix ix_seq (pv 1) pe_int (fun _ _ => rfl)) pa_nil)))))) pss_nil)
    (pss_one (ps_ret (pe_tup pa_nil))))), ?_⟩
  refine ⟨_, rfl, rfl, _, rfl, ?_⟩
  by_cases c : g = "is"
  · refine ite_eqS c ?_
    have e : rowS g oth = oth := if_pos c
    rw [e] at k
    exact ⟨_, rfl, k H p (Same.refl H) hp⟩
  refine ite_sne c ?_
  refine ⟨_, rfl, rfl, _, rfl, ?_⟩
  have two : (g = "from" ∨ g = "about") → ∃ a b, oth = [a, b] ∧ rowS g oth = [b, a, b] := fun z => by
    obtain ⟨a, b, e⟩ := h2 z
    refine ⟨a, b, e, ?_⟩
    unfold rowS
    rw [if_neg c, if_pos z, e]
  have fin : ∀ a b, oth = [a, b] → rowS g oth = [b, a, b] → ∀ r, H r = none → Q (.ref r) (upd H r (.tup [.str b, .str a, .str b])) := fun a b e1 e2 r hr => by
    rw [e2] at k
    exact k _ r (Same.new hr) (SqT.of upd_same)
  by_cases c1 : g = "from"
  · refine ite_eqS c1 ?_
    obtain ⟨a, b, e1, e2⟩ := two (.inl c1)
    have f2 := fin a b e1 e2
    subst e1
    exact ⟨_, rfl, .inr (.inl ⟨p, _, _, _, rfl, rfl, hp, atI_of (j := 1) rfl rfl, _, rfl, .inr (.inl ⟨p, _, _, _, rfl, rfl, hp, atI_of (j := 0) rfl rfl, _, rfl, .inr (.inl ⟨p, _, _, _, rfl, rfl, hp, atI_of (j := 1) rfl rfl, (by show 3 ≤ sizeLine; decide), fun r hr => f2 r hr⟩)⟩)⟩)⟩
  refine ite_sne c1 ⟨_, rfl, rfl, _, rfl, ?_⟩
  by_cases c2 : g = "about"
  · refine ite_eqS c2 ?_
    obtain ⟨a, b, e1, e2⟩ := two (.inr c2)
    have f2 := fin a b e1 e2
    subst e1
    exact ⟨_, rfl, .inr (.inl ⟨p, _, _, _, rfl, rfl, hp, atI_of (j := 1) rfl rfl, _, rfl, .inr (.inl ⟨p, _, _, _, rfl, rfl, hp, atI_of (j := 0) rfl rfl, _, rfl, .inr (.inl ⟨p, _, _, _, rfl, rfl, hp, atI_of (j := 1) rfl rfl, (by show 3 ≤ sizeLine; decide), fun r hr => f2 r hr⟩)⟩)⟩)⟩
  refine ite_sne c2 ?_
  have e : rowS g oth = [] := by
    unfold rowS
    rw [if_neg c, if_neg (fun z => z.elim c1 c2)]
  rw [e] at k
  exact ⟨(by show 0 ≤ sizeLine; decide), fun r hr => k _ r (Same.new hr) (SqT.of upd_same)⟩
theorem ok_Line_init {aW : Addr} (F : FunD K "__init__" "Line.__init__" (defArgs s_Line_init) (defBody s_Line_init) (defScope s_Line_init) [] [] f fd) (T : Bl mg base) (Tz : mg "zip" = none) (LC : ObC K mg "Line" ["text", "form", "word", "name", "others", "wanted", "row"]) (hW : mg "WANTED" = some (.ref aW)) (DW : KTab K w aW waKv) (c_row_of : Cal P w K mg base 1 "row_of" (spRowOf K) []) :
    FnOk P w K mg base CX0 2 f fd ["self", "text", "form", "words", "signs"] (spLnI K) := by
  refine F.ok sc_Line_init (fun vs H Q E h => ?_) (fun cdv A outer s H vs Q E hr h => ⟨_, (pss_cons (ps_fld (pv 0) (pv 1) rfl)
    (pss_cons (ps_fld (pv 0) (pv 2) rfl)
    (pss_cons (ps_fld (pv 0) (pe_ix ix_seq (pv 3) pe_int (fun _ _ => rfl)) rfl)
    (pss_cons (ps_fld (pv 0) (pe_ix ix_seq (pv 3) pe_int (fun _ _ => rfl)) rfl)
    (pss_cons (ps_fld (pv 0) (pe_callTy call_tuple_of (by rfl) T.tuple (by decide +kernel) (pa_cons (pe_lc (own := [("word", 5), ("sign", 6)]) (g := (gTup K 2 (gCons (gName 5) (gCons (gName 6) gNil)))) rfl sc_Line_init.nd (pi_zip (by rfl) Tz (pa_cons (pv 3) (pa_cons (pv 4) pa_nil))) (blkOk_by (own := [("word", 5), ("sign", 6)]) (N := n_Line_init) (sc := defScope s_Line_init) (by decide +kernel)) (fun _ _ _ _ _ => (pg_tup rfl (pgs_cons (pg_name (i := 5) sc_Line_init.nd rfl (by first | exact Or.inl rfl | exact Or.inr rfl)) (pgs_cons (pg_name (i := 6) sc_Line_init.nd rfl (by first | exact Or.inl rfl | exact Or.inr rfl)) pgs_nil)))) (fun _ _ _ _ _ => (pts_one (pt_cmpR (op_inT DW) (pv 6) (pe_glob (v := .ref aW) (by rfl) hW rfl) (by rfl)))) (fun _ _ _ _ _ => (pv 5))) pa_nil)) rfl)
    (pss_cons (ps_fld (pv 0) (pe_callTy call_tuple_of (by rfl) T.tuple (by decide +kernel) (pa_cons (pe_lc (own := [("sign", 6)]) (g := (gName 6)) rfl sc_Line_init.nd (pi_list (pv 4)) (blkOk_by (own := [("sign", 6)]) (N := n_Line_init) (sc := defScope s_Line_init) (by decide +kernel)) (fun _ _ _ _ _ => (pg_name (i := 6) sc_Line_init.nd rfl (by first | exact Or.inl rfl | exact Or.inr rfl))) (fun _ _ _ _ _ => (pts_one (pt_cmpR (op_inT DW) (pv 6) (pe_glob (v := .ref aW) (by rfl) hW rfl) (by rfl)))) (fun _ _ _ _ _ => (pe_ix (ix_tab DW) (pe_glob (v := .ref aW) (by rfl) hW rfl) (pv 6) (fun _ _ => rfl)))) pa_nil)) rfl)
    (pss_one (ps_fld (pv 0) (pe_c c_row_of hr (by decide) (by rfl) (pa_cons (pv 2) (pa_cons (pe_fld (pv 0) rfl) pa_nil))) rfl)))))))), ?_⟩)
  · obtain ⟨x, dx, pw, ps, text, ns, l, rfl, _⟩ := h
    rfl
  obtain ⟨x, dx, pw, ps, text, ns, l, rfl, hx, hw, hs, nw, nsx, LO, k⟩ := h
  obtain ⟨w0, w1⟩ := words01 LO
  obtain ⟨r1, r2⟩ := row_is LO
  have wl := words_len LO
  refine ⟨_, rfl, _, rfl, x, _, dx, _, rfl, hx, LC.cl, LC.na _ (by decide), (show 0 < 1000 by decide), ?_⟩
  refine ⟨_, rfl, _, rfl, x, _, dx, _, rfl, upd_same, LC.cl, LC.na _ (by decide), (show 1 < 1000 by decide), ?_⟩
  rw [upd_upd]
  refine ⟨_, rfl, .inl ⟨pw, _, _, _, rfl, rfl, sql_keep hw KeptBut.at_ nw, atI_of (j := 0) rfl (by rw [List.getElem?_map, w0]; rfl), _, rfl, x, _, dx, _, rfl, upd_same, LC.cl, LC.na _ (by decide), (show 2 < 1000 by decide), ?_⟩⟩
  rw [upd_upd]
  refine ⟨_, rfl, .inl ⟨pw, _, _, _, rfl, rfl, sql_keep hw KeptBut.at_ nw, atI_of (j := 1) rfl (by rw [List.getElem?_map, w1]; rfl), _, rfl, x, _, dx, _, rfl, upd_same, LC.cl, LC.na _ (by decide), (show 3 < 1000 by decide), ?_⟩⟩
  rw [upd_upd]
  generalize hH : upd H x (.ins (He.ga K "Line") dx (putF "name" (V.str l.name) (putF "word" (V.str (wordS l.mir)) (putF "form" (V.str (formS l.fm)) (putF "text" (V.str text) []))))) = H1
  have hw1 : SqL K H1 pw ((wordsS l).map V.str) := by
    rw [← hH]
    exact sql_keep hw KeptBut.at_ nw
  have hs1 : SqL K H1 ps ((signsS l).map V.str) := by
    rw [← hH]
    exact sql_keep hs KeptBut.at_ nsx
  have hx1 : H1 x = some (.ins (He.ga K "Line") dx [("text", .str text), ("form", .str (formS l.fm)), ("word", .str (wordS l.mir)), ("name", .str l.name)]) := by
    rw [← hH]
    exact upd_same
  have kb1 : KeptBut x H H1 := by
    rw [← hH]
    exact KeptBut.refl.put
  clear hH
  refine ⟨_, rfl, _, rfl, pw, ps, _, _, rfl, hw1, hs1, fun D hD => ?_⟩
  refine lc_it (walk_zip rfl) (fun i H' => Same H1 H' ∧ H' D = some (.lst (((((wordsS l).zip (signsS l)).take i).filter fun p => inW p.2).map fun p => V.str p.1))) ⟨Same.new hD, upd_same⟩ (fun i H' _ h => ⟨Same.seq h.1 hw1, Same.seq h.1 hs1⟩) ?_ ?_
  · rintro i y H2 H3 hi ⟨s, e⟩ ⟨T2, u, v, rfl, hT, rfl, hu, hv⟩
    obtain ⟨n, hn, rfl⟩ := map_at hu
    obtain ⟨m, hm, rfl⟩ := map_at hv
    have lt : i ≤ 8 := by
      rw [List.length_map, List.length_map] at hi
      omega
    have at_ : ((wordsS l).zip (signsS l))[i]? = some (n, m) := by
      rw [List.getElem?_zip_eq_some]
      exact ⟨hn, hm⟩
    have tk : ((((wordsS l).zip (signsS l)).take (i + 1)).filter fun p => inW p.2).map (fun p => V.str p.1) = if inW m = true then ((((wordsS l).zip (signsS l)).take i).filter fun p => inW p.2).map (fun p => V.str p.1) ++ [V.str n] else ((((wordsS l).zip (signsS l)).take i).filter fun p => inW p.2).map fun p => V.str p.1 := by
      rw [List.take_add_one, at_, List.filter_append, List.map_append]
      cases q : inW m <;> simp [q]
    refine unp2 (SqT.of upd_same) ⟨rfl, _, rfl, _, rfl, rfl, _, rfl, ?_⟩
    have eq : decide (m ∈ waKv.map (·.1)) = inW m := rfl
    rw [eq]
    cases q : inW m with
    | true =>
      rw [q, if_pos rfl] at tk
      refine iteT ⟨_, rfl, _, (by rw [upd_ne (ne_of_none e hT)]; exact e), ?_, sm_put (sm_new s hT) hD, ?_⟩
      · rw [List.length_map]
        refine Nat.lt_of_le_of_lt (m := 8) ?_ (by decide)
        refine Nat.le_trans (List.length_filter_le _ _) ?_
        rw [List.length_take]
        omega
      · rw [upd_same, tk]
    | false =>
      rw [q, if_neg (by decide)] at tk
      refine iteF ⟨sm_new s hT, ?_⟩
      rw [tk, upd_ne (ne_of_none e hT)]
      exact e
  rintro H2 ⟨s2, e2⟩
  have ez : (((((wordsS l).zip (signsS l)).take (min ((wordsS l).map V.str).length ((signsS l).map V.str).length)).filter fun p => inW p.2).map fun p => V.str p.1) = l.oth.map V.str := by
    rw [List.length_map, List.length_map, List.take_of_length_le (by rw [List.length_zip]; exact Nat.le_refl _), ← oth_is LO]
    unfold othOf
    rw [List.map_map]
    rfl
  rw [ez] at e2
  refine ⟨D, _, rfl, .inl ⟨SqL.of e2, fun po hpo => ?_⟩⟩
  have s3 := sm_new (o := .tup (l.oth.map V.str)) s2 hpo
  refine ⟨_, rfl, x, _, dx, _, rfl, s3 _ _ hx1, LC.cl, LC.na _ (by decide), (show 4 < 1000 by decide), ?_⟩
  have xpo : po ≠ x := fun z => by
    have := s2 _ _ hx1
    rw [← z, hpo] at this
    cases this
  generalize hH : upd (upd H2 po (.tup (l.oth.map V.str))) x (.ins (He.ga K "Line") dx (putF "others" (V.ref po) [("text", .str text), ("form", .str (formS l.fm)), ("word", .str (wordS l.mir)), ("name", .str l.name)])) = H3
  have kb3 : KeptBut x H H3 := by
    rw [← hH]
    exact (kb1.then s3).put
  have hpo3 : H3 po = some (.tup (l.oth.map V.str)) := by
    rw [← hH, upd_ne xpo]
    exact upd_same
  have hs3 : SqL K H3 ps ((signsS l).map V.str) := by
    rw [← hH]
    exact sql_keep (Same.seq s3 hs1) KeptBut.at_ nsx
  have hx3 : H3 x = some (.ins (He.ga K "Line") dx [("text", .str text), ("form", .str (formS l.fm)), ("word", .str (wordS l.mir)), ("name", .str l.name), ("others", .ref po)]) := by
    rw [← hH]
    exact upd_same
  clear hH
  clear s3 e2 s2 hw1 hs1 hx1 kb1 hpo
  refine ⟨_, rfl, ps, rfl, ⟨_, hs3⟩, fun D2 hD2 => ?_⟩
  refine lc_it walk_list (fun i H' => Same H3 H' ∧ H' D2 = some (.lst ((wanOf ((signsS l).take i)).map V.str))) ⟨Same.new hD2, upd_same⟩ (fun i H' _ h => Same.seq h.1 hs3) ?_ ?_
  · rintro i y H4 H5 hi ⟨s, e⟩ ⟨rfl, hu⟩
    rw [List.length_map] at hi
    obtain ⟨m, hm, rfl⟩ := map_at hu
    have sl : (signsS l).length = (wordsS l).length := by
      have z := like_lenS LO
      omega
    have tk : wanOf ((signsS l).take (i + 1)) = if inW m = true then wanOf ((signsS l).take i) ++ [wv m] else wanOf ((signsS l).take i) := by
      unfold wanOf
      rw [List.take_add_one, hm, List.filter_append, List.map_append]
      cases q : inW m <;> simp [q]
    refine ⟨rfl, _, rfl, _, rfl, rfl, _, rfl, ?_⟩
    have eq : decide (m ∈ waKv.map (·.1)) = inW m := rfl
    rw [eq]
    cases q : inW m with
    | true =>
      rw [q, if_pos rfl] at tk
      refine iteT ⟨_, rfl, m, .str (wv m), rfl, rfl, wv_mem q, _, e, ?_, sm_put s hD2, ?_⟩
      · rw [List.length_map]
        refine Nat.lt_of_le_of_lt (m := 8) ?_ (by decide)
        unfold wanOf
        rw [List.length_map]
        refine Nat.le_trans (List.length_filter_le _ _) ?_
        rw [List.length_take]
        omega
      · rw [upd_same, tk, List.map_append]
        rfl
    | false =>
      rw [q, if_neg (by decide)] at tk
      refine iteF ⟨s, ?_⟩
      rw [tk]
      exact e
  rintro H4 ⟨s4, e4⟩
  rw [List.length_map, List.take_length, wan_is LO] at e4
  refine ⟨D2, _, rfl, .inl ⟨SqL.of e4, fun pn hpn => ?_⟩⟩
  have s5 := sm_new (o := .tup ((wantS l).map V.str)) s4 hpn
  refine ⟨_, rfl, x, _, dx, _, rfl, s5 _ _ hx3, LC.cl, LC.na _ (by decide), (show 5 < 1000 by decide), ?_⟩
  have kb5 := (kb3.then s5).put (o := .ins (He.ga K "Line") dx [("text", .str text), ("form", .str (formS l.fm)), ("word", .str (wordS l.mir)), ("name", .str l.name), ("others", .ref po), ("wanted", .ref pn)])
  have xpn : pn ≠ x := fun z => by
    have := s4 _ _ hx3
    rw [← z, hpn] at this
    cases this
  have hpn5 : (upd (upd H4 pn (.tup ((wantS l).map V.str))) x (.ins (He.ga K "Line") dx [("text", .str text), ("form", .str (formS l.fm)), ("word", .str (wordS l.mir)), ("name", .str l.name), ("others", .ref po), ("wanted", .ref pn)])) pn = some (.tup ((wantS l).map V.str)) := by
    rw [upd_ne xpn]
    exact upd_same
  have hpo5 : (upd (upd H4 pn (.tup ((wantS l).map V.str))) x (.ins (He.ga K "Line") dx [("text", .str text), ("form", .str (formS l.fm)), ("word", .str (wordS l.mir)), ("name", .str l.name), ("others", .ref po), ("wanted", .ref pn)])) po = some (.tup (l.oth.map V.str)) := by
    rw [upd_ne xpo]
    exact s5 _ _ hpo3
  refine ⟨_, rfl, _, rfl, x, _, dx, _, _, rfl, upd_same, LC.cl, LC.na _ (by decide), rfl, formS l.fm, po, l.oth, rfl, SqT.of hpo5, r2, fun H6 pr s6 hr6 => ?_⟩
  rw [r1] at hr6
  refine ⟨_, rfl, x, _, dx, _, rfl, s6 _ _ upd_same, LC.cl, LC.na _ (by decide), (show 6 < 1000 by decide), ?_⟩
  have hx6 := s6 _ _ (upd_same (a := x))
  have t6 : Tk H6 (upd H6 x (.ins (He.ga K "Line") dx (lnF text l po pn pr))) := .put hx6 trivial
  exact k _ ((kb5.then s6).put) ⟨dx, po, pn, pr, upd_same, sq_tk (SqT.of (s6 _ _ hpo5)) t6, sq_tk (SqT.of (s6 _ _ hpn5)) t6, sq_tk hr6 t6⟩
end

end K12

namespace K12
open PySem PySem.Spec PyProof.Rows L2 Lm
open C8 (Cal Mak Met pe_c pe_mk pe_mt pe_mt0 pss_cut tCut)
open LamX (CodeO TabS Tabs ExtN TabB)
--KR 9
--NOTOP
abbrev s_signs_for : Stmt := top 19
abbrev n_signs_for : List Str := ["pattern", "many", "signs", "more"]
abbrev p_signs_for : List Str := ["pattern", "many"]
theorem sc_signs_for : FnScope n_signs_for p_signs_for (defScope s_signs_for) := ⟨rfl, rfl, rfl, by decide +kernel, rfl, by decide +kernel, by decide +kernel⟩
abbrev s_are_like : Stmt := top 20
abbrev n_are_like : List Str := ["words", "signs", "word", "sign"]
abbrev p_are_like : List Str := ["words", "signs"]
theorem sc_are_like : FnScope n_are_like p_are_like (defScope s_are_like) := ⟨rfl, rfl, rfl, by decide +kernel, rfl, by decide +kernel, by decide +kernel⟩
section
variable {P : Program} {w : World} {K : PySem.W.Frag} {mg : Str → Option Value} {base : Heap} {f : Addr} {fd : FuncData}
theorem ok_signs_for (F : FunD K "signs_for" "signs_for" (defArgs s_signs_for) (defBody s_signs_for) (defScope s_signs_for) [] [] f fd) (hm : mg "signs_for" = some (.ref f)) (T : Bl mg base) (hM : ∃ u, mg "MOST_IN_ROW" = some u ∧ L2.RelV (V.int 6) u) : Cal P w K mg base 1 "signs_for" (spSigns K) [] := by
  refine calD F hm sc_signs_for (fun _ _ _ _ _ _ us hl => match us, hl with | [_, _], _ => rfl) (fun vs H Q E h => ?_) (fun cdv A outer s H vs Q E hr h => ?_)
  · obtain ⟨k0, pat, n, rfl, _⟩ := h
    rfl
  obtain ⟨k0, pat, n, rfl, hsp, hpat, hn, hk, k⟩ := h
  refine ⟨_, (pss_cons (ps_set (i := 2) sc_signs_for.nd rfl (by first | exact Or.inl rfl | exact Or.inr rfl) (pe_split (pv 0) pe_str))
    (pss_cons (ps_set (i := 3) sc_signs_for.nd rfl (by first | exact Or.inl rfl | exact Or.inr rfl) (pe_op op_sub (pv 1) (pe_callB call_len_seq (by rfl) T.len (by decide +kernel) (pa_cons (pv 2) pa_nil))))
    (pss_cons (ps_if (PW.pt (pw_and (pt_cmpR op_eq (pe_ix ix_seq (pv 2) (pe_un un_neg pe_int) (fun _ _ => rfl)) pe_str (nomark _)) (pw_and1 (pt_chain op_lt op_lt pe_int (pv 3) (C8.pe_gc (v := .int 6) (by rfl) hM))))) (pss_one (ps_ret (pe_op op_cat (pv 2) (pe_op op_rep (pe_lst (pa_cons pe_str pa_nil)) (pv 3))))) pss_nil)
    (pss_one (ps_ret (pv 2)))))), ?_⟩
  obtain ⟨l6, pre, v, ep⟩ := pats_shape hpat
  refine ⟨_, rfl, ⟨_, rfl⟩, _, _, rfl, rfl, rfl, (Nat.le_trans (Nat.add_le_add_right hk 2) (by decide)), fun p hp => ?_⟩
  rw [hsp]
  have hp1 : (upd H p (.lst (pat.map V.str))) p = some (.lst (pat.map V.str)) := upd_same
  have at_ : atI (pat.map V.str) (-1) = some (V.str v) := by
    rw [ep, List.map_append]
    exact atI_last _ _
  have gl : pat.getLast? = some v := by
    rw [ep, List.getLast?_append]
    rfl
  refine ⟨_, rfl, _, rfl, p, _, rfl, .inl (SqL.of hp1), _, _, rfl, rfl, ?_⟩
  rw [List.length_map]
  refine ⟨_, rfl, _, rfl, .inl ⟨p, _, _, _, rfl, rfl, SqL.of hp1, at_, rfl, _, rfl, ?_⟩⟩
  by_cases c : v = "ROW"
  · refine ite_eqS c ?_
    refine ⟨_, rfl, _, _, rfl, rfl, _, rfl, ?_⟩
    by_cases c1 : (0 : Int) < (n : Int) - (pat.length : Nat)
    · rw [decide_eq_true c1]
      refine iteT ⟨_, _, rfl, rfl, _, rfl, ?_⟩
      by_cases c2 : (n : Int) - (pat.length : Nat) < 6
      · rw [decide_eq_true c2]
        have e : signsFor pat n = pat ++ List.replicate (n - pat.length) ("ROW" : Str) := by
          unfold signsFor
          rw [if_pos ⟨by rw [gl, c], by omega, by omega⟩]
        rw [e] at k
        refine iteT ⟨_, rfl, (by show 1 ≤ sizeLine; decide), fun q hq => ⟨_, rfl, q, _, _, rfl, rfl, upd_same, by omega, by omega, ?_, fun r hr => ?_⟩⟩
        · show 1 * _ ≤ sizeLine
          rw [sizeLine_eq]
          omega
        have hpr : (upd (upd (upd H p (.lst (pat.map V.str))) q (.lst [V.str "ROW"])) r (.lst (List.replicate ((n : Int) - (pat.length : Nat)).toNat [V.str "ROW"]).flatten)) p = some (.lst (pat.map V.str)) := Same.new hr _ _ (Same.new hq _ _ hp1)
        refine ⟨p, r, _, _, rfl, rfl, hpr, upd_same, ?_, fun z hz => k _ z ((((Same.new hp).trans (Same.new hq)).trans (Same.new hr)).trans (Same.new hz)) ((((Same.new hp).trans (Same.new hq)).trans (Same.new hr)).free hz) ?_⟩
        · rw [rep_flat, List.length_map, List.length_replicate, sizeLine_eq]
          omega
        · rw [upd_same, rep_flat, List.map_append, List.map_replicate]
          congr 4
          omega
      · rw [decide_eq_false c2]
        have e : signsFor pat n = pat := by
          unfold signsFor
          rw [if_neg (fun z => c2 (by have := z.2.2; omega))]
        rw [e] at k
        exact iteF ⟨_, rfl, k _ p (Same.new hp) hp hp1⟩
    · rw [decide_eq_false c1]
      have e : signsFor pat n = pat := by
        unfold signsFor
        rw [if_neg (fun z => c1 (by have := z.2.1; omega))]
      rw [e] at k
      exact iteF ⟨_, rfl, iteF ⟨_, rfl, k _ p (Same.new hp) hp hp1⟩⟩
  · refine ite_sne c (iteF ⟨_, rfl, ?_⟩)
    have e : signsFor pat n = pat := by
      unfold signsFor
      rw [if_neg (fun z => c (by have := z.1; rw [gl] at this; exact Option.some.inj this))]
    rw [e] at k
    exact k _ p (Same.new hp) hp hp1
theorem ok_are_like (F : FunD K "are_like" "are_like" (defArgs s_are_like) (defBody s_are_like) (defScope s_are_like) [] [] f fd) (hm : mg "are_like" = some (.ref f)) (T : Bl mg base) (Tz : mg "zip" = none) (Ta : mg "all" = none) (c_is_name : Cal P w K mg base 1 "is_name" spName []) : Cal P w K mg base 2 "are_like" (spLike K) [] := by
  refine calD F hm sc_are_like (fun _ _ _ _ _ _ us hl => match us, hl with | [_, _], _ => rfl) (fun vs H Q E h => ?_) (fun cdv A outer s H vs Q E hr h => ?_)
  · obtain ⟨p, q, ws, sg, rfl, _⟩ := h
    rfl
  obtain ⟨p, q, ws, sg, rfl, hp, hq, hl, hwl, k⟩ := h
  refine ⟨_, (pss_cons (ps_if (pt_cmpR op_ne (pe_callB call_len_seq (by rfl) T.len (by decide +kernel) (pa_cons (pv 0) pa_nil)) (pe_callB call_len_seq (by rfl) T.len (by decide +kernel) (pa_cons (pv 1) pa_nil)) (nomark _)) (pss_one (ps_ret pe_bl)) pss_nil)
    (pss_one (ps_ret (pe_callB (cr_all rfl) (by rfl) T.all (by decide +kernel) (pa_cons (pe_lc (own := [("word", 2), ("sign", 3)]) (g := (gTup K 2 (gCons (gName 2) (gCons (gName 3) gNil)))) (tt := tYes) rfl sc_are_like.nd (pi_zip (by rfl) Tz (pa_cons (pv 0) (pa_cons (pv 1) pa_nil))) (blkOk_by (own := [("word", 2), ("sign", 3)]) (N := n_are_like) (sc := defScope s_are_like) (by decide +kernel)) (fun _ _ _ _ _ => (pg_tup rfl (pgs_cons (pg_name (i := 2) sc_are_like.nd rfl (by first | exact Or.inl rfl | exact Or.inr rfl)) (pgs_cons (pg_name (i := 3) sc_are_like.nd rfl (by first | exact Or.inl rfl | exact Or.inr rfl)) pgs_nil)))) (fun _ _ _ _ _ => pts_nil) (fun _ _ _ _ _ => (pe_ifExp (pt_val (pe_m0 PySem.F.slot_str_isupper PySem.F.type_str_isupper mt_isupper (pv 3))) (pe_c c_is_name hr (by decide) (by rfl) (pa_cons (pv 2) pa_nil)) (pe_cmpR op_eq (pv 2) (pv 3) (nomark _))))) pa_nil))))), ?_⟩
  refine ⟨_, rfl, p, _, rfl, .inl hp, _, rfl, q, _, rfl, .inl hq, rfl, _, rfl, ?_⟩
  by_cases c : ws.length = sg.length
  · refine ite_nI (by rw [List.length_map, List.length_map, c]) ?_
    refine ⟨_, rfl, _, rfl, p, q, _, _, rfl, hp, hq, fun D hD => ?_⟩
    refine lc_it (walk_zip rfl) (fun i H' => Same H H' ∧ H' D = some (.lst (((likeL ws sg).take i).map V.bl))) ⟨Same.new hD, upd_same⟩ (fun i H' _ h => ⟨Same.seq h.1 hp, Same.seq h.1 hq⟩) ?_ ?_
    · rintro i y H2 H3 hi ⟨s, e⟩ ⟨T2, u, v, rfl, hT, rfl, hu, hv⟩
      obtain ⟨x, hx, rfl⟩ := map_at hu
      obtain ⟨m, hm, rfl⟩ := map_at hv
      have lt : i < 100 := by
        rw [List.length_map, List.length_map] at hi
        omega
      have at_ := likeL_at hx hm
      refine unp2 (SqT.of upd_same) ⟨rfl, yes_if ⟨_, rfl, ⟨_, rfl⟩, _, rfl, rfl, trivial, _, rfl, ?_⟩⟩
      cases q2 : Txt.isupper m with
      | true =>
        rw [q2, if_pos rfl] at at_
        refine iteT ⟨_, rfl, x, rfl, hwl x (List.mem_of_getElem? hx), _, (by rw [upd_ne (ne_of_none e hT)]; exact e), few_take _ (Nat.le_of_lt lt) (by decide), sm_put (sm_new s hT) hD, ?_⟩
        rw [upd_same, take_map V.bl at_]
      | false =>
        rw [q2, if_neg (by decide)] at at_
        refine iteF ⟨_, rfl, _, rfl, rfl, _, (by rw [upd_ne (ne_of_none e hT)]; exact e), few_take _ (Nat.le_of_lt lt) (by decide), sm_put (sm_new s hT) hD, ?_⟩
        have e3 : decide (V.str x = V.str m) = decide (x = m) := by
          by_cases z : x = m
          · rw [decide_eq_true z, decide_eq_true (by rw [z])]
          · rw [decide_eq_false z, decide_eq_false (fun y => z (by injection y))]
        rw [upd_same, take_map V.bl at_, e3]
    · rintro H2 ⟨s, e⟩
      have ez : (likeL ws sg).take (min (ws.map V.str).length (sg.map V.str).length) = likeL ws sg := List.take_of_length_le (by unfold likeL; rw [List.length_zipWith, List.length_map, List.length_map]; exact Nat.le_refl _)
      rw [ez] at e
      refine ⟨D, likeL ws sg, rfl, SqL.of e, ?_⟩
      have k2 := k _ s
      unfold like at k2
      rw [decide_eq_true c, Bool.true_and] at k2
      exact k2
  · have k2 := k H (Same.refl H)
    unfold like at k2
    rw [decide_eq_false c, Bool.false_and] at k2
    exact ite_nN (by rw [List.length_map, List.length_map]; omega) k2
end

end K12

namespace K12
open PySem PySem.Spec PyProof.Rows L2 Lm
open C8 (Cal Mak Met pe_c pe_mk pe_mt pe_mt0 pss_cut tCut)
open LamX (CodeO TabS Tabs ExtN TabB)
--KR 9
--NOTOP
abbrev s_line_of : Stmt := top 18
abbrev n_line_of : List Str := ["text", "words", "pattern", "signs"]
abbrev p_line_of : List Str := ["text"]
theorem sc_line_of : FnScope n_line_of p_line_of (defScope s_line_of) := ⟨rfl, rfl, rfl, by decide +kernel, rfl, by decide +kernel, by decide +kernel⟩
section
variable {P : Program} {w : World} {K : PySem.W.Frag} {mg : Str → Option Value} {base : Heap} {f : Addr} {fd : FuncData}
theorem ok_line_of {aF : Addr} (F : FunD K "line_of" "line_of" (defArgs s_line_of) (defBody s_line_of) (defScope s_line_of) [] [] f fd) (hm : mg "line_of" = some (.ref f)) (T : Bl mg base) (hF : mg "FORMS" = some (.ref aF)) (DF : KTab K w aF fmKv) (c_signs_for : Cal P w K mg base 1 "signs_for" (spSigns K) []) (c_are_like : Cal P w K mg base 2 "are_like" (spLike K) [])
    (c_Line : Mak P w K mg base 2 "Line" (He.ga K "Line") (spLnI K) []) : Cal P w K mg base 4 "line_of" (spLineOf K) [] := by
  refine calD F hm sc_line_of (fun _ _ _ _ _ _ us hl => match us, hl with | [_], _ => rfl) (fun vs H Q E h => ?_) (fun cdv A outer s H vs Q E hr h => ?_)
  · obtain ⟨ns, l, rfl, _⟩ := h
    rfl
  obtain ⟨ns, l, rfl, LO, NO, k⟩ := h
  refine ⟨_, (pss_cons (ps_set (i := 1) sc_line_of.nd rfl (by first | exact Or.inl rfl | exact Or.inr rfl) (pe_split (pv 0) pe_str))
    (pss_cons (ps_for PassesOwn.never rfl (pi_tab DF (pe_glob (v := .ref aF) (by rfl) hF rfl)) (pg_name (i := 2) sc_line_of.nd rfl (by first | exact Or.inl rfl | exact Or.inr rfl))
    (pss_cons (ps_set (i := 3) sc_line_of.nd rfl (by first | exact Or.inl rfl | exact Or.inr rfl) (pe_c c_signs_for hr (by decide) (by rfl) (pa_cons (pv 2) (pa_cons (pe_callB call_len_seq (by rfl) T.len (by decide +kernel) (pa_cons (pv 1) pa_nil)) pa_nil))))
    (pss_one (ps_if (pt_val (pe_c c_are_like hr (by decide) (by rfl) (pa_cons (pv 1) (pa_cons (pv 3) pa_nil)))) (pss_one (ps_ret (pe_mk c_Line hr (by decide) (by rfl) (pa_cons (pv 0) (pa_cons (pe_ix (ix_tab DF) (pe_glob (v := .ref aF) (by rfl) hF rfl) (pv 2) (fun _ _ => rfl)) (pa_cons (pv 1) (pa_cons (pv 3) pa_nil))))))) pss_nil))))
    (pss_one (ps_ret pe_non)))), ?_⟩
  have wl := words_len LO
  have sw := split_words LO NO
  have tl := text_len NO.wl (by omega)
  generalize Txt.join " " (wordsS l) = text at sw tl k ⊢
  refine ⟨_, rfl, ⟨_, rfl⟩, _, _, rfl, rfl, rfl, (Nat.le_trans (Nat.add_le_add_right tl 2) (by decide)), fun p hp => ?_⟩
  rw [sw]
  have hp1 : (upd H p (.lst ((wordsS l).map V.str))) p = some (.lst ((wordsS l).map V.str)) := upd_same
  refine ⟨rfl, for_it walk_tab (fun i σ H' => i ≤ patS l ∧ Same H H' ∧ H' p = some (.lst ((wordsS l).map V.str)) ∧ ∃ c2 c3, σ = [some (.str text), some (.ref p), c2, c3]) ⟨Nat.zero_le _, Same.new hp, hp1, _, _, rfl⟩ (fun _ _ _ _ _ => trivial) ?_ ?_⟩
  · rintro i x σ Hx H2 hi ⟨hle, s2, e2, c2, c3, rfl⟩ ⟨rfl, k0, hk0, rfl⟩
    rw [List.getElem?_map] at hk0
    obtain ⟨⟨k1, v⟩, hkv, rfl⟩ := Option.map_eq_some_iff.mp hk0
    obtain ⟨hpat, hkl⟩ := pat_key hkv
    refine ⟨_, rfl, _, rfl, p, _, rfl, .inl (SqL.of e2), k1, _, _, rfl, rfl, List.mem_of_getElem? hpat, (by rw [List.length_map]; omega), hkl, fun H5 q s5 hq5 e5 => ?_⟩
    rw [List.length_map] at e5
    have e25 := s5 _ _ e2
    refine ⟨_, rfl, _, rfl, p, q, _, _, rfl, SqL.of e25, SqL.of e5, (by omega), (fun x hx => Nat.le_trans (NO.wl x hx) (by decide)), fun H6 s6 => ⟨_, rfl, ?_⟩⟩
    rcases Nat.lt_or_ge i (patS l) with lt | ge
    · rw [like_not LO hpat lt]
      exact iteF ⟨lt, (s2.trans s5).trans s6, s6 _ _ e25, _, _, rfl⟩
    · obtain rfl : i = patS l := by omega
      have sa := signs_at LO hpat
      rw [sa] at e5
      rw [sa, like_yes LO NO]
      obtain ⟨k2, hk2⟩ := fm_at LO
      rw [hkv] at hk2
      cases hk2
      refine iteT ⟨_, rfl, _, rfl, _, _, rfl, rfl, List.mem_of_getElem? hkv, _, rfl, _, rfl, ?_⟩
      intro x dx hx hdx ne
      have s26 : Same H H6 := (s2.trans s5).trans s6
      have p6 := s6 _ _ e25
      have q6 := s6 _ _ e5
      have xp : p ≠ x := ne_of_none p6 hx
      have xq : q ≠ x := ne_of_none q6 hx
      have sx : ∀ o, Same H6 (upd (upd H6 dx (.own x)) x o) := fun o => sm_put (Same.new hdx) hx
      refine ⟨x, dx, p, q, text, ns, l, rfl, upd_same, SqL.of (sx _ _ _ p6), SqL.of (sx _ _ _ q6), xp, xq, LO, fun H7 kb LA => ⟨rfl, k H7 x (fun b o e => ?_) (s26.free hx) LA⟩⟩
      exact kb b o (sx _ _ _ (s26 _ _ e)) (ne_of_none (s26 _ _ e) hx)
  · rintro σ H2 ⟨hle, _⟩
    have := patS_lt LO
    have e12 : (fmKv.map (·.1)).length = 12 := rfl
    rw [e12] at hle
    omega
end

end K12

namespace K12
open PySem PySem.Spec PyProof.Rows L2 Lm
open C8 (Cal Mak Met pe_c pe_mk pe_mt pe_mt0 pss_cut tCut)
open LamX (CodeO TabS Tabs ExtN TabB)
--KR 9
--NOTOP
abbrev s_has_names : Stmt := top 24
abbrev n_has_names : List Str := ["line", "known", "name", "word"]
abbrev p_has_names : List Str := ["line", "known"]
theorem sc_has_names : FnScope n_has_names p_has_names (defScope s_has_names) := ⟨rfl, rfl, rfl, by decide +kernel, rfl, by decide +kernel, by decide +kernel⟩
section
variable {P : Program} {w : World} {K : PySem.W.Frag} {mg : Str → Option Value} {base : Heap} {f : Addr} {fd : FuncData}
theorem ok_has_names (F : FunD K "has_names" "has_names" (defArgs s_has_names) (defBody s_has_names) (defScope s_has_names) [] [] f fd) (hm : mg "has_names" = some (.ref f)) (T : Bl mg base) (Tz : mg "zip" = none) (Ta : mg "all" = none) (Ts : mg "set" = none) (LC : ObC K mg "Line" ["text", "form", "word", "name", "others", "wanted", "row"]) : Cal P w K mg base 2 "has_names" (spHas K) [] := by
  refine calD F hm sc_has_names (fun _ _ _ _ _ _ us hl => match us, hl with | [_, _], _ => rfl) (fun vs H Q E h => ?_) (fun cdv A outer s H vs Q E hr h => ?_)
  · obtain ⟨a, d, t, l, ns, rfl, _⟩ := h
    rfl
  obtain ⟨a, d, t, l, ns, rfl, LA, hd, nd, LO, ds, k⟩ := h
  refine ⟨_, (pss_cons (ps_if (pt_not (pt_val (pe_callB (cr_all rfl) (by rfl) T.all (by decide +kernel) (pa_cons (pe_lc (own := [("name", 2)]) (g := (gName 2)) (tt := tYes) rfl sc_has_names.nd (pi_tup (pe_fld (pv 0) rfl)) (blkOk_by (own := [("name", 2)]) (N := n_has_names) (sc := defScope s_has_names) (by decide +kernel)) (fun _ _ _ _ _ => (pg_name (i := 2) sc_has_names.nd rfl (by first | exact Or.inl rfl | exact Or.inr rfl))) (fun _ _ _ _ _ => pts_nil) (fun _ _ _ _ _ => (pe_cmp (pc_din (units1 hr) (pv 2) (pv 1))))) pa_nil)))) (pss_one (ps_ret pe_bl)) pss_nil)
    (pss_cons (ps_if (pt_cmpR op_eq (pe_fld (pv 0) rfl) pe_str (nomark _)) (pss_one (ps_ret pe_bl)) pss_nil)
    (pss_cons (ps_if (pt_cmpR op_lt (L2X.pe_lenN (by rfl) (by rfl) T.len (by rfl) Ts (pe_fld (pv 0) rfl)) (pe_callB call_len_seq (by rfl) T.len (by decide +kernel) (pa_cons (pe_fld (pv 0) rfl) pa_nil)) (nomark _)) (pss_one (ps_ret pe_bl)) pss_nil)
    (pss_one (ps_ret (pe_callB (cr_all rfl) (by rfl) T.all (by decide +kernel) (pa_cons (pe_lc (own := [("name", 2), ("word", 3)]) (g := (gTup K 2 (gCons (gName 2) (gCons (gName 3) gNil)))) (tt := tYes) rfl sc_has_names.nd (RZ.pi_zipA (by rfl) Tz (pa_cons (pe_fld (pv 0) rfl) (pa_cons (pe_fld (pv 0) rfl) pa_nil))) (blkOk_by (own := [("name", 2), ("word", 3)]) (N := n_has_names) (sc := defScope s_has_names) (by decide +kernel)) (fun _ _ _ _ _ => (pg_tup rfl (pgs_cons (pg_name (i := 2) sc_has_names.nd rfl (by first | exact Or.inl rfl | exact Or.inr rfl)) (pgs_cons (pg_name (i := 3) sc_has_names.nd rfl (by first | exact Or.inl rfl | exact Or.inr rfl)) pgs_nil)))) (fun _ _ _ _ _ => pts_nil) (fun _ _ _ _ _ => (pe_cmpR op_eq (pe_dget (units1 hr) (pv 1) (pv 2) (fun _ _ => rfl)) (pv 3) (nomark _)))) pa_nil))))))), ?_⟩
  have ol := oth_le LO
  obtain ⟨dl, po, pw, pr, hla, hpo, hpw, _⟩ := id LA
  refine ⟨_, rfl, a, _, dl, _, _, rfl, hla, LC.cl, LC.na _ (by decide), rfl, po, rfl, ⟨_, hpo⟩, fun D hD => ?_⟩
  refine lc_it walk_tup (fun i H' => Same H H' ∧ H' D = some (.lst ((l.oth.take i).map fun _ => V.bl true))) ⟨Same.new hD, upd_same⟩ (fun i H' _ h => sq_tk hpo (.same h.1)) ?_ ?_
  · rintro i x H1 H2 hi ⟨s1, e1⟩ ⟨rfl, hu⟩
    obtain ⟨y, hy, rfl⟩ := map_at hu
    have lt : i < 5 := by
      rw [List.length_map] at hi
      omega
    obtain ⟨kk, hk⟩ := oth_in LO y (List.mem_of_getElem? hy)
    have g : DGet H2 d (.str y) (some (.str (wordS kk))) := DGet.at_ (s1 _ _ hd) (ahK_some nd hk)
    refine ⟨rfl, yes_if ⟨_, rfl, _, rfl, d, _, rfl, g, _, e1, few_take _ (Nat.le_of_lt lt) (by decide), sm_put s1 hD, ?_⟩⟩
    rw [upd_same, take_map (fun _ => V.bl true) hy]
    rfl
  rintro H1 ⟨s1, e1⟩
  rw [List.length_map, List.take_length] at e1
  have hla1 := s1 _ _ hla
  refine ⟨D, l.oth.map fun _ => true, rfl, SqL.of (by rw [e1, List.map_map]; rfl), _, rfl, ?_⟩
  have all1 : (l.oth.map fun _ => true).all id = true := by simp
  rw [all1]
  refine iteF ⟨_, rfl, a, _, dl, _, _, rfl, hla1, LC.cl, LC.na _ (by decide), rfl, rfl, _, rfl, ?_⟩
  by_cases c : l.fm = .is_
  · refine ite_eqS (by rw [c]; rfl) ?_
    exact k H1 s1
  have ne : formS l.fm ≠ "is" := by
    generalize l.fm = fm at c
    cases fm <;> first | exact absurd rfl c | decide
  refine ite_sne ne ?_
  refine ⟨_, rfl, a, _, dl, _, _, rfl, hla1, LC.cl, LC.na _ (by decide), rfl, po, l.oth, rfl, sq_tk hpo (.same s1), ds c, by omega, ?_⟩
  refine ⟨_, rfl, a, _, dl, _, _, rfl, hla1, LC.cl, LC.na _ (by decide), rfl, po, _, rfl, .inr (sq_tk hpo (.same s1)), _, _, rfl, rfl, _, rfl, ?_⟩
  rw [List.length_map, decide_eq_false (Int.lt_irrefl _)]
  obtain ⟨wl, wok⟩ := want_ok LO c
  refine iteF ⟨_, rfl, a, _, dl, _, _, rfl, hla1, LC.cl, LC.na _ (by decide), rfl, _, rfl, a, _, dl, _, _, rfl, hla1, LC.cl, LC.na _ (by decide), rfl, po, pw, _, _, rfl, .inr ⟨sq_tk hpo (.same s1), sq_tk hpw (.same s1), fun D2 hD2 => ?_⟩⟩
  refine lc_it (walk_zipT rfl) (fun i H' => Same H1 H' ∧ H' D2 = some (.lst ((l.oth.take i).map fun _ => V.bl true))) ⟨Same.new hD2, upd_same⟩ (fun i H' _ h => ⟨sq_tk hpo (.same (s1.trans h.1)), sq_tk hpw (.same (s1.trans h.1))⟩) ?_ ?_
  · rintro i x H2 H3 hi ⟨s2, e2⟩ ⟨T2, u, v, rfl, hT, rfl, hu, hv⟩
    obtain ⟨y, hy, rfl⟩ := map_at hu
    obtain ⟨z, hz, rfl⟩ := map_at hv
    have lt : i < 5 := by
      rw [List.length_map, List.length_map] at hi
      omega
    obtain ⟨kk, hk, ek⟩ := wok i y z hy hz
    have g : DGet (upd H2 T2 (.tup [.str y, .str z])) d (.str y) (some (.str (wordS kk))) := DGet.at_ (Same.new hT _ _ (s2 _ _ (s1 _ _ hd))) (ahK_some nd hk)
    refine unp2 (SqT.of upd_same) ⟨rfl, yes_if ⟨_, rfl, _, rfl, d, _, rfl, g, _, rfl, rfl, _, (by rw [upd_ne (ne_of_none e2 hT)]; exact e2), few_take _ (Nat.le_of_lt lt) (by decide), sm_put (sm_new s2 hT) hD2, ?_⟩⟩
    rw [upd_same, take_map (fun _ => V.bl true) hy, decide_eq_true (by rw [ek])]
  · rintro H2 ⟨s2, e2⟩
    have mn : min (l.oth.map V.str).length ((wantS l).map V.str).length = l.oth.length := by
      rw [List.length_map, List.length_map, wl, Nat.min_self]
    rw [mn, List.take_length] at e2
    refine ⟨D2, l.oth.map fun _ => true, rfl, SqL.of (by rw [e2, List.map_map]; rfl), ?_⟩
    rw [all1]
    exact k H2 (s1.trans s2)
end

end K12

namespace K12
open PySem PySem.Spec PyProof.Rows L2 Lm
open C8 (Cal Mak Met pe_c pe_mk pe_mt pe_mt0 pss_cut tCut)
open LamX (CodeO TabS Tabs ExtN TabB)
--KR 9
--NOTOP
abbrev s_is_of_row : Stmt := top 22
abbrev n_is_of_row : List Str := ["line"]
abbrev p_is_of_row : List Str := ["line"]
theorem sc_is_of_row : FnScope n_is_of_row p_is_of_row (defScope s_is_of_row) := ⟨rfl, rfl, rfl, by decide +kernel, rfl, by decide +kernel, by decide +kernel⟩
abbrev s_has_new_name : Stmt := top 23
abbrev n_has_new_name : List Str := ["line", "ahead"]
abbrev p_has_new_name : List Str := ["line", "ahead"]
theorem sc_has_new_name : FnScope n_has_new_name p_has_new_name (defScope s_has_new_name) := ⟨rfl, rfl, rfl, by decide +kernel, rfl, by decide +kernel, by decide +kernel⟩
abbrev s_are_few : Stmt := top 25
abbrev n_are_few : List Str := ["lines", "loose", "line", "rows"]
abbrev p_are_few : List Str := ["lines"]
theorem sc_are_few : FnScope n_are_few p_are_few (defScope s_are_few) := ⟨rfl, rfl, rfl, by decide +kernel, rfl, by decide +kernel, by decide +kernel⟩
abbrev s_fitting_lines : Stmt := top 26
abbrev n_fitting_lines : List Str := ["texts", "lines", "ahead", "text", "line"]
abbrev p_fitting_lines : List Str := ["texts"]
theorem sc_fitting_lines : FnScope n_fitting_lines p_fitting_lines (defScope s_fitting_lines) := ⟨rfl, rfl, rfl, by decide +kernel, rfl, by decide +kernel, by decide +kernel⟩
section
variable {P : Program} {w : World} {K : PySem.W.Frag} {mg : Str → Option Value} {base : Heap} {f : Addr} {fd : FuncData}
theorem ok_is_of_row (F : FunD K "is_of_row" "is_of_row" (defArgs s_is_of_row) (defBody s_is_of_row) (defScope s_is_of_row) [] [] f fd) (hm : mg "is_of_row" = some (.ref f)) (T : Bl mg base) (LC : ObC K mg "Line" ["text", "form", "word", "name", "others", "wanted", "row"]) : Cal P w K mg base 1 "is_of_row" (spOfRow K) [] := by
  refine calD F hm sc_is_of_row (fun _ _ _ _ _ _ us hl => match us, hl with | [_], _ => rfl) (fun vs H Q E h => ?_) (fun cdv A outer s H vs Q E hr h => ?_)
  · obtain ⟨a, t, l, rfl, _⟩ := h
    rfl
  obtain ⟨a, t, l, rfl, LA, k⟩ := h
  refine ⟨_, (pss_one (ps_ret (pe_or (pe_cmpR op_eq (pe_fld (pv 0) rfl) pe_str (nomark _)) (pe_one (pe_cmpR op_eq (pe_fld (pv 0) rfl) pe_str (nomark _)))))), ?_⟩
  obtain ⟨dl, po, pw, pr, hla, _, _, _⟩ := LA
  refine ⟨_, rfl, a, _, dl, _, _, rfl, hla, LC.cl, LC.na _ (by decide), rfl, rfl, _, rfl, ?_⟩
  rcases l with ⟨mir, nm, fm, oth⟩
  by_cases c : fm = .frm
  · subst c
    refine ite_eqS rfl ?_
    exact k
  · have ne : formS fm ≠ "from" := by cases fm <;> first | exact absurd rfl c | decide
    refine ite_sne ne ?_
    refine ⟨_, rfl, a, _, dl, _, _, rfl, hla, LC.cl, LC.na _ (by decide), rfl, rfl, ?_⟩
    have e : decide (V.str (formS fm) = V.str "is") = isRowL ⟨mir, nm, fm, oth⟩ := by
      by_cases d : fm = .is_
      · subst d
        rfl
      · have ne2 : formS fm ≠ "is" := by cases fm <;> first | exact absurd rfl d | decide
        rw [decide_eq_false (fun z => ne2 (by injection z))]
        unfold isRowL
        rw [decide_eq_false (show ¬ fm = .frm from c), decide_eq_false (show ¬ fm = .is_ from d)]
        rfl
    rw [← e] at k
    exact k
theorem ok_has_new_name (F : FunD K "has_new_name" "has_new_name" (defArgs s_has_new_name) (defBody s_has_new_name) (defScope s_has_new_name) [] [] f fd) (hm : mg "has_new_name" = some (.ref f)) (T : Bl mg base) (LC : ObC K mg "Line" ["text", "form", "word", "name", "others", "wanted", "row"]) {j : Nat} (c_has_names : Cal P w K mg base j "has_names" (spHas K) []) (hj : 1 ≤ j) : Cal P w K mg base (j + 1) "has_new_name" (spNewNm K) [] := by
  refine calD F hm sc_has_new_name (fun _ _ _ _ _ _ us hl => match us, hl with | [_, _], _ => rfl) (fun vs H Q E h => ?_) (fun cdv A outer s H vs Q E hr h => ?_)
  · obtain ⟨a, d, t, l, ns, rfl, _⟩ := h
    rfl
  obtain ⟨a, d, t, l, ns, rfl, LA, hd, nd, LO, ds, new, k⟩ := h
  refine ⟨_, (pss_one (ps_ret (pe_and (pe_cmp (pc_dnotin (units1 hr) (pe_fld (pv 0) rfl) (pv 1))) (pe_one (pe_c c_has_names hr (Nat.le_refl _) (by rfl) (pa_cons (pv 0) (pa_cons (pv 1) pa_nil))))))), ?_⟩
  obtain ⟨dl, po, pw, pr, hla, _, _, _⟩ := id LA
  refine ⟨_, rfl, a, _, dl, _, _, rfl, hla, LC.cl, LC.na _ (by decide), rfl, _, rfl, d, none, rfl, ?_, _, rfl, ?_⟩
  · have z := DGet.k (k := Sum.inr l.name) hd
    rw [ahK_none new] at z
    exact z
  · exact iteT ⟨_, rfl, _, rfl, a, d, t, l, ns, rfl, LA, hd, nd, LO, ds, k⟩
theorem ok_are_few (F : FunD K "are_few" "are_few" (defArgs s_are_few) (defBody s_are_few) (defScope s_are_few) [] [] f fd) (hm : mg "are_few" = some (.ref f)) (T : Bl mg base) (hM1 : ∃ u, mg "MOST_LOOSE" = some u ∧ L2.RelV (V.int 5) u) (hM2 : ∃ u, mg "MOST_ROWS" = some u ∧ L2.RelV (V.int 3) u)
    (c_is_loose : Cal P w K mg base 1 "is_loose" (spIsLoose K) []) (c_is_of_row : Cal P w K mg base 1 "is_of_row" (spOfRow K) []) : Cal P w K mg base 2 "are_few" (spFew K) [] := by
  refine calD F hm sc_are_few (fun _ _ _ _ _ _ us hl => match us, hl with | [_], _ => rfl) (fun vs H Q E h => ?_) (fun cdv A outer s H vs Q E hr h => ?_)
  · obtain ⟨p, as, ts, ls, rfl, _⟩ := h
    rfl
  obtain ⟨p, as, ts, ls, rfl, hp, ⟨lal, hls⟩, n13, k⟩ := h
  refine ⟨_, (pss_cons (ps_setLc (i := 1) (own := [("line", 2)]) (g := (gName 2)) rfl sc_are_few.nd rfl rfl (sw_true rfl rfl rfl (by decide +kernel)) (pi_list (pv 0)) (blkOk_by (own := [("line", 2)]) (N := n_are_few) (sc := defScope s_are_few) (by decide +kernel)) (fun _ _ _ _ _ => (pg_name (i := 2) sc_are_few.nd rfl (by first | exact Or.inl rfl | exact Or.inr rfl))) (fun _ _ _ _ _ => (pts_one (pt_val (pe_c c_is_loose hr (by decide) (by rfl) (pa_cons (pv 2) pa_nil))))) (fun _ _ _ _ _ => (pv 2)))
    (pss_cons (ps_setLc (i := 3) (own := [("line", 2)]) (g := (gName 2)) rfl sc_are_few.nd rfl rfl (sw_true rfl rfl rfl (by decide +kernel)) (pi_list (pv 0)) (blkOk_by (own := [("line", 2)]) (N := n_are_few) (sc := defScope s_are_few) (by decide +kernel)) (fun _ _ _ _ _ => (pg_name (i := 2) sc_are_few.nd rfl (by first | exact Or.inl rfl | exact Or.inr rfl))) (fun _ _ _ _ _ => (pts_one (pt_val (pe_c c_is_of_row hr (by decide) (by rfl) (pa_cons (pv 2) pa_nil))))) (fun _ _ _ _ _ => (pv 2)))
    (pss_one (ps_ret (pe_and (pe_cmpR op_le (pe_callB call_len_seq (by rfl) T.len (by decide +kernel) (pa_cons (pv 1) pa_nil)) (C8.pe_gc (v := .int 5) (by rfl) hM1) (nomark _)) (pe_one (pe_cmpR op_le (pe_callB call_len_seq (by rfl) T.len (by decide +kernel) (pa_cons (pv 3) pa_nil)) (C8.pe_gc (v := .int 3) (by rfl) hM2) (nomark _)))))))), ?_⟩
  refine ⟨_, rfl, p, rfl, ⟨_, hp⟩, fun D1 hD1 => ?_⟩
  refine lc_it walk_list (fun i H' => Same H H' ∧ H' D1 = some (.lst ((((as.zip ls).take i).filter fun q => isLoose q.2).map fun q => V.ref q.1))) ⟨Same.new hD1, upd_same⟩ (fun i H' _ h => Same.seq h.1 hp) ?_ ?_
  · rintro i x H1 H2 hi ⟨s1, e1⟩ ⟨rfl, hu⟩
    rw [List.length_map] at hi
    obtain ⟨a, ha, rfl⟩ := map_at hu
    obtain ⟨l, hl⟩ : ∃ l, ls[i]? = some l := ⟨_, List.getElem?_eq_getElem (by omega)⟩
    obtain ⟨t, _, LA⟩ := hls i a l ha hl
    have tk := zip_take (f := isLoose) ha hl V.ref
    refine ⟨rfl, ⟨_, rfl, a, t, l, rfl, LA.same s1, _, rfl, ?_⟩⟩
    cases q : isLoose l with
    | true =>
      rw [q, if_pos rfl] at tk
      refine iteT ⟨_, rfl, _, e1, ?_, sm_put s1 hD1, ?_⟩
      · rw [List.length_map]
        refine Nat.lt_of_le_of_lt (m := 13) ?_ (by decide)
        refine Nat.le_trans (List.length_filter_le _ _) ?_
        rw [List.length_take]
        omega
      · rw [upd_same, tk]
    | false =>
      rw [q, if_neg (by decide)] at tk
      refine iteF ⟨s1, ?_⟩
      rw [tk]
      exact e1
  rintro H1 ⟨s1, e1⟩
  rw [List.length_map, List.take_of_length_le (by rw [List.length_zip]; exact Nat.min_le_left _ _)] at e1
  have hp1 : SqL K H1 p (as.map V.ref) := Same.seq s1 hp
  have hls1 : ∀ (i : Nat) a l, as[i]? = some a → ls[i]? = some l → ∃ t, ts[i]? = some t ∧ LnAt K H1 a t l := fun i a l h1 h2 => by
    obtain ⟨t, h3, h4⟩ := hls i a l h1 h2
    exact ⟨t, h3, h4.same s1⟩
  have f1 := zip_filter (f := isLoose) lal
  have f2 := zip_filter (f := isRowL) lal
  refine ⟨_, rfl, p, rfl, ⟨_, hp1⟩, fun D2 hD2 => ?_⟩
  refine lc_it walk_list (fun i H' => Same H1 H' ∧ H' D2 = some (.lst ((((as.zip ls).take i).filter fun q => isRowL q.2).map fun q => V.ref q.1))) ⟨Same.new hD2, upd_same⟩ (fun i H' _ h => Same.seq h.1 hp1) ?_ ?_
  · rintro i x H2 H3 hi ⟨s1, e1⟩ ⟨rfl, hu⟩
    rw [List.length_map] at hi
    obtain ⟨a, ha, rfl⟩ := map_at hu
    obtain ⟨l, hl⟩ : ∃ l, ls[i]? = some l := ⟨_, List.getElem?_eq_getElem (by omega)⟩
    obtain ⟨t, _, LA⟩ := hls1 i a l ha hl
    have tk := zip_take (f := isRowL) ha hl V.ref
    refine ⟨rfl, ⟨_, rfl, a, t, l, rfl, LA.same s1, _, rfl, ?_⟩⟩
    cases q : isRowL l with
    | true =>
      rw [q, if_pos rfl] at tk
      refine iteT ⟨_, rfl, _, e1, ?_, sm_put s1 hD2, ?_⟩
      · rw [List.length_map]
        refine Nat.lt_of_le_of_lt (m := 13) ?_ (by decide)
        refine Nat.le_trans (List.length_filter_le _ _) ?_
        rw [List.length_take]
        omega
      · rw [upd_same, tk]
    | false =>
      rw [q, if_neg (by decide)] at tk
      refine iteF ⟨s1, ?_⟩
      rw [tk]
      exact e1
  rintro H2 ⟨s2, e2⟩
  rw [List.length_map, List.take_of_length_le (by rw [List.length_zip]; exact Nat.min_le_left _ _)] at e2
  have k2 := k H2 (s1.trans s2)
  refine ⟨_, rfl, D1, _, rfl, .inl (SqL.of (s2 _ _ e1)), _, _, rfl, rfl, _, rfl, ?_⟩
  rw [List.length_map, f1]
  unfold fewB looseS at k2
  rw [List.length_map] at k2
  by_cases c : (ls.filter isLoose).length ≤ 5
  · rw [decide_eq_true c, Bool.true_and] at k2
    rw [decide_eq_true (show ((ls.filter isLoose).length : Int) ≤ 5 by omega)]
    refine iteT ⟨_, rfl, D2, _, rfl, .inl (SqL.of e2), _, _, rfl, rfl, ?_⟩
    rw [List.length_map, f2]
    show Q (V.bl (decide (((ls.filter isRowL).length : Int) ≤ 3))) H2
    by_cases d : (ls.filter isRowL).length ≤ 3
    · rw [decide_eq_true d] at k2
      rw [decide_eq_true (show ((ls.filter isRowL).length : Int) ≤ 3 by omega)]
      exact k2
    · rw [decide_eq_false d] at k2
      rw [decide_eq_false (show ¬ ((ls.filter isRowL).length : Int) ≤ 3 by omega)]
      exact k2
  · rw [decide_eq_false c, Bool.false_and] at k2
    rw [decide_eq_false (show ¬ ((ls.filter isLoose).length : Int) ≤ 5 by omega)]
    exact iteF k2
theorem ok_fitting_lines (F : FunD K "fitting_lines" "fitting_lines" (defArgs s_fitting_lines) (defBody s_fitting_lines) (defScope s_fitting_lines) [] [] f fd) (hm : mg "fitting_lines" = some (.ref f)) (T : Bl mg base) (LC : ObC K mg "Line" ["text", "form", "word", "name", "others", "wanted", "row"]) (hM : ∃ u, mg "MOST_LINES" = some u ∧ L2.RelV (V.int 12) u)
    (c_line_of : Cal P w K mg base 4 "line_of" (spLineOf K) []) (c_has_new_name : Cal P w K mg base 3 "has_new_name" (spNewNm K) []) (c_are_few : Cal P w K mg base 2 "are_few" (spFew K) []) : Cal P w K mg base 5 "fitting_lines" (spFit K) [] := by
  refine calD F hm sc_fitting_lines (fun _ _ _ _ _ _ us hl => match us, hl with | [_], _ => rfl) (fun vs H Q E h => ?_) (fun cdv A outer s H vs Q E hr h => ?_)
  · obtain ⟨p, ls, rfl, _⟩ := h
    rfl
  obtain ⟨p, ls, rfl, hp, vb, k⟩ := h
  refine ⟨_, (pss_cons (ps_set (i := 1) sc_fitting_lines.nd rfl (by first | exact Or.inl rfl | exact Or.inr rfl) (pe_lst pa_nil))
    (pss_cons (ps_set (i := 2) sc_fitting_lines.nd rfl (by first | exact Or.inl rfl | exact Or.inr rfl) pe_dnewK)
    (pss_cons (ps_for PassesOwn.never rfl (pi_list (pe_slice sl_list (pv 0) po_none (po_some (C8.pe_gc (v := .int 12) (by rfl) hM)))) (pg_name (i := 3) sc_fitting_lines.nd rfl (by first | exact Or.inl rfl | exact Or.inr rfl))
    (pss_cons (ps_set (i := 4) sc_fitting_lines.nd rfl (by first | exact Or.inl rfl | exact Or.inr rfl) (pe_c c_line_of hr (by decide) (by rfl) (pa_cons (pv 3) pa_nil)))
    (pss_cons (ps_if (PW.pt (pw_or (pt_cmpR op_isN (pv 4) pe_non (nomark _)) (pw_or (pt_not (pt_val (pe_c c_has_new_name hr (by decide) (by rfl) (pa_cons (pv 4) (pa_cons (pv 2) pa_nil))))) (pw_or1 (pt_not (pt_val (pe_c c_are_few hr (by decide) (by rfl) (pa_cons (pe_lst (StX.pa_star (pv 1) (pa_cons (pv 4) pa_nil))) pa_nil)))))))) (pss_one (ps_ret (pv 1))) pss_nil)
    (pss_cons (ps_expr (pe_bm PySem.F.plainAttrs_list PySem.F.slot_list_append PySem.F.type_list_append mt_append (pv 1) (pa_cons (pv 4) pa_nil)))
    (pss_one (ps_dput (units1 hr) (pv 2) (pe_fld (pv 4) rfl) (pe_fld (pv 4) rfl) (by rfl)))))))
    (pss_one (ps_ret (pv 1)))))), ?_⟩
  have n12 := vb.n
  refine ⟨(by show 0 ≤ sizeLine; decide), fun L hL => ?_⟩
  intro D hD
  have nLD : L ≠ D := ne_of_none upd_same hD
  have hD0 : H D = none := (Same.new hL).free hD
  have s0 : Same H (upd (upd H L (.lst [])) D (.dK [])) := (Same.new hL).trans (Same.new hD)
  refine ⟨_, rfl, _, rfl, p, _, rfl, Same.seq s0 hp, fun q hq => ?_⟩
  have ec : cutV ((ls.map textS).map V.str) none (some 12) = (ls.map textS).map V.str := by
    unfold cutV
    have e1 : HT.sIx ((ls.map textS).map V.str).length 0 none = 0 := rfl
    have e2 : HT.sIx ((ls.map textS).map V.str).length ((ls.map textS).map V.str).length (some 12) = ls.length := by
      rw [List.length_map, List.length_map]
      show HT.sIx ls.length ls.length (some ((12 : Nat) : Int)) = ls.length
      rw [HT.sIx_nat]
      omega
    rw [e1, e2, List.drop_zero, List.take_of_length_le (by rw [List.length_map, List.length_map]; exact Nat.le_refl _)]
  rw [ec]
  refine ⟨q, rfl, ⟨_, SqL.of upd_same⟩, ?_⟩
  have s1 : Same H (upd (upd (upd H L (.lst [])) D (.dK [])) q (.lst ((ls.map textS).map V.str))) := sm_new s0 hq
  have eL : (upd (upd (upd H L (.lst [])) D (.dK [])) q (.lst ((ls.map textS).map V.str))) L = some (.lst []) := Same.new hq _ _ (Same.new hD _ _ upd_same)
  have eD : (upd (upd (upd H L (.lst [])) D (.dK [])) q (.lst ((ls.map textS).map V.str))) D = some (.dK []) := Same.new hq _ _ upd_same
  have eq : (upd (upd (upd H L (.lst [])) D (.dK [])) q (.lst ((ls.map textS).map V.str))) q = some (.lst ((ls.map textS).map V.str)) := upd_same
  have nqL : q ≠ L := (ne_of_none (Same.new hD _ _ upd_same) hq).symm
  have nqD : q ≠ D := (ne_of_none upd_same hq).symm
  generalize upd (upd (upd H L (.lst [])) D (.dK [])) q (.lst ((ls.map textS).map V.str)) = H1 at s1 eL eD eq ⊢
  refine for_it walk_list (fun i σ H2 => Same H H2 ∧ H2 q = some (.lst ((ls.map textS).map V.str)) ∧ (∃ as : List Addr, as.length = i ∧ H2 L = some (.lst (as.map V.ref)) ∧ ∀ (j : Nat) a l, as[j]? = some a → ls[j]? = some l → LnAt K H2 a (textS l) l) ∧ H2 D = some (.dK (ahK (nsS (ls.take i)))) ∧ ∃ c3 c4, σ = [some (.ref p), some (.ref L), some (.ref D), c3, c4])
    ⟨s1, eq, ⟨[], rfl, eL, fun j a l z _ => by simp at z⟩, eD, _, _, rfl⟩ (fun i σ H2 _ h => SqL.of h.2.1) ?_ ?_
  · rintro i x σ Hx H2 hi ⟨s2, e2, ⟨as, las, hL2, hls⟩, hD2, c3, c4, rfl⟩ ⟨rfl, hx⟩
    obtain ⟨tx, htx, rfl⟩ := map_at hx
    rw [List.length_map, List.length_map] at hi
    obtain ⟨l, hl⟩ : ∃ l, ls[i]? = some l := ⟨_, List.getElem?_eq_getElem (by omega)⟩
    have lm := List.mem_of_getElem? hl
    have etx : tx = textS l := by
      rw [List.getElem?_map, hl] at htx
      exact (Option.some.inj htx).symm
    subst etx
    obtain ⟨LO, new⟩ := vb.ok i l hl
    have NO := vb.nm l lm
    have tki : ls.take (i + 1) = ls.take i ++ [l] := by
      rw [List.take_add_one, hl]
      rfl
    have nd : ((nsS (ls.take i)).map (·.2)).Nodup := VBk.nodup vb i
    refine ⟨_, rfl, nsS (ls.take i), l, rfl, LO, NO, fun H3 a s3 ha LA => ?_⟩
    have hD3 := s3 _ _ hD2
    refine ⟨_, rfl, rfl, _, rfl, ?_⟩
    rw [decide_eq_false (show ¬ (V.ref a = V.non) by intro z; cases z)]
    refine iteF ⟨_, rfl, _, rfl, a, D, textS l, l, nsS (ls.take i), rfl, LA, hD3, nd, LO, vb.ds l lm, new, fun H4 s4 => ⟨_, rfl, iteF ?_⟩⟩
    have hL4 := s4 _ _ (s3 _ _ hL2)
    have LA4 := LA.same s4
    refine ⟨_, rfl, L, _, rfl, .inr (SqL.of hL4), _, rfl, ?_, fun z hz => ?_⟩
    · rw [List.length_append, List.length_map]
      refine Nat.le_trans (m := 13) ?_ (by decide)
      show as.length + 1 ≤ 13
      omega
    have hA : LnsAt K (upd H4 z (.lst (as.map V.ref ++ [V.ref a]))) (as ++ [a]) (ls.map textS) (ls.take (i + 1)) := by
      refine ⟨by rw [List.length_append, List.length_take, las]; show i + 1 = _; omega, fun j b m hb hm => ?_⟩
      have hm2 : ls[j]? = some m := by
        rw [List.getElem?_take] at hm
        split at hm
        · exact hm
        · cases hm
      refine ⟨textS m, by rw [List.getElem?_map, hm2]; rfl, ?_⟩
      rcases Nat.lt_or_ge j i with lt | ge
      · rw [List.getElem?_append_left (by omega)] at hb
        exact (((hls j b m hb hm2).same s3).same s4).same (Same.new hz)
      · rw [List.getElem?_append_right (by omega)] at hb
        have ej : j = i := by
          have := (List.getElem?_eq_some_iff.mp hb).1
          simp only [List.length_singleton] at this
          omega
        subst ej
        rw [las, Nat.sub_self] at hb
        cases hb
        rw [hl] at hm2
        cases hm2
        exact LA4.same (Same.new hz)
    refine ⟨z, as ++ [a], ls.map textS, ls.take (i + 1), rfl, SqL.of (by rw [upd_same, List.map_append]; rfl), hA, (by rw [List.length_take]; omega), fun H5 s5 => ⟨_, rfl, ?_⟩⟩
    rw [fewB_take vb.few]
    refine iteF ?_
    have s25 : Same H2 H5 := ((s3.trans s4).trans (Same.new hz)).trans s5
    have hL5 := s25 _ _ hL2
    have hD5 := s25 _ _ hD2
    have LA5 : LnAt K H5 a (textS l) l := (LA4.same (Same.new hz)).same s5
    have e5 := s25 _ _ e2
    have hls5 : ∀ (j : Nat) b m, as[j]? = some b → ls[j]? = some m → LnAt K H5 b (textS m) m := fun j b m h1 h2 => (hls j b m h1 h2).same s25
    have s5' : Same H H5 := s2.trans s25
    clear hA LA4 LA hL4 hD3 s4 s3 hls hL2 hD2 e2 s2 s25
    refine ⟨_, rfl, .inl ⟨rfl, _, SqL.of hL5⟩, _, rfl, L, _, _, rfl, rfl, hL5, ?_, ?_⟩
    · rw [List.length_map]
      exact Nat.lt_of_le_of_lt (m := 12) (by omega) (by decide)
    have s6 : Same H (upd H5 L (.lst (as.map V.ref ++ [V.ref a]))) := sm_put s5' hL
    have kp : ∀ {b : Addr} {m : LnS}, LnAt K H5 b (textS m) m → LnAt K (upd H5 L (.lst (as.map V.ref ++ [V.ref a]))) b (textS m) m := fun hb => hb.keep (.put hL5 trivial) fun dx fs z => by
      rw [upd_ne (fun c => by rw [c, hL5] at z; cases z)]
      exact z
    have LA6 := kp LA5
    have hD6 : (upd H5 L (.lst (as.map V.ref ++ [V.ref a]))) D = some (.dK (ahK (nsS (ls.take i)))) := by
      rw [upd_ne nLD.symm]
      exact hD5
    have e6 : (upd H5 L (.lst (as.map V.ref ++ [V.ref a]))) q = some (.lst ((ls.map textS).map V.str)) := by
      rw [upd_ne nqL]
      exact e5
    have L6 : (upd H5 L (.lst (as.map V.ref ++ [V.ref a]))) L = some (.lst (as.map V.ref ++ [V.ref a])) := upd_same
    have hls6 : ∀ (j : Nat) b m, as[j]? = some b → ls[j]? = some m → LnAt K (upd H5 L (.lst (as.map V.ref ++ [V.ref a]))) b (textS m) m := fun j b m h1 h2 => kp (hls5 j b m h1 h2)
    generalize upd H5 L (.lst (as.map V.ref ++ [V.ref a])) = H6 at s6 LA6 hD6 e6 L6 hls6 ⊢
    obtain ⟨dl, po, pw, pr, hla, _, _, _⟩ := id LA6
    have kl : (ahK (nsS (ls.take i))).length < sizeLine := by
      unfold ahK nsS
      rw [List.length_map, List.length_map, List.length_take]
      exact Nat.lt_of_le_of_lt (m := 12) (by omega) (by decide)
    have kp7 : ∀ {o : HO} {b : Addr} {m : LnS}, LnAt K H6 b (textS m) m → LnAt K (upd H6 D o) b (textS m) m := fun hb => hb.keep (.put hD6 trivial) fun dx fs z => by
      rw [upd_ne (fun c => by rw [c, hD6] at z; cases z)]
      exact z
    refine ⟨_, rfl, a, _, dl, _, _, rfl, hla, LC.cl, LC.na _ (by decide), rfl, _, rfl, _, rfl, a, _, dl, _, _, rfl, hla, LC.cl, LC.na _ (by decide), rfl, D, _, rfl, DPut.k (k := Sum.inr l.name) hD6 kl, sm_put s6 hD0, ?_, ⟨as ++ [a], by rw [List.length_append, las]; rfl, ?_, ?_⟩, ?_, _, _, rfl⟩
    · rw [upd_ne nqD]
      exact e6
    · rw [upd_ne nLD, L6, List.map_append]
      rfl
    · intro j b m hb hm2
      rcases Nat.lt_or_ge j i with lt | ge
      · rw [List.getElem?_append_left (by omega)] at hb
        exact kp7 (hls6 j b m hb hm2)
      · rw [List.getElem?_append_right (by omega)] at hb
        have ej : j = i := by
          have := (List.getElem?_eq_some_iff.mp hb).1
          simp only [List.length_singleton] at this
          omega
        subst ej
        rw [las, Nat.sub_self] at hb
        cases hb
        rw [hl] at hm2
        cases hm2
        exact kp7 LA6
    · rw [upd_same, ahK_put new, tki]
      unfold nsS
      rw [List.map_append]
      rfl
  · rintro σ H2 ⟨s2, e2, ⟨as, las, hL2, hls⟩, hD2, c3, c4, rfl⟩
    rw [List.length_map, List.length_map] at las
    exact ⟨_, rfl, k H2 L as s2 hL hL2 ⟨las, fun j a l ha hl => ⟨textS l, by rw [List.getElem?_map, hl]; rfl, hls j a l ha hl⟩⟩⟩
end

end K12

namespace K12
open PySem PySem.Spec PyProof.Rows L2 Lm
open C8 (Cal Mak Met pe_c pe_mk pe_mt pe_mt0 pss_cut tCut)
open LamX (CodeO TabS Tabs ExtN TabB)
--KR 9
--NOTOP
abbrev s_Book_init : Stmt := inClass (top 54) 0
abbrev n_Book_init : List Str := ["self", "text", "texts", "lines", "plan", "line"]
abbrev p_Book_init : List Str := ["self", "text"]
theorem sc_Book_init : FnScope n_Book_init p_Book_init (defScope s_Book_init) := ⟨rfl, rfl, rfl, by decide +kernel, rfl, by decide +kernel, by decide +kernel⟩
section
variable {P : Program} {w : World} {K : PySem.W.Frag} {mg : Str → Option Value} {base : Heap} {f : Addr} {fd : FuncData}
theorem ok_bookI (F : FunD K "__init__" "Book.__init__" (defArgs s_Book_init) (defBody s_Book_init) (defScope s_Book_init) [] [] f fd) (T : Bl mg base) (Z : ErrL P w K mg base ["BadBook", "BadLine", "NoName", "Used", "Few"]) (BC : ObC K mg "Book" ["text", "names", "mirrors", "pegs", "loose", "lines", "plan"]) (PC : ObC K mg "Plan" ["loose", "moves", "flips"]) (LC : ObC K mg "Line" ["text", "form", "word", "name", "others", "wanted", "row"])
    (c_fitting_lines : Cal P w K mg base 5 "fitting_lines" (spFit K) []) (c_plan_of : Cal P w K mg base 6 "plan_of" (spPlan P w K) []) : FnOk P w K mg base (L2.CX P w) 7 f fd ["self", "text"] (spBkI P w K) := by
  refine okX F sc_Book_init (fun vs H Q E h => ?_) (fun cdv A outer s H vs Q E hr h => ?_)
  · obtain ⟨x, dx, ls, rfl, _⟩ := h
    rfl
  refine ⟨_, (pss_cons (ps_if (pt_not (pt_val (pe_callB call_isR (by rfl) T.isinstance (by decide +kernel) (pa_cons (pv 1) (pa_cons (pe_bltn (v := .ty "str") (by rfl) T.str (by decide +kernel) rfl) pa_nil))))) (pss_one (ps_raise rfl (takes_of rfl rfl rfl rfl) (pmk_err Z (x := "BadBook") (by decide +kernel) hr (by decide) (by rfl) (pa_cons pe_int pa_nil)))) pss_nil)
    (pss_cons (ps_set (i := 2) sc_Book_init.nd rfl (by first | exact Or.inl rfl | exact Or.inr rfl) (pe_split (pv 1) pe_str))
    (pss_cons (ps_set (i := 3) sc_Book_init.nd rfl (by first | exact Or.inl rfl | exact Or.inr rfl) (pe_c c_fitting_lines hr (by decide) (by rfl) (pa_cons (pv 2) pa_nil)))
    (pss_cons (ps_set (i := 4) sc_Book_init.nd rfl (by first | exact Or.inl rfl | exact Or.inr rfl) (pe_c c_plan_of hr (by decide) (by rfl) (pa_cons (pv 3) pa_nil)))
    (pss_cons (ps_if (pt_cmpR op_lt (pe_callB call_lenD (by rfl) T.len (by decide +kernel) (pa_cons (pe_fld (pv 4) rfl) pa_nil)) (pe_callB call_len_seq (by rfl) T.len (by decide +kernel) (pa_cons (pv 2) pa_nil)) (nomark _)) (pss_one (ps_raise rfl (takes_of rfl rfl rfl rfl) (pmk_err Z (x := "BadBook") (by decide +kernel) hr (by decide) (by rfl) (pa_cons (pe_op op_add (pe_callB call_lenD (by rfl) T.len (by decide +kernel) (pa_cons (pe_fld (pv 4) rfl) pa_nil)) pe_int) pa_nil)))) pss_nil)
    (pss_cons (ps_fld (pv 0) (pv 1) rfl)
    (pss_cons (ps_fld (pv 0) (pe_callTy call_tuple_ofZ (by rfl) T.tuple (by decide +kernel) (pa_cons (pe_lc (own := [("line", 5)]) (g := (gName 5)) (tt := tYes) rfl sc_Book_init.nd (pi_list (pv 3)) (blkOk_by (own := [("line", 5)]) (N := n_Book_init) (sc := defScope s_Book_init) (by decide +kernel)) (fun _ _ _ _ _ => (pg_name (i := 5) sc_Book_init.nd rfl (by first | exact Or.inl rfl | exact Or.inr rfl))) (fun _ _ _ _ _ => pts_nil) (fun _ _ _ _ _ => (pe_fldP K (pv 5) rfl))) pa_nil)) rfl)
    (pss_cons (ps_fld (pv 0) (pe_callTy call_tuple_of (by rfl) T.tuple (by decide +kernel) (pa_cons (pe_lc (own := [("line", 5)]) (g := (gName 5)) rfl sc_Book_init.nd (pi_list (pv 3)) (blkOk_by (own := [("line", 5)]) (N := n_Book_init) (sc := defScope s_Book_init) (by decide +kernel)) (fun _ _ _ _ _ => (pg_name (i := 5) sc_Book_init.nd rfl (by first | exact Or.inl rfl | exact Or.inr rfl))) (fun _ _ _ _ _ => (pts_one (pt_cmpR op_eq (pe_fldP K (pv 5) rfl) pe_str (nomark _)))) (fun _ _ _ _ _ => (pe_fldP K (pv 5) rfl))) pa_nil)) rfl)
    (pss_cons (ps_fld (pv 0) (pe_callTy call_tuple_of (by rfl) T.tuple (by decide +kernel) (pa_cons (pe_lc (own := [("line", 5)]) (g := (gName 5)) rfl sc_Book_init.nd (pi_list (pv 3)) (blkOk_by (own := [("line", 5)]) (N := n_Book_init) (sc := defScope s_Book_init) (by decide +kernel)) (fun _ _ _ _ _ => (pg_name (i := 5) sc_Book_init.nd rfl (by first | exact Or.inl rfl | exact Or.inr rfl))) (fun _ _ _ _ _ => (pts_one (pt_cmpR op_eq (pe_fldP K (pv 5) rfl) pe_str (nomark _)))) (fun _ _ _ _ _ => (pe_fldP K (pv 5) rfl))) pa_nil)) rfl)
    (pss_cons (ps_fld (pv 0) (pe_fld (pv 4) rfl) rfl)
    (pss_cons (ps_fld (pv 0) (pe_callTy call_tuple_of (by rfl) T.tuple (by decide +kernel) (pa_cons (pv 3) pa_nil)) rfl)
    (pss_one (ps_fld (pv 0) (pv 4) rfl))))))))))))), ?_⟩
  obtain ⟨x, dx, ls, rfl, hx, vb, ne, k⟩ := h
  have bl := book_len vb
  have sb := split_book vb.nm ne
  have eB : ∀ {H' : Hp}, BkAt P w K H' x ls → BkAt P w K H' x ls := fun h => h
  refine ⟨_, rfl, _, _, _, _, true, rfl, .ty _, .inl (.base (.str _)), kit_ty (by decide +kernel), true, rfl, iteF ?_⟩
  refine ⟨_, rfl, ⟨_, rfl⟩, _, _, rfl, rfl, rfl, (Nat.le_trans (Nat.add_le_add_right bl 2) (by decide)), fun p hp => ?_⟩
  rw [sb]
  refine ⟨_, rfl, p, ls, rfl, SqL.of upd_same, vb, fun H1 L as s1 hL eL LA => ?_⟩
  have sA := (Same.new (o := .lst ((ls.map textS).map V.str)) hp).trans s1
  refine ⟨_, rfl, L, as, ls.map textS, ls, rfl, SqL.of eL, LA, vb.vb, fun H2 pl md fd s2 hpl hmd hfd PA2 => ?_⟩
  have hx2 := (sA.trans s2) _ _ hx
  have hp2 := s2 _ _ (s1 _ _ (upd_same (a := p)))
  have hL2' := s2 _ _ eL
  have LA2 := LA.same s2
  have n12 := vb.n
  have hL2 : SqL K H2 L (as.map V.ref) := SqL.of hL2'
  have nLx : L ≠ x := fun z => by rw [z, hx2] at hL2'; cases hL2'
  have nplx : pl ≠ x := fun z => by
    obtain ⟨dy, p0, q, _⟩ := PA2.pl
    rw [z, hx2] at q
    exact ins_ne q (by simp [plF])
  have kH2 : KeptBut x H H2 := KeptBut.of_same (sA.trans s2)
  obtain ⟨dy, p0, hpl2, hp02⟩ := PA2.pl
  obtain ⟨kvs, hmd2, hks, hmv⟩ := PA2.md
  have kl : kvs.length = ls.length := by
    have z := congrArg List.length hks
    unfold nsS at z
    rw [List.length_map, List.length_map, List.length_map] at z
    exact z
  refine ⟨_, rfl, pl, _, dy, _, _, rfl, hpl2, PC.cl, PC.na _ (by decide), rfl, md, kvs, rfl, hmd2, _, rfl, p, _, rfl, .inl (SqL.of hp2), _, _, rfl, rfl, _, rfl, ?_⟩
  rw [kl, List.length_map, List.length_map, decide_eq_false (Int.lt_irrefl _)]
  refine iteF ?_
  refine ⟨_, rfl, _, rfl, x, _, dx, _, rfl, hx2, BC.cl, BC.na _ (by decide), (show 0 < 1000 by decide), ?_⟩
  generalize hH : upd H2 x (.ins (He.ga K "Book") dx (putF "text" (V.str (bookS ls)) [])) = H3
  have hxH3 : H3 x = some (.ins (He.ga K "Book") dx [("text", .str (bookS ls))]) := by
    rw [← hH]
    exact upd_same
  have kbH3 : KeptBut x H2 H3 := by
    rw [← hH]
    exact KeptBut.refl.put
  clear hH
  refine ⟨_, rfl, L, rfl, ⟨_, sql_keep hL2 kbH3 nLx⟩, fun D1 hD1 => ?_⟩
  refine lc_it walk_list (fun i H' => Same H3 H' ∧ H' D1 = some (.lst ((ls.take i).map fun l => V.str l.name))) ⟨Same.new hD1, upd_same⟩ (fun i H' _ h => Same.seq h.1 (sql_keep hL2 kbH3 nLx)) ?_ ?_
  · rintro i y G1 G2 hi ⟨s, e⟩ ⟨rfl, hu⟩
    rw [List.length_map, LA2.1] at hi
    obtain ⟨a, ha, rfl⟩ := map_at hu
    obtain ⟨l, hl⟩ : ∃ l, ls[i]? = some l := ⟨_, List.getElem?_eq_getElem hi⟩
    obtain ⟨t, _, LAi⟩ := (LA2.keptx hx2 kbH3).2 i a l ha hl
    obtain ⟨dl, po, pw, pr, hla, _⟩ := LAi.same s
    refine ⟨rfl, yes_if ⟨_, rfl, a, _, dl, _, _, rfl, hla, LC.cl, LC.na _ (by decide), rfl, _, e, few_take _ (n := 12) (by omega) (by decide), sm_put s hD1, ?_⟩⟩
    rw [upd_same, take_map (fun l : LnS => V.str l.name) hl]
  rintro GD1 ⟨sGD1, eGD1⟩
  rw [List.length_map, LA2.1, List.take_length] at eGD1
  refine ⟨D1, _, rfl, SqL.of eGD1, fun p1 o1 hp1 ho1 => ?_⟩
  have sp1 := sm_new (o := .frz o1 (.tup (ls.map fun l => V.str l.name))) sGD1 hp1
  refine ⟨_, rfl, x, _, dx, _, rfl, sp1 _ _ hxH3, BC.cl, BC.na _ (by decide), (show 1 < 1000 by decide), ?_⟩
  have np1 : p1 ≠ x := ne_of_none (sGD1 _ _ hxH3) hp1 |>.symm
  generalize hH : upd (upd GD1 p1 (.frz o1 (.tup (ls.map fun l => V.str l.name)))) x (.ins (He.ga K "Book") dx (putF "names" (V.ref p1) [("text", .str (bookS ls))])) = H4
  have hxH4 : H4 x = some (.ins (He.ga K "Book") dx [("text", .str (bookS ls)), ("names", .ref p1)]) := by
    rw [← hH]
    exact upd_same
  have hp1' : H4 p1 = some (.frz o1 (.tup (ls.map fun l => V.str l.name))) := by
    rw [← hH, upd_ne np1]
    exact upd_same
  have kbH4 : KeptBut x H3 H4 := by
    rw [← hH]
    exact (KeptBut.of_same sp1).put
  have kbH4' := kbH4
  replace kbH4 := kbH3.trans kbH4
  clear hH
  refine ⟨_, rfl, L, rfl, ⟨_, sql_keep hL2 kbH4 nLx⟩, fun D2 hD2 => ?_⟩
  refine lc_it walk_list (fun i H' => Same H4 H' ∧ H' D2 = some (.lst (((ls.take i).filter fun l => l.mir == true).map fun l => V.str l.name))) ⟨Same.new hD2, upd_same⟩ (fun i H' _ h => Same.seq h.1 (sql_keep hL2 kbH4 nLx)) ?_ ?_
  · rintro i y G1 G2 hi ⟨s, e⟩ ⟨rfl, hu⟩
    rw [List.length_map, LA2.1] at hi
    obtain ⟨a, ha, rfl⟩ := map_at hu
    obtain ⟨l, hl⟩ : ∃ l, ls[i]? = some l := ⟨_, List.getElem?_eq_getElem hi⟩
    obtain ⟨t, _, LAi⟩ := (LA2.keptx hx2 kbH4).2 i a l ha hl
    obtain ⟨dl, po, pw, pr, hla, _⟩ := LAi.same s
    have tk := filt_take (f := fun l => l.mir == true) hl fun l => V.str l.name
    refine ⟨rfl, ⟨_, rfl, a, _, dl, _, _, rfl, hla, LC.cl, LC.na _ (by decide), rfl, rfl, _, rfl, ?_⟩⟩
    have eq : decide (V.str (wordS l.mir) = V.str "mirror") = (l.mir == true) := by cases l.mir <;> decide
    rw [eq]
    cases q : l.mir == true with
    | true =>
      rw [q, if_pos rfl] at tk
      refine iteT ⟨_, rfl, a, _, dl, _, _, rfl, hla, LC.cl, LC.na _ (by decide), rfl, _, e, ?_, sm_put s hD2, ?_⟩
      · rw [List.length_map]
        refine Nat.lt_of_le_of_lt (m := 12) ?_ (by decide)
        refine Nat.le_trans (List.length_filter_le _ _) ?_
        rw [List.length_take]
        omega
      · rw [upd_same, tk]
    | false =>
      rw [q, if_neg (by decide)] at tk
      refine iteF ⟨s, ?_⟩
      rw [tk]
      exact e
  rintro GD2 ⟨sGD2, eGD2⟩
  rw [List.length_map, LA2.1, List.take_length] at eGD2
  refine ⟨D2, _, rfl, .inl ⟨SqL.of eGD2, fun p2 hp2 => ?_⟩⟩
  have sp2 := sm_new (o := .tup ((ls.filter fun l => l.mir == true).map fun l => V.str l.name)) sGD2 hp2
  refine ⟨_, rfl, x, _, dx, _, rfl, sp2 _ _ hxH4, BC.cl, BC.na _ (by decide), (show 2 < 1000 by decide), ?_⟩
  have np2 : p2 ≠ x := ne_of_none (sGD2 _ _ hxH4) hp2 |>.symm
  generalize hH : upd (upd GD2 p2 (.tup ((ls.filter fun l => l.mir == true).map fun l => V.str l.name))) x (.ins (He.ga K "Book") dx (putF "mirrors" (V.ref p2) [("text", .str (bookS ls)), ("names", .ref p1)])) = H5
  have hxH5 : H5 x = some (.ins (He.ga K "Book") dx [("text", .str (bookS ls)), ("names", .ref p1), ("mirrors", .ref p2)]) := by
    rw [← hH]
    exact upd_same
  have hp2' : H5 p2 = some (.tup ((ls.filter fun l => l.mir == true).map fun l => V.str l.name)) := by
    rw [← hH, upd_ne np2]
    exact upd_same
  have kbH5 : KeptBut x H4 H5 := by
    rw [← hH]
    exact (KeptBut.of_same sp2).put
  have kbH5' := kbH5
  replace kbH5 := kbH4.trans kbH5
  clear hH
  refine ⟨_, rfl, L, rfl, ⟨_, sql_keep hL2 kbH5 nLx⟩, fun D3 hD3 => ?_⟩
  refine lc_it walk_list (fun i H' => Same H5 H' ∧ H' D3 = some (.lst (((ls.take i).filter fun l => l.mir == false).map fun l => V.str l.name))) ⟨Same.new hD3, upd_same⟩ (fun i H' _ h => Same.seq h.1 (sql_keep hL2 kbH5 nLx)) ?_ ?_
  · rintro i y G1 G2 hi ⟨s, e⟩ ⟨rfl, hu⟩
    rw [List.length_map, LA2.1] at hi
    obtain ⟨a, ha, rfl⟩ := map_at hu
    obtain ⟨l, hl⟩ : ∃ l, ls[i]? = some l := ⟨_, List.getElem?_eq_getElem hi⟩
    obtain ⟨t, _, LAi⟩ := (LA2.keptx hx2 kbH5).2 i a l ha hl
    obtain ⟨dl, po, pw, pr, hla, _⟩ := LAi.same s
    have tk := filt_take (f := fun l => l.mir == false) hl fun l => V.str l.name
    refine ⟨rfl, ⟨_, rfl, a, _, dl, _, _, rfl, hla, LC.cl, LC.na _ (by decide), rfl, rfl, _, rfl, ?_⟩⟩
    have eq : decide (V.str (wordS l.mir) = V.str "peg") = (l.mir == false) := by cases l.mir <;> decide
    rw [eq]
    cases q : l.mir == false with
    | true =>
      rw [q, if_pos rfl] at tk
      refine iteT ⟨_, rfl, a, _, dl, _, _, rfl, hla, LC.cl, LC.na _ (by decide), rfl, _, e, ?_, sm_put s hD3, ?_⟩
      · rw [List.length_map]
        refine Nat.lt_of_le_of_lt (m := 12) ?_ (by decide)
        refine Nat.le_trans (List.length_filter_le _ _) ?_
        rw [List.length_take]
        omega
      · rw [upd_same, tk]
    | false =>
      rw [q, if_neg (by decide)] at tk
      refine iteF ⟨s, ?_⟩
      rw [tk]
      exact e
  rintro GD3 ⟨sGD3, eGD3⟩
  rw [List.length_map, LA2.1, List.take_length] at eGD3
  refine ⟨D3, _, rfl, .inl ⟨SqL.of eGD3, fun p3 hp3 => ?_⟩⟩
  have sp3 := sm_new (o := .tup ((ls.filter fun l => l.mir == false).map fun l => V.str l.name)) sGD3 hp3
  refine ⟨_, rfl, x, _, dx, _, rfl, sp3 _ _ hxH5, BC.cl, BC.na _ (by decide), (show 3 < 1000 by decide), ?_⟩
  have np3 : p3 ≠ x := ne_of_none (sGD3 _ _ hxH5) hp3 |>.symm
  generalize hH : upd (upd GD3 p3 (.tup ((ls.filter fun l => l.mir == false).map fun l => V.str l.name))) x (.ins (He.ga K "Book") dx (putF "pegs" (V.ref p3) [("text", .str (bookS ls)), ("names", .ref p1), ("mirrors", .ref p2)])) = H6
  have hxH6 : H6 x = some (.ins (He.ga K "Book") dx [("text", .str (bookS ls)), ("names", .ref p1), ("mirrors", .ref p2), ("pegs", .ref p3)]) := by
    rw [← hH]
    exact upd_same
  have hp3' : H6 p3 = some (.tup ((ls.filter fun l => l.mir == false).map fun l => V.str l.name)) := by
    rw [← hH, upd_ne np3]
    exact upd_same
  have kbH6 : KeptBut x H5 H6 := by
    rw [← hH]
    exact (KeptBut.of_same sp3).put
  have kbH6' := kbH6
  replace kbH6 := kbH5.trans kbH6
  clear hH
  refine ⟨_, rfl, pl, _, dy, _, _, rfl, kbH6 _ _ hpl2 nplx, PC.cl, PC.na _ (by decide), rfl, _, rfl, x, _, dx, _, rfl, hxH6, BC.cl, BC.na _ (by decide), (show 4 < 1000 by decide), ?_⟩
  generalize hH : upd H6 x (.ins (He.ga K "Book") dx (putF "loose" (V.ref p0) [("text", .str (bookS ls)), ("names", .ref p1), ("mirrors", .ref p2), ("pegs", .ref p3)])) = H7
  have hxH7 : H7 x = some (.ins (He.ga K "Book") dx [("text", .str (bookS ls)), ("names", .ref p1), ("mirrors", .ref p2), ("pegs", .ref p3), ("loose", .ref p0)]) := by
    rw [← hH]
    exact upd_same
  have kbH7' : KeptBut x H6 H7 := by
    rw [← hH]
    exact KeptBut.refl.put
  have kbH7 := kbH6.trans kbH7'
  clear hH
  refine ⟨_, rfl, L, _, rfl, .inl ⟨sql_keep hL2 kbH7 nLx, fun p5 hp5 => ?_⟩⟩
  have sp5 := Same.new (o := .tup (as.map V.ref)) hp5
  have np5 : p5 ≠ x := (ne_of_none hxH7 hp5).symm
  refine ⟨_, rfl, x, _, dx, _, rfl, sp5 _ _ hxH7, BC.cl, BC.na _ (by decide), (show 5 < 1000 by decide), ?_⟩
  generalize hH : upd (upd H7 p5 (.tup (as.map V.ref))) x (.ins (He.ga K "Book") dx (putF "lines" (V.ref p5) [("text", .str (bookS ls)), ("names", .ref p1), ("mirrors", .ref p2), ("pegs", .ref p3), ("loose", .ref p0)])) = H8
  have hxH8 : H8 x = some (.ins (He.ga K "Book") dx [("text", .str (bookS ls)), ("names", .ref p1), ("mirrors", .ref p2), ("pegs", .ref p3), ("loose", .ref p0), ("lines", .ref p5)]) := by
    rw [← hH]
    exact upd_same
  have hp5' : H8 p5 = some (.tup (as.map V.ref)) := by
    rw [← hH, upd_ne np5]
    exact upd_same
  have kbH8' : KeptBut x H7 H8 := by
    rw [← hH]
    exact (KeptBut.of_same sp5).put
  clear hH
  refine ⟨_, rfl, _, rfl, x, _, dx, _, rfl, hxH8, BC.cl, BC.na _ (by decide), (show 6 < 1000 by decide), ?_⟩
  generalize hH : upd H8 x (.ins (He.ga K "Book") dx (putF "plan" (V.ref pl) [("text", .str (bookS ls)), ("names", .ref p1), ("mirrors", .ref p2), ("pegs", .ref p3), ("loose", .ref p0), ("lines", .ref p5)])) = H9
  have hxH9 : H9 x = some (.ins (He.ga K "Book") dx (bkF (bookS ls) p1 p2 p3 p0 p5 pl)) := by
    rw [← hH]
    exact upd_same
  have kbH9' : KeptBut x H8 H9 := by
    rw [← hH]
    exact KeptBut.refl.put
  clear hH
  have k89 := kbH9'
  have k79 := kbH8'.trans k89
  have k69 := kbH7'.trans k79
  have kb9 := kbH6.trans k69
  have h1 : H9 p1 = some (.frz o1 (.tup (ls.map fun l => V.str l.name))) := k69 _ _ (kbH6' _ _ (kbH5' _ _ hp1' np1) np1) np1
  have h2 : H9 p2 = some (.tup ((ls.filter fun l => l.mir == true).map fun l => V.str l.name)) := k69 _ _ (kbH6' _ _ hp2' np2) np2
  have h3 : H9 p3 = some (.tup ((ls.filter fun l => l.mir == false).map fun l => V.str l.name)) := k69 _ _ hp3' np3
  have h5 : H9 p5 = some (.tup (as.map V.ref)) := k89 _ _ hp5' np5
  have n1 : (namesS ls).map V.str = ls.map fun l => V.str l.name := by
    unfold namesS
    rw [List.map_map]
    rfl
  have n2 : ∀ m, (ofS m ls).map V.str = (ls.filter fun l => l.mir == m).map fun l => V.str l.name := fun m => by
    unfold ofS
    rw [List.map_map]
    rfl
  exact k H9 (kH2.trans kb9) ⟨dx, p1, p2, p3, p0, p5, pl, md, fd, as, hxH9, ⟨o1, by rw [n1]; exact h1, ho1⟩, SqT.of (by rw [n2]; exact h2), SqT.of (by rw [n2]; exact h3), sq_tk hp02 (kb9.tk hx2 trivial), SqT.of h5, LA2.keptx hx2 kb9, PA2.keptx hx2 kb9⟩
end

end K12


namespace K12
open PySem PySem.Spec PyProof.Rows L2 Lm
open C8 (Cal Mak Met pe_c pe_mk pe_mt pe_mt0 pss_cut tCut)
open LamX (CodeO TabS Tabs ExtN TabB)
--KR 9
--NOTOP
abbrev s_law_line_text : Stmt := top 63
abbrev n_law_line_text : List Str := ["line", "what", "name", "form", "others"]
abbrev p_law_line_text : List Str := ["line"]
theorem sc_law_line_text : FnScope n_law_line_text p_law_line_text (defScope s_law_line_text) := ⟨rfl, rfl, rfl, by decide +kernel, rfl, by decide +kernel, by decide +kernel⟩
section
variable {P : Program} {w : World} {K : PySem.W.Frag} {mg : Str → Option Value} {base : Heap} {f : Addr} {fd : FuncData}
theorem ok_line_text (F : FunD K "_law_line_text" "_law_line_text" (defArgs s_law_line_text) (defBody s_law_line_text) (defScope s_law_line_text) [] [] f fd) (hm : mg "_law_line_text" = some (.ref f)) (T : Bl mg base) : Cal P w K mg base 1 "_law_line_text" (spLoText K) [] := by
  refine calD F hm sc_law_line_text (fun _ _ _ _ _ _ us hl => match us, hl with | [_], _ => rfl) (fun vs H Q E h => ?_) (fun cdv A outer s H vs Q E hr h => ?_)
  · obtain ⟨a, l, ns, rfl, _⟩ := h
    rfl
  obtain ⟨a, l, ns, rfl, ⟨po, ha, hpo⟩, LO, NO, k⟩ := h
  refine ⟨_, (pss_cons (ps_asg (pv 0) (pg_tup rfl (pgs_cons (pg_name (i := 1) sc_law_line_text.nd rfl (by first | exact Or.inl rfl | exact Or.inr rfl)) (pgs_cons (pg_name (i := 2) sc_law_line_text.nd rfl (by first | exact Or.inl rfl | exact Or.inr rfl)) (pgs_cons (pg_name (i := 3) sc_law_line_text.nd rfl (by first | exact Or.inl rfl | exact Or.inr rfl)) (pgs_cons (pg_name (i := 4) sc_law_line_text.nd rfl (by first | exact Or.inl rfl | exact Or.inr rfl)) pgs_nil))))))
    (pss_cons (ps_if (pt_cmpR op_eq (pv 3) pe_str (nomark _)) (pss_one (ps_ret (pe_op op_add_str (pe_op op_add_str (pv 1) pe_str) (pv 2)))) pss_nil)
    (pss_cons (ps_if (pt_cmpR op_in_seq (pv 3) (pe_tup (pa_cons pe_str (pa_cons pe_str pa_nil))) (by rfl)) (pss_one (ps_ret (pe_join pe_str (pe_lst (pa_cons (pv 1) (pa_cons (pv 2) (pa_cons (pv 3) (pa_cons (pe_ix ix_seq (pv 4) pe_int (fun _ _ => rfl)) (pa_cons pe_str (pa_cons (pe_ix ix_seq (pv 4) pe_int (fun _ _ => rfl)) pa_nil)))))))))) pss_nil)
    (pss_cons (ps_if (pt_cmpR op_in_seq (pv 3) (pe_tup (pa_cons pe_str (pa_cons pe_str pa_nil))) (by rfl)) (pss_one (ps_ret (pe_join pe_str (pe_lst (pa_cons (pv 1) (pa_cons (pv 2) (pa_cons pe_str (pa_cons (pe_ix ix_seq (pv 4) pe_int (fun _ _ => rfl)) (pa_cons (pv 3) (pa_cons (pe_ix ix_seq (pv 4) pe_int (fun _ _ => rfl)) pa_nil)))))))))) pss_nil)
    (pss_one (ps_ret (pe_join pe_str (pe_op op_cat (pe_lst (pa_cons (pv 1) (pa_cons (pv 2) (pa_cons (pv 3) pa_nil)))) (pe_callTy call_list_of (by rfl) T.list (by decide +kernel) (pa_cons (pv 4) pa_nil)))))))))), ?_⟩
  refine ⟨_, rfl, a, _, rfl, ha, rfl, _, _, rfl, _, _, rfl, _, _, rfl, _, _, rfl, rfl, ?_⟩
  refine ⟨_, rfl, rfl, _, rfl, ?_⟩
  have le8 : ∀ x ∈ wordsS l, x.length ≤ 8 := NO.wl
  have wl := words_len LO
  have jn : ∀ ws : List Str, ws = wordsS l → (ws.map (·.length)).sum + ws.length * (" " : Str).length ≤ 16777216 := fun ws e => by
    subst e
    have key : ∀ r : List Str, (∀ n ∈ r, n.length ≤ 8) → (r.map (·.length)).sum ≤ 8 * r.length := by
      intro r
      induction r with
      | nil => intro _; exact Nat.le_refl _
      | cons a r ih =>
        intro q
        have h1 := q a List.mem_cons_self
        have h2 := ih fun n m => q n (List.mem_cons_of_mem _ m)
        simp only [List.map_cons, List.sum_cons, List.length_cons]
        omega
    have h1 := key _ le8
    have h4 : (" " : Str).length = 1 := rfl
    rw [h4]
    omega
  cases LO with
  | free mir nm =>
    apply ite_seq
    have q1 := le8 (wordS mir) (by simp [wordsS])
    have q2 := le8 nm (by simp [wordsS])
    refine ⟨_, rfl, _, _, rfl, rfl, ?_, _, rfl, _, _, rfl, rfl, ?_, ?_⟩
    · show (wordS mir).length + (" " : Str).length ≤ _
      have : (" " : Str).length = 1 := rfl
      rw [sizeLine_eq, this]
      omega
    · show (wordS mir ++ " ").length + nm.length ≤ _
      have : (" " : Str).length = 1 := rfl
      rw [sizeLine_eq, strLen_append, this]
      omega
    · exact k H (Same.refl H)
  | along nm a p ha2 hp =>
    apply ite_sne (show ("along" : Str) ≠ "free" by decide)
    refine ⟨_, rfl, (by show 2 ≤ sizeLine; decide), fun q1 hq1 => ⟨q1, _, rfl, .inr (SqT.of upd_same), rfl, rfl, _, rfl, ?_⟩⟩
    have s1 := Same.new (o := .tup [V.str "along", V.str "across"]) hq1
    refine ite_yes (by rfl) ?_
    refine ⟨⟨_, rfl⟩, _, rfl, _, rfl, _, rfl, _, rfl, .inr (.inl ⟨po, _, _, _, rfl, rfl, (sq_tk hpo (.same s1)), atI_of (j := 0) rfl rfl, _, rfl, .inr (.inl ⟨po, _, _, _, rfl, rfl, (sq_tk hpo (.same s1)), atI_of (j := 1) rfl rfl, (by show 6 ≤ sizeLine; decide), fun L hL => ⟨_, L, [wordS true, nm, "along", a, "through", p], rfl, rfl, .inl (SqL.of upd_same), jn _ rfl, k _ (s1.trans (Same.new hL))⟩⟩)⟩)⟩
  | across nm a p ha2 hp =>
    apply ite_sne (show ("across" : Str) ≠ "free" by decide)
    refine ⟨_, rfl, (by show 2 ≤ sizeLine; decide), fun q1 hq1 => ⟨q1, _, rfl, .inr (SqT.of upd_same), rfl, rfl, _, rfl, ?_⟩⟩
    have s1 := Same.new (o := .tup [V.str "along", V.str "across"]) hq1
    refine ite_yes (by rfl) ?_
    refine ⟨⟨_, rfl⟩, _, rfl, _, rfl, _, rfl, _, rfl, .inr (.inl ⟨po, _, _, _, rfl, rfl, (sq_tk hpo (.same s1)), atI_of (j := 0) rfl rfl, _, rfl, .inr (.inl ⟨po, _, _, _, rfl, rfl, (sq_tk hpo (.same s1)), atI_of (j := 1) rfl rfl, (by show 6 ≤ sizeLine; decide), fun L hL => ⟨_, L, [wordS true, nm, "across", a, "through", p], rfl, rfl, .inl (SqL.of upd_same), jn _ rfl, k _ (s1.trans (Same.new hL))⟩⟩)⟩)⟩
  | frmM nm a p ha2 hp =>
    apply ite_sne (show ("in" : Str) ≠ "free" by decide)
    refine ⟨_, rfl, (by show 2 ≤ sizeLine; decide), fun q1 hq1 => ⟨q1, _, rfl, .inr (SqT.of upd_same), rfl, rfl, _, rfl, ?_⟩⟩
    have s1 := Same.new (o := .tup [V.str "along", V.str "across"]) hq1
    refine ite_no (by rfl) ?_
    refine ⟨_, rfl, (by show 2 ≤ sizeLine; decide), fun q2 hq2 => ⟨q2, _, rfl, .inr (SqT.of upd_same), rfl, rfl, _, rfl, ?_⟩⟩
    have s2 := s1.trans (Same.new (o := .tup [V.str "in", V.str "about"]) hq2)
    refine ite_yes (by rfl) ?_
    refine ⟨⟨_, rfl⟩, _, rfl, _, rfl, _, rfl, .inr (.inl ⟨po, _, _, _, rfl, rfl, (sq_tk hpo (.same s2)), atI_of (j := 0) rfl rfl, _, rfl, _, rfl, .inr (.inl ⟨po, _, _, _, rfl, rfl, (sq_tk hpo (.same s2)), atI_of (j := 1) rfl rfl, (by show 6 ≤ sizeLine; decide), fun L hL => ⟨_, L, [wordS true, nm, "from", a, "in", p], rfl, rfl, .inl (SqL.of upd_same), jn _ rfl, k _ (s2.trans (Same.new hL))⟩⟩)⟩)⟩
  | frmP nm a p ha2 hp =>
    apply ite_sne (show ("in" : Str) ≠ "free" by decide)
    refine ⟨_, rfl, (by show 2 ≤ sizeLine; decide), fun q1 hq1 => ⟨q1, _, rfl, .inr (SqT.of upd_same), rfl, rfl, _, rfl, ?_⟩⟩
    have s1 := Same.new (o := .tup [V.str "along", V.str "across"]) hq1
    refine ite_no (by rfl) ?_
    refine ⟨_, rfl, (by show 2 ≤ sizeLine; decide), fun q2 hq2 => ⟨q2, _, rfl, .inr (SqT.of upd_same), rfl, rfl, _, rfl, ?_⟩⟩
    have s2 := s1.trans (Same.new (o := .tup [V.str "in", V.str "about"]) hq2)
    refine ite_yes (by rfl) ?_
    refine ⟨⟨_, rfl⟩, _, rfl, _, rfl, _, rfl, .inr (.inl ⟨po, _, _, _, rfl, rfl, (sq_tk hpo (.same s2)), atI_of (j := 0) rfl rfl, _, rfl, _, rfl, .inr (.inl ⟨po, _, _, _, rfl, rfl, (sq_tk hpo (.same s2)), atI_of (j := 1) rfl rfl, (by show 6 ≤ sizeLine; decide), fun L hL => ⟨_, L, [wordS false, nm, "from", a, "in", p], rfl, rfl, .inl (SqL.of upd_same), jn _ rfl, k _ (s2.trans (Same.new hL))⟩⟩)⟩)⟩
  | about nm a p ha2 hp =>
    apply ite_sne (show ("about" : Str) ≠ "free" by decide)
    refine ⟨_, rfl, (by show 2 ≤ sizeLine; decide), fun q1 hq1 => ⟨q1, _, rfl, .inr (SqT.of upd_same), rfl, rfl, _, rfl, ?_⟩⟩
    have s1 := Same.new (o := .tup [V.str "along", V.str "across"]) hq1
    refine ite_no (by rfl) ?_
    refine ⟨_, rfl, (by show 2 ≤ sizeLine; decide), fun q2 hq2 => ⟨q2, _, rfl, .inr (SqT.of upd_same), rfl, rfl, _, rfl, ?_⟩⟩
    have s2 := s1.trans (Same.new (o := .tup [V.str "in", V.str "about"]) hq2)
    refine ite_yes (by rfl) ?_
    refine ⟨⟨_, rfl⟩, _, rfl, _, rfl, _, rfl, .inr (.inl ⟨po, _, _, _, rfl, rfl, (sq_tk hpo (.same s2)), atI_of (j := 0) rfl rfl, _, rfl, _, rfl, .inr (.inl ⟨po, _, _, _, rfl, rfl, (sq_tk hpo (.same s2)), atI_of (j := 1) rfl rfl, (by show 6 ≤ sizeLine; decide), fun L hL => ⟨_, L, [wordS false, nm, "from", a, "about", p], rfl, rfl, .inl (SqL.of upd_same), jn _ rfl, k _ (s2.trans (Same.new hL))⟩⟩)⟩)⟩
  | thr nm p hp =>
    apply ite_sne (show ("through" : Str) ≠ "free" by decide)
    refine ⟨_, rfl, (by show 2 ≤ sizeLine; decide), fun q1 hq1 => ⟨q1, _, rfl, .inr (SqT.of upd_same), rfl, rfl, _, rfl, ?_⟩⟩
    have s1 := Same.new (o := .tup [V.str "along", V.str "across"]) hq1
    refine ite_no (by rfl) ?_
    refine ⟨_, rfl, (by show 2 ≤ sizeLine; decide), fun q2 hq2 => ⟨q2, _, rfl, .inr (SqT.of upd_same), rfl, rfl, _, rfl, ?_⟩⟩
    have s2 := s1.trans (Same.new (o := .tup [V.str "in", V.str "about"]) hq2)
    refine ite_no (by rfl) ?_
    refine ⟨⟨_, rfl⟩, _, rfl, _, rfl, _, rfl, (by show 3 ≤ sizeLine; decide), fun L hL => ⟨_, rfl, po, _, rfl, .inr (sq_tk hpo (.same (s2.trans (Same.new hL)))), fun M hM => ?_⟩⟩
    have s3 := (s2.trans (Same.new (o := .lst [V.str (wordS true), V.str nm, V.str "through"]) hL)).trans (Same.new (o := .lst ([p].map V.str)) hM)
    refine ⟨L, M, _, _, rfl, rfl, Same.new hM _ _ upd_same, upd_same, ?_, fun N hN => ⟨_, N, wordS true :: nm :: "through" :: [p], rfl, rfl, .inl (SqL.of upd_same), jn _ rfl, k _ (s3.trans (Same.new hN))⟩⟩
    rw [List.length_map, sizeLine_eq]
    show 3 + ([p] : List Str).length ≤ _
    have : ([p] : List Str).length ≤ 5 := by first | exact h5 | exact (by decide : (1 : Nat) ≤ 5) | exact (by decide : (2 : Nat) ≤ 5)
    omega
  | on nm p hp =>
    apply ite_sne (show ("on" : Str) ≠ "free" by decide)
    refine ⟨_, rfl, (by show 2 ≤ sizeLine; decide), fun q1 hq1 => ⟨q1, _, rfl, .inr (SqT.of upd_same), rfl, rfl, _, rfl, ?_⟩⟩
    have s1 := Same.new (o := .tup [V.str "along", V.str "across"]) hq1
    refine ite_no (by rfl) ?_
    refine ⟨_, rfl, (by show 2 ≤ sizeLine; decide), fun q2 hq2 => ⟨q2, _, rfl, .inr (SqT.of upd_same), rfl, rfl, _, rfl, ?_⟩⟩
    have s2 := s1.trans (Same.new (o := .tup [V.str "in", V.str "about"]) hq2)
    refine ite_no (by rfl) ?_
    refine ⟨⟨_, rfl⟩, _, rfl, _, rfl, _, rfl, (by show 3 ≤ sizeLine; decide), fun L hL => ⟨_, rfl, po, _, rfl, .inr (sq_tk hpo (.same (s2.trans (Same.new hL)))), fun M hM => ?_⟩⟩
    have s3 := (s2.trans (Same.new (o := .lst [V.str (wordS false), V.str nm, V.str "on"]) hL)).trans (Same.new (o := .lst ([p].map V.str)) hM)
    refine ⟨L, M, _, _, rfl, rfl, Same.new hM _ _ upd_same, upd_same, ?_, fun N hN => ⟨_, N, wordS false :: nm :: "on" :: [p], rfl, rfl, .inl (SqL.of upd_same), jn _ rfl, k _ (s3.trans (Same.new hN))⟩⟩
    rw [List.length_map, sizeLine_eq]
    show 3 + ([p] : List Str).length ≤ _
    have : ([p] : List Str).length ≤ 5 := by first | exact h5 | exact (by decide : (1 : Nat) ≤ 5) | exact (by decide : (2 : Nat) ≤ 5)
    omega
  | amid nm a p ha2 hp =>
    apply ite_sne (show ("amid" : Str) ≠ "free" by decide)
    refine ⟨_, rfl, (by show 2 ≤ sizeLine; decide), fun q1 hq1 => ⟨q1, _, rfl, .inr (SqT.of upd_same), rfl, rfl, _, rfl, ?_⟩⟩
    have s1 := Same.new (o := .tup [V.str "along", V.str "across"]) hq1
    refine ite_no (by rfl) ?_
    refine ⟨_, rfl, (by show 2 ≤ sizeLine; decide), fun q2 hq2 => ⟨q2, _, rfl, .inr (SqT.of upd_same), rfl, rfl, _, rfl, ?_⟩⟩
    have s2 := s1.trans (Same.new (o := .tup [V.str "in", V.str "about"]) hq2)
    refine ite_no (by rfl) ?_
    refine ⟨⟨_, rfl⟩, _, rfl, _, rfl, _, rfl, (by show 3 ≤ sizeLine; decide), fun L hL => ⟨_, rfl, po, _, rfl, .inr (sq_tk hpo (.same (s2.trans (Same.new hL)))), fun M hM => ?_⟩⟩
    have s3 := (s2.trans (Same.new (o := .lst [V.str (wordS false), V.str nm, V.str "amid"]) hL)).trans (Same.new (o := .lst ([a, p].map V.str)) hM)
    refine ⟨L, M, _, _, rfl, rfl, Same.new hM _ _ upd_same, upd_same, ?_, fun N hN => ⟨_, N, wordS false :: nm :: "amid" :: [a, p], rfl, rfl, .inl (SqL.of upd_same), jn _ rfl, k _ (s3.trans (Same.new hN))⟩⟩
    rw [List.length_map, sizeLine_eq]
    show 3 + ([a, p] : List Str).length ≤ _
    have : ([a, p] : List Str).length ≤ 5 := by first | exact h5 | exact (by decide : (1 : Nat) ≤ 5) | exact (by decide : (2 : Nat) ≤ 5)
    omega
  | is_ mir nm a row hr2 ha2 hk h5 =>
    apply ite_sne (show ("is" : Str) ≠ "free" by decide)
    refine ⟨_, rfl, (by show 2 ≤ sizeLine; decide), fun q1 hq1 => ⟨q1, _, rfl, .inr (SqT.of upd_same), rfl, rfl, _, rfl, ?_⟩⟩
    have s1 := Same.new (o := .tup [V.str "along", V.str "across"]) hq1
    refine ite_no (by rfl) ?_
    refine ⟨_, rfl, (by show 2 ≤ sizeLine; decide), fun q2 hq2 => ⟨q2, _, rfl, .inr (SqT.of upd_same), rfl, rfl, _, rfl, ?_⟩⟩
    have s2 := s1.trans (Same.new (o := .tup [V.str "in", V.str "about"]) hq2)
    refine ite_no (by rfl) ?_
    refine ⟨⟨_, rfl⟩, _, rfl, _, rfl, _, rfl, (by show 3 ≤ sizeLine; decide), fun L hL => ⟨_, rfl, po, _, rfl, .inr (sq_tk hpo (.same (s2.trans (Same.new hL)))), fun M hM => ?_⟩⟩
    have s3 := (s2.trans (Same.new (o := .lst [V.str (wordS mir), V.str nm, V.str "is"]) hL)).trans (Same.new (o := .lst (row.map V.str)) hM)
    refine ⟨L, M, _, _, rfl, rfl, Same.new hM _ _ upd_same, upd_same, ?_, fun N hN => ⟨_, N, wordS mir :: nm :: "is" :: row, rfl, rfl, .inl (SqL.of upd_same), jn _ rfl, k _ (s3.trans (Same.new hN))⟩⟩
    rw [List.length_map, sizeLine_eq]
    show 3 + (row : List Str).length ≤ _
    have : (row : List Str).length ≤ 5 := by first | exact h5 | exact (by decide : (1 : Nat) ≤ 5) | exact (by decide : (2 : Nat) ≤ 5)
    omega
end

end K12

namespace K12
open PySem PySem.Spec PyProof.Rows L2 Lm
open C8 (Cal Mak Met pe_c pe_mk pe_mt pe_mt0 pss_cut tCut)
open LamX (CodeO TabS Tabs ExtN TabB)
--KR 9
--NOTOP
abbrev s_law_text : Stmt := top 64
abbrev n_law_text : List Str := ["lore", "line"]
abbrev p_law_text : List Str := ["lore"]
theorem sc_law_text : FnScope n_law_text p_law_text (defScope s_law_text) := ⟨rfl, rfl, rfl, by decide +kernel, rfl, by decide +kernel, by decide +kernel⟩
abbrev s_law_names_of : Stmt := top 65
abbrev n_law_names_of : List Str := ["lore", "what", "line"]
abbrev p_law_names_of : List Str := ["lore", "what"]
theorem sc_law_names_of : FnScope n_law_names_of p_law_names_of (defScope s_law_names_of) := ⟨rfl, rfl, rfl, by decide +kernel, rfl, by decide +kernel, by decide +kernel⟩
section
variable {P : Program} {w : World} {K : PySem.W.Frag} {mg : Str → Option Value} {base : Heap} {f : Addr} {fd : FuncData}
theorem ok_law_text (F : FunD K "_law_text" "_law_text" (defArgs s_law_text) (defBody s_law_text) (defScope s_law_text) [] [] f fd) (hm : mg "_law_text" = some (.ref f)) (T : Bl mg base) (c_law_line_text : Cal P w K mg base 1 "_law_line_text" (spLoText K) []) : Cal P w K mg base 2 "_law_text" (spLoreText K) [] := by
  refine calD F hm sc_law_text (fun _ _ _ _ _ _ us hl => match us, hl with | [_], _ => rfl) (fun vs H Q E h => ?_) (fun cdv A outer s H vs Q E hr h => ?_)
  · obtain ⟨p, as, ls, rfl, _⟩ := h
    rfl
  obtain ⟨p, as, ls, rfl, hp, ⟨lal, hls⟩, vb, k⟩ := h
  refine ⟨_, (pss_one (ps_ret (pe_join pe_str (pe_lc (own := [("line", 1)]) (g := (gName 1)) (tt := tYes) rfl sc_law_text.nd (pi_list (pv 0)) (blkOk_by (own := [("line", 1)]) (N := n_law_text) (sc := defScope s_law_text) (by decide +kernel)) (fun _ _ _ _ _ => (pg_name (i := 1) sc_law_text.nd rfl (by first | exact Or.inl rfl | exact Or.inr rfl))) (fun _ _ _ _ _ => pts_nil) (fun _ _ _ _ _ => (pe_c c_law_line_text hr (by decide) (by rfl) (pa_cons (pv 1) pa_nil))))))), ?_⟩
  have n12 := vb.n
  refine ⟨⟨_, rfl⟩, _, rfl, p, rfl, ⟨_, hp⟩, fun D hD => ?_⟩
  refine lc_it walk_list (fun i H' => Same H H' ∧ H' D = some (.lst (((ls.map textS).take i).map V.str))) ⟨Same.new hD, upd_same⟩ (fun i H' _ h => Same.seq h.1 hp) ?_ ?_
  · rintro i x H1 H2 hi ⟨s1, e1⟩ ⟨rfl, hu⟩
    rw [List.length_map] at hi
    obtain ⟨a, ha, rfl⟩ := map_at hu
    obtain ⟨l, hl⟩ : ∃ l, ls[i]? = some l := ⟨_, List.getElem?_eq_getElem (by omega)⟩
    have lm := List.mem_of_getElem? hl
    have at_ : (ls.map textS)[i]? = some (textS l) := by
      rw [List.getElem?_map, hl]
      rfl
    refine ⟨rfl, yes_if ⟨_, rfl, a, l, _, rfl, (hls i a l ha hl).same s1, (vb.ok i l hl).1, vb.nm l lm, fun H3 s3 => ⟨_, s3 _ _ e1, few_take _ (n := 12) (by omega) (by decide), sm_put (s1.trans s3) hD, ?_⟩⟩⟩
    rw [upd_same, take_map V.str at_]
  · rintro H1 ⟨s1, e1⟩
    rw [List.length_map, lal, List.take_of_length_le (by rw [List.length_map]; exact Nat.le_refl _)] at e1
    refine ⟨_, D, ls.map textS, rfl, rfl, .inl (SqL.of e1), ?_, k _ s1⟩
    have key : ∀ r : List LnS, (∀ l ∈ r, (textS l).length ≤ 1000) → ((r.map textS).map (·.length)).sum ≤ 1000 * r.length := by
      intro r
      induction r with
      | nil => intro _; exact Nat.le_refl _
      | cons a r ih =>
        intro q
        have h1 := q a List.mem_cons_self
        have h2 := ih fun n m => q n (List.mem_cons_of_mem _ m)
        simp only [List.map_cons, List.sum_cons, List.length_cons]
        omega
    have h2 := key ls fun l hl => by
      obtain ⟨i, hi⟩ := List.mem_iff_getElem?.mp hl
      exact text_len (vb.nm l hl).wl (by have := (words_len (vb.ok i l hi).1).1; omega)
    have h4 : ("\n" : Str).length = 1 := rfl
    rw [h4, List.length_map]
    omega
theorem ok_names_of (F : FunD K "_law_names_of" "_law_names_of" (defArgs s_law_names_of) (defBody s_law_names_of) (defScope s_law_names_of) [] [] f fd) (hm : mg "_law_names_of" = some (.ref f)) (T : Bl mg base) : Cal P w K mg base 1 "_law_names_of" (spLoNames K) [] := by
  refine calD F hm sc_law_names_of (fun _ _ _ _ _ _ us hl => match us, hl with | [_, _], _ => rfl) (fun vs H Q E h => ?_) (fun cdv A outer s H vs Q E hr h => ?_)
  · obtain ⟨p, as, ls, o, rfl, _⟩ := h
    rfl
  obtain ⟨p, as, ls, o, rfl, hp, ⟨lal, hls⟩, n12, k⟩ := h
  refine ⟨_, (pss_one (ps_ret (pe_lc (own := [("line", 2)]) (g := (gName 2)) rfl sc_law_names_of.nd (pi_list (pv 0)) (blkOk_by (own := [("line", 2)]) (N := n_law_names_of) (sc := defScope s_law_names_of) (by decide +kernel)) (fun _ _ _ _ _ => (pg_name (i := 2) sc_law_names_of.nd rfl (by first | exact Or.inl rfl | exact Or.inr rfl))) (fun _ _ _ _ _ => (pts_one (pt_cmpR (op_in_seqP K) (pv 1) (pe_tup (pa_cons pe_str (pa_cons (pe_ix (ix_seqP K) (pv 2) pe_int (fun _ _ => rfl)) pa_nil))) (by rfl)))) (fun _ _ _ _ _ => (pe_ix (ix_seqP K) (pv 2) pe_int (fun _ _ => rfl)))))), ?_⟩
  refine ⟨_, rfl, p, rfl, ⟨_, hp⟩, fun D hD => ?_⟩
  refine lc_it walk_list (fun i H' => Same H H' ∧ H' D = some (.lst (((ls.take i).filter (whatB o)).map fun l => V.str l.name))) ⟨Same.new hD, upd_same⟩ (fun i H' _ h => Same.seq h.1 hp) ?_ ?_
  · rintro i x H1 H2 hi ⟨s1, e1⟩ ⟨rfl, hu⟩
    rw [List.length_map] at hi
    obtain ⟨a, ha, rfl⟩ := map_at hu
    obtain ⟨l, hl⟩ : ∃ l, ls[i]? = some l := ⟨_, List.getElem?_eq_getElem (by omega)⟩
    have tk := filt_take (f := whatB o) hl fun l => V.str l.name
    obtain ⟨po, h1, _⟩ := (hls i a l ha hl).same s1
    refine ⟨rfl, _, rfl, _, rfl, .inr (.inl ⟨a, _, _, _, rfl, rfl, h1, atI_of (j := 0) rfl rfl, (by show 2 ≤ sizeLine; decide), fun q hq => ⟨q, _, rfl, .inr (SqT.of upd_same), rfl, rfl, _, rfl, ?_⟩⟩)⟩
    have ew : inV (.str (whatS o)) [.str "", .str (wordS l.mir)] = whatB o l := what_in o l
    have e2 : (upd H2 q (.tup [.str "", .str (wordS l.mir)])) D = some (.lst (((ls.take i).filter (whatB o)).map fun l => V.str l.name)) := Same.new hq _ _ e1
    cases qq : whatB o l with
    | true =>
      rw [qq, if_pos rfl] at tk
      refine ite_yes (ew.trans qq) ?_
      refine ⟨_, rfl, .inr (.inl ⟨a, _, _, _, rfl, rfl, sq_tk h1 (.new hq), atI_of (j := 1) rfl rfl, _, e2, ?_, sm_put (sm_new s1 hq) hD, ?_⟩)⟩
      · rw [List.length_map]
        refine Nat.lt_of_le_of_lt (m := 12) ?_ (by decide)
        refine Nat.le_trans (List.length_filter_le _ _) ?_
        rw [List.length_take]
        omega
      · rw [upd_same, tk]
    | false =>
      rw [qq, if_neg (by decide)] at tk
      refine ite_no (ew.trans qq) ⟨sm_new s1 hq, ?_⟩
      rw [tk]
      exact e2
  · rintro H1 ⟨s1, e1⟩
    rw [List.length_map, lal, List.take_length] at e1
    refine k _ D s1 hD ?_
    unfold namesOfS
    rw [List.map_map]
    exact e1
end

end K12

namespace K12
open PySem PySem.Spec PyProof.Rows L2 Lm
open C8 (Cal Mak Met pe_c pe_mk pe_mt pe_mt0 pss_cut tCut)
open LamX (CodeO TabS Tabs ExtN TabB)
--KR 9
--NOTOP
abbrev s_law_some : Stmt := top 59
abbrev n_law_some : List Str := ["pot", "pool", "many", "rest", "found", "lap"]
abbrev p_law_some : List Str := ["pot", "pool", "many"]
theorem sc_law_some : FnScope n_law_some p_law_some (defScope s_law_some) := ⟨rfl, rfl, rfl, by decide +kernel, rfl, by decide +kernel, by decide +kernel⟩
section
variable {P : Program} {w : World} {K : PySem.W.Frag} {mg : Str → Option Value} {base : Heap} {f : Addr} {fd : FuncData}
theorem ok_some (F : FunD K "_law_some" "_law_some" (defArgs s_law_some) (defBody s_law_some) (defScope s_law_some) [] [] f fd) (hm : mg "_law_some" = some (.ref f)) (T : Bl mg base) (c_law_take : Cal P w K mg base 1 "_law_take" spTake []) : Cal P w K mg base 2 "_law_some" (spSome K) [] := by
  refine calD F hm sc_law_some (fun _ _ _ _ _ _ us hl => match us, hl with | [_, _, _], _ => rfl) (fun vs H Q E h => ?_) (fun cdv A outer s H vs Q E hr h => ?_)
  · obtain ⟨a, l, n, m, xs, rfl, _⟩ := h
    rfl
  obtain ⟨a, l, n, m, xs, rfl, hp, hn, nla, hl, nd, hm1, h100, k⟩ := h
  refine ⟨_, (pss_cons (ps_par (i := 3) (j := 4) (by rfl) sc_law_some.nd rfl rfl (by decide) rfl rfl (pa_cons (pe_callTy call_list_of (by rfl) T.list (by decide +kernel) (pa_cons (pv 1) pa_nil)) (pa_cons (pe_lst pa_nil) pa_nil)) (by rfl))
    (pss_cons (ps_for PassesOwn.never rfl (pi_range1 (by rfl) T.range (pa_cons (pv 2) pa_nil)) (pg_name (i := 5) sc_law_some.nd rfl (by first | exact Or.inl rfl | exact Or.inr rfl))
    (pss_one (ps_expr (pe_bm PySem.F.plainAttrs_list PySem.F.slot_list_append PySem.F.type_list_append mt_append (pv 4) (pa_cons (pe_bm PySem.F.plainAttrs_list PySem.F.slot_list_pop PySem.F.type_list_pop mt_popAt (pv 3) (pa_cons (pe_c c_law_take hr (by decide) (by rfl) (pa_cons (pv 0) (pa_cons (pe_callB call_len_seq (by rfl) T.len (by decide +kernel) (pa_cons (pv 3) pa_nil)) pa_nil))) pa_nil)) pa_nil)))))
    (pss_one (ps_ret (pv 4))))), ?_⟩
  refine ⟨_, rfl, l, _, rfl, hl, fun R hR => ⟨(by show 0 ≤ sizeLine; decide), fun F hF => ⟨_, _, rfl, ?_⟩⟩⟩
  have aR : a ≠ R := fun z => by
    obtain ⟨p0, p1, p2, e, _⟩ := hp
    rw [z, hR] at e
    cases e
  have hF0 : H F = none := (Same.new hR).free hF
  have aF : a ≠ F := fun z => by
    obtain ⟨p0, p1, p2, e, _⟩ := hp
    rw [z, hF0] at e
    cases e
  have RF : R ≠ F := ne_of_none upd_same hF
  have s0 : Same H (upd (upd H R (.lst (xs.map V.str))) F (.lst [])) := (Same.new hR).trans (Same.new hF)
  have e0R : (upd (upd H R (.lst (xs.map V.str))) F (.lst [])) R = some (.lst (xs.map V.str)) := Same.new hF _ _ upd_same
  have e0F : (upd (upd H R (.lst (xs.map V.str))) F (.lst [])) F = some (.lst []) := upd_same
  have p0 : PotAt (upd (upd H R (.lst (xs.map V.str))) F (.lst [])) a n := hp.keep fun o e => s0 _ _ e
  have kb0 : KeptBut a H (upd (upd H R (.lst (xs.map V.str))) F (.lst [])) := KeptBut.of_same s0
  generalize upd (upd H R (.lst (xs.map V.str))) F (.lst []) = H1 at e0R e0F p0 kb0 ⊢
  refine ⟨_, rfl, m, rfl, by omega, by omega, ?_⟩
  refine for_range (fun i σ H2 => KeptBut a H H2 ∧ PotAt H2 a (n + i) ∧ ∃ rs ys : List Str, H2 R = some (.lst (rs.map V.str)) ∧ H2 F = some (.lst (ys.map V.str)) ∧ ys.length = i ∧ rs.length = xs.length - i ∧ (ys ++ rs).Perm xs ∧ ∃ c, σ = [some (.ref a), some (.ref l), some (.int (m : Int)), some (.ref R), some (.ref F), c])
    ⟨kb0, p0, xs, [], e0R, e0F, rfl, rfl, List.Perm.refl _, _, rfl⟩ ?_ ?_
  · rintro i σ H2 hi ⟨kb, pa, rs, ys, eR, eF, yl, rl, pm, c, rfl⟩
    refine ⟨_, rfl, .inl ⟨rfl, _, SqL.of eF⟩, _, rfl, .inl ⟨rfl, _, SqL.of eR⟩, _, rfl, _, rfl, R, _, rfl, .inl (SqL.of eR), a, _, n + i, rfl, pa, by omega, ?_, ?_, fun j H3 j0 j1 pa3 kb3 => ?_⟩
    · rw [List.length_map]
      omega
    · rw [List.length_map]
      omega
    rw [List.length_map] at j1
    have jl : j.toNat < rs.length := by omega
    obtain ⟨y, hy⟩ : ∃ y, rs[j.toNat]? = some y := ⟨_, List.getElem?_eq_getElem jl⟩
    have eR3 := kb3 R _ eR aR.symm
    have eF3 := kb3 F _ eF aF.symm
    refine ⟨R, _, j, j.toNat, .str y, rfl, rfl, eR3, by omega, by omega, ?_, by rw [List.getElem?_map, hy]; rfl, ?_⟩
    · rw [List.length_map]
      unfold seqIndex?
      rw [if_neg (show ¬ j < 0 by omega)]
      have : (decide (0 ≤ j) && decide (j < (rs.length : Int))) = true := by
        rw [decide_eq_true j0, decide_eq_true (by omega)]
        rfl
      rw [if_pos this]
    rw [Lm.map_eraseIdx]
    have eF4 : (upd H3 R (.lst ((rs.eraseIdx j.toNat).map V.str))) F = some (.lst (ys.map V.str)) := by
      rw [upd_ne RF.symm]
      exact eF3
    refine ⟨F, _, _, rfl, rfl, eF4, ?_, ?_⟩
    · rw [List.length_map]
      exact Nat.lt_of_le_of_lt (m := 100) (by omega) (by decide)
    have kbn : KeptBut a H (upd (upd H3 R (.lst ((rs.eraseIdx j.toNat).map V.str))) F (.lst (ys.map V.str ++ [V.str y]))) := fun b o e nb => by
      rw [upd_ne (ne_of_none e hF0), upd_ne (ne_of_none e hR)]
      exact kb3 b o (kb b o e nb) nb
    refine ⟨kbn, (pa3.keep fun o e => by rw [upd_ne aF, upd_ne aR]; exact e).mono (by omega), rs.eraseIdx j.toNat, ys ++ [y], ?_, ?_, by rw [List.length_append, yl]; rfl, ?_, perm_pop pm hy, _, rfl⟩
    · rw [upd_ne RF]
      exact upd_same
    · rw [upd_same, List.map_append]
      rfl
    · rw [List.length_eraseIdx_of_lt jl]
      omega
  · rintro σ H2 ⟨kb, pa, rs, ys, eR, eF, yl, rl, pm, c, rfl⟩
    have nd2 := pm.nodup_iff.mpr nd
    exact ⟨_, rfl, k H2 F ys pa kb hF0 eF yl (List.nodup_append.mp nd2).1 fun y hy => pm.mem_iff.mp (List.mem_append_left _ hy)⟩
end

end K12

namespace K12
open PySem PySem.Spec PyProof.Rows L2 Lm
open C8 (Cal Mak Met pe_c pe_mk pe_mt pe_mt0 pss_cut tCut)
open LamX (CodeO TabS Tabs ExtN TabB)
--KR 9
--NOTOP
abbrev s_law_names : Stmt := top 66
abbrev n_law_names : List Str := ["pot", "many", "pool"]
abbrev p_law_names : List Str := ["pot", "many"]
theorem sc_law_names : FnScope n_law_names p_law_names (defScope s_law_names) := ⟨rfl, rfl, rfl, by decide +kernel, rfl, by decide +kernel, by decide +kernel⟩
section
variable {P : Program} {w : World} {K : PySem.W.Frag} {mg : Str → Option Value} {base : Heap} {f : Addr} {fd : FuncData}
theorem ok_names (F : FunD K "_law_names" "_law_names" (defArgs s_law_names) (defBody s_law_names) (defScope s_law_names) [] [] f fd) (hm : mg "_law_names" = some (.ref f)) (T : Bl mg base) (c_law_some : Cal P w K mg base 2 "_law_some" (spSome K) []) : Cal P w K mg base 3 "_law_names" spNms [] := by
  refine calD F hm sc_law_names (fun _ _ _ _ _ _ us hl => match us, hl with | [_, _], _ => rfl) (fun vs H Q E h => ?_) (fun cdv A outer s H vs Q E hr h => ?_)
  · obtain ⟨a, n, m, rfl, _⟩ := h
    rfl
  obtain ⟨a, n, m, rfl, hp, hn, h22, k⟩ := h
  refine ⟨_, (pss_cons (ps_set (i := 2) sc_law_names.nd rfl (by first | exact Or.inl rfl | exact Or.inr rfl) (pe_lst (pa_cons pe_str (pa_cons pe_str (pa_cons pe_str (pa_cons pe_str (pa_cons pe_str (pa_cons pe_str (pa_cons pe_str (pa_cons pe_str (pa_cons pe_str (pa_cons pe_str (pa_cons pe_str (pa_cons pe_str (pa_cons pe_str (pa_cons pe_str (pa_cons pe_str (pa_cons pe_str pa_nil))))))))))))))))))
    (pss_one (ps_ret (pe_c c_law_some hr (by decide) (by rfl) (pa_cons (pv 0) (pa_cons (pe_op op_cat (pv 2) (pe_lst (pa_cons pe_str (pa_cons pe_str (pa_cons pe_str (pa_cons pe_str (pa_cons pe_str (pa_cons pe_str pa_nil)))))))) (pa_cons (pv 1) pa_nil))))))), ?_⟩
  refine ⟨(by show 16 ≤ sizeLine; decide), fun l1 h1 => ?_⟩
  refine ⟨_, rfl, _, rfl, (by show 6 ≤ sizeLine; decide), fun l2 h2 => ?_⟩
  refine ⟨l1, l2, _, _, rfl, rfl, Same.new h2 _ _ upd_same, upd_same, (by show 16 + 6 ≤ sizeLine; decide), fun l3 h3 => ?_⟩
  refine ⟨_, rfl, ?_⟩
  have s3 := ((Same.new (p := l1) h1).trans (Same.new h2)).trans (Same.new (o := .lst (poolS.map V.str)) h3)
  have na : l3 ≠ a := fun z => by
    obtain ⟨p0, p1, p2, e, _⟩ := hp
    rw [z] at h3
    rw [((Same.new h1).trans (Same.new h2)).free h3] at e
    cases e
  refine ⟨a, l3, n, m, poolS, rfl, hp.keep fun o e => s3 _ _ e, hn, na, .inl (SqL.of upd_same), poolS_nd, h22, by decide, fun H' r ys p' kb hr2 e l nd sub => k H' r ys p' (fun b o eb nb => kb b o (s3 _ _ eb) nb) (s3.free hr2) e l nd sub⟩
end

end K12

namespace K12
open PySem PySem.Spec PyProof.Rows L2 Lm
open C8 (Cal Mak Met pe_c pe_mk pe_mt pe_mt0 pss_cut tCut)
open LamX (CodeO TabS Tabs ExtN TabB)
--KR 9
--NOTOP
abbrev s_law_odd : Stmt := top 62
abbrev n_law_odd : List Str := ["pot", "some"]
abbrev p_law_odd : List Str := ["pot"]
theorem sc_law_odd : FnScope n_law_odd p_law_odd (defScope s_law_odd) := ⟨rfl, rfl, rfl, by decide +kernel, rfl, by decide +kernel, by decide +kernel⟩
section
variable {P : Program} {w : World} {K : PySem.W.Frag} {mg : Str → Option Value} {base : Heap} {f : Addr} {fd : FuncData}
theorem ok_odd (F : FunD K "_law_odd" "_law_odd" (defArgs s_law_odd) (defBody s_law_odd) (defScope s_law_odd) [] [] f fd) (hm : mg "_law_odd" = some (.ref f)) (T : Bl mg base) (c_law_of : Cal P w K mg base 2 "_law_of" (spOf K) []) : Cal P w K mg base 3 "_law_odd" spOdd [] := by
  refine calD F hm sc_law_odd (fun _ _ _ _ _ _ us hl => match us, hl with | [_], _ => rfl) (fun vs H Q E h => ?_) (fun cdv A outer s H vs Q E hr h => ?_)
  · obtain ⟨a, n, rfl, _⟩ := h
    rfl
  obtain ⟨a, n, rfl, hp, hn, k⟩ := h
  refine ⟨_, (pss_cons (ps_set (i := 1) sc_law_odd.nd rfl (by first | exact Or.inl rfl | exact Or.inr rfl) (pe_lst (pa_cons pe_non (pa_cons pe_bl (pa_cons pe_bl (pa_cons pe_int (pa_cons pe_int (pa_cons (pe_un un_neg pe_int) (pa_cons pe_int (pa_cons (pe_op op_pow pe_int pe_int) (pa_cons pe_str (pa_cons pe_str (pa_cons pe_str (pa_cons pe_str (pa_cons (pe_tup pa_nil) (pa_cons (pe_lst pa_nil) (pa_cons pe_dnewK (pa_cons (pe_tup (pa_cons pe_int pa_nil)) (pa_cons (pe_tup (pa_cons (pe_tup pa_nil) pa_nil)) (pa_cons (pe_lst (pa_cons pe_int pa_nil)) (pa_cons (pe_tup (pa_cons pe_int (pa_cons pe_int pa_nil))) pa_nil)))))))))))))))))))))
    (pss_cons (ps_set (i := 1) sc_law_odd.nd rfl (by first | exact Or.inl rfl | exact Or.inr rfl) (pe_op op_cat (pv 1) (pe_lst (pa_cons (pe_tup (pa_cons pe_str pa_nil)) (pa_cons (pe_tup (pa_cons pe_str pa_nil)) (pa_cons pe_str (pa_cons pe_str (pa_cons (pe_tup (pa_cons pe_int (pa_cons pe_int (pa_cons pe_int pa_nil)))) (pa_cons (pe_tup (pa_cons pe_non pa_nil)) (pa_cons (pe_tup (pa_cons pe_str pa_nil)) (pa_cons pe_str (pa_cons (pe_disp (pps_cons pe_str pe_int pps_nil) (by rfl) (by rfl) (fun z => by cases z) (by decide)) pa_nil))))))))))))
    (pss_one (ps_ret (pe_c c_law_of hr (by decide) (by rfl) (pa_cons (pv 0) (pa_cons (pv 1) pa_nil))))))), ?_⟩
  have e0 : DatE 3 1 (tTup tNil) := dat_tup (B := 1) dat_nil (by decide)
  have e1 : DatE 3 1 (tLst tNil) := dat_lst (B := 1) dat_nil (by decide)
  have z0 : DatE 1 0 (tC (.int 0)) := dat_int 0 (by decide +kernel) (by decide +kernel)
  have z1 : DatE 1 0 (tC (.int 1)) := dat_int 1 (by decide +kernel) (by decide +kernel)
  have D1 := dat_cons (B := 40) (k := 3) (dat_non (by decide)) (dat_cons (dat_bl true (by decide)) (dat_cons (dat_bl false (by decide)) (dat_cons (z0.mono (by decide) (by decide)) (dat_cons (z1.mono (by decide) (by decide)) (dat_cons (dat_neg 1 (by decide +kernel) (by decide +kernel))
    (dat_cons (dat_int 7 (by decide +kernel) (by decide +kernel)) (dat_cons (dat_pow 10 8 ⟨by decide, by decide, by decide⟩ (by decide +kernel) (by decide +kernel)) (dat_cons (dat_str "" (by decide +kernel)) (dat_cons (dat_str "a" (by decide +kernel)) (dat_cons (dat_str "p" (by decide +kernel)) (dat_cons (dat_str "mirror q" (by decide +kernel))
    (dat_cons (e0.mono (by decide) (by decide)) (dat_cons (e1.mono (by decide) (by decide)) (dat_cons (dat_dnew (by decide) (by decide)) (dat_cons ((dat_tup (dat_cons z0 dat_nil) (by decide)).mono (by decide) (by decide)) (dat_cons ((dat_tup (dat_cons e0 dat_nil) (by decide)).mono (by decide) (by decide))
    (dat_cons ((dat_lst (dat_cons z0 dat_nil) (by decide)).mono (by decide) (by decide)) (dat_cons ((dat_tup (dat_cons z0 (dat_cons z0 dat_nil)) (by decide)).mono (by decide) (by decide)) dat_nil))))))))))))))))))
  have D2 := dat_cons (B := 40) (k := 3) ((dat_tup (dat_cons (dat_str (B := 3) (k := 0) "a" (by decide +kernel)) dat_nil) (by decide)).mono (by decide) (by decide)) (dat_cons ((dat_tup (dat_cons (dat_str (B := 8) (k := 0) "always" (by decide +kernel)) dat_nil) (by decide)).mono (by decide) (by decide))
    (dat_cons (dat_str "a a" (by decide +kernel)) (dat_cons (dat_str "mirror a" (by decide +kernel)) (dat_cons ((dat_tup (dat_cons z1 (dat_cons z0 (dat_cons z0 dat_nil))) (by decide)).mono (by decide) (by decide)) (dat_cons ((dat_tup (dat_cons (dat_non (B := 4) (k := 0) (by decide)) dat_nil) (by decide)).mono (by decide) (by decide))
    (dat_cons ((dat_tup (dat_cons (dat_str (B := 6) (k := 0) "same" (by decide +kernel)) dat_nil) (by decide)).mono (by decide) (by decide)) (dat_cons (dat_str "row" (by decide +kernel)) (dat_cons (dat_disp1 "a" 1 (by decide +kernel) (by decide +kernel) (by decide)) dat_nil))))))))
  refine asg_lst D1 (by decide) fun vs1 p1 H1 s1 hp1 e1 m1 l1 => ?_
  refine asg_cat D2 (by decide) (by rw [l1]; decide) rfl e1 s1 m1 fun vs l H2 s2 hl e2 m2 l2 => ?_
  have hp' := hp.keep (H' := H2) fun o e => s2 _ _ (s1 _ _ e)
  obtain ⟨q0, q1, q2, eq, _⟩ := id hp
  refine ⟨_, rfl, _, rfl, a, l, vs, n, rfl, hp', by omega, (ne_of_none (s1 _ _ eq) hl).symm, .inl (SqL.of e2), ?_, ?_, fun v H' hv hpot kb => ?_⟩
  · rw [l2]
    omega
  · rw [l2, l1]
    decide
  · exact k v H' hpot ((KeptBut.of_same (s1.trans s2)).trans kb) ((m2 v hv).same (fresh_but eq kb))
end

end K12

namespace K12
open PySem PySem.Spec PyProof.Rows L2 Lm
open C8 (Cal Mak Met pe_c pe_mk pe_mt pe_mt0 pss_cut tCut)
open LamX (CodeO TabS Tabs ExtN TabB)
--KR 9
--NOTOP
abbrev s_law_forms : Stmt := top 67
abbrev n_law_forms : List Str := ["lore", "mirrors", "pegs", "loose", "line", "winding", "found"]
abbrev p_law_forms : List Str := ["lore"]
theorem sc_law_forms : FnScope n_law_forms p_law_forms (defScope s_law_forms) := ⟨rfl, rfl, rfl, by decide +kernel, rfl, by decide +kernel, by decide +kernel⟩
section
variable {P : Program} {w : World} {K : PySem.W.Frag} {mg : Str → Option Value} {base : Heap} {f : Addr} {fd : FuncData}
theorem ok_forms (F : FunD K "_law_forms" "_law_forms" (defArgs s_law_forms) (defBody s_law_forms) (defScope s_law_forms) [] [] f fd) (hm : mg "_law_forms" = some (.ref f)) (T : Bl mg base) (c_law_names_of : Cal P w K mg base 1 "_law_names_of" (spLoNames K) []) : Cal P w K mg base 2 "_law_forms" (spForms K) [] := by
  refine calD F hm sc_law_forms (fun _ _ _ _ _ _ us hl => match us, hl with | [_], _ => rfl) (fun vs H Q E h => ?_) (fun cdv A outer s H vs Q E hr h => ?_)
  · obtain ⟨p, as, ls, rfl, _⟩ := h
    rfl
  obtain ⟨p, as, ls, rfl, hp, hl, n12, k⟩ := h
  refine ⟨_, (pss_cons (ps_par (i := 1) (j := 2) (by rfl) sc_law_forms.nd rfl rfl (by decide) rfl rfl (pa_cons (pe_callB call_len_seq (by rfl) T.len (by decide +kernel) (pa_cons (pe_c c_law_names_of hr (by decide) (by rfl) (pa_cons (pv 0) (pa_cons pe_str pa_nil))) pa_nil)) (pa_cons (pe_callB call_len_seq (by rfl) T.len (by decide +kernel) (pa_cons (pe_c c_law_names_of hr (by decide) (by rfl) (pa_cons (pv 0) (pa_cons pe_str pa_nil))) pa_nil)) pa_nil)) (by rfl))
    (pss_cons (ps_set (i := 3) sc_law_forms.nd rfl (by first | exact Or.inl rfl | exact Or.inr rfl) (pe_callB call_len_seq (by rfl) T.len (by decide +kernel) (pa_cons (pe_lc (own := [("line", 4)]) (g := (gName 4)) rfl sc_law_forms.nd (pi_list (pv 0)) (blkOk_by (own := [("line", 4)]) (N := n_law_forms) (sc := defScope s_law_forms) (by decide +kernel)) (fun _ _ _ _ _ => (pg_name (i := 4) sc_law_forms.nd rfl (by first | exact Or.inl rfl | exact Or.inr rfl))) (fun _ _ _ _ _ => (pts_one (PW.pt (pw_and (pt_cmpR op_eq (pe_ix (ix_seqP K) (pv 4) pe_int (fun _ _ => rfl)) pe_str (nomark _)) (pw_and1 (pt_cmpR (op_in_seqP K) (pe_ix (ix_seqP K) (pv 4) pe_int (fun _ _ => rfl)) (pe_tup (pa_cons pe_str (pa_cons pe_str pa_nil))) (by rfl))))))) (fun _ _ _ _ _ => pe_int)) pa_nil)))
    (pss_cons (ps_set (i := 5) sc_law_forms.nd rfl (by first | exact Or.inl rfl | exact Or.inr rfl) (pe_callB call_len_seq (by rfl) T.len (by decide +kernel) (pa_cons (pe_lc (own := [("line", 4)]) (g := (gName 4)) rfl sc_law_forms.nd (pi_list (pv 0)) (blkOk_by (own := [("line", 4)]) (N := n_law_forms) (sc := defScope s_law_forms) (by decide +kernel)) (fun _ _ _ _ _ => (pg_name (i := 4) sc_law_forms.nd rfl (by first | exact Or.inl rfl | exact Or.inr rfl))) (fun _ _ _ _ _ => (pts_one (pt_cmpR (op_in_seqP K) (pe_ix (ix_seqP K) (pv 4) pe_int (fun _ _ => rfl)) (pe_tup (pa_cons pe_str (pa_cons pe_str pa_nil))) (by rfl)))) (fun _ _ _ _ _ => pe_int)) pa_nil)))
    (pss_cons (ps_set (i := 6) sc_law_forms.nd rfl (by first | exact Or.inl rfl | exact Or.inr rfl) (pe_lst (pa_cons (pe_tup (pa_cons pe_str (pa_cons pe_str (pa_cons pe_str pa_nil)))) pa_nil)))
    (pss_cons (ps_expr (pe_bm PySem.F.plainAttrs_list PySem.F.slot_list_extend PySem.F.type_list_extend mt_extend (pv 6) (pa_cons (pe_op op_cat (pe_op op_rep (pe_lst (pa_cons (pe_tup (pa_cons pe_str (pa_cons pe_str (pa_cons pe_str pa_nil)))) pa_nil)) (pe_callTy call_int1 (by rfl) T.int (by decide +kernel) (pa_cons (pe_cmpR op_lt (pv 3) pe_int (nomark _)) pa_nil))) (pe_op op_rep (pe_lst (pa_cons (pe_tup (pa_cons pe_str (pa_cons pe_str (pa_cons pe_str pa_nil)))) pa_nil)) (pe_callTy call_int1 (by rfl) T.int (by decide +kernel) (pa_cons (pe_cmpR op_gt (pv 1) pe_int (nomark _)) pa_nil)))) pa_nil)))
    (pss_cons (ps_if (pt_cmpR op_gt (pv 2) pe_int (nomark _)) (pss_cons (ps_expr (pe_bm PySem.F.plainAttrs_list PySem.F.slot_list_extend PySem.F.type_list_extend mt_extend (pv 6) (pa_cons (pe_op op_rep (pe_op op_rep (pe_lst (pa_cons (pe_tup (pa_cons pe_str (pa_cons pe_str (pa_cons pe_str pa_nil)))) pa_nil)) (pe_callTy call_int1 (by rfl) T.int (by decide +kernel) (pa_cons (pe_cmpR op_lt (pv 3) pe_int (nomark _)) pa_nil))) pe_int) pa_nil)))
    (pss_cons (ps_expr (pe_bm PySem.F.plainAttrs_list PySem.F.slot_list_extend PySem.F.type_list_extend mt_extend (pv 6) (pa_cons (pe_op op_rep (pe_lst (pa_cons (pe_tup (pa_cons pe_str (pa_cons pe_str (pa_cons pe_str pa_nil)))) (pa_cons (pe_tup (pa_cons pe_str (pa_cons pe_str (pa_cons pe_str pa_nil)))) pa_nil))) (pe_callTy call_int1 (by rfl) T.int (by decide +kernel) (pa_cons (pe_cmpR op_gt (pv 1) pe_int (nomark _)) pa_nil))) pa_nil)))
    (pss_one (ps_expr (pe_bm PySem.F.plainAttrs_list PySem.F.slot_list_extend PySem.F.type_list_extend mt_extend (pv 6) (pa_cons (pe_op op_rep (pe_lst (pa_cons (pe_tup (pa_cons pe_str (pa_cons pe_str (pa_cons pe_str pa_nil)))) pa_nil)) (pe_callTy call_int1 (by rfl) T.int (by decide +kernel) (pa_cons (pe_and (pe_cmpR op_gt (pv 1) pe_int (nomark _)) (pe_one (pe_cmpR op_lt (pv 5) pe_int (nomark _)))) pa_nil))) pa_nil)))))) pss_nil)
    (pss_cons (ps_if (pt_cmpR op_gt (pv 2) pe_int (nomark _)) (pss_one (ps_expr (pe_bm PySem.F.plainAttrs_list PySem.F.slot_list_extend PySem.F.type_list_extend mt_extend (pv 6) (pa_cons (pe_lst (pa_cons (pe_tup (pa_cons pe_str (pa_cons pe_str (pa_cons pe_str pa_nil)))) (pa_cons (pe_tup (pa_cons pe_str (pa_cons pe_str (pa_cons pe_str pa_nil)))) pa_nil))) pa_nil)))) pss_nil)
    (pss_cons (ps_if (pt_cmpR op_lt (pv 5) pe_int (nomark _)) (pss_cons (ps_expr (pe_bm PySem.F.plainAttrs_list PySem.F.slot_list_extend PySem.F.type_list_extend mt_extend (pv 6) (pa_cons (pe_op op_rep (pe_lst (pa_cons (pe_tup (pa_cons pe_str (pa_cons pe_str (pa_cons pe_str pa_nil)))) pa_nil)) (pe_callTy call_int1 (by rfl) T.int (by decide +kernel) (pa_cons (pe_cmpR op_gt (pv 1) pe_int (nomark _)) pa_nil))) pa_nil)))
    (pss_one (ps_expr (pe_bm PySem.F.plainAttrs_list PySem.F.slot_list_extend PySem.F.type_list_extend mt_extend (pv 6) (pa_cons (pe_op op_cat (pe_op op_rep (pe_lst (pa_cons (pe_tup (pa_cons pe_str (pa_cons pe_str (pa_cons pe_str pa_nil)))) pa_nil)) (pe_callTy call_int1 (by rfl) T.int (by decide +kernel) (pa_cons (pe_cmpR op_gt (pv 1) pe_int (nomark _)) pa_nil))) (pe_op op_rep (pe_lst (pa_cons (pe_tup (pa_cons pe_str (pa_cons pe_str (pa_cons pe_str pa_nil)))) pa_nil)) (pe_callTy call_int1 (by rfl) T.int (by decide +kernel) (pa_cons (pe_cmpR op_gt (pv 2) pe_int (nomark _)) pa_nil)))) pa_nil))))) pss_nil)
    (pss_one (ps_ret (pv 6))))))))))), ?_⟩
  refine ⟨_, rfl, p, as, ls, some true, rfl, hp, hl, n12, fun H1 q1 s1 h1 e1 => ⟨_, _, rfl, .inl (SqL.of e1), ?_⟩⟩
  refine ⟨_, rfl, p, as, ls, some false, rfl, s1.seq hp, hl.same s1, n12, fun H2 q2 s2 h2 e2 => ⟨_, _, rfl, .inl (SqL.of e2), ?_⟩⟩
  have s12 := s1.trans s2
  rw [List.length_map, List.length_map]
  generalize hM : (namesOfS (some true) ls).length = nM
  generalize hP : (namesOfS (some false) ls).length = nP
  have hM' : (ofS true ls).length = nM := hM
  have hP' : (ofS false ls).length = nP := hP
  refine ⟨_, _, rfl, ?_⟩
  -- loose
  refine ⟨_, rfl, _, rfl, ⟨_, s12.seq hp⟩, fun D hD => ?_⟩
  refine lc_it walk_list (fun i H' => Same H2 H' ∧ H' D = some (.lst (((ls.take i).filter isLoose).map fun _ => V.int 1))) ⟨Same.new hD, upd_same⟩ (fun i H' _ h => Same.seq (s12.trans h.1) hp) ?_ ?_
  · rintro i x G1 G2 hi ⟨s3, e3⟩ ⟨rfl, hu⟩
    rw [List.length_map] at hi
    obtain ⟨a, ha, rfl⟩ := map_at hu
    obtain ⟨l, hll⟩ : ∃ l, ls[i]? = some l := ⟨_, List.getElem?_eq_getElem (by have := hl.1; omega)⟩
    have tk := filt_takeB (f := isLoose) hll fun _ => V.int 1
    obtain ⟨po, g1, _⟩ := (hl.2 i a l ha hll).same (s12.trans s3)
    have e0 : decide (V.str (wordS l.mir) = V.str "mirror") = l.mir := by cases l.mir <;> decide
    refine ⟨rfl, ⟨_, rfl, .inr (.inl ⟨a, _, _, _, rfl, rfl, g1, atI_of (j := 0) rfl rfl, rfl, _, rfl, ?_⟩)⟩⟩
    rw [e0]
    have stop : isLoose l = false → Same H2 G2 ∧ G2 D = some (.lst (((ls.take (i + 1)).filter isLoose).map fun _ => V.int 1)) := fun z => by
      rw [z, if_neg (by decide)] at tk
      exact ⟨s3, by rw [tk]; exact e3⟩
    refine ite2 (fun em => ?_) (fun em => ?_)
    · refine ⟨_, rfl, .inr (.inl ⟨a, _, _, _, rfl, rfl, g1, atI_of (j := 2) rfl rfl, (by show 2 ≤ sizeLine; decide), fun q hq => ⟨q, _, rfl, .inr (SqT.of upd_same), rfl, rfl, _, rfl, ?_⟩⟩)⟩
      have ew := loose_in l
      have e4 : (upd G2 q (.tup [.str "free", .str "through"])) D = some (.lst (((ls.take i).filter isLoose).map fun _ => V.int 1)) := Same.new hq _ _ e3
      cases qq : isLoose l with
      | true =>
        rw [qq, if_pos rfl] at tk
        refine ite_yes (ew.trans (by unfold isLoose at qq; rw [em] at qq; exact qq)) ⟨_, e4, ?_, sm_put (sm_new s3 hq) hD, ?_⟩
        · rw [List.length_map]
          refine Nat.lt_of_le_of_lt (m := 12) (Nat.le_trans (List.length_filter_le _ _) ?_) (by decide)
          rw [List.length_take]
          omega
        · rw [upd_same, tk]
      | false =>
        rw [qq, if_neg (by decide)] at tk
        refine ite_no (ew.trans (by unfold isLoose at qq; rw [em] at qq; exact qq)) ⟨sm_new s3 hq, ?_⟩
        rw [tk]
        exact e4
    · exact stop (by unfold isLoose; rw [Bool.eq_false_iff.mpr em]; rfl)
  rintro H3 ⟨s3, e3⟩
  rw [List.length_map, hl.1, List.take_length] at e3
  refine ⟨_, _, rfl, .inl (SqL.of e3), ?_⟩
  have s13 := s12.trans s3
  rw [List.length_map]
  generalize hL : (ls.filter isLoose).length = nL
  have hL' : (looseS ls).length = nL := by
    unfold looseS
    rw [List.length_map]
    exact hL
  -- winding
  refine ⟨_, rfl, p, rfl, ⟨_, s13.seq hp⟩, fun D2 hD2 => ?_⟩
  refine lc_it walk_list (fun i H' => Same H3 H' ∧ H' D2 = some (.lst (((ls.take i).filter isRowL).map fun _ => V.int 1))) ⟨Same.new hD2, upd_same⟩ (fun i H' _ h => Same.seq (s13.trans h.1) hp) ?_ ?_
  · rintro i x G1 G2 hi ⟨s4, e4⟩ ⟨rfl, hu⟩
    rw [List.length_map] at hi
    obtain ⟨a, ha, rfl⟩ := map_at hu
    obtain ⟨l, hll⟩ : ∃ l, ls[i]? = some l := ⟨_, List.getElem?_eq_getElem (by have := hl.1; omega)⟩
    have tk := filt_takeB (f := isRowL) hll fun _ => V.int 1
    obtain ⟨po, g1, _⟩ := (hl.2 i a l ha hll).same (s13.trans s4)
    refine ⟨rfl, _, rfl, .inr (.inl ⟨a, _, _, _, rfl, rfl, g1, atI_of (j := 2) rfl rfl, (by show 2 ≤ sizeLine; decide), fun q hq => ⟨q, _, rfl, .inr (SqT.of upd_same), rfl, rfl, _, rfl, ?_⟩⟩)⟩
    have ew := wind_in l
    have e5 : (upd G2 q (.tup [.str "in", .str "is"])) D2 = some (.lst (((ls.take i).filter isRowL).map fun _ => V.int 1)) := Same.new hq _ _ e4
    cases qq : isRowL l with
    | true =>
      rw [qq, if_pos rfl] at tk
      refine ite_yes (ew.trans qq) ⟨_, e5, ?_, sm_put (sm_new s4 hq) hD2, ?_⟩
      · rw [List.length_map]
        refine Nat.lt_of_le_of_lt (m := 12) (Nat.le_trans (List.length_filter_le _ _) ?_) (by decide)
        rw [List.length_take]
        omega
      · rw [upd_same, tk]
    | false =>
      rw [qq, if_neg (by decide)] at tk
      refine ite_no (ew.trans qq) ⟨sm_new s4 hq, ?_⟩
      rw [tk]
      exact e5
  rintro H4 ⟨s4, e4⟩
  rw [List.length_map, hl.1, List.take_length] at e4
  refine ⟨_, _, rfl, .inl (SqL.of e4), ?_⟩
  have s14 := s13.trans s4
  rw [List.length_map]
  generalize hW : (ls.filter isRowL).length = nW
  -- found
  dsimp only
  refine seq_ofL (fo_first (ls := ls) s14 fun H5 F h0 i5 => ?_)
  generalize hσ : List.set _ 6 (some (V.ref F)) = σ
  have v1 : σ[1]? = some (some (.int (nM : Int))) := by rw [← hσ]; rfl
  have v2 : σ[2]? = some (some (.int (nP : Int))) := by rw [← hσ]; rfl
  have v3 : σ[3]? = some (some (.int (nL : Int))) := by rw [← hσ]; rfl
  have v5 : σ[5]? = some (some (.int (nW : Int))) := by rw [← hσ]; rfl
  have v6 : σ[6]? = some (some (.ref F)) := by rw [← hσ]; rfl
  clear hσ
  have L5 : ∀ {c : Bool}, decide ((nL : Int) < 5) = c → c = true → (looseS ls).length < 5 := fun {c} e z => by
    rw [z] at e
    have := of_decide_eq_true e
    omega
  have M0 : decide ((0 : Int) < nM) = true → 0 < (ofS true ls).length := fun e => by
    have := of_decide_eq_true e
    omega
  have M1 : decide ((1 : Int) < nM) = true → 1 < (ofS true ls).length := fun e => by
    have := of_decide_eq_true e
    omega
  have P0 : decide ((0 : Int) < nP) = true → 0 < (ofS false ls).length := fun e => by
    have := of_decide_eq_true e
    omega
  have P1 : decide ((1 : Int) < nP) = true → 1 < (ofS false ls).length := fun e => by
    have := of_decide_eq_true e
    omega
  have W3 : decide ((nW : Int) < 3) = true → (ls.filter isRowL).length < 3 := fun e => by
    have := of_decide_eq_true e
    omega
  have L5 : decide ((nL : Int) < 5) = true → (looseS ls).length < 5 := fun e => by
    have := of_decide_eq_true e
    omega
  refine seq_ofL (fo_ext i5 h0 v6 (fo_cat (n := 1) (m := 1) (by decide) (fo_rep (by decide) (fo_one (m := true) (f := .free) (sg := []) (fun e => .free true fun _ => L5 e) rfl rfl rfl) (cnd_lt v3)) (fo_rep (by decide) (fo_one (m := false) (f := .on) (sg := [true]) (fun e => .on (M0 e)) rfl rfl rfl) (cnd_gt v1))) (by decide) fun H6 i6 => ?_)
  -- pegs > 0
  have after : ∀ H7, FoI H F ls 20 H7 → tSeq (tIfS (tTest (tOp (rI0 fun i j => V.bl (decide (j < i))) (tVar 2) (tC (.int 1)))) (tDrop (tBM K "list" rExtend (tVar 6) (tCons (tLst (tCons (teFo "peg" "about" "pp") (tCons (teFo "peg" "amid" "pp") tNil))) tNil))) tNext)
      (tSeq (tIfS (tTest (tOp (rI0 fun i j => V.bl (decide (i < j))) (tVar 5) (tC (.int 3)))) (tSeq (tDrop (tBM K "list" rExtend (tVar 6) (tCons (tOp rRep (tLst (tCons (teFo "mirror" "in" "mm") tNil)) (tCB rInt1 (tCons (tOp (rI0 fun i j => V.bl (decide (j < i))) (tVar 1) (tC (.int 1))) tNil))) tNil)))
        (tDrop (tBM K "list" rExtend (tVar 6) (tCons (tOp rCat (tOp rRep (tLst (tCons (teFo "mirror" "is" "m") tNil)) (tCB rInt1 (tCons (tOp (rI0 fun i j => V.bl (decide (j < i))) (tVar 1) (tC (.int 0))) tNil))) (tOp rRep (tLst (tCons (teFo "peg" "is" "p") tNil)) (tCB rInt1 (tCons (tOp (rI0 fun i j => V.bl (decide (j < i))) (tVar 2) (tC (.int 0))) tNil)))) tNil)))) tNext)
      (tRet (tVar 6))) { nx := fun _ H' => Q .non H', rt := Q } σ H7 := by
    intro H7 i7
    have last : ∀ H9, FoI H F ls 40 H9 → tRet (tVar 6) { nx := fun _ H' => Q .non H', rt := Q } σ H9 := fun H9 ⟨s, rs, e, fo, ne, l⟩ => ⟨_, v6, k H9 F rs s h0 e fo ne l⟩
    have then2 : ∀ H8, FoI H F ls 30 H8 → tSeq (tIfS (tTest (tOp (rI0 fun i j => V.bl (decide (i < j))) (tVar 5) (tC (.int 3)))) (tSeq (tDrop (tBM K "list" rExtend (tVar 6) (tCons (tOp rRep (tLst (tCons (teFo "mirror" "in" "mm") tNil)) (tCB rInt1 (tCons (tOp (rI0 fun i j => V.bl (decide (j < i))) (tVar 1) (tC (.int 1))) tNil))) tNil)))
        (tDrop (tBM K "list" rExtend (tVar 6) (tCons (tOp rCat (tOp rRep (tLst (tCons (teFo "mirror" "is" "m") tNil)) (tCB rInt1 (tCons (tOp (rI0 fun i j => V.bl (decide (j < i))) (tVar 1) (tC (.int 0))) tNil))) (tOp rRep (tLst (tCons (teFo "peg" "is" "p") tNil)) (tCB rInt1 (tCons (tOp (rI0 fun i j => V.bl (decide (j < i))) (tVar 2) (tC (.int 0))) tNil)))) tNil)))) tNext)
      (tRet (tVar 6)) { nx := fun _ H' => Q .non H', rt := Q } σ H8 := by
      intro H8 i8
      refine seq_ofL (if_cnd (cnd_lt v5) (fun w3 => ?_) fun _ => last H8 (i8.mono (by decide)))
      have w := W3 w3
      refine seq_ofL (fo_ext (m := 1) i8 h0 v6 (fo_rep (by decide) (fo_one (m := true) (f := .frm) (sg := [true, true]) (fun e => .frmM (M1 e) w) rfl rfl rfl) (cnd_gt v1)) (by decide) fun H9 i9 => ?_)
      exact fo_ext (m := 2) i9 h0 v6 (fo_cat (n := 1) (m := 1) (by decide) (fo_rep (by decide) (fo_one (m := true) (f := .is_) (sg := [true]) (fun e => .is_ true (M0 e) w) rfl rfl rfl) (cnd_gt v1)) (fo_rep (by decide) (fo_one (m := false) (f := .is_) (sg := [false]) (fun e => .is_ false (P0 e) w) rfl rfl rfl) (cnd_gt v2))) (by decide) fun H10 i10 => last H10 (i10.mono (by decide))
    refine seq_ofL (if_cnd (cnd_gt v2) (fun p1 => ?_) fun _ => then2 H7 (i7.mono (by decide)))
    exact fo_ext (m := 2) i7 h0 v6 (fo_two (c := true) (m := false) (f := .about) (sg := [false, false]) (m' := false) (f' := .amid) (sg' := [false, false]) (fun _ => ⟨.about (P1 p1), .amid (P1 p1)⟩) rfl rfl rfl rfl rfl rfl) (by decide) fun H8 i8 => then2 H8 (i8.mono (by decide))
  refine seq_ofL (if_cnd (cnd_gt v2) (fun p0 => ?_) fun _ => after H6 (i6.mono (by decide)))
  have q0 := P0 p0
  refine seq_ofL (fo_ext (m := 2) i6 h0 v6 (fo_dbl (n := 1) (by decide) (fo_rep (by decide) (fo_one (m := true) (f := .thr) (sg := [false]) (fun e => .thr (L5 e) q0) rfl rfl rfl) (cnd_lt v3))) (by decide) fun H7 i7 => ?_)
  refine seq_ofL (fo_ext (m := 2) i7 h0 v6 (fo_rep (by decide) (fo_two (m := true) (f := .along) (sg := [true, false]) (m' := true) (f' := .across) (sg' := [true, false]) (fun e => ⟨.along (M0 e) q0, .across (M0 e) q0⟩) rfl rfl rfl rfl rfl rfl) (cnd_gt v1)) (by decide) fun H8 i8 => ?_)
  exact fo_ext (m := 1) i8 h0 v6 (fo_rep (by decide) (fo_one (m := false) (f := .frm) (sg := [false, true]) (fun e => .frmP (M0 (Bool.and_eq_true_iff.mp e).1) q0 (W3 (Bool.and_eq_true_iff.mp e).2)) rfl rfl rfl) (cnd_and (cnd_gt v1) (cnd_lt v5))) (by decide) fun H9 i9 => after H9 (i9.mono (by decide))
end

end K12

namespace K12
open PySem PySem.Spec PyProof.Rows L2 Lm
open C8 (Cal Mak Met pe_c pe_mk pe_mt pe_mt0 pss_cut tCut)
open LamX (CodeO TabS Tabs ExtN TabB)
--KR 9
--NOTOP
abbrev s_law_further_line : Stmt := top 68
abbrev n_law_further_line : List Str := ["pot", "lore", "name", "what", "form", "signs", "amid", "plain", "line", "wings", "lap", "pools", "others", "sign", "one"]
abbrev p_law_further_line : List Str := ["pot", "lore", "name"]
theorem sc_law_further_line : FnScope n_law_further_line p_law_further_line (defScope s_law_further_line) := ⟨rfl, rfl, rfl, by decide +kernel, rfl, by decide +kernel, by decide +kernel⟩
section
variable {P : Program} {w : World} {K : PySem.W.Frag} {mg : Str → Option Value} {base : Heap} {f : Addr} {fd : FuncData}
theorem ok_further (F : FunD K "_law_further_line" "_law_further_line" (defArgs s_law_further_line) (defBody s_law_further_line) (defScope s_law_further_line) [] [] f fd) (hm : mg "_law_further_line" = some (.ref f)) (T : Bl mg base) (c_law_take : Cal P w K mg base 1 "_law_take" spTake []) (c_law_of : Cal P w K mg base 2 "_law_of" (spOf K) []) (c_law_names_of : Cal P w K mg base 1 "_law_names_of" (spLoNames K) []) (c_law_forms : Cal P w K mg base 2 "_law_forms" (spForms K) []) : Cal P w K mg base 3 "_law_further_line" (spFurther K) [] := by
  refine calD F hm sc_law_further_line (fun _ _ _ _ _ _ us hl => match us, hl with | [_, _, _], _ => rfl) (fun vs H Q E h => ?_) (fun cdv A outer s H vs Q E hr h => ?_)
  · obtain ⟨a, p, as, ls, n, nm, rfl, _⟩ := h
    rfl
  obtain ⟨a, p, as, ls, n, nm, rfl, hp, hn, npa, hl, hls, vb, n12, k⟩ := h
  refine ⟨_, (pss_cons (ps_asg (pe_c c_law_of hr (by decide) (by rfl) (pa_cons (pv 0) (pa_cons (pe_c c_law_forms hr (by decide) (by rfl) (pa_cons (pv 1) pa_nil)) pa_nil))) (pg_tup rfl (pgs_cons (pg_name (i := 3) sc_law_further_line.nd rfl (by first | exact Or.inl rfl | exact Or.inr rfl)) (pgs_cons (pg_name (i := 4) sc_law_further_line.nd rfl (by first | exact Or.inl rfl | exact Or.inr rfl)) (pgs_cons (pg_name (i := 5) sc_law_further_line.nd rfl (by first | exact Or.inl rfl | exact Or.inr rfl)) pgs_nil)))))
    (pss_cons (ps_if (pt_cmpR op_eq (pv 4) pe_str (nomark _)) (pss_cons (ps_set (i := 6) sc_law_further_line.nd rfl (by first | exact Or.inl rfl | exact Or.inr rfl) (pe_c c_law_of hr (by decide) (by rfl) (pa_cons (pv 0) (pa_cons (pe_c c_law_names_of hr (by decide) (by rfl) (pa_cons (pv 1) (pa_cons (pv 3) pa_nil))) pa_nil))))
    (pss_cons (ps_set (i := 7) sc_law_further_line.nd rfl (by first | exact Or.inl rfl | exact Or.inr rfl) (pe_lc (own := [("line", 8)]) (g := (gName 8)) rfl sc_law_further_line.nd (pi_list (pv 1)) (blkOk_by (own := [("line", 8)]) (N := n_law_further_line) (sc := defScope s_law_further_line) (by decide +kernel)) (fun _ _ _ _ _ => (pg_name (i := 8) sc_law_further_line.nd rfl (by first | exact Or.inl rfl | exact Or.inr rfl))) (fun _ _ _ _ _ => (pts_one (pt_cmpR op_ne (pe_ix (ix_seqP K) (pv 8) pe_int (fun _ _ => rfl)) pe_str (nomark _)))) (fun _ _ _ _ _ => (pe_ix (ix_seqP K) (pv 8) pe_int (fun _ _ => rfl)))))
    (pss_cons (ps_setLc (i := 9) (own := [("lap", 10)]) (g := (gName 10)) (tt := tYes) rfl sc_law_further_line.nd rfl rfl (sw_true rfl rfl rfl (by decide +kernel)) (pi_range1 (by rfl) T.range (pa_cons (pe_c c_law_take hr (by decide) (by rfl) (pa_cons (pv 0) (pa_cons pe_int pa_nil))) pa_nil)) (blkOk_by (own := [("lap", 10)]) (N := n_law_further_line) (sc := defScope s_law_further_line) (by decide +kernel)) (fun _ _ _ _ _ => (pg_name (i := 10) sc_law_further_line.nd rfl (by first | exact Or.inl rfl | exact Or.inr rfl))) (fun _ _ _ _ _ => pts_nil) (fun _ _ _ _ _ => (pe_c c_law_of hr (by decide) (by rfl) (pa_cons (pv 0) (pa_cons (pv 7) pa_nil)))))
    (pss_one (ps_ret (pe_tup (pa_cons (pv 3) (pa_cons (pv 2) (pa_cons pe_str (pa_cons (pe_callTy call_tuple_of (by rfl) T.tuple (by decide +kernel) (pa_cons (pe_op op_cat (pe_op op_cat (pv 9) (pe_lst (pa_cons (pv 6) pa_nil))) (pe_revL (pv 9))) pa_nil)) pa_nil)))))))))) pss_nil)
    (pss_cons (ps_set (i := 11) sc_law_further_line.nd rfl (by first | exact Or.inl rfl | exact Or.inr rfl) (pe_disp (pps_cons pe_str (pe_c c_law_names_of hr (by decide) (by rfl) (pa_cons (pv 1) (pa_cons pe_str pa_nil))) (pps_cons pe_str (pe_c c_law_names_of hr (by decide) (by rfl) (pa_cons (pv 1) (pa_cons pe_str pa_nil))) pps_nil)) (by rfl) (by rfl) (fun z => by cases z) (by decide)))
    (pss_cons (ps_set (i := 12) sc_law_further_line.nd rfl (by first | exact Or.inl rfl | exact Or.inr rfl) (pe_lst pa_nil))
    (pss_cons (ps_for PassesOwn.never rfl (pi_str (pv 5)) (pg_name (i := 13) sc_law_further_line.nd rfl (by first | exact Or.inl rfl | exact Or.inr rfl))
    (pss_one (ps_expr (pe_bm PySem.F.plainAttrs_list PySem.F.slot_list_append PySem.F.type_list_append mt_append (pv 12) (pa_cons (pe_c c_law_of hr (by decide) (by rfl) (pa_cons (pv 0) (pa_cons (pe_lc (own := [("one", 14)]) (g := (gName 14)) rfl sc_law_further_line.nd (pi_list (pe_dget (units1 hr) (pv 11) (pv 13) (fun _ _ => rfl))) (blkOk_by (own := [("one", 14)]) (N := n_law_further_line) (sc := defScope s_law_further_line) (by decide +kernel)) (fun _ _ _ _ _ => (pg_name (i := 14) sc_law_further_line.nd rfl (by first | exact Or.inl rfl | exact Or.inr rfl))) (fun _ _ _ _ _ => (pts_one (pt_cmpR (op_notIn_seqP K) (pv 14) (pv 12) (by rfl)))) (fun _ _ _ _ _ => (pv 14))) pa_nil))) pa_nil)))))
    (pss_one (ps_ret (pe_tup (pa_cons (pv 3) (pa_cons (pv 2) (pa_cons (pv 4) (pa_cons (pe_callTy call_tuple_of (by rfl) T.tuple (by decide +kernel) (pa_cons (pv 12) pa_nil)) pa_nil)))))))))))), ?_⟩
  refine ⟨_, rfl, _, rfl, p, as, ls, rfl, hl, hls, n12, fun H1 r rs s1 hr1 e1 fo ne l40 => ?_⟩
  have hp1 := hp.keep fun o e => s1 _ _ e
  have nra : r ≠ a := hp.ne hr1
  refine ⟨a, r, rs, n, rfl, hp1, by omega, nra, .inl (SqL.of e1), List.length_pos_iff.mpr ne, by omega, fun v H2 hv hp2 kb2 => ?_⟩
  obtain ⟨t, m, f, sg, rfl, et, ok⟩ := fo v hv
  have tka := hp1.tk kb2
  have et2 := sq_tk (SqT.of (K := K) et) tka
  have kb02 : KeptBut a H H2 := (KeptBut.of_same s1).trans kb2
  have tk02 := hp.tk kb02
  have hl2 := sql_keep hl kb02 npa
  have hls2 := hls.tk tk02
  refine ⟨t, _, rfl, et2, rfl, _, _, rfl, _, _, rfl, _, _, rfl, rfl, ?_⟩
  refine ⟨_, rfl, rfl, _, rfl, ?_⟩
  rw [lawF_is]
  by_cases ei : f = .is_
  · subst ei
    refine iteT ?_
    cases ok with
    | is_ m hm hw =>
    refine ⟨_, rfl, _, rfl, _, rfl, p, as, ls, some m, rfl, hl2, hls2, n12, fun H3 q s3 hq e3 => ?_⟩
    have hp3 := hp2.keep fun o e => s3 _ _ e
    have nqa : q ≠ a := hp2.ne hq
    refine ⟨a, q, _, n + 1, rfl, hp3, by omega, nqa, .inl (SqL.of e3), ?_, ?_, fun v H4 hv4 hp4 kb4 => ?_⟩
    · rw [List.length_map]
      exact hm
    · rw [List.length_map]
      show ((ls.filter _).map _).length ≤ _
      rw [List.length_map]
      exact Nat.le_trans (List.length_filter_le _ _) (by omega)
    obtain ⟨am, ham, rfl⟩ := List.mem_map.mp hv4
    have ham2 : (m, am) ∈ nsS ls := of_mem.mp ham
    have kb24 : KeptBut a H2 H4 := (KeptBut.of_same s3).trans kb4
    have tk24 := hp2.tk kb24
    have hl4 := sql_keep hl2 kb24 npa
    have hls4 := hls2.tk tk24
    -- plain
    refine ⟨_, rfl, p, rfl, ⟨_, hl4⟩, fun D hD => ?_⟩
    have nDa : D ≠ a := hp4.ne hD
    refine lc_it walk_list (fun i H' => Same H4 H' ∧ H' D = some (.lst (((ls.take i).filter fun l => !decide (l.fm = .is_)).map fun l => V.str l.name))) ⟨Same.new hD, upd_same⟩ (fun i H' _ h => h.1.seq hl4) ?_ ?_
    · rintro i x G1 G2 hi ⟨s5, e5⟩ ⟨rfl, hu⟩
      rw [List.length_map] at hi
      obtain ⟨b, hb, rfl⟩ := map_at hu
      obtain ⟨l, hll⟩ : ∃ l, ls[i]? = some l := ⟨_, List.getElem?_eq_getElem (by have := hls.1; omega)⟩
      have tk := filt_takeB (f := fun l => !decide (l.fm = .is_)) hll fun l => V.str l.name
      obtain ⟨po, g1, _⟩ := (hls4.2 i b l hb hll).same s5
      refine ⟨rfl, _, rfl, .inr (.inl ⟨b, _, _, _, rfl, rfl, g1, atI_of (j := 2) rfl rfl, rfl, _, rfl, ?_⟩)⟩
      rw [ne_is]
      cases qq : !decide (l.fm = .is_) with
      | true =>
        rw [qq, if_pos rfl] at tk
        refine iteT ⟨_, rfl, .inr (.inl ⟨b, _, _, _, rfl, rfl, g1, atI_of (j := 1) rfl rfl, _, e5, ?_, sm_put s5 hD, ?_⟩)⟩
        · rw [List.length_map]
          refine Nat.lt_of_le_of_lt (m := 12) (Nat.le_trans (List.length_filter_le _ _) ?_) (by decide)
          rw [List.length_take]
          omega
        · rw [upd_same, tk]
      | false =>
        rw [qq, if_neg (by decide)] at tk
        refine iteF ⟨s5, ?_⟩
        rw [tk]
        exact e5
    rintro H5 ⟨s5, e5⟩
    rw [List.length_map, hls.1, List.take_length] at e5
    have hp5 := hp4.keep fun o e => s5 _ _ e
    have pne : 0 < ((ls.filter fun l => !decide (l.fm = .is_)).map fun l => V.str l.name).length := by
      obtain ⟨l, hl, hf⟩ := first_plain vb fun z => by rw [z] at hm; exact absurd hm (Nat.lt_irrefl 0)
      rw [List.length_map]
      exact List.length_pos_iff.mpr fun z => by
        have : l ∈ ls.filter fun l => !decide (l.fm = .is_) := List.mem_filter.mpr ⟨hl, by simpa using hf⟩
        rw [z] at this
        cases this
    have pmem : ∀ v ∈ (ls.filter fun l => !decide (l.fm = .is_)).map (fun l => V.str l.name), ∃ x, v = .str x ∧ ∃ k, (k, x) ∈ nsS ls := fun v hv => by
      obtain ⟨l, hl, rfl⟩ := List.mem_map.mp hv
      exact ⟨_, rfl, l.mir, List.mem_map.mpr ⟨l, (List.mem_filter.mp hl).1, rfl⟩⟩
    have plen : ((ls.filter fun l => !decide (l.fm = .is_)).map fun l => V.str l.name).length ≤ 12 := by
      rw [List.length_map]
      exact Nat.le_trans (List.length_filter_le _ _) n12
    generalize (ls.filter fun l => !decide (l.fm = .is_)).map (fun l => V.str l.name) = pls at e5 pne pmem plen
    -- wings
    refine ⟨_, rfl, a, 3, n + 2, rfl, hp5, by omega, by decide, by decide, fun i H6 i0 i3 hp6 kb6 => ⟨i, rfl, by omega, by omega, fun W hW => ?_⟩⟩
    have eD6 : H6 D = some (.lst pls) := kb6 D _ e5 nDa
    have nWa : W ≠ a := hp6.ne hW
    refine lc_range (lo := 0) (n := i.toNat) (fun j H' => KeptBut a H6 H' ∧ PotAt H' a (n + 3 + j) ∧ ∃ ws : List Str, H' W = some (.lst (ws.map V.str)) ∧ ws.length = j ∧ ∀ x ∈ ws, ∃ k, (k, x) ∈ nsS ls)
      ⟨KeptBut.new hW, hp6.new hW, [], upd_same, rfl, fun _ h => nomatch h⟩ ?_ ?_
    · rintro j H' hj ⟨kb, hpj, ws, eW, lw, hws⟩
      have eD' := kb D _ eD6 nDa
      refine ⟨rfl, yes_if ⟨_, rfl, _, rfl, a, D, pls, n + 3 + j, rfl, hpj, by omega, nDa, .inl (SqL.of eD'), pne, by omega, fun v H7 hv7 hp7 kb7 => ?_⟩⟩
      obtain ⟨x, rfl, hx⟩ := pmem v hv7
      have eW7 : H7 W = some (.lst (ws.map V.str)) := kb7 W _ eW nWa
      refine ⟨_, eW7, ?_, fun b o e nb => ?_, ?_, ws ++ [x], ?_, ?_, fun y hy => ?_⟩
      · rw [List.length_map, lw, sizeLine_eq]
        omega
      · rw [upd_ne (fun z => by rw [z, hW] at e; cases e)]
        exact kb7 b o (kb b o e nb) nb
      · have := hp7.keep (H' := upd H7 W (.lst (ws.map V.str ++ [V.str x]))) fun o e => by rw [upd_ne nWa.symm]; exact e
        exact this.mono (by omega)
      · rw [upd_same, List.map_append]
        rfl
      · rw [List.length_append, lw]
        rfl
      · rcases List.mem_append.mp hy with z | z
        · exact hws y z
        · rw [List.mem_singleton.mp z]
          exact hx
    rintro H7 ⟨kb7, hp7, ws, eW, lw, hws⟩
    have n2 : ws.length ≤ 2 := by omega
    -- the row
    refine ⟨_, rfl, _, rfl, _, rfl, _, rfl, (by show 1 ≤ sizeLine; decide), fun A1 hA1 => ?_⟩
    have eWA := Same.new (o := .lst [V.str am]) hA1 _ _ eW
    refine ⟨W, A1, _, _, rfl, rfl, eWA, upd_same, ?_, fun A2 hA2 => ?_⟩
    · rw [List.length_map, sizeLine_eq]
      show _ + 1 ≤ _
      omega
    have eWB := Same.new (o := .lst (ws.map V.str ++ [V.str am])) hA2 _ _ eWA
    refine ⟨_, rfl, W, _, rfl, SqL.of eWB, fun A3 hA3 => ⟨A2, A3, _, _, rfl, rfl, Same.new hA3 _ _ upd_same, upd_same, ?_, fun A4 hA4 => ⟨_, _, rfl, .inl ⟨SqL.of upd_same, fun A5 hA5 => ?_⟩⟩⟩⟩
    · rw [List.length_append, List.length_reverse, List.length_map, sizeLine_eq]
      show _ + 1 + _ ≤ _
      omega
    refine ⟨(by show 4 ≤ sizeLine; decide), fun A6 hA6 => ?_⟩
    have er : ws.map V.str ++ [V.str am] ++ (ws.map V.str).reverse = (ws ++ [am] ++ ws.reverse).map V.str := by simp
    have sG := (((Same.new (o := .lst [V.str am]) hA1).trans (Same.new (o := .lst (ws.map V.str ++ [V.str am])) hA2)).trans (Same.new (o := .lst (ws.map V.str).reverse) hA3)).trans (Same.new (o := .lst ((ws ++ [am] ++ ws.reverse).map V.str)) hA4)
    rw [er] at hA5 hA6 ⊢
    generalize upd (upd (upd (upd H7 A1 (.lst [V.str am])) A2 (.lst (ws.map V.str ++ [V.str am]))) A3 (.lst (ws.map V.str).reverse)) A4 (.lst ((ws ++ [am] ++ ws.reverse).map V.str)) = G at sG hA5 hA6 ⊢
    have s57 : Same H7 (upd (upd G A5 (.tup ((ws ++ [am] ++ ws.reverse).map V.str))) A6 (.tup [.str (wordS m), .str nm, .str "is", .ref A5])) := (sG.trans (Same.new hA5)).trans (Same.new hA6)
    have kall : KeptBut a H H7 := ((kb02.trans kb24).trans (KeptBut.of_same s5)).trans (kb6.trans kb7)
    have hp7' := hp7.keep fun o e => s57 _ _ e
    refine k _ A6 ⟨m, nm, .is_, ws ++ [am] ++ ws.reverse⟩ (kall.trans (KeptBut.of_same s57)) ?_ (hp7'.mono (by omega)) ⟨A5, SqT.of upd_same, SqT.of (Same.new hA6 _ _ upd_same)⟩ rfl ?_ (fun z => absurd rfl z) (few_more (.is_ m hm hw) vb.few)
    · cases q : H A6 with
      | none => rfl
      | some o =>
        by_cases z : A6 = a
        · exact absurd z ((hp7.keep fun o e => (sG.trans (Same.new (o := .tup ((ws ++ [am] ++ ws.reverse).map V.str)) hA5)) _ _ e).ne hA6)
        · have := (sG.trans (Same.new (o := .tup ((ws ++ [am] ++ ws.reverse).map V.str)) hA5)) _ _ (kall A6 o q z)
          rw [hA6] at this
          cases this
    · refine .is_ m nm am _ (pal_wings ws am) ham2 (fun x hx => ?_) (by simp; omega)
      simp only [List.mem_append, List.mem_singleton, List.mem_reverse] at hx
      rcases hx with (hx | hx) | hx
      · exact hws x hx
      · exact ⟨m, by rw [hx]; exact ham2⟩
      · exact hws x hx
  · rw [decide_eq_false ei]
    refine iteF ?_
    dsimp only [tNext]
    -- pools
    refine seq_ofL (asg_oneL ?_)
    intro D hD
    have npD : D ≠ a := hp2.ne hD
    have eD : (upd H2 D (.dK [])) D = some (.dK []) := upd_same
    have sD : Same H2 (upd H2 D (.dK [])) := Same.new hD
    have hpD := hp2.new (o := .dK []) hD
    generalize upd H2 D (.dK []) = H3 at eD sD hpD ⊢
    refine ⟨_, rfl, p, as, ls, some true, rfl, sD.seq hl2, hls2.same sD, n12, fun H4 M s4 hM eM => ?_⟩
    have s24 := sD.trans s4
    refine ⟨_, rfl, p, as, ls, some false, rfl, s24.seq hl2, hls2.same s24, n12, fun H5 N s5 hN eN => ?_⟩
    have eM5 := s5 _ _ eM
    refine ⟨s5 _ _ (s4 _ _ eD), [(Sum.inr "m", .ref M), (Sum.inr "p", .ref N)], rfl, (by decide : 2 ≤ 15), ?_⟩
    have em : mergeK [] [((Sum.inr "m" : Key), V.ref M), (Sum.inr "p", V.ref N)] = [((Sum.inr "m" : Key), V.ref M), (Sum.inr "p", V.ref N)] := by
      unfold mergeK putK
      simp
      decide +kernel
    rw [em]
    have eD5 := s5 _ _ (s4 _ _ eD)
    have NM : M ≠ D := ne_of eM5 eD5 (fun z => nomatch z)
    have NN : N ≠ D := ne_of eN eD5 (fun z => nomatch z)
    have s26 : Same H2 (upd H5 D (.dK [((Sum.inr "m" : Key), V.ref M), (Sum.inr "p", V.ref N)])) := sm_put (s24.trans s5) hD
    have e6D : (upd H5 D (.dK [((Sum.inr "m" : Key), V.ref M), (Sum.inr "p", V.ref N)])) D = some (.dK [((Sum.inr "m" : Key), V.ref M), (Sum.inr "p", V.ref N)]) := upd_same
    have e6M : (upd H5 D (.dK [((Sum.inr "m" : Key), V.ref M), (Sum.inr "p", V.ref N)])) M = some (.lst ((ofS true ls).map V.str)) := by
      rw [upd_ne NM]
      exact eM5
    have e6N : (upd H5 D (.dK [((Sum.inr "m" : Key), V.ref M), (Sum.inr "p", V.ref N)])) N = some (.lst ((ofS false ls).map V.str)) := by
      rw [upd_ne NN]
      exact eN
    generalize upd H5 D (.dK [((Sum.inr "m" : Key), V.ref M), (Sum.inr "p", V.ref N)]) = H6 at s26 e6D e6M e6N ⊢
    have hp6 := hp2.keep fun o e => s26 _ _ e
    have nMa : M ≠ a := by
      obtain ⟨_, _, _, e, _⟩ := hpD.keep fun o e => s4 _ _ e
      exact fun z => by
        obtain ⟨_, _, _, e, _⟩ := hpD
        rw [z, e] at hM
        cases hM
    have nNa : N ≠ a := fun z => by
      obtain ⟨_, _, _, e, _⟩ := hpD.keep fun o e => s4 _ _ e
      rw [z, e] at hN
      cases hN
    -- others
    refine ⟨(by show 0 ≤ sizeLine; decide), fun O hO => ?_⟩
    have nOa : O ≠ a := hp6.ne hO
    have s7 : Same H6 (upd H6 O (.lst [])) := Same.new hO
    have e7 : (upd H6 O (.lst [])) O = some (.lst []) := upd_same
    have hp7 := hp6.new (o := .lst []) hO
    generalize upd H6 O (.lst []) = H7 at s7 e7 hp7 ⊢
    obtain ⟨zs, sg_at⟩ := sg_sign ok
    dsimp only
    refine seq_ofL ⟨_, rfl, _, rfl, ?_⟩
    refine for_it walk_str (fun i σ H' => ∃ (xs : List Str) (c e : Option V), σ = [some (.ref a), some (.ref p), some (.str nm), some (.str (wordS m)), some (.str (lawF f)), some (.str (sgS sg)), none, none, none, none, none, some (.ref D), some (.ref O), c, e] ∧ KeptBut a H6 H' ∧ H' O = some (.lst (xs.map V.str)) ∧ xs.length = i ∧ PickOk ls (sg.take xs.length) xs ∧ PotAt H' a (n + 1 + i))
      ⟨[], none, none, rfl, KeptBut.of_same s7, e7, rfl, ⟨rfl, fun i b x _ z => (by simp at z), List.nodup_nil⟩, hp7⟩ (fun _ _ _ _ _ => trivial) ?_ ?_
    · rintro i x σ H8 H9 hi ⟨xs, c, e, rfl, kb, eO, lx, px, hp8⟩ ⟨rfl, cc, hc, rfl⟩
      obtain ⟨b, hb, eb⟩ := sg_at i cc hc
      rw [eb]
      rw [← lx] at hb
      have hi2 : i < sg.length := by omega
      have l2 : sg.length ≤ 2 := by cases ok <;> simp
      have eD8 := kb D _ e6D npD
      have eM8 := kb M _ e6M nMa
      have eN8 := kb N _ e6N nNa
      obtain ⟨L, nLa, eL, eG⟩ : ∃ L, L ≠ a ∧ H9 L = some (.lst ((ofS b ls).map V.str)) ∧ DGet H9 D (.str (signS b)) (some (.ref L)) := by
        cases b with
        | true => exact ⟨M, nMa, eM8, DGet.at_ eD8 (by rfl)⟩
        | false => exact ⟨N, nNa, eN8, DGet.at_ eD8 (by
            have : ("m" : Str) ≠ "p" := by decide +kernel
            show ((List.find? _ _).map _) = _
            simp [valV, signS, this])⟩
      refine ⟨_, rfl, .inl ⟨rfl, _, SqL.of eO⟩, _, rfl, _, rfl, _, rfl, D, _, rfl, eG, L, rfl, ⟨_, SqL.of eL⟩, fun C hC => ?_⟩
      have nCa : C ≠ a := hp8.ne hC
      have fl : (xs.map V.str).all flatV = true := List.all_eq_true.mpr fun v hv => by
        obtain ⟨y, _, rfl⟩ := List.mem_map.mp hv
        rfl
      have l12 : (ofS b ls).length ≤ 12 := by
        unfold ofS
        rw [List.length_map]
        exact Nat.le_trans (List.length_filter_le _ _) n12
      refine lc_it walk_list (fun j H' => Same H9 H' ∧ H' C = some (.lst ((((ofS b ls).take j).filter fun y => !decide (y ∈ xs)).map V.str))) ⟨Same.new hC, upd_same⟩ (fun _ _ _ h => SqL.of (h.1 _ _ eL)) ?_ ?_
      · rintro j v G1 G2 hj ⟨s10, e10⟩ ⟨rfl, hu⟩
        obtain ⟨y, hy, rfl⟩ := map_at hu
        have eO10 := s10 _ _ eO
        refine ⟨rfl, _, rfl, _, rfl, O, _, rfl, .inl (SqL.of eO10), rfl, fl, _, rfl, ?_⟩
        have ei : (if true = true then !inV (.str y) (xs.map V.str) else inV (.str y) (xs.map V.str)) = !decide (y ∈ xs) := by
          rw [if_pos rfl, inV_strs]
        have tk : (((ofS b ls).take (j + 1)).filter fun y => !decide (y ∈ xs)).map V.str = if (!decide (y ∈ xs)) = true then (((ofS b ls).take j).filter fun y => !decide (y ∈ xs)).map V.str ++ [V.str y] else (((ofS b ls).take j).filter fun y => !decide (y ∈ xs)).map V.str := by
          rw [List.take_add_one, hy, List.filter_append, List.map_append]
          cases q : !decide (y ∈ xs) <;> simp [q]
        cases qq : !decide (y ∈ xs) with
        | true =>
          rw [qq, if_pos rfl] at tk
          refine ite_yes (ei.trans qq) ⟨_, rfl, _, e10, ?_, sm_put s10 hC, ?_⟩
          · rw [List.length_map]
            refine Nat.lt_of_le_of_lt (m := 12) (Nat.le_trans (List.length_filter_le _ _) ?_) (by decide)
            rw [List.length_take]
            omega
          · rw [upd_same, tk]
        | false =>
          rw [qq, if_neg (by decide)] at tk
          refine ite_no (ei.trans qq) ⟨s10, ?_⟩
          rw [tk]
          exact e10
      rintro H10 ⟨s10, e10⟩
      rw [List.length_map, List.take_length] at e10
      have hp10 := hp8.keep fun o e => s10 _ _ e
      obtain ⟨y0, hy0, ny0⟩ := pick_some vb.names_nd ok px hb
      refine ⟨a, C, _, n + 1 + i, rfl, hp10, by omega, nCa, .inl (SqL.of e10), ?_, ?_, fun v H11 hv hp11 kb11 => ?_⟩
      · rw [List.length_map]
        exact List.length_pos_of_mem (List.mem_filter.mpr ⟨hy0, by simpa using ny0⟩)
      · rw [List.length_map]
        exact Nat.le_trans (List.length_filter_le _ _) (by omega)
      obtain ⟨y, hy, rfl⟩ := List.mem_map.mp hv
      obtain ⟨hy1, hy2⟩ := List.mem_filter.mp hy
      have ny : y ∉ xs := by simpa using hy2
      have eO11 := kb11 O _ (s10 _ _ eO) nOa
      refine ⟨O, _, _, rfl, rfl, eO11, ?_, ?_⟩
      · rw [List.length_map, sizeLine_eq]
        omega
      have kbn : KeptBut a H6 (upd H11 O (.lst (xs.map V.str ++ [V.str y]))) := fun u o e nu => by
        rw [upd_ne (ne_of_none e hO)]
        exact kb11 u o (s10 _ _ (kb u o e nu)) nu
      refine ⟨xs ++ [y], _, _, rfl, kbn, ?_, ?_, px.more hb hy1 ny, ?_⟩
      · rw [upd_same, List.map_append]
        rfl
      · rw [List.length_append, lx]
        rfl
      · have := hp11.keep (H' := upd H11 O (.lst (xs.map V.str ++ [V.str y]))) fun o e => by rw [upd_ne nOa.symm]; exact e
        exact this.mono (by omega)
    · rintro σ H8 ⟨xs, c, e, rfl, kb, eO, lx, px, hp8⟩
      have l2 : sg.length ≤ 2 := by cases ok <;> simp
      rw [zs] at lx
      rw [lx, List.take_length] at px
      refine ⟨_, rfl, _, rfl, _, rfl, _, rfl, _, _, rfl, .inl ⟨SqL.of eO, fun A5 hA5 => ?_⟩⟩
      refine ⟨(by show 4 ≤ sizeLine; decide), fun A6 hA6 => ?_⟩
      have s57 : Same H8 (upd (upd H8 A5 (.tup (xs.map V.str))) A6 (.tup [.str (wordS m), .str nm, .str (lawF f), .ref A5])) := (Same.new hA5).trans (Same.new hA6)
      have kall : KeptBut a H H8 := (kb02.trans (KeptBut.of_same s26)).trans kb
      have hp8' := hp8.keep fun o e => s57 _ _ e
      refine k _ A6 ⟨m, nm, f, xs⟩ (kall.trans (KeptBut.of_same s57)) ?_ (hp8'.mono (by rw [zs]; omega)) ⟨A5, SqT.of upd_same, SqT.of (Same.new hA6 _ _ upd_same)⟩ rfl (pick_ok ok ei px) (fun _ => px.nd) (few_more ok vb.few)
      cases q : H A6 with
      | none => rfl
      | some o =>
        by_cases z : A6 = a
        · exact absurd z ((hp8.new (o := .tup (xs.map V.str)) hA5).ne hA6)
        · have := Same.new (o := .tup (xs.map V.str)) hA5 _ _ (kall A6 o q z)
          rw [hA6] at this
          cases this
end

end K12

namespace K12
open PySem PySem.Spec PyProof.Rows L2 Lm
open C8 (Cal Mak Met pe_c pe_mk pe_mt pe_mt0 pss_cut tCut)
open LamX (CodeO TabS Tabs ExtN TabB)
--KR 9
--NOTOP
abbrev s_law_lore : Stmt := top 69
abbrev n_law_lore : List Str := ["pot", "fewest", "most", "found", "name"]
abbrev p_law_lore : List Str := ["pot", "fewest", "most"]
theorem sc_law_lore : FnScope n_law_lore p_law_lore (defScope s_law_lore) := ⟨rfl, rfl, rfl, by decide +kernel, rfl, by decide +kernel, by decide +kernel⟩
section
variable {P : Program} {w : World} {K : PySem.W.Frag} {mg : Str → Option Value} {base : Heap} {f : Addr} {fd : FuncData}
theorem ok_lore (F : FunD K "_law_lore" "_law_lore" (defArgs s_law_lore) (defBody s_law_lore) (defScope s_law_lore) [] [] f fd) (hm : mg "_law_lore" = some (.ref f)) (T : Bl mg base) (c_law_take : Cal P w K mg base 1 "_law_take" spTake []) (c_law_names : Cal P w K mg base 3 "_law_names" spNms []) (c_law_further_line : Cal P w K mg base 3 "_law_further_line" (spFurther K) []) : Cal P w K mg base 4 "_law_lore" (spLore K) [] := by
  refine calD F hm sc_law_lore (fun _ _ _ _ _ _ us hl => match us, hl with | [_, _, _], _ => rfl) (fun vs H Q E h => ?_) (fun cdv A outer s H vs Q E hr h => ?_)
  · obtain ⟨a, n, lo, hi, rfl, _⟩ := h
    rfl
  obtain ⟨a, n, lo, hi, rfl, hp, hn, lh, h12, k⟩ := h
  refine ⟨_, (pss_cons (ps_set (i := 3) sc_law_lore.nd rfl (by first | exact Or.inl rfl | exact Or.inr rfl) (pe_lst pa_nil))
    (pss_cons (ps_for PassesOwn.never rfl (pi_list (pe_c c_law_names hr (by decide) (by rfl) (pa_cons (pv 0) (pa_cons (pe_op op_add (pv 1) (pe_c c_law_take hr (by decide) (by rfl) (pa_cons (pv 0) (pa_cons (pe_op op_add (pe_op op_sub (pv 2) (pv 1)) pe_int) pa_nil)))) pa_nil)))) (pg_name (i := 4) sc_law_lore.nd rfl (by first | exact Or.inl rfl | exact Or.inr rfl))
    (pss_one (ps_expr (pe_bm PySem.F.plainAttrs_list PySem.F.slot_list_append PySem.F.type_list_append mt_append (pv 3) (pa_cons (pe_c c_law_further_line hr (by decide) (by rfl) (pa_cons (pv 0) (pa_cons (pv 3) (pa_cons (pv 4) pa_nil)))) pa_nil)))))
    (pss_one (ps_ret (pv 3))))), ?_⟩
  refine ⟨(by show 0 ≤ sizeLine; decide), fun F hF => ?_⟩
  have nFa : F ≠ a := hp.ne hF
  have hp1 := hp.new (o := .lst []) hF
  have e1 : (upd H F (.lst [])) F = some (.lst []) := upd_same
  have s1 : Same H (upd H F (.lst [])) := Same.new hF
  generalize upd H F (.lst []) = H1 at hp1 e1 s1 ⊢
  dsimp only
  refine seq_ofL ⟨_, rfl, _, rfl, _, rfl, _, rfl, _, rfl, _, _, rfl, rfl, _, _, rfl, rfl, a, _, n, rfl, hp1, by omega, ?_, ?_, fun j H2 j0 j1 hp2 kb2 => ?_⟩
  · omega
  · omega
  obtain ⟨m, rfl⟩ : ∃ m : Nat, j = m := ⟨j.toNat, (Int.toNat_of_nonneg j0).symm⟩
  have e2 := kb2 F _ e1 nFa
  refine ⟨_, _, rfl, rfl, a, n + 1, lo + m, by rw [Int.natCast_add]; rfl, hp2, by omega, by omega, fun H3 R ys hp3 kb3 hR eR ly nd sub => ?_⟩
  have e3 := kb3 F _ e2 nFa
  have nRa : R ≠ a := hp2.ne hR
  have nFR : F ≠ R := fun z => by
    rw [z, hR] at e2
    cases e2
  have kb13 : KeptBut a H1 H3 := kb2.trans kb3
  have lh2 : lo + m ≤ hi := by omega
  refine ⟨R, rfl, ⟨_, SqL.of eR⟩, ?_⟩
  refine for_it walk_list (fun i σ H' => ∃ (as : List Addr) (ls : List LnS) (c : Option V), σ = [some (.ref a), some (.int (lo : Int)), some (.int (hi : Int)), some (.ref F), c] ∧ KeptBut a H H' ∧ H' R = some (.lst (ys.map V.str)) ∧ H' F = some (.lst (as.map V.ref)) ∧ LoresAt K H' as ls ∧ VBk ls ∧ namesS ls = ys.take i ∧ PotAt H' a (n + 20 + 15 * i))
    ⟨[], [], none, rfl, (KeptBut.of_same s1).trans kb13, eR, e3, ⟨rfl, fun i b l hb _ => (by simp at hb)⟩, VBk.nil, rfl, hp3.mono (by omega)⟩ (fun _ _ _ _ ⟨_, _, _, _, _, h, _⟩ => SqL.of h) ?_ ?_
  · rintro i v σ H4 H5 hi2 ⟨as, ls, c, rfl, kb, eR4, eF4, hls, vb, ns, hp4⟩ ⟨rfl, hu⟩
    rw [List.length_map] at hi2
    obtain ⟨y, hy, rfl⟩ := map_at hu
    have li : ls.length = i := by
      have := congrArg List.length ns
      unfold namesS at this
      rw [List.length_map, List.length_take] at this
      omega
    have i12 : ls.length ≤ 11 := by omega
    refine ⟨_, rfl, .inl ⟨rfl, _, SqL.of eF4⟩, _, rfl, _, rfl, _, rfl, a, F, as, ls, n + 20 + 15 * i, y, rfl, hp4, by omega, nFa, SqL.of eF4, hls, vb, by omega, fun H6 r l kb6 hr hp6 la nm ok ds few => ?_⟩
    have eF6 := kb6 F _ eF4 nFa
    have eR6 := kb6 R _ eR4 nRa
    have yl : y ∈ ys := List.mem_of_getElem? hy
    have yn : y ∉ ys.take i := fun z => by
      have nd2 := List.Nodup.sublist (List.take_sublist (i + 1) ys) nd
      rw [List.take_add_one, hy, List.nodup_append] at nd2
      exact nd2.2.2 y z y (by simp) rfl
    have vb2 : VBk (ls ++ [l]) := vb.more i12 ok (by rw [nm, ns]; exact yn) (pool_nm ok (by rw [nm]; exact sub y yl) fun k x hk => by
      unfold nsS at hk
      obtain ⟨l', hl', e'⟩ := List.mem_map.mp hk
      cases e'
      have : l'.name ∈ namesS ls := List.mem_map_of_mem (f := fun l => l.name) hl'
      rw [ns] at this
      exact sub _ (List.mem_of_mem_take this)) ds few
    refine ⟨F, _, _, rfl, rfl, eF6, ?_, ?_⟩
    · rw [List.length_map, hls.1, sizeLine_eq]
      omega
    have eA : (as ++ [r]).map V.ref = as.map V.ref ++ [V.ref r] := by
      rw [List.map_append]
      rfl
    have tk6 := hp4.tk kb6
    have tkF : Tk H6 (upd H6 F (.lst (as.map V.ref ++ [V.ref r]))) := (KeptBut.refl.put (D := F)).tk eF6 trivial
    refine ⟨as ++ [r], ls ++ [l], _, rfl, fun b o e nb => ?_, ?_, by rw [eA]; exact upd_same, ?_, vb2, ?_, ?_⟩
    · rw [upd_ne (ne_of_none e hF)]
      exact kb6 b o (kb b o e nb) nb
    · rw [upd_ne nFR.symm]
      exact eR6
    · refine ⟨by rw [List.length_append, List.length_append, hls.1]; rfl, fun q b l' hb hl' => ?_⟩
      by_cases hq : q < as.length
      · rw [List.getElem?_append_left hq] at hb
        rw [List.getElem?_append_left (by rw [← hls.1]; exact hq)] at hl'
        exact ((hls.2 q b l' hb hl').tk tk6).tk tkF
      · have q0 : q = as.length := by
          have := (List.getElem?_eq_some_iff.mp hb).1
          rw [List.length_append] at this
          have : q < as.length + 1 := this
          omega
        rw [q0, List.getElem?_append_right (Nat.le_refl _), Nat.sub_self] at hb
        rw [q0, hls.1, List.getElem?_append_right (Nat.le_refl _), Nat.sub_self] at hl'
        cases hb
        cases hl'
        exact la.tk tkF
    · unfold namesS at ns ⊢
      rw [List.map_append, ns, List.take_add_one, hy, ← nm]
      rfl
    · have := hp6.keep (H' := upd H6 F (.lst (as.map V.ref ++ [V.ref r]))) fun o e => by rw [upd_ne nFa.symm]; exact e
      exact this.mono (by omega)
  · rintro σ H4 ⟨as, ls, c, rfl, kb, eR4, eF4, hls, vb, ns, hp4⟩
    rw [List.length_map, List.take_length] at ns
    have ll : ls.length = ys.length := by
      have := congrArg List.length ns
      unfold namesS at this
      rw [List.length_map] at this
      exact this
    refine ⟨_, rfl, k H4 F as ls kb hF (hp4.mono (by rw [List.length_map]; omega)) eF4 hls vb (fun l hl => ?_) (by omega) (by omega)⟩
    have : l.name ∈ namesS ls := List.mem_map_of_mem (f := fun l => l.name) hl
    rw [ns] at this
    exact sub _ this
end

end K12

namespace K12
open PySem PySem.Spec PyProof.Rows L2 Lm
open C8 (Cal Mak Met pe_c pe_mk pe_mt pe_mt0 pss_cut tCut)
open LamX (CodeO TabS Tabs ExtN TabB)
--KR 9

--NOTOP
abbrev s_Book_told : Stmt := inClass (top 54) 1
abbrev n_Book_told : List Str := ["self", "line"]
abbrev p_Book_told : List Str := ["self", "line"]
theorem sc_Book_told : FnScope n_Book_told p_Book_told (defScope s_Book_told) := ⟨rfl, rfl, rfl, by decide +kernel, rfl, by decide +kernel, by decide +kernel⟩
abbrev s_Book_without : Stmt := inClass (top 54) 2
abbrev n_Book_without : List Str := ["self", "name", "line"]
abbrev p_Book_without : List Str := ["self", "name"]
theorem sc_Book_without : FnScope n_Book_without p_Book_without (defScope s_Book_without) := ⟨rfl, rfl, rfl, by decide +kernel, rfl, by decide +kernel, by decide +kernel⟩
section
variable {P : Program} {w : World} {K : PySem.W.Frag} {mg : Str → Option Value} {base : Heap} {f : Addr} {fd : FuncData}
theorem ok_told_book (F : FunD K "told" "Book.told" (defArgs s_Book_told) (defBody s_Book_told) (defScope s_Book_told) [] [] f fd) (T : Bl mg base) (m_any : mg "any" = none) (Z : ErrL P w K mg base ["BadBook", "BadLine", "NoName", "Used", "Few"]) (BC : ObC K mg "Book" ["text", "names", "mirrors", "pegs", "loose", "lines", "plan"]) (c_mk : MakX P w K mg base 7 "Book" (He.ga K "Book") (spBkI P w K)) : FnOk P w K mg base (L2.CX P w) 9 f fd ["self", "line"] (spBkTold P w K) := by
  refine okX F sc_Book_told (fun vs H Q E h => ?_) (fun cdv A outer s H vs Q E hr h => ?_)
  · obtain ⟨b, ls, l, rfl, _⟩ := h
    rfl
  refine ⟨_, (pss_cons (ps_if (PW.pt (pw_or (pt_not (pt_val (pe_callB call_isR (by rfl) T.isinstance (by decide +kernel) (pa_cons (pv 1) (pa_cons (pe_bltn (v := .ty "str") (by rfl) T.str (by decide +kernel) rfl) pa_nil))))) (pw_or1 (pt_cmpR op_in_sign pe_str (pv 1) (by rfl))))) (pss_one (ps_raise rfl (takes_of rfl rfl rfl rfl) (pmk_err Z (x := "BadLine") (by decide +kernel) hr (by decide) (by rfl) (pa_cons (pv 1) pa_nil)))) pss_nil)
    (pss_one (ps_try_thru0 (pss_one (ps_ret (pe_mkX c_mk passL hr (by decide) (by rfl) (pa_cons (pe_joined (PJ.cons (pe_fmt (pe_fldP K (pv 0) rfl)) (PJ.cons pe_str (PJ.cons (pe_fmt (pv 1)) PJ.nil)))) pa_nil))))))), ?_⟩
  obtain ⟨b, ls, l, rfl, hb, ne, vb, k⟩ := h
  obtain ⟨dx, p1, p2, p3, p4, p5, pl, md, fd', as, hbx, h1, h2, h3, h4, h5, h6, h7⟩ := id hb
  have lmem : l ∈ ls ++ [l] := List.mem_append_right _ (List.mem_singleton.mpr rfl)
  have no10 : ¬ (10 : Nat) ∈ (textS l).cps.toList := textS_no (vb.nm l lmem)
  have n12 := vb.n
  have len : (bookS (ls ++ [l])).length ≤ 20000 := book_len vb
  have eb := bookS_snoc (l := l) ne
  have len2 : (bookS ls).length + 1 + (textS l).length ≤ 20000 := by
    rw [eb, strLen_append, strLen_append] at len
    exact len
  have sl := sizeLine_eq
  refine ⟨_, rfl, _, _, _, _, true, rfl, .ty _, .inl (.base (.str _)), kit_ty (by decide +kernel), true, rfl, iteF ⟨_, rfl, 10, textS l, rfl, rfl, _, rfl, ?_⟩⟩
  rw [decide_eq_false no10]
  refine iteF ⟨_, rfl, b, _, dx, _, _, rfl, hbx, BC.cl, BC.na _ (by decide), rfl, .inl ⟨_, rfl, by omega, ?_⟩⟩
  have e0 : (Str.empty ++ bookS ls : Str) = bookS ls := TL.ext_tl (by rw [TL.tl_append]; rfl)
  refine ⟨_, rfl, by rw [e0]; omega, ?_⟩
  rw [e0]
  refine ⟨_, rfl, by rw [strLen_append]; show (bookS ls).length + 1 ≤ _; omega, _, rfl, .inl ⟨_, rfl, by omega, _, rfl, by rw [strLen_append, strLen_append]; show (bookS ls).length + 1 + _ ≤ _; omega, ?_⟩⟩
  rw [← eb]
  exact mk_book vb (by simp) fun H' r s hr bk => k H' r s hr bk
theorem ok_without (F : FunD K "without" "Book.without" (defArgs s_Book_without) (defBody s_Book_without) (defScope s_Book_without) [] [] f fd) (T : Bl mg base) (m_any : mg "any" = none) (Z : ErrL P w K mg base ["BadBook", "BadLine", "NoName", "Used", "Few"]) (BC : ObC K mg "Book" ["text", "names", "mirrors", "pegs", "loose", "lines", "plan"]) (LC : ObC K mg "Line" ["text", "form", "word", "name", "others", "wanted", "row"]) (c_mk : MakX P w K mg base 7 "Book" (He.ga K "Book") (spBkI P w K)) : FnOk P w K mg base (L2.CX P w) 9 f fd ["self", "name"] (spWithout P w K) := by
  refine okX F sc_Book_without (fun vs H Q E h => ?_) (fun cdv A outer s H vs Q E hr h => ?_)
  · obtain ⟨b, ls, v, rfl, _⟩ := h
    rfl
  refine ⟨_, (pss_cons (ps_if (pt_cmpR (op_notInT2 (units1 hr)) (pv 1) (pe_fld (pv 0) rfl) (by rfl)) (pss_one (ps_raise rfl (takes_of rfl rfl rfl rfl) (pmk_err Z (x := "NoName") (by decide +kernel) hr (by decide) (by rfl) (pa_cons (pv 1) pa_nil)))) pss_nil)
    (pss_cons (ps_if (pt_val (pe_callB (cr_any rfl) (by rfl) m_any (by decide +kernel) (pa_cons (pe_lc (own := [("line", 2)]) (g := (gName 2)) (tt := tYes) rfl sc_Book_without.nd (pi_tup (pe_fldP K (pv 0) rfl)) (blkOk_by (own := [("line", 2)]) (N := n_Book_without) (sc := defScope s_Book_without) (by decide +kernel)) (fun _ _ _ _ _ => (pg_name (i := 2) sc_Book_without.nd rfl (by first | exact Or.inl rfl | exact Or.inr rfl))) (fun _ _ _ _ _ => pts_nil) (fun _ _ _ _ _ => (pe_cmpR (op_in_seqP K) (pv 1) (pe_fldP K (pv 2) rfl) (by rfl)))) pa_nil))) (pss_one (ps_raise rfl (takes_of rfl rfl rfl rfl) (pmk_err Z (x := "Used") (by decide +kernel) hr (by decide) (by rfl) (pa_cons (pv 1) pa_nil)))) pss_nil)
    (pss_cons (ps_if (pt_cmpR op_eq (pe_callB call_len_seq (by rfl) T.len (by decide +kernel) (pa_cons (pe_fld (pv 0) rfl) pa_nil)) pe_int (nomark _)) (pss_one (ps_raise rfl (takes_of rfl rfl rfl rfl) (pmk_err Z (x := "Few") (by decide +kernel) hr (by decide) (by rfl) (pa_cons pe_int pa_nil)))) pss_nil)
    (pss_one (ps_ret (pe_mkX c_mk passL hr (by decide) (by rfl) (pa_cons (pe_join pe_str (pe_lc (own := [("line", 2)]) (g := (gName 2)) rfl sc_Book_without.nd (pi_tup (pe_fldP K (pv 0) rfl)) (blkOk_by (own := [("line", 2)]) (N := n_Book_without) (sc := defScope s_Book_without) (by decide +kernel)) (fun _ _ _ _ _ => (pg_name (i := 2) sc_Book_without.nd rfl (by first | exact Or.inl rfl | exact Or.inr rfl))) (fun _ _ _ _ _ => (pts_one (pt_cmpR op_ne (pe_fldP K (pv 2) rfl) (pv 1) (nomark _)))) (fun _ _ _ _ _ => (pe_fldP K (pv 2) rfl)))) pa_nil))))))), ?_⟩
  obtain ⟨b, ls, v, rfl, hb, vb, hv, k⟩ := h
  obtain ⟨dx, p1, p2, p3, p4, p5, pl, md, fd', as, hbx, h1, h2, h3, h4, h5, h6, h7⟩ := id hb
  have n12 := vb.n
  have lal := h6.1
  have fl : ∀ l : LnS, (l.oth.map V.str).all flatV = true := fun l => List.all_eq_true.mpr fun v hv => by
    obtain ⟨y, _, rfl⟩ := List.mem_map.mp hv
    rfl
  -- not a name
  refine ⟨_, rfl, _, rfl, b, _, dx, _, _, rfl, hbx, BC.cl, BC.na _ (by decide), rfl, ?_⟩
  rcases k with ⟨no, wish⟩ | ⟨i, l, rfl, hl, k⟩
  · refine in_says (b := false) (.inr h1.sqt) hv ⟨fun ⟨x, e, m⟩ => absurd m (no x e), fun z => nomatch z⟩ ⟨_, rfl, iteT ?_⟩
    exact raise_ok (te := tVar 1) Z (by decide +kernel) ⟨_, rfl, wish⟩ fun ⟨v, h, q⟩ m => ⟨v, h, m _ _ q⟩
  have lm := List.mem_of_getElem? hl
  have nm : l.name ∈ namesS ls := List.mem_map_of_mem (f := fun l => l.name) lm
  refine in_says (b := true) (.inr h1.sqt) hv ⟨fun _ => rfl, fun _ => ⟨_, rfl, nm⟩⟩ ⟨_, rfl, iteF ?_⟩
  -- any
  refine ⟨_, rfl, b, _, dx, _, _, rfl, hbx, BC.cl, BC.na _ (by decide), rfl, p5, rfl, ⟨_, h5⟩, fun D hD => ?_⟩
  refine lc_it walk_tup (fun j H' => Same H H' ∧ H' D = some (.lst (((ls.take j).map fun x => decide (l.name ∈ x.oth)).map V.bl))) ⟨Same.new hD, upd_same⟩ (fun j H' _ h => sq_tk h5 (.same h.1)) ?_ ?_
  · rintro j x G1 G2 hj ⟨s1, e1⟩ ⟨rfl, hu⟩
    rw [List.length_map] at hj
    obtain ⟨a, ha, rfl⟩ := map_at hu
    obtain ⟨l', hl'⟩ : ∃ l', ls[j]? = some l' := ⟨_, List.getElem?_eq_getElem (by omega)⟩
    obtain ⟨t, _, la⟩ := (h6.same s1).2 j a l' ha hl'
    obtain ⟨dl, po, pw, pr, hla, hpo, _⟩ := la
    refine ⟨rfl, yes_if ⟨_, rfl, _, rfl, a, _, dl, _, _, rfl, hla, LC.cl, LC.na _ (by decide), rfl, po, _, rfl, .inr hpo, rfl, fl l', _, e1, ?_, sm_put s1 hD, ?_⟩⟩
    · rw [List.length_map, List.length_map, List.length_take, sizeLine_eq]
      omega
    · rw [upd_same, List.take_add_one, hl', List.map_append, List.map_append]
      show some (HO.lst (_ ++ [V.bl (if false = true then !inV (.str l.name) (l'.oth.map V.str) else inV (.str l.name) (l'.oth.map V.str))])) = _
      rw [if_neg Bool.false_ne_true, inV_strs]
      rfl
  rintro H1 ⟨s1, e1⟩
  rw [List.length_map, lal, List.take_length] at e1
  refine ⟨D, _, rfl, SqL.of e1, ?_⟩
  have wish1 : ∀ {x : Str} {v : V}, Wish K H E x v → Wish K H1 E x v := fun {x v} h d H' s n e => h d H' (s1.trans s) (s1.free n) e
  rcases k with ⟨⟨l', hl', hx⟩, wish⟩ | k
  · refine ⟨_, rfl, ?_⟩
    have e : ((ls.map fun x => decide (l.name ∈ x.oth)).any id) = true := List.any_eq_true.mpr ⟨true, List.mem_map.mpr ⟨l', hl', decide_eq_true hx⟩, rfl⟩
    rw [e]
    exact iteT (raise_ok (te := tVar 1) Z (by decide +kernel) ⟨_, rfl, wish1 wish⟩ fun ⟨v, h, q⟩ m => ⟨v, h, m _ _ q⟩)
  have no : ∀ l' ∈ ls, l.name ∉ l'.oth := k.elim (fun k => k.1) fun k => k.1
  have e : ((ls.map fun x => decide (l.name ∈ x.oth)).any id) = false := by
    rw [List.any_eq_false]
    intro b hb
    obtain ⟨l', hl', rfl⟩ := List.mem_map.mp hb
    rw [decide_eq_false (no l' hl')]
    exact Bool.false_ne_true
  refine ⟨_, rfl, ?_⟩
  rw [e]
  refine iteF ?_
  have hbx1 := s1 _ _ hbx
  have h51 := sq_tk h5 (.same s1)
  refine ⟨_, rfl, b, _, dx, _, _, rfl, hbx1, BC.cl, BC.na _ (by decide), rfl, p5, _, rfl, .inr h51, rfl, _, rfl, ?_⟩
  rw [List.length_map, lal]
  rcases k with ⟨_, one, wish⟩ | ⟨_, ne1, q⟩
  · rw [one, show decide (V.int ((1 : Nat) : Int) = V.int 1) = true from decide_eq_true rfl]
    exact iteT (raise_ok (te := tC (.int 1)) Z (by decide +kernel) (wish1 wish) fun q m => m _ _ q)
  rw [decide_eq_false (show ¬ (V.int (ls.length : Nat)) = V.int 1 from fun z => ne1 (by injection z with z; omega))]
  refine iteF ?_
  -- the book without it
  refine ⟨⟨_, rfl⟩, _, rfl, b, _, dx, _, _, rfl, hbx1, BC.cl, BC.na _ (by decide), rfl, p5, rfl, ⟨_, h51⟩, fun D2 hD2 => ?_⟩
  refine lc_it walk_tup (fun j H' => Same H1 H' ∧ H' D2 = some (.lst (((ls.take j).filter fun x => !decide (V.str x.name = V.str l.name)).map fun x => V.str (textS x)))) ⟨Same.new hD2, upd_same⟩ (fun j H' _ h => sq_tk h51 (.same h.1)) ?_ ?_
  · rintro j x G1 G2 hj ⟨s2, e2⟩ ⟨rfl, hu⟩
    rw [List.length_map] at hj
    obtain ⟨a, ha, rfl⟩ := map_at hu
    obtain ⟨l', hl'⟩ : ∃ l', ls[j]? = some l' := ⟨_, List.getElem?_eq_getElem (by omega)⟩
    have tk := filt_takeB (f := fun x => !decide (V.str x.name = V.str l.name)) hl' fun x => V.str (textS x)
    obtain ⟨t, ht, dl, po, pw, pr, hla, _⟩ := (h6.same (s1.trans s2)).2 j a l' ha hl'
    rw [List.getElem?_map, hl'] at ht
    cases ht
    refine ⟨rfl, _, rfl, a, _, dl, _, _, rfl, hla, LC.cl, LC.na _ (by decide), rfl, _, rfl, rfl, _, rfl, ?_⟩
    cases qq : !decide (V.str l'.name = V.str l.name) with
    | true =>
      rw [qq, if_pos rfl] at tk
      refine iteT ⟨_, rfl, a, _, dl, _, _, rfl, hla, LC.cl, LC.na _ (by decide), rfl, _, e2, ?_, sm_put s2 hD2, ?_⟩
      · rw [List.length_map]
        refine Nat.lt_of_le_of_lt (m := 12) (Nat.le_trans (List.length_filter_le _ _) ?_) (by decide)
        rw [List.length_take]
        omega
      · rw [upd_same, tk]
    | false =>
      rw [qq, if_neg (by decide)] at tk
      refine iteF ⟨s2, ?_⟩
      rw [tk]
      exact e2
  rintro H2 ⟨s2, e2⟩
  rw [List.length_map, lal, List.take_length, erase_filter vb hl] at e2
  have ve := vb.erase hl no
  have il : i < ls.length := (List.getElem?_eq_some_iff.mp hl).1
  have ene : ls.eraseIdx i ≠ [] := fun z => by
    have := congrArg List.length z
    rw [List.length_eraseIdx_of_lt il] at this
    have : ls.length - 1 = 0 := this
    omega
  have e2' : H2 D2 = some (.lst (((ls.eraseIdx i).map textS).map V.str)) := by
    rw [e2, List.map_map]
    rfl
  refine ⟨_, D2, (ls.eraseIdx i).map textS, rfl, rfl, .inl (SqL.of e2'), ?_, ?_⟩
  · have key : ∀ r : List LnS, (∀ l ∈ r, (textS l).length ≤ 1000) → ((r.map textS).map (·.length)).sum ≤ 1000 * r.length := by
      intro r
      induction r with
      | nil => intro _; exact Nat.le_refl _
      | cons a r ih =>
        intro q
        have h1 := q a List.mem_cons_self
        have h2 := ih fun n m => q n (List.mem_cons_of_mem _ m)
        simp only [List.map_cons, List.sum_cons, List.length_cons]
        omega
    have h2 := key (ls.eraseIdx i) fun l hl => by
      obtain ⟨i, hi⟩ := List.mem_iff_getElem?.mp hl
      exact text_len (ve.nm l hl).wl (by have := (words_len (ve.ok i l hi).1).1; omega)
    have h4 : ("\n" : Str).length = 1 := rfl
    have h3 := ve.n
    rw [h4, List.length_map]
    omega
  · exact mk_book ve ene fun H' r s hr bk => q H' r ((s1.trans s2).trans s) ((s1.trans s2).free hr) bk
end

end K12

namespace K12
open PySem PySem.Spec PyProof.Rows L2 Lm
open C8 (Cal Mak Met pe_c pe_mk pe_mt pe_mt0 pss_cut tCut)
open LamX (CodeO TabS Tabs ExtN TabB LamS lamCx lamEnv lamS_by)
--KR 11
abbrev s_law_pot : Stmt := top 56
abbrev n_law_pot : List Str := ["script", "place", "cell", "own", "small"]
abbrev p_law_pot : List Str := ["script", "place"]
theorem sc_law_pot : FnScope n_law_pot p_law_pot (defScope s_law_pot) := ⟨rfl, rfl, rfl, by decide +kernel, rfl, by decide +kernel, by decide +kernel⟩
abbrev s_law_take : Stmt := top 57
abbrev n_law_take : List Str := ["pot", "upto", "digit", "prime", "blend"]
abbrev p_law_take : List Str := ["pot", "upto"]
theorem sc_law_take : FnScope n_law_take p_law_take (defScope s_law_take) := ⟨rfl, rfl, rfl, by decide +kernel, rfl, by decide +kernel, by decide +kernel⟩
abbrev s_law_of : Stmt := top 58
abbrev n_law_of : List Str := ["pot", "some"]
abbrev p_law_of : List Str := ["pot", "some"]
theorem sc_law_of : FnScope n_law_of p_law_of (defScope s_law_of) := ⟨rfl, rfl, rfl, by decide +kernel, rfl, by decide +kernel, by decide +kernel⟩
abbrev s_law_cells : Stmt := top 60
abbrev n_law_cells : List Str := ["script", "most"]
abbrev p_law_cells : List Str := ["script", "most"]
theorem sc_law_cells : FnScope n_law_cells p_law_cells (defScope s_law_cells) := ⟨rfl, rfl, rfl, by decide +kernel, rfl, by decide +kernel, by decide +kernel⟩
abbrev s_law_told : Stmt := top 61
abbrev n_law_told : List Str := ["call", "caught", "back", "error"]
abbrev p_law_told : List Str := ["call"]
theorem sc_law_told : FnScope n_law_told p_law_told (defScope s_law_told) := ⟨rfl, rfl, rfl, by decide +kernel, rfl, by decide +kernel, by decide +kernel⟩
abbrev s_law_right : Stmt := top 70
abbrev n_law_right : List Str := ["pot", "lore", "made", "names", "at", "name", "caught", "less", "line", "again", "rest", "value"]
abbrev p_law_right : List Str := ["pot"]
theorem sc_law_right : FnScope n_law_right p_law_right (defScope s_law_right) := ⟨rfl, rfl, rfl, by decide +kernel, rfl, by decide +kernel, by decide +kernel⟩
abbrev s_law : Stmt := top 71
abbrev n_law : List Str := ["script", "place", "pot", "lap"]
abbrev p_law : List Str := ["script"]
theorem sc_law : FnScope n_law p_law (defScope s_law) := ⟨rfl, rfl, rfl, by decide +kernel, rfl, by decide +kernel, by decide +kernel⟩
section
variable {P : Program} {w : World} {K : PySem.W.Frag} {mg : Str → Option Value} {base : Heap} {f : Addr} {fd : FuncData}
theorem ok_pot (F : FunD K "_law_pot" "_law_pot" (defArgs s_law_pot) (defBody s_law_pot) (defScope s_law_pot) [] [] f fd) (hm : mg "_law_pot" = some (.ref f)) (T : Bl mg base) : Cal P w K mg base 1 "_law_pot" (spPot K) [] := by
  refine calD F hm sc_law_pot (fun _ _ _ _ _ _ us hl => match us, hl with | [_, _], _ => rfl) (fun vs H Q E h => ?_) (fun cdv A outer s H vs Q E hr h => ?_)
  · obtain ⟨a, ns, j, rfl, _⟩ := h
    rfl
  obtain ⟨a, ns, j, rfl, hS, hj, k⟩ := h
  refine ⟨_, (pss_cut (ps_set (i := 2) sc_law_pot.nd rfl (by first | exact Or.inl rfl | exact Or.inr rfl) (pe_ifExp (pt_cmpR op_lt (pv 1) (pe_callB call_len_seq (by rfl) T.len (by decide +kernel) (pa_cons (pv 0) pa_nil)) (nomark _)) (pe_ix ix_seq (pv 0) (pv 1) (fun _ _ => rfl)) (pe_op op_add (pe_op op_mul pe_int (pv 1)) pe_int)))
    (pss_cons (ps_set (i := 3) sc_law_pot.nd rfl (by first | exact Or.inl rfl | exact Or.inr rfl) (pe_op op_mul (pe_op op_mod (pe_callTy call_int1 (by rfl) T.int (by decide +kernel) (pa_cons (pe_callB call_abs (by rfl) T.abs (by decide +kernel) (pa_cons (pv 2) pa_nil)) pa_nil)) (pe_op op_powW (pe_op op_pow pe_int pe_int) pe_int)) (pe_callTy call_int1 (by rfl) T.int (by decide +kernel) (pa_cons (pe_cmpR op_ge (pe_callB call_abs (by rfl) T.abs (by decide +kernel) (pa_cons (pv 2) pa_nil)) (pe_op op_pow pe_int pe_int) (nomark _)) pa_nil))))
    (pss_cons (ps_set (i := 4) sc_law_pot.nd rfl (by first | exact Or.inl rfl | exact Or.inr rfl) (pe_op op_mod (pe_callTy call_int1 (by rfl) T.int (by decide +kernel) (pa_cons (pv 2) pa_nil)) pe_int))
    (pss_one (ps_ret (pe_lst (pa_cons (pv 3) (pa_cons (pe_op op_mod (pe_callTy call_int1 (by rfl) T.int (by decide +kernel) (pa_cons (pe_op op_add (pe_op op_add (pe_op op_mul (pv 4) pe_int) (pe_op op_mul (pe_op op_mul pe_int (pv 1)) (pv 1))) pe_int) pa_nil)) pe_int) (pa_cons pe_int pa_nil))))))))), ?_⟩
  refine ⟨fun σ H' => H' = H ∧ ∃ c : Int, σ = [some (.ref a), some (.int (j : Int)), some (.int c), none, none], ?_, ?_⟩
  · refine ⟨_, rfl, _, rfl, a, _, rfl, .inl hS, _, _, rfl, rfl, _, rfl, ?_⟩
    refine ite2 (fun hc => ?_) (fun hc => ?_)
    · have hlt : (j : Int) < ((ns.map V.int).length : Nat) := of_decide_eq_true hc
      have hj2 : j < ns.length := by
        rw [List.length_map] at hlt
        omega
      exact ⟨_, rfl, _, rfl, .inl ⟨a, _, _, .int ns[j], rfl, rfl, hS, atI_of rfl (by rw [List.getElem?_map, List.getElem?_eq_getElem hj2] <;> rfl), rfl, _, rfl⟩⟩
    · exact ⟨_, rfl, _, _, rfl, rfl, .inl ⟨by decide, by decide⟩, _, _, rfl, rfl, rfl, _, rfl⟩
  · rintro σ H' ⟨rfl, c, rfl⟩
    -- own
    refine ⟨_, rfl, _, rfl, .inl ⟨_, rfl, _, _, rfl, rfl, ⟨by decide, by decide, by decide⟩, _, _, rfl, rfl, ⟨by decide, by decide +kernel⟩, _, _, rfl, rfl, (show (0 : Int) < _ by decide +kernel),
      _, rfl, _, rfl, _, _, rfl, rfl, ⟨by decide, by decide, by decide⟩, _, _, rfl, rfl, .inr ⟨_, rfl, _, _, rfl, rfl, .inr ?_, ?_⟩⟩⟩
    · have b := ite_b2i (c := decide ((10 : Int) ^ (18 : Int).toNat ≤ if c < 0 then -c else c))
      exact ⟨Int.lt_of_lt_of_le (by decide) b.1, Int.lt_of_le_of_lt b.2 (by decide)⟩
    -- small
    refine ⟨_, rfl, .inl ⟨_, rfl, _, _, rfl, rfl, (show (0 : Int) < _ by decide), ?_⟩⟩
    have b1 := mod_lt (x := c) (m := 2305843009213693951) (by decide)
    refine ⟨_, rfl, _, rfl, _, _, rfl, rfl, .inr ⟨by decide, by decide⟩, _, rfl, _, _, rfl, rfl, .inl ⟨by decide, by decide⟩, _, rfl, _, _, rfl, rfl, .inr ⟨by omega, by omega⟩, _, _, rfl, rfl, _, _, rfl, rfl,
      .inl ⟨_, rfl, _, _, rfl, rfl, (show (0 : Int) < _ by decide), (by show 3 ≤ sizeLine; decide), fun p hp => ?_⟩⟩
    refine k p _ hp ⟨_, _, _, upd_same, ⟨?_, ?_, ?_⟩, by decide, by decide⟩
    · have b := ite_b2i (c := decide ((10 : Int) ^ (18 : Int).toNat ≤ if c < 0 then -c else c))
      exact Int.mul_nonneg (mod_lt (by decide +kernel)).1 b.1
    · exact (mod_lt (by decide)).1
    · exact Int.lt_trans (mod_lt (by decide)).2 (by decide)
theorem ok_take (F : FunD K "_law_take" "_law_take" (defArgs s_law_take) (defBody s_law_take) (defScope s_law_take) [] [] f fd) (hm : mg "_law_take" = some (.ref f)) (T : Bl mg base) : Cal P w K mg base 1 "_law_take" spTake [] := by
  refine calD F hm sc_law_take (fun _ _ _ _ _ _ us hl => match us, hl with | [_, _], _ => rfl) (fun vs H Q E h => ?_) (fun cdv A outer s H vs Q E hr h => ?_)
  · obtain ⟨a, u, n, rfl, _⟩ := h
    rfl
  obtain ⟨a, u, n, rfl, ⟨p0, p1, p2, e, ⟨b0, b1, b1'⟩, b2, b2'⟩, hn, hu0, hu1, k⟩ := h
  refine ⟨_, (pss_cons (ps_if (pt_cmpR op_gt (pe_ix ix_seq (pv 0) pe_int (fun _ _ => rfl)) pe_int (nomark _)) (pss_cons (ps_set (i := 2) sc_law_take.nd rfl (by first | exact Or.inl rfl | exact Or.inr rfl) (pe_op op_mod (pe_callTy call_int1 (by rfl) T.int (by decide +kernel) (pa_cons (pe_ix ix_seq (pv 0) pe_int (fun _ _ => rfl)) pa_nil)) (pv 1)))
    (pss_cons (ps_asg (pe_op op_fdiv (pe_ix ix_seq (pv 0) pe_int (fun _ _ => rfl)) (pv 1)) (pg_sub (pv 0) pe_int set_list))
    (pss_one (ps_ret (pv 2))))) pss_nil)
    (pss_cons (ps_asg (pe_op op_add (pe_ix ix_seq (pv 0) pe_int (fun _ _ => rfl)) pe_int) (pg_sub (pv 0) pe_int set_list))
    (pss_cons (ps_set (i := 3) sc_law_take.nd rfl (by first | exact Or.inl rfl | exact Or.inr rfl) (pe_ix ix_seq (pe_lst (pa_cons pe_int (pa_cons pe_int (pa_cons pe_int (pa_cons pe_int (pa_cons pe_int pa_nil)))))) (pe_op op_mod (pe_callTy call_int1 (by rfl) T.int (by decide +kernel) (pa_cons (pe_ix ix_seq (pv 0) pe_int (fun _ _ => rfl)) pa_nil)) pe_int) (fun _ _ => rfl)))
    (pss_cons (ps_set (i := 4) sc_law_take.nd rfl (by first | exact Or.inl rfl | exact Or.inr rfl) (pe_op op_mod (pe_callTy call_int1 (by rfl) T.int (by decide +kernel) (pa_cons (pe_op op_pow (pe_callTy call_int1 (by rfl) T.int (by decide +kernel) (pa_cons (pe_op op_add (pe_op op_add (pe_ix ix_seq (pv 0) pe_int (fun _ _ => rfl)) (pe_op op_mul (pe_op op_mul pe_int (pe_ix ix_seq (pv 0) pe_int (fun _ _ => rfl))) (pe_ix ix_seq (pv 0) pe_int (fun _ _ => rfl)))) pe_int) pa_nil)) pe_int) pa_nil)) (pv 3)))
    (pss_one (ps_ret (pe_op op_mod (pe_callTy call_int1 (by rfl) T.int (by decide +kernel) (pa_cons (pe_op op_fdiv (pe_op op_mul (pv 4) (pe_op op_add (pe_op op_mod (pe_callTy call_int1 (by rfl) T.int (by decide +kernel) (pa_cons (pv 4) pa_nil)) pe_int) (pe_op op_mul pe_int (pe_ix ix_seq (pv 0) pe_int (fun _ _ => rfl))))) pe_int) pa_nil)) (pv 1)))))))), ?_⟩
  refine ⟨_, rfl, .inl ⟨a, _, _, _, rfl, rfl, SqL.of e, atI_of (j := 0) rfl rfl, _, _, rfl, rfl, _, rfl, ?_⟩⟩
  refine ite2 (fun hc => ?_) (fun hc => ?_)
  · -- a digit of the cell's own
    refine ⟨_, rfl, .inl ⟨a, _, _, _, rfl, rfl, SqL.of e, atI_of (j := 0) rfl rfl, .inl ⟨_, rfl, _, rfl, _, _, rfl, rfl, hu0, ?_⟩⟩⟩
    refine ⟨_, rfl, .inl ⟨a, _, _, _, rfl, rfl, SqL.of e, atI_of (j := 0) rfl rfl, _, rfl, _, _, rfl, rfl, ⟨by omega, by omega⟩, _, rfl, a, _, _, 0, rfl, rfl, e, rfl, ?_⟩⟩
    have m := mod_lt (x := p0) hu0
    exact ⟨_, rfl, k _ _ m.1 m.2 ⟨p0 / u, p1, p2, upd_same, ⟨ediv_nn b0 (by omega), b1, b1'⟩, b2, by omega⟩ KeptBut.at_⟩
  · -- a mixed number
    refine ⟨_, rfl, .inl ⟨a, _, _, _, rfl, rfl, SqL.of e, atI_of (j := 2) rfl rfl, _, _, rfl, rfl, _, rfl, a, _, _, 2, rfl, rfl, e, rfl, ?_⟩⟩
    have e1 : upd H a (.lst [.int p0, .int p1, .int (p2 + 1)]) a = some (.lst [.int p0, .int p1, .int (p2 + 1)]) := upd_same
    refine ⟨(by show 5 ≤ sizeLine; decide), fun l hl => ?_⟩
    have nla : l ≠ a := (ne_of_none e1 hl).symm
    have e2 : ∀ o, upd (upd H a (.lst [.int p0, .int p1, .int (p2 + 1)])) l o a = some (.lst [.int p0, .int p1, .int (p2 + 1)]) := fun o => by rw [upd_ne nla.symm]; exact e1
    refine ⟨_, rfl, .inl ⟨a, _, _, _, rfl, rfl, SqL.of (e2 _), atI_of (j := 2) rfl rfl, .inl ⟨_, rfl, _, _, rfl, rfl, (show (0 : Int) < _ by decide), ?_⟩⟩⟩
    have m5 := mod_lt (x := p2 + 1) (m := 5) (by decide)
    obtain ⟨v, hv, hvm⟩ := atI_lt (xs := [V.int 2147483647, V.int 2147483629, V.int 2147483587, V.int 2147483579, V.int 2147483563]) (i := (p2 + 1) % 5) m5.1 m5.2
    have hpr : ∃ q : Int, v = .int q ∧ 2147483500 < q ∧ q < 2147483648 := by
      simp only [List.mem_cons, List.not_mem_nil, or_false] at hvm
      rcases hvm with rfl | rfl | rfl | rfl | rfl <;> exact ⟨_, rfl, by decide, by decide⟩
    obtain ⟨q, rfl, hq0, hq1⟩ := hpr
    refine .inl ⟨l, _, _, _, rfl, rfl, SqL.of upd_same, hv, ?_⟩
    -- blend
    refine ⟨_, rfl, .inl ⟨a, _, _, _, rfl, rfl, SqL.of (e2 _), atI_of (j := 1) rfl rfl, _, rfl, .inl ⟨a, _, _, _, rfl, rfl, SqL.of (e2 _), atI_of (j := 2) rfl rfl, _, _, rfl, rfl, .inl ⟨by decide, by decide⟩,
      _, rfl, .inl ⟨a, _, _, _, rfl, rfl, SqL.of (e2 _), atI_of (j := 2) rfl rfl, _, _, rfl, rfl, .inr ⟨by omega, by omega⟩, _, _, rfl, rfl, _, _, rfl, rfl, .inl ⟨_, rfl, _, _, rfl, rfl, ⟨by decide, by decide, ?_⟩, .inl ⟨_, rfl, _, rfl, _, _, rfl, rfl, ?_, ?_⟩⟩⟩⟩⟩⟩
    · have b := sq_bound (c := 101233) (n := p2 + 1) (by decide) (by decide) (by omega) (by omega)
      omega
    · show (0 : Int) < q
      omega
    -- the answer
    refine ⟨_, rfl, _, rfl, .inl ⟨_, rfl, _, _, rfl, rfl, (show (0 : Int) < _ by decide), _, rfl, .inl ⟨a, _, _, _, rfl, rfl, SqL.of (e2 _), atI_of (j := 2) rfl rfl, _, _, rfl, rfl, .inl ⟨by decide, by decide⟩, _, _, rfl, rfl, _, _, rfl, rfl, .inl ?_,
      _, _, rfl, rfl, ⟨by decide, by decide⟩, .inl ⟨_, rfl, _, rfl, _, _, rfl, rfl, hu0, ?_⟩⟩⟩⟩
    · have m := mod_lt (x := (p1 + 101233 * (p2 + 1) * (p2 + 1) + 49) ^ (3 : Int).toNat) (m := q) (by omega)
      exact ⟨by omega, by omega⟩
    refine k _ _ (mod_lt hu0).1 (mod_lt hu0).2 ⟨p0, p1, p2 + 1, e2 _, ⟨b0, b1, b1'⟩, by omega, by omega⟩ fun b o hb hne => ?_
    rw [upd_ne (ne_of_none (by rw [upd_ne hne]; exact hb) hl), upd_ne hne]
    exact hb
theorem ok_of (F : FunD K "_law_of" "_law_of" (defArgs s_law_of) (defBody s_law_of) (defScope s_law_of) [] [] f fd) (hm : mg "_law_of" = some (.ref f)) (T : Bl mg base) (c_law_take : Cal P w K mg base 1 "_law_take" spTake []) : Cal P w K mg base 2 "_law_of" (spOf K) [] := by
  refine calD F hm sc_law_of (fun _ _ _ _ _ _ us hl => match us, hl with | [_, _], _ => rfl) (fun vs H Q E h => ?_) (fun cdv A outer s H vs Q E hr h => ?_)
  · obtain ⟨a, l, xs, n, rfl, _⟩ := h
    rfl
  obtain ⟨a, l, xs, n, rfl, hp, hn, nla, hS, h0, h1, k⟩ := h
  refine ⟨_, (pss_one (ps_ret (pe_ix ix_seq (pv 1) (pe_c c_law_take hr (by decide) (by rfl) (pa_cons (pv 0) (pa_cons (pe_callB call_len_seq (by rfl) T.len (by decide +kernel) (pa_cons (pv 1) pa_nil)) pa_nil))) (fun _ _ => rfl)))), ?_⟩
  refine ⟨_, rfl, _, rfl, _, rfl, l, xs, rfl, hS, a, _, n, rfl, hp, hn, by omega, by omega, fun i H' i0 i1 hp' kb => ?_⟩
  obtain ⟨v, hv, hm⟩ := atI_lt (xs := xs) i0 i1
  rcases hS with hS | hS
  · exact .inl ⟨l, _, _, _, rfl, rfl, sql_keep hS kb nla, hv, k v H' hm hp' kb⟩
  · exact .inr (.inl ⟨l, _, _, _, rfl, rfl, sqt_keep hS kb nla, hv, k v H' hm hp' kb⟩)
theorem ok_cells (F : FunD K "_law_cells" "_law_cells" (defArgs s_law_cells) (defBody s_law_cells) (defScope s_law_cells) [] [] f fd) (hm : mg "_law_cells" = some (.ref f)) (T : Bl mg base) : Cal P w K mg base 1 "_law_cells" (spCells K 6) [] := by
  refine calD F hm sc_law_cells (fun _ _ _ _ _ _ us hl => match us, hl with | [_, _], _ => rfl) (fun vs H Q E h => ?_) (fun cdv A outer s H vs Q E hr h => ?_)
  · obtain ⟨a, ns, rfl, _⟩ := h
    rfl
  obtain ⟨a, ns, rfl, hS, hl, k⟩ := h
  refine ⟨_, (pss_one (ps_ret (pe_listRg rfl (by rfl) T.list (prg_1 (by rfl) T.range (pe_callB (call_max2 rfl) (by rfl) T.max (by decide +kernel) (pa_cons pe_int (pa_cons (pe_callB (call_min2 rfl) (by rfl) T.min (by decide +kernel) (pa_cons (pv 1) (pa_cons (pe_callB call_len_seq (by rfl) T.len (by decide +kernel) (pa_cons (pv 0) pa_nil)) pa_nil))) pa_nil))))))), ?_⟩
  refine ⟨_, rfl, _, rfl, a, _, rfl, .inl hS, _, _, rfl, _, _, rfl, _, rfl, RgOk.of_le (by decide) ?_ (by decide) ?_, fun p hp => ?_⟩
  · rw [List.length_map]
    split <;> split <;> omega
  · rw [List.length_map]
    split <;> split <;> omega
  have e : ∀ n : Int, rgV 0 n = (List.range n.toNat).map fun (i : Nat) => V.int (i : Int) := fun n => by
    unfold rgV
    rw [Int.sub_zero]
    exact List.map_congr_left fun i _ => by rw [Int.zero_add]
  rw [e]
  refine k p _ hp ?_
  rw [List.length_map]
  split <;> split <;> omega
theorem ok_told {j : Nat} {ns : List Str} (F : FunD K "_law_told" "_law_told" (defArgs s_law_told) (defBody s_law_told) (defScope s_law_told) [] [] f fd) (hm : mg "_law_told" = some (.ref f)) (Z : ErrL P w K mg base ns) : CalF P w K mg base (j + 1) j "_law_told" (spTold K) := by
  refine calF F hm sc_law_told (fun _ _ _ _ _ _ us hl => match us, hl with | [_], _ => rfl) (fun tl vs H Q h => ?_) (fun cdv A outer s H vs Q g tl gd hr AC h => ?_)
  · obtain ⟨rfl, _⟩ := h
    rfl
  obtain ⟨rfl, h⟩ := h
  have M : Names (cxOf CX0 P w K mg base n_law_told "_law_told" (defScope s_law_told) f cdv A outer s H E0) "MirrorError" (.ref (He.ga K "MirrorError")) := ⟨by rfl, by decide, .inl Z.mM⟩
  refine ⟨_, pss_cons (ps_asg (pe_tup (pa_cons pe_non (pa_cons pe_non pa_nil))) (pg_tup rfl (pgs_cons (pg_name (i := 1) sc_law_told.nd rfl (Or.inl rfl)) (pgs_cons (pg_name (i := 2) sc_law_told.nd rfl (Or.inl rfl)) pgs_nil))))
    (pss_cons (ps_try_in (i := 3) rfl rfl rfl sc_law_told.nd rfl rfl M takes0 (fun W pn xe tk => pss_one (ps_set (i := 2) sc_law_told.nd rfl (Or.inl rfl) (pe_actsW (i := 0) AC rfl gd hr tk rfl (Or.inl rfl))))
      (fun a pn => pss_one (ps_set (i := 1) sc_law_told.nd rfl (Or.inl rfl) (pv 3)))) (pss_one (ps_ret (pe_tup (pa_cons (pv 1) (pa_cons (pv 2) pa_nil)))))), ?_⟩
  refine ⟨(by show 2 ≤ sizeLine; decide), fun q hq => ⟨q, _, rfl, SqT.of upd_same, rfl, _, _, rfl, _, _, rfl, rfl, rfl, _, _, fun cls d H' hE => ?_, fun v H' hQ => ?_, h _ (Same.new hq)⟩⟩
  · obtain ⟨C, e, x, k⟩ := hE
    exact ⟨true, x, fun _ => ⟨C, e, fun a na => ⟨_, rfl, _, rfl, _, rfl, (by show 2 ≤ sizeLine; decide), fun p hp => k a na p hp⟩⟩, fun z => nomatch z⟩
  · exact ⟨_, rfl, _, rfl, (by show 2 ≤ sizeLine; decide), fun p hp => hQ p hp⟩
end

end K12

namespace K12
open PySem PySem.Spec PyProof.Rows L2 Lm
open C8 (Cal Mak Met pe_c pe_mk pe_mt pe_mt0 pss_cut tCut)
open LamX (CodeO TabS Tabs ExtN TabB)
--KR 11
--NOTOP
abbrev s_MirrorError_init : Stmt := inClass (top 1) 0
abbrev n_MirrorError_init : List Str := ["self", "value"]
abbrev p_MirrorError_init : List Str := ["self", "value"]
theorem sc_MirrorError_init : FnScope n_MirrorError_init p_MirrorError_init (defScope s_MirrorError_init) := ⟨rfl, rfl, rfl, by decide +kernel, rfl, by decide +kernel, by decide +kernel⟩
abbrev s_is_name : Stmt := top 8
abbrev n_is_name : List Str := ["value"]
abbrev p_is_name : List Str := ["value"]
theorem sc_is_name : FnScope n_is_name p_is_name (defScope s_is_name) := ⟨rfl, rfl, rfl, by decide +kernel, rfl, by decide +kernel, by decide +kernel⟩
section
variable {P : Program} {w : World} {K : PySem.W.Frag} {mg : Str → Option Value} {base : Heap} {f : Addr} {fd : FuncData}
theorem ok_err_init (F : FunD K "__init__" "MirrorError.__init__" (defArgs s_MirrorError_init) (defBody s_MirrorError_init) (defScope s_MirrorError_init) [] [] f fd) : FnOk P w K mg base CX0 1 f fd ["self", "value"] (spErr K) := by
  refine F.ok sc_MirrorError_init (fun vs H Q E h => ?_) (fun cdv A outer s H vs Q E hr h => ⟨_, (pss_one (ps_ost (pv 0) (pv 1) rfl)), ?_⟩)
  · obtain ⟨a, C, v, rfl, _⟩ := h
    rfl
  obtain ⟨a, C, v, rfl, T, nv, ha, k⟩ := h
  exact ⟨_, rfl, _, rfl, a, C, rfl, T, nv, .inl ⟨ha, k⟩⟩
theorem ok_name (F : FunD K "is_name" "is_name" (defArgs s_is_name) (defBody s_is_name) (defScope s_is_name) [] [] f fd) (hm : mg "is_name" = some (.ref f)) (T : Bl mg base) : Cal P w K mg base 1 "is_name" spName [] := by
  refine calD F hm sc_is_name (fun _ _ _ _ _ _ us hl => match us, hl with | [_], _ => rfl) (fun vs H Q E h => ?_) (fun cdv A outer s H vs Q E hr h => ?_)
  · obtain ⟨x, rfl, _⟩ := h
    rfl
  obtain ⟨x, rfl, hl, q⟩ := h
  refine ⟨_, (pss_cons (ps_if (PW.pt (pw_or (pt_not (pt_val (pe_callB call_isR (by rfl) T.isinstance (by decide +kernel) (pa_cons (pv 0) (pa_cons (pe_bltn (v := .ty "str") (by rfl) T.str (by decide +kernel) rfl) pa_nil))))) (pw_or1 (pt_cmpR op_gt (pe_callB call_len (by rfl) T.len (by decide +kernel) (pa_cons (pv 0) pa_nil)) pe_int (nomark _))))) (pss_one (ps_ret pe_bl)) pss_nil)
    (pss_one (ps_ret (pe_and (pe_m0 PySem.F.slot_str_isascii PySem.F.type_str_isascii mt_isascii (pv 0)) (pe_and (pe_m0 PySem.F.slot_str_isalpha PySem.F.type_str_isalpha mt_isalpha (pv 0)) (pe_one (pe_m0 PySem.F.slot_str_islower PySem.F.type_str_islower mt_islower (pv 0)))))))), ?_⟩
  have hz : x.length ≤ sizeLine := by
    rw [sizeLine_eq]
    omega
  refine ⟨_, rfl, _, _, _, _, true, rfl, .ty _, .inl (.base (.str x)), kit_ty (by decide +kernel), true, rfl, iteF ?_⟩
  refine ⟨_, rfl, _, _, rfl, ⟨hz, rfl⟩, _, _, rfl, rfl, _, rfl, ite2 (fun h => ?_) (fun h => ?_)⟩
  · have e : nameB x = false := by
      unfold nameB
      rw [h] <;> rfl
    rw [e] at q
    exact q
  · have e : nameB x = (Txt.isascii x && (Txt.isalpha x && Txt.islower x)) := by
      unfold nameB
      rw [Bool.eq_false_iff.mpr h] <;> rfl
    rw [e] at q
    refine ⟨_, rfl, ⟨_, rfl⟩, _, rfl, rfl, trivial, _, rfl, ?_⟩
    cases h1 : Txt.isascii x with
    | false =>
      rw [h1] at q
      exact iteF q
    | true =>
      rw [h1] at q
      refine iteT ⟨_, rfl, ⟨_, rfl⟩, _, rfl, rfl, trivial, _, rfl, ?_⟩
      cases h2 : Txt.isalpha x with
      | false =>
        rw [h2] at q
        exact iteF q
      | true =>
        rw [h2] at q
        exact iteT ⟨_, rfl, ⟨_, rfl⟩, _, rfl, rfl, trivial, q⟩
end

end K12

namespace K12
open PySem PySem.Spec PyProof.Rows L2 Lm
open C8 (Cal Mak Met pe_c pe_mk pe_mt pe_mt0 pss_cut tCut)
open LamX (CodeO TabS Tabs ExtN TabB LamS lamCx lamEnv lamS_by)
--KR 11
def pR : Str × Option Str := ("_law_right", none)
def T0 (K : PySem.W.Frag) : List (Addr × Str) := [((He.cT K pR).2, (("_law_right" : Str) ++ ".<locals>.") ++ "<lambda>")]
section
variable {P : Program} {w : World} {K : PySem.W.Frag} {mg : Str → Option Value} {base : Heap} {fd : FuncData}
theorem ok_right (F : FunD K "_law_right" "_law_right" (defArgs s_law_right) (defBody s_law_right) (defScope s_law_right) [] [] (He.fAd K pR) fd) (hm : mg "_law_right" = some (.ref (He.fAd K pR))) (T : Bl mg base) (m_any : mg "any" = none) (m_enum : mg "enumerate" = none) (Z : ErrL P w K mg base errs5) (TB : TabB base mg (He.cT K pR).1 (He.cT K pR).2)
    (BC : ObC K mg "Book" ["text", "names", "mirrors", "pegs", "loose", "lines", "plan"]) (c_law_of : Cal P w K mg base 2 "_law_of" (spOf K) []) (c_law_odd : Cal P w K mg base 3 "_law_odd" spOdd []) (c_law_lore : Cal P w K mg base 4 "_law_lore" (spLore K) []) (c_law_line_text : Cal P w K mg base 1 "_law_line_text" (spLoText K) []) (c_law_text : Cal P w K mg base 2 "_law_text" (spLoreText K) []) (c_law_names_of : Cal P w K mg base 1 "_law_names_of" (spLoNames K) [])
    (c_law_told : CalF P w K mg base 11 10 "_law_told" (spTold K)) (c_mk : MakX P w K mg base 7 "Book" (He.ga K "Book") (spBkI P w K)) (c_told : MetX P w K mg base 9 (He.ga K "Book") "told" (spBkTold P w K)) (c_without : MetX P w K mg base 9 (He.ga K "Book") "without" (spWithout P w K)) : CalG P w K mg base 12 "_law_right" (spRightN (T0 K)) := by
  refine ⟨He.fAd K pR, fd, ["pot"], FnG.madeC F sc_law_right (fun vs H Q E h => ?_) (fun A outer s H vs Q E gd hr h => ?_), hm, F.kp, FunD.bindsN F (fun _ _ _ _ _ _ us hl => match us, hl with | [_], _ => rfl)⟩
  · obtain ⟨a, n, rfl, _⟩ := h
    rfl
  obtain ⟨a, n, rfl, hp, hn, hT, k⟩ := h
  refine ⟨_, PSs.nox (pss_cons (ps_set (i := 1) sc_law_right.nd rfl (by first | exact Or.inl rfl | exact Or.inr rfl) (pe_c c_law_lore hr (by decide) (by rfl) (pa_cons (pv 0) (pa_cons pe_int (pa_cons (pe_c c_law_of hr (by decide) (by rfl) (pa_cons (pv 0) (pa_cons (pe_lst (pa_cons pe_int (pa_cons pe_int (pa_cons pe_int pa_nil)))) pa_nil))) pa_nil)))))
    (pss_cons (ps_asg (pe_tup (pa_cons (pe_mkX c_mk passL hr (by decide) (by rfl) (pa_cons (pe_c c_law_text hr (by decide) (by rfl) (pa_cons (pv 1) pa_nil)) pa_nil)) (pa_cons (pe_c c_law_names_of hr (by decide) (by rfl) (pa_cons (pv 1) (pa_cons pe_str pa_nil))) pa_nil))) (pg_tup rfl (pgs_cons (pg_name (i := 2) sc_law_right.nd rfl (by first | exact Or.inl rfl | exact Or.inr rfl)) (pgs_cons (pg_name (i := 3) sc_law_right.nd rfl (by first | exact Or.inl rfl | exact Or.inr rfl)) pgs_nil))))
    (pss_cons (ps_for PassesOwn.never rfl (pi_enum (by rfl) m_enum (pa_cons (pv 3) pa_nil)) (pg_tup rfl (pgs_cons (pg_name (i := 4) sc_law_right.nd rfl (by first | exact Or.inl rfl | exact Or.inr rfl)) (pgs_cons (pg_name (i := 5) sc_law_right.nd rfl (by first | exact Or.inl rfl | exact Or.inr rfl)) pgs_nil)))
    (pss_cons (ps_asg (pe_lamF (T := T0 K) c_law_told gd hr (by decide) (by rfl) TB rfl (List.mem_singleton.mpr rfl) (fun p hp _ => by rw [List.mem_singleton.mp hp] <;> rfl) (lamS_by (show LamX.lamSB (defScope s_law_right) _ = true by decide +kernel)) rfl (fun _ _ _ _ _ => rfl) (fun _ _ _ _ E _ _ gd' hr' => (pe_mtX (pl := plainOf _ _) (ht := mcall_of rfl (fun _ => mcall_line rfl rfl)) c_without lam_passM hr' (by decide) (pv 2) (pa_cons (pv 5) pa_nil))) pa_nil) (pg_tup rfl (pgs_cons (pg_name (i := 6) sc_law_right.nd rfl (by first | exact Or.inl rfl | exact Or.inr rfl)) (pgs_cons (pg_name (i := 7) sc_law_right.nd rfl (by first | exact Or.inl rfl | exact Or.inr rfl)) pgs_nil))))
    (pss_one (ps_if (pt_val (pe_callB (cr_any rfl) (by rfl) m_any (by decide +kernel) (pa_cons (pe_lc (own := [("line", 8)]) (g := (gName 8)) (tt := tYes) rfl sc_law_right.nd (pi_list (pv 1)) (blkOk_by (own := [("line", 8)]) (N := n_law_right) (sc := defScope s_law_right) (by decide +kernel)) (fun _ _ _ _ _ => (pg_name (i := 8) sc_law_right.nd rfl (by first | exact Or.inl rfl | exact Or.inr rfl))) (fun _ _ _ _ _ => pts_nil) (fun _ _ _ _ _ => (pe_cmpR (op_in_seqP K) (pv 5) (pe_ix (ix_seqP K) (pv 8) pe_int (fun _ _ => rfl)) (by rfl)))) pa_nil))) (pss_one (ps_if (PW.pt (pw_or (pt_not (pt_val (pe_callB call_isR (by rfl) T.isinstance (by decide +kernel) (pa_cons (pv 6) (pa_cons (pe_glob (v := .ref (He.ga K "Used")) (by rfl) (Z.m (x := "Used") (by decide +kernel)) rfl) pa_nil))))) (pw_or1 (pt_cmpR op_ne (pe_exR (pv 6) rfl) (pv 5) (nomark _))))) (pss_one (ps_ret pe_bl)) pss_nil)) (pss_one (ps_if (pt_cmpR op_eq (pe_callB call_len_seq (by rfl) T.len (by decide +kernel) (pa_cons (pv 1) pa_nil)) pe_int (nomark _)) (pss_one (ps_if (PW.pt (pw_or (pt_not (pt_val (pe_callB call_isR (by rfl) T.isinstance (by decide +kernel) (pa_cons (pv 6) (pa_cons (pe_glob (v := .ref (He.ga K "Few")) (by rfl) (Z.m (x := "Few") (by decide +kernel)) rfl) pa_nil))))) (pw_or1 (pt_cmpR op_ne (pe_callB (call_reprD gd hr.units T.mods) (by rfl) T.repr (by decide +kernel) (pa_cons (pe_exR (pv 6) rfl) pa_nil)) pe_str (nomark _))))) (pss_one (ps_ret pe_bl)) pss_nil)) (pss_cons (ps_if (PW.pt (pw_or (pt_cmpR op_notN (pv 6) pe_non (nomark _)) (pw_or1 (pt_cmpR op_ne (pe_fld (pv 7) rfl) (pe_c c_law_text hr (by decide) (by rfl) (pa_cons (pe_op op_cat (pe_slice sl_list (pv 1) po_none (po_some (pv 4))) (pe_slice sl_list (pv 1) (po_some (pe_op op_add (pv 4) pe_int)) po_none)) pa_nil)) (nomark _))))) (pss_one (ps_ret pe_bl)) pss_nil)
    (pss_cons (ps_set (i := 9) sc_law_right.nd rfl (by first | exact Or.inl rfl | exact Or.inr rfl) (pe_mtX (pl := plainOf _ _) (ht := mcall_of rfl (fun _ => mcall_line rfl rfl)) c_told passL hr (by decide) (pv 7) (pa_cons (pe_c c_law_line_text hr (by decide) (by rfl) (pa_cons (pe_ix ix_seq (pv 1) (pv 4) (fun _ _ => rfl)) pa_nil)) pa_nil)))
    (pss_cons (ps_set (i := 10) sc_law_right.nd rfl (by first | exact Or.inl rfl | exact Or.inr rfl) (pe_op op_cat (pe_slice sl_list (pv 1) po_none (po_some (pv 4))) (pe_slice sl_list (pv 1) (po_some (pe_op op_add (pv 4) pe_int)) po_none)))
    (pss_one (ps_if (pt_cmpR op_ne (pe_fld (pv 9) rfl) (pe_c c_law_text hr (by decide) (by rfl) (pa_cons (pe_op op_cat (pv 10) (pe_slice sl_list (pv 1) (po_some (pv 4)) (po_some (pe_op op_add (pv 4) pe_int)))) pa_nil)) (nomark _)) (pss_one (ps_ret pe_bl)) pss_nil)))))))))))
    (pss_cons (ps_for PassesOwn.never rfl (pi_list (pe_lst (pa_cons pe_str (pa_cons pe_str (pa_cons pe_non (pa_cons pe_int (pa_cons (pv 3) (pa_cons (pe_tup (pa_cons (pe_ix ix_seq (pv 3) pe_int (fun _ _ => rfl)) pa_nil)) (pa_cons (pe_c c_law_odd hr (by decide) (by rfl) (pa_cons (pv 0) pa_nil)) pa_nil))))))))) (pg_name (i := 11) sc_law_right.nd rfl (by first | exact Or.inl rfl | exact Or.inr rfl))
    (pss_one (ps_if (pt_cmpR (op_notInT2 (units1 hr)) (pv 11) (pv 3) (by rfl)) (pss_cons (ps_set (i := 6) sc_law_right.nd rfl (by first | exact Or.inl rfl | exact Or.inr rfl) (pe_ix ix_seq (pe_lamF (T := T0 K) c_law_told gd hr (by decide) (by rfl) TB rfl (List.mem_singleton.mpr rfl) (fun p hp _ => by rw [List.mem_singleton.mp hp] <;> rfl) (lamS_by (show LamX.lamSB (defScope s_law_right) _ = true by decide +kernel)) rfl (fun _ _ _ _ _ => rfl) (fun _ _ _ _ E _ _ gd' hr' => (pe_mtX (pl := plainOf _ _) (ht := mcall_of rfl (fun _ => mcall_line rfl rfl)) c_without lam_passM hr' (by decide) (pv 2) (pa_cons (pv 11) pa_nil))) pa_nil) pe_int (fun _ _ => rfl)))
    (pss_one (ps_if (PW.pt (pw_or (pt_not (pt_val (pe_callB call_isR (by rfl) T.isinstance (by decide +kernel) (pa_cons (pv 6) (pa_cons (pe_glob (v := .ref (He.ga K "NoName")) (by rfl) (Z.m (x := "NoName") (by decide +kernel)) rfl) pa_nil))))) (pw_or1 (pt_cmpR op_ne (pe_callB (call_reprD gd hr.units T.mods) (by rfl) T.repr (by decide +kernel) (pa_cons (pe_exR (pv 6) rfl) pa_nil)) (pe_callB (call_reprD gd hr.units T.mods) (by rfl) T.repr (by decide +kernel) (pa_cons (pv 11) pa_nil)) (nomark _))))) (pss_one (ps_ret pe_bl)) pss_nil))) pss_nil)))
    (pss_one (ps_ret (pe_cmpR op_eq (pe_fld (pv 2) rfl) (pe_c c_law_text hr (by decide) (by rfl) (pa_cons (pv 1) pa_nil)) (nomark _)))))))), ?_⟩
  -- lore
  refine ⟨_, rfl, _, rfl, (by show 3 ≤ sizeLine; decide), fun l0 hl0 => ⟨a, l0, _, n, rfl, hp.new hl0, by omega, hp.ne hl0, .inl (SqL.of upd_same), by decide, by decide, fun v H1 hv hp1 kb1 => ?_⟩⟩
  have hv' : ∃ m : Nat, v = .int m ∧ 1 ≤ m ∧ m ≤ 12 := by
    simp only [List.mem_cons, List.not_mem_nil, or_false] at hv
    rcases hv with rfl | rfl | rfl
    · exact ⟨1, rfl, by decide, by decide⟩
    · exact ⟨4, rfl, by decide, by decide⟩
    · exact ⟨12, rfl, by decide, by decide⟩
  obtain ⟨m, rfl, m1, m12⟩ := hv'
  refine ⟨a, n + 1, 1, m, rfl, hp1, by omega, m1, m12, fun H2 L as ls kb2 hL hp2 eL hls vb np l1 l2 => ?_⟩
  have t2 : Tabs (T0 K) H2 := tabs_pot (tabs_pot (tabs_same hT (Same.new hl0)) kb1 (hp.new hl0)) kb2 hp1
  have k2 : KeptT a H H2 := ((KeptT.same (Same.new hl0)).trans (KeptT.but kb1)).trans (KeptT.but kb2)
  have nL : L ≠ a := hp1.ne hL
  have n12 := vb.n
  have ne : ls ≠ [] := fun z => by
    rw [z] at l1
    exact absurd l1 (by decide)
  -- made, names
  dsimp only
  refine seq_ofL (asg_pairL ?_)
  refine ⟨_, rfl, L, as, ls, rfl, SqL.of eL, hls, vb, fun H3 s3 => mk_book vb ne fun H4 B s4 hB bk => ?_⟩
  have s24 := s3.trans s4
  refine ⟨_, rfl, L, as, ls, none, rfl, SqL.of (s24 _ _ eL), hls.same s24, n12, fun H5 N s5 hN eN => ⟨(by show 2 ≤ sizeLine; decide), fun q hq => unpackP upd_same ?_⟩⟩
  rw [names_none] at eN
  have s26 : Same H2 (upd H5 q (.tup [.ref B, .ref N])) := (s24.trans s5).trans (Same.new hq)
  have bk6 := (bk.same s5).same (Same.new (o := .tup [.ref B, .ref N]) hq)
  have eN6 := Same.new (o := .tup [.ref B, .ref N]) hq _ _ eN
  generalize upd H5 q (.tup [.ref B, .ref N]) = H6 at s26 bk6 eN6 ⊢
  have hp6 : PotAt H6 a (n + 201) := (hp2.keep fun o e => s26 _ _ e).mono (by omega)
  have t6 := tabs_same t2 s26
  have k6 : KeptT a H H6 := k2.trans (KeptT.same s26)
  have hls6 := hls.same s26
  have eL6 := s26 _ _ eL
  have nN : N ≠ a := fun z => by
    have := (hp2.keep fun o e => s24 _ _ e).ne hN
    exact this z
  -- the names
  dsimp only
  refine seq_ofL ⟨_, rfl, N, _, rfl, SqL.of eN6, ?_⟩
  refine for_it walk_enum (fun i σ H' => ∃ s4 s5 s6 s7 s8 s9 s10 s11, σ = [some (.ref a), some (.ref L), some (.ref B), some (.ref N), s4, s5, s6, s7, s8, s9, s10, s11] ∧ KeptT a H6 H' ∧ Tabs (T0 K) H' ∧ PotAt H' a (n + 201))
    ⟨_, _, _, _, _, _, _, _, rfl, KeptT.refl, t6, hp6⟩ (fun _ _ _ _ ⟨_, _, _, _, _, _, _, _, _, kk, _, _⟩ => SqL.of (kk.lst eN6 nN)) ?_ ?_
  · rintro i x σ G1 G2 hi ⟨s4, s5, s6, s7, s8, s9, s10, s11, rfl, kk, tt, pp⟩ ⟨T1, y1, y2, rfl, hT0, rfl, e1, e2⟩
    cases e1
    obtain ⟨nm, hnm, rfl⟩ := map_at e2
    obtain ⟨l, hl, rfl⟩ : ∃ l, ls[i]? = some l ∧ l.name = nm := by
      unfold namesS at hnm
      rw [List.getElem?_map] at hnm
      exact Option.map_eq_some_iff.mp hnm
    have hpG := pp.new (o := .tup [V.int (i : Nat), V.str l.name]) hT0
    have tG := tabs_same tt (Same.new (o := .tup [V.int (i : Nat), V.str l.name]) hT0)
    have kG : KeptT a H6 (upd G1 T1 (.tup [V.int (i : Nat), V.str l.name])) := kk.trans (KeptT.same (Same.new hT0))
    refine unpackP upd_same ?_
    generalize upd G1 T1 (.tup [V.int (i : Nat), V.str l.name]) = G at hpG tG kG ⊢
    have bkG := bk6.keptT kG hp6
    have hlsG := hls6.tk (hp6.tkT kG)
    have eLG := kG.lst eL6 nL
    have lal := hls.1
    have il : i < ls.length := (List.getElem?_eq_some_iff.mp hl).1
    dsimp only
    by_cases us : ∃ l' ∈ ls, l.name ∈ l'.oth
    · -- used
      refine seq_ofL (asg_oneL (told_wo Z (x := "Used") (u := .str l.name) (by decide +kernel) tG rfl rfl hpG bkG vb (.inl rfl) (.inr ⟨i, l, rfl, hl, .inl ⟨us, rfl, rfl⟩⟩) fun e p G3 x3 t3 e3 er => unpackP e3 ?_))
      have hp3 := hpG.ext x3
      have k3 := kG.trans (ext_kept x3)
      dsimp only
      refine if_isL (any_other (own := [8]) rfl rfl (by decide) (by decide) (Nat.lt_of_lt_of_eq (by decide : 8 < 12) rfl) (SqL.of (k3.lst eL6 nL)) (hls6.tk (hp6.tkT k3)) n12 (fun _ => rfl) fun G4 s4 => ?_)
      rw [show (ls.any fun x => decide (l.name ∈ x.oth)) = true from List.any_eq_true.mpr (by obtain ⟨l', h1, h2⟩ := us; exact ⟨l', h1, decide_eq_true h2⟩)]
      refine iteT (if_isL (or_ofL (err_is Z (by decide +kernel) (er.same s4) rfl (iteF (test_ofL (op_ofL (err_val Z (by decide +kernel) (er.same s4) rfl ⟨_, rfl, rfl, _, rfl, ?_⟩)))))))
      rw [decide_eq_true rfl]
      exact iteF ⟨_, _, _, _, _, _, _, _, rfl, k3.trans (KeptT.same s4), tabs_same t3 s4, hp3.keep fun o e => s4 _ _ e⟩
    have no : ∀ l' ∈ ls, l.name ∉ l'.oth := fun l' h z => us ⟨l', h, z⟩
    have anyF : (ls.any fun x => decide (l.name ∈ x.oth)) = false := by
      rw [List.any_eq_false]
      intro l' hl'
      rw [decide_eq_false (no l' hl')]
      exact Bool.false_ne_true
    by_cases one : ls.length = 1
    · -- few
      refine seq_ofL (asg_oneL (told_wo Z (x := "Few") (u := .int 1) (by decide +kernel) tG rfl rfl hpG bkG vb (.inl rfl) (.inr ⟨i, l, rfl, hl, .inr ⟨no, one, rfl, rfl⟩⟩) fun e p G3 x3 t3 e3 er => unpackP e3 ?_))
      have hp3 := hpG.ext x3
      have k3 := kG.trans (ext_kept x3)
      dsimp only
      refine if_isL (any_other (own := [8]) rfl rfl (by decide) (by decide) (Nat.lt_of_lt_of_eq (by decide : 8 < 12) rfl) (SqL.of (k3.lst eL6 nL)) (hls6.tk (hp6.tkT k3)) n12 (fun _ => rfl) fun G4 s4 => ?_)
      rw [anyF]
      have eL4 := s4 _ _ (k3.lst eL6 nL)
      refine iteF (if_isL ⟨_, rfl, L, _, rfl, .inl (SqL.of eL4), rfl, _, rfl, ?_⟩)
      rw [List.length_map, lal, one, show decide (V.int ((1 : Nat) : Int) = V.int 1) = true from decide_eq_true rfl]
      refine iteT (if_isL (or_ofL (err_is Z (by decide +kernel) (er.same s4) rfl (iteF (test_ofL (op_ofL (cb_ofL (err_val Z (by decide +kernel) (er.same s4) rfl (repr_int1 ⟨rfl, _, rfl, ?_⟩)))))))))
      rw [decide_eq_true rfl]
      exact iteF ⟨_, _, _, _, _, _, _, _, rfl, k3.trans (KeptT.same s4), tabs_same t3 s4, hp3.keep fun o e => s4 _ _ e⟩
    · -- without it, and with it behind
      have ve := vb.erase hl no
      have vbb := vb.behind hl no
      have l12 : (ls.eraseIdx i).length ≤ 11 := by
        rw [List.length_eraseIdx_of_lt il]
        omega
      have ene : ls.eraseIdx i ≠ [] := fun z => by
        have := congrArg List.length z
        rw [List.length_eraseIdx_of_lt il] at this
        have : ls.length - 1 = 0 := this
        omega
      obtain ⟨ai, hai⟩ : ∃ ai, as[i]? = some ai := ⟨_, List.getElem?_eq_getElem (by omega)⟩
      refine seq_ofL (asg_oneL (told_wi tG rfl rfl hpG bkG vb rfl hl no one fun r p G3 x3 t3 e3 bk3 => unpackP e3 ?_))
      have hp3 := hpG.ext x3
      have k3 := kG.trans (ext_kept x3)
      dsimp only
      refine if_isL (any_other (own := [8]) rfl rfl (by decide) (by decide) (Nat.lt_of_lt_of_eq (by decide : 8 < 12) rfl) (SqL.of (k3.lst eL6 nL)) (hls6.tk (hp6.tkT k3)) n12 (fun _ => rfl) fun G4 s4 => ?_)
      rw [anyF]
      have k4 := k3.trans (KeptT.same s4)
      have eL4 := k4.lst eL6 nL
      have hls4 := hls6.tk (hp6.tkT k4)
      refine iteF (if_isL ⟨_, rfl, L, _, rfl, .inl (SqL.of eL4), rfl, _, rfl, ?_⟩)
      rw [List.length_map, lal, decide_eq_false (show ¬ V.int (ls.length : Nat) = V.int 1 from fun z => one (by injection z with z; omega))]
      refine iteF ?_
      have bk4 := bk3.same s4
      obtain ⟨dr, q1, q2, q3, q4, q5, pl, md, fd', as', hr4, _⟩ := id bk4
      refine seq_ofL (if_isL (or_ofL ⟨_, rfl, rfl, _, rfl, ?_⟩))
      rw [decide_eq_true rfl]
      refine iteF ⟨_, rfl, r, _, dr, _, _, rfl, hr4, BC.cl, BC.na _ (by decide), rfl, ?_⟩
      have a12 : as.length ≤ 12 := by omega
      have ia : i < as.length := by omega
      refine sl_erase (k := i) rfl rfl (SqL.of eL4) a12 ia fun G5 R5 s5 hR5 e5 => ?_
      refine ⟨R5, as.eraseIdx i, ls.eraseIdx i, rfl, SqL.of e5, (hls4.same s5).erase i, ve, fun G6 s6 => ⟨rfl, _, rfl, ?_⟩⟩
      rw [decide_eq_true rfl]
      refine iteF ?_
      have s46 := s5.trans s6
      have eL6' := s46 _ _ eL4
      -- again
      dsimp only [tNext]
      refine seq_ofL (asg_oneL ⟨_, rfl, r, dr, _, rfl, s46 _ _ hr4, rfl, _, rfl, _, rfl, .inl ⟨L, _, _, _, rfl, rfl, SqL.of eL6', atI_of (j := i) rfl (by rw [List.getElem?_map, hai]; rfl), ai, l, nsS (ls.take i), rfl, (hls4.same s46).2 i ai l hai hl, (vb.ok i l hl).1, vb.nm l (List.mem_of_getElem? hl), fun G7 s7 => ⟨r, ls.eraseIdx i, l, rfl, (bk4.same s46).same s7, ene, vbb, fun G8 u s8 hu bk8 => ?_⟩⟩⟩)
      have s48 := (s46.trans s7).trans s8
      have eL8 := s48 _ _ eL4
      -- rest
      dsimp only
      refine seq_ofL (asg_oneL (sl_erase (k := i) rfl rfl (SqL.of eL8) a12 ia fun G9 R9 s9 hR9 e9 => ?_))
      have s49 := s48.trans s9
      have bk9 := bk8.same s9
      obtain ⟨du, q1, q2, q3, q4, q5, pl, md, fd', as', hu9, _⟩ := id bk9
      dsimp only
      refine if_isL (test_ofL (op_ofL ⟨_, rfl, u, _, du, _, _, rfl, hu9, BC.cl, BC.na _ (by decide), rfl, ?_⟩))
      refine sl_snoc (k := i) rfl rfl rfl (SqL.of (s49 _ _ eL4)) e9 (by rw [List.length_eraseIdx_of_lt ia]; omega) hai fun G10 R10 s10 hR10 e10 => ?_
      have s410 := s49.trans s10
      refine ⟨R10, as.eraseIdx i ++ [ai], ls.eraseIdx i ++ [l], rfl, SqL.of e10, ((hls4.same s410).erase i).snoc ((hls4.same s410).2 i ai l hai hl), vbb, fun G11 s11 => ⟨rfl, _, rfl, ?_⟩⟩
      rw [decide_eq_true rfl]
      have sall := s4.trans (s410.trans s11)
      exact iteF ⟨_, _, _, _, _, _, _, _, rfl, k3.trans (KeptT.same sall), tabs_same t3 sall, hp3.keep fun o e => sall _ _ e⟩
  · rintro σ G1 ⟨s4, s5, s6, s7, s8, s9, s10, s11, rfl, kk, tt, pp⟩
    have eN1 := kk.lst eN6 nN
    obtain ⟨nm0, hnm0⟩ : ∃ nm0, (namesS ls)[0]? = some nm0 := ⟨_, List.getElem?_eq_getElem (by unfold namesS; rw [List.length_map]; exact l1)⟩
    have nl12 : (namesS ls).length ≤ 12 := by
      unfold namesS
      rw [List.length_map]
      exact n12
    have nps : ∀ x ∈ namesS ls, x ∈ poolS := fun x hx => by
      obtain ⟨l, hl, rfl⟩ := List.mem_map.mp hx
      exact np l hl
    dsimp only
    refine seq_ofL ⟨_, rfl, _, rfl, .inl ⟨N, _, _, _, rfl, rfl, SqL.of eN1, atI_of (j := 0) rfl (by rw [List.getElem?_map, hnm0]; rfl), (by show 1 ≤ sizeLine; decide), fun U hU => ?_⟩⟩
    have s1U : Same G1 (upd G1 U (.tup [.str nm0])) := Same.new hU
    have eU : (upd G1 U (.tup [.str nm0])) U = some (.tup [.str nm0]) := upd_same
    have ppU := pp.new (o := .tup [.str nm0]) hU
    have ttU := tabs_same tt s1U
    have eNU := s1U _ _ eN1
    generalize upd G1 U (.tup [.str nm0]) = G2 at s1U eU ppU ttU eNU ⊢
    refine ⟨_, rfl, a, n + 201, rfl, ppU, by omega, fun v G3 hp3 kb3 sm => ?_⟩
    refine ⟨(by show 7 ≤ sizeLine; decide), fun W hW => ⟨W, rfl, ⟨_, SqL.of upd_same⟩, ?_⟩⟩
    have nUa : U ≠ a := pp.ne hU
    have s3W : Same G3 (upd G3 W (.lst [.str "nobody", .str "", .non, .int 0, .ref N, .ref U, v])) := Same.new hW
    have eW : (upd G3 W (.lst [.str "nobody", .str "", .non, .int 0, .ref N, .ref U, v])) W = some (.lst [.str "nobody", .str "", .non, .int 0, .ref N, .ref U, v]) := upd_same
    have eNW := s3W _ _ (kb3 N _ eNU nN)
    have eUW := s3W _ _ (kb3 U _ eU nUa)
    have smW : Sm 40 3 (upd G3 W (.lst [.str "nobody", .str "", .non, .int 0, .ref N, .ref U, v])) v := (sm.same fresh_sub).same s3W
    have hpW := hp3.new (o := .lst [.str "nobody", .str "", .non, .int 0, .ref N, .ref U, v]) hW
    have ttW := tabs_same (tabs_pot ttU kb3 ppU) s3W
    have kW : KeptT a H6 (upd G3 W (.lst [.str "nobody", .str "", .non, .int 0, .ref N, .ref U, v])) := ((kk.trans (KeptT.same s1U)).trans (KeptT.but kb3)).trans (KeptT.same s3W)
    generalize upd G3 W (.lst [.str "nobody", .str "", .non, .int 0, .ref N, .ref U, v]) = G4 at eW eNW eUW smW hpW ttW kW ⊢
    have all : ∀ u ∈ ([.str "nobody", .str "", .non, .int 0, .ref N, .ref U, v] : List V), Sm 1000 4 G4 u := by
      have strS : ∀ x ∈ poolS, Sm 40 0 G4 (.str x) := fun x hx => sm_flat (.str x) 40 0 rfl (Nat.zero_le _) (shown_pool x hx)
      intro u hu
      simp only [List.mem_cons, List.not_mem_nil, or_false] at hu
      rcases hu with rfl | rfl | rfl | rfl | rfl | rfl | rfl
      · exact sm_flat (.str _) _ _ rfl (Nat.zero_le _) (by decide +kernel)
      · exact sm_flat (.str _) _ _ rfl (Nat.zero_le _) (by decide +kernel)
      · exact sm_flat .non _ _ rfl (Nat.zero_le _) (by decide +kernel)
      · exact sm_flat (.int 0) _ _ (by decide +kernel) (Nat.zero_le _) (by decide +kernel)
      · refine (Sm.lst (B := 40) (k := 0) eNW fun y hy => ?_).mono ?_ (by decide)
        · obtain ⟨x, hx, rfl⟩ := List.mem_map.mp hy
          exact strS x (nps x hx)
        · rw [List.length_map]
          omega
      · refine (Sm.tup (B := 40) (k := 0) eUW fun y hy => ?_).mono (show (40 + 2) * 1 + 3 ≤ 1000 by decide) (by decide)
        rw [List.mem_singleton.mp hy]
        exact strS _ (nps _ (List.mem_of_getElem? hnm0))
      · exact smW.mono (by decide) (by decide)
    refine for_it walk_list (fun i σ H' => ∃ s4 s5 s6 s7 s8 s9 s10 s11, σ = [some (.ref a), some (.ref L), some (.ref B), some (.ref N), s4, s5, s6, s7, s8, s9, s10, s11] ∧ ExtN G4 H' ∧ Tabs (T0 K) H')
      ⟨_, _, _, _, _, _, _, _, rfl, ExtN.refl _, ttW⟩ (fun _ _ _ _ ⟨_, _, _, _, _, _, _, _, _, x, _⟩ => SqL.of (x _ _ eW fun _ z => nomatch z)) ?_ ?_
    · rintro i u σ G5 G6 hi ⟨s4, s5, s6, s7, s8, s9, s10, s11, rfl, x5, t5⟩ ⟨rfl, hu⟩
      have su := (all u (List.mem_of_getElem? hu)).ext x5
      have eN5 := x5 _ _ eNW fun _ z => nomatch z
      refine if_isL (test_ofL (op_ofL ⟨_, rfl, _, rfl, ?_⟩))
      by_cases hin : ∃ x, u = .str x ∧ x ∈ namesS ls
      · exact in_says (b := true) (.inl (SqL.of eN5)) su.con ⟨fun _ => rfl, fun _ => hin⟩ ⟨_, rfl, iteF ⟨_, _, _, _, _, _, _, _, rfl, x5, t5⟩⟩
      refine in_says (b := false) (.inl (SqL.of eN5)) su.con ⟨fun z => absurd z hin, fun z => nomatch z⟩ ⟨_, rfl, iteT ?_⟩
      have hp5 := hpW.ext x5
      have k5 := kW.trans (ext_kept x5)
      dsimp only
      refine seq_ofL (asg_oneL (op_ofL (told_wo Z (x := "NoName") (u := u) (by decide +kernel) t5 rfl rfl hp5 (bk6.keptT k5 hp6) vb su.con (.inl ⟨fun x ex hx => hin ⟨x, ex, hx⟩, rfl, rfl⟩) fun e p G7 x7 t7 e7 er => ?_)))
      refine .inr (.inl ⟨p, _, _, _, rfl, rfl, SqT.of e7, atI_of (j := 0) rfl rfl, ?_⟩)
      obtain ⟨d, w1, w2, w3, w4⟩ := su.ext x7
      have big : d.shown.length ≤ sizeLine := by
        rw [sizeLine_eq]
        omega
      dsimp only
      refine if_isL (or_ofL (err_is Z (by decide +kernel) er rfl (iteF (test_ofL (op_ofL (cb_ofL (err_val Z (by decide +kernel) er rfl ⟨u, d, rfl, w1, w2, by omega, big, _, rfl, u, d, rfl, w1, w2, by omega, big, rfl, _, rfl, ?_⟩)))))))
      rw [decide_eq_true rfl]
      exact iteF ⟨_, _, _, _, _, _, _, _, rfl, x5.trans x7, t7⟩
    · rintro σ G5 ⟨s4, s5, s6, s7, s8, s9, s10, s11, rfl, x5, t5⟩
      have k5 := kW.trans (ext_kept x5)
      obtain ⟨db, q1, q2, q3, q4, q5, pl, md, fd', as', hb5, _⟩ := bk6.keptT k5 hp6
      have hls5 := hls6.tk (hp6.tkT k5)
      refine ⟨_, rfl, B, _, db, _, _, rfl, hb5, BC.cl, BC.na _ (by decide), rfl, _, rfl, L, as, ls, rfl, SqL.of (k5.lst eL6 nL), hls5, vb, fun G6 s6 => ⟨rfl, ?_⟩⟩
      rw [decide_eq_true rfl]
      exact k G6 ((k6.trans k5).trans (KeptT.same s6)) (tabs_same t5 s6) (((hpW.ext x5).keep fun o e => s6 _ _ e).mono (by omega))
end
end K12

namespace K12
open PySem PySem.Spec PyProof.Rows L2 Lm
open C8 (Cal Mak Met pe_c pe_mk pe_mt pe_mt0 pss_cut tCut)
open LamX (CodeO TabS Tabs ExtN TabB LamS lamCx lamEnv lamS_by)
--KR 11
section
variable {P : Program} {w : World} {K : PySem.W.Frag} {mg : Str → Option Value} {base : Heap} {f : Addr} {fd : FuncData}
/-- the law: its right def says True three times of every cell -/
theorem ok_law {T0 : List (Addr × Str)} (F : FunD K "law" "law" (defArgs s_law) (defBody s_law) (defScope s_law) [] [] f fd) (hm : mg "law" = some (.ref f)) (T : Bl mg base) (c_law_pot : Cal P w K mg base 1 "_law_pot" (spPot K) []) (c_law_cells : Cal P w K mg base 1 "_law_cells" (spCells K 6) [])
    (c_law_right : CalG P w K mg base 12 "_law_right" (spRightN T0)) : FnG P w K mg base CX0 13 f fd ["script"] (spLawT K T0) := by
  refine FnG.made F sc_law (fun vs H Q E h => ?_) (fun cdv A outer s H vs Q E gd hr h => ?_)
  · obtain ⟨a, ns, rfl, _⟩ := h
    rfl
  obtain ⟨a, ns, rfl, hS, hl, hT, k⟩ := h
  refine ⟨_, PSs.nox (pss_cons (ps_for PassesOwn.never rfl (pi_list (pe_c c_law_cells hr (by decide) (by rfl) (pa_cons (pv 0) (pa_cons pe_int pa_nil)))) (pg_name (i := 1) sc_law.nd rfl (by first | exact Or.inl rfl | exact Or.inr rfl))
    (pss_cons (ps_set (i := 2) sc_law.nd rfl (by first | exact Or.inl rfl | exact Or.inr rfl) (pe_c c_law_pot hr (by decide) (by rfl) (pa_cons (pv 0) (pa_cons (pv 1) pa_nil))))
    (pss_one (ps_if (pt_not (pt_val (pe_callB (cr_all rfl) (by rfl) T.all (by decide +kernel) (pa_cons (pe_lc (own := [("lap", 3)]) (g := (gName 3)) (tt := tYes) rfl sc_law.nd (pi_range1 (by rfl) T.range (pa_cons pe_int pa_nil)) (blkOk_by (own := [("lap", 3)]) (N := n_law) (sc := defScope s_law) (by decide +kernel)) (fun _ _ _ _ _ => (pg_name (i := 3) sc_law.nd rfl (by first | exact Or.inl rfl | exact Or.inr rfl))) (fun _ _ _ _ _ => pts_nil) (fun _ _ _ _ _ => (pe_cG c_law_right gd hr (by decide) (by rfl) (pa_cons (pv 2) pa_nil)))) pa_nil)))) (pss_one (ps_ret pe_bl)) pss_nil))))
    (pss_one (ps_ret pe_bl))), ?_⟩
  refine ⟨_, rfl, a, ns, rfl, hS.seq, by omega, fun p m hp hm => ?_⟩
  refine ⟨p, rfl, ⟨_, SqL.of upd_same⟩, ?_⟩
  have sp0 : Same H (upd H p (.lst ((List.range m).map fun (i : Nat) => V.int (i : Int)))) := Same.new hp
  refine for_it walk_list (fun i σ H' => ∃ c d e, σ = [some (.ref a), c, d, e] ∧ ScL K H' a (ns.map V.int) ∧ H' p = some (.lst ((List.range m).map fun (i : Nat) => V.int (i : Int))) ∧ Tabs T0 H')
    ⟨_, _, _, rfl, hS.new hp, upd_same, tabs_same hT sp0⟩ (fun _ _ _ _ ⟨_, _, _, _, _, h, _⟩ => SqL.of h) ?_ ?_
  · rintro i x σ H1 H2 hi ⟨c, d, e, rfl, h1, h2, t1⟩ ⟨rfl, hu⟩
    rw [List.length_map, List.length_range] at hi
    have ex : x = V.int (i : Int) := by
      rw [List.getElem?_map, List.getElem?_range hi] at hu
      exact (Option.some.inj hu).symm
    subst ex
    refine ⟨_, rfl, _, rfl, a, ns, i, rfl, h1.seq, by omega, fun q o hq hpot => ?_⟩
    have pn : ∀ ob u, upd H2 q o q ≠ some (.frz ob u) := fun ob u z => by
      obtain ⟨_, _, _, e, _⟩ := hpot
      rw [e] at z
      cases z
    have nqp : p ≠ q := ne_of_none h2 hq
    have t2 := tabs_same t1 (Same.new (o := o) hq)
    have h1q := h1.new (o := o) hq
    have h2q : upd H2 q o p = some (.lst ((List.range m).map fun (i : Nat) => V.int (i : Int))) := by
      rw [upd_ne nqp]
      exact h2
    generalize upd H2 q o = H3 at hpot pn t2 h1q h2q ⊢
    dsimp only
    refine if_isL ⟨3, rfl, by decide, by decide, fun D hD => ?_⟩
    have nDq : D ≠ q := hpot.ne hD
    refine lc_range (lo := 0) (n := (3 : Int).toNat) (fun j H' => KeptT q H3 H' ∧ PotAt H' q (1000 * j) ∧ Tabs T0 H' ∧ ∃ bs : List Bool, H' D = some (.lst (bs.map V.bl)) ∧ bs.all id = true ∧ bs.length = j)
      ⟨KeptT.same (Same.new hD), hpot.new hD, tabs_same t2 (Same.new hD), [], upd_same, rfl, rfl⟩ ?_ ?_
    · rintro j H4 hj ⟨k4, p4, t4, bs, e4, b4, l4⟩
      have hj : j < 3 := hj
      refine ⟨rfl, yes_if ⟨_, rfl, q, 1000 * j, rfl, p4, by omega, t4, fun H5 k5 t5 p5 => ?_⟩⟩
      have e5 := k5.lst e4 nDq
      refine ⟨_, e5, ?_, fun b o e nb nt => ?_, ?_, tabs_put t5 e5, bs ++ [true], by rw [List.map_append]; exact upd_same, by rw [List.all_append, b4]; rfl, by rw [List.length_append, l4]; rfl⟩
      · rw [List.length_map, l4, sizeLine_eq]
        omega
      · rw [upd_ne (ne_of_none e hD)]
        exact k5 b o (k4 b o e nb nt) nb nt
      · have := p5.keep (H' := upd H5 D (.lst (bs.map V.bl ++ [V.bl true]))) fun o e => by rw [upd_ne nDq.symm]; exact e
        exact this.mono (by omega)
    · rintro H4 ⟨k4, p4, t4, bs, e4, b4, l4⟩
      refine ⟨D, bs, rfl, SqL.of e4, _, rfl, ?_⟩
      rw [b4]
      exact iteF ⟨_, _, _, rfl, h1q.keptT k4 pn, k4.lst h2q nqp, t4⟩
  · rintro σ H1 ⟨c, d, e, rfl, h1, h2, t1⟩
    exact k _
end

end K12

namespace K12
open PySem PySem.Spec PyProof.Rows L2 Lm
open LamX (CodeO TabS Tabs ExtN TabB)
/-! ### the head -/
abbrev dd (x : Str) (s : Stmt) : He.DefD := ⟨(x, none), x, x, defArgs s, defBody s, defScope s, [], []⟩
abbrev dm (c m q : Str) (s : Stmt) : He.DefD := ⟨(c, some m), m, q, defArgs s, defBody s, defScope s, [], []⟩
def dI : He.DefD := ⟨("MirrorError", some "__init__"), "__init__", "MirrorError.__init__", defArgs s_MirrorError_init, defBody s_MirrorError_init, defScope s_MirrorError_init, [], []⟩
def fn : List He.DefD := ([dI, dd "is_name" s_is_name, dd "_law_pot" s_law_pot, dd "_law_take" s_law_take, dd "_law_of" s_law_of, dd "_law_cells" s_law_cells, dd "_law_told" s_law_told, dd "added" s_added, dd "taken" s_taken, dd "contrary_powers" s_contrary_powers, dd "without_nothing" s_without_nothing, dd "summed" s_summed, dd "negated" s_negated, dd "halved" s_halved, dd "flipped" s_flipped, dd "turned" s_turned, dm "Move" "__init__" "Move.__init__" s_Move_init, dd "joined" s_joined, dd "kind_of" s_kind_of, dm "Plan" "__init__" "Plan.__init__" s_Plan_init] : List He.DefD) ++ (([dd "no_powers" s_no_powers, dd "spin_of" s_spin_of, dd "move_by" s_move_by, dd "mirror_through" s_mirror_through, dd "mirror_of" s_mirror_of, dd "peg_of" s_peg_of, dd "move_of" s_move_of, dd "flips_of" s_flips_of, dd "is_loose" s_is_loose, dd "plan_of" s_plan_of, dd "row_of" s_row_of, dm "Line" "__init__" "Line.__init__" s_Line_init, dd "signs_for" s_signs_for, dd "are_like" s_are_like, dd "line_of" s_line_of, dd "has_names" s_has_names, dd "is_of_row" s_is_of_row, dd "has_new_name" s_has_new_name, dd "are_few" s_are_few, dd "fitting_lines" s_fitting_lines] : List He.DefD) ++ (([dm "Book" "__init__" "Book.__init__" s_Book_init, dd "_law_line_text" s_law_line_text, dd "_law_text" s_law_text, dd "_law_names_of" s_law_names_of, dd "_law_some" s_law_some, dd "_law_names" s_law_names, dd "_law_odd" s_law_odd, dd "_law_forms" s_law_forms, dd "_law_further_line" s_law_further_line, dd "_law_lore" s_law_lore, dm "Book" "told" "Book.told" s_Book_told, dm "Book" "without" "Book.without" s_Book_without, dd "_law_right" s_law_right, dd "law" s_law] : List He.DefD)))
def gloNames : List Str := (["MirrorError", "BadBook", "BadLine", "NoName", "Used", "Few", "Line", "Move", "Plan", "Book", "FORMS", "WANTED", "ASKED", "is_name", "_law_pot", "_law_take", "_law_of", "_law_cells", "_law_told", "added"] : List Str) ++ ((["taken", "contrary_powers", "without_nothing", "summed", "negated", "halved", "flipped", "turned", "joined", "kind_of", "no_powers", "spin_of", "move_by", "mirror_through", "mirror_of", "peg_of", "move_of", "flips_of", "is_loose", "plan_of"] : List Str) ++ ((["row_of", "signs_for", "are_like", "line_of", "has_names", "is_of_row", "has_new_name", "are_few", "fitting_lines", "_law_line_text", "_law_text", "_law_names_of", "_law_some", "_law_names", "_law_odd", "_law_forms", "_law_further_line", "_law_lore", "_law_right", "law"] : List Str)))
def looseNames : List Str := (["MirrorError", "BadBook", "NoName", "BadLine", "Used", "Few", "is_name", "MOST_LINES", "MOST_LOOSE", "MOST_ROWS", "MOST_IN_ROW", "FORMS", "WANTED", "Line", "row_of", "line_of", "signs_for", "are_like", "is_loose", "is_of_row"] : List Str) ++ ((["has_new_name", "has_names", "are_few", "fitting_lines", "UNIT", "Move", "added", "taken", "contrary_powers", "without_nothing", "summed", "negated", "halved", "flipped", "turned", "joined", "kind_of", "ASKED", "Plan", "plan_of"] : List Str) ++ ((["move_by", "spin_of", "no_powers", "move_of", "mirror_of", "mirror_through", "peg_of", "flips_of", "Book", "_law_pot", "_law_take", "_law_of", "_law_some", "_law_cells", "_law_told", "_law_odd", "_law_line_text", "_law_text", "_law_names_of", "_law_names"] : List Str) ++ ((["_law_forms", "_law_further_line", "_law_lore", "_law_right"] : List Str))))
def freeN : List Str := ["ValueError", "abs", "all", "any", "bool", "enumerate", "int", "isinstance", "len", "list", "max", "min", "range", "repr", "reversed", "set", "str", "tuple", "zip"]
def clsFa : List He.Fa := ([.int "UNIT" 4096, .int "MOST_IN_ROW" 6, .int "MOST_LOOSE" 5, .int "MOST_ROWS" 3, .int "MOST_LINES" 12, .cls "Line", .noat "Line" "text", .noat "Line" "form", .noat "Line" "word", .noat "Line" "name", .noat "Line" "others", .noat "Line" "wanted", .noat "Line" "row", .mkr "Line", .cls "Move", .noat "Move" "over", .noat "Move" "sign", .noat "Move" "powers", .noat "Move" "shares", .mkr "Move"] : List He.Fa) ++ (([.cls "Plan", .noat "Plan" "loose", .noat "Plan" "moves", .noat "Plan" "flips", .mkr "Plan", .cls "Book", .noat "Book" "text", .noat "Book" "names", .noat "Book" "mirrors", .noat "Book" "pegs", .noat "Book" "loose", .noat "Book" "lines", .noat "Book" "plan", .meth "Book" "told", .meth "Book" "without", .mkr "Book"] : List He.Fa))
def fa : List He.Fa := gloNames.map He.Fa.glo ++ (freeN.map He.Fa.free ++ clsFa)
def dv_FORMS : List (Str × He.Dv) := [("mirror NAME", .str "any"), ("mirror NAME through P", .str "through"), ("mirror NAME along A through P", .str "along"), ("mirror NAME across A through P", .str "across"), ("mirror NAME from A in B", .str "from"), ("mirror NAME is ROW", .str "is"), ("peg NAME", .str "any"), ("peg NAME on A", .str "on"), ("peg NAME from P in A", .str "from"), ("peg NAME from P about Q", .str "about"), ("peg NAME amid P Q", .str "amid"), ("peg NAME is ROW", .str "is")]
def dv_WANTED : List (Str × He.Dv) := [("A", .str "mirror"), ("B", .str "mirror"), ("P", .str "peg"), ("Q", .str "peg"), ("ROW", .str "")]
def dv_ASKED : List (Str × He.Dv) := [("mirror", .str "mirroring"), ("peg", .str "half turn")]
def exB (K : PySem.W.Frag) : Bool := errLB K errs5 && (He.valsB K (He.ga K "FORMS") dv_FORMS && (He.valsB K (He.ga K "WANTED") dv_WANTED && (He.valsB K (He.ga K "ASKED") dv_ASKED)))
def tbs : List He.Tab := [((fun K => He.ga K "FORMS"), dv_FORMS.map (·.1)), ((fun K => He.ga K "WANTED"), dv_WANTED.map (·.1)), ((fun K => He.ga K "ASKED"), dv_ASKED.map (·.1))]
abbrev R : PySem.W.OpenRow := PySem.W.OpenLaw.row PySem.Challenge.rw_loosemirrors_k12_lines_left_out
abbrev hk : PySem.W.Hook := He.hookX 4 fa fn tbs [pR] exB
def ob (s : PySem.W.SharedT) : He.AlX := He.obsX 4 fa fn tbs [pR] exB (HandSHeadRun.getT s)
theorem ob_eq (s : PySem.W.SharedT) : ob s = hk.obs s.abs := He.obsX_eq (HandSHeadRun.getT_eq s)
theorem run_true (w : World) : HandSHeadRun.RunEq R (PySem.W.view R.prog [71]) hk ob 40000 looseNames (w.withFollow "special-get-raises" true) := by
  intro os
  kernel_rfl
theorem run_false (w : World) : HandSHeadRun.RunEq R (PySem.W.view R.prog [71]) hk ob 40000 looseNames (w.withFollow "special-get-raises" false) := by
  intro os
  kernel_rfl
theorem run (w : World) : HandSHeadRun.RunEq R (PySem.W.view R.prog [71]) hk ob 40000 looseNames w := by
  have h : ∀ (b : Bool) (w : World), HandSHeadRun.RunEq R (PySem.W.view R.prog [71]) hk ob 40000 looseNames (w.withFollow "special-get-raises" b) := fun b w => by
    cases b with
    | true => exact run_true w
    | false => exact run_false w
  have z := h (w.params.followText "special-get-raises") w
  rwa [World.withFollow_self] at z
theorem facts {P : Program} {w : World} {K : PySem.W.Frag} {h : Heap} {mg : Str → Option Value} {f : Addr} (X : K.In h) (G : h.Ns mainGlobals mg) (hfa : mg ("law" : Str) = some (.ref f)) (ct : He.SaysT fa fn tbs w K) (hx : exB K = true) :
    ∃ fd : FuncData, (∀ (s : Shared) (v : Value), BindsTo s fd ⟨[v], []⟩ [("script", v)]) ∧ ∀ base : Heap, LawHeap K mg base → (∀ p ∈ [He.cT K pR], TabB base mg p.1 p.2) → FnG P w K mg base CX0 13 f fd ["script"] (spLawT K (T0 K)) := by
  have c := ct.d
  have gl : ∀ {x : Str}, x ∈ gloNames → mg x = some (.ref (He.ga K x)) := fun {x} hx => He.glo_ok X G (c.facts (by
    unfold fa
    exact List.mem_append_left _ (List.mem_map.mpr ⟨x, hx, rfl⟩)))
  have fr : ∀ {x : Str}, x ∈ freeN → mg x = none := fun {x} hx => He.free_ok X G (c.facts (by
    unfold fa
    exact List.mem_append_right _ (List.mem_append_left _ (List.mem_map.mpr ⟨x, hx, rfl⟩))))
  have cf : ∀ {y : He.Fa} (i : Nat), clsFa[i]? = some y → y.ok K = true := fun {y} i hy => c.facts (by
    unfold fa
    exact List.mem_append_right _ (List.mem_append_right _ (List.mem_of_getElem? hy)))
  obtain ⟨hx0, hy1⟩ := He.ba hx
  obtain ⟨hx1, hy2⟩ := He.ba hy1
  obtain ⟨hx2, hx3⟩ := He.ba hy2
  obtain ⟨fd0, F0⟩ := c.def_ 0 (d := dI) rfl
  obtain ⟨fd1, F1⟩ := c.def_ 1 (d := dd "is_name" s_is_name) rfl
  obtain ⟨fd2, F2⟩ := c.def_ 2 (d := dd "_law_pot" s_law_pot) rfl
  obtain ⟨fd3, F3⟩ := c.def_ 3 (d := dd "_law_take" s_law_take) rfl
  obtain ⟨fd4, F4⟩ := c.def_ 4 (d := dd "_law_of" s_law_of) rfl
  obtain ⟨fd5, F5⟩ := c.def_ 5 (d := dd "_law_cells" s_law_cells) rfl
  obtain ⟨fd6, F6⟩ := c.def_ 6 (d := dd "_law_told" s_law_told) rfl
  obtain ⟨fd7, F7⟩ := c.def_ 7 (d := dd "added" s_added) rfl
  obtain ⟨fd8, F8⟩ := c.def_ 8 (d := dd "taken" s_taken) rfl
  obtain ⟨fd9, F9⟩ := c.def_ 9 (d := dd "contrary_powers" s_contrary_powers) rfl
  obtain ⟨fd10, F10⟩ := c.def_ 10 (d := dd "without_nothing" s_without_nothing) rfl
  obtain ⟨fd11, F11⟩ := c.def_ 11 (d := dd "summed" s_summed) rfl
  obtain ⟨fd12, F12⟩ := c.def_ 12 (d := dd "negated" s_negated) rfl
  obtain ⟨fd13, F13⟩ := c.def_ 13 (d := dd "halved" s_halved) rfl
  obtain ⟨fd14, F14⟩ := c.def_ 14 (d := dd "flipped" s_flipped) rfl
  obtain ⟨fd15, F15⟩ := c.def_ 15 (d := dd "turned" s_turned) rfl
  obtain ⟨fd16, F16⟩ := c.def_ 16 (d := dm "Move" "__init__" "Move.__init__" s_Move_init) rfl
  obtain ⟨fd17, F17⟩ := c.def_ 17 (d := dd "joined" s_joined) rfl
  obtain ⟨fd18, F18⟩ := c.def_ 18 (d := dd "kind_of" s_kind_of) rfl
  obtain ⟨fd19, F19⟩ := c.def_ 19 (d := dm "Plan" "__init__" "Plan.__init__" s_Plan_init) rfl
  obtain ⟨fd20, F20⟩ := c.def_ 20 (d := dd "no_powers" s_no_powers) rfl
  obtain ⟨fd21, F21⟩ := c.def_ 21 (d := dd "spin_of" s_spin_of) rfl
  obtain ⟨fd22, F22⟩ := c.def_ 22 (d := dd "move_by" s_move_by) rfl
  obtain ⟨fd23, F23⟩ := c.def_ 23 (d := dd "mirror_through" s_mirror_through) rfl
  obtain ⟨fd24, F24⟩ := c.def_ 24 (d := dd "mirror_of" s_mirror_of) rfl
  obtain ⟨fd25, F25⟩ := c.def_ 25 (d := dd "peg_of" s_peg_of) rfl
  obtain ⟨fd26, F26⟩ := c.def_ 26 (d := dd "move_of" s_move_of) rfl
  obtain ⟨fd27, F27⟩ := c.def_ 27 (d := dd "flips_of" s_flips_of) rfl
  obtain ⟨fd28, F28⟩ := c.def_ 28 (d := dd "is_loose" s_is_loose) rfl
  obtain ⟨fd29, F29⟩ := c.def_ 29 (d := dd "plan_of" s_plan_of) rfl
  obtain ⟨fd30, F30⟩ := c.def_ 30 (d := dd "row_of" s_row_of) rfl
  obtain ⟨fd31, F31⟩ := c.def_ 31 (d := dm "Line" "__init__" "Line.__init__" s_Line_init) rfl
  obtain ⟨fd32, F32⟩ := c.def_ 32 (d := dd "signs_for" s_signs_for) rfl
  obtain ⟨fd33, F33⟩ := c.def_ 33 (d := dd "are_like" s_are_like) rfl
  obtain ⟨fd34, F34⟩ := c.def_ 34 (d := dd "line_of" s_line_of) rfl
  obtain ⟨fd35, F35⟩ := c.def_ 35 (d := dd "has_names" s_has_names) rfl
  obtain ⟨fd36, F36⟩ := c.def_ 36 (d := dd "is_of_row" s_is_of_row) rfl
  obtain ⟨fd37, F37⟩ := c.def_ 37 (d := dd "has_new_name" s_has_new_name) rfl
  obtain ⟨fd38, F38⟩ := c.def_ 38 (d := dd "are_few" s_are_few) rfl
  obtain ⟨fd39, F39⟩ := c.def_ 39 (d := dd "fitting_lines" s_fitting_lines) rfl
  obtain ⟨fd40, F40⟩ := c.def_ 40 (d := dm "Book" "__init__" "Book.__init__" s_Book_init) rfl
  obtain ⟨fd41, F41⟩ := c.def_ 41 (d := dd "_law_line_text" s_law_line_text) rfl
  obtain ⟨fd42, F42⟩ := c.def_ 42 (d := dd "_law_text" s_law_text) rfl
  obtain ⟨fd43, F43⟩ := c.def_ 43 (d := dd "_law_names_of" s_law_names_of) rfl
  obtain ⟨fd44, F44⟩ := c.def_ 44 (d := dd "_law_some" s_law_some) rfl
  obtain ⟨fd45, F45⟩ := c.def_ 45 (d := dd "_law_names" s_law_names) rfl
  obtain ⟨fd46, F46⟩ := c.def_ 46 (d := dd "_law_odd" s_law_odd) rfl
  obtain ⟨fd47, F47⟩ := c.def_ 47 (d := dd "_law_forms" s_law_forms) rfl
  obtain ⟨fd48, F48⟩ := c.def_ 48 (d := dd "_law_further_line" s_law_further_line) rfl
  obtain ⟨fd49, F49⟩ := c.def_ 49 (d := dd "_law_lore" s_law_lore) rfl
  obtain ⟨fd50, F50⟩ := c.def_ 50 (d := dm "Book" "told" "Book.told" s_Book_told) rfl
  obtain ⟨fd51, F51⟩ := c.def_ 51 (d := dm "Book" "without" "Book.without" s_Book_without) rfl
  obtain ⟨fd52, F52⟩ := c.def_ 52 (d := dd "_law_right" s_law_right) rfl
  obtain ⟨fd53, F53⟩ := c.def_ 53 (d := dd "law" s_law) rfl
  have e := hfa.symm.trans (gl (x := "law") (by decide +kernel))
  cases e
  have b := FunD.bindsA (ps := ["script"]) F53 fun _ _ _ _ _ _ us hl => match us, hl with | [_], _ => rfl
  have b_MirrorError_init := FunD.bindsN (ps := ["self", "value"]) F0 fun _ _ _ _ _ _ us hl => match us, hl with | [_, _], _ => rfl
  have b_Move_init := FunD.bindsN (ps := ["self", "over", "sign", "powers", "shares"]) F16 fun _ _ _ _ _ _ us hl => match us, hl with | [_, _, _, _, _], _ => rfl
  have b_Plan_init := FunD.bindsN (ps := ["self", "loose"]) F19 fun _ _ _ _ _ _ us hl => match us, hl with | [_, _], _ => rfl
  have b_Line_init := FunD.bindsN (ps := ["self", "text", "form", "words", "signs"]) F31 fun _ _ _ _ _ _ us hl => match us, hl with | [_, _, _, _, _], _ => rfl
  have b_Book_init := FunD.bindsN (ps := ["self", "text"]) F40 fun _ _ _ _ _ _ us hl => match us, hl with | [_, _], _ => rfl
  have b_Book_told := FunD.bindsN (ps := ["self", "line"]) F50 fun _ _ _ _ _ _ us hl => match us, hl with | [_, _], _ => rfl
  have b_Book_without := FunD.bindsN (ps := ["self", "name"]) F51 fun _ _ _ _ _ _ us hl => match us, hl with | [_, _], _ => rfl
  refine ⟨fd53, fun s v => b s [v] rfl, fun base LH TBs => ?_⟩
  have T : Bl mg base := bl_of (fun {x} hx => fr (by
    have z : ∀ x ∈ freeNames, x ∈ freeN := by decide +kernel
    exact z x hx)) LH.mods
  have I_UNIT : ∃ u, mg "UNIT" = some u ∧ L2.RelV (.int 4096) u := by
    obtain ⟨t, ht⟩ := He.int_ok X G (cf (y := .int "UNIT" 4096) 0 rfl)
    exact ⟨_, ht, t, rfl⟩
  have I_MOST_IN_ROW : ∃ u, mg "MOST_IN_ROW" = some u ∧ L2.RelV (.int 6) u := by
    obtain ⟨t, ht⟩ := He.int_ok X G (cf (y := .int "MOST_IN_ROW" 6) 1 rfl)
    exact ⟨_, ht, t, rfl⟩
  have I_MOST_LOOSE : ∃ u, mg "MOST_LOOSE" = some u ∧ L2.RelV (.int 5) u := by
    obtain ⟨t, ht⟩ := He.int_ok X G (cf (y := .int "MOST_LOOSE" 5) 2 rfl)
    exact ⟨_, ht, t, rfl⟩
  have I_MOST_ROWS : ∃ u, mg "MOST_ROWS" = some u ∧ L2.RelV (.int 3) u := by
    obtain ⟨t, ht⟩ := He.int_ok X G (cf (y := .int "MOST_ROWS" 3) 3 rfl)
    exact ⟨_, ht, t, rfl⟩
  have I_MOST_LINES : ∃ u, mg "MOST_LINES" = some u ∧ L2.RelV (.int 12) u := by
    obtain ⟨t, ht⟩ := He.int_ok X G (cf (y := .int "MOST_LINES" 12) 4 rfl)
    exact ⟨_, ht, t, rfl⟩
  have D_FORMS : KTab K w (He.ga K "FORMS") (dv_FORMS.map fun q => (q.1, q.2.v K)) := ktab_of (tab_at ct 0 (t := ((fun K => He.ga K "FORMS"), dv_FORMS.map (·.1))) rfl) hx1
  have D_WANTED : KTab K w (He.ga K "WANTED") (dv_WANTED.map fun q => (q.1, q.2.v K)) := ktab_of (tab_at ct 1 (t := ((fun K => He.ga K "WANTED"), dv_WANTED.map (·.1))) rfl) hx2
  have D_ASKED : KTab K w (He.ga K "ASKED") (dv_ASKED.map fun q => (q.1, q.2.v K)) := ktab_of (tab_at ct 2 (t := ((fun K => He.ga K "ASKED"), dv_ASKED.map (·.1))) rfl) hx3
  have O_Line : ObC K mg "Line" ["text", "form", "word", "name", "others", "wanted", "row"] := ⟨gl (by decide +kernel), He.cls_ok (cf (y := .cls "Line") 5 rfl), fun f hf => by
    simp only [List.mem_cons, List.not_mem_nil, or_false] at hf
    rcases hf with rfl | rfl | rfl | rfl | rfl | rfl | rfl
    · exact He.noat_ok (cf (y := .noat "Line" "text") 6 rfl)
    · exact He.noat_ok (cf (y := .noat "Line" "form") 7 rfl)
    · exact He.noat_ok (cf (y := .noat "Line" "word") 8 rfl)
    · exact He.noat_ok (cf (y := .noat "Line" "name") 9 rfl)
    · exact He.noat_ok (cf (y := .noat "Line" "others") 10 rfl)
    · exact He.noat_ok (cf (y := .noat "Line" "wanted") 11 rfl)
    · exact He.noat_ok (cf (y := .noat "Line" "row") 12 rfl)⟩
  have mk_Line := He.mkr_ok (cf (y := .mkr "Line") 13 rfl)
  have O_Move : ObC K mg "Move" ["over", "sign", "powers", "shares"] := ⟨gl (by decide +kernel), He.cls_ok (cf (y := .cls "Move") 14 rfl), fun f hf => by
    simp only [List.mem_cons, List.not_mem_nil, or_false] at hf
    rcases hf with rfl | rfl | rfl | rfl
    · exact He.noat_ok (cf (y := .noat "Move" "over") 15 rfl)
    · exact He.noat_ok (cf (y := .noat "Move" "sign") 16 rfl)
    · exact He.noat_ok (cf (y := .noat "Move" "powers") 17 rfl)
    · exact He.noat_ok (cf (y := .noat "Move" "shares") 18 rfl)⟩
  have mk_Move := He.mkr_ok (cf (y := .mkr "Move") 19 rfl)
  have O_Plan : ObC K mg "Plan" ["loose", "moves", "flips"] := ⟨gl (by decide +kernel), He.cls_ok (cf (y := .cls "Plan") 20 rfl), fun f hf => by
    simp only [List.mem_cons, List.not_mem_nil, or_false] at hf
    rcases hf with rfl | rfl | rfl
    · exact He.noat_ok (cf (y := .noat "Plan" "loose") 21 rfl)
    · exact He.noat_ok (cf (y := .noat "Plan" "moves") 22 rfl)
    · exact He.noat_ok (cf (y := .noat "Plan" "flips") 23 rfl)⟩
  have mk_Plan := He.mkr_ok (cf (y := .mkr "Plan") 24 rfl)
  have O_Book : ObC K mg "Book" ["text", "names", "mirrors", "pegs", "loose", "lines", "plan"] := ⟨gl (by decide +kernel), He.cls_ok (cf (y := .cls "Book") 25 rfl), fun f hf => by
    simp only [List.mem_cons, List.not_mem_nil, or_false] at hf
    rcases hf with rfl | rfl | rfl | rfl | rfl | rfl | rfl
    · exact He.noat_ok (cf (y := .noat "Book" "text") 26 rfl)
    · exact He.noat_ok (cf (y := .noat "Book" "names") 27 rfl)
    · exact He.noat_ok (cf (y := .noat "Book" "mirrors") 28 rfl)
    · exact He.noat_ok (cf (y := .noat "Book" "pegs") 29 rfl)
    · exact He.noat_ok (cf (y := .noat "Book" "loose") 30 rfl)
    · exact He.noat_ok (cf (y := .noat "Book" "lines") 31 rfl)
    · exact He.noat_ok (cf (y := .noat "Book" "plan") 32 rfl)⟩
  have mk_Book := He.mkr_ok (cf (y := .mkr "Book") 35 rfl)
  have m_Book_told := He.meth_ok (cf (y := .meth "Book" "told") 33 rfl)
  have m_Book_without := He.meth_ok (cf (y := .meth "Book" "without") 34 rfl)
  have Z : ErrL P w K mg base errs5 := errLB_ok hx0 (fun {x} hx => gl (by
    have z : ∀ x ∈ errs5, x ∈ gloNames := by decide +kernel
    exact z x hx)) (gl (by decide +kernel)) (ok_err_init F0) b_MirrorError_init
  have c_is_name := ok_name (P := P) (w := w) (base := base) F1 (gl (x := "is_name") (by decide +kernel)) T
  have c_law_pot := ok_pot (P := P) (w := w) (base := base) F2 (gl (x := "_law_pot") (by decide +kernel)) T
  have c_law_take := ok_take (P := P) (w := w) (base := base) F3 (gl (x := "_law_take") (by decide +kernel)) T
  have c_law_of := ok_of (P := P) (w := w) (base := base) F4 (gl (x := "_law_of") (by decide +kernel)) T c_law_take
  have c_law_cells := ok_cells (P := P) (w := w) (base := base) F5 (gl (x := "_law_cells") (by decide +kernel)) T
  have c_law_told := ok_told (P := P) (w := w) (base := base) (j := 10) F6 (gl (x := "_law_told") (by decide +kernel)) Z
  have c_added := ok_added (P := P) (w := w) (base := base) F7 (gl (x := "added") (by decide +kernel)) T (fr (x := "zip") (by decide +kernel))
  have c_taken := ok_taken (P := P) (w := w) (base := base) F8 (gl (x := "taken") (by decide +kernel)) T (fr (x := "zip") (by decide +kernel))
  have c_contrary_powers := ok_contrary (P := P) (w := w) (base := base) F9 (gl (x := "contrary_powers") (by decide +kernel)) T
  have c_without_nothing := ok_wn (P := P) (w := w) (base := base) F10 (gl (x := "without_nothing") (by decide +kernel)) T
  have c_summed := ok_summed (P := P) (w := w) (base := base) F11 (gl (x := "summed") (by decide +kernel)) T c_without_nothing
  have c_negated := ok_negated (P := P) (w := w) (base := base) F12 (gl (x := "negated") (by decide +kernel)) T
  have c_halved := ok_halved (P := P) (w := w) (base := base) F13 (gl (x := "halved") (by decide +kernel)) T
  have c_flipped := ok_flipped (P := P) (w := w) (base := base) F14 (gl (x := "flipped") (by decide +kernel)) T I_UNIT c_without_nothing c_taken
  have c_turned := ok_turned (P := P) (w := w) (base := base) F15 (gl (x := "turned") (by decide +kernel)) T c_added
  have f_Move_init := ok_Move_init (P := P) (w := w) (base := base) F16 O_Move
  have c_Move : C8.Mak P w K mg base 1 "Move" (He.ga K "Move") (spMvI K) [] := ⟨_, _, _, _, mk_Move, f_Move_init, O_Move.m, b_Move_init, .nil⟩
  have c_joined := ok_joined (P := P) (w := w) (base := base) F17 (gl (x := "joined") (by decide +kernel)) T (fr (x := "reversed") (by decide +kernel)) O_Move c_Move c_without_nothing c_added c_taken c_flipped c_turned
  have c_kind_of := ok_kind_of (P := P) (w := w) (base := base) F18 (gl (x := "kind_of") (by decide +kernel)) T (fr (x := "any") (by decide +kernel)) O_Move c_joined
  have f_Plan_init := ok_Plan_init (P := P) (w := w) (base := base) F19 O_Plan
  have c_Plan : C8.Mak P w K mg base 1 "Plan" (He.ga K "Plan") (spPlI P w K) [] := ⟨_, _, _, _, mk_Plan, f_Plan_init, O_Plan.m, b_Plan_init, .nil⟩
  have c_no_powers := ok_no_powers (P := P) (w := w) (base := base) F20 (gl (x := "no_powers") (by decide +kernel)) T O_Plan
  have c_spin_of := ok_spin_of (P := P) (w := w) (base := base) F21 (gl (x := "spin_of") (by decide +kernel)) T O_Plan
  have c_move_by := ok_move_by (P := P) (w := w) (base := base) F22 (gl (x := "move_by") (by decide +kernel)) T O_Plan c_joined
  have c_mirror_through := ok_mirror_through (P := P) (w := w) (base := base) F23 (gl (x := "mirror_through") (by decide +kernel)) T O_Plan O_Move c_Move c_flipped c_turned c_summed c_negated c_halved
  have c_mirror_of := ok_mirror_of (P := P) (w := w) (base := base) F24 (gl (x := "mirror_of") (by decide +kernel)) T O_Plan O_Move O_Line I_UNIT c_Move c_spin_of c_no_powers c_mirror_through
  have c_peg_of := ok_peg_of (P := P) (w := w) (base := base) F25 (gl (x := "peg_of") (by decide +kernel)) T O_Plan O_Move O_Line I_UNIT c_Move c_no_powers c_summed c_halved
  have c_move_of := ok_move_of (P := P) (w := w) (base := base) F26 (gl (x := "move_of") (by decide +kernel)) T O_Line c_move_by c_mirror_of c_peg_of
  have c_flips_of := ok_flips_of (P := P) (w := w) (base := base) F27 (gl (x := "flips_of") (by decide +kernel)) T O_Plan O_Move O_Line I_UNIT c_spin_of c_no_powers c_contrary_powers c_turned c_summed c_negated
  have c_is_loose := ok_is_loose (P := P) (w := w) (base := base) F28 (gl (x := "is_loose") (by decide +kernel)) T O_Line
  have c_plan_of := ok_plan_of (P := P) (w := w) (base := base) F29 (gl (x := "plan_of") (by decide +kernel)) T O_Plan O_Move O_Line (gl (x := "ASKED") (by decide +kernel)) (D_ASKED.dct (by simp [dv_ASKED, He.Dv.v])) (D_ASKED.dct (by simp [dv_ASKED, He.Dv.v])) c_Plan c_is_loose c_flips_of c_move_of c_kind_of
  have c_row_of := ok_row_of (P := P) (w := w) (base := base) F30 (gl (x := "row_of") (by decide +kernel)) T
  have f_Line_init := ok_Line_init (P := P) (w := w) (base := base) F31 T (fr (x := "zip") (by decide +kernel)) O_Line (gl (x := "WANTED") (by decide +kernel)) D_WANTED c_row_of
  have c_Line : C8.Mak P w K mg base 2 "Line" (He.ga K "Line") (spLnI K) [] := ⟨_, _, _, _, mk_Line, f_Line_init, O_Line.m, b_Line_init, .nil⟩
  have c_signs_for := ok_signs_for (P := P) (w := w) (base := base) F32 (gl (x := "signs_for") (by decide +kernel)) T I_MOST_IN_ROW
  have c_are_like := ok_are_like (P := P) (w := w) (base := base) F33 (gl (x := "are_like") (by decide +kernel)) T (fr (x := "zip") (by decide +kernel)) (fr (x := "all") (by decide +kernel)) c_is_name
  have c_line_of := ok_line_of (P := P) (w := w) (base := base) F34 (gl (x := "line_of") (by decide +kernel)) T (gl (x := "FORMS") (by decide +kernel)) D_FORMS c_signs_for c_are_like c_Line
  have c_has_names := ok_has_names (P := P) (w := w) (base := base) F35 (gl (x := "has_names") (by decide +kernel)) T (fr (x := "zip") (by decide +kernel)) (fr (x := "all") (by decide +kernel)) (fr (x := "set") (by decide +kernel)) O_Line
  have c_is_of_row := ok_is_of_row (P := P) (w := w) (base := base) F36 (gl (x := "is_of_row") (by decide +kernel)) T O_Line
  have c_has_new_name := ok_has_new_name (P := P) (w := w) (base := base) F37 (gl (x := "has_new_name") (by decide +kernel)) T O_Line c_has_names (by decide)
  have c_are_few := ok_are_few (P := P) (w := w) (base := base) F38 (gl (x := "are_few") (by decide +kernel)) T I_MOST_LOOSE I_MOST_ROWS c_is_loose c_is_of_row
  have c_fitting_lines := ok_fitting_lines (P := P) (w := w) (base := base) F39 (gl (x := "fitting_lines") (by decide +kernel)) T O_Line I_MOST_LINES c_line_of c_has_new_name c_are_few
  have f_Book_init := ok_bookI (P := P) (w := w) (base := base) F40 T Z O_Book O_Plan O_Line c_fitting_lines c_plan_of
  have c_mkBook : MakX P w K mg base 7 "Book" (He.ga K "Book") (spBkI P w K) := ⟨_, _, _, mk_Book, f_Book_init, O_Book.m, b_Book_init⟩
  have c_law_line_text := ok_line_text (P := P) (w := w) (base := base) F41 (gl (x := "_law_line_text") (by decide +kernel)) T
  have c_law_text := ok_law_text (P := P) (w := w) (base := base) F42 (gl (x := "_law_text") (by decide +kernel)) T c_law_line_text
  have c_law_names_of := ok_names_of (P := P) (w := w) (base := base) F43 (gl (x := "_law_names_of") (by decide +kernel)) T
  have c_law_some := ok_some (P := P) (w := w) (base := base) F44 (gl (x := "_law_some") (by decide +kernel)) T c_law_take
  have c_law_names := ok_names (P := P) (w := w) (base := base) F45 (gl (x := "_law_names") (by decide +kernel)) T c_law_some
  have c_law_odd := ok_odd (P := P) (w := w) (base := base) F46 (gl (x := "_law_odd") (by decide +kernel)) T c_law_of
  have c_law_forms := ok_forms (P := P) (w := w) (base := base) F47 (gl (x := "_law_forms") (by decide +kernel)) T c_law_names_of
  have c_law_further_line := ok_further (P := P) (w := w) (base := base) F48 (gl (x := "_law_further_line") (by decide +kernel)) T c_law_take c_law_of c_law_names_of c_law_forms
  have c_law_lore := ok_lore (P := P) (w := w) (base := base) F49 (gl (x := "_law_lore") (by decide +kernel)) T c_law_take c_law_names c_law_further_line
  have f_Book_told := ok_told_book (P := P) (w := w) (base := base) F50 T (fr (x := "any") (by decide +kernel)) Z O_Book c_mkBook
  have met_told : MetX P w K mg base 9 (He.ga K "Book") "told" (spBkTold P w K) := ⟨_, _, _, O_Book.cl, m_Book_told, f_Book_told, b_Book_told⟩
  have f_Book_without := ok_without (P := P) (w := w) (base := base) F51 T (fr (x := "any") (by decide +kernel)) Z O_Book O_Line c_mkBook
  have met_without : MetX P w K mg base 9 (He.ga K "Book") "without" (spWithout P w K) := ⟨_, _, _, O_Book.cl, m_Book_without, f_Book_without, b_Book_without⟩
  have c_law_right := ok_right (P := P) (w := w) (base := base) F52 (gl (x := "_law_right") (by decide +kernel)) T (fr (x := "any") (by decide +kernel)) (fr (x := "enumerate") (by decide +kernel)) Z (TBs (He.cT K pR) (by simp)) O_Book c_law_of c_law_odd c_law_lore c_law_line_text c_law_text c_law_names_of c_law_told c_mkBook met_told met_without
  exact ok_law F53 hfa T c_law_pot c_law_cells c_law_right
end K12
open PySem PySem.W PySem.Calls PyProof.Rows
theorem PySem.Challenge.cw_loosemirrors_k12_lines_left_out_holds : PySem.Challenge.rw_loosemirrors_k12_lines_left_out.Holds := by
  w_on; o_law
  refine HandSHeadRun.head_any (r := OpenLaw.row PySem.Challenge.rw_loosemirrors_k12_lines_left_out) (q := view (OpenLaw.row PySem.Challenge.rw_loosemirrors_k12_lines_left_out).prog [71]) (H := K12.hk) (ob := K12.ob) (M := 40000) (loose := K12.looseNames) (d := HandSHeadRun.topDef (OpenLaw.row PySem.Challenge.rw_loosemirrors_k12_lines_left_out).prog 71) (kwd := []) K12.ob_eq
    (by kernel_rfl) (fun s => by kernel_rfl) K12.run (by kernel_rfl) (by kernel_rfl) (by kernel_rfl) (by rfl) (by first | assumption | decide +kernel) (by decide +kernel) ⟨rfl, rfl, rfl, rfl, rfl, by decide +kernel⟩ ?hw ?hc
  case hw => w_witness2
  case hc =>
    refine Lm.walkT (l := PySem.Challenge.rw_loosemirrors_k12_lines_left_out) (n := 63) (k := 13) (x := "script") rfl (by decide) (by kernel_rfl) ⟨rfl, by decide, by decide⟩ (by kernel_rfl) ?F
    intro w mg fa h Y G hmg0
    obtain ⟨K, KX, c⟩ := Y
    have hmg : mg ("law" : PySem.Str) = some (.ref fa) := by
      have e : (HandSHeadRun.topDef (OpenLaw.row PySem.Challenge.rw_loosemirrors_k12_lines_left_out).prog 71).name = ("law" : PySem.Str) := by kernel_rfl
      rw [← e]
      exact hmg0
    obtain ⟨fd, hb, hF⟩ := K12.facts (P := (PySem.Challenge.rw_loosemirrors_k12_lines_left_out).prog) (w := w) KX G hmg c.t c.more
    have back : ∀ p ∈ [He.cT K K12.pR], ∃ q ∈ [K12.pR], p = He.cT K q := fun p hp => by
      simpa using hp
    exact ⟨K, fd, [He.cT K K12.pR], Lm.spLawT K (K12.T0 K), KX, fun p hp => by obtain ⟨q, hq, rfl⟩ := back p hp; exact c.empty _ hq, fun p hp => by obtain ⟨q, hq, rfl⟩ := back p hp; exact c.out _ hq, fun p hp => by obtain ⟨q, hq, rfl⟩ := back p hp; exact PySem.W.codeHd_of_K KX (c.hd _ hq), hb,
      fun H a ns hl hT hS => ⟨a, ns, rfl, hS, hl, fun p hp => by
        simp only [K12.T0, List.mem_cons, List.not_mem_nil, or_false] at hp
        subst hp
        exact LamX.TabS.nil (hT _ (by simp)), fun _ => rfl⟩, hF⟩
