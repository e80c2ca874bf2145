import PyProof.Rows.All
import Wide.All
import OpenK.AllK
import Wide.FinOn
import HandS.ForMost
import HandS.ForExc
import HandS.ExcInit
import HandS.ExcValue
import HandS.ExcIs
import HandS.IsInst
import HandS.Defaults
import HandS.Conv
import HandS.Wide
import HandS.HeadHook4
import HandS.HeadWalk
import HandS.Head2
import HandS.ExcField
import HandS.Codes
import HandS.Lambda
import HandS.EndTab
import HandS.TupMul
import HandS.TupAny
import HandS.OwnEq
import HandS.FStr
import HandS.StrMore
import HandS.Style
import HandS.Flow
import KE.KOpsOwn
import HandS.ReplaceList
import PyProof.Rows.StrPadWhole
import HandS.ReplaceLit
import HandS.ReplaceDef
import HandS.Gcd
import HandS.WideBits
import HandS.Head3
import PyProof.Rows.FactsB_sub
import PyProof.Rows.FactsB_mul
import PyProof.FactsAll.int_1
import PyProof.FactsAll.int_5
import PyProof.FactsAll.int_2
import PyProof.FactsAll.int_3
import HandS.Text
import PyProof.StrOps2
import HandS.ClsMeth
import HandS.More
import KE.KIntText
import HandS.Iter
import KE.IntTextLaws
import PySem.Challenge.RW_loosemirrors_k03_texts_of_ratios
set_option Elab.async false
set_option linter.all false
set_option maxRecDepth 100000
set_option maxHeartbeats 2000000
namespace Lm
open PySem PySem.Spec PyProof.Rows L2

/-! ## Defs that are entered where no repr of a container is under way -/
section
variable {P : Program} {w : World} {K : PySem.W.Frag} {mg : Str → Option Value} {base : Heap} {CX : CXT} {k : Nat} {f : Addr} {fd : FuncData} {ps : List Str} {sp : Sp}

/-- as the layer's promise of a def, but of entries where nothing guards against going round -/
structure FnG (P : Program) (w : World) (K : PySem.W.Frag) (mg : Str → Option Value) (base : Heap) (CX : CXT) (k : Nat) (f : Addr) (fd : FuncData) (ps : List Str) (sp : Sp) : Prop where
  many : ∀ vs H Q E, sp vs H Q E → vs.length = ps.length
  goes : ∀ (A : Around) (outer : List Env) (s : Shared) (H : Hp) (args : Args) (us : List Value) (vs : List V) (Q : VK) (E : XK), A.guards = some [] → Room k A →
    Env0 P w K mg base A outer s H → BindsTo s fd args (ps.zip us) → Vals vs us → sp vs H Q E → codeAny (model P w) A (.call (.ref f) args) (CR CX outer P w H s Q E) s

theorem FnG.of (F : FnOk P w K mg base CX k f fd ps sp) : FnG P w K mg base CX k f fd ps sp :=
  ⟨F.len, fun A outer s H args us vs Q E _ hr => F.run A outer s H args us vs Q E hr⟩

/-- such a def by its body -/
theorem FnG.made {x qual : Str} {params : Arguments} {body : List Stmt} {scope : Scope} {dvs : List V} {kws : List (Str × V)} {N : List Str}
    (F : FunD K x qual params body scope dvs kws f fd) (S : FnScope N ps scope) (many : ∀ vs H Q E, sp vs H Q E → vs.length = ps.length)
    (walk : ∀ (cdv : Value) (A : Around) (outer : List Env) (s : Shared) (H : Hp) (vs : List V) (Q : VK) (E : XK), A.guards = some [] → Room k (A.deeper (envOfC qual scope s.heap.objs.size f cdv)) → sp vs H Q E →
      ∃ t, PSs (cxOf CX P w K mg base N qual scope f cdv A outer s H E) body t ∧ t { nx := fun _ H' => Q .non H', rt := Q } (start N vs) H) :
    FnG P w K mg base CX (k + 1) f fd ps sp := by
  obtain ⟨oc, od, dV, kV, doc, pm, an, cdv, ct, osl, rfl, look, code, _, _⟩ := F.ex
  refine ⟨many, fun A outer s H args us vs Q E hgd hr e0 hb r hsp => ?_⟩
  have old : ∀ b o, base.get? b = some o → s.heap.get? b = some o := fun b o e => (e0.bs b o e).1
  have KX : K.In s.heap := e0.mod.kin.keeps old
  have kinds : ∀ y ∈ ps.zip us, scope.names.lookup y.1 = some .local ∨ (scope.names.lookup y.1 = some .cell ∧ ((cellsFrom (s.heap.objs.size + 1) scope.names []).lookup y.1).isSome = true) := by
    rintro ⟨n, v⟩ hy
    rcases S.par n (List.of_mem_zip hy).1 with q | q
    · exact Or.inl q
    · exact Or.inr ⟨q, PySem.W.cellsFrom_some _ _ _ (Or.inl q)⟩
  refine codeAny_call_function hr.depth (KX _ _ look) rfl S.co S.gen rfl (PySem.W.codeRec_of KX code) (hb _ _ _ _ ?_)
  refine wpAny_newFunctionEnv_cells S.kind kinds fun env he s1 x => ?_
  subst he
  refine ⟨(e0.mod.nolimit.keeps old).keeps x.toInCall.keep, codeAny_func ?_⟩
  obtain ⟨t, ht, hq⟩ := walk cdv A outer s H vs Q E hgd (hr.deeper _) hsp
  have I : Inv (cxOf CX P w K mg base N qual scope f cdv A outer s H E) [] (start N vs) H s1 := inv_start S hr.hd e0 (many _ _ _ _ hsp) r x
  refine wpAny_mono (ht.run [] s1 (start N vs) H _ I hq) (fun fl s' hs => ?_) fun e s' hs => hs
  match fl, hs with
  | .ret u, ⟨v, σ', H', J, rv, q⟩ => exact ⟨v, H', J.os, J.bare, J.base, J.hok, rv, q⟩
  | .next, ⟨σ', H', J, q⟩ => exact ⟨V.non, H', J.os, J.bare, J.base, J.hok, rfl, q⟩
  | .brk, ⟨_, _, _, q⟩ => exact q.elim
  | .cont, ⟨_, _, _, q⟩ => exact q.elim
end

section
variable {X : Cx} {CX : CXT} {k : Nat} {f : Addr} {fd : FuncData} {ps : List Str} {sp : Sp} {dvs : List V} {ds : List Value} {E : XK}
theorem FnG.call {pins : List (Addr × Obj)} {σ : L2.St} {H : Hp} {s : Shared} {Q : VK} {us : List Value} {vs : List V} (F : FnG X.prog X.w X.K X.mg X.base CX k f fd ps sp) (gd : X.A.guards = some []) (hr : Room k X.A) (hb : Binds X.K fd ps ds) (hd : Vals dvs ds)
    (hx : Passes CX X E) (I : Inv X pins σ H s) (r : Vals vs us) (h : sp (vs ++ dvs) H Q E) : wpAny (model X.prog X.w) X.A (PySem.call (.ref f) us) (EP X pins σ Q) X.xe s := by
  have all : Vals (vs ++ dvs) (us ++ ds) := r.append hd
  have n : (us ++ ds).length = ps.length := all.length.symm.trans (F.many _ _ _ _ h)
  refine wpAny_call (codeAny_mono (F.goes X.A X.stack s H ⟨us, []⟩ (us ++ ds) (vs ++ dvs) Q E gd hr I.env0 (hb s us I.kIn n) all h) fun r s' hq => ?_)
  match r, hq with
  | .error e, hq => exact hx pins σ H s e s' I hq
  | .ok (.ret u), hq => exact I.after hq
  | .ok .next, hq => exact False.elim hq
  | .ok .brk, hq => exact False.elim hq
  | .ok .cont, hq => exact False.elim hq
/-- f(e, ..), f such a def -/
theorem pe_callG {x : Str} {p pos : Pos} {e : Expr} {es : List Expr} {t : TA} (F : FnG X.prog X.w X.K X.mg X.base CX k f fd ps sp) (gd : X.A.guards = some []) (hr : Room k X.A) (hg : Gl X x) (hm : X.mg x = some (.ref f))
    (hk : PySem.W.keepIn X.K (.ref f) = true) (hb : Binds X.K fd ps ds) (hd : Vals dvs ds) (hx : Passes CX X E) (ha : PA X (e :: es) t) (hdb : (x == ("__debug__" : Str)) = false := by decide)
    (he : starEach (e :: es) X.env = (false, eval e X.env) :: starEach es X.env := by rfl) (hpl : (backTo pos (starEach es X.env)).any (·.1) = false := by rfl) :
    PE X (.Call (.Name x p) (e :: es) [] pos) (tCall sp dvs E t) :=
  ⟨fun pins s σ H Q I h => wpAny_Call_Name_kw (ld_glob I hg hm (PySem.W.callWith_K (h₀ := X.base) I.ok.mod.kin hk
    (thn (ha.run pos pins s σ H _ I h) fun us s1 ⟨vs, H1, I1, r, q⟩ => ⟨I1.kIn, F.call gd hr hb hd hx I1 r q⟩) he hpl) hdb)⟩
end

/-! ## The end of a law: it is called where nothing runs -/
section
variable {P : Program} {w : World} {K : PySem.W.Frag} {mg mb : Str → Option Value} {CX : CXT} {k : Nat} {fa a : Addr} {fd : FuncData} {x : Str} {sp : Sp} {s₁ : Shared} {vs : List Value} {ns : List Int}
abbrev LawEnd (s₁ : Shared) (r : Result) (s' : Shared) : Prop := r = .ok (.ret (.bool true)) ∧ OldK s₁.heap s'.heap ∧ s'.os = s₁.os ∧ AllBare s'.gens
/-- what is fixed of the heap that a law starts at -/
structure LawHeap (K : PySem.W.Frag) (mg : Str → Option Value) (base : Heap) : Prop where
  kin : K.In base
  glob : base.Ns mainGlobals mg
  mods : ∃ mm, base.Ns sysModules mm
  digits : ∃ mc, base.Ns cStatics mc ∧ mc "sys.int_max_str_digits" = none
/-- from the heap that tracks the script alone (or nothing) -/
theorem lawG_core (H : Hp) (KX : K.In s₁.heap) (hns : s₁.heap.Ns mainGlobals mg) (hb : s₁.heap.Ns builtinsNs mb) (hbb : ∀ x : Str, x ≠ "__name__" → mb x = bootBuiltins x) (hlim : s₁.heap.NoLimit) (hmo : ∃ mm, s₁.heap.Ns sysModules mm) (hdg : ∃ mc, s₁.heap.Ns cStatics mc ∧ mc "sys.int_max_str_digits" = none) (hg : s₁.gens = #[])
    (ha : s₁.heap.get? a = some { cls := .type "list", data := .seq vs.toArray }) (hr : Room k callerA) (F : ∀ base : Heap, LawHeap K mg base → FnG P w K mg base CX k fa fd [x] sp)
    (hbind : ∀ (s : Shared) (u : Value), BindsTo s fd ⟨[u], []⟩ [(x, u)]) (hsp : sp [.ref a] H (fun v _ => v = .bl true) fun _ _ _ => False) (hCX : ∀ H e s', CX [] H s₁ (fun _ _ _ => False) e s' → False)
    (hO : Only H) (hok : HOk P w H s₁.heap) (one : ∀ b, H b ≠ none → b = a ∧ K.lookup a = none) : codeAny (model P w) callerA (.call (.ref fa) ⟨[.ref a], []⟩) (LawEnd s₁) s₁ := by
  have some_ : ∀ {b : Addr} {u : HO}, H b = some u → b = a ∧ K.lookup a = none := fun {b u} q => one b (by rw [q]; exact fun z => nomatch z)
  have free : ∀ {b : Addr}, (∀ u, H b ≠ some u) → H b = none := fun {b} n => by
    cases q : H b with
    | none => rfl
    | some u => exact absurd q (n u)
  have ns_ : ∀ {b : Addr} {m : Str → Option Value}, s₁.heap.Ns b m → (hidT s₁.heap H).Ns b m := by
    rintro b m ⟨o, es, ep, e, d, r⟩
    refine ⟨o, es, ep, hidT_get e (free fun u q => ?_), d, r⟩
    rw [(some_ q).1, ha] at e
    cases e
    cases d
  have kin : K.In (hidT s₁.heap H) := fun b o e => hidT_get (KX b o e) (free fun u q => by
    have z := some_ q
    rw [z.1, z.2] at e
    cases e)
  have base : LawHeap K mg (hidT s₁.heap H) := ⟨kin, ns_ hns, let ⟨mm, h⟩ := hmo; ⟨mm, ns_ h⟩, let ⟨mc, h, e⟩ := hdg; ⟨mc, ns_ h, e⟩⟩
  have e0 : Env0 P w K mg (hidT s₁.heap H) callerA [] s₁ H := ⟨rfl, ⟨kin, base.glob, ⟨mb, ns_ hb, hbb⟩, let ⟨mc, h1, h2⟩ := hlim; ⟨mc, ns_ h1, h2⟩⟩, fun b o e => of_hidT e, Nat.le_of_eq (hidT_size _ _), trivial, fun b hb => absurd (show b ∈ ([] : List Addr) from hb) (by simp), hok, .of_eq hg⟩
  refine codeAny_mono ((F _ base).goes callerA [] s₁ H ⟨[.ref a], []⟩ [.ref a] [.ref a] _ _ rfl hr e0 (hbind s₁ (.ref a)) (.cons rfl .nil) hsp) fun r s' h => ?_
  match r, h with
  | .error e, h => exact (hCX H e s' h).elim
  | .ok .next, h => exact False.elim h
  | .ok .brk, h => exact False.elim h
  | .ok .cont, h => exact False.elim h
  | .ok (.ret u), ⟨v, H', os, bare, un, hok', r', q⟩ =>
    obtain rfl : v = .bl true := q
    obtain rfl : u = Value.bool true := r'
    refine ⟨rfl, OldK.of_keep fun b o e => ?_, os, bare⟩
    rcases hO b with z | ⟨oz, xs, z⟩
    · exact un.keep b o e z (fun h => absurd (show b ∈ ([] : List Addr) from h) (by simp)) (by simp)
    · have e1 := (hok b _ z).1
      have e2 := (hok' b _ (un.frzs b _ _ z)).1
      rw [e] at e1
      cases e1
      exact e2
theorem lawG_call (KX : K.In s₁.heap) (hns : s₁.heap.Ns mainGlobals mg) (hb : s₁.heap.Ns builtinsNs mb) (hbb : ∀ x : Str, x ≠ "__name__" → mb x = bootBuiltins x) (hlim : s₁.heap.NoLimit) (hmo : ∃ mm, s₁.heap.Ns sysModules mm) (hdg : ∃ mc, s₁.heap.Ns cStatics mc ∧ mc "sys.int_max_str_digits" = none) (hg : s₁.gens = #[])
    (ha : s₁.heap.get? a = some { cls := .type "list", data := .seq vs.toArray }) (hi : IntsAre vs ns) (hl : ns.length ≤ sizeLine) (hr : Room k callerA) (F : ∀ base : Heap, LawHeap K mg base → FnG P w K mg base CX k fa fd [x] sp)
    (hbind : ∀ (s : Shared) (u : Value), BindsTo s fd ⟨[u], []⟩ [(x, u)]) (hsp : ∀ H : Hp, Only H → SqL K H a (ns.map V.int) → sp [.ref a] H (fun v _ => v = .bl true) fun _ _ _ => False)
    (hCX : ∀ H e s', CX [] H s₁ (fun _ _ _ => False) e s' → False) : codeAny (model P w) callerA (.call (.ref fa) ⟨[.ref a], []⟩) (LawEnd s₁) s₁ := by
  have rv := vals_ints hi
  cases hk : K.lookup a with
  | some o =>
    have e := KX a o hk
    rw [ha] at e
    cases e
    have hS : SqL K (fun _ => none) a (ns.map V.int) := .inr ⟨_, vs.toArray, _, hk, rfl, rfl, rfl, by rw [List.size_toArray, hi.length]; exact hl, by simpa using rv⟩
    exact lawG_core (fun _ => none) KX hns hb hbb hlim hmo hdg hg ha hr F hbind (hsp _ (fun _ => .inl rfl) hS) hCX (fun _ => .inl rfl) (fun b u z => nomatch (show (none : Option HO) = some u from z)) fun b z => absurd rfl z
  | none =>
    have at_ : ∀ b, (fun b => if b = a then some (HO.frz { cls := .type "list", data := .seq vs.toArray } (.lst (ns.map V.int))) else none : Hp) b = none ∨ b = a := fun b => by
      by_cases hb : b = a
      · exact .inr hb
      · exact .inl (if_neg hb)
    have hO : Only fun b => if b = a then some (HO.frz { cls := .type "list", data := .seq vs.toArray } (.lst (ns.map V.int))) else none := fun b => by
      rcases at_ b with z | z
      · exact .inl z
      · exact .inr ⟨_, _, if_pos z⟩
    refine lawG_core _ KX hns hb hbb hlim hmo hdg hg ha hr F hbind (hsp _ hO (.inl (.inr ⟨_, if_pos rfl⟩))) hCX hO (fun b u z => ?_) fun b z => ⟨(at_ b).resolve_left z, hk⟩
    rcases at_ b with y | y
    · cases y.symm.trans z
    · subst y
      have z' := (if_pos rfl).symm.trans z
      cases z'
      exact ⟨ha, by rw [List.length_map]; exact hl, vs, _, rv, ha⟩
theorem walkG {l : PySem.W.OpenLaw} {n k : Nat} {q : Program} {loose : List Str} {XP : (Str → Option Value) → Heap → Prop} {YP : World → Heap → Prop} {d : DefRec} {CX : CXT} {x : Str}
    (hn : l.most = some n) (hn2 : n ≤ sizeLine) (hdf : d.params.defaults = []) (hr : Room k callerA) (him : importsNone q = true)
    (F : ∀ (w : World) (mg : Str → Option Value) (fa : Addr) (h : Heap), YP w h → h.Ns mainGlobals mg → mg d.name = some (.ref fa) →
      ∃ (K : PySem.W.Frag) (fd : FuncData) (sp : Sp), K.In h ∧ (∀ (s : Shared) (u : Value), BindsTo s fd ⟨[u], []⟩ [(x, u)]) ∧
        (∀ (H : Hp) (a : Addr) (ns : List Int), ns.length ≤ n → Only H → SqL K H a (ns.map V.int) → sp [.ref a] H (fun v _ => v = .bl true) fun _ _ _ => False) ∧
        ∀ base : Heap, LawHeap K mg base → FnG l.prog w K mg base CX k fa fd [x] sp)
    (hCX : ∀ (H : Hp) (s : Shared) (e : Value) (s' : Shared), CX [] H s (fun _ _ _ => False) e s' → False) :
    PySem.W.WalkO q loose XP YP l.row.toRowW d [] (fun f vs => PySem.call f vs) := by
  refine Att.attach_call hn hdf fun w s₀ s₁ mg mb fa o pm cd doc a vs ns G Y ho hd hcd hmg hobj hints hlen hg => ?_
  obtain ⟨K, fd, sp, KX, hb, hsp, hF⟩ := F w mg fa _ Y G.T.g hmg
  obtain ⟨mm, hmm, _⟩ := (G.T.seer him).mods
  exact lawG_call KX G.T.g G.T.b G.T.builtins G.T.nolimit ⟨mm, hmm⟩ G.T.nodigits hg hobj hints (Nat.le_trans hlen hn2) hr hF hb (fun H hO hS => hsp H a ns hlen hO hS) fun H e s' => hCX H s₁ e s'
end
end Lm

namespace Lm
open PySem PySem.Spec PyProof.Rows L2

/-! ## repr of data: none, bools, ints, texts, lists, tuples, dicts that the abstract heap tracks -/
def keyD : Key → PyData
  | .inl i => .int i
  | .inr x => .str x
mutual
inductive Dr (H : Hp) : V → PyData → Prop
  | non : Dr H .non .none
  | bl (b : Bool) : Dr H (.bl b) (.bool b)
  | int (i : Int) : Dr H (.int i) (.int i)
  | str (x : Str) : Dr H (.str x) (.str x)
  | lst {a : Addr} {xs : List V} {ds : List PyData} : H a = some (.lst xs) → DrAll H xs ds → Dr H (.ref a) (.list ds)
  | tup {a : Addr} {xs : List V} {ds : List PyData} : H a = some (.tup xs) → DrAll H xs ds → Dr H (.ref a) (.tuple ds)
  | dic {a : Addr} {kvs : List (Key × V)} {ds : List PyData} : H a = some (.dK kvs) → DrAll H (kvs.map (·.2)) ds → Dr H (.ref a) (.dict ((kvs.map fun q => keyD q.1).zip ds))
inductive DrAll (H : Hp) : List V → List PyData → Prop
  | nil : DrAll H [] []
  | cons {v : V} {vs : List V} {d : PyData} {ds : List PyData} : Dr H v d → DrAll H vs ds → DrAll H (v :: vs) (d :: ds)
end
theorem DrAll.length {H : Hp} : ∀ {vs : List V} {ds : List PyData}, DrAll H vs ds → vs.length = ds.length
  | _, _, .nil => rfl
  | _, _, .cons _ t => congrArg (· + 1) t.length
/-- what is tracked as data stays so -/
def Kept (H H' : Hp) : Prop := ∀ a o, H a = some o → H' a = some o
mutual
theorem Dr.keep {H H' : Hp} (k : ∀ (a : Addr) (o : HO), H a = some o → (∃ xs, o = .lst xs) ∨ (∃ xs, o = .tup xs) ∨ (∃ ks, o = .dK ks) → H' a = some o) : ∀ {v : V} {d : PyData}, Dr H v d → Dr H' v d
  | _, _, .non => .non
  | _, _, .bl b => .bl b
  | _, _, .int i => .int i
  | _, _, .str x => .str x
  | _, _, .lst e h => .lst (k _ _ e (.inl ⟨_, rfl⟩)) (DrAll.keep k h)
  | _, _, .tup e h => .tup (k _ _ e (.inr (.inl ⟨_, rfl⟩))) (DrAll.keep k h)
  | _, _, .dic e h => .dic (k _ _ e (.inr (.inr ⟨_, rfl⟩))) (DrAll.keep k h)
theorem DrAll.keep {H H' : Hp} (k : ∀ (a : Addr) (o : HO), H a = some o → (∃ xs, o = .lst xs) ∨ (∃ xs, o = .tup xs) ∨ (∃ ks, o = .dK ks) → H' a = some o) : ∀ {vs : List V} {ds : List PyData}, DrAll H vs ds → DrAll H' vs ds
  | _, _, .nil => .nil
  | _, _, .cons h t => .cons (Dr.keep k h) (DrAll.keep k t)
end
theorem Dr.same {H H' : Hp} {v : V} {d : PyData} (h : Dr H v d) (k : Same H H') : Dr H' v d := h.keep fun a o e _ => k a o e

/-- the keys of a dict, as they stand in the heap -/
theorem keys_read {P : Program} {w : World} {h : Heap} : ∀ {es : List DictEntry} {vs : List (Key × Value)} {kvs : List (Key × V)}, Pairs (mixKind P w) es vs → KV kvs vs →
    ReadsAll h (es.map (·.key)) (kvs.map fun q => keyD q.1) [] ∧ es.map (·.val) = vs.map (·.2) ∧ Vals (kvs.map (·.2)) (vs.map (·.2))
  | _, _, _, .nil, .nil => ⟨.nil, rfl, .nil⟩
  | e :: es, (k, u) :: vs, (k', v) :: kvs, .cons hk hv hp, .cons hr hrs => by
    obtain ⟨i1, i2, i3⟩ := keys_read hp hrs
    have ek : k' = k := hr.1
    have rv : RelV v u := hr.2
    subst ek
    have hev : e.val = u := hv
    refine ⟨?_, by simp only [List.map_cons, hev, i2], .cons rv i3⟩
    have one : Reads h e.key (keyD k') [] := by
      rcases keyIs_shape hk with ⟨i, t, q1, q2⟩ | ⟨x, t, q1, q2⟩
      · rw [q2]
        have q1' : k' = Sum.inl i := q1
        subst q1'
        exact Reads.int i t
      · rw [q2]
        have q1' : k' = Sum.inr x := q1
        subst q1'
        exact Reads.str x t
    exact ReadsAll.cons one i1
section
variable {X : Cx} {pins : List (Addr × Obj)} {σ : L2.St} {H : Hp} {s : Shared}
theorem zip_fst {α β : Type} : ∀ {xs : List α} {ys : List β}, xs.length = ys.length → (xs.zip ys).map (·.1) = xs ∧ (xs.zip ys).map (·.2) = ys
  | [], [], _ => ⟨rfl, rfl⟩
  | x :: xs, y :: ys, h => by
    obtain ⟨h1, h2⟩ := zip_fst (xs := xs) (ys := ys) (by simpa using h)
    exact ⟨by simp only [List.zip_cons_cons, List.map_cons, h1], by simp only [List.zip_cons_cons, List.map_cons, h2]⟩
mutual
theorem Dr.reads (I : Inv X pins σ H s) : ∀ {v : V} {d : PyData} {u : Value}, Dr H v d → RelV v u → ∃ as, Reads s.heap u d as ∧ ∀ b ∈ as, ∃ o, H b = some o
  | _, _, u, .non, r => by
    obtain rfl : u = Value.none := r
    exact ⟨[], .none, by simp⟩
  | _, _, u, .bl b, r => by
    obtain rfl : u = Value.bool b := r
    exact ⟨[], .bool b, by simp⟩
  | _, _, _, .int i, r => by
    obtain ⟨t, rfl⟩ := r
    exact ⟨[], .int i t, by simp⟩
  | _, _, _, .str x, r => by
    obtain ⟨t, rfl⟩ := r
    exact ⟨[], .str x t, by simp⟩
  | _, _, u, .lst (a := a) e h, r => by
    obtain rfl : u = Value.ref a := r
    obtain ⟨_, its, n, rv, ho⟩ := I.hok a _ e
    obtain ⟨as, hr, ha⟩ := DrAll.reads I h rv
    refine ⟨_, Reads.list ho rfl rfl (by simpa using hr), fun b hb => ?_⟩
    rcases List.mem_cons.mp hb with q | q
    · exact ⟨_, by rw [q]; exact e⟩
    · exact ha b q
  | _, _, u, .tup (a := a) e h, r => by
    obtain rfl : u = Value.ref a := r
    obtain ⟨_, its, rv, o, ho, hc, n, hd⟩ := I.hok a _ e
    obtain ⟨as, hr, ha⟩ := DrAll.reads I h rv
    exact ⟨_, Reads.tuple ho hc hd (by simpa using hr), ha⟩
  | _, _, u, .dic (a := a) (kvs := kvs) (ds := ds) e h, r => by
    obtain rfl : u = Value.ref a := r
    obtain ⟨_, _, vs, rel, o, es, ep, ho, hx, hd, _, hp, _⟩ := I.hok a _ e
    obtain ⟨k1, k2, k3⟩ := keys_read (h := s.heap) hp rel
    obtain ⟨as, hr, ha⟩ := DrAll.reads I h k3
    have hl : (kvs.map fun q => keyD q.1).length = ds.length := by
      have := h.length
      simpa using this
    obtain ⟨z1, z2⟩ := zip_fst hl
    refine ⟨_, Reads.dict ho hx.1 hd (as := []) (bs := as) (by rw [z1]; exact k1) (by rw [z2, k2]; exact hr), fun b hb => ?_⟩
    rcases List.mem_cons.mp hb with q | q
    · exact ⟨_, by rw [q]; exact e⟩
    · exact ha b (by simpa using q)
theorem DrAll.reads (I : Inv X pins σ H s) : ∀ {vs : List V} {ds : List PyData} {us : List Value}, DrAll H vs ds → Vals vs us → ∃ as, ReadsAll s.heap us ds as ∧ ∀ b ∈ as, ∃ o, H b = some o
  | _, _, _, .nil, .nil => ⟨[], .nil, by simp⟩
  | _, _, _, .cons h t, .cons r rs => by
    obtain ⟨as, h1, h2⟩ := Dr.reads I h r
    obtain ⟨bs, h3, h4⟩ := DrAll.reads I t rs
    exact ⟨_, .cons h1 h3, fun b hb => (List.mem_append.mp hb).elim (h2 b) (h4 b)⟩
end
/-- the object at a fixed address of the base isn't tracked -/
theorem ns_untracked (I : Inv X pins σ H s) {b : Addr} {m : Str → Option Value} (h : X.base.Ns b m) : H b = none := by
  obtain ⟨o, _, _, e, _⟩ := h
  exact (I.bs b o e).2
/-- what repr tells of data -/
def rReprD : List V → Hp → VK → Prop := fun xs H Q => ∃ v d, xs = [v] ∧ Dr H v d ∧ d.showable = true ∧ d.depth ≤ 60 ∧ d.shown.length ≤ sizeLine ∧ Q (.str d.shown) H
theorem call_reprD (gd : X.A.guards = some []) (hu : X.A.units + 64 < cLine) (hm : ∃ mm, X.base.Ns sysModules mm) : CallR X (.builtin "repr") rReprD := by
  intro pins s σ H xs us Q I r h
  obtain ⟨v, d, rfl, hd, hs, hdep, hz, q⟩ := h
  obtain ⟨u, rfl, ru⟩ := vals1 r
  obtain ⟨mm, hm⟩ := hm
  have hsys := ns_untracked I hm
  obtain ⟨as, hr, ha⟩ := hd.reads I ru
  have hno : sysModules ∉ as := fun hb => by
    obtain ⟨o, ho⟩ := ha _ hb
    rw [hsys] at ho
    cases ho
  have byRef : ∀ a : Addr, u = Value.ref a → wpAny (model X.prog X.w) X.A (call (.builtin "repr") [u]) (EP X pins σ Q) X.xe s := fun a e => by
    subst e
    exact repr_of_reads' hr hs (fun _ => hno) gd (by omega) (fun _ _ z => z) (fun h' t tk k => ⟨.str d.shown, H, I.kept (t' := tk) k, ⟨t, rfl⟩, q⟩) hz
  cases hd with
  | non =>
    obtain rfl : u = Value.none := ru
    exact PySem.P.repr_of_none ⟨.str _, H, I.tok _, ⟨_, rfl⟩, q⟩
  | bl b =>
    obtain rfl : u = Value.bool b := ru
    exact PySem.P.repr_of_bool ⟨.str _, H, I.tok _, ⟨_, rfl⟩, by simpa only [PyData.shown] using q⟩
  | int i =>
    obtain ⟨t, rfl⟩ := ru
    exact PySem.P.repr_of_int (by simpa [PyData.showable] using hs) ⟨.str _, H, I.tok _, ⟨_, rfl⟩, by simpa only [PyData.shown] using q⟩
  | str x =>
    obtain ⟨t, rfl⟩ := ru
    exact PySem.P.repr_of_str ⟨.str _, H, I.tok _, ⟨_, rfl⟩, by simpa only [PyData.shown] using q⟩ (by simpa only [PyData.shown] using hz)
  | lst _ _ => exact byRef _ ru
  | tup _ _ => exact byRef _ ru
  | dic _ _ => exact byRef _ ru
end
end Lm

namespace Lm
open PySem PySem.Spec PyProof.Rows L2

/-! ## Own exceptions as values: made, their fields read, asked for their class -/
/-- C(e, ..), kept as a value; C's __init__ keeps sp -/
def tMkV (C : Addr) (sp : Sp) (ta : TA) : TE := fun σ H Q => ta σ H fun vs H1 => vs.length ≤ 1000 ∧ ∀ a, H1 a = none →
  sp (.ref a :: vs) (upd H1 a (exo a C none)) (fun v H2 => v = .non ∧ Q (.ref a) H2) (fun _ _ _ => False)
section
variable {X : Cx}
theorem pe_oexV {CX : CXT} {x : Str} {e : Expr} {es : List Expr} {p pos : Pos} {C fI : Addr} {k : Nat} {fd : FuncData} {ps : List Str} {sp : Sp} {ta : TA} (T : OexC X.K C) (iC : PySem.W.findIn X.K (.ref C) "__init__" = some (some (.ref fI))) (tI : PySem.W.typeIn X.K (.ref fI) = some (.type "function"))
    (F1 : FnOk X.prog X.w X.K X.mg X.base CX k fI fd ps sp) (hr : Room (k + 1) X.A) (hb : Binds X.K fd ps []) (hx : Passes CX X (fun _ _ _ => False)) (hg : Gl X x) (hm : X.mg x = some (.ref C)) (ha : PA X (e :: es) ta)
    (hdb : (x == ("__debug__" : Str)) = false := by decide) (he : starEach (e :: es) X.env = (false, eval e X.env) :: starEach es X.env := by rfl) (hpl : (backTo pos (starEach es X.env)).any (·.1) = false := by rfl) :
    PE X (.Call (.Name x p) (e :: es) [] pos) (tMkV C sp ta) := by
  refine ⟨fun pins s σ H Q I h => ?_⟩
  obtain ⟨nm, q, N, bs, bm, sn, sub, ab, col, dd, k0, k1, k2, k3, k5, hC, hbm⟩ := T.cls
  refine wpAny_Call_Name_kw (ld_glob I hg hm ?_ hdb)
  refine PySem.W.callWith_K (h₀ := X.base) I.ok.mod.kin T.kC (thn (ha.run pos pins s σ H _ I h) fun us s1 ⟨vs, H1, I1, r1, hz, q1⟩ => ⟨I1.kIn, ?_⟩) he hpl
  show wpAny _ _ (call (.ref C) us) _ _ _
  obtain ⟨hp, g, dr, tk, os⟩ := s1
  let a : Addr := hp.objs.size + 1
  have above : hp.objs.size ≤ a := Nat.le_succ _
  have hq := q1 a (I1.hok.fresh above)
  let h2 : Heap := (hp.push (PySem.W.kdv_tup us)).push (PySem.HandSPX.excO C hp.objs.size)
  have kk : ∀ b o, hp.get? b = some o → h2.get? b = some o := fun b o z => Heap.get?_push_of_some _ (Heap.get?_push_of_some _ z)
  have hget : h2.get? a = some (PySem.HandSPX.excO C hp.objs.size) := by
    show ((hp.push (PySem.W.kdv_tup us)).push (PySem.HandSPX.excO C hp.objs.size)).get? (hp.objs.size + 1) = _
    heap_get
  have I2 : Inv X pins σ (upd H1 a (exo a C none)) ⟨h2, g, dr, tk, os⟩ := I1.laid (t' := tk) (h' := h2) kk above (exo_ok hget)
  have r2 : Vals (V.ref a :: vs) (Value.ref a :: us) := .cons rfl r1
  have hl : (Value.ref a :: us).length = ps.length := r2.length.symm.trans (F1.len _ _ _ _ hq)
  have hus : us.length ≤ sizeLine := by
    rw [← Paired.length r1, sizeLine_eq]
    omega
  have hb2 : BindsTo ⟨h2, g, dr, tk, os⟩ fd ⟨Value.ref a :: us, []⟩ (ps.zip (Value.ref a :: us)) := by
    have z := hb ⟨h2, g, dr, tk, os⟩ (Value.ref a :: us) I2.kIn (by rw [List.append_nil]; exact hl)
    rw [List.append_nil] at z
    exact z
  refine wpAny_call (PySem.HandSPX.call_own F.excBase_ValueError (fun Y => PySem.HandSPX.refsVE_contains Y bm hbm) (I1.kIn _ _ hC) (PySem.W.looks_findIn I1.kIn iC) (fun self => PySem.W.bind_fn I1.kIn self tI) hus
    (codeAny_mono (F1.run _ X.stack _ _ ⟨Value.ref a :: us, []⟩ (Value.ref a :: us) _ _ (fun _ _ _ => False) (hr.make C us []) (I2.env0.make C us []) hb2 r2 hq) fun r s' hq' => ?_))
  match r, hq' with
  | .error er, hq' => exact hx pins σ _ _ er s' I2 hq'
  | .ok .next, hq' => exact False.elim hq'
  | .ok .brk, hq' => exact False.elim hq'
  | .ok .cont, hq' => exact False.elim hq'
  | .ok (.ret u), ⟨v, H2, os2, bare2, un2, hok2, rv, ev, q2⟩ =>
    subst ev
    obtain ⟨h3, g3, d3, t3, os3⟩ := s'
    obtain rfl : os3 = os := os2
    exact ⟨rv, .ref a, H2, I2.call (h' := h3) (g' := g3) (d' := d3) (t' := t3) (ch := []) un2 hok2 bare2 (fun b z => absurd z (by simp)), rfl, q2⟩

/-- x.f, x a made own exception -/
def tExF (K : PySem.W.Frag) (f : Str) (te : TE) : TE := fun σ H Q => te σ H fun x H1 => ∃ (a C d : Addr) (fs : List (Str × V)) (v : V), x = .ref a ∧ XfC K C ∧ PySem.W.findIn K (.ref C) f = some none ∧
  H1 a = some (exo a C (some d)) ∧ H1 d = some (exd d fs) ∧ fs.lookup f = some v ∧ Q v H1
theorem pe_exF {e : Expr} {te : TE} {pos : Pos} {f : Str} (he : PE X e te) (hb : attributeBase e f X.env (eval e X.env) = eval e X.env := by rfl) : PE X (.Attribute e f pos) (tExF X.K f te) := by
  refine ⟨fun pins s σ H Q I h => ?_⟩
  refine attr_of hb (thn (he.run pins s σ H _ I h) fun u s1 hh => ?_)
  obtain ⟨x, H1, I1, rx, a, C, d, fs, v, ex, T, hno, ea, ed, l, q⟩ := hh
  subst ex
  obtain rfl : u = Value.ref a := rx
  obtain ⟨t1, ho⟩ := exo_at I1.hok ea
  obtain ⟨mA, hns, hr⟩ := exd_at I1.hok ed
  obtain ⟨od, hod, hl⟩ := lookIn_ns hns
  obtain ⟨z, hz, rz⟩ := RelO.some_of (v := v) (o := mA f) (by rw [← l]; exact hr f)
  have J : PySem.W.InstAt s1.heap a _ C (some od) := ⟨ho, rfl, rfl, hod⟩
  exact HandSPX.exc_get I1.kIn J T.ga T.gg T.exC (PySem.W.findObj_own T.hdC hno rfl (by rw [hl, hz])) (handed_of rz) ⟨v, H1, I1.tok _, rz, q⟩
end
end Lm

namespace Lm
open PySem PySem.Spec PyProof.Rows L2
section
open PySem.W PySem.Calls
variable {prog : Program} {w : World} {A : Around} {E : Value → Shared → Prop} {s : Shared} {K : Frag} {x D : Addr} {ox : Obj} {od : Option Obj}
/-- x.__class__ of an exception, whatever its own dict holds -/
theorem class_of_exc {Q : Option Value → Shared → Prop} (C : ExcC K D) (X : K.In s.heap) (I : InstAt s.heap x ox D od) (h : Q (some (.ref D)) { s with toks := s.toks + 1 }) : wpAny (model prog w) A (getAttr? (.ref x) "__class__") Q E s := by
  have hf : findObj K D od "__class__" = some (.bind (.builtin "getset_descriptor.__get__") (.builtin "object.__class__")) := by
    obtain ⟨cd, hc, _⟩ := any_some C.hd
    cases od with
    | none => exact findObj_dataN (by rw [hc] <;> rfl) C.ha C.hn C.ht
    | some o => exact findObj_data (by rw [hc] <;> rfl) C.ha C.hn C.ht
  obtain ⟨hp, g, d, t, os⟩ := s
  have own : Value.builtin "BaseException.__getattribute__" ≠ Value.builtin "object.__getattribute__" := by decide +kernel
  have L0 := I.type (M := model prog w)
  have L1 := looks_findIn (M := model prog w) X C.hg
  have L2 := looks_findIn (M := model prog w) X C.hk
  have L3 := looks_find (M := model prog w) X I hf
  have sub : Looks (model prog w) hp (isInstance (.ref x) (.type "BaseException")) true := L0.andThen (looks_subIn X C.hs)
  unfold getAttr? getAttrBy? getAttrBy
  refine wpAny_bind (wpAny_mkText (wpAny_bind (wpAny_attempt (wpAny_holding (wpAny_bind (L0.at (wpAny_bind (L1.at ?_))))))))
  show wpAny _ _ (if (onTheHeap (Value.ref D) && Value.builtin "BaseException.__getattribute__" == Value.builtin "object.__getattribute__") = true then _ else _) _ _ _
  rw [beq_eq_false_iff_ne.mpr own, Bool.and_false, if_neg Bool.false_ne_true]
  unfold getAttrByItsOwn hookBefore
  refine wpAny_bind ?_
  rw [if_pos (show onTheHeap (Value.ref D) = true from rfl)]
  refine L2.at (wpAny_bind (wpAny_attempt (wpAny_holding ?_)))
  unfold callGetattribute
  rw [Bool.false_and, if_neg Bool.false_ne_true]
  unfold boundAndCalled
  rw [PySem.F.excAttr_ValueError.ga.bind (.ref x)]
  refine wpAny_bind (wpAny_pure ?_)
  show wpAny _ _ (call (.builtin "BaseException.__getattribute__") [.ref x, .str "__class__" t]) _ _ _
  refine wpAny_call (codeAny_call_builtin PySem.F.excAttr_ValueError.ga.plain PySem.F.entry_bexc_ga ?_)
  refine @check_slot (model prog w) _ _ ⟨hp, g, d, t + 1, os⟩ "BaseException.__getattribute__" "BaseException" "__getattribute__" (.ref x) [.str "__class__" t] [] _ (by decide +kernel) (by decide +kernel) sub (PySem.F.args_bexc_ga (.ref x) (.str "__class__" t)) ?_
  unfold Builtin.«object.__getattribute__»
  refine wpAny_bind (wpAny_of_eq (a := ((Value.ref x : Value), [Value.str "__class__" t])) (by first | rfl | (simp only [slotArgs]; rfl)) ?_)
  refine wpAny_bind (wpAny_pure (wpAny_bind (L0.at (wpAny_bind (L3.at ?_)))))
  show wpAny _ _ (holding [Value.builtin "object.__class__"] (call (.builtin "getset_descriptor.__get__") [.builtin "object.__class__", .ref x, .ref D]) >>= ret) _ _ _
  refine wpAny_bind (wpAny_holding (wpAny_call (class_get (s := ⟨hp, g, d, t + 1, os⟩) (ox := ox) (od := od) X I C.hm ?_)))
  refine wpAny_pure ?_
  show wpAny _ _ (handedOut (.ref D)) _ _ _
  rw [handedOut_of (v := .ref D) rfl]
  first
    | exact wpAny_pure (wpAny_pure h)
    | exact wpAny_pure h
    | exact wpAny_pure (wpAny_bind (wpAny_pure (wpAny_pure h)))
/-- what isinstance wants to know of an own exception -/
theorem kit_exc (C : ExcC K D) : KitX K (.ref x) (.ref D) (fun h => InstAt h x ox D od) := by
  have isC : ∃ cd, clsIn K D = some cd := by
    obtain ⟨cd, hc, _⟩ := any_some C.hd
    exact ⟨cd, hc⟩
  obtain ⟨cd, hc⟩ := isC
  unfold clsIn at hc
  refine ⟨fun _ _ _ I => I.type, fun _ _ X _ => ?_, fun h tp dd its n sl X htp => ?_, fun X I k => class_of_exc C X I k⟩
  · split at hc
    · rename_i ho
      intro A' Q' E' s' k q
      unfold isType loadHead
      exact wpAny_bind (wpAny_loadPart (k _ _ (X _ _ ho)) (wpAny_pure q))
    · cases hc
  · refine Bool.eq_false_iff.mpr fun q => ?_
    obtain rfl : D = tp := Value.ref.inj (beq_iff_eq.mp q)
    split at hc
    · rename_i ho
      cases (X _ _ ho).symm.trans htp
    · cases hc
end
/-- isinstance(x, c), c one class, x also a made own exception -/
def rIsE (K : PySem.W.Frag) : List V → Hp → VK → Prop := fun xs H Q => ∃ (x c : V) (t u : Value) (b : Bool), xs = [x, c] ∧ ClsV c u ∧
  (TyX K H x t ∨ ∃ a D d, x = .ref a ∧ t = .ref D ∧ ExcC K D ∧ H a = some (exo a D (some d)) ∧ ∃ fs, H d = some (exd d fs)) ∧ PySem.W.kitOne K t u = some b ∧ Q (.bl b) H
theorem call_isE {X : Cx} : CallR X (.builtin "isinstance") (rIsE X.K) := by
  intro pins s σ H xs us Q I r h
  obtain ⟨x, c, t, u, b, rfl, k, ty, e, q⟩ := h
  rcases ty with ty | ⟨a, D, d, rfl, rfl, C, ha, fs, hd⟩
  · exact call_isi pins s σ H _ us Q I r ⟨x, c, t, u, b, rfl, k, ty, e, q⟩
  · obtain ⟨u1, u2, rfl, r1, r2⟩ := vals2 r
    obtain rfl := k.eq r2
    obtain rfl : u1 = Value.ref a := r1
    obtain ⟨t1, ho⟩ := exo_at I.hok ha
    obtain ⟨mA, hns, _⟩ := exd_at I.hok hd
    obtain ⟨od, hod, _⟩ := lookIn_ns hns
    exact PySem.W.kia_one (kit_exc (ox := _) (od := some od) C) I.kIn ⟨ho, rfl, rfl, hod⟩ e (fun z => nomatch z) fun tk => ⟨.bl b, H, I.tok tk, rfl, q⟩
end Lm

namespace Lm
open PySem PySem.Spec PyProof.Rows L2
open C8 (Cal Mak Met pe_c pe_mk pe_mt pe_mt0 pss_cut tCut)

/-! ## What a law's own helpers ask of the module: the built-ins that stand as they are -/
structure Bl (mg : Str → Option Value) (base : Heap) : Prop where
  len : mg "len" = none
  int : mg "int" = none
  abs : mg "abs" = none
  range : mg "range" = none
  list : mg "list" = none
  max : mg "max" = none
  min : mg "min" = none
  all : mg "all" = none
  isinstance : mg "isinstance" = none
  repr : mg "repr" = none
  str : mg "str" = none
  tuple : mg "tuple" = none
  ValueError : mg "ValueError" = none
  bool : mg "bool" = none
  mods : ∃ mm, base.Ns sysModules mm
/-- a def as its callers see it: its promise, where it stands, how its arguments bind -/
theorem calD {P : Program} {w : World} {K : PySem.W.Frag} {mg : Str → Option Value} {base : Heap} {x : Str} {params : Arguments} {body : List Stmt} {scope : Scope} {f : Addr} {fd : FuncData} {N ps : List Str} {k : Nat} {sp : Sp}
    (F : FunD K x x params body scope [] [] f fd) (hm : mg x = some (.ref f)) (S : FnScope N ps scope)
    (b : ∀ (kV doc pm : Value) (an : Option Addr) (cdv ct : Value) (us : List Value), us.length = ps.length → bindArgs (PySem.W.fnOf x x params body scope .none kV doc pm an cdv ct) ⟨us, []⟩ = pure (ps.zip us))
    (many : ∀ vs H Q E, sp vs H Q E → vs.length = ps.length)
    (walk : ∀ (cdv : Value) (A : Around) (outer : List Env) (s : Shared) (H : Hp) (vs : List V) (Q : VK) (E : XK), Room k (A.deeper (envOfC x scope s.heap.objs.size f cdv)) → sp vs H Q E →
      ∃ t, PSs (cxOf CX0 P w K mg base N x scope f cdv A outer s H E).nox body t ∧ t { nx := fun _ H' => Q .non H', rt := Q } (start N vs) H) : Cal P w K mg base (k + 1) x sp [] :=
  ⟨f, fd, ps, [], F.ok S many fun cdv A outer s H vs Q E hr h => let ⟨t, h1, h2⟩ := walk cdv A outer s H vs Q E hr h; ⟨t, PSs.nox h1, h2⟩, hm, F.kp, FunD.bindsN F b, .nil⟩
/-- the same of a def that is entered where no repr is under way -/
structure CalG (P : Program) (w : World) (K : PySem.W.Frag) (mg : Str → Option Value) (base : Heap) (k : Nat) (x : Str) (sp : Sp) : Prop where
  ex : ∃ (f : Addr) (fd : FuncData) (ps : List Str), FnG P w K mg base CX0 k f fd ps sp ∧ mg x = some (.ref f) ∧ PySem.W.keepIn K (.ref f) = true ∧ Binds K fd ps []
theorem CalG.of {P : Program} {w : World} {K : PySem.W.Frag} {mg : Str → Option Value} {base : Heap} {x : Str} {k : Nat} {sp : Sp} (c : Cal P w K mg base k x sp []) : CalG P w K mg base k x sp := by
  obtain ⟨f, fd, ps, ds, F, hm, kp, b, d⟩ := c.ex
  cases d
  exact ⟨f, fd, ps, FnG.of F, hm, kp, b⟩
theorem calG {P : Program} {w : World} {K : PySem.W.Frag} {mg : Str → Option Value} {base : Heap} {x : Str} {params : Arguments} {body : List Stmt} {scope : Scope} {f : Addr} {fd : FuncData} {N ps : List Str} {k : Nat} {sp : Sp}
    (F : FunD K x x params body scope [] [] f fd) (hm : mg x = some (.ref f)) (S : FnScope N ps scope)
    (b : ∀ (kV doc pm : Value) (an : Option Addr) (cdv ct : Value) (us : List Value), us.length = ps.length → bindArgs (PySem.W.fnOf x x params body scope .none kV doc pm an cdv ct) ⟨us, []⟩ = pure (ps.zip us))
    (many : ∀ vs H Q E, sp vs H Q E → vs.length = ps.length)
    (walk : ∀ (cdv : Value) (A : Around) (outer : List Env) (s : Shared) (H : Hp) (vs : List V) (Q : VK) (E : XK), A.guards = some [] → Room k (A.deeper (envOfC x scope s.heap.objs.size f cdv)) → sp vs H Q E →
      ∃ t, PSs (cxOf CX0 P w K mg base N x scope f cdv A outer s H E).nox body t ∧ t { nx := fun _ H' => Q .non H', rt := Q } (start N vs) H) : CalG P w K mg base (k + 1) x sp :=
  ⟨f, fd, ps, FnG.made F S many fun cdv A outer s H vs Q E gd hr h => let ⟨t, h1, h2⟩ := walk cdv A outer s H vs Q E gd hr h; ⟨t, PSs.nox h1, h2⟩, hm, F.kp, FunD.bindsN F b⟩
section
variable {X : Cx} {k j : Nat} {x : Str} {sp : Sp} {p pos : Pos} {e : Expr} {es : List Expr} {t : TA}
theorem pe_cG (c : CalG X.prog X.w X.K X.mg X.base k x sp) (gd : X.A.guards = some []) (hr : Room j X.A) (hk : k ≤ j) (hg : Gl X x) (ha : PA X (e :: es) t)
    (hdb : (x == ("__debug__" : Str)) = false := by decide) (he : starEach (e :: es) X.env = (false, eval e X.env) :: starEach es X.env := by rfl) (hpl : (backTo pos (starEach es X.env)).any (·.1) = false := by rfl) :
    PE X (.Call (.Name x p) (e :: es) [] pos) (tCall sp [] E0 t) := by
  obtain ⟨f, fd, ps, F, hm, kp, b⟩ := c.ex
  exact pe_callG F gd (hr.mono hk) hg hm kp b .nil pass0 ha hdb he hpl
end

/-! ## Ways that join -/
/-- all but what stands at a is as it was -/
def But (a : Addr) (H H' : Hp) : Prop := ∀ b, b ≠ a → H' b = H b
/-- what was tracked is as it was, but for a -/
def KeptBut (a : Addr) (H H' : Hp) : Prop := ∀ b o, H b = some o → b ≠ a → H' b = some o
theorem KeptBut.refl {a : Addr} {H : Hp} : KeptBut a H H := fun _ _ e _ => e
theorem KeptBut.trans {a : Addr} {H1 H2 H3 : Hp} (h : KeptBut a H1 H2) (k : KeptBut a H2 H3) : KeptBut a H1 H3 := fun b o e n => k b o (h b o e n) n
theorem KeptBut.of_but {a : Addr} {H H' : Hp} (h : But a H H') : KeptBut a H H' := fun b o e n => by rw [h b n]; exact e
theorem KeptBut.new {a p : Addr} {H : Hp} {o : HO} (h : H p = none) : KeptBut a H (upd H p o) := fun b u e _ => by rw [upd_ne (ne_of_none e h)]; exact e
theorem KeptBut.at_ {a : Addr} {H : Hp} {o : HO} : KeptBut a H (upd H a o) := fun b u e n => by rw [upd_ne n]; exact e
theorem KeptBut.of_same {a : Addr} {H H' : Hp} (h : Same H H') : KeptBut a H H' := fun b o e _ => h b o e

/-! ## Lists that stay -/
theorem sql_keep {K : PySem.W.Frag} {H H' : Hp} {a l : Addr} {xs : List V} (h : SqL K H l xs) (kb : KeptBut a H H') (n : l ≠ a) : SqL K H' l xs := by
  rcases h with (h | ⟨o, h⟩) | h
  · exact .inl (.inl (kb _ _ h n))
  · exact .inl (.inr ⟨o, kb _ _ h n⟩)
  · exact .inr h
theorem sqt_keep {K : PySem.W.Frag} {H H' : Hp} {a l : Addr} {xs : List V} (h : SqT K H l xs) (kb : KeptBut a H H') (n : l ≠ a) : SqT K H' l xs := by
  rcases h with (h | ⟨o, h⟩) | h
  · exact .inl (.inl (kb _ _ h n))
  · exact .inl (.inr ⟨o, kb _ _ h n⟩)
  · exact .inr h
/-- the script: locked, or an object of the module -/
def ScL (K : PySem.W.Frag) (H : Hp) (a : Addr) (xs : List V) : Prop := (∃ o, H a = some (.frz o (.lst xs))) ∨ ∀ H', SqL K H' a xs
theorem ScL.seq {K : PySem.W.Frag} {H : Hp} {a : Addr} {xs : List V} (h : ScL K H a xs) : SqL K H a xs := by
  rcases h with ⟨o, h⟩ | h
  · exact .inl (.inr ⟨o, h⟩)
  · exact h H
theorem ScL.of {K : PySem.W.Frag} {H : Hp} {a : Addr} {xs : List V} (o : Only H) (h : SqL K H a xs) : ScL K H a xs := by
  rcases h with (h | ⟨ob, h⟩) | h
  · rcases o a with z | ⟨ob, ys, z⟩
    · rw [z] at h
      cases h
    · rw [z] at h
      cases h
  · exact .inl ⟨ob, h⟩
  · exact .inr fun _ => .inr h
theorem ScL.but {K : PySem.W.Frag} {H H' : Hp} {a q : Addr} {xs : List V} (h : ScL K H a xs) (kb : KeptBut q H H') (n : ∀ o u, H q ≠ some (.frz o u)) : ScL K H' a xs := by
  rcases h with ⟨o, h⟩ | h
  · exact .inl ⟨o, kb _ _ h fun z => n _ _ (by rw [← z]; exact h)⟩
  · exact .inr h
theorem ScL.new {K : PySem.W.Frag} {H : Hp} {a q : Addr} {xs : List V} {o : HO} (h : ScL K H a xs) (n : H q = none) : ScL K (upd H q o) a xs :=
  h.but (q := q) KeptBut.at_ fun _ _ z => by rw [n] at z; cases z
theorem ScL.upd {K : PySem.W.Frag} {H : Hp} {a q : Addr} {xs ys : List V} {o : HO} (h : ScL K H a xs) (n : H q = some (.lst ys)) : ScL K (upd H q o) a xs :=
  h.but (q := q) KeptBut.at_ fun _ _ z => by rw [n] at z; cases z

/-! ## The pot of a cell: three numbers in a list -/
def PotAt (H : Hp) (a : Addr) (n : Nat) : Prop := ∃ p0 p1 p2 : Int, H a = some (.lst [.int p0, .int p1, .int p2]) ∧ (0 ≤ p0 ∧ 0 ≤ p1 ∧ p1 < 2305843009213693951) ∧ 0 ≤ p2 ∧ p2 ≤ (n : Int)
theorem PotAt.mono {H : Hp} {a : Addr} {m n : Nat} (h : PotAt H a m) (l : m ≤ n) : PotAt H a n := by
  obtain ⟨p0, p1, p2, e, b, c, d⟩ := h
  exact ⟨p0, p1, p2, e, b, c, by omega⟩
theorem PotAt.keep {H H' : Hp} {a : Addr} {n : Nat} (h : PotAt H a n) (k : ∀ o, H a = some o → H' a = some o) : PotAt H' a n := by
  obtain ⟨p0, p1, p2, e, b⟩ := h
  exact ⟨p0, p1, p2, k _ e, b⟩
theorem PotAt.new {H : Hp} {a p : Addr} {n : Nat} {o : HO} (h : PotAt H a n) (hp : H p = none) : PotAt (upd H p o) a n := h.keep fun u e => by rw [upd_ne (ne_of_none e hp)]; exact e
theorem PotAt.ne {H : Hp} {a p : Addr} {n : Nat} (h : PotAt H a n) (hp : H p = none) : p ≠ a := by
  obtain ⟨_, _, _, e, _⟩ := h
  exact (ne_of_none e hp).symm
/-- _law_pot -/
def spPot (K : PySem.W.Frag) : Sp := fun vs H Q _ => ∃ (s : Addr) (ns : List Int) (j : Nat), vs = [.ref s, .int (j : Int)] ∧ SqL K H s (ns.map V.int) ∧ j ≤ 1000 ∧ ∀ (p : Addr) (o : HO), H p = none → PotAt (upd H p o) p 0 → Q (.ref p) (upd H p o)
/-- _law_take -/
def spTake : Sp := fun vs H Q _ => ∃ (a : Addr) (u : Int) (n : Nat), vs = [.ref a, .int u] ∧ PotAt H a n ∧ n < 1000000 ∧ 0 < u ∧ u ≤ 1000000 ∧ ∀ (i : Int) (H' : Hp), 0 ≤ i → i < u → PotAt H' a (n + 1) → KeptBut a H H' → Q (.int i) H'
/-- _law_of -/
def spOf (K : PySem.W.Frag) : Sp := fun vs H Q _ => ∃ (a l : Addr) (xs : List V) (n : Nat), vs = [.ref a, .ref l] ∧ PotAt H a n ∧ n < 1000000 ∧ l ≠ a ∧ (SqL K H l xs ∨ SqT K H l xs) ∧ 0 < xs.length ∧ xs.length ≤ 1000 ∧
  ∀ (v : V) (H' : Hp), v ∈ xs → PotAt H' a (n + 1) → KeptBut a H H' → Q v H'
/-- _law_cells -/
def spCells (K : PySem.W.Frag) (most : Int) : Sp := fun vs H Q _ => ∃ (s : Addr) (ns : List Int), vs = [.ref s, .int most] ∧ SqL K H s (ns.map V.int) ∧ ns.length ≤ 1000 ∧ ∀ (p : Addr) (m : Nat), H p = none → m ≤ 1000 → Q (.ref p) (upd H p (.lst ((List.range m).map fun (i : Nat) => V.int (i : Int))))
/-- _law_right: from a pot it always says True -/
def spRight : Sp := fun vs H Q _ => ∃ a : Addr, vs = [.ref a] ∧ PotAt H a 0 ∧ ∀ H', KeptBut a H H' → Q (.bl true) H'
/-- law -/
def spLaw (K : PySem.W.Frag) : Sp := fun vs H Q _ => ∃ (a : Addr) (ns : List Int), vs = [.ref a] ∧ ScL K H a (ns.map V.int) ∧ ns.length ≤ 63 ∧ ∀ H', Q (.bl true) H'


theorem yes_if {σ : L2.St} {H : Hp} {A B : Hp → Prop} (h : A H) : tYes σ H fun b H' => if b = true then A H' else B H' := by
  show (if true = true then A H else B H)
  rw [if_pos rfl]
  exact h

/-! ## Numbers -/
def CPowW (i j : Int) : Prop := 0 ≤ j ∧ (Builtin.Int.intBits i : Int) * j ≤ 2 ^ 27
theorem op_powW {X : Cx} : OpR X (binaryOp .Pow) (rI CPowW fun i j => .int (i ^ j.toNat)) := opI fun _ _ _ _ _ _ _ hc q => pow_int hc.1 hc.2 q
theorem mod_lt {x m : Int} (h : 0 < m) : 0 ≤ x % m ∧ x % m < m := ⟨Int.emod_nonneg x (by omega), Int.emod_lt_of_pos x h⟩
theorem atI_of {α : Type} {xs : List α} {i : Int} {j : Nat} {v : α} (e : i = (j : Int)) (h : xs[j]? = some v) : atI xs i = some v := by
  subst e
  have hj : j < xs.length := (List.getElem?_eq_some_iff.mp h).1
  unfold atI ixN
  rw [if_pos (by omega), if_pos (by omega)]
  simpa using h
theorem atI_lt {α : Type} {xs : List α} {i : Int} (h0 : 0 ≤ i) (h : i < (xs.length : Int)) : ∃ v, atI xs i = some v ∧ v ∈ xs := by
  obtain ⟨j, e⟩ : ∃ j : Nat, i = (j : Int) := ⟨i.toNat, by omega⟩
  have hj : j < xs.length := by omega
  exact ⟨xs[j], atI_of e (List.getElem?_eq_getElem hj), List.getElem_mem hj⟩
theorem pow3_nn {x : Int} (h : 0 ≤ x) : 0 ≤ x ^ (3 : Int).toNat := Int.pow_nonneg h
theorem ediv_nn {x d : Int} (h : 0 ≤ x) (hd : 0 ≤ d) : 0 ≤ x / d := Int.ediv_nonneg h hd
theorem ite_b2i {c : Bool} : 0 ≤ (if c = true then (1 : Int) else 0) ∧ (if c = true then (1 : Int) else 0) ≤ 1 := by cases c <;> decide
theorem sq_bound {c n : Int} (hc : 0 ≤ c) (hc2 : c ≤ 200000) (h0 : 0 ≤ n) (h1 : n ≤ 1000001) : 0 ≤ c * n * n ∧ c * n * n ≤ 200001000000000000 := by
  have a : c * n ≤ 200000 * 1000001 := Int.mul_le_mul hc2 h1 h0 (by decide)
  have b : 0 ≤ c * n := Int.mul_nonneg hc h0
  have d : c * n * n ≤ 200000 * 1000001 * 1000001 := Int.mul_le_mul a h1 h0 (by decide)
  exact ⟨Int.mul_nonneg b h0, Int.le_trans d (by decide)⟩
end Lm

namespace Lm
open PySem PySem.Spec PyProof.Rows L2

/-! ## Small data: what it reads as, with bounds for repr -/
/-- v reads as some data of depth ≤ k whose text has at most B signs -/
def Sm (B k : Nat) (H : Hp) (v : V) : Prop := ∃ d, Dr H v d ∧ d.showable = true ∧ d.depth ≤ k ∧ d.shown.length ≤ B
theorem Sm.mono {B k B' k' : Nat} {H : Hp} {v : V} (h : Sm B k H v) (hB : B ≤ B') (hk : k ≤ k') : Sm B' k' H v := by
  obtain ⟨d, h1, h2, h3, h4⟩ := h
  exact ⟨d, h1, h2, Nat.le_trans h3 hk, Nat.le_trans h4 hB⟩
theorem Sm.same {B k : Nat} {H H' : Hp} {v : V} (h : Sm B k H v) (s : Same H H') : Sm B k H' v := by
  obtain ⟨d, h1, h2⟩ := h
  exact ⟨d, h1.same s, h2⟩
/-- the pot is no data: what is data stays so while the pot changes -/
theorem Same.new {H : Hp} {p : Addr} {o : HO} (h : H p = none) : Same H (upd H p o) := fun b u e => by rw [upd_ne (ne_of_none e h)]; exact e
theorem Sm.all {B k : Nat} {H : Hp} : ∀ {vs : List V}, (∀ v ∈ vs, Sm B k H v) → ∃ ds, DrAll H vs ds ∧ PyData.showableAll ds = true ∧ PyData.depthAll ds ≤ k ∧ ((PyData.shownAll ds).map (·.length)).sum ≤ B * vs.length ∧ (PyData.shownAll ds).length = vs.length
  | [], _ => ⟨[], .nil, rfl, Nat.zero_le _, Nat.zero_le _, rfl⟩
  | v :: vs, h => by
    obtain ⟨d, h1, h2, h3, h4⟩ := h v List.mem_cons_self
    obtain ⟨ds, i1, i2, i3, i4, i5⟩ := Sm.all (vs := vs) fun u hu => h u (List.mem_cons_of_mem _ hu)
    refine ⟨d :: ds, .cons h1 i1, ?_, ?_, ?_, ?_⟩
    · simp only [PyData.showableAll, h2, i2, Bool.and_self]
    · simp only [PyData.depthAll]
      omega
    · simp only [PyData.shownAll, List.map_cons, List.sum_cons, List.length_cons, Nat.mul_succ]
      omega
    · simp only [PyData.shownAll, List.length_cons, i5]
theorem Sm.tup {B k : Nat} {H : Hp} {a : Addr} {vs : List V} (e : H a = some (.tup vs)) (h : ∀ v ∈ vs, Sm B k H v) : Sm ((B + 2) * vs.length + 3) (k + 1) H (.ref a) := by
  obtain ⟨ds, i1, i2, i3, i4, i5⟩ := Sm.all h
  refine ⟨.tuple ds, .tup e i1, by simpa only [PyData.showable] using i2, by simp only [PyData.depth]; omega, ?_⟩
  have z := tupleText_len_le (PyData.shownAll ds)
  simp only [PyData.shown]
  rw [i5] at z
  rw [Nat.add_mul]
  omega
theorem Sm.lst {B k : Nat} {H : Hp} {a : Addr} {vs : List V} (e : H a = some (.lst vs)) (h : ∀ v ∈ vs, Sm B k H v) : Sm ((B + 2) * vs.length + 3) (k + 1) H (.ref a) := by
  obtain ⟨ds, i1, i2, i3, i4, i5⟩ := Sm.all h
  refine ⟨.list ds, .lst e i1, by simpa only [PyData.showable] using i2, by simp only [PyData.depth]; omega, ?_⟩
  have z := listText_len_le (PyData.shownAll ds)
  simp only [PyData.shown]
  rw [i5] at z
  rw [Nat.add_mul]
  omega

/-- what is tracked in H' and wasn't in H -/
def fresh (H H' : Hp) : Hp := fun b => if (H b).isSome then none else H' b
theorem fresh_sub {H H' : Hp} : Same (fresh H H') H' := fun b o e => by
  unfold fresh at e
  split at e
  · cases e
  · exact e
theorem fresh_on {H H1 H2 : Hp} (s : Same H1 H2) : Same (fresh H H1) (fresh H H2) := fun b o e => by
  unfold fresh at e ⊢
  split at e
  · cases e
  · rename_i h
    rw [if_neg h]
    exact s b o e
theorem fresh_in {H H1 H2 : Hp} (s : Same H H1) : Same (fresh H1 H2) (fresh H H2) := fun b o e => by
  unfold fresh at e ⊢
  split at e
  · cases e
  · rename_i h
    have n : ¬ (H b).isSome = true := fun z => h (by
      obtain ⟨u, hu⟩ := Option.isSome_iff_exists.mp z
      rw [s b u hu]
      rfl)
    rw [if_neg n]
    exact e
theorem fresh_at {H H1 : Hp} {p : Addr} {o : HO} (s : Same H H1) (hp : H1 p = none) : fresh H (upd H1 p o) p = some o := by
  have n : H p = none := s.free hp
  unfold fresh
  rw [n]
  exact upd_same
/-- a change of what was there ahead leaves what is fresh -/
theorem fresh_but {H H1 H2 : Hp} {a : Addr} {u : HO} (ha : H a = some u) (k : KeptBut a H1 H2) : Same (fresh H H1) (fresh H H2) := fun b o e => by
  unfold fresh at e ⊢
  split at e
  · cases e
  · rename_i h
    rw [if_neg h]
    exact k b o e fun z => h (by rw [z, ha]; rfl)

/-! ## Expressions that give small data, made of new objects, and keep what is tracked -/
def DatE (B k : Nat) (te : TE) : Prop := ∀ (σ : L2.St) (H : Hp) (Q : VK), (∀ v H', Same H H' → Sm B k (fresh H H') v → Q v H') → te σ H Q
def DatA (B k n : Nat) (ta : TA) : Prop := ∀ (σ : L2.St) (H : Hp) (Q : List V → Hp → Prop), (∀ vs H', Same H H' → (∀ v ∈ vs, Sm B k (fresh H H') v) → vs.length = n → Q vs H') → ta σ H Q
theorem DatE.mono {B k B' k' : Nat} {te : TE} (h : DatE B k te) (hB : B ≤ B') (hk : k ≤ k') : DatE B' k' te := fun σ H Q q => h σ H Q fun v H' s m => q v H' s (m.mono hB hk)
theorem dat_nil {B k : Nat} : DatA B k 0 tNil := fun σ H Q q => q [] H (Same.refl H) (fun _ h => nomatch h) rfl
theorem dat_cons {B k n : Nat} {te : TE} {ta : TA} (h : DatE B k te) (t : DatA B k n ta) : DatA B k (n + 1) (tCons te ta) := fun σ H Q q =>
  h σ H _ fun v H1 s1 m1 => t σ H1 _ fun vs H2 s2 m2 l => q (v :: vs) H2 (s1.trans s2) (fun u hu => by
    rcases List.mem_cons.mp hu with z | z
    · rw [z]
      exact m1.same (fresh_on s2)
    · exact (m2 u z).same (fresh_in s1)) (by rw [List.length_cons, l])
theorem dat_tup {B k n : Nat} {ta : TA} (h : DatA B k n ta) (hn : n ≤ 1000) : DatE ((B + 2) * n + 3) (k + 1) (tTup ta) := fun σ H Q q =>
  h σ H _ fun vs H1 s1 m1 l => ⟨Nat.le_of_lt (small1000 (by omega)), fun p hp => by
    have sn : Same H1 (upd H1 p (.tup vs)) := Same.new hp
    have m := Sm.tup (fresh_at (o := .tup vs) s1 hp) fun v hv => (m1 v hv).same (fresh_on sn)
    rw [l] at m
    exact q _ _ (s1.trans sn) m⟩
theorem dat_lst {B k n : Nat} {ta : TA} (h : DatA B k n ta) (hn : n ≤ 1000) : DatE ((B + 2) * n + 3) (k + 1) (tLst ta) := fun σ H Q q =>
  h σ H _ fun vs H1 s1 m1 l => ⟨Nat.le_of_lt (small1000 (by omega)), fun p hp => by
    have sn : Same H1 (upd H1 p (.lst vs)) := Same.new hp
    have m := Sm.lst (fresh_at (o := .lst vs) s1 hp) fun v hv => (m1 v hv).same (fresh_on sn)
    rw [l] at m
    exact q _ _ (s1.trans sn) m⟩
theorem sm_flat {H : Hp} {v : V} {d : PyData} (h : Dr H v d) (B k : Nat) (hs : d.showable = true) (hk : d.depth ≤ k) (hB : d.shown.length ≤ B) : Sm B k H v := ⟨d, h, hs, hk, hB⟩
theorem dat_non {B k : Nat} (hB : 4 ≤ B) : DatE B k (tC .non) := fun σ H Q q => q _ H (Same.refl H) (sm_flat .non B k rfl (Nat.zero_le _) (Nat.le_trans (by decide +kernel : (PyData.none).shown.length ≤ 4) hB))
theorem dat_bl {B k : Nat} (b : Bool) (hB : 5 ≤ B) : DatE B k (tC (.bl b)) := fun σ H Q q => q _ H (Same.refl H) (sm_flat (.bl b) B k rfl (Nat.zero_le _) (Nat.le_trans (by cases b <;> decide +kernel : (PyData.bool b).shown.length ≤ 5) hB))
theorem sm_int {H : Hp} {B k : Nat} (i : Int) (hs : (PyData.int i).showable = true) (hB : (PyData.int i).shown.length ≤ B) : Sm B k H (.int i) := sm_flat (.int i) B k hs (Nat.zero_le _) hB
theorem dat_int {B k : Nat} (i : Int) (hs : (PyData.int i).showable = true) (hB : (PyData.int i).shown.length ≤ B) : DatE B k (tC (.int i)) := fun σ H Q q => q _ H (Same.refl H) (sm_int i hs hB)
theorem dat_str {B k : Nat} (x : Str) (hB : (PyData.str x).shown.length ≤ B) : DatE B k (tC (.str x)) := fun σ H Q q => q _ H (Same.refl H) (sm_flat (.str x) B k rfl (Nat.zero_le _) hB)
theorem dat_neg {B k : Nat} (i : Int) (hs : (PyData.int (-i)).showable = true) (hB : (PyData.int (-i)).shown.length ≤ B) : DatE B k (tUn (rU fun i => .int (-i)) (tC (.int i))) := fun σ H Q q => ⟨_, rfl, q _ H (Same.refl H) (sm_int _ hs hB)⟩
theorem dat_pow {B k : Nat} (i j : Int) (c : CPow i j) (hs : (PyData.int (i ^ j.toNat)).showable = true) (hB : (PyData.int (i ^ j.toNat)).shown.length ≤ B) : DatE B k (tOp (rI CPow fun i j => .int (i ^ j.toNat)) (tC (.int i)) (tC (.int j))) :=
  fun σ H Q q => ⟨_, _, rfl, rfl, c, q _ H (Same.refl H) (sm_int _ hs hB)⟩
theorem dat_dnew {B k : Nat} (hB : 2 ≤ B) (hk : 1 ≤ k) : DatE B k tDNewK := fun σ H Q q p hp => by
  refine q _ _ (Same.new hp) ⟨.dict [], ?_, by decide +kernel, Nat.le_trans (by decide +kernel) hk, Nat.le_trans (by decide +kernel : (PyData.dict []).shown.length ≤ 2) hB⟩
  exact Dr.dic (kvs := []) (ds := []) (fresh_at (Same.refl H) hp) .nil
/-- {x: i} -/
theorem dat_disp1 {B k : Nat} (x : Str) (i : Int) (hs : (PyData.dict [(.str x, .int i)]).showable = true) (hB : (PyData.dict [(.str x, .int i)]).shown.length ≤ B) (hk : (PyData.dict [(.str x, .int i)]).depth ≤ k) : DatE B k (tDisp [(tC (.str x), tC (.int i))]) := fun σ H Q q p hp => by
  refine ⟨upd_same, [(Sum.inr x, .int i)], rfl, (by decide : 1 ≤ 15), ?_⟩
  have e : mergeK [] [((Sum.inr x : Key), V.int i)] = [((Sum.inr x : Key), V.int i)] := by
    unfold mergeK putK
    simp
  rw [e]
  have f : fresh H (upd (upd H p (.dK [])) p (.dK [((Sum.inr x : Key), V.int i)])) p = some (.dK [((Sum.inr x : Key), V.int i)]) := by
    unfold fresh
    rw [hp]
    exact upd_same
  refine q _ _ (fun b o hb => ?_) ⟨_, Dr.dic (kvs := [((Sum.inr x : Key), V.int i)]) (ds := [.int i]) f (.cons (.int i) .nil), hs, hk, hB⟩
  have nb : b ≠ p := ne_of_none hb hp
  rw [upd_ne nb, upd_ne nb]
  exact hb
/-- x = [data ..] -/
theorem asg_lst {B k n i : Nat} {ta : TA} {D : Ends} {σ : L2.St} {H : Hp} (h : DatA B k n ta) (hn : n ≤ 1000) (q : ∀ vs p H', Same H H' → H p = none → H' p = some (.lst vs) → (∀ v ∈ vs, Sm B k (fresh H H') v) → vs.length = n → D.nx (σ.set i (some (.ref p))) H') :
    tAsg (tLst ta) (gName i) D σ H :=
  h σ H _ fun vs H1 s1 m1 l => ⟨Nat.le_of_lt (small1000 (by omega)), fun p hp => by
    have sn : Same H1 (upd H1 p (.lst vs)) := Same.new hp
    exact q vs p _ (s1.trans sn) (s1.free hp) upd_same (fun v hv => (m1 v hv).same (fresh_on sn)) l⟩
/-- x = x + [data ..] -/
theorem asg_cat {B k n i : Nat} {ta : TA} {D : Ends} {σ : L2.St} {H0 H : Hp} {p : Addr} {us : List V} (h : DatA B k n ta) (hn : n ≤ 1000) (hu : us.length ≤ 1000) (hv : σ[i]? = some (some (.ref p))) (hp : H p = some (.lst us)) (s0 : Same H0 H) (m0 : ∀ v ∈ us, Sm B k (fresh H0 H) v)
    (q : ∀ vs l H', Same H H' → H l = none → H' l = some (.lst vs) → (∀ v ∈ vs, Sm B k (fresh H0 H') v) → vs.length = us.length + n → D.nx (σ.set i (some (.ref l))) H') :
    tAsg (tOp rCat (tVar i) (tLst ta)) (gName i) D σ H :=
  ⟨_, hv, h σ H _ fun vs H1 s1 m1 l => ⟨Nat.le_of_lt (small1000 (by omega)), fun p2 hp2 => by
    have s2 : Same H1 (upd H1 p2 (.lst vs)) := Same.new hp2
    refine ⟨p, p2, us, vs, rfl, rfl, s2 _ _ (s1 _ _ hp), upd_same, ?_, fun l3 hl3 => ?_⟩
    · rw [l]
      exact Nat.le_of_lt (Nat.lt_of_le_of_lt (Nat.add_le_add hu hn) (by decide))
    have s3 : Same (upd H1 p2 (.lst vs)) (upd (upd H1 p2 (.lst vs)) l3 (.lst (us ++ vs))) := Same.new hl3
    refine q (us ++ vs) l3 _ ((s1.trans s2).trans s3) ((s1.trans s2).free hl3) upd_same (fun v hv => ?_) (by rw [List.length_append, l])
    rcases List.mem_append.mp hv with z | z
    · exact (m0 v z).same (fresh_on ((s1.trans s2).trans s3))
    · exact (m1 v z).same (fun b o e => fresh_in s0 b o (fresh_on (s2.trans s3) b o e))⟩⟩
end Lm

namespace Lm
open PySem PySem.Spec PyProof.Rows L2
open C8 (Cal Mak Met pe_c pe_mk pe_mt pe_mt0 pss_cut tCut)

/-! ## The package's errors: each an own class whose __init__ (MirrorError's) keeps its argument as value -/
/-- MirrorError.__init__ -/
def spErr (K : PySem.W.Frag) : Sp := fun vs H Q _ => ∃ (a C : Addr) (v : V), vs = [.ref a, v] ∧ OexC K C ∧ PySem.W.findIn K (.ref C) "value" = some none ∧ H a = some (exo a C none) ∧
  ∀ dx, H dx = none → dx ≠ a → Q .non (upd (upd H dx (exd dx [("value", v)])) a (exo a C (some dx)))
/-- what the written part says of one of them -/
structure ErrC (K : PySem.W.Frag) (C fI : Addr) : Prop where
  T : OexC K C
  iC : PySem.W.findIn K (.ref C) "__init__" = some (some (.ref fI))
  nv : PySem.W.findIn K (.ref C) "value" = some none
  xf : XfC K C
  ex : ExcC K C
/-- an error of the class named x, made with v, stands at a -/
def ErrAt (K : PySem.W.Frag) (H : Hp) (a : Addr) (x : Str) (v : V) : Prop := ∃ d, H a = some (exo a (He.ga K x) (some d)) ∧ H d = some (exd d [("value", v)])
theorem ErrAt.same {K : PySem.W.Frag} {H H' : Hp} {a : Addr} {x : Str} {v : V} (h : ErrAt K H a x v) (s : Same H H') : ErrAt K H' a x v := by
  obtain ⟨d, h1, h2⟩ := h
  exact ⟨d, s _ _ h1, s _ _ h2⟩
def subNames : List Str := ["BadRatio", "BadText", "BadBook", "NoName", "BadLine", "Used", "Few", "BadRows", "BadScript", "BadDot", "Long", "BadNumber", "OtherBook", "BadClaim", "BadNames", "BadLooks", "Nothing", "Loose", "Needed", "NotSure", "BadOffers", "BadWishes", "Full", "NoDot", "NothingToUndo", "NothingToRedo", "NoTrial", "BadJournal", "BadSay"]
def errNames : List Str := "MirrorError" :: subNames
/-- all that a law needs to know of the errors -/
structure Errs (P : Program) (w : World) (K : PySem.W.Frag) (mg : Str → Option Value) (base : Heap) : Prop where
  m : ∀ {x : Str}, x ∈ errNames → mg x = some (.ref (He.ga K x))
  ini : ∃ (fI : Addr) (fd : FuncData), (∀ x ∈ errNames, ErrC K (He.ga K x) fI) ∧ PySem.W.typeIn K (.ref fI) = some (.type "function") ∧ FnOk P w K mg base CX0 1 fI fd ["self", "value"] (spErr K) ∧ Binds K fd ["self", "value"] []
  kit : ∀ x ∈ errNames, ∀ y ∈ subNames, PySem.W.kitOne K (.ref (He.ga K x)) (.ref (He.ga K y)) = some (decide (x = y))
  kitM : ∀ x ∈ errNames, PySem.W.kitOne K (.ref (He.ga K x)) (.ref (He.ga K "MirrorError")) = some true
  kitV : ∀ x ∈ errNames, PySem.W.kitOne K (.ref (He.ga K x)) (.type "ValueError") = some true
theorem Errs.err {P : Program} {w : World} {K : PySem.W.Frag} {mg : Str → Option Value} {base : Heap} (Z : Errs P w K mg base) {x : Str} (h : x ∈ errNames) : ∃ fI, ErrC K (He.ga K x) fI := by
  obtain ⟨fI, _, h1, _⟩ := Z.ini
  exact ⟨fI, h1 x h⟩
/-- Err(e) -/
def tErr (K : PySem.W.Frag) (x : Str) (ta : TA) : TE := tMkV (He.ga K x) (spErr K) ta
theorem pe_err {X : Cx} {j : Nat} {x : Str} {e : Expr} {p pos : Pos} {ta : TA} (Z : Errs X.prog X.w X.K X.mg X.base) (hx : x ∈ errNames) (hr : Room j X.A) (hj : 2 ≤ j) (hg : Gl X x) (ha : PA X [e] ta)
    (hdb : (x == ("__debug__" : Str)) = false := by decide) (he : starEach [e] X.env = (false, eval e X.env) :: starEach [] X.env := by rfl) (hpl : (backTo pos (starEach [] X.env)).any (·.1) = false := by rfl) :
    PE X (.Call (.Name x p) [e] [] pos) (tErr X.K x ta) := by
  obtain ⟨fI, fd, h1, tI, F, b⟩ := Z.ini
  have C := h1 x hx
  exact pe_oexV C.T C.iC tI F (hr.mono hj) b pass0 hg (Z.m hx) ha hdb he hpl
/-- Err(v), v what stands in a slot -/
theorem err_var {P : Program} {w : World} {K : PySem.W.Frag} {mg : Str → Option Value} {base : Heap} {x : Str} {i : Nat} {v : V} {σ : L2.St} {H : Hp} {Q : VK} (Z : Errs P w K mg base) (hx : x ∈ errNames) (hv : σ[i]? = some (some v))
    (h : ∀ a H2, Same H H2 → H a = none → ErrAt K H2 a x v → Q (.ref a) H2) : tErr K x (tCons (tVar i) tNil) σ H Q := by
  obtain ⟨fI, C⟩ := Z.err hx
  refine ⟨v, hv, (by decide : 1 ≤ 1000), fun a ha => ⟨a, _, v, rfl, C.T, C.nv, upd_same, fun dx hdx hne => ⟨rfl, ?_⟩⟩⟩
  have hd : H dx = none := by
    rw [upd_ne hne] at hdx
    exact hdx
  refine h a _ (fun b o hb => ?_) ha ⟨dx, upd_same, by rw [upd_ne hne]; exact upd_same⟩
  have n1 : b ≠ a := ne_of_none hb ha
  rw [upd_ne n1, upd_ne (ne_of_none hb hd), upd_ne n1]
  exact hb
/-- (x, Err(v)), v what stands in a slot -/
theorem pair_made {P : Program} {w : World} {K : PySem.W.Frag} {mg : Str → Option Value} {base : Heap} {x : Str} {i : Nat} {v : V} {σ : L2.St} {H : Hp} {Q : VK} (Z : Errs P w K mg base) (hx : x ∈ errNames) (hv : σ[i]? = some (some v))
    (h : ∀ t a H', Same H H' → H t = none → H' t = some (.tup [.str x, .ref a]) → ErrAt K H' a x v → Q (.ref t) H') : tTup (tCons (tC (.str x)) (tCons (tErr K x (tCons (tVar i) tNil)) tNil)) σ H Q := by
  show tErr K x (tCons (tVar i) tNil) σ H (fun y H2 => [V.str x, y].length ≤ sizeLine ∧ ∀ p, H2 p = none → Q (.ref p) (upd H2 p (.tup [.str x, y])))
  refine err_var Z hx hv fun a H2 s2 ha e2 => ⟨(by show 2 ≤ sizeLine; decide), fun t ht => ?_⟩
  exact h t a _ (s2.trans (Same.new ht)) (s2.free ht) upd_same (e2.same (Same.new ht))
/-- isinstance(made, Err) -/
theorem isi_made {P : Program} {w : World} {K : PySem.W.Frag} {mg : Str → Option Value} {base : Heap} {x y : Str} {e : Addr} {v : V} {H : Hp} {Q : VK} (Z : Errs P w K mg base) (hx : x ∈ errNames) (hy : y ∈ subNames) (h : ErrAt K H e x v)
    (q : Q (.bl (decide (x = y))) H) : rIsE K [.ref e, .ref (He.ga K y)] H Q := by
  obtain ⟨d, h1, h2⟩ := h
  obtain ⟨fI, C⟩ := Z.err hx
  exact ⟨_, _, _, _, _, rfl, .own _, .inr ⟨e, _, d, rfl, rfl, C.ex, h1, _, h2⟩, Z.kit x hx y hy, q⟩
theorem isi_M {P : Program} {w : World} {K : PySem.W.Frag} {mg : Str → Option Value} {base : Heap} {x : Str} {e : Addr} {v : V} {H : Hp} {Q : VK} (Z : Errs P w K mg base) (hx : x ∈ errNames) (h : ErrAt K H e x v)
    (q : Q (.bl true) H) : rIsE K [.ref e, .ref (He.ga K "MirrorError")] H Q := by
  obtain ⟨d, h1, h2⟩ := h
  obtain ⟨fI, C⟩ := Z.err hx
  exact ⟨_, _, _, _, _, rfl, .own _, .inr ⟨e, _, d, rfl, rfl, C.ex, h1, _, h2⟩, Z.kitM x hx, q⟩
theorem isi_V {P : Program} {w : World} {K : PySem.W.Frag} {mg : Str → Option Value} {base : Heap} {x : Str} {e : Addr} {v : V} {H : Hp} {Q : VK} (Z : Errs P w K mg base) (hx : x ∈ errNames) (h : ErrAt K H e x v)
    (q : Q (.bl true) H) : rIsE K [.ref e, .ty "ValueError"] H Q := by
  obtain ⟨d, h1, h2⟩ := h
  obtain ⟨fI, C⟩ := Z.err hx
  exact ⟨_, _, _, _, _, rfl, .ty _, .inr ⟨e, _, d, rfl, rfl, C.ex, h1, _, h2⟩, Z.kitV x hx, q⟩
end Lm

namespace Lm
open PySem PySem.Spec PyProof.Rows L2
open C8 (Cal Mak Met pe_c pe_mk pe_mt pe_mt0 pss_cut tCut)

/-! ## Lists of named errors, lists of named answers -/
/-- at l: pairs (name, error of that name made with v) -/
def EL (K : PySem.W.Frag) (H : Hp) (l : Addr) (v : V) (ts : List Addr) : Prop := H l = some (.lst (ts.map V.ref)) ∧ ∀ t ∈ ts, ∃ x e, x ∈ subNames ∧ H t = some (.tup [.str x, .ref e]) ∧ ErrAt K H e x v
theorem exo_lst {e C : Addr} {d : Option Addr} {xs : List V} : exo e C d ≠ .lst xs := fun z => by
  have z' : HO.ext _ = HO.lst xs := z
  cases z'
theorem exd_lst {e : Addr} {fs : List (Str × V)} {xs : List V} : exd e fs ≠ .lst xs := fun z => by
  have z' : HO.ext _ = HO.lst xs := z
  cases z'
/-- an error isn't touched by a list's change -/
theorem ErrAt.upd {K : PySem.W.Frag} {H : Hp} {a l : Addr} {x : Str} {v : V} {xs : List V} {o : HO} (h : ErrAt K H a x v) (hl : H l = some (.lst xs)) : ErrAt K (upd H l o) a x v := by
  obtain ⟨d, h1, h2⟩ := h
  exact ⟨d, by rw [upd_ne (ne_of h1 hl exo_lst)]; exact h1, by rw [upd_ne (ne_of h2 hl exd_lst)]; exact h2⟩
theorem el_put {K : PySem.W.Frag} {H H' : Hp} {l : Addr} {v : V} {ts us : List Addr} (h : EL K H l v ts) (s : Same H H') (hu : ∀ t ∈ us, ∃ x e, x ∈ subNames ∧ H' t = some (.tup [.str x, .ref e]) ∧ ErrAt K H' e x v) : EL K (upd H' l (.lst ((ts ++ us).map V.ref))) l v (ts ++ us) := by
  have hl := s _ _ h.1
  refine ⟨upd_same, fun t ht => ?_⟩
  have key : ∃ x e, x ∈ subNames ∧ H' t = some (.tup [.str x, .ref e]) ∧ ErrAt K H' e x v := by
    rcases List.mem_append.mp ht with z | z
    · obtain ⟨x, e, hx, h1, h2⟩ := h.2 t z
      exact ⟨x, e, hx, s _ _ h1, h2.same s⟩
    · exact hu t z
  obtain ⟨x, e, hx, h1, h2⟩ := key
  exact ⟨x, e, hx, by rw [upd_ne (ne_of h1 hl (by intro z; cases z))]; exact h1, h2.upd hl⟩
section
variable {P : Program} {w : World} {K : PySem.W.Frag} {mg : Str → Option Value} {base : Heap}
abbrev tPairE (K : PySem.W.Frag) (x : Str) : TE := tTup (tCons (tC (.str x)) (tCons (tErr K x (tCons (tVar 0) tNil)) tNil))
theorem lst2E {x y : Str} {v : V} {σ : L2.St} {H : Hp} {Q : VK} (Z : Errs P w K mg base) (hx : x ∈ errNames) (hy : y ∈ errNames) (hv : σ[0]? = some (some v))
    (q : ∀ p t u a b H', Same H H' → H p = none → H' p = some (.lst [.ref t, .ref u]) → H' t = some (.tup [.str x, .ref a]) → H' u = some (.tup [.str y, .ref b]) → ErrAt K H' a x v → ErrAt K H' b y v → Q (.ref p) H') :
    tLst (tCons (tPairE K x) (tCons (tPairE K y) tNil)) σ H Q := by
  show tPairE K x σ H (fun x1 H1 => tPairE K y σ H1 (fun y1 H2 => [x1, y1].length ≤ sizeLine ∧ ∀ p, H2 p = none → Q (.ref p) (upd H2 p (.lst [x1, y1]))))
  refine pair_made Z hx hv fun t a H1 s1 f1 t1 e1 => ?_
  refine pair_made Z hy hv fun u b H2 s2 f2 t2 e2 => ?_
  refine ⟨(by show 2 ≤ sizeLine; decide), fun p hp => ?_⟩
  have s3 : Same H2 (upd H2 p (.lst [.ref t, .ref u])) := Same.new hp
  exact q p t u a b _ ((s1.trans s2).trans s3) ((s1.trans s2).free hp) upd_same (s3 _ _ (s2 _ _ t1)) (s3 _ _ t2) (e1.same (s2.trans s3)) (e2.same s3)
theorem lst1E {x : Str} {v : V} {σ : L2.St} {H : Hp} {Q : VK} (Z : Errs P w K mg base) (hx : x ∈ errNames) (hv : σ[0]? = some (some v))
    (q : ∀ p t a H', Same H H' → H p = none → H' p = some (.lst [.ref t]) → H' t = some (.tup [.str x, .ref a]) → ErrAt K H' a x v → Q (.ref p) H') :
    tLst (tCons (tPairE K x) tNil) σ H Q := by
  show tPairE K x σ H (fun x1 H1 => [x1].length ≤ sizeLine ∧ ∀ p, H1 p = none → Q (.ref p) (upd H1 p (.lst [x1])))
  refine pair_made Z hx hv fun t a H1 s1 f1 t1 e1 => ?_
  refine ⟨(by show 1 ≤ sizeLine; decide), fun p hp => ?_⟩
  have s3 : Same H1 (upd H1 p (.lst [.ref t])) := Same.new hp
  exact q p t a _ (s1.trans s3) (s1.free hp) upd_same (s3 _ _ t1) (e1.same s3)
/-- what a state of _law_errors says: the value, the list found so far; what was tracked at the entry is kept -/
def ErrSt (K : PySem.W.Frag) (v : V) (H0 : Hp) (σ : L2.St) (H : Hp) (n : Nat) : Prop := ∃ (l : Addr) (ts : List Addr), σ = [some v, some (.ref l)] ∧ EL K H l v ts ∧ Same H0 H ∧ H0 l = none ∧ ts.length = n
/-- found.extend([(x, X(value)), (y, Y(value))]) -/
theorem err_ext2 {x y : Str} {v : V} {H0 : Hp} {σ : L2.St} {H : Hp} {D : Ends} {n : Nat} (Z : Errs P w K mg base) (hx : x ∈ subNames) (hy : y ∈ subNames) (hn : n ≤ 100) (h : ErrSt K v H0 σ H n) (q : ∀ H', ErrSt K v H0 σ H' (n + 2) → D.nx σ H') :
    tDrop (tBM K "list" rExtend (tVar 1) (tCons (tLst (tCons (tPairE K x) (tCons (tPairE K y) tNil))) tNil)) D σ H := by
  obtain ⟨l, ts, rfl, hE, s0, n0, hl⟩ := h
  refine ⟨_, rfl, .inl ⟨rfl, _, SqL.of hE.1⟩, ?_⟩
  show tLst (tCons (tPairE K x) (tCons (tPairE K y) tNil)) _ H (fun z H2 => rExtend (.ref l) [z] H2 fun _ H3 => D.nx [some v, some (.ref l)] H3)
  refine lst2E Z (List.mem_cons_of_mem _ hx) (List.mem_cons_of_mem _ hy) rfl fun p t u a b H' s hp ep et eu ea eb => ?_
  refine ⟨l, p, _, _, rfl, rfl, s _ _ hE.1, ep, ?_, ?_⟩
  · rw [List.length_map, hl]
    exact Nat.le_of_lt (small1000 (by show n + 2 ≤ 1000; omega))
  have em : ts.map V.ref ++ [V.ref t, V.ref u] = (ts ++ [t, u]).map V.ref := by simp
  rw [em]
  refine q _ ⟨l, ts ++ [t, u], rfl, el_put hE s fun z hz => ?_, fun b' o hb => ?_, n0, by rw [List.length_append, hl]; rfl⟩
  · rcases List.mem_cons.mp hz with rfl | hz
    · exact ⟨x, a, hx, et, ea⟩
    · rcases List.mem_cons.mp hz with rfl | hz
      · exact ⟨y, b, hy, eu, eb⟩
      · cases hz
  · rw [upd_ne (ne_of_none hb n0)]
    exact s _ _ (s0 _ _ hb)
/-- found.extend([(x, X(value))]) -/
theorem err_ext1 {x : Str} {v : V} {H0 : Hp} {σ : L2.St} {H : Hp} {D : Ends} {n : Nat} (Z : Errs P w K mg base) (hx : x ∈ subNames) (hn : n ≤ 100) (h : ErrSt K v H0 σ H n) (q : ∀ H', ErrSt K v H0 σ H' (n + 1) → D.nx σ H') :
    tDrop (tBM K "list" rExtend (tVar 1) (tCons (tLst (tCons (tPairE K x) tNil)) tNil)) D σ H := by
  obtain ⟨l, ts, rfl, hE, s0, n0, hl⟩ := h
  refine ⟨_, rfl, .inl ⟨rfl, _, SqL.of hE.1⟩, ?_⟩
  show tLst (tCons (tPairE K x) tNil) _ H (fun z H2 => rExtend (.ref l) [z] H2 fun _ H3 => D.nx [some v, some (.ref l)] H3)
  refine lst1E Z (List.mem_cons_of_mem _ hx) rfl fun p t a H' s hp ep et ea => ?_
  refine ⟨l, p, _, _, rfl, rfl, s _ _ hE.1, ep, ?_, ?_⟩
  · rw [List.length_map, hl]
    exact Nat.le_of_lt (small1000 (by show n + 1 ≤ 1000; omega))
  have em : ts.map V.ref ++ [V.ref t] = (ts ++ [t]).map V.ref := by simp
  rw [em]
  refine q _ ⟨l, ts ++ [t], rfl, el_put hE s fun z hz => ?_, fun b' o hb => ?_, n0, by rw [List.length_append, hl]; rfl⟩
  · rcases List.mem_cons.mp hz with rfl | hz
    · exact ⟨x, a, hx, et, ea⟩
    · cases hz
  · rw [upd_ne (ne_of_none hb n0)]
    exact s _ _ (s0 _ _ hb)
/-- found = [(x, X(value)), (y, Y(value))] -/
theorem err_first {x y : Str} {v : V} {H : Hp} {D : Ends} (Z : Errs P w K mg base) (hx : x ∈ subNames) (hy : y ∈ subNames) (q : ∀ σ H', ErrSt K v H σ H' 2 → D.nx σ H') :
    tAsg (tLst (tCons (tPairE K x) (tCons (tPairE K y) tNil))) (gName 1) D [some v, none] H := by
  show tLst (tCons (tPairE K x) (tCons (tPairE K y) tNil)) [some v, none] H (fun z H1 => D.nx ([some v, none].set 1 (some z)) H1)
  refine lst2E Z (List.mem_cons_of_mem _ hx) (List.mem_cons_of_mem _ hy) rfl fun p t u a b H' s hp ep et eu ea eb => ?_
  refine q _ _ ⟨p, [t, u], rfl, ⟨ep, fun z hz => ?_⟩, s, hp, rfl⟩
  rcases List.mem_cons.mp hz with rfl | hz
  · exact ⟨x, a, hx, et, ea⟩
  · rcases List.mem_cons.mp hz with rfl | hz
    · exact ⟨y, b, hy, eu, eb⟩
    · cases hz
/-- _law_errors -/
def spErrors (K : PySem.W.Frag) : Sp := fun vs H Q _ => ∃ v, vs = [v] ∧ ∀ (l : Addr) (ts : List Addr) (H' : Hp), Same H H' → EL K H' l v ts → ts.length = 29 → Q (.ref l) H'

/-! ### the names of the classes that an error is of -/
/-- at l: pairs (name, is it of that name) for an error of the name X -/
def KL (H : Hp) (l : Addr) (X : Str) (ts : List (Addr × Str)) : Prop := H l = some (.lst (ts.map fun p => V.ref p.1)) ∧ ∀ p ∈ ts, H p.1 = some (.tup [.str p.2, .bl (decide (X = p.2))])
abbrev tPairK (K : PySem.W.Frag) (y : Str) : TE := tTup (tCons (tC (.str y)) (tCons (tCB (rIsE K) (tCons (tVar 0) (tCons (tC (.ref (He.ga K y))) tNil))) tNil))
theorem pairk {X y : Str} {e : Addr} {v : V} {σ : L2.St} {H : Hp} {Q : VK} (Z : Errs P w K mg base) (hX : X ∈ errNames) (hy : y ∈ subNames) (hv : σ[0]? = some (some (.ref e))) (hE : ErrAt K H e X v)
    (h : ∀ t, H t = none → Q (.ref t) (upd H t (.tup [.str y, .bl (decide (X = y))]))) : tPairK K y σ H Q :=
  ⟨_, hv, (show rIsE K [.ref e, .ref (He.ga K y)] H (fun b H' => [V.str y, b].length ≤ sizeLine ∧ ∀ p, H' p = none → Q (.ref p) (upd H' p (.tup [.str y, b]))) from isi_made Z hX hy hE ⟨(by show 2 ≤ sizeLine; decide), fun t ht => h t ht⟩)⟩
theorem lst2K {X x y : Str} {e : Addr} {v : V} {σ : L2.St} {H : Hp} {Q : VK} (Z : Errs P w K mg base) (hX : X ∈ errNames) (hx : x ∈ subNames) (hy : y ∈ subNames) (hv : σ[0]? = some (some (.ref e))) (hE : ErrAt K H e X v)
    (q : ∀ p t u H', Same H H' → H p = none → H' p = some (.lst [.ref t, .ref u]) → H' t = some (.tup [.str x, .bl (decide (X = x))]) → H' u = some (.tup [.str y, .bl (decide (X = y))]) → Q (.ref p) H') :
    tLst (tCons (tPairK K x) (tCons (tPairK K y) tNil)) σ H Q := by
  show tPairK K x σ H (fun x1 H1 => tPairK K y σ H1 (fun y1 H2 => [x1, y1].length ≤ sizeLine ∧ ∀ p, H2 p = none → Q (.ref p) (upd H2 p (.lst [x1, y1]))))
  refine pairk Z hX hx hv hE fun t ht => ?_
  have s1 : Same H (upd H t (.tup [.str x, .bl (decide (X = x))])) := Same.new ht
  refine pairk Z hX hy hv (hE.same s1) fun u hu => ?_
  have s2 := Same.new (o := .tup [.str y, .bl (decide (X = y))]) hu
  refine ⟨(by show 2 ≤ sizeLine; decide), fun p hp => ?_⟩
  have s3 := Same.new (o := .lst [.ref t, .ref u]) hp
  exact q p t u _ ((s1.trans s2).trans s3) ((s1.trans s2).free hp) upd_same (s3 _ _ (s2 _ _ upd_same)) (s3 _ _ upd_same)
theorem lst1K {X x : Str} {e : Addr} {v : V} {σ : L2.St} {H : Hp} {Q : VK} (Z : Errs P w K mg base) (hX : X ∈ errNames) (hx : x ∈ subNames) (hv : σ[0]? = some (some (.ref e))) (hE : ErrAt K H e X v)
    (q : ∀ p t H', Same H H' → H p = none → H' p = some (.lst [.ref t]) → H' t = some (.tup [.str x, .bl (decide (X = x))]) → Q (.ref p) H') :
    tLst (tCons (tPairK K x) tNil) σ H Q := by
  show tPairK K x σ H (fun x1 H1 => [x1].length ≤ sizeLine ∧ ∀ p, H1 p = none → Q (.ref p) (upd H1 p (.lst [x1])))
  refine pairk Z hX hx hv hE fun t ht => ?_
  have s1 : Same H (upd H t (.tup [.str x, .bl (decide (X = x))])) := Same.new ht
  refine ⟨(by show 1 ≤ sizeLine; decide), fun p hp => ?_⟩
  have s3 := Same.new (o := .lst [.ref t]) hp
  exact q p t _ (s1.trans s3) (s1.free hp) upd_same (s3 _ _ upd_same)
def KSt (K : PySem.W.Frag) (X : Str) (e : Addr) (v : V) (H0 : Hp) (σ : L2.St) (H : Hp) (ns : List Str) : Prop := ∃ (l : Addr) (ts : List (Addr × Str)), σ = [some (.ref e), some (.ref l), none, none] ∧ KL H l X ts ∧ ErrAt K H e X v ∧ Same H0 H ∧ H0 l = none ∧ ts.map (·.2) = ns
theorem kl_put {H H' : Hp} {l : Addr} {X : Str} {ts us : List (Addr × Str)} (h : KL H l X ts) (s : Same H H') (hu : ∀ p ∈ us, H' p.1 = some (.tup [.str p.2, .bl (decide (X = p.2))])) : KL (upd H' l (.lst ((ts ++ us).map fun p => V.ref p.1))) l X (ts ++ us) := by
  have hl := s _ _ h.1
  refine ⟨upd_same, fun p hp => ?_⟩
  have key : H' p.1 = some (.tup [.str p.2, .bl (decide (X = p.2))]) := by
    rcases List.mem_append.mp hp with z | z
    · exact s _ _ (h.2 p z)
    · exact hu p z
  rw [upd_ne (ne_of key hl (by intro z; cases z))]
  exact key
theorem k_ext2 {X x y : Str} {e : Addr} {v : V} {H0 : Hp} {σ : L2.St} {H : Hp} {D : Ends} {ns : List Str} (Z : Errs P w K mg base) (hX : X ∈ errNames) (hx : x ∈ subNames) (hy : y ∈ subNames) (hn : ns.length ≤ 100) (h : KSt K X e v H0 σ H ns)
    (q : ∀ H', KSt K X e v H0 σ H' (ns ++ [x, y]) → D.nx σ H') : tDrop (tBM K "list" rExtend (tVar 1) (tCons (tLst (tCons (tPairK K x) (tCons (tPairK K y) tNil))) tNil)) D σ H := by
  obtain ⟨l, ts, rfl, hK, hE, s0, n0, hl⟩ := h
  refine ⟨_, rfl, .inl ⟨rfl, _, SqL.of hK.1⟩, ?_⟩
  show tLst (tCons (tPairK K x) (tCons (tPairK K y) tNil)) _ H (fun z H2 => rExtend (.ref l) [z] H2 fun _ H3 => D.nx [some (.ref e), some (.ref l), none, none] H3)
  refine lst2K Z hX hx hy rfl hE fun p t u H' s hp ep et eu => ?_
  refine ⟨l, p, _, _, rfl, rfl, s _ _ hK.1, ep, ?_, ?_⟩
  · have : ts.length = ns.length := by rw [← hl, List.length_map]
    rw [List.length_map, this]
    exact Nat.le_of_lt (small1000 (by show ns.length + 2 ≤ 1000; omega))
  have em : ts.map (fun p => V.ref p.1) ++ [V.ref t, V.ref u] = (ts ++ [(t, x), (u, y)]).map fun p => V.ref p.1 := by simp
  rw [em]
  refine q _ ⟨l, ts ++ [(t, x), (u, y)], rfl, kl_put hK s fun z hz => ?_, (hE.same s).upd (s _ _ hK.1), fun b' o hb => ?_, n0, by rw [List.map_append, hl]; rfl⟩
  · rcases List.mem_cons.mp hz with rfl | hz
    · exact et
    · rcases List.mem_cons.mp hz with rfl | hz
      · exact eu
      · cases hz
  · rw [upd_ne (ne_of_none hb n0)]
    exact s _ _ (s0 _ _ hb)
theorem k_ext1 {X x : Str} {e : Addr} {v : V} {H0 : Hp} {σ : L2.St} {H : Hp} {D : Ends} {ns : List Str} (Z : Errs P w K mg base) (hX : X ∈ errNames) (hx : x ∈ subNames) (hn : ns.length ≤ 100) (h : KSt K X e v H0 σ H ns)
    (q : ∀ H', KSt K X e v H0 σ H' (ns ++ [x]) → D.nx σ H') : tDrop (tBM K "list" rExtend (tVar 1) (tCons (tLst (tCons (tPairK K x) tNil)) tNil)) D σ H := by
  obtain ⟨l, ts, rfl, hK, hE, s0, n0, hl⟩ := h
  refine ⟨_, rfl, .inl ⟨rfl, _, SqL.of hK.1⟩, ?_⟩
  show tLst (tCons (tPairK K x) tNil) _ H (fun z H2 => rExtend (.ref l) [z] H2 fun _ H3 => D.nx [some (.ref e), some (.ref l), none, none] H3)
  refine lst1K Z hX hx rfl hE fun p t H' s hp ep et => ?_
  refine ⟨l, p, _, _, rfl, rfl, s _ _ hK.1, ep, ?_, ?_⟩
  · have : ts.length = ns.length := by rw [← hl, List.length_map]
    rw [List.length_map, this]
    exact Nat.le_of_lt (small1000 (by show ns.length + 1 ≤ 1000; omega))
  have em : ts.map (fun p => V.ref p.1) ++ [V.ref t] = (ts ++ [(t, x)]).map fun p => V.ref p.1 := by simp
  rw [em]
  refine q _ ⟨l, ts ++ [(t, x)], rfl, kl_put hK s fun z hz => ?_, (hE.same s).upd (s _ _ hK.1), fun b' o hb => ?_, n0, by rw [List.map_append, hl]; rfl⟩
  · rcases List.mem_cons.mp hz with rfl | hz
    · exact et
    · cases hz
  · rw [upd_ne (ne_of_none hb n0)]
    exact s _ _ (s0 _ _ hb)
theorem k_app {X x : Str} {e : Addr} {v : V} {H0 : Hp} {σ : L2.St} {H : Hp} {D : Ends} {ns : List Str} (Z : Errs P w K mg base) (hX : X ∈ errNames) (hx : x ∈ subNames) (hn : ns.length ≤ 100) (h : KSt K X e v H0 σ H ns)
    (q : ∀ H', KSt K X e v H0 σ H' (ns ++ [x]) → D.nx σ H') : tDrop (tBM K "list" rAppend (tVar 1) (tCons (tPairK K x) tNil)) D σ H := by
  obtain ⟨l, ts, rfl, hK, hE, s0, n0, hl⟩ := h
  refine ⟨_, rfl, .inl ⟨rfl, _, SqL.of hK.1⟩, ?_⟩
  show tPairK K x _ H (fun z H2 => rAppend (.ref l) [z] H2 fun _ H3 => D.nx [some (.ref e), some (.ref l), none, none] H3)
  refine pairk Z hX hx rfl hE fun t ht => ?_
  have s : Same H (upd H t (.tup [.str x, .bl (decide (X = x))])) := Same.new ht
  refine ⟨l, _, _, rfl, rfl, s _ _ hK.1, ?_, ?_⟩
  · have : ts.length = ns.length := by rw [← hl, List.length_map]
    rw [List.length_map, this]
    exact small1000 (by omega)
  have em : ts.map (fun p => V.ref p.1) ++ [V.ref t] = (ts ++ [(t, x)]).map fun p => V.ref p.1 := by simp
  rw [em]
  refine q _ ⟨l, ts ++ [(t, x)], rfl, kl_put hK s fun z hz => ?_, (hE.same s).upd (s _ _ hK.1), fun b' o hb => ?_, n0, by rw [List.map_append, hl]; rfl⟩
  · rcases List.mem_cons.mp hz with rfl | hz
    · exact upd_same
    · cases hz
  · rw [upd_ne (ne_of_none hb n0)]
    exact s _ _ (s0 _ _ hb)
theorem k_first {X x y : Str} {e : Addr} {v : V} {H : Hp} {D : Ends} (Z : Errs P w K mg base) (hX : X ∈ errNames) (hx : x ∈ subNames) (hy : y ∈ subNames) (hE : ErrAt K H e X v)
    (q : ∀ σ H', KSt K X e v H σ H' [x, y] → D.nx σ H') : tAsg (tLst (tCons (tPairK K x) (tCons (tPairK K y) tNil))) (gName 1) D [some (.ref e), none, none, none] H := by
  show tLst (tCons (tPairK K x) (tCons (tPairK K y) tNil)) [some (.ref e), none, none, none] H (fun z H1 => D.nx ([some (.ref e), none, none, none].set 1 (some z)) H1)
  refine lst2K Z hX hx hy rfl hE fun p t u H' s hp ep et eu => ?_
  refine q _ _ ⟨p, [(t, x), (u, y)], rfl, ⟨ep, fun z hz => ?_⟩, hE.same s, s, hp, rfl⟩
  rcases List.mem_cons.mp hz with rfl | hz
  · exact et
  · rcases List.mem_cons.mp hz with rfl | hz
    · exact eu
    · cases hz
/-- [name for name, is_form in found if is_form] -/
theorem k_comp {X : Str} {e : Addr} {v : V} {H0 : Hp} {σ : L2.St} {H : Hp} {Q : VK} {ns : List Str} (h : KSt K X e v H0 σ H ns) (hn : ns.length ≤ 100)
    (q : ∀ p H', Same H H' → ErrAt K H' e X v → H' p = some (.lst ((ns.filter fun y => decide (X = y)).map V.str)) → Q (.ref p) H') :
    tLc (iList K (tVar 1)) (gTup K 2 (gCons (gName 2) (gCons (gName 3) gNil))) (tB (tVar 3)) (tVar 2) [2, 3] σ H Q := by
  obtain ⟨l, ts, rfl, hK, hE, s0, n0, hl⟩ := h
  refine ⟨_, rfl, l, rfl, ⟨_, SqL.of hK.1⟩, fun D hD => ?_⟩
  have nl : l ≠ D := ne_of_none hK.1 hD
  refine lc_list (K := K) (a := l) (xs := ts.map fun p => V.ref p.1) (fun i H' => Same H H' ∧ H' D = some (.lst (((ts.take i).filter fun p => decide (X = p.2)).map fun p => V.str p.2)))
    ⟨Same.new hD, upd_same⟩ (fun i H' _ h => SqL.of (h.1 _ _ hK.1)) ?_ ?_
  · rintro i z H' hi ⟨s, hd⟩
    have hi2 : i < ts.length := by
      have := (List.getElem?_eq_some_iff.mp hi).1
      simpa using this
    have ez : z = V.ref (ts[i]).1 := by
      rw [List.getElem?_map, List.getElem?_eq_getElem hi2] at hi
      exact (Option.some.inj hi).symm
    subst ez
    have ht := s _ _ (hK.2 ts[i] (List.getElem_mem hi2))
    refine ⟨_, _, rfl, SqT.of ht, rfl, _, _, rfl, _, _, rfl, rfl, rfl, _, rfl, _, rfl, ?_⟩
    have tk : ts.take (i + 1) = ts.take i ++ [ts[i]] := by rw [List.take_add_one, List.getElem?_eq_getElem hi2]; rfl
    by_cases c : X = (ts[i]).2
    · dsimp only
      rw [decide_eq_true c, if_pos rfl]
      refine ⟨_, rfl, _, hd, ?_, fun b o hb => ?_, ?_⟩
      · refine small1000 ?_
        rw [List.length_map]
        refine Nat.le_trans (List.length_filter_le _ _) ?_
        rw [List.length_take]
        have : ts.length = ns.length := by rw [← hl, List.length_map]
        omega
      · rw [upd_ne (ne_of_none hb hD)]
        exact s _ _ hb
      · rw [upd_same, tk, List.filter_append, List.map_append]
        have f1 : [ts[i]].filter (fun p => decide (X = p.2)) = [ts[i]] := by rw [List.filter_cons, decide_eq_true c, if_pos rfl]; rfl
        rw [f1]
        rfl
    · dsimp only
      rw [decide_eq_false c, if_neg Bool.false_ne_true]
      refine ⟨s, ?_⟩
      rw [tk, List.filter_append]
      have f1 : [ts[i]].filter (fun p => decide (X = p.2)) = [] := by rw [List.filter_cons, decide_eq_false c, if_neg Bool.false_ne_true]; rfl
      rw [f1, List.append_nil]
      exact hd
  · rintro H' ⟨s, hd⟩
    refine q D H' s (hE.same s) ?_
    rw [hd, List.length_map, List.take_length, ← hl, List.filter_map, List.map_map]
    rfl
/-- the names of an error's own class among these -/
def spKinds (K : PySem.W.Frag) (ns : List Str) : Sp := fun vs H Q _ => ∃ (e : Addr) (X : Str) (v : V), vs = [.ref e] ∧ X ∈ errNames ∧ ErrAt K H e X v ∧ ∀ p H', Same H H' → H' p = some (.lst ((ns.filter fun y => decide (X = y)).map V.str)) → Q (.ref p) H'
end
end Lm

namespace Lm
open PySem PySem.Spec PyProof.Rows L2
open C8 (Cal Mak Met pe_c pe_mk pe_mt pe_mt0 pss_cut tCut)

/-! ## Tests and expressions that only add to the heap -/
/-- the test comes to b -/
def Says (b : Bool) (c : TT) (σ : L2.St) (H : Hp) : Prop := ∀ Q : Bool → Hp → Prop, (∀ H', Same H H' → Q b H') → c σ H Q
/-- the expression comes to some v of which p holds -/
def Giv (te : TE) (σ : L2.St) (H : Hp) (p : V → Hp → Prop) : Prop := ∀ Q : VK, (∀ v H', Same H H' → p v H' → Q v H') → te σ H Q
section
variable {σ : L2.St} {H : Hp} {b : Bool} {A B c : TT} {t u : TS} {D : Ends}
theorem says_or (h : Says false A σ H) (k : ∀ H', Same H H' → Says b B σ H') : Says b (tOr A B) σ H := fun Q q => by
  refine h _ fun H' s => ?_
  show (if false = true then Q true H' else B σ H' Q)
  rw [if_neg Bool.false_ne_true]
  exact k H' s Q fun H2 s2 => q H2 (s.trans s2)
theorem says_or_t (h : Says true A σ H) : Says true (tOr A B) σ H := fun Q q => by
  refine h _ fun H' s => ?_
  show (if true = true then Q true H' else B σ H' Q)
  rw [if_pos rfl]
  exact q H' s
theorem says_and (h : Says true A σ H) (k : ∀ H', Same H H' → Says b B σ H') : Says b (tAnd A B) σ H := fun Q q => by
  refine h _ fun H' s => ?_
  show (if true = true then B σ H' Q else Q false H')
  rw [if_pos rfl]
  exact k H' s Q fun H2 s2 => q H2 (s.trans s2)
theorem says_and_f (h : Says false A σ H) : Says false (tAnd A B) σ H := fun Q q => by
  refine h _ fun H' s => ?_
  show (if false = true then B σ H' Q else Q false H')
  rw [if_neg Bool.false_ne_true]
  exact q H' s
theorem says_not (h : Says b A σ H) : Says (!b) (tNot A) σ H := fun Q q => h _ fun H' s => q H' s
theorem if_no (h : Says false c σ H) (q : ∀ H', Same H H' → u D σ H') : tIfS c t u D σ H := by
  refine h _ fun H' s => ?_
  show (if false = true then t D σ H' else u D σ H')
  rw [if_neg Bool.false_ne_true]
  exact q H' s
theorem if_yes (h : Says true c σ H) (q : ∀ H', Same H H' → t D σ H') : tIfS c t u D σ H := by
  refine h _ fun H' s => ?_
  show (if true = true then t D σ H' else u D σ H')
  rw [if_pos rfl]
  exact q H' s
/-- a test by a value -/
theorem says_val {te : TE} (h : Giv te σ H fun v _ => v = .bl b) : Says b (tB te) σ H := fun Q q => h _ fun v H' s e => ⟨b, e, q H' s⟩
theorem says_test {te : TE} (h : Giv te σ H fun v _ => v = .bl b) : Says b (tTest te) σ H := fun Q q => h _ fun v H' s e => ⟨b, e, q H' s⟩
theorem giv_var {i : Nat} {v : V} (h : σ[i]? = some (some v)) : Giv (tVar i) σ H fun x _ => x = v := fun Q q => ⟨v, h, q v H (Same.refl H) rfl⟩
theorem giv_c {v : V} : Giv (tC v) σ H fun x _ => x = v := fun Q q => q v H (Same.refl H) rfl
theorem Giv.mono {te : TE} {p q : V → Hp → Prop} (h : Giv te σ H p) (k : ∀ v H', Same H H' → p v H' → q v H') : Giv te σ H q := fun Q r => h Q fun v H' s e => r v H' s (k v H' s e)
/-- an operator -/
theorem giv_op {r : R2} {ta tb : TE} {p q : V → Hp → Prop} {o : V → Hp → Prop} (ha : Giv ta σ H p) (hb : ∀ x H1, Same H H1 → p x H1 → Giv tb σ H1 q)
    (ho : ∀ x y H1 H2, Same H H1 → Same H1 H2 → p x H1 → q y H2 → ∀ Q : VK, (∀ v H', Same H2 H' → o v H' → Q v H') → r x y H2 Q) : Giv (tOp r ta tb) σ H o := fun Q k =>
  ha _ fun x H1 s1 e1 => hb x H1 s1 e1 _ fun y H2 s2 e2 => ho x y H1 H2 s1 s2 e1 e2 Q fun v H' s3 e3 => k v H' ((s1.trans s2).trans s3) e3
/-- a built-in of one argument -/
theorem giv_b1 {r : List V → Hp → VK → Prop} {ta : TE} {p o : V → Hp → Prop} (ha : Giv ta σ H p) (hr : ∀ x H1, Same H H1 → p x H1 → ∀ Q : VK, (∀ v H', Same H1 H' → o v H' → Q v H') → r [x] H1 Q) : Giv (tCB r (tCons ta tNil)) σ H o := fun Q k =>
  ha _ fun x H1 s1 e1 => hr x H1 s1 e1 Q fun v H' s2 e2 => k v H' (s1.trans s2) e2
theorem giv_b2 {r : List V → Hp → VK → Prop} {ta tb : TE} {p q o : V → Hp → Prop} (ha : Giv ta σ H p) (hb : ∀ x H1, Same H H1 → p x H1 → Giv tb σ H1 q)
    (hr : ∀ x y H1 H2, Same H H1 → Same H1 H2 → p x H1 → q y H2 → ∀ Q : VK, (∀ v H', Same H2 H' → o v H' → Q v H') → r [x, y] H2 Q) : Giv (tCB r (tCons ta (tCons tb tNil))) σ H o := fun Q k =>
  ha _ fun x H1 s1 e1 => hb x H1 s1 e1 _ fun y H2 s2 e2 => hr x y H1 H2 s1 s2 e1 e2 Q fun v H' s3 e3 => k v H' ((s1.trans s2).trans s3) e3
/-- repr of small data -/
theorem giv_repr {te : TE} {B k : Nat} (hB : B ≤ 1000) (hk : k ≤ 60) {v : V} (h : Giv te σ H fun x _ => x = v) {d : PyData} (hd : Dr H v d) (h1 : d.showable = true) (h2 : d.depth ≤ k) (h3 : d.shown.length ≤ B) : Giv (tCB rReprD (tCons te tNil)) σ H fun x _ => x = .str d.shown :=
  giv_b1 h fun x H1 s e Q q => by
    subst e
    exact ⟨_, d, rfl, hd.same s, h1, Nat.le_trans h2 hk, Nat.le_trans h3 (Nat.le_of_lt (small1000 hB)), q _ H1 (Same.refl H1) rfl⟩
theorem giv_ne {ta tb : TE} {x y : V} (hs : scal x y = true) (ha : Giv ta σ H fun z _ => z = x) (hb : ∀ H1, Same H H1 → Giv tb σ H1 fun z _ => z = y) : Giv (tOp rNe ta tb) σ H fun v _ => v = .bl (!decide (x = y)) :=
  giv_op ha (fun _ H1 s _ => hb H1 s) fun a b H1 H2 _ _ ea eb Q q => by
    subst ea eb
    exact ⟨hs, q _ H2 (Same.refl H2) rfl⟩
theorem giv_eq {ta tb : TE} {x y : V} (hs : scal x y = true) (ha : Giv ta σ H fun z _ => z = x) (hb : ∀ H1, Same H H1 → Giv tb σ H1 fun z _ => z = y) : Giv (tOp rEq ta tb) σ H fun v _ => v = .bl (decide (x = y)) :=
  giv_op ha (fun _ H1 s _ => hb H1 s) fun a b H1 H2 _ _ ea eb Q q => by
    subst ea eb
    exact ⟨hs, q _ H2 (Same.refl H2) rfl⟩
/-- x = e -/
theorem asg_giv {te : TE} {i : Nat} {p : V → Hp → Prop} (h : Giv te σ H p) (q : ∀ v H', Same H H' → p v H' → D.nx (σ.set i (some v)) H') : tAsg te (gName i) D σ H := h _ fun v H' s e => q v H' s e
theorem ret_giv {te : TE} {p : V → Hp → Prop} (h : Giv te σ H p) (q : ∀ v H', Same H H' → p v H' → D.rt v H') : tRet te D σ H := h _ fun v H' s e => q v H' s e
end
section
variable {P : Program} {w : World} {K : PySem.W.Frag} {mg : Str → Option Value} {base : Heap} {σ : L2.St} {H : Hp}
theorem giv_err {x : Str} {te : TE} {v : V} (Z : Errs P w K mg base) (hx : x ∈ errNames) (h : Giv te σ H fun y _ => y = v) : Giv (tErr K x (tCons te tNil)) σ H fun y H' => ∃ a, y = .ref a ∧ H a = none ∧ ErrAt K H' a x v := fun Q q => by
  obtain ⟨fI, C⟩ := Z.err hx
  refine h _ fun y H1 s e => ?_
  subst e
  refine ⟨(by decide : 1 ≤ 1000), fun a ha => ⟨a, _, y, rfl, C.T, C.nv, upd_same, fun dx hdx hne => ⟨rfl, ?_⟩⟩⟩
  have hd : H1 dx = none := by
    rw [upd_ne hne] at hdx
    exact hdx
  refine q _ _ (s.trans fun b o hb => ?_) ⟨a, rfl, s.free ha, dx, upd_same, by rw [upd_ne hne]; exact upd_same⟩
  have n1 : b ≠ a := ne_of_none hb ha
  rw [upd_ne n1, upd_ne (ne_of_none hb hd), upd_ne n1]
  exact hb
theorem giv_value {x : Str} {te : TE} {e : Addr} {v : V} (Z : Errs P w K mg base) (hx : x ∈ errNames) (h : Giv te σ H fun y _ => y = .ref e) (hE : ErrAt K H e x v) : Giv (tExF K "value" te) σ H fun y _ => y = v := fun Q q => by
  obtain ⟨fI, C⟩ := Z.err hx
  refine h _ fun y H1 s ey => ?_
  subst ey
  obtain ⟨d, h1, h2⟩ := hE.same s
  exact ⟨e, _, d, _, v, rfl, C.xf, C.nv, h1, h2, by simp [List.lookup], q v H1 s rfl⟩
theorem giv_isi {x y : Str} {ta tb : TE} {e : Addr} {v : V} (Z : Errs P w K mg base) (hx : x ∈ errNames) (hy : y ∈ subNames) (ha : Giv ta σ H fun z _ => z = .ref e) (hb : ∀ H1, Same H H1 → Giv tb σ H1 fun z _ => z = .ref (He.ga K y)) (hE : ErrAt K H e x v) :
    Giv (tCB (rIsE K) (tCons ta (tCons tb tNil))) σ H fun z _ => z = .bl (decide (x = y)) :=
  giv_b2 ha (fun _ H1 s _ => hb H1 s) fun a b H1 H2 s1 s2 ea eb Q q => by
    subst ea eb
    exact isi_made Z hx hy (hE.same (s1.trans s2)) (q _ H2 (Same.refl H2) rfl)
theorem giv_isiM {x : Str} {ta tb : TE} {e : Addr} {v : V} (Z : Errs P w K mg base) (hx : x ∈ errNames) (ha : Giv ta σ H fun z _ => z = .ref e) (hb : ∀ H1, Same H H1 → Giv tb σ H1 fun z _ => z = .ref (He.ga K "MirrorError")) (hE : ErrAt K H e x v) :
    Giv (tCB (rIsE K) (tCons ta (tCons tb tNil))) σ H fun z _ => z = .bl true :=
  giv_b2 ha (fun _ H1 s _ => hb H1 s) fun a b H1 H2 s1 s2 ea eb Q q => by
    subst ea eb
    exact isi_M Z hx (hE.same (s1.trans s2)) (q _ H2 (Same.refl H2) rfl)
theorem giv_isiV {x : Str} {ta tb : TE} {e : Addr} {v : V} (Z : Errs P w K mg base) (hx : x ∈ errNames) (ha : Giv ta σ H fun z _ => z = .ref e) (hb : ∀ H1, Same H H1 → Giv tb σ H1 fun z _ => z = .ty "ValueError") (hE : ErrAt K H e x v) :
    Giv (tCB (rIsE K) (tCons ta (tCons tb tNil))) σ H fun z _ => z = .bl true :=
  giv_b2 ha (fun _ H1 s _ => hb H1 s) fun a b H1 H2 s1 s2 ea eb Q q => by
    subst ea eb
    exact isi_V Z hx (hE.same (s1.trans s2)) (q _ H2 (Same.refl H2) rfl)
/-- what is fresh, by the general rule -/
theorem fresh_of {H H1 H2 : Hp} (k : ∀ b o, H b = none → H1 b = some o → H2 b = some o) : Same (fresh H H1) (fresh H H2) := fun b o e => by
  unfold fresh at e ⊢
  cases h : H b with
  | some u =>
    rw [h] at e
    cases e
  | none =>
    rw [h] at e
    exact k b o h e
theorem fresh_less {H H1 H2 : Hp} (k : ∀ b, H1 b = none → H b = none) : Same (fresh H1 H2) (fresh H H2) := fun b o e => by
  unfold fresh at e ⊢
  cases h : H1 b with
  | some u =>
    rw [h] at e
    cases e
  | none =>
    rw [h] at e
    rw [k b h]
    exact e
end
end Lm

namespace Lm
open PySem PySem.Spec PyProof.Rows L2

/-! ## What the head must tell of the errors, as one Bool -/
def oexB (K : PySem.W.Frag) (C : Addr) : Bool := match K.lookup C with
  | some ⟨.type T, _, .cls cd, sl⟩ => (match cd.mro, sl.toList with
    | .ref C' :: bm, [_, _, _, _, some (.builtin n), _] => decide (T = "type") && (decide (C' = C) && (decide (n = "ValueError.__new__") && (!cd.hasDel && (cd.hasDict && PySem.HandSPX.refsVE bm))))
    | _, _ => false)
  | _ => false
theorem oexB_ok {K : PySem.W.Frag} {C : Addr} (h : oexB K C = true) : ∃ nm q N bs bm sn sub ab col dd k0 k1 k2 k3 k5, K.lookup C = some (excClassObj nm q C N bs bm true sn sub ab col dd k0 k1 k2 k3 k5 "ValueError.__new__") ∧ PySem.HandSPX.refsVE bm = true := by
  unfold oexB at h
  split at h
  · rename_i T dd cd sl ho
    split at h
    · rename_i C' bm k0 k1 k2 k3 n k5 hm hs
      obtain ⟨h1, h⟩ := He.ba h
      obtain ⟨h2, h⟩ := He.ba h
      obtain ⟨h3, h⟩ := He.ba h
      obtain ⟨h4, h⟩ := He.ba h
      obtain ⟨h5, h6⟩ := He.ba h
      obtain ⟨nm, bs, mro, ns, qn, hd, sn, sub, ab, col, del⟩ := cd
      dsimp only at hm h4 h5
      have e1 : T = "type" := of_decide_eq_true h1
      have e2 : C' = C := of_decide_eq_true h2
      have e3 : n = "ValueError.__new__" := of_decide_eq_true h3
      have e4 : del = false := by simpa using h4
      subst e1 e2 e3 e4 h5 hm
      have e5 : sl = #[k0, k1, k2, k3, some (.builtin "ValueError.__new__"), k5] := by
        obtain ⟨l⟩ := sl
        simp only at hs
        rw [hs]
      subst e5
      exact ⟨nm, qn, ns, bs, bm, sn, sub, ab, col, dd, k0, k1, k2, k3, k5, ho, h6⟩
    · cases h
  · cases h
def excB (K : PySem.W.Frag) (D : Addr) : Bool := He.eqO (PySem.W.findIn K (.ref D) "__getattribute__") (some (some (.builtin "BaseException.__getattribute__"))) && (He.eqO (PySem.W.findIn K (.ref D) "__getattr__") (some none) && (decide (PySem.W.subIn K (.ref D) (.type "BaseException") = some true) &&
  (PySem.W.hasDictIn K D && (He.eqO (PySem.W.findIn K (.ref D) "__class__") (some (some (.builtin "object.__class__"))) && (He.eqO (PySem.W.specialIn K (.builtin "object.__class__") "__get__") (some (some (.builtin "getset_descriptor.__get__"))) &&
  (decide (PySem.W.takesIn K (.builtin "object.__class__") = some true) && decide (PySem.W.mroIn K D (.type "object") = some true)))))))
theorem excB_ok {K : PySem.W.Frag} {D : Addr} (h : excB K D = true) : ExcC K D := by
  obtain ⟨h1, h⟩ := He.ba h
  obtain ⟨h2, h⟩ := He.ba h
  obtain ⟨h3, h⟩ := He.ba h
  obtain ⟨h4, h⟩ := He.ba h
  obtain ⟨h5, h⟩ := He.ba h
  obtain ⟨h6, h⟩ := He.ba h
  obtain ⟨h7, h8⟩ := He.ba h
  exact ⟨He.eqO_ok h1, He.eqO_ok h2, of_decide_eq_true h3, h4, He.eqO_ok h5, He.eqO_ok h6, of_decide_eq_true h7, of_decide_eq_true h8⟩
/-- MirrorError.__init__ -/
def iniA (K : PySem.W.Frag) : Addr := He.ma K (He.ga K "MirrorError") "__init__"
def errB (K : PySem.W.Frag) (x : Str) : Bool := oexB K (He.ga K x) && (He.eqO (PySem.W.findIn K (.ref (He.ga K x)) "__setattr__") (some (some (.builtin "object.__setattr__"))) && (decide (PySem.W.subIn K (.ref (He.ga K x)) (.type "BaseException") = some true) &&
  (decide (PySem.W.typeIn K (.ref (He.ga K x)) = some (.type "type")) && (PySem.W.keepIn K (.ref (He.ga K x)) && (He.eqO (PySem.W.findIn K (.ref (He.ga K x)) "__init__") (some (some (.ref (iniA K)))) &&
  (He.eqO (PySem.W.findIn K (.ref (He.ga K x)) "value") (some none) && (xfB K (He.ga K x) && excB K (He.ga K x))))))))
theorem errB_ok {K : PySem.W.Frag} {x : Str} (h : errB K x = true) : ErrC K (He.ga K x) (iniA K) := by
  obtain ⟨h1, h⟩ := He.ba h
  obtain ⟨h2, h⟩ := He.ba h
  obtain ⟨h3, h⟩ := He.ba h
  obtain ⟨h4, h⟩ := He.ba h
  obtain ⟨h5, h⟩ := He.ba h
  obtain ⟨h6, h⟩ := He.ba h
  obtain ⟨h7, h⟩ := He.ba h
  obtain ⟨h8, h9⟩ := He.ba h
  exact ⟨⟨oexB_ok h1, He.eqO_ok h2, of_decide_eq_true h3, of_decide_eq_true h4, h5⟩, He.eqO_ok h6, He.eqO_ok h7, xfB_ok h8, excB_ok h9⟩
def errsB (K : PySem.W.Frag) : Bool := decide (PySem.W.typeIn K (.ref (iniA K)) = some (.type "function")) && (errNames.all fun x => errB K x && (decide (PySem.W.kitOne K (.ref (He.ga K x)) (.ref (He.ga K "MirrorError")) = some true) &&
  (decide (PySem.W.kitOne K (.ref (He.ga K x)) (.type "ValueError") = some true) && subNames.all fun y => decide (PySem.W.kitOne K (.ref (He.ga K x)) (.ref (He.ga K y)) = some (decide (x = y))))))
theorem errsB_ok {P : Program} {w : World} {K : PySem.W.Frag} {mg : Str → Option Value} {base : Heap} {fd : FuncData} (h : errsB K = true) (m : ∀ {x : Str}, x ∈ errNames → mg x = some (.ref (He.ga K x))) (F : FnOk P w K mg base CX0 1 (iniA K) fd ["self", "value"] (spErr K)) (b : Binds K fd ["self", "value"] []) :
    Errs P w K mg base := by
  obtain ⟨h1, h2⟩ := He.ba h
  have all := List.all_eq_true.mp h2
  have at_ : ∀ x ∈ errNames, errB K x = true ∧ PySem.W.kitOne K (.ref (He.ga K x)) (.ref (He.ga K "MirrorError")) = some true ∧ PySem.W.kitOne K (.ref (He.ga K x)) (.type "ValueError") = some true ∧ ∀ y ∈ subNames, PySem.W.kitOne K (.ref (He.ga K x)) (.ref (He.ga K y)) = some (decide (x = y)) := fun x hx => by
    obtain ⟨a1, a⟩ := He.ba (all x hx)
    obtain ⟨a2, a⟩ := He.ba a
    obtain ⟨a3, a4⟩ := He.ba a
    exact ⟨a1, of_decide_eq_true a2, of_decide_eq_true a3, fun y hy => of_decide_eq_true (List.all_eq_true.mp a4 y hy)⟩
  exact ⟨m, ⟨iniA K, fd, fun x hx => errB_ok (at_ x hx).1, of_decide_eq_true h1, F, b⟩, fun x hx => (at_ x hx).2.2.2, fun x hx => (at_ x hx).2.1, fun x hx => (at_ x hx).2.2.1⟩
/-- the built-ins' names that a law leaves as they are -/
def freeNames : List Str := ["len", "int", "abs", "range", "list", "max", "min", "all", "isinstance", "repr", "str", "tuple", "ValueError", "bool"]
theorem bl_of {mg : Str → Option Value} {base : Heap} (h : ∀ {x : Str}, x ∈ freeNames → mg x = none) (m : ∃ mm, base.Ns sysModules mm) : Bl mg base :=
  ⟨h (by decide +kernel), h (by decide +kernel), h (by decide +kernel), h (by decide +kernel), h (by decide +kernel), h (by decide +kernel), h (by decide +kernel), h (by decide +kernel), h (by decide +kernel), h (by decide +kernel), h (by decide +kernel), h (by decide +kernel), h (by decide +kernel), h (by decide +kernel), m⟩
end Lm

namespace Lm
open PySem PySem.Spec PyProof.Rows L2

/-! ## Functions handed over: what calling one does, wherever what stood when it was made is kept -/
structure Acts (P : Program) (w : World) (K : PySem.W.Frag) (mg : Str → Option Value) (base : Heap) (k : Nat) (fr : List Addr) (f : Addr) (H : Hp) (h : Heap) (tl : XK → Hp → VK → Prop) : Prop where
  is : PySem.W.FnAt f h
  fresh : H f = none
  off : f ∉ fr
  act : ∀ (A : Around) (outer : List Env) (s : Shared) (H' : Hp) (Q : VK) (E : XK), A.guards = some [] → Room k A → Env0 P w K mg base A outer s H' → Un fr [] H H' h s.heap → tl E H' Q →
    codeAny (model P w) A (.call (.ref f) ⟨[], []⟩) (CR (L2.CX P w) outer P w H' s Q E) s
section
variable {P : Program} {w : World} {K : PySem.W.Frag} {mg : Str → Option Value} {base : Heap} {k : Nat} {fr fr1 : List Addr} {f : Addr} {H H1 H2 : Hp} {h h1 h2 : Heap} {tl : XK → Hp → VK → Prop}
/-- two stretches of time, further frames in the second one -/
theorem un_join (u : Un fr [] H H1 h h1) (v : Un fr1 [] H1 H2 h1 h2) (sub : ∀ b ∈ fr, b ∈ fr1) (new : ∀ b ∈ fr1, b ∉ fr → h.objs.size ≤ b) : Un fr [] H H2 h h2 := by
  have out : ∀ {b : Addr} {o : Obj}, h.get? b = some o → b ∉ fr → b ∉ fr1 := fun {b o} e n m => absurd (Nat.lt_of_lt_of_le (Heap.lt_size e) (new b m n)) (Nat.lt_irrefl _)
  refine ⟨fun b o e n hb _ => v.keep b o (u.keep b o e n hb (by simp)) (u.free b o e n (by simp)) (out e hb) (by simp), fun b o e n hb _ => ?_, fun b o e n _ => ?_, fun b o e _ => ?_, fun b xs e => v.tups b xs (u.tups b xs e), fun b o x e => v.frzs b o x (u.frzs b o x e), fun b ps e => ?_⟩
  · obtain ⟨sl, e1⟩ := u.slot b o e n hb (by simp)
    obtain ⟨sl2, e2⟩ := v.slot b _ e1 (u.free b o e n (by simp)) (sub b hb) (by simp)
    exact ⟨sl2, e2⟩
  · obtain ⟨o1, e1⟩ := u.there b o e (by simp)
    exact v.free b o1 e1 (u.free b o e n (by simp)) (by simp)
  · obtain ⟨o1, e1⟩ := u.there b o e (by simp)
    exact v.there b o1 e1 (by simp)
  · obtain ⟨m1, e1⟩ := u.tbls b ps e
    obtain ⟨m2, e2⟩ := v.tbls b _ e1
    exact ⟨m1 ++ m2, by rw [e2, Array.append_assoc]⟩
theorem Acts.on (a : Acts P w K mg base k fr f H h tl) (u : Un fr [] H H1 h h1) (sub : ∀ b ∈ fr, b ∈ fr1) (new : ∀ b ∈ fr1, b ∉ fr → h.objs.size ≤ b) : Acts P w K mg base k fr1 f H1 h1 tl := by
  obtain ⟨oc, od, fd, sl, e⟩ := a.is
  exact ⟨⟨oc, od, fd, sl, u.keep f _ e a.fresh a.off (by simp)⟩, u.free f _ e a.fresh (by simp), fun m => absurd (Nat.lt_of_lt_of_le (Heap.lt_size e) (new f m a.off)) (Nat.lt_irrefl _),
    fun A outer s H' Q E gd hr e0 v ht => a.act A outer s H' Q E gd hr e0 (un_join u v sub new) ht⟩
end
section
variable {X : Cx} {k : Nat} {f : Addr} {tl : XK → Hp → VK → Prop} {E : XK}
/-- in a def that got it: at any state of its body -/
theorem Acts.here {pins : List (Addr × Obj)} {σ : L2.St} {H : Hp} {s : Shared} (a : Acts X.prog X.w X.K X.mg X.base k X.fs f X.H_0 X.s_0.heap tl) (hex : X.ex = []) (I : Inv X pins σ H s) : Acts X.prog X.w X.K X.mg X.base k (frs X.stack) f H s.heap tl := by
  have u := I.base
  rw [hex] at u
  refine a.on u (fun b hb => ?_) fun b hb n => ?_
  · rcases I.ok.stk with e | ⟨e, _⟩
    · rw [e]
      exact hb
    · rw [e]
      obtain ⟨env, he, q⟩ := List.mem_filterMap.mp hb
      exact List.mem_filterMap.mpr ⟨env, List.mem_cons_of_mem _ he, q⟩
  · rcases List.mem_cons.mp (I.stkSub b hb) with e | e
    · rw [e]
      exact I.ok.above
    · exact absurd e n
/-- a(), a the slot that holds it -/
theorem pe_acts {i : Nat} {a : Str} {p1 p2 : Pos} (AC : Acts X.prog X.w X.K X.mg X.base k X.fs f X.H_0 X.s_0.heap tl) (hex : X.ex = []) (gd : X.A.guards = some []) (hr : Room k X.A) (hx : Passes (L2.CX X.prog X.w) X E)
    (hN : X.N[i]? = some a) (hv : Vis X.env.scope a) (hd : (a == ("__debug__" : Str)) = false := by decide) (hcd : (a == ("__classdict__" : Str)) = false := by decide) :
    PE X (.Call (.Name a p1) [] [] p2) (fun σ H Q => σ[i]? = some (some (.ref f)) ∧ tl E H Q) := by
  refine ⟨fun pins s σ H Q I ⟨hs, ht⟩ => ?_⟩
  refine wpAny_Call_Name_kw (thn ((pe_var (pos := p1) (i := i) hN hv hd hcd).run pins s σ H (fun v H1 => v = .ref f ∧ H1 = H) I ⟨.ref f, hs, rfl, rfl⟩) fun u s1 ⟨v, H1, I1, r1, ev, eH⟩ => ?_)
  subst ev eH
  obtain rfl : u = Value.ref f := r1
  have AH := AC.here hex I1
  have AU := I1.base
  rw [hex] at AU
  refine PySem.W.callWith_F0 AH.is ?_
  refine wpAny_call (codeAny_mono (AC.act X.A X.stack s1 _ Q E gd hr I1.env0 AU ht) fun r s' hq => ?_)
  match r, hq with
  | .error e, hq => exact hx pins σ _ s1 e s' I1 hq
  | .ok (.ret u), hq => exact I1.after hq
  | .ok .next, hq => exact False.elim hq
  | .ok .brk, hq => exact False.elim hq
  | .ok .cont, hq => exact False.elim hq
end

/-! ## An error that was caught, kept -/
/-- at a: an exception of the class at C, its dict at d, raised or not -/
def exr (a C : Addr) (d : Option Addr) : HO := .ext fun h => ∃ (oe : Obj) (vs : Array Value), h.get? a = some oe ∧ Zc (.ref C) d oe ∧ oe.data = .fields vs
theorem exr_ok {P : Program} {w : World} {H : Hp} {h : Heap} {a C : Addr} {d : Option Addr} {oe : Obj} {vs : Array Value} (e : h.get? a = some oe) (z : Zc (.ref C) d oe) (f : oe.data = .fields vs) : ObjOk P w H h a (exr a C d) :=
  ⟨⟨oe, vs, e, z, f⟩, ⟨oe, e⟩, fun _ _ ⟨o, v, q, r⟩ k => ⟨o, v, k o q, r⟩⟩
theorem exr_at {P : Program} {w : World} {H : Hp} {h : Heap} {a C : Addr} {d : Option Addr} (hok : HOk P w H h) (e : H a = some (exr a C d)) : ∃ (oe : Obj) (vs : Array Value), h.get? a = some oe ∧ Zc (.ref C) d oe ∧ oe.data = .fields vs := by
  have x : ObjOk P w H h a (.ext fun h => ∃ (oe : Obj) (vs : Array Value), h.get? a = some oe ∧ Zc (.ref C) d oe ∧ oe.data = .fields vs) := hok a _ e
  exact x.1
section
variable {X : Cx} {pins : List (Addr × Obj)} {σ : L2.St} {H : Hp} {s : Shared}
/-- an object that came since the entry is tracked from now on -/
theorem inv_track {a C : Addr} {d : Option Addr} {oe : Obj} {vs : Array Value} (I : Inv X pins σ H s) (e : s.heap.get? a = some oe) (z : Zc (.ref C) d oe) (f : oe.data = .fields vs) (na : H a = none) (n0 : X.s_0.heap.get? a = none) (nL : a ≠ X.env.locals)
    (np : ∀ p ∈ X.pn ++ pins, p.1 ≠ a) : Inv X pins σ (upd H a (exr a C d)) s := by
  have ne0 : ∀ {b : Addr} {o : Obj}, X.s_0.heap.get? b = some o → b ≠ a := fun {b o} q z => by
    rw [z, n0] at q
    cases q
  refine ⟨I.ok, I.os, I.bare, ⟨I.base.keep, I.base.slot, fun b o q n x => ?_, I.base.there, fun b xs q => ?_, fun b o u q => ?_, fun b ps q => ?_⟩, I.loc, I.cell, ?_, fun x c q => ?_, fun p hp => ?_, fun b u q => ?_, I.len⟩
  · rw [upd_ne (ne0 q)]
    exact I.base.free b o q n x
  · have y := I.base.tups b xs q
    rw [upd_ne (ne_of_none y na)]
    exact y
  · have y := I.base.frzs b o u q
    rw [upd_ne (ne_of_none y na)]
    exact y
  · obtain ⟨m, y⟩ := I.base.tbls b ps q
    exact ⟨m, by rw [upd_ne (ne_of_none y na)]; exact y⟩
  · rw [upd_ne (Ne.symm nL)]
    exact I.free
  · have nc : c ≠ a := fun y => by
      obtain ⟨v, o, ho, hd⟩ := I.cell x c q
      rw [y, e] at ho
      cases ho
      rw [f] at hd
      cases hd
    rw [upd_ne nc]
    exact I.freeC x c q
  · obtain ⟨e1, n1, r⟩ := I.pin p hp
    exact ⟨e1, by rw [upd_ne (np p hp)]; exact n1, r⟩
  · by_cases hb : b = a
    · subst hb
      rw [upd_same] at q
      cases q
      exact exr_ok e z f
    · rw [upd_ne hb] at q
      exact (I.hok b u q).stay (fun _ _ _ y => y) (fun c y => by rw [upd_ne (ne_of_none y na)]; exact y) fun c xs y => by rw [upd_ne (ne_of_none y na)]; exact y
theorem in_suite (I : Inv X pins σ H s) (a : Addr) : Inv (X.suite a (X.pn ++ pins)) [] σ H s :=
  ⟨I.ok.suite _ _, I.os, I.bare, I.base, I.loc, I.cell, I.free, I.freeC, fun p hp => I.pin p (by rw [List.append_nil] at hp; exact hp), I.hok, I.len⟩
theorem off_suite {a : Addr} {more : List (Addr × Obj)} (ok : X.Ok) (I : Inv (X.suite a (X.pn ++ pins)) more σ H s) : Inv X pins σ H s :=
  ⟨ok, I.os, I.bare, I.base, I.loc, I.cell, I.free, I.freeC, fun p hp => I.pin p (List.mem_append_left _ hp), I.hok, I.len⟩
end
/-- what the clause wishes of an error of the body: slot i is its name's -/
def wIn (K : PySem.W.Frag) (c : Value) (i : Nat) (ts : Addr → TS) (Wout : WX) (D : Ends) : WX := fun cls d σ H =>
  ∃ b, PySem.W.exmOne K cls c = some b ∧ (b = true → ∃ C : Addr, cls = .ref C ∧ ∀ a, H a = none → ts a { nx := fun σ' H' => D.nx (σ'.set i none) H', rt := D.rt, bk := fun σ' H' => D.bk (σ'.set i none) H', ct := fun σ' H' => D.ct (σ'.set i none) H' } (σ.set i (some (.ref a))) (upd H a (exr a C d))) ∧
    (b = false → Wout cls d σ H)
section
variable {X : Cx} {x n : Str} {c : Value} {i : Nat} {body suite : List Stmt} {b₀ : Stmt} {np pos pos' : Pos} {tb : WX → TS} {ts : Addr → TS} {Wout : WX}
/-- try: body / except x as n: suite, the error being tracked in the suite and behind it -/
theorem ps_try_in (hs : X.stack = X.env :: X.outer) (hf : X.env.frame = some X.env.locals) (hex : X.ex = []) (hN : X.N.Nodup) (hi : X.N[i]? = some n) (hln : X.env.kindOf n = some .local) (hc : Names X x c) (tk : Takes X Wout)
    (hb : ∀ (W : WX) (pn : List (Addr × Obj)) (xe : Value → Shared → Prop), Takes (X.tr pn xe) W → PSs (X.tr pn xe) body (tb W))
    (hsu : ∀ (a : Addr) (pn : List (Addr × Obj)), PSs (X.suite a pn) (b₀ :: suite) (ts a)) :
    PS X (.Try body [.ExceptHandler (some (.Name x np)) (some n) (b₀ :: suite) pos'] [] [] pos) (fun D σ H => tb (wIn X.K c i ts Wout D) D σ H) := by
  refine ⟨fun pins s σ H D I h => wpAny_Try_except ?_⟩
  have ok := I.ok
  have frames : X.A.frames = some (X.env :: X.outer) := ok.frames.trans (congrArg some hs)
  refine wpAny_mono ((hb (wIn X.K c i ts Wout D) (X.pn ++ pins) (fun e s₁ => wpAny (model X.prog X.w) X.A (noteFrame e X.env) (fun _ s₂ => wpAny (model X.prog X.w) X.A (setFlight e none) (fun _ s₃ =>
    wpAny (model X.prog X.w) X.A (handleBy e X.env [.ExceptHandler (some (.Name x np)) (some n) (b₀ :: suite) pos']) (SP X pins D) X.xe s₃) X.xe s₂) X.xe s₁) (fun u s' air => ?caught)).run [] s σ H D (I.toTry _) h) (fun f s1 hsp => ?through) fun _ _ z => z
  case caught =>
    obtain ⟨a, B, sI, pins', σ1, H1, cls, d, rfl, I0, ground, up, sky, na, os, ag, b, hm, yes, no⟩ := air
    have J : Inv X pins σ1 H1 sI := I0.ofTry ok
    rw [show (X.tr (X.pn ++ pins) _).stack = X.env :: X.outer from hs] at sky
    refine Sky.land Zc.steady frames hf sky fun h3 fly up3 => ?_
    have J3 : Inv X pins σ1 H1 { s' with heap := h3 } := J.landed ground fly.1 (up.trans up3) os ag
    obtain ⟨oe3, vs3, at3, z3, d3⟩ := fly.there
    have nfr : a ∉ frs (X.env :: X.outer) := fun m => by
      obtain ⟨_, o, e, nf⟩ := fly.2.2.1.mem m
      rw [at3] at e
      cases e
      exact nf _ d3
    have nI : sI.heap.get? a = none := by
      cases e : sI.heap.get? a with
      | none => rfl
      | some o =>
        have y := ground a o e (by show a ∉ frs X.stack; rw [hs]; exact nfr)
        rw [fly.2.1] at y
        cases y
    have n0 : X.s_0.heap.get? a = none := by
      cases e : X.s_0.heap.get? a with
      | none => rfl
      | some o =>
        obtain ⟨o', y⟩ := J.base.there a o e (by rw [hex]; simp)
        rw [nI] at y
        cases y
    have nL : a ≠ X.env.locals := fun y => nfr (List.mem_filterMap.mpr ⟨X.env, List.mem_cons_self, by rw [hf, y]⟩)
    have np' : ∀ p ∈ X.pn ++ pins, p.1 ≠ a := fun p hp y => by
      have q := (J.pin p hp).1
      rw [y, nI] at q
      cases q
    refine wpAny_handleBy_cons (codeAny_handlers_test ?_) (by intro q; cases q)
    have kind : PySem.W.Looks (model X.prog X.w) h3 (typeOf (.ref a)) cls := fun A Q E s k q => wpAny_typeOf_ref (k _ _ at3) (by rw [z3.1]; exact q)
    have meets := PySem.W.exm_one (M := model X.prog X.w) J3.kIn kind hm
    have name : ∀ {Q : Value → Shared → Prop} {E : Value → Shared → Prop}, Q c { s' with heap := h3 } → wpAny (model X.prog X.w) (X.A.mark (some (.ref a))) (eval (.Name x np) X.env) Q E { s' with heap := h3 } := fun {Q E} q => by
      obtain ⟨g, dbg, m | ⟨m, v, nn⟩⟩ := hc
      · exact ld_glob (X := X.suite a (X.pn ++ pins)) (in_suite J3 a) g m q dbg
      · exact ld_blt (X := X.suite a (X.pn ++ pins)) (in_suite J3 a) g m v q nn dbg
    refine name (meets.here ?_)
    cases b with
    | true =>
      obtain ⟨C, rfl, go⟩ := yes rfl
      refine codeAny_handlers_suite_as ?_
      refine HandSPX.lands_againZ fly fun h4 fly4 up4 => ?_
      have J4 : Inv X pins σ1 H1 { s' with heap := h4 } := J.landed ground fly4.1 ((up.trans up3).trans up4) os ag
      obtain ⟨oe4, vs4, at4, z4, d4⟩ := fly4.there
      have T4 : Inv X pins σ1 (upd H1 a (exr a C d)) { s' with heap := h4 } := inv_track J4 at4 z4 d4 na n0 nL np'
      refine store_ok (X := X.suite a (X.pn ++ pins)) (v := .ref a) (in_suite T4 a) hN hi (.inl hln) rfl (fun s5 S5 => ?_) (.inr hln)
      refine wpAny_mono ((hsu a (X.pn ++ pins)).run [] s5 _ _ _ S5 (go a na)) (fun f s6 hsp => ?_) fun _ _ z => False.elim z
      have gone : ∀ {σ6 : L2.St} {H6 : Hp} {Q : Shared → Prop}, Inv (X.suite a (X.pn ++ pins)) [] σ6 H6 s6 → (∀ s7, Inv X pins (σ6.set i none) H6 s7 → Q s7) →
          wpAny (model X.prog X.w) X.A (do bindName X.env n .none; unbindBehindTheSuite X.env n pos') (fun _ s7 => Q s7) X.xe s6 := fun S6 hq => gone_ok (off_suite ok S6) hN hi hln hq
      match f, hsp with
      | .next, ⟨σ6, H6, S6, q6⟩ => exact gone S6 fun s7 J7 => ⟨_, _, J7, q6⟩
      | .brk, ⟨σ6, H6, S6, q6⟩ => exact gone S6 fun s7 J7 => ⟨_, _, J7, q6⟩
      | .cont, ⟨σ6, H6, S6, q6⟩ => exact gone S6 fun s7 J7 => ⟨_, _, J7, q6⟩
      | .ret u, ⟨v6, σ6, H6, S6, r6, q6⟩ => exact gone S6 fun s7 J7 => ⟨_, _, _, J7, r6, q6⟩
    | false =>
      show wpAny _ X.A (handleBy (.ref a) X.env []) _ _ _
      refine wpAny_handleBy_nil ?_
      obtain ⟨_, _, _, oe, vs, T, oT, ts', he, hz, hd, h1, _⟩ := id fly
      unfold PySem.passOn
      refine wpAny_bind (wpAny_field he hd h1 ?_)
      rw [if_neg (show ¬ ((Value.ref T == Value.none) = true) from by simp)]
      have up_ : wpAny (model X.prog X.w) X.A (setFlight (.ref a) X.env.frame) (fun _ s4 => wpAny (model X.prog X.w) X.A (throw (.ref a) : Sem Flow) (SP X pins D) X.xe s4) X.xe { s' with heap := h3 } := by
        rw [hf]
        exact HandSPX.setFlight_upZ fly fun h4 held up4 => wpAny_throw (tk _ _ ⟨a, B, sI, pins, σ1, H1, cls, d, rfl, J, ground, (up.trans up3).trans up4, .inr (.inr (by rw [hs]; exact held)), na, os, ag, no rfl⟩)
      first
        | exact wpAny_bind (wpAny_pure (wpAny_bind up_))
        | exact wpAny_bind up_
  case through =>
    match f, hsp with
    | .next, ⟨σ', H', J', q⟩ => exact wpAny_execs_nil ⟨σ', H', J'.ofTry ok, q⟩
    | .brk, ⟨σ', H', J', q⟩ => exact ⟨σ', H', J'.ofTry ok, q⟩
    | .cont, ⟨σ', H', J', q⟩ => exact ⟨σ', H', J'.ofTry ok, q⟩
    | .ret u, ⟨v, σ', H', J', r, q⟩ => exact ⟨v, σ', H', J'.ofTry ok, r, q⟩
end
end Lm

namespace Lm
open PySem PySem.Spec PyProof.Rows L2
open LamX (CodeO TabS Tabs ExtN TabB LamS lamCx lamEnv lam_make2 lam_start2 run_ofS)

/-! ## What is asked of a caught error -/
/-- x.f, x a caught error -/
def tExR (K : PySem.W.Frag) (f : Str) (te : TE) : TE := fun σ H Q => te σ H fun x H1 => ∃ (a C d : Addr) (fs : List (Str × V)) (v : V), x = .ref a ∧ XfC K C ∧ PySem.W.findIn K (.ref C) f = some none ∧
  H1 a = some (exr a C (some d)) ∧ H1 d = some (.xd fs) ∧ fs.lookup f = some v ∧ Q v H1
theorem pe_exR {X : Cx} {e : Expr} {te : TE} {pos : Pos} {f : Str} (he : PE X e te) (hb : attributeBase e f X.env (eval e X.env) = eval e X.env := by rfl) : PE X (.Attribute e f pos) (tExR X.K f te) := by
  refine ⟨fun pins s σ H Q I h => attr_of hb (thn (he.run pins s σ H _ I h) fun u s1 ⟨x, H1, I1, rx, a, C, d, fs, v, ex, T, hno, ea, ed, l, q⟩ => ?_)⟩
  subst ex
  obtain rfl : u = Value.ref a := rx
  obtain ⟨oe, vs, ho, ⟨z1, z2⟩, hd⟩ := exr_at I1.hok ea
  obtain ⟨mA, hns, hr⟩ := I1.hok d _ ed
  obtain ⟨od, hod, hl⟩ := lookIn_ns hns
  obtain ⟨z, hz, rz⟩ := RelO.some_of (v := v) (o := mA f) (by rw [← l]; exact hr f)
  have J : PySem.W.InstAt s1.heap a oe C (some od) := ⟨ho, z1, by unfold PySem.W.notCls; rw [hd] <;> rfl, by rw [z2]; exact hod⟩
  exact HandSPX.exc_get I1.kIn J T.ga T.gg T.exC (PySem.W.findObj_own T.hdC hno rfl (by rw [hl, hz])) (handed_of rz) ⟨v, H1, I1.tok _, rz, q⟩
/-- isinstance(x, c), x also a caught error -/
def rIsR (K : PySem.W.Frag) : List V → Hp → VK → Prop := fun xs H Q => ∃ (x c : V) (t u : Value) (b : Bool), xs = [x, c] ∧ ClsV c u ∧
  (TyX K H x t ∨ ∃ a D d, x = .ref a ∧ t = .ref D ∧ ExcC K D ∧ H a = some (exr a D (some d)) ∧ ∃ fs, H d = some (.xd fs)) ∧ PySem.W.kitOne K t u = some b ∧ Q (.bl b) H
theorem call_isR {X : Cx} : CallR X (.builtin "isinstance") (rIsR X.K) := by
  intro pins s σ H xs us Q I r h
  obtain ⟨x, c, t, u, b, rfl, k, ty, e, q⟩ := h
  rcases ty with ty | ⟨a, D, d, rfl, rfl, C, ha, fs, hd⟩
  · exact call_isi pins s σ H _ us Q I r ⟨x, c, t, u, b, rfl, k, ty, e, q⟩
  · obtain ⟨u1, u2, rfl, r1, r2⟩ := vals2 r
    obtain rfl := k.eq r2
    obtain rfl : u1 = Value.ref a := r1
    obtain ⟨oe, vs, ho, ⟨z1, z2⟩, hdt⟩ := exr_at I.hok ha
    obtain ⟨mA, hns, _⟩ := I.hok d _ hd
    obtain ⟨od, hod, _⟩ := lookIn_ns hns
    exact PySem.W.kia_one (kit_exc (ox := oe) (od := some od) C) I.kIn ⟨ho, z1, by unfold PySem.W.notCls; rw [hdt] <;> rfl, by rw [z2]; exact hod⟩ e (fun z => nomatch z) fun tk => ⟨.bl b, H, I.tok tk, rfl, q⟩

/-! ## A lambda that was made -/
section
variable {X : Cx} {pins : List (Addr × Obj)} {σ : L2.St} {H : Hp} {s : Shared}
theorem acts_lam {k : Nat} {f c' : Addr} {pm ctv : Value} {params : Arguments} {body : Expr} {scope : Scope} {t : XK → TE} (I : Inv X pins σ H s) (L : LamS X.env.scope scope)
    (hf : s.heap.get? f = some (PySem.W.kla_obj "<lambda>" (X.env.qual ++ "<lambda>") params body scope (cloFrom X.env.cells scope.names []) pm c' ctv)) (hfn : H f = none) (hfr : f ∉ frs X.stack)
    (hbind : bindArgs (PySem.W.kla_fn "<lambda>" (X.env.qual ++ "<lambda>") params body scope (cloFrom X.env.cells scope.names []) pm (.ref c') ctv) ⟨[], []⟩ = pure [])
    (hbody : ∀ (A : Around) (outer : List Env) (s : Shared) (H : Hp) (E : XK), A.guards = some [] → Room k (A.deeper (lamEnv X scope s.heap.objs.size f c')) → PE (lamCx X A outer s H E scope f c') body (t E)) :
    Acts X.prog X.w X.K X.mg X.base (k + 1) (frs X.stack) f H s.heap (fun E H' Q => H' c' = some (CodeO c' (X.env.qual ++ "<lambda>")) ∧ t E σ H' Q) := by
  refine ⟨⟨_, _, _, _, hf⟩, hfn, hfr, fun A outer s1 H1 Q E gd hr e0 un ⟨hc, ht⟩ => ?_⟩
  have of1 := un.keep f _ hf hfn hfr (by simp)
  obtain ⟨⟨oc, vs, tk, hoc, hdc, hvc⟩, _, _⟩ := e0.hok c' _ hc
  have lim : s1.heap.NoLimit := e0.mod.nolimit.keeps fun b o e => (e0.bs b o e).1
  refine PySem.W.kla_callFunE hr.depth of1 rfl L.co L.gen rfl ⟨c', oc, vs, tk, rfl, hoc, hdc, hvc⟩ ?_
  rw [hbind]
  refine wpAny_pure (wpAny_newFunctionEnv (fun y hy => (L.own y hy).2) (fun y hy => absurd hy (by simp)) (fun h₁ hns hsb => ⟨lim.fresh _ hsb, ?_⟩) L.kind)
  show codeAny _ _ (.expr body (lamEnv X scope s1.heap.objs.size f c')) _ _
  have J : Inv (lamCx X A outer s1 H1 E scope f c') [] σ H1 { s1 with heap := h₁, toks := s1.toks + ([] : List (Str × Value)).length } :=
    lam_start2 I L e0 hr.hd un hns fun b o e => hsb.extBut b o (Nat.ne_of_lt (Heap.lt_size e)) (Heap.get?_push_of_some _ e)
  refine PySem.W.kla_codeExpr (wpAny_mono ((hbody A outer s1 H1 E gd (hr.deeper _)).run [] _ _ H1 Q J ht) (fun v s' hq => ?_) fun e s' hq => hq)
  obtain ⟨w', H', J', rv, q⟩ := hq
  exact ⟨w', H', J'.os, J'.bare, J'.base, J'.hok, rv, q⟩
/-- the lambda's own calls may let out what its caller wishes -/
theorem lam_takes {A : Around} {outer : List Env} {s : Shared} {H : Hp} {E : XK} {scope : Scope} {f c' : Addr} : Takes (lamCx X A outer s H E scope f c') (fun cls d _ H => E cls d H) := takes_of rfl rfl rfl rfl
theorem lam_passM {A : Around} {outer : List Env} {s : Shared} {H : Hp} {E : XK} {scope : Scope} {f c' : Addr} : Passes (L2.CX (lamCx X A outer s H E scope f c').prog (lamCx X A outer s H E scope f c').w) (lamCx X A outer s H E scope f c') E := passes_call lam_takes fun _ _ _ _ h => h
theorem lam_pass {A : Around} {outer : List Env} {s : Shared} {H : Hp} {E : XK} {scope : Scope} {f c' : Addr} : Passes (L2.CX X.prog X.w) (lamCx X A outer s H E scope f c') E := passes_call lam_takes fun _ _ _ _ h => h
end

/-! ## A def that takes a function ahead of its other arguments -/
/-- sp: what it makes of the function's doing, of its other arguments -/
abbrev SpF := (XK → Hp → VK → Prop) → List V → Hp → VK → Prop
structure CalF (P : Program) (w : World) (K : PySem.W.Frag) (mg : Str → Option Value) (base : Heap) (k j : Nat) (x : Str) (sp : SpF) : Prop where
  ex : ∃ (g : Addr) (fd : FuncData) (ps : List Str), mg x = some (.ref g) ∧ PySem.W.keepIn K (.ref g) = true ∧ Binds K fd ps [] ∧ (∀ tl vs H Q, sp tl vs H Q → vs.length + 1 = ps.length) ∧
    ∀ (A : Around) (outer : List Env) (s : Shared) (H : Hp) (args : Args) (us : List Value) (vs : List V) (Q : VK) (f : Addr) (tl : XK → Hp → VK → Prop), A.guards = some [] → Room k A → Env0 P w K mg base A outer s H → BindsTo s fd args (ps.zip (.ref f :: us)) → Vals vs us →
      Acts P w K mg base j (frs outer) f H s.heap tl → sp tl vs H Q → codeAny (model P w) A (.call (.ref g) args) (CR CX0 outer P w H s Q E0) s
/-- such a def, by its body -/
theorem calF {P : Program} {w : World} {K : PySem.W.Frag} {mg : Str → Option Value} {base : Heap} {x : Str} {params : Arguments} {body : List Stmt} {scope : Scope} {g : Addr} {fd : FuncData} {N ps : List Str} {k j : Nat} {sp : SpF}
    (F : FunD K x x params body scope [] [] g fd) (hm : mg x = some (.ref g)) (S : FnScope N ps scope)
    (b : ∀ (kV doc pm : Value) (an : Option Addr) (cdv ct : Value) (us : List Value), us.length = ps.length → bindArgs (PySem.W.fnOf x x params body scope .none kV doc pm an cdv ct) ⟨us, []⟩ = pure (ps.zip us))
    (many : ∀ tl vs H Q, sp tl vs H Q → vs.length + 1 = ps.length)
    (walk : ∀ (cdv : Value) (A : Around) (outer : List Env) (s : Shared) (H : Hp) (vs : List V) (Q : VK) (f : Addr) (tl : XK → Hp → VK → Prop), A.guards = some [] → Room k (A.deeper (envOfC x scope s.heap.objs.size g cdv)) → Acts P w K mg base j (frs outer) f H s.heap tl → sp tl vs H Q →
      ∃ t, PSs (cxOf CX0 P w K mg base N x scope g cdv A outer s H E0) body t ∧ t { nx := fun _ H' => Q .non H', rt := Q } (start N (.ref f :: vs)) H) : CalF P w K mg base (k + 1) j x sp := by
  refine ⟨g, fd, ps, hm, F.kp, FunD.bindsN F b, many, fun A outer s H args us vs Q f tl gd hr e0 hb r ac h => ?_⟩
  obtain ⟨oc, od, dV, kV, doc, pm, an, cdv, ct, osl, rfl, look, code, _, _⟩ := F.ex
  exact run_ofS (vs := .ref f :: vs) look code S hr e0 hb (.cons rfl r) (by rw [List.length_cons]; exact many _ _ _ _ h) fun hr' => walk cdv A outer s H vs Q f tl gd hr' ac h
section
variable {X : Cx} {k j : Nat} {x : Str} {sp : SpF}
/-- x(e, ..) within a def that got the function itself: it is handed on, ahead of the other arguments -/
def tPass (sp : SpF) (f : Addr) (tl : XK → Hp → VK → Prop) (t : TA) : TE := fun σ H Q => t σ H fun ws H1 => ∃ vs, ws = .ref f :: vs ∧ sp tl vs H1 Q
theorem pe_pass {m : Nat} {f : Addr} {tl : XK → Hp → VK → Prop} {p pos : Pos} {e : Expr} {es : List Expr} {t : TA} (c : CalF X.prog X.w X.K X.mg X.base k j x sp) (AC : Acts X.prog X.w X.K X.mg X.base j X.fs f X.H_0 X.s_0.heap tl) (hex : X.ex = []) (gd : X.A.guards = some []) (hr : Room m X.A) (hk : k ≤ m) (hg : Gl X x)
    (ha : PA X (e :: es) t) (hdb : (x == ("__debug__" : Str)) = false := by decide)
    (he : starEach (e :: es) X.env = (false, eval e X.env) :: starEach es X.env := by rfl) (hpl : (backTo pos (starEach es X.env)).any (·.1) = false := by rfl) :
    PE X (.Call (.Name x p) (e :: es) [] pos) (tPass sp f tl t) := by
  obtain ⟨g, fd, ps, hm, kp, b, many, run⟩ := c.ex
  refine ⟨fun pins s σ H Q I ht => ?_⟩
  refine wpAny_Call_Name_kw (ld_glob I hg hm ?_ hdb)
  refine PySem.W.callWith_K (h₀ := X.base) I.ok.mod.kin kp (thn (ha.run pos pins s σ H _ I ht) fun us s1 ⟨ws, H1, I1, r, vs, ew, q⟩ => ⟨I1.kIn, ?_⟩) he hpl
  subst ew
  cases r with
  | @cons _ u _ ur r1 rr =>
    obtain rfl : u = Value.ref f := r1
    have n : (Value.ref f :: ur).length = ps.length := by
      rw [List.length_cons, ← rr.length]
      exact many _ _ _ _ q
    refine wpAny_call (codeAny_mono (run X.A X.stack s1 H1 ⟨.ref f :: ur, []⟩ ur vs Q f tl gd (hr.mono hk) I1.env0 ?_ rr (AC.here hex I1) q) fun r s' hq => ?_)
    · have z := b s1 (.ref f :: ur) I1.kIn (by rw [List.append_nil]; exact n)
      rw [List.append_nil] at z
      exact z
    · match r, hq with
      | .error er, hq => exact False.elim hq
      | .ok (.ret u), hq => exact I1.after hq
      | .ok .next, hq => exact False.elim hq
      | .ok .brk, hq => exact False.elim hq
      | .ok .cont, hq => exact False.elim hq
/-- x(lambda: body, e, ..): the lambda is made, then the other arguments -/
def tLamF (T : List (Addr × Str)) (sp : SpF) (t : XK → TE) (ta : TA) : TE := fun σ H Q => Tabs T H ∧ ∀ H1, ExtN H H1 → Tabs T H1 → ∀ (c' : Addr) (q : Str), H1 c' = some (CodeO c' q) → ta σ H1 fun vs H2 => H2 c' = some (CodeO c' q) ∧ sp (fun E H' Q' => H' c' = some (CodeO c' q) ∧ t E σ H' Q') vs H2 Q
theorem pe_lamF {T : List (Addr × Str)} {m : Nat} {cc Pt : Addr} {params : Arguments} {body : Expr} {scope : Scope} {t : XK → TE} {ta : TA} {es : List Expr} {p lpos pos : Pos} (c : CalF X.prog X.w X.K X.mg X.base k (j + 1) x sp) (gd : X.A.guards = some []) (hr : Room m X.A) (hk : k ≤ m) (hg : Gl X x)
    (TB : TabB X.base X.mg cc Pt) (hcode : X.env.code = .ref cc) (hmT : (Pt, X.env.qual ++ "<lambda>") ∈ T) (hu : ∀ p ∈ T, p.1 = Pt → p.2 = X.env.qual ++ "<lambda>") (L : LamS X.env.scope scope) (hdef : defaultsOf params X.env = ([], []))
    (hbind : ∀ (q : Str) (cl : List (Str × Addr)) (pm cv ctv : Value), bindArgs (PySem.W.kla_fn "<lambda>" q params body scope cl pm cv ctv) ⟨[], []⟩ = pure [])
    (hbody : ∀ (A : Around) (outer : List Env) (s : Shared) (H : Hp) (E : XK) (f c' : Addr), A.guards = some [] → Room j (A.deeper (lamEnv X scope s.heap.objs.size f c')) → PE (lamCx X A outer s H E scope f c') body (t E))
    (ha : PA X es ta) (hdb : (x == ("__debug__" : Str)) = false := by decide) (he : starEach (.Lambda params body scope lpos :: es) X.env = (false, eval (.Lambda params body scope lpos) X.env) :: starEach es X.env := by rfl) (hpl : (backTo pos (starEach es X.env)).any (·.1) = false := by rfl) :
    PE X (.Call (.Name x p) (.Lambda params body scope lpos :: es) [] pos) (tLamF T sp t ta) := by
  obtain ⟨g, fd, ps, hm, kp, b, many, run⟩ := c.ex
  refine ⟨fun pins s σ H Q I ⟨hT, ht⟩ => ?_⟩
  refine wpAny_Call_Name_kw (ld_glob I hg hm ?_ hdb)
  refine PySem.W.callWith_K (h₀ := X.base) I.ok.mod.kin kp ?_ he hpl
  rw [he]
  show wpAny _ _ (spliced ((false, eval (.Lambda params body scope lpos) X.env) :: backTo pos (starEach es X.env))) _ _ s
  refine Calls.spliced_cons (lam_make2 I TB hcode hmT hu hT hdef (L.has I.ok) fun f c' pm' ctv H1 s1 I1 eN T1 hf hfn hfr hco => ?_)
  have dat : ∀ v, (PySem.W.kla_obj "<lambda>" (X.env.qual ++ "<lambda>") params body scope (cloFrom X.env.cells scope.names []) pm' c' ctv).data ≠ .cell v := fun v z => nomatch z
  have nL : f ≠ X.env.locals := fun z => by
    obtain ⟨_, ⟨o, es', ep, e, d, _⟩, _⟩ := I1.loc
    rw [← z, hf] at e
    cases e
    cases d
  have nF : f ∉ X.fs := fun z => hfr (by
    rcases I1.ok.stk with e | ⟨e, _⟩
    · rw [e]
      exact z
    · rw [e]
      obtain ⟨env, m, q⟩ := List.mem_filterMap.mp z
      exact List.mem_filterMap.mpr ⟨env, List.mem_cons_of_mem _ m, q⟩)
  have I1p : Inv X (pins ++ [(f, PySem.W.kla_obj "<lambda>" (X.env.qual ++ "<lambda>") params body scope (cloFrom X.env.cells scope.names []) pm' c' ctv)]) σ H1 s1 :=
    ⟨I1.ok, I1.os, I1.bare, I1.base, I1.loc, I1.cell, I1.free, I1.freeC, fun p hp => by
      rw [← List.append_assoc] at hp
      rcases List.mem_append.mp hp with h | h
      · exact I1.pin p h
      · obtain rfl := List.mem_singleton.mp h
        exact ⟨hf, hfn, nL, nF, dat⟩, I1.hok, I1.len⟩
  refine thn (ha.run pos _ s1 σ H1 _ I1p (ht H1 eN T1 c' _ hco)) fun us s2 ⟨vs, H2, I2, r, hc2, q⟩ => ⟨I2.kIn, ?_⟩
  have at2 := I2.pin (f, _) (List.mem_append_right _ (List.mem_append_right _ (List.mem_singleton.mpr rfl)))
  have J : Inv X pins σ H2 s2 := ⟨I2.ok, I2.os, I2.bare, I2.base, I2.loc, I2.cell, I2.free, I2.freeC, fun p hp => I2.pin p (by rw [← List.append_assoc]; exact List.mem_append_left _ hp), I2.hok, I2.len⟩
  have n : (Value.ref f :: us).length = ps.length := by
    rw [List.length_cons, ← r.length]
    exact many _ _ _ _ q
  refine wpAny_call (codeAny_mono (run X.A X.stack s2 H2 ⟨.ref f :: us, []⟩ us vs Q f _ gd (hr.mono hk) J.env0 ?_ r (acts_lam J L at2.1 at2.2.1 hfr (hbind _ _ _ _ _) fun A outer s H E gd' hr' => hbody A outer s H E f c' gd' hr') ?_) fun r s' hq => ?_)
  · have z := b s2 (.ref f :: us) J.kIn (by rw [List.append_nil]; exact n)
    rw [List.append_nil] at z
    exact z
  · exact q
  · match r, hq with
    | .error er, hq => exact False.elim hq
    | .ok (.ret u), hq => exact J.after hq
    | .ok .next, hq => exact False.elim hq
    | .ok .brk, hq => exact False.elim hq
    | .ok .cont, hq => exact False.elim hq
end
/-- a(), a the slot that holds what was got; what it lets out, as the code around wishes it at these slots -/
theorem pe_actsW {X : Cx} {j i : Nat} {f : Addr} {a : Str} {p1 p2 : Pos} {tl : XK → Hp → VK → Prop} {W : WX} (AC : Acts X.prog X.w X.K X.mg X.base j X.fs f X.H_0 X.s_0.heap tl) (hex : X.ex = []) (gd : X.A.guards = some []) (hr : Room j X.A) (tk : Takes X W)
    (hN : X.N[i]? = some a) (hv : Vis X.env.scope a) (hd : (a == ("__debug__" : Str)) = false := by decide) (hcd : (a == ("__classdict__" : Str)) = false := by decide) :
    PE X (.Call (.Name a p1) [] [] p2) (fun σ H Q => σ[i]? = some (some (.ref f)) ∧ ∃ (E : XK) (Q0 : VK), (∀ cls d H', E cls d H' → W cls d σ H') ∧ (∀ v H', Q0 v H' → Q v H') ∧ tl E H Q0) := by
  refine ⟨fun pins s σ H Q I ⟨hs, E, Q0, hW, hQ, ht⟩ => ?_⟩
  refine wpAny_Call_Name_kw (thn ((pe_var (pos := p1) (i := i) hN hv hd hcd).run pins s σ H (fun v H1 => v = .ref f ∧ H1 = H) I ⟨.ref f, hs, rfl, rfl⟩) fun u s1 ⟨v, H1, I1, r1, ev, eH⟩ => ?_)
  subst ev eH
  obtain rfl : u = Value.ref f := r1
  have AH := AC.here hex I1
  have AU := I1.base
  rw [hex] at AU
  refine PySem.W.callWith_F0 AH.is ?_
  refine wpAny_call (codeAny_mono (AC.act X.A X.stack s1 _ Q0 E gd hr I1.env0 AU ht) fun r s' hq => ?_)
  match r, hq with
  | .error e, hq => exact tk e s' (XE.of_call I1 hW hq)
  | .ok (.ret u), hq =>
    obtain ⟨v, H', I2, rv, q⟩ := I1.after hq
    exact ⟨v, H', I2, rv, hQ v H' q⟩
  | .ok .next, hq => exact False.elim hq
  | .ok .brk, hq => exact False.elim hq
  | .ok .cont, hq => exact False.elim hq
end Lm

namespace Lm
open PySem PySem.Spec PyProof.Rows L2
open LamX (CodeO TabS Tabs ExtN TabB LamS lamCx lamEnv)

/-! ## A def whose code object is known -/
section
variable {P : Program} {w : World} {K : PySem.W.Frag} {mg : Str → Option Value} {base : Heap} {CX : CXT} {k : Nat} {fd : FuncData} {ps : List Str} {sp : Sp}
theorem code_known {p : Str × Option Str} {x qual : Str} {params : Arguments} {body : List Stmt} {scope : Scope} {dvs : List V} {kws : List (Str × V)} (F : FunD K x qual params body scope dvs kws (He.fAd K p) fd) : fd.code = .ref (He.codeOf K p) := by
  obtain ⟨oc, od, dV, kV, doc, pm, an, cdv, ct, osl, rfl, look, code, _, _⟩ := F.ex
  obtain ⟨c, rfl⟩ := He.codeIn_ref code
  exact congrArg Value.ref (He.codeOf_eq look rfl).symm
theorem FnG.madeC {p : Str × Option Str} {x qual : Str} {params : Arguments} {body : List Stmt} {scope : Scope} {dvs : List V} {kws : List (Str × V)} {N : List Str}
    (F : FunD K x qual params body scope dvs kws (He.fAd K p) fd) (S : FnScope N ps scope) (many : ∀ vs H Q E, sp vs H Q E → vs.length = ps.length)
    (walk : ∀ (A : Around) (outer : List Env) (s : Shared) (H : Hp) (vs : List V) (Q : VK) (E : XK), A.guards = some [] → Room k (A.deeper (envOfC qual scope s.heap.objs.size (He.fAd K p) (.ref (He.codeOf K p)))) → sp vs H Q E →
      ∃ t, PSs (cxOf CX P w K mg base N qual scope (He.fAd K p) (.ref (He.codeOf K p)) A outer s H E) body t ∧ t { nx := fun _ H' => Q .non H', rt := Q } (start N vs) H) :
    FnG P w K mg base CX (k + 1) (He.fAd K p) fd ps sp := by
  have cc := code_known F
  obtain ⟨oc, od, dV, kV, doc, pm, an, cdv, ct, osl, rfl, look, code, _, _⟩ := F.ex
  obtain rfl : cdv = .ref (He.codeOf K p) := cc
  refine ⟨many, fun A outer s H args us vs Q E gd hr e0 hb r hsp => ?_⟩
  exact LamX.run_ofS look code S hr e0 hb r (many _ _ _ _ hsp) fun hr' => walk A outer s H vs Q E gd hr' hsp
end

/-! ## Errors that are raised -/
/-- a caught error of the class named x, that keeps v -/
def ErrR (K : PySem.W.Frag) (H : Hp) (a : Addr) (x : Str) (v : V) : Prop := ∃ d, H a = some (exr a (He.ga K x) (some d)) ∧ H d = some (.xd [("value", v)])
/-- what a law asks of the errors that are named ns -/
structure ErrL (P : Program) (w : World) (K : PySem.W.Frag) (mg : Str → Option Value) (base : Heap) (ns : List Str) : Prop where
  m : ∀ {x : Str}, x ∈ ns → mg x = some (.ref (He.ga K x))
  mM : mg "MirrorError" = some (.ref (He.ga K "MirrorError"))
  ini : ∃ (fI : Addr) (fd : FuncData), (∀ x ∈ ns, ErrC K (He.ga K x) fI) ∧ PySem.W.typeIn K (.ref fI) = some (.type "function") ∧ FnOk P w K mg base CX0 1 fI fd ["self", "value"] (spErr K) ∧ Binds K fd ["self", "value"] []
  exm : ∀ x ∈ ns, PySem.W.exmOne K (.ref (He.ga K x)) (.ref (He.ga K "MirrorError")) = some true
  kit : ∀ x ∈ ns, ∀ y ∈ ns, PySem.W.kitOne K (.ref (He.ga K x)) (.ref (He.ga K y)) = some (decide (x = y))
  kitN : ∀ y ∈ ns, PySem.W.kitOne K (.type "NoneType") (.ref (He.ga K y)) = some false
def errLB (K : PySem.W.Frag) (ns : List Str) : Bool := decide (PySem.W.typeIn K (.ref (iniA K)) = some (.type "function")) && (ns.all fun x => errB K x && (decide (PySem.W.exmOne K (.ref (He.ga K x)) (.ref (He.ga K "MirrorError")) = some true) &&
  (decide (PySem.W.kitOne K (.type "NoneType") (.ref (He.ga K x)) = some false) && ns.all fun y => decide (PySem.W.kitOne K (.ref (He.ga K x)) (.ref (He.ga K y)) = some (decide (x = y))))))
theorem errLB_ok {P : Program} {w : World} {K : PySem.W.Frag} {mg : Str → Option Value} {base : Heap} {fd : FuncData} {ns : List Str} (h : errLB K ns = true) (m : ∀ {x : Str}, x ∈ ns → mg x = some (.ref (He.ga K x))) (mM : mg "MirrorError" = some (.ref (He.ga K "MirrorError")))
    (F : FnOk P w K mg base CX0 1 (iniA K) fd ["self", "value"] (spErr K)) (b : Binds K fd ["self", "value"] []) : ErrL P w K mg base ns := by
  obtain ⟨h1, h2⟩ := He.ba h
  have at_ : ∀ x ∈ ns, errB K x = true ∧ PySem.W.exmOne K (.ref (He.ga K x)) (.ref (He.ga K "MirrorError")) = some true ∧ PySem.W.kitOne K (.type "NoneType") (.ref (He.ga K x)) = some false ∧ ∀ y ∈ ns, PySem.W.kitOne K (.ref (He.ga K x)) (.ref (He.ga K y)) = some (decide (x = y)) := fun x hx => by
    obtain ⟨a1, a⟩ := He.ba (List.all_eq_true.mp h2 x hx)
    obtain ⟨a2, a⟩ := He.ba a
    obtain ⟨a3, a4⟩ := He.ba a
    exact ⟨a1, of_decide_eq_true a2, of_decide_eq_true a3, fun y hy => of_decide_eq_true (List.all_eq_true.mp a4 y hy)⟩
  exact ⟨m, mM, ⟨iniA K, fd, fun x hx => errB_ok (at_ x hx).1, of_decide_eq_true h1, F, b⟩, fun x hx => (at_ x hx).2.1, fun x hx => (at_ x hx).2.2.2, fun x hx => (at_ x hx).2.2.1⟩
/-- raise Err(e): what is wished of it -/
def tRaise (K : PySem.W.Frag) (x : Str) (ta : TA) : L2.St → Hp → XK → Prop := tMkO (He.ga K x) (spErr K) [] ta
section
variable {X : Cx} {j : Nat} {x : Str} {e : Expr} {p pos : Pos} {ta : TA} {ns : List Str}
theorem pmk_err (Z : ErrL X.prog X.w X.K X.mg X.base ns) (hx : x ∈ ns) (hr : Room j X.A) (hj : 2 ≤ j) (hg : Gl X x) (ha : PA X [e] ta)
    (hdb : (x == ("__debug__" : Str)) = false := by decide) (he : starEach [e] X.env = (false, eval e X.env) :: starEach [] X.env := by rfl) (hpl : (backTo pos (starEach [] X.env)).any (·.1) = false := by rfl) :
    PMk X (.Call (.Name x p) [e] [] pos) (tRaise X.K x ta) := by
  obtain ⟨fI, fd, h1, tI, F, b⟩ := Z.ini
  have C := h1 x hx
  exact pmk_oex C.T C.iC tI F (hr.mono hj) b .nil pass0 hg (Z.m hx) ha hdb he hpl
end
theorem raise_ok {P : Program} {w : World} {K : PySem.W.Frag} {mg : Str → Option Value} {base : Heap} {ns : List Str} {x : Str} {te : TE} {σ : L2.St} {H : Hp} {E : XK} (Z : ErrL P w K mg base ns) (hx : x ∈ ns)
    (h : te σ H fun v H1 => ∀ d H2, Same H1 H2 → H1 d = none → H2 d = some (.xd [("value", v)]) → E (.ref (He.ga K x)) (some d) H2)
    (mono : ∀ {Q Q' : VK}, te σ H Q → (∀ v H', Q v H' → Q' v H') → te σ H Q') : tRaise K x (tCons te tNil) σ H E := by
  obtain ⟨fI, _, hC, _⟩ := Z.ini
  have C := hC x hx
  refine mono h fun v H1 k => ⟨(by decide : 1 ≤ 1000), fun a ha => ⟨a, _, v, rfl, C.T, C.nv, upd_same, fun dx hdx hne => ⟨rfl, dx, _, upd_same, ?_, ?_, k dx _ (fun b o hb => ?_) ?_ upd_same⟩⟩⟩
  · rw [upd_ne hne]
    exact upd_same
  · rw [upd_ne hne] at hdx
    exact hdx
  · have nd : H1 dx = none := by
      rw [upd_ne hne] at hdx
      exact hdx
    have n1 : b ≠ a := ne_of_none hb ha
    have n2 : b ≠ dx := ne_of_none hb nd
    rw [upd_ne n2, del_ne n1, upd_ne n1, upd_ne n2, upd_ne n1]
    exact hb
  · rw [upd_ne hne] at hdx
    exact hdx

/-! ## told: the error that was caught, or what came back -/
def spTold (K : PySem.W.Frag) : SpF := fun tl vs H0 Q => vs = [] ∧ ∀ H, Same H0 H → tl (fun cls d H' => ∃ C : Addr, cls = .ref C ∧ PySem.W.exmOne K cls (.ref (He.ga K "MirrorError")) = some true ∧ ∀ a, H' a = none → ∀ p, upd H' a (exr a C d) p = none → Q (.ref p) (upd (upd H' a (exr a C d)) p (.tup [.ref a, .non])))
  H (fun v H' => ∀ p, H' p = none → Q (.ref p) (upd H' p (.tup [.non, v])))

/-! ## Where tables of code objects grow -/
/-- what was tracked is as it was, but for a and tables -/
def KeptT (a : Addr) (H H' : Hp) : Prop := ∀ b o, H b = some o → b ≠ a → (∀ ps, o ≠ .tbl ps) → H' b = some o
theorem KeptT.refl {a : Addr} {H : Hp} : KeptT a H H := fun _ _ e _ _ => e
theorem KeptT.trans {a : Addr} {H1 H2 H3 : Hp} (h : KeptT a H1 H2) (k : KeptT a H2 H3) : KeptT a H1 H3 := fun b o e n t => k b o (h b o e n t) n t
theorem KeptT.but {a : Addr} {H H' : Hp} (h : KeptBut a H H') : KeptT a H H' := fun b o e n _ => h b o e n
theorem KeptT.same {a : Addr} {H H' : Hp} (h : Same H H') : KeptT a H H' := fun b o e _ _ => h b o e
theorem KeptT.ext {a : Addr} {H H' : Hp} (h : ExtN H H') : KeptT a H H' := fun b o e _ t => h b o e t
theorem ScL.keptT {K : PySem.W.Frag} {H H' : Hp} {a q : Addr} {xs : List V} (h : ScL K H a xs) (kb : KeptT q H H') (n : ∀ o u, H q ≠ some (.frz o u)) : ScL K H' a xs := by
  rcases h with ⟨o, h⟩ | h
  · exact .inl ⟨o, kb _ _ h (fun z => n _ _ (by rw [← z]; exact h)) fun ps z => nomatch z⟩
  · exact .inr h
theorem PotAt.keptT {H H' : Hp} {a q : Addr} {n : Nat} (h : PotAt H a n) (kb : KeptT q H H') (ne : a ≠ q) : PotAt H' a n := by
  obtain ⟨p0, p1, p2, e, b⟩ := h
  exact ⟨p0, p1, p2, kb _ _ e ne (fun ps z => nomatch z), b⟩
def spRightT (T : List (Addr × Str)) : Sp := fun vs H Q _ => ∃ a : Addr, vs = [.ref a] ∧ PotAt H a 0 ∧ Tabs T H ∧ ∀ H', KeptT a H H' → Tabs T H' → Q (.bl true) H'
def spLawT (K : PySem.W.Frag) (T : List (Addr × Str)) : Sp := fun vs H Q _ => ∃ (a : Addr) (ns : List Int), vs = [.ref a] ∧ ScL K H a (ns.map V.int) ∧ ns.length ≤ 63 ∧ Tabs T H ∧ ∀ H', Q (.bl true) H'
theorem tabs_same {T : List (Addr × Str)} {H H' : Hp} (t : Tabs T H) (s : Same H H') : Tabs T H' := LamX.Tabs.ext t s

/-! ## The end of a law that makes lambdas -/
section
variable {P : Program} {w : World} {K : PySem.W.Frag} {mg mb : Str → Option Value} {k : Nat} {fa a : Addr} {fd : FuncData} {x : Str} {sp : Sp} {s₁ : Shared} {vs : List Value} {ns : List Int} {cs : List (Addr × Addr)}
theorem lawT_core (H : Hp) (KX : K.In s₁.heap) (hns : s₁.heap.Ns mainGlobals mg) (hb : s₁.heap.Ns builtinsNs mb) (hbb : ∀ x : Str, x ≠ "__name__" → mb x = bootBuiltins x) (hlim : s₁.heap.NoLimit) (hmo : ∃ mm, s₁.heap.Ns sysModules mm) (hdg : ∃ mc, s₁.heap.Ns cStatics mc ∧ mc "sys.int_max_str_digits" = none) (hg : s₁.gens = #[])
    (hT : ∀ p ∈ cs, s₁.heap.get? p.2 = some { cls := .none, data := .fields #[] }) (nT : ∀ p ∈ cs, K.lookup p.2 = none) (hC : ∀ p ∈ cs, PySem.W.CodeHd s₁.heap p.1 p.2)
    (hbm : ∃ (bm : Addr) (ob : Obj), mg "__builtins__" = some (.ref bm) ∧ bm ≠ builtinsNs ∧ s₁.heap.get? bm = some ob ∧ ob.cls = .type "module" ∧ ob.dict = some builtinsNs ∧ ob.data = .plain)
    (ha : s₁.heap.get? a = some { cls := .type "list", data := .seq vs.toArray }) (hr : Room k callerA) (F : ∀ base : Heap, LawHeap K mg base → (∀ p ∈ cs, TabB base mg p.1 p.2) → FnG P w K mg base CX0 k fa fd [x] sp)
    (hbind : ∀ (s : Shared) (u : Value), BindsTo s fd ⟨[u], []⟩ [(x, u)]) (hsp : sp [.ref a] H (fun v _ => v = .bl true) E0)
    (hH : ∀ p ∈ cs, H p.2 = some (.tbl #[])) (hok : HOk P w H s₁.heap) (only : ∀ b u, H b = some u → (b = a ∧ K.lookup a = none ∧ ∃ o xs, u = .frz o (.lst xs)) ∨ ∃ p ∈ cs, b = p.2) :
    codeAny (model P w) callerA (.call (.ref fa) ⟨[.ref a], []⟩) (LawEnd s₁) s₁ := by
  have noH : ∀ {b : Addr} {o : Obj}, s₁.heap.get? b = some o → (∀ vs n, o.data ≠ .seq vs n) → o.data ≠ .fields #[] → H b = none := fun {b o} e h1 h2 => by
    cases q : H b with
    | none => rfl
    | some u =>
      rcases only b u q with ⟨z, _⟩ | ⟨p, hp, z⟩
      · rw [z, ha] at e
        cases e
        exact (h1 _ _ rfl).elim
      · rw [z, hT p hp] at e
        cases e
        exact (h2 rfl).elim
  have ns_ : ∀ {b : Addr} {m : Str → Option Value}, s₁.heap.Ns b m → (hidT s₁.heap H).Ns b m := by
    rintro b m ⟨o, es, ep, e, d, r⟩
    exact ⟨o, es, ep, hidT_get e (noH e (fun _ _ z => by rw [d] at z; cases z) fun z => by rw [d] at z; cases z), d, r⟩
  have kin : K.In (hidT s₁.heap H) := fun b o e => hidT_get (KX b o e) (by
    cases q : H b with
    | none => rfl
    | some u =>
      rcases only b u q with ⟨z, z2, _⟩ | ⟨p, hp, z⟩
      · rw [z, z2] at e
        cases e
      · rw [z, nT p hp] at e
        cases e)
  have base : LawHeap K mg (hidT s₁.heap H) := ⟨kin, ns_ hns, let ⟨mm, h⟩ := hmo; ⟨mm, ns_ h⟩, let ⟨mc, h, e⟩ := hdg; ⟨mc, ns_ h, e⟩⟩
  have TB : ∀ p ∈ cs, TabB (hidT s₁.heap H) mg p.1 p.2 := fun p hp => by
    refine ⟨?_, ?_, fun z => ?_⟩
    · obtain ⟨o, us, file, tf, flags, tg, inF, text, tt, e1, r1, r2, r3, r4, r5, r6, r7, r8, hne⟩ := hC p hp
      refine ⟨o, us, file, tf, flags, tg, inF, text, tt, hidT_get e1 (noH e1 (fun _ _ z => by rw [r2] at z; cases z) fun z => ?_), r1, r2, r3, r4, r5, r6, r7, r8, hne⟩
      rw [r2] at z
      cases z
      simp at r3
    · obtain ⟨bm, ob, b1, b2, b3, b4, b5, b6⟩ := hbm
      refine ⟨bm, ob, b1, b2, fun q => ?_, fun q => ?_, hidT_get b3 (noH b3 (fun _ _ z => by rw [b6] at z; cases z) fun z => by rw [b6] at z; cases z), b4, b5, b6⟩
      · obtain ⟨o, es, ep, e, hd, _⟩ := hns
        rw [q, e] at b3
        cases b3
        rw [hd] at b6
        cases b6
      · rw [q, hT p hp] at b3
        cases b3
        cases b6
    · obtain ⟨o, es, ep, e, hd, _⟩ := hns
      rw [z, hT p hp] at e
      cases e
      cases hd
  have e0 : Env0 P w K mg (hidT s₁.heap H) callerA [] s₁ H := ⟨rfl, ⟨kin, base.glob, ⟨mb, ns_ hb, hbb⟩, let ⟨mc, h1, h2⟩ := hlim; ⟨mc, ns_ h1, h2⟩⟩, fun b o e => of_hidT e, Nat.le_of_eq (hidT_size _ _), trivial, fun b hb => absurd (show b ∈ ([] : List Addr) from hb) (by simp), hok, .of_eq hg⟩
  refine codeAny_mono ((F _ base TB).goes callerA [] s₁ H ⟨[.ref a], []⟩ [.ref a] [.ref a] _ _ rfl hr e0 (hbind s₁ (.ref a)) (.cons rfl .nil) hsp) fun r s' h => ?_
  match r, h with
  | .error e, h => exact False.elim h
  | .ok .next, h => exact False.elim h
  | .ok .brk, h => exact False.elim h
  | .ok .cont, h => exact False.elim h
  | .ok (.ret u), ⟨v, H', os, bare, un, hok', r', q⟩ =>
    obtain rfl : v = .bl true := q
    obtain rfl : u = Value.bool true := r'
    have grown : ∀ p ∈ cs, ∃ more : Array Value, s'.heap.get? p.2 = some { cls := .none, data := .fields more } := fun p hp => by
      obtain ⟨more, z⟩ := un.tbls p.2 #[] (hH p hp)
      exact ⟨_, hok' p.2 _ z⟩
    have kept : ∀ b o, s₁.heap.get? b = some o → s'.heap.get? b = some o ∨ ∃ p ∈ cs, b = p.2 := fun b o e => by
      cases q : H b with
      | none => exact .inl (un.keep b o e q (fun h => absurd (show b ∈ ([] : List Addr) from h) (by simp)) (by simp))
      | some u =>
        rcases only b u q with ⟨_, _, ob, xs, z⟩ | z
        · rw [z] at q
          have e1 := (hok b _ q).1
          have e2 := (hok' b _ (un.frzs b _ _ q)).1
          rw [e] at e1
          cases e1
          exact .inl e2
        · exact .inr z
    refine ⟨rfl, ⟨fun b o e => ?_, fun b o e => ?_⟩, os, bare⟩
    · rcases kept b o e with z | ⟨p, hp, rfl⟩
      · exact .inl z
      · obtain ⟨more, m⟩ := grown p hp
        rw [hT p hp] at e
        cases e
        exact .inr (.inl ⟨((hC p hp).tab (hT p hp)).isCodeTable, rfl, #[], more, rfl, by rw [Array.empty_append]; exact m⟩)
    · rcases kept b o e with z | ⟨p, hp, rfl⟩
      · exact ⟨o, z⟩
      · obtain ⟨more, m⟩ := grown p hp
        exact ⟨_, m⟩
theorem lawT_call (KX : K.In s₁.heap) (hns : s₁.heap.Ns mainGlobals mg) (hb : s₁.heap.Ns builtinsNs mb) (hbb : ∀ x : Str, x ≠ "__name__" → mb x = bootBuiltins x) (hlim : s₁.heap.NoLimit) (hmo : ∃ mm, s₁.heap.Ns sysModules mm) (hdg : ∃ mc, s₁.heap.Ns cStatics mc ∧ mc "sys.int_max_str_digits" = none) (hg : s₁.gens = #[])
    (hT : ∀ p ∈ cs, s₁.heap.get? p.2 = some { cls := .none, data := .fields #[] }) (nT : ∀ p ∈ cs, K.lookup p.2 = none) (hC : ∀ p ∈ cs, PySem.W.CodeHd s₁.heap p.1 p.2)
    (hbm : ∃ (bm : Addr) (ob : Obj), mg "__builtins__" = some (.ref bm) ∧ bm ≠ builtinsNs ∧ s₁.heap.get? bm = some ob ∧ ob.cls = .type "module" ∧ ob.dict = some builtinsNs ∧ ob.data = .plain)
    (ha : s₁.heap.get? a = some { cls := .type "list", data := .seq vs.toArray }) (hi : IntsAre vs ns) (hl : ns.length ≤ sizeLine) (hr : Room k callerA) (F : ∀ base : Heap, LawHeap K mg base → (∀ p ∈ cs, TabB base mg p.1 p.2) → FnG P w K mg base CX0 k fa fd [x] sp)
    (hbind : ∀ (s : Shared) (u : Value), BindsTo s fd ⟨[u], []⟩ [(x, u)]) (hsp : ∀ H : Hp, (∀ p ∈ cs, H p.2 = some (.tbl #[])) → ScL K H a (ns.map V.int) → sp [.ref a] H (fun v _ => v = .bl true) E0) :
    codeAny (model P w) callerA (.call (.ref fa) ⟨[.ref a], []⟩) (LawEnd s₁) s₁ := by
  have rv := vals_ints hi
  have aT : ∀ p ∈ cs, p.2 ≠ a := fun p hp z => by
    have q := hT p hp
    rw [z, ha] at q
    cases (congrArg Obj.data (Option.some.inj q) : Data.seq _ _ = Data.fields #[])
  have tabs : ∀ {b : Addr}, (∃ p ∈ cs, b = p.2) → s₁.heap.get? b = some { cls := .none, data := .fields #[] } := fun ⟨p, hp, z⟩ => by
    rw [z]
    exact hT p hp
  cases hk : K.lookup a with
  | some o =>
    have e := KX a o hk
    rw [ha] at e
    cases e
    refine lawT_core (fun b => if b ∈ cs.map (·.2) then some (.tbl #[]) else none) KX hns hb hbb hlim hmo hdg hg hT nT hC hbm ha hr F hbind (hsp _ (fun p hp => if_pos (List.mem_map.mpr ⟨p, hp, rfl⟩)) (.inr fun H' => .inr ⟨_, vs.toArray, _, hk, rfl, rfl, rfl, by rw [List.size_toArray, hi.length]; exact hl, by simpa using rv⟩))
      (fun p hp => if_pos (List.mem_map.mpr ⟨p, hp, rfl⟩)) (fun b u z => ?_) fun b u z => ?_
    all_goals
      by_cases m : b ∈ cs.map (·.2)
      · obtain ⟨p, hp, y⟩ := List.mem_map.mp m
        first
          | exact .inr ⟨p, hp, y.symm⟩
          | (cases (if_pos m).symm.trans z
             exact tabs ⟨p, hp, y.symm⟩)
      · cases (if_neg m).symm.trans z
  | none =>
    have mine : ∀ p ∈ cs, (if p.2 = a then some (HO.frz { cls := .type "list", data := .seq vs.toArray } (.lst (ns.map V.int))) else if p.2 ∈ cs.map (·.2) then some (.tbl #[]) else none) = some (.tbl #[]) := fun p hp =>
      (if_neg (aT p hp)).trans (if_pos (List.mem_map.mpr ⟨p, hp, rfl⟩))
    refine lawT_core (fun b => if b = a then some (.frz { cls := .type "list", data := .seq vs.toArray } (.lst (ns.map V.int))) else if b ∈ cs.map (·.2) then some (.tbl #[]) else none) KX hns hb hbb hlim hmo hdg hg hT nT hC hbm ha hr F hbind
      (hsp _ mine (.inl ⟨{ cls := .type "list", data := .seq vs.toArray }, if_pos rfl⟩)) mine (fun b u z => ?_) fun b u z => ?_
    · by_cases y : b = a
      · cases (if_pos y).symm.trans z
        rw [y]
        exact ⟨ha, by rw [List.length_map]; exact hl, vs, _, rv, ha⟩
      · have z := (if_neg y).symm.trans z
        by_cases m : b ∈ cs.map (·.2)
        · obtain ⟨p, hp, q⟩ := List.mem_map.mp m
          cases (if_pos m).symm.trans z
          exact tabs ⟨p, hp, q.symm⟩
        · cases (if_neg m).symm.trans z
    · by_cases y : b = a
      · cases (if_pos y).symm.trans z
        exact .inl ⟨y, hk, _, _, rfl⟩
      · have z := (if_neg y).symm.trans z
        by_cases m : b ∈ cs.map (·.2)
        · obtain ⟨p, hp, q⟩ := List.mem_map.mp m
          exact .inr ⟨p, hp, q.symm⟩
        · cases (if_neg m).symm.trans z
theorem walkT {l : PySem.W.OpenLaw} {n k : Nat} {q : Program} {loose : List Str} {XP : (Str → Option Value) → Heap → Prop} {YP : World → Heap → Prop} {d : DefRec} {x : Str}
    (hn : l.most = some n) (hn2 : n ≤ sizeLine) (hdf : d.params.defaults = []) (hr : Room k callerA) (him : importsNone q = true)
    (F : ∀ (w : World) (mg : Str → Option Value) (fa : Addr) (h : Heap), YP w h → h.Ns mainGlobals mg → mg d.name = some (.ref fa) →
      ∃ (K : PySem.W.Frag) (fd : FuncData) (cs : List (Addr × Addr)) (sp : Sp), K.In h ∧ (∀ p ∈ cs, h.get? p.2 = some { cls := .none, data := .fields #[] }) ∧ (∀ p ∈ cs, K.lookup p.2 = none) ∧ (∀ p ∈ cs, PySem.W.CodeHd h p.1 p.2) ∧ (∀ (s : Shared) (u : Value), BindsTo s fd ⟨[u], []⟩ [(x, u)]) ∧
        (∀ (H : Hp) (a : Addr) (ns : List Int), ns.length ≤ n → (∀ p ∈ cs, H p.2 = some (.tbl #[])) → ScL K H a (ns.map V.int) → sp [.ref a] H (fun v _ => v = .bl true) E0) ∧
        ∀ base : Heap, LawHeap K mg base → (∀ p ∈ cs, TabB base mg p.1 p.2) → FnG l.prog w K mg base CX0 k fa fd [x] sp) :
    PySem.W.WalkO q loose XP YP l.row.toRowW d [] (fun f vs => PySem.call f vs) := by
  refine Att.attach_call hn hdf fun w s₀ s₁ mg mb fa o pm cd doc a vs ns G Y ho hd hcd hmg hobj hints hlen hg => ?_
  obtain ⟨K, fd, cs, sp, KX, hT, nT, hC, hb, hsp, hF⟩ := F w mg fa _ Y G.T.g hmg
  obtain ⟨mm, hmm, _⟩ := (G.T.seer him).mods
  exact lawT_call KX G.T.g G.T.b G.T.builtins G.T.nolimit ⟨mm, hmm⟩ G.T.nodigits hg hT nT hC G.T.bmain hobj hints (Nat.le_trans hlen hn2) hr hF hb fun H hH hS => hsp H a ns hlen hH hS
end
theorem codeO_lst {c : Addr} {q : Str} {xs : List V} : CodeO c q ≠ .lst xs := fun z => by
  unfold CodeO at z
  cases z
theorem tabs_put {T : List (Addr × Str)} {H : Hp} {D : Addr} {xs : List V} {o : HO} (t : Tabs T H) (h : H D = some (.lst xs)) : Tabs T (upd H D o) := fun p hp => by
  obtain ⟨ps, h1, h2, h3⟩ := t p hp
  refine ⟨ps, by rw [upd_ne (ne_of h1 h (fun z => nomatch z))]; exact h1, h2, fun pos cv hc => ?_⟩
  obtain ⟨c, e1, e2⟩ := h3 pos cv hc
  exact ⟨c, e1, by rw [upd_ne (ne_of e2 h codeO_lst)]; exact e2⟩
theorem tabs_pot {T : List (Addr × Str)} {H H' : Hp} {a : Addr} {n : Nat} (t : Tabs T H) (k : KeptBut a H H') (h : PotAt H a n) : Tabs T H' := fun p hp => by
  obtain ⟨_, _, _, e, _⟩ := h
  obtain ⟨ps, h1, h2, h3⟩ := t p hp
  refine ⟨ps, k _ _ h1 (ne_of h1 e (fun z => nomatch z)), h2, fun pos cv hc => ?_⟩
  obtain ⟨c, e1, e2⟩ := h3 pos cv hc
  exact ⟨c, e1, k _ _ e2 (ne_of e2 e codeO_lst)⟩
end Lm

namespace PySem.W
open PySem PySem.Calls PyProof.Rows
section
variable {prog : Program} {w : World} {A : Around} {E : Value → Shared → Prop} {s : Shared} {K : Frag} {x y C f : Addr} {ox oy : Obj} {od od' : Option Obj}
/-- x op y, both of one own class that has the operator -/
theorem lm_bin {op : Operator} {Q : Value → Shared → Prop} (X : K.In s.heap) (I : InstAt s.heap x ox C od) (J : InstAt s.heap y oy C od') (hc : selfFirst K C = true) (hs : findIn K (.ref C) (PySem.dunder op.info.2) = some (some (.ref f))) (hf : isFn K (.ref f) = true)
    (h : wpAny (model prog w) A (call (.ref f) [.ref x, .ref y]) (CmpBack Q) E s) : wpAny (model prog w) A (binaryOp op (.ref x) (.ref y)) Q E s := by
  obtain ⟨cd, rest, hcd, hm⟩ := ksp_first hc
  rcases hi : op.info with ⟨sym, nm'⟩
  rw [hi] at hs
  dsimp only at hs
  have one := ksp_try X I hs hf h
  obtain ⟨hh, g, d, tt, os⟩ := s
  have L1 : Looks (model prog w) hh (typeOf (.ref x)) (.ref C) := I.type
  have L2 : Looks (model prog w) hh (typeOf (.ref y)) (.ref C) := J.type
  have L3 : Looks (model prog w) hh (fillsNumberSlot (.ref C) nm') true := fills_K X hcd hm hs
  simp only [binaryOp, hi]
  refine wpAny_holding (wpAny_bind ?_)
  unfold binaryOp1
  refine wpAny_bind (L1.at (wpAny_bind (L2.at (wpAny_bind (L3.at ?_)))))
  have same : (Value.ref C == Value.ref C) = true := beq_self_eq_true _
  simp only [same, if_true]
  ksp_lk
  refine wpAny_mono one (fun r s' hr' => ?_) fun _ _ e => e
  obtain ⟨v, rfl, hq⟩ := hr'
  ksp_lk
  exact hq
end
end PySem.W
namespace Lm
open PySem PySem.Spec PyProof.Rows L2
/-! ## tuple * int, all counts from 0 -/
open SeqAt in
theorem tup_mul_same (l : Addr) (items : Array Value) (n : Nat) (dd : Option Addr) (sl : Array (Option Value)) (x : Int) (u : Tok) (c0 : (decide (x < -(2 ^ 63)) || decide (x ≥ 2 ^ 63)) = false) (c1 : (items.isEmpty || x == 1) = true) :
    Meets (Builtin.«tuple.__mul__» ⟨[.ref l, .int x u], []⟩) (fun _ R s => s.heap.get? l = some { cls := .type "tuple", dict := dd, data := .seq items n, slots := sl } ∧ R (.ok (.ret (.ref l))) s) :=
  .of_wp fun prog w A R s h => by
    obtain ⟨hp, g, d, tk, os⟩ := s
    obtain ⟨hl, h⟩ := h
    have f1 := AutoSeq1.idx_int
    wp_walk using wpAny_loadPart' hl
    repeat (first
      | (refine wpAny_ite_false (decide_eq_false (by rw [c0]; exact Bool.false_ne_true)) ?_; wp_walk using wpAny_loadPart' hl)
      | (refine wpAny_ite_true (decide_eq_true c1) ?_; wp_walk using wpAny_loadPart' hl))
    exact ⟨_, rfl, h⟩
open SeqAt in
theorem tup_mul_none (l : Addr) (items : Array Value) (n : Nat) (dd : Option Addr) (sl : Array (Option Value)) (x : Int) (u : Tok) (c0 : (decide (x < -(2 ^ 63)) || decide (x ≥ 2 ^ 63)) = false) (c1 : (items.isEmpty || x == 1) = false) (c2 : (decide (x ≤ 0) || items.isEmpty) = true) :
    Meets (Builtin.«tuple.__mul__» ⟨[.ref l, .int x u], []⟩) (fun _ R s => s.heap.get? l = some { cls := .type "tuple", dict := dd, data := .seq items n, slots := sl } ∧ R (.ok (.ret (Value.ref s.heap.objs.size))) { s with heap := s.heap.push { cls := Value.type "tuple", data := Data.seq #[] }, toks := s.toks }) :=
  .of_wp fun prog w A R s h => by
    obtain ⟨hp, g, d, tk, os⟩ := s
    obtain ⟨hl, h⟩ := h
    have f1 := AutoSeq1.idx_int
    wp_walk using wpAny_loadPart' hl
    repeat (first
      | (refine wpAny_ite_false (decide_eq_false (by rw [c0]; exact Bool.false_ne_true)) ?_; wp_walk using wpAny_loadPart' hl)
      | (refine wpAny_ite_false (decide_eq_false (by rw [c1]; exact Bool.false_ne_true)) ?_; wp_walk using wpAny_loadPart' hl)
      | (refine wpAny_ite_true (decide_eq_true c2) ?_; wp_walk using wpAny_loadPart' hl))
    exact ⟨_, rfl, h⟩
def rRep0 (K : PySem.W.Frag) : R2 := fun x y H Q => ∃ l k xs, x = .ref l ∧ y = .int k ∧ SqT K H l xs ∧ 0 ≤ k ∧ k ≤ 1000 ∧ (((xs = [] ∨ k = 1) ∧ Q (.ref l) H) ∨ (xs ≠ [] ∧ k = 0 ∧ ∀ p, H p = none → Q (.ref p) (upd H p (.tup []))))
theorem op_rep0 {X : Cx} : OpR X (binaryOp .Mult) (rRep0 X.K) := by
  intro pins s σ H x y v u Q I rx ry h
  obtain ⟨l, k, xs, rfl, rfl, hT, h1, h2, h⟩ := h
  cases rx
  obtain ⟨t, rfl⟩ := ry
  obtain ⟨its, r, ⟨⟨cls, dd, data, sl⟩, ho, hc, n, hd⟩, hs⟩ := I.tuple hT
  simp only at hc hd
  subst hc hd
  have hle : its.length = xs.length := r.length.symm
  have c0 : (decide (k < -(2 ^ 63)) || decide (k ≥ 2 ^ 63)) = false := by
    rw [decide_eq_false (by omega), decide_eq_false (by omega)] <;> rfl
  have emp : its.toArray.isEmpty = decide (xs = []) := by
    cases its with
    | nil =>
      cases xs with
      | nil => rfl
      | cons _ _ => cases hle
    | cons _ _ =>
      cases xs with
      | nil => cases hle
      | cons _ _ => rfl
  rcases h with ⟨h, q⟩ | ⟨ne, rfl, q⟩
  · have c1 : (its.toArray.isEmpty || k == 1) = true := by
      rw [emp]
      rcases h with rfl | rfl
      · rfl
      · rw [Bool.or_eq_true]
        exact .inr rfl
    exact wpAny_binaryOp_repeat_ref (T := "tuple") (U := "int") (by decide) ⟨_, ho, rfl⟩ (fun s' => typeIs_int s' k t) noFill_tuple_mul F.fills_int_mul F.slot_int_rmul repeat_tuple F.slot_int_index.lookup
      (call_meets F.slot_int_rmul (typeIs_int s k t) F.entry_int_rmul (F.args_int_rmul_2 _ _) (int_rmul_tuple k t l its.toArray n dd sl)
        ⟨ho, rfl, ⟨_, ho, rfl⟩, call_meets F.slot_tuple_mul ⟨_, ho, rfl⟩ F.entry_tuple_mul (F.args_tuple_mul_2 _ _) (tup_mul_same l its.toArray n dd sl k t c0 c1) ⟨ho, .ref l, H, I, rfl, q⟩⟩)
  · have c1 : (its.toArray.isEmpty || (0 : Int) == 1) = false := by
      rw [emp, decide_eq_false ne] <;> rfl
    have c2 : (decide ((0 : Int) ≤ 0) || its.toArray.isEmpty) = true := rfl
    refine wpAny_binaryOp_repeat_ref (T := "tuple") (U := "int") (by decide) ⟨_, ho, rfl⟩ (fun s' => typeIs_int s' 0 t) noFill_tuple_mul F.fills_int_mul F.slot_int_rmul repeat_tuple F.slot_int_index.lookup
      (call_meets F.slot_int_rmul (typeIs_int s 0 t) F.entry_int_rmul (F.args_int_rmul_2 _ _) (int_rmul_tuple 0 t l its.toArray n dd sl)
        ⟨ho, rfl, ⟨_, ho, rfl⟩, call_meets F.slot_tuple_mul ⟨_, ho, rfl⟩ F.entry_tuple_mul (F.args_tuple_mul_2 _ _) (tup_mul_none l its.toArray n dd sl 0 t c0 c1 c2) ⟨ho, ?_⟩⟩)
    refine ⟨.ref s.heap.objs.size, _, I.laid (t' := s.toks) (o := .tup []) (fun b ob q => Heap.get?_push_of_some _ q) (Nat.le_refl _) ?_, rfl, q _ (I.hok.fresh (Nat.le_refl _))⟩
    exact ⟨Nat.zero_le _, [], .nil, IsTup.new _ _⟩
theorem op_repA {X : Cx} : OpR X (binaryOp .Mult) (fun x y H Q => rRep0 X.K x y H Q ∨ rRepT X.K x y H Q) := op_rep0.or op_repT

/-! ## Operators of an own class -/
/-- what an own class says of its operator's def at f -/
structure OpD (K : PySem.W.Frag) (C : Addr) (name : Str) (f : Addr) : Prop where
  at_ : PySem.W.findIn K (.ref C) name = some (some (.ref f))
  fn : PySem.W.isFn K (.ref f) = true
  first : PySem.W.selfFirst K C = true
def rOwn (C : Addr) (sp : Sp) (E : XK) : R2 := fun x y H Q => ∃ a b dx dy fs gs, x = .ref a ∧ y = .ref b ∧ H a = some (.ins C dx fs) ∧ H b = some (.ins C dy gs) ∧ sp [.ref a, .ref b] H Q E
theorem back_of {v : V} {u : Value} {s : Shared} {Q : Value → Shared → Prop} (r : RelV v u) (q : Q u s) : PySem.W.CmpBack Q u s := by
  cases v with
  | non => cases r; exact q
  | bl b => cases r; exact q
  | int i => obtain ⟨t, rfl⟩ := r; exact q
  | str x => obtain ⟨t, rfl⟩ := r; exact q
  | byt x => obtain ⟨t, rfl⟩ := r; exact q
  | flt x => obtain ⟨t, rfl⟩ := r; exact q
  | ref a => cases r; exact q
  | ty n => cases r; exact q
section
variable {X : Cx} {CX : CXT} {k : Nat} {C f : Addr} {fd : FuncData} {ps : List Str} {sp : Sp} {E : XK}
theorem own_call {pins : List (Addr × Obj)} {s : Shared} {σ : L2.St} {H : Hp} {a b : Addr} {Q : VK} (F : FnOk X.prog X.w X.K X.mg X.base CX k f fd ps sp) (hr : Room k X.A) (hb : Binds X.K fd ps []) (hx : Passes CX X E) (I : Inv X pins σ H s) (q : sp [.ref a, .ref b] H Q E) :
    wpAny (model X.prog X.w) X.A (call (.ref f) [.ref a, .ref b]) (PySem.W.CmpBack (EP X pins σ Q)) X.xe s :=
  thn (run_fn (us := [.ref a, .ref b]) (vs := [.ref a, .ref b]) F hr hb .nil hx I (.cons rfl (.cons rfl .nil)) (by rw [List.append_nil]; exact q)) fun u s' h => by
    obtain ⟨v, H', I', r, q'⟩ := h
    exact back_of r ⟨v, H', I', r, q'⟩
theorem op_own {op : Operator} (D : OpD X.K C (PySem.dunder op.info.2) f) (F : FnOk X.prog X.w X.K X.mg X.base CX k f fd ps sp) (hr : Room k X.A) (hb : Binds X.K fd ps []) (hx : Passes CX X E) : OpR X (binaryOp op) (rOwn C sp E) := by
  intro pins s σ H x y v u Q I rx ry h
  obtain ⟨a, b, dx, dy, fs, gs, rfl, rfl, ha, hb', q⟩ := h
  cases rx
  cases ry
  obtain ⟨mA, J, _⟩ := ins_get I.hok ha
  obtain ⟨mB, J', _⟩ := ins_get I.hok hb'
  obtain ⟨od, J, _⟩ := J.look
  obtain ⟨od', J', _⟩ := J'.look
  exact PySem.W.lm_bin I.kIn J J' D.first D.at_ D.fn (own_call F hr hb hx I q)
theorem op_ownEq (D : OpD X.K C "__eq__" f) (F : FnOk X.prog X.w X.K X.mg X.base CX k f fd ps sp) (hr : Room k X.A) (hb : Binds X.K fd ps []) (hx : Passes CX X E) : OpR X (compareOp .Eq) (rOwn C sp E) := by
  intro pins s σ H x y v u Q I rx ry h
  obtain ⟨a, b, dx, dy, fs, gs, rfl, rfl, ha, hb', q⟩ := h
  cases rx
  cases ry
  obtain ⟨mA, J, _⟩ := ins_get I.hok ha
  obtain ⟨mB, J', _⟩ := ins_get I.hok hb'
  obtain ⟨od, J, _⟩ := J.look
  obtain ⟨od', J', _⟩ := J'.look
  obtain ⟨m, hF⟩ := I.fr
  exact PySem.W.cmp_K (op := .Eq) (tb := .ref C) hr.units0 hF I.ok.mod.kin J J'.type (by simp [PySem.W.notFirst]) D.at_ D.fn (own_call F hr hb hx I q)
end
/-- a class that may be made, its __init__ may raise -/
structure MakX (P : Program) (w : World) (K : PySem.W.Frag) (mg : Str → Option Value) (base : Heap) (k : Nat) (x : Str) (C : Addr) (sp : Sp) : Prop where
  ex : ∃ (f : Addr) (fd : FuncData) (ps : List Str), Mk K C f ∧ FnOk P w K mg base (L2.CX P w) k f fd ps sp ∧ mg x = some (.ref C) ∧ Binds K fd ps []
/-- a method that may raise -/
structure MetX (P : Program) (w : World) (K : PySem.W.Frag) (mg : Str → Option Value) (base : Heap) (k : Nat) (C : Addr) (m : Str) (sp : Sp) : Prop where
  ex : ∃ (f : Addr) (fd : FuncData) (ps : List Str), Cls K C ∧ Meth K C m f ∧ FnOk P w K mg base (L2.CX P w) k f fd ps sp ∧ Binds K fd ps []
section
variable {X : Cx} {k j : Nat} {C : Addr} {x m : Str} {sp : Sp} {p pos apos : Pos} {e o : Expr} {es : List Expr} {ta : TE} {t : TA} {E : XK}
theorem pe_mkX (c : MakX X.prog X.w X.K X.mg X.base k x C sp) (hx : Passes (L2.CX X.prog X.w) X E) (hr : Room j X.A) (hk : k + 1 ≤ j) (hg : Gl X x) (ha : PA X (e :: es) t)
    (hdb : (x == ("__debug__" : Str)) = false := by decide) (he : starEach (e :: es) X.env = (false, eval e X.env) :: starEach es X.env := by rfl) (hpl : (backTo pos (starEach es X.env)).any (·.1) = false := by rfl) :
    PE X (.Call (.Name x p) (e :: es) [] pos) (tMake C sp [] E t) := by
  obtain ⟨f, fd, ps, M, F, hm, b⟩ := c.ex
  exact pe_make M F (hr.mono hk) hg hm b .nil hx ha hdb he hpl
theorem pe_mtX {pl : Sem Bool} (c : MetX X.prog X.w X.K X.mg X.base k C m sp) (hx : Passes (L2.CX X.prog X.w) X E) (hr : Room j X.A) (hk : k ≤ j) (he : PE X o ta) (ha : PA X (e :: es) t)
    (hst : starEach (e :: es) X.env = (false, eval e X.env) :: starEach es X.env := by rfl) (hpl : (backTo pos (starEach es X.env)).any (·.1) = false := by rfl)
    (ht : eval (.Call (.Attribute o m apos) (e :: es) [] pos) X.env = (do
      let ov ← eval o X.env
      standAt apos.atName
      let (f, first) ← holding [ov] (getMethod ov m pl)
      callWith pos f first (backTo pos (starEach (e :: es) X.env)) (backToKw pos (keywordEach [] X.env))) := by rfl) :
    PE X (.Call (.Attribute o m apos) (e :: es) [] pos) (tMeth C m sp [] E ta t) := by
  obtain ⟨f, fd, ps, hc, hm, F, b⟩ := c.ex
  exact pe_meth (pl := pl) he hc hm F (hr.mono hk) b .nil hx ha hst hpl ht
/-- what is never come to -/
theorem pe_no : PE X e (fun _ _ _ => False) := ⟨fun _ _ _ _ _ _ h => h.elim⟩
end
end Lm

namespace Lm
open PySem PySem.Spec PyProof.Rows L2

/-! ## Scripts: rows of names, joined by a blank -/
def nameB (x : Str) : Bool := !decide ((8 : Int) < (x.length : Nat)) && (Txt.isascii x && (Txt.isalpha x && Txt.islower x))
def namesOf (x : Str) : List Str := if x.length = 0 then [] else Txt.split x " "
def rowB (x : Str) : Bool := decide (((namesOf x).length : Int) ≤ 24) && (namesOf x).all nameB
def joined (ns : List Str) : Str := Txt.join " " ns
structure RowOk (ns : List Str) : Prop where
  few : ns.length ≤ 24
  nm : ∀ n ∈ ns, nameB n = true
  sp : ∀ n ∈ ns, 32 ∉ TL.tl n
theorem RowOk.sub {ns ms : List Str} (h : RowOk ns) (l : ms.length ≤ 24) (s : ∀ n ∈ ms, n ∈ ns) : RowOk ms := ⟨l, fun n m => h.nm n (s n m), fun n m => h.sp n (s n m)⟩
theorem nameB_len {x : Str} (h : nameB x = true) : 0 < x.length ∧ x.length ≤ 8 := by
  unfold nameB Txt.isalpha at h
  simp only [Bool.and_eq_true, Bool.not_eq_true', decide_eq_false_iff_not, decide_eq_true_eq] at h
  obtain ⟨h1, _, ⟨h2, _⟩, _⟩ := h
  omega
theorem split_joined {ns : List Str} (h : RowOk ns) (ne : ns ≠ []) : Txt.split (joined ns) " " = ns := TL.split_join (s := 32) (S := []) rfl (by decide +kernel) ne h.sp
theorem joined_pos {ns : List Str} (h : RowOk ns) (ne : ns ≠ []) : (joined ns).length ≠ 0 := fun z => by
  have e := split_joined h ne
  unfold Txt.split at e
  rw [if_pos (by rw [z]; rfl)] at e
  have m : joined ns ∈ ns := (congrArg (fun l => joined ns ∈ l) e).mp (List.mem_singleton.mpr rfl)
  have := (nameB_len (h.nm _ m)).1
  omega
theorem namesOf_joined {ns : List Str} (h : RowOk ns) : namesOf (joined ns) = ns := by
  unfold namesOf
  cases ns with
  | nil => rfl
  | cons a r => rw [if_neg (joined_pos h (by simp)), split_joined h (by simp)]
theorem rowB_joined {ns : List Str} (h : RowOk ns) : rowB (joined ns) = true := by
  unfold rowB
  rw [namesOf_joined h, Bool.and_eq_true]
  refine ⟨decide_eq_true ?_, List.all_eq_true.mpr h.nm⟩
  have := h.few
  omega
theorem sum_len {ns : List Str} (h : RowOk ns) : (ns.map (·.length)).sum ≤ 8 * ns.length := by
  have key : ∀ l : List Str, (∀ n ∈ l, n.length ≤ 8) → (l.map (·.length)).sum ≤ 8 * l.length := by
    intro l
    induction l with
    | nil => intro _; exact Nat.le_refl _
    | cons a r ih =>
      intro q
      have h1 := q a List.mem_cons_self
      have h2 := ih fun n m => q n (List.mem_cons_of_mem _ m)
      simp only [List.map_cons, List.sum_cons, List.length_cons]
      omega
  exact key ns fun n m => (nameB_len (h.nm n m)).2
theorem joined_len {ns : List Str} (h : RowOk ns) : (joined ns).length ≤ 300 := by
  have e : joined ns = Str.join " " ns := TL.join_eq _ _
  rw [e]
  have h1 := StrLaws.join_length_le " " ns
  have h2 := sum_len h
  have h3 := h.few
  have h4 : (" " : Str).length = 1 := rfl
  rw [h4] at h1
  omega

/-! ## Like neighbours struck out -/
def struck : List Str → List Str → List Str
  | acc, [] => acc
  | acc, n :: r => if acc.getLast? = some n then struck acc.dropLast r else struck (acc ++ [n]) r
def Apart (xs : List Str) : Prop := ∀ l a b r, xs = l ++ a :: b :: r → a ≠ b
theorem Apart.pre {xs ys : List Str} (h : Apart (xs ++ ys)) : Apart xs := fun l a b r e => h l a b (r ++ ys) (by rw [e]; simp)
theorem Apart.snoc {xs : List Str} {n : Str} (h : Apart xs) (hn : xs.getLast? ≠ some n) : Apart (xs ++ [n]) := fun l a b r e => by
  rcases List.eq_nil_or_concat r with rfl | ⟨r', z, rfl⟩
  · have e2 : xs ++ [n] = (l ++ [a]) ++ [b] := by rw [e]; simp
    obtain ⟨e3, e4⟩ := List.append_inj' e2 rfl
    intro q
    apply hn
    rw [e3, q]
    simp at e4
    rw [List.getLast?_append, e4]
    rfl
  · have e2 : xs ++ [n] = (l ++ a :: b :: r') ++ [z] := by rw [e]; simp
    obtain ⟨e3, _⟩ := List.append_inj' e2 rfl
    exact h l a b r' e3
theorem struck_apart : ∀ (ns acc : List Str), Apart acc → Apart (struck acc ns)
  | [], _, h => h
  | n :: r, acc, h => by
    unfold struck
    by_cases q : acc.getLast? = some n
    · rw [if_pos q]
      refine struck_apart r _ ?_
      rcases List.eq_nil_or_concat acc with rfl | ⟨a, z, rfl⟩
      · exact h
      · have e : (a.concat z).dropLast = a := by simp
        rw [e]
        rw [List.concat_eq_append] at h
        exact h.pre
    · rw [if_neg q]
      exact struck_apart r _ (h.snoc q)
theorem struck_same : ∀ (ns acc : List Str), Apart (acc ++ ns) → struck acc ns = acc ++ ns
  | [], acc, _ => by
    unfold struck
    rw [List.append_nil]
  | n :: r, acc, h => by
    unfold struck
    have q : acc.getLast? ≠ some n := fun q => by
      rcases List.eq_nil_or_concat acc with rfl | ⟨a, z, rfl⟩
      · cases q
      · have ez : z = n := by
          rw [List.concat_eq_append, List.getLast?_append] at q
          simpa using q
        exact h a z n r (by simp) ez
    rw [if_neg q, struck_same r _ (by rw [List.append_assoc]; exact h), List.append_assoc]
    rfl
theorem apart_nil : Apart [] := fun l a b r e => by
  have := congrArg List.length e
  simp at this
theorem struck_idem (ns : List Str) : struck [] (struck [] ns) = struck [] ns := struck_same _ [] (struck_apart ns [] apart_nil)
theorem struck_mem : ∀ (ns acc : List Str), ∀ x ∈ struck acc ns, x ∈ acc ∨ x ∈ ns
  | [], _, x, h => .inl h
  | n :: r, acc, x, h => by
    unfold struck at h
    by_cases q : acc.getLast? = some n
    · rw [if_pos q] at h
      rcases struck_mem r _ x h with z | z
      · exact .inl (List.dropLast_subset _ z)
      · exact .inr (List.mem_cons_of_mem _ z)
    · rw [if_neg q] at h
      rcases struck_mem r _ x h with z | z
      · rcases List.mem_append.mp z with z | z
        · exact .inl z
        · exact .inr (by rw [List.mem_singleton.mp z]; exact List.mem_cons_self)
      · exact .inr (List.mem_cons_of_mem _ z)
theorem struck_len : ∀ (ns acc : List Str), (struck acc ns).length ≤ acc.length + ns.length
  | [], _ => Nat.le_add_right _ _
  | n :: r, acc => by
    unfold struck
    by_cases q : acc.getLast? = some n
    · rw [if_pos q]
      have := struck_len r acc.dropLast
      simp only [List.length_dropLast, List.length_cons] at *
      omega
    · rw [if_neg q]
      have := struck_len r (acc ++ [n])
      simp only [List.length_append, List.length_cons, List.length_nil] at *
      omega
theorem struck_row {ns : List Str} (h : RowOk ns) : RowOk (struck [] ns) := h.sub (by have := struck_len ns []; have := h.few; simp only [List.length_nil] at *; omega) fun n m => (struck_mem ns [] n m).elim (fun z => nomatch z) id

/-! ## A Script in the heap -/
abbrev scrA (K : PySem.W.Frag) : Addr := He.ga K "Script"
def f1 (t : V) : List (Str × V) := [("text", t)]
def f2 (t p : V) : List (Str × V) := [("text", t), ("steps", p)]
def f3 (t p q : V) : List (Str × V) := [("text", t), ("steps", p), ("plain", q)]
theorem put1 {t : V} : putF "text" t [] = f1 t := rfl
theorem put2 {t p : V} : putF "steps" p (f1 t) = f2 t p := rfl
theorem put3 {t p q : V} : putF "plain" q (f2 t p) = f3 t p q := rfl
def ScrAt (K : PySem.W.Frag) (H : Hp) (x : Addr) (ns : List Str) : Prop := ∃ (dx p : Addr) (pl : V), H x = some (.ins (scrA K) dx (f3 (.str (joined ns)) (.ref p) pl)) ∧ H p = some (.tup (ns.map V.str))
theorem ScrAt.keep {K : PySem.W.Frag} {H H' : Hp} {x : Addr} {ns : List Str} (h : ScrAt K H x ns) (k : ∀ b o, H b = some o → (∃ C dx fs, o = .ins C dx fs) ∨ (∃ xs, o = .tup xs) → H' b = some o) : ScrAt K H' x ns := by
  obtain ⟨dx, p, pl, h1, h2⟩ := h
  exact ⟨dx, p, pl, k _ _ h1 (.inl ⟨_, _, _, rfl⟩), k _ _ h2 (.inr ⟨_, rfl⟩)⟩
theorem ScrAt.same {K : PySem.W.Frag} {H H' : Hp} {x : Addr} {ns : List Str} (h : ScrAt K H x ns) (s : Same H H') : ScrAt K H' x ns := h.keep fun b o e _ => s b o e
theorem ScrAt.keptT {K : PySem.W.Frag} {H H' : Hp} {x a : Addr} {ns : List Str} {n : Nat} (h : ScrAt K H x ns) (k : KeptT a H H') (hp : PotAt H a n) : ScrAt K H' x ns := h.keep fun b o e c => by
  obtain ⟨_, _, _, q, _⟩ := hp
  refine k b o e (fun z => ?_) fun ps z => ?_
  · rw [z, q] at e
    cases e
    rcases c with ⟨_, _, _, y⟩ | ⟨_, y⟩ <;> cases y
  · rw [z] at c
    rcases c with ⟨_, _, _, y⟩ | ⟨_, y⟩ <;> cases y
/-- what the written part says of the class -/
structure ScrC (K : PySem.W.Frag) (mg : Str → Option Value) : Prop where
  m : mg "Script" = some (.ref (scrA K))
  cl : Cls K (scrA K)
  nT : NoAttr K (scrA K) "text"
  nS : NoAttr K (scrA K) "steps"
  nP : NoAttr K (scrA K) "plain"
  ha : PySem.W.findIn K (.ref (scrA K)) "__class__" = some (some (.builtin "object.__class__"))
  hn : PySem.W.specialIn K (.builtin "object.__class__") "__get__" = some (some (.builtin "getset_descriptor.__get__"))
  htk : PySem.W.takesIn K (.builtin "object.__class__") = some true
  hm : PySem.W.mroIn K (scrA K) (.type "object") = some true
  me : PySem.W.kitOne K (.ref (scrA K)) (.ref (scrA K)) = some true
  st : PySem.W.kitOne K (.ref (scrA K)) (.type "str") = some false
  first : PySem.W.selfFirst K (scrA K) = true
theorem ScrC.ty {K : PySem.W.Frag} {mg : Str → Option Value} {H : Hp} {x dx : Addr} {fs : List (Str × V)} (c : ScrC K mg) (h : H x = some (.ins (scrA K) dx fs)) : TyX K H (.ref x) (.ref (scrA K)) := .base (.ins h c.cl c.ha c.hn c.htk c.hm)
/-! ## What isinstance says of small values -/
def wholeB : V → Bool
  | .int _ => true
  | _ => false
def IsaI (K : PySem.W.Frag) (H : Hp) (v : V) : Prop := ∃ t bi bb, TyX K H v t ∧ PySem.W.kitOne K t (.type "int") = some bi ∧ PySem.W.kitOne K t (.type "bool") = some bb ∧ (bi && !bb) = wholeB v
theorem isaI_int {K : PySem.W.Frag} {H : Hp} (i : Int) : IsaI K H (.int i) := ⟨_, true, false, .base (.int i), kit_ty (by decide +kernel), kit_ty (by decide +kernel), rfl⟩
theorem Sm.isaI {K : PySem.W.Frag} {B k : Nat} {H : Hp} {v : V} (h : Sm B k H v) : IsaI K H v := by
  obtain ⟨d, h, _⟩ := h
  cases h with
  | non => exact ⟨_, false, false, .base .non, kit_ty (by decide +kernel), kit_ty (by decide +kernel), rfl⟩
  | bl b => exact ⟨_, true, true, .base (.bl b), kit_ty (by decide +kernel), kit_ty (by decide +kernel), rfl⟩
  | int i => exact isaI_int i
  | str x => exact ⟨_, false, false, .base (.str x), kit_ty (by decide +kernel), kit_ty (by decide +kernel), rfl⟩
  | lst e _ => exact ⟨_, false, false, .base (.lst e), kit_ty (by decide +kernel), kit_ty (by decide +kernel), rfl⟩
  | tup e _ => exact ⟨_, false, false, .base (.tup e), kit_ty (by decide +kernel), kit_ty (by decide +kernel), rfl⟩
  | dic e _ => exact ⟨_, false, false, .base (.dK e), kit_ty (by decide +kernel), kit_ty (by decide +kernel), rfl⟩
end Lm
namespace Lm
open PySem PySem.Spec PyProof.Rows L2
/-- a def that may raise, by its body -/
theorem okX {P : Program} {w : World} {K : PySem.W.Frag} {mg : Str → Option Value} {base : Heap} {x qual : Str} {params : Arguments} {body : List Stmt} {scope : Scope} {dvs : List V} {kws : List (Str × V)} {f : Addr} {fd : FuncData} {N ps : List Str} {k : Nat} {sp : Sp}
    (F : FunD K x qual params body scope dvs kws f fd) (S : FnScope N ps scope) (many : ∀ vs H Q E, sp vs H Q E → vs.length = ps.length)
    (walk : ∀ (cdv : Value) (A : Around) (outer : List Env) (s : Shared) (H : Hp) (vs : List V) (Q : VK) (E : XK), Room k (A.deeper (envOfC qual scope s.heap.objs.size f cdv)) → sp vs H Q E →
      ∃ t, PSs (cxOf (L2.CX P w) P w K mg base N qual scope f cdv A outer s H E) body t ∧ t { nx := fun _ H' => Q .non H', rt := Q } (start N vs) H) : FnOk P w K mg base (L2.CX P w) (k + 1) f fd ps sp := by
  obtain ⟨oc, od, dV, kV, doc, pm, an, cdv, ct, osl, rfl, look, code, _, _⟩ := F.ex
  exact ⟨many, fun A outer s H args us vs Q E hr e0 hb r h => LamX.run_ofS look code S hr e0 hb r (many _ _ _ _ h) fun hr' => walk cdv A outer s H vs Q E hr' h⟩
theorem struck_snoc (n : Str) : ∀ (ns acc : List Str), struck acc (ns ++ [n]) = if (struck acc ns).getLast? = some n then (struck acc ns).dropLast else struck acc ns ++ [n]
  | [], acc => by
    show struck acc [n] = if acc.getLast? = some n then acc.dropLast else acc ++ [n]
    rw [show struck acc [n] = if acc.getLast? = some n then struck acc.dropLast [] else struck (acc ++ [n]) [] from rfl] <;> rfl
  | m :: r, acc => by
    show (if acc.getLast? = some m then struck acc.dropLast (r ++ [n]) else struck (acc ++ [m]) (r ++ [n])) = _
    rw [struck_snoc n r, struck_snoc n r]
    conv => rhs; rw [show struck acc (m :: r) = if acc.getLast? = some m then struck acc.dropLast r else struck (acc ++ [m]) r from rfl]
    by_cases q : acc.getLast? = some m
    · rw [if_pos q, if_pos q]
    · rw [if_neg q, if_neg q]
/-! ## What the scripts' own functions promise -/
def spWhole (K : PySem.W.Frag) : Sp := fun vs H Q _ => ∃ v, vs = [v] ∧ IsaI K H v ∧ Q (.bl (wholeB v)) H
def spName : Sp := fun vs H Q _ => ∃ x, vs = [.str x] ∧ x.length ≤ 100000 ∧ Q (.bl (nameB x)) H
def StrOk (x : Str) : Prop := x.length ≤ 100000 ∧ ∀ n ∈ namesOf x, n.length ≤ 100000
def spNamesOf : Sp := fun vs H Q _ => ∃ x, vs = [.str x] ∧ x.length ≤ 100000 ∧ ∀ H' p, Same H H' → H p = none → H' p = some (.tup ((namesOf x).map V.str)) → Q (.ref p) H'
def NotStr (K : PySem.W.Frag) (H : Hp) (v : V) : Prop := ∃ t, TyX K H v t ∧ PySem.W.kitOne K t (.type "str") = some false
def spRow (K : PySem.W.Frag) : Sp := fun vs H Q _ => ∃ v, vs = [v] ∧ ((∃ x, v = .str x ∧ StrOk x ∧ ∀ H', Same H H' → Q (.bl (rowB x)) H') ∨ (NotStr K H v ∧ Q (.bl false) H))
def spStruck (K : PySem.W.Frag) : Sp := fun vs H Q _ => ∃ p ns, vs = [.ref p] ∧ SqT K H p (ns.map V.str) ∧ ns.length ≤ 1000 ∧ ∀ H' l, Same H H' → H l = none → H' l = some (.lst ((struck [] ns).map V.str)) → Q (.ref l) H'
def BadRow (K : PySem.W.Frag) (H : Hp) (v : V) : Prop := (∃ y, v = .str y ∧ StrOk y ∧ rowB y = false) ∨ NotStr K H v
/-- an error of the class named x that keeps v is wished -/
def Wish (K : PySem.W.Frag) (H : Hp) (E : XK) (x : Str) (v : V) : Prop := ∀ d H', Same H H' → H d = none → H' d = some (.xd [("value", v)]) → E (.ref (He.ga K x)) (some d) H'
def spInit (K : PySem.W.Frag) : Sp := fun vs H Q E => ∃ x dx v, vs = [.ref x, v] ∧ H x = some (.ins (scrA K) dx []) ∧
  ((∃ ns, v = .str (joined ns) ∧ RowOk ns ∧ ∀ H', KeptBut x H H' → ScrAt K H' x ns → Q .non H') ∨ (BadRow K H v ∧ Wish K H E "BadScript" v))
/-- .. of rows in which nothing is struck out -/
def spInitS (K : PySem.W.Frag) : Sp := fun vs H Q E => ∃ x dx ns, vs = [.ref x, .str (joined ns)] ∧ H x = some (.ins (scrA K) dx []) ∧ RowOk ns ∧ struck [] ns = ns ∧ ∀ H', KeptBut x H H' → ScrAt K H' x ns → Q .non H'
/-- a Script is told, or Long -/
def Due (K : PySem.W.Frag) (H : Hp) (Q : VK) (E : XK) (ns : List Str) : Prop := (ns.length ≤ 24 → ∀ H' x, Same H H' → H x = none → ScrAt K H' x ns → Q (.ref x) H') ∧ (24 < ns.length → Wish K H E "Long" (.int 24))
def spMul (K : PySem.W.Frag) : Sp := fun vs H Q E => ∃ a b ns ms, vs = [.ref a, .ref b] ∧ ScrAt K H a ns ∧ ScrAt K H b ms ∧ RowOk ns ∧ RowOk ms ∧ Due K H Q E (ns ++ ms)
def spTimes (K : PySem.W.Frag) : Sp := fun vs H Q E => ∃ a v ns, vs = [.ref a, v] ∧ ScrAt K H a ns ∧ RowOk ns ∧ IsaI K H v ∧
  ((∃ m : Nat, v = .int m ∧ m ≤ 24 ∧ Due K H Q E (List.replicate m ns).flatten) ∨ ((∀ m : Nat, v = .int m → 24 < m) ∧ Wish K H E "BadNumber" v))
def spScrEq (K : PySem.W.Frag) : Sp := fun vs H Q _ => ∃ a b ns ms, vs = [.ref a, .ref b] ∧ ScrAt K H a ns ∧ ScrAt K H b ms ∧ Q (.bl (decide (joined ns = joined ms))) H
theorem strOk_joined {ns : List Str} (h : RowOk ns) : StrOk (joined ns) := ⟨by have := joined_len h; omega, fun n m => by
  rw [namesOf_joined h] at m
  have := (nameB_len (h.nm n m)).2
  omega⟩
theorem namesOf_few {x : Str} (h : x.length ≤ 100000) : (namesOf x).length ≤ 100002 := by
  unfold namesOf
  split
  · exact Nat.zero_le _
  · have := PyProof.Rows.split_le x " "
    omega
theorem yes_of {b : Bool} {A B : Prop} (e : b = true) (h : A) : if b = true then A else B := by
  rw [if_pos e]
  exact h
theorem no_of {b : Bool} {A B : Prop} (e : b = false) (h : B) : if b = true then A else B := by
  rw [e]
  exact iteF h
section
variable {P : Program} {w : World} {K : PySem.W.Frag} {mg : Str → Option Value} {base : Heap} {ns : List Str} {x : Str} {σ : L2.St} {H : Hp} {E : XK} {v : V}
theorem raise_var {i : Nat} (Z : ErrL P w K mg base ns) (hx : x ∈ ns) (hv : σ[i]? = some (some v)) (h : Wish K H E x v) : tRaise K x (tCons (tVar i) tNil) σ H E :=
  raise_ok Z hx ⟨v, hv, h⟩ fun ⟨v, e, q⟩ k => ⟨v, e, k _ _ q⟩
theorem raise_c (Z : ErrL P w K mg base ns) (hx : x ∈ ns) (h : Wish K H E x v) : tRaise K x (tCons (tC v) tNil) σ H E := raise_ok Z hx (te := tC v) h fun q k => k _ _ q
theorem Wish.same {H' : Hp} (h : Wish K H E x v) (s : Same H H') : Wish K H' E x v := fun d H2 s2 n e => h d H2 (s.trans s2) (s.free n) e
end
/-- sep.join of a list or tuple of names -/
theorem join_ok {K : PySem.W.Frag} {te : TE} {σ : L2.St} {H : Hp} {Q : VK} {ns : List Str} (ro : RowOk ns) (h : te σ H fun y H2 => ∃ p, y = .ref p ∧ (SqL K H2 p (ns.map V.str) ∨ SqT K H2 p (ns.map V.str)) ∧ Q (.str (joined ns)) H2)
    (mono : ∀ {Q Q' : VK}, te σ H Q → (∀ v H', Q v H' → Q' v H') → te σ H Q') :
    tM1 (fun x xs H Q => ∃ a p, ∃ ys : List Str, x = .str a ∧ xs = [.ref p] ∧ (SqL K H p (ys.map V.str) ∨ SqT K H p (ys.map V.str)) ∧ (ys.map (·.length)).sum + ys.length * a.length ≤ 16777216 ∧ Q (.str (Txt.join a ys)) H) (tC (.str " ")) te σ H Q := by
  refine ⟨⟨_, rfl⟩, mono h fun y H2 ⟨p, e, s, q⟩ => ⟨_, p, ns, rfl, by rw [e], s, ?_, q⟩⟩
  have h1 := sum_len ro
  have h2 := ro.few
  have h3 : (" " : Str).length = 1 := rfl
  rw [h3]
  omega
def rJn (K : PySem.W.Frag) : V → List V → Hp → VK → Prop := fun x xs H Q => ∃ a p, ∃ ys : List Str, x = .str a ∧ xs = [.ref p] ∧ (SqL K H p (ys.map V.str) ∨ SqT K H p (ys.map V.str)) ∧ (ys.map (·.length)).sum + ys.length * a.length ≤ 16777216 ∧ Q (.str (Txt.join a ys)) H
/-- a Script of a joined row -/
theorem make_join {K : PySem.W.Frag} {C : Addr} {sp : Sp} {te : TE} {σ : L2.St} {H : Hp} {Q : VK} {E : XK} {ns : List Str} (ro : RowOk ns)
    (h : te σ H fun y H2 => ∃ p, y = .ref p ∧ (SqL K H2 p (ns.map V.str) ∨ SqT K H2 p (ns.map V.str)) ∧ ∀ x dx, H2 x = none → H2 dx = none → dx ≠ x → sp [.ref x, .str (joined ns)] (upd (upd H2 dx (.own x)) x (.ins C dx [])) (fun v H3 => v = .non ∧ Q (.ref x) H3) E)
    (mono : ∀ {Q Q' : VK}, te σ H Q → (∀ v H', Q v H' → Q' v H') → te σ H Q') : tMake C sp [] E (tCons (tM1 (rJn K) (tC (.str " ")) te) tNil) σ H Q := by
  show tM1 (rJn K) (tC (.str " ")) te σ H (fun y H1 => ∀ x dx, H1 x = none → H1 dx = none → dx ≠ x → sp (.ref x :: ([y] ++ [])) (upd (upd H1 dx (.own x)) x (.ins C dx [])) (fun v H2 => v = .non ∧ Q (.ref x) H2) E)
  exact join_ok (te := te) ro (mono h fun y H2 ⟨p, e, s, q⟩ => ⟨p, e, s, q⟩) mono
theorem mono_var {i : Nat} {σ : L2.St} {H : Hp} {Q Q' : VK} (h : tVar i σ H Q) (k : ∀ v H', Q v H' → Q' v H') : tVar i σ H Q' := let ⟨v, e, q⟩ := h; ⟨v, e, k _ _ q⟩
theorem make_scr {K : PySem.W.Frag} {te : TE} {σ : L2.St} {H : Hp} {Q : VK} {zs : List Str} (ro : RowOk zs) (hte : ∀ Q' : VK, (∀ p H2, Same H H2 → SqT K H2 p (zs.map V.str) → Q' (.ref p) H2) → te σ H Q')
    (k : ∀ H' x, Same H H' → H x = none → ScrAt K H' x zs → Q (.ref x) H') : tMake (scrA K) (spInit K) [] E0 (tCons (tM1 (rJn K) (tC (.str " ")) te) tNil) σ H Q := by
  show tM1 (rJn K) (tC (.str " ")) te σ H (fun y H1 => ∀ x dx, H1 x = none → H1 dx = none → dx ≠ x → spInit K (.ref x :: ([y] ++ [])) (upd (upd H1 dx (.own x)) x (.ins (scrA K) dx [])) (fun v H2 => v = .non ∧ Q (.ref x) H2) E0)
  have h1 := sum_len ro
  have h2 := ro.few
  refine ⟨⟨_, rfl⟩, hte _ fun p H2 s2 hp => ⟨_, p, zs, rfl, rfl, .inr hp, ?_, fun x dx hx hdx ne => ⟨x, dx, _, rfl, upd_same, .inl ⟨zs, rfl, ro, fun H3 kb sc => ⟨rfl, k H3 x (fun b o e => ?_) (s2.free hx) sc⟩⟩⟩⟩⟩
  · have h3 : (" " : Str).length = 1 := rfl
    rw [h3]
    omega
  · have e2 := s2 b o e
    have n1 : b ≠ x := ne_of_none e2 hx
    refine kb b o ?_ n1
    rw [upd_ne n1, upd_ne (ne_of_none e2 hdx)]
    exact e2
theorem map_rep (m : Nat) (ns : List Str) : (List.replicate m (ns.map V.str)).flatten = (List.replicate m ns).flatten.map V.str := by
  induction m with
  | zero => rfl
  | succ m ih => rw [List.replicate_succ, List.flatten_cons, ih, List.replicate_succ, List.flatten_cons, List.map_append]
theorem len_rep (m : Nat) (ns : List Str) : (List.replicate m ns).flatten.length = m * ns.length := by
  induction m with
  | zero => simp
  | succ m ih => rw [List.replicate_succ, List.flatten_cons, List.length_append, ih, Nat.succ_mul, Nat.add_comm]
theorem mem_rep {m : Nat} {ns : List Str} {x : Str} (h : x ∈ (List.replicate m ns).flatten) : x ∈ ns := by
  obtain ⟨l, hl, hx⟩ := List.mem_flatten.mp h
  rw [(List.mem_replicate.mp hl).2] at hx
  exact hx
theorem row_rep {m : Nat} {ns : List Str} (h : RowOk ns) (l : (List.replicate m ns).flatten.length ≤ 24) : RowOk (List.replicate m ns).flatten := h.sub l fun _ => mem_rep
theorem row_cat {ns ms : List Str} (h : RowOk ns) (g : RowOk ms) (l : (ns ++ ms).length ≤ 24) : RowOk (ns ++ ms) := ⟨l, fun n m => (List.mem_append.mp m).elim (h.nm n) (g.nm n), fun n m => (List.mem_append.mp m).elim (h.sp n) (g.sp n)⟩
/-- .. the row being a list or a tuple -/
theorem make_row {K : PySem.W.Frag} {i : Nat} {p : Addr} {σ : L2.St} {H : Hp} {Q : VK} {zs : List Str} (ro : RowOk zs) (hi : σ[i]? = some (some (.ref p))) (hp : SqL K H p (zs.map V.str))
    (k : ∀ H' x, Same H H' → H x = none → ScrAt K H' x zs → Q (.ref x) H') : tMake (scrA K) (spInit K) [] E0 (tCons (tM1 (rJn K) (tC (.str " ")) (tVar i)) tNil) σ H Q := by
  refine make_join (te := tVar i) ro ⟨_, hi, p, rfl, .inl hp, fun x dx hx hdx ne => ⟨x, dx, _, rfl, upd_same, .inl ⟨zs, rfl, ro, fun H3 kb sc => ⟨rfl, k H3 x (fun b o e => ?_) hx sc⟩⟩⟩⟩ mono_var
  have n1 : b ≠ x := ne_of_none e hx
  refine kb b o ?_ n1
  rw [upd_ne n1, upd_ne (ne_of_none e hdx)]
  exact e
/-- .. an empty text -/
theorem make_empty {K : PySem.W.Frag} {σ : L2.St} {H : Hp} {Q : VK} (k : ∀ H' x, Same H H' → H x = none → ScrAt K H' x [] → Q (.ref x) H') : tMake (scrA K) (spInit K) [] E0 (tCons (tC (.str "")) tNil) σ H Q := by
  intro x dx hx hdx ne
  refine ⟨x, dx, _, rfl, upd_same, .inl ⟨[], rfl, ⟨by decide, (fun _ h => nomatch h), (fun _ h => nomatch h)⟩, fun H3 kb sc => ⟨rfl, k H3 x (fun b o e => ?_) hx sc⟩⟩⟩
  have n1 : b ≠ x := ne_of_none e hx
  refine kb b o ?_ n1
  rw [upd_ne n1, upd_ne (ne_of_none e hdx)]
  exact e
/-! ## told, of what is due -/
theorem wish_told {P : Program} {w : World} {K : PySem.W.Frag} {mg : Str → Option Value} {base : Heap} {ns : List Str} {H1 : Hp} {Q : VK} {x : Str} {v : V} (Z : ErrL P w K mg base ns) (hx : x ∈ ns)
    (res : ∀ a p H', Same H1 H' → H' p = some (.tup [.ref a, .non]) → ErrR K H' a x v → Q (.ref p) H') :
    Wish K H1 (fun cls d H' => ∃ C : Addr, cls = .ref C ∧ PySem.W.exmOne K cls (.ref (He.ga K "MirrorError")) = some true ∧ ∀ a, H' a = none → ∀ p, upd H' a (exr a C d) p = none → Q (.ref p) (upd (upd H' a (exr a C d)) p (.tup [.ref a, .non]))) x v := by
  intro d H' s n e
  refine ⟨_, rfl, Z.exm x hx, fun a ha p hp => res a p _ (s.trans ((Same.new ha).trans (Same.new hp))) upd_same ⟨d, ?_, ?_⟩⟩
  · rw [upd_ne (ne_of_none upd_same hp)]
    exact upd_same
  · have n1 : d ≠ a := ne_of_none e ha
    have e2 : upd H' a (exr a (He.ga K x) (some d)) d = some (.xd [("value", v)]) := by
      rw [upd_ne n1]
      exact e
    rw [upd_ne (ne_of_none e2 hp)]
    exact e2
theorem due_told {P : Program} {w : World} {K : PySem.W.Frag} {mg : Str → Option Value} {base : Heap} {ns : List Str} {H1 : Hp} {Q : VK} {zs : List Str} (Z : ErrL P w K mg base ns) (hx : ("Long" : Str) ∈ ns)
    (res : ∀ c m p H', Same H1 H' → H' p = some (.tup [c, m]) → (24 < zs.length → ∃ a, c = .ref a ∧ ErrR K H' a "Long" (.int 24)) → (zs.length ≤ 24 → c = .non ∧ ∃ x, m = .ref x ∧ ScrAt K H' x zs) → Q (.ref p) H') :
    Due K H1 (fun v H' => ∀ p, H' p = none → Q (.ref p) (upd H' p (.tup [.non, v])))
      (fun cls d H' => ∃ C : Addr, cls = .ref C ∧ PySem.W.exmOne K cls (.ref (He.ga K "MirrorError")) = some true ∧ ∀ a, H' a = none → ∀ p, upd H' a (exr a C d) p = none → Q (.ref p) (upd (upd H' a (exr a C d)) p (.tup [.ref a, .non]))) zs := by
  refine ⟨fun l H' x s hx sc p hp => res .non (.ref x) p _ (s.trans (Same.new hp)) upd_same (fun z => absurd z (by omega)) fun _ => ⟨rfl, x, rfl, sc.same (Same.new hp)⟩, fun l => ?_⟩
  exact wish_told Z hx fun a p H' s e er => res (.ref a) .non p H' s e (fun _ => ⟨a, rfl, er⟩) fun z => absurd z (by omega)
/-! ## Tuples of names, shown -/
theorem dr_strs {H : Hp} : ∀ ns : List Str, DrAll H (ns.map V.str) (ns.map PyData.str)
  | [] => .nil
  | n :: r => .cons (.str n) (dr_strs r)
theorem dr_strs_only {H : Hp} : ∀ {ns : List Str} {ds : List PyData}, DrAll H (ns.map V.str) ds → ds = ns.map PyData.str
  | [], _, .nil => rfl
  | n :: r, _, .cons (.str _) t => by rw [dr_strs_only t] <;> rfl
theorem shown_row {ns : List Str} (l : ns.length ≤ 24) (h : ∀ n ∈ ns, (PyData.str n).shown.length ≤ 20) : (PyData.tuple (ns.map PyData.str)).showable = true ∧ (PyData.tuple (ns.map PyData.str)).depth ≤ 60 ∧ (PyData.tuple (ns.map PyData.str)).shown.length ≤ sizeLine := by
  have e : (upd (fun _ => none) 0 (.tup (ns.map V.str)) : Hp) 0 = some (.tup (ns.map V.str)) := upd_same
  obtain ⟨d, h1, h2, h3, h4⟩ := Sm.tup (B := 20) (k := 0) e fun v hv => by
    obtain ⟨n, hn, rfl⟩ := List.mem_map.mp hv
    exact sm_flat (.str n) 20 0 rfl (Nat.zero_le _) (h n hn)
  cases h1 with
  | tup e2 t =>
    rw [e] at e2
    cases e2
    rw [dr_strs_only t] at h2 h3 h4
    refine ⟨h2, Nat.le_trans h3 (by decide), Nat.le_trans h4 ?_⟩
    rw [List.length_map, sizeLine_eq]
    omega
  | lst e2 _ =>
    rw [e] at e2
    cases e2
  | dic e2 _ =>
    rw [e] at e2
    cases e2
open LamX (Tabs ExtN CodeO) in
theorem exr_tbl {a C : Addr} {d : Option Addr} {ps : Array Value} : exr a C d ≠ .tbl ps := fun z => by
  unfold exr at z
  cases z
theorem ErrR.ext {K : PySem.W.Frag} {H H' : Hp} {a : Addr} {x : Str} {v : V} (h : ErrR K H a x v) (e : LamX.ExtN H H') : ErrR K H' a x v := by
  obtain ⟨d, h1, h2⟩ := h
  exact ⟨d, e _ _ h1 (fun ps => exr_tbl), e _ _ h2 fun ps z => nomatch z⟩
theorem ScrAt.ext {K : PySem.W.Frag} {H H' : Hp} {x : Addr} {ns : List Str} (h : ScrAt K H x ns) (e : LamX.ExtN H H') : ScrAt K H' x ns := h.keep fun b o q c => e b o q fun ps z => by
  rw [z] at c
  rcases c with ⟨_, _, _, y⟩ | ⟨_, y⟩ <;> cases y
theorem PotAt.ext {H H' : Hp} {a : Addr} {n : Nat} (h : PotAt H a n) (e : LamX.ExtN H H') : PotAt H' a n := by
  obtain ⟨p0, p1, p2, q, b⟩ := h
  exact ⟨p0, p1, p2, e _ _ q (fun ps z => nomatch z), b⟩
theorem lst_ext {H H' : Hp} {l : Addr} {xs : List V} (h : H l = some (.lst xs)) (e : LamX.ExtN H H') : H' l = some (.lst xs) := e _ _ h fun ps z => nomatch z
theorem dr_ext {H H' : Hp} {v : V} {d : PyData} (h : Dr H v d) (e : LamX.ExtN H H') : Dr H' v d := h.keep fun a o q c => e a o q fun ps z => by
  rw [z] at c
  rcases c with ⟨_, y⟩ | ⟨_, y⟩ | ⟨_, y⟩ <;> cases y
theorem Sm.ext {B k : Nat} {H H' : Hp} {v : V} (h : Sm B k H v) (e : LamX.ExtN H H') : Sm B k H' v := by
  obtain ⟨d, h1, h2⟩ := h
  exact ⟨d, dr_ext h1 e, h2⟩
theorem ext_same {H H' : Hp} (s : Same H H') : LamX.ExtN H H' := LamX.ExtN.of s
theorem ext_kept {H H' : Hp} {a : Addr} (e : LamX.ExtN H H') : KeptT a H H' := KeptT.ext e
/-- a step of the pot, as what is kept of the rest -/
theorem kept_lst {a l : Addr} {H H' : Hp} {xs : List V} (h : H l = some (.lst xs)) (k : KeptBut a H H') (n : l ≠ a) : H' l = some (.lst xs) := k _ _ h n
theorem ScrAt.but {K : PySem.W.Frag} {H H' : Hp} {x a : Addr} {ns : List Str} {n : Nat} (h : ScrAt K H x ns) (k : KeptBut a H H') (hp : PotAt H a n) : ScrAt K H' x ns := h.keptT (KeptT.but k) hp
end Lm

namespace PySem.W
open PySem PySem.Calls PyProof.Rows
section
variable {prog : Program} {w : World} {A : Around} {E : Value → Shared → Prop} {s : Shared} {K : Frag} {x y C f L : Addr} {h₀ : Heap} {m : Str → Option Value} {ox oy : Obj} {od od' : Option Obj}
theorem lm_ifBoundB {M : Model} {name : Str} {id : String} {args : List Value} {Q : Option Value → Shared → Prop} (X : K.In s.heap) (I : InstAt s.heap x ox C od) (hs : findIn K (.ref C) name = some (some (.builtin id)))
    (hb : ∀ self, bindSpecial (.builtin id) self = pure (.builtin id, [self])) (h : wpAny M A (call (.builtin id) (.ref x :: args)) (fun v => Q (some v)) E s) : wpAny M A (callSpecialIfBound? (.ref x) name args) Q E s := by
  simp only [callSpecialIfBound?, bindSpecialIfBound?]
  refine wpAny_holding (wpAny_bind (wpAny_bind (wpAny_bind (I.type.here ((looks_findIn X hs).here ?_)))))
  refine wpAny_bind (wpAny_askSetting (wpAny_ite ?_))
  have go : wpAny M A (call (.builtin id) ([.ref x] ++ args) >>= fun v => pure (some v)) Q E s := wpAny_bind (wpAny_mono h (fun _ _ z => wpAny_pure z) fun _ _ z => z)
  split
  · exact wpAny_bind ((Looks.of_pure (hb _)).here (wpAny_pure (by exact go)))
  · exact wpAny_tryCatch (wpAny_bind ((Looks.of_pure (hb _)).here (wpAny_pure (by exact go))))
def BoolOnly (Q : Bool → Shared → Prop) (v : Value) (s' : Shared) : Prop := match v with
  | .bool b => Q b s'
  | _ => False
/-- x != y, both of one own class with its own ==, != being object's -/
theorem lm_ne {Q : Value → Shared → Prop} (hu : A.units < cLine) (hu1 : A.in1.units < cLine) (X : K.In s.heap) (I : InstAt s.heap x ox C od) (J : InstAt s.heap y oy C od') (hn : findIn K (.ref C) "__ne__" = some (some (.builtin "object.__ne__"))) (hm : mroIn K C (.type "object") = some true)
    (hs : findIn K (.ref C) "__eq__" = some (some (.ref f))) (hf : isFn K (.ref f) = true) (h : wpAny (model prog w) A.in1 (call (.ref f) [.ref x, .ref y]) (BoolOnly fun b s' => Q (.bool (!b)) s') E s) : wpAny (model prog w) A (richCompare .NotEq (.ref x) (.ref y)) Q E s := by
  have body : wpAny (model prog w) A.in1 (Builtin.«object.__ne__» ⟨[.ref x, .ref y], []⟩) (fun fin s' => ∃ b, fin = .done (.ret (.bool b)) ∧ Q (.bool b) s') E s := by
    unfold Builtin.«object.__ne__»
    refine wpAny_bind (m := slotArgs "__ne__" 1 _) (wpAny_pure ?_)
    refine wpAny_bind (m := cRoomFor _ _) (wpAny_cRoomFor hu1 ?_)
    refine wpAny_bind (m := callSpecialIfBound? (.ref x) (Str.ofString "__eq__") _) (ifBound_K X I hs hf (wpAny_mono h (fun r s' hq => ?_) fun _ _ z => z))
    cases r <;> first | exact hq.elim | skip
    refine wpAny_bind (wpAny_truthy_bool ?_)
    exact wpAny_pure ⟨_, rfl, hq⟩
  have one : wpAny (model prog w) A (tryCompare (.ref x) "__ne__" (.ref y)) (fun r s' => ∃ b, r = some (.bool b) ∧ Q (.bool b) s') E s := by
    unfold tryCompare
    refine wpAny_bind (lm_ifBoundB X I hn PySem.F.cmp_object.ne.bind (wpAny_call (codeAny_call_builtin PySem.F.cmp_object.ne.plain PySem.F.cmpEntry_ne (check_slot (i := "object.__ne__") (owner := "object") (n := "__ne__") PySem.F.cmpKind_ne PySem.F.cmpSplit_ne (I.type.andThen (looks_mroIn X hm)) (PySem.F.cmpArgs_ne _ _) (wpAny_mono body (fun fin s' hq => ?_) fun _ _ z => z)))))
    obtain ⟨b, rfl, hq⟩ := hq
    exact wpAny_pure ⟨b, rfl, hq⟩
  unfold richCompare
  simp only [oneThing_ref]
  refine wpAny_holding (wpAny_bind (wpAny_cRoomFor hu ?_))
  refine wpAny_bind (I.type.here (wpAny_bind (J.type.here ?_)))
  have same : (Value.ref C != Value.ref C) = false := by simp
  simp only [same, Bool.false_eq_true, if_false]
  refine wpAny_bind (wpAny_pure ?_)
  simp only [Bool.false_eq_true, if_false]
  refine wpAny_bind (wpAny_mono one (fun r s' z => ?_) fun _ _ e => e)
  obtain ⟨b, rfl, hq⟩ := z
  exact wpAny_pure hq
end
end PySem.W
namespace Lm
open PySem PySem.Spec PyProof.Rows L2
section
variable {X : Cx} {CX : CXT} {k : Nat} {C f : Addr} {fd : FuncData} {ps : List Str} {sp : Sp} {E : XK}
/-- a method of one's own, called by a built-in function one deeper -/
theorem in1_call {pins : List (Addr × Obj)} {s : Shared} {σ : L2.St} {H : Hp} {vs : List V} {us : List Value} {Q : VK} (F : FnOk X.prog X.w X.K X.mg X.base CX k f fd ps sp) (hr : Room (k + 1) X.A) (hb : Binds X.K fd ps []) (hx : Passes CX X E) (I : Inv X pins σ H s) (r : Vals vs us) (q : sp vs H Q E) :
    wpAny (model X.prog X.w) X.A.in1 (call (.ref f) us) (EP X pins σ Q) X.xe s := by
  have n : (us ++ []).length = ps.length := by
    rw [List.append_nil, ← r.length]
    exact F.len _ _ _ _ q
  have z := hb s us I.kIn n
  rw [List.append_nil] at z
  refine wpAny_call (codeAny_mono (F.run X.A.in1 X.stack s H ⟨us, []⟩ us vs Q E hr.in1 I.env0.in1 z r q) fun r s' hq => ?_)
  match r, hq with
  | .error e, hq => exact hx pins σ H s e s' I hq
  | .ok (.ret u), hq => exact I.after hq
  | .ok .next, hq => exact False.elim hq
  | .ok .brk, hq => exact False.elim hq
  | .ok .cont, hq => exact False.elim hq
/-- what is asked of an own object that a built-in function of one argument looks at -/
def rOwn1 (C : Addr) (sp : Sp) (E : XK) : List V → Hp → VK → Prop := fun xs H Q => ∃ a dx fs, xs = [.ref a] ∧ H a = some (.ins C dx fs) ∧ sp [.ref a] H Q E
theorem call_reprO (m : Meth X.K C "__repr__" f) (F : FnOk X.prog X.w X.K X.mg X.base CX k f fd ps sp) (hr : Room (k + 1) X.A) (hb : Binds X.K fd ps []) (hx : Passes CX X E) (str : ∀ vs H (Q : VK) E, sp vs H Q E → sp vs H (fun v H' => (∃ z, v = .str z) ∧ Q v H') E) : CallR X (.builtin "repr") (rOwn1 C sp E) := by
  intro pins s σ H xs us Q I r h
  obtain ⟨a, dx, fs, rfl, ha, q⟩ := h
  obtain ⟨u, rfl, ru⟩ := vals1 r
  obtain rfl : u = Value.ref a := ru
  obtain ⟨mA, J, _⟩ := ins_get I.hok ha
  obtain ⟨od, J, _⟩ := J.look
  obtain ⟨mm, hF⟩ := I.fr
  refine PySem.W.repr_K hr.in1.units0 hF I.ok.mod.kin J m.at_ m.fn (thn (in1_call (vs := [.ref a]) (us := [.ref a]) F hr hb hx I (.cons rfl .nil) (str _ _ _ _ q)) fun u s' h => ?_)
  obtain ⟨v, H', I', rv, ⟨z, rfl⟩, q'⟩ := h
  obtain ⟨t, rfl⟩ := rv
  exact ⟨.str z, H', I', ⟨t, rfl⟩, q'⟩
theorem call_lenO (m : Meth X.K C "__len__" f) (F : FnOk X.prog X.w X.K X.mg X.base CX k f fd ps sp) (hr : Room (k + 1) X.A) (hb : Binds X.K fd ps []) (hx : Passes CX X E) (int : ∀ vs H (Q : VK) E, sp vs H Q E → sp vs H (fun v H' => (∃ n : Nat, v = .int n ∧ n < 2 ^ 63) ∧ Q v H') E) : CallR X (.builtin "len") (rOwn1 C sp E) := by
  intro pins s σ H xs us Q I r h
  obtain ⟨a, dx, fs, rfl, ha, q⟩ := h
  obtain ⟨u, rfl, ru⟩ := vals1 r
  obtain rfl : u = Value.ref a := ru
  obtain ⟨mA, J, _⟩ := ins_get I.hok ha
  obtain ⟨od, J, _⟩ := J.look
  obtain ⟨mm, hF⟩ := I.fr
  refine PySem.W.len_K hF I.ok.mod.kin J m.at_ m.fn (thn (in1_call (vs := [.ref a]) (us := [.ref a]) F hr hb hx I (.cons rfl .nil) (int _ _ _ _ q)) fun u s' h => ?_)
  obtain ⟨v, H', I', rv, ⟨n, rfl, hn⟩, q'⟩ := h
  obtain ⟨t, rfl⟩ := rv
  exact ⟨⟨by omega, by omega⟩, .int n, H', I'.tok _, ⟨_, rfl⟩, q'⟩
/-- x == y, x of an own class with its own ==, y of a built-in type -/
def rOwnB (K : PySem.W.Frag) (C : Addr) (sp : Sp) (E : XK) : R2 := fun x y H Q => ∃ a dx fs t, x = .ref a ∧ H a = some (.ins C dx fs) ∧ TyX K H y (.type t) ∧ PySem.W.subIn K (.type t) (.ref C) = some false ∧ sp [.ref a, y] H Q E
theorem op_ownEqB (D : OpD X.K C "__eq__" f) (F : FnOk X.prog X.w X.K X.mg X.base CX k f fd ps sp) (hr : Room k X.A) (hb : Binds X.K fd ps []) (hx : Passes CX X E) : OpR X (compareOp .Eq) (rOwnB X.K C sp E) := by
  intro pins s σ H x y v u Q I rx ry h
  obtain ⟨a, dx, fs, t, rfl, ha, ty, sub, q⟩ := h
  cases rx
  obtain ⟨mA, J, _⟩ := ins_get I.hok ha
  obtain ⟨od, J, _⟩ := J.look
  obtain ⟨mm, hF⟩ := I.fr
  obtain ⟨Pk, kx, hP, _⟩ := kit_of I ry ty
  refine PySem.W.cmp_K (op := .Eq) (tb := .type t) hr.units0 hF I.ok.mod.kin J (kx.ty _ _ I.kIn hP) (by unfold PySem.W.notFirst; rw [sub]; simp) D.at_ D.fn ?_
  refine thn (run_fn (us := [.ref a, u]) (vs := [.ref a, y]) F hr hb .nil hx I (.cons rfl (.cons ry .nil)) (by rw [List.append_nil]; exact q)) fun u s' h => ?_
  obtain ⟨v, H', I', r, q'⟩ := h
  exact back_of r ⟨v, H', I', r, q'⟩
/-- x != y, both of the own class; != is object's -/
theorem op_ownNe (D : OpD X.K C "__eq__" f) (hn : PySem.W.findIn X.K (.ref C) "__ne__" = some (some (.builtin "object.__ne__"))) (hm : PySem.W.mroIn X.K C (.type "object") = some true) (F : FnOk X.prog X.w X.K X.mg X.base CX k f fd ps sp) (hr : Room (k + 1) X.A) (hb : Binds X.K fd ps []) (hx : Passes CX X E) :
    OpR X (compareOp .NotEq) (fun x y H Q => ∃ a b dx dy fs gs, x = .ref a ∧ y = .ref b ∧ H a = some (.ins C dx fs) ∧ H b = some (.ins C dy gs) ∧ sp [.ref a, .ref b] H (fun v H' => ∃ c, v = .bl c ∧ Q (.bl (!c)) H') E) := by
  intro pins s σ H x y v u Q I rx ry h
  obtain ⟨a, b, dx, dy, fs, gs, rfl, rfl, ha, hb', q⟩ := h
  cases rx
  cases ry
  obtain ⟨mA, J, _⟩ := ins_get I.hok ha
  obtain ⟨mB, J', _⟩ := ins_get I.hok hb'
  obtain ⟨od, J, _⟩ := J.look
  obtain ⟨od', J', _⟩ := J'.look
  refine PySem.W.lm_ne hr.units0 hr.in1.units0 I.kIn J J' hn hm D.at_ D.fn (thn (in1_call (vs := [.ref a, .ref b]) (us := [.ref a, .ref b]) F hr hb hx I (.cons rfl (.cons rfl .nil)) q) fun u s' h => ?_)
  obtain ⟨v, H', I', rv, c, rfl, q'⟩ := h
  cases rv
  exact ⟨.bl (!c), H', I', rfl, q'⟩
end
end Lm

namespace PySem.W
open PySem PySem.Calls PyProof.Rows
section
variable {prog : Program} {w : World} {A : Around} {E : Value → Shared → Prop} {s : Shared} {K : Frag} {x C f : Addr} {ox : Obj} {od : Option Obj}
/-- the text of an object of an own class within a container's -/
theorem lm_reprUnder {b : Nat} {Q : Str → Shared → Prop} (hb : b ≤ sizeLine) (hu : A.units < cLine) (X : K.In s.heap) (I : InstAt s.heap x ox C od) (hs : findIn K (.ref C) "__repr__" = some (some (.ref f))) (hf : isFn K (.ref f) = true)
    (h : wpAny (model prog w) A (call (.ref f) [.ref x]) (StrBack fun v s' => ∃ z t, v = .str z t ∧ Q z s') E s) : wpAny (model prog w) A (pyReprUnder b (.ref x)) Q E s := by
  refine wpAny_pyReprUnder_ref hb ?_
  unfold pyReprObjUnder pyReprObjBy
  refine wpAny_bind (wpAny_cRoomFor hu ?_)
  refine wpAny_bind (wpAny_bind (I.type.here ((looks_findIn X hs).here ?_)))
  show wpAny _ _ (if (some (Value.ref f)).isNone = true then _ else _) _ _ _
  rw [if_neg (by simp)]
  have fin : wpAny (model prog w) A (call (.ref f) ([.ref x] ++ []) >>= fun v => pure (some v)) (fun r s' => ∃ z t, r = some (.str z t) ∧ Q z s') E s := wpAny_bind (wpAny_mono h (fun r s' hr => by
    cases r <;> first | exact hr.elim | skip
    obtain ⟨z, t, e, q⟩ := hr
    cases e
    exact wpAny_pure ⟨_, _, rfl, q⟩) fun _ _ y => y)
  refine wpAny_bind (wpAny_mono (Q := fun r s' => ∃ z t, r = some (.str z t) ∧ Q z s') ?_ (fun r s' hr => ?_) fun _ _ y => y)
  · simp only [callSpecialIfBoundBy?, bindSpecialIfBound?]
    refine wpAny_holding (wpAny_bind (wpAny_bind (wpAny_bind (I.type.here ((looks_findIn X hs).here ?_)))))
    refine wpAny_bind (wpAny_askSetting (wpAny_ite ?_))
    split
    · exact wpAny_bind ((bind_fn X _ (beq_iff_eq.mp hf)).here (wpAny_pure (by exact fin)))
    · exact wpAny_tryCatch (wpAny_bind ((bind_fn X _ (beq_iff_eq.mp hf)).here (wpAny_pure (by exact fin))))
  · obtain ⟨z, t, rfl, q⟩ := hr
    refine wpAny_bind (wpAny_isInstance (typeIs_str _ _ _) isSubtype_str_str ?_)
    first
      | exact wpAny_pure ⟨_, _, rfl, q⟩
      | (rw [if_pos rfl]; exact wpAny_pure ⟨_, _, rfl, q⟩)
      | (simp only [if_true]; exact wpAny_pure ⟨_, _, rfl, q⟩)
end
end PySem.W
namespace Lm
open PySem PySem.Spec PyProof.Rows L2
/-! ## repr of a tuple that holds objects of an own class -/
theorem tupu_depth {A : Around} {a : Addr} : (A.under (.builtin "tuple.__repr__" ⟨[.ref a], []⟩)).depth ≤ A.depth + 1 := by
  first
    | (show A.depth + 0 ≤ _; omega)
    | (show A.depth + 1 ≤ _; omega)
    | simp [Around.under, Code.weight, Code.isCreation, Code.isGuard, Code.isCaller, Code.frames, Code.isFrame, guardIds]
theorem room_tupu {k : Nat} {A : Around} (r : Room (k + 1) A) (a : Addr) : Room k (A.under (.builtin "tuple.__repr__" ⟨[.ref a], []⟩)) :=
  ⟨r.hd, by have := r.dp; have := tupu_depth (A := A) (a := a); omega, by have := r.un; rw [units_under_tuple_repr]; omega⟩
theorem env0_tupu {P : Program} {w : World} {K : PySem.W.Frag} {mg : Str → Option Value} {base : Heap} {A : Around} {outer : List Env} {s : Shared} {H : Hp} (e : Env0 P w K mg base A outer s H) (a : Addr) :
    Env0 P w K mg base (A.under (.builtin "tuple.__repr__" ⟨[.ref a], []⟩)) outer s H := ⟨by first | exact e.frames | (simpa [Around.under, Code.envs, Code.isFrame, pushEnvs] using e.frames), e.mod, e.bs, e.bsz, e.funs, e.frf, e.hok, e.bare⟩
/-- values without parts -/
def leafD : V → Option PyData
  | .non => some .none
  | .bl b => some (.bool b)
  | .int i => some (.int i)
  | .str x => some (.str x)
  | _ => none
/-- the items' texts, one behind another -/
def tItems (C : Addr) (sp : Sp) (E : XK) : List V → List Str → Hp → (List Str → Hp → Prop) → Prop
  | [], acc, H, k => k acc H
  | v :: vs, acc, H, k => (∃ d, leafD v = some d ∧ d.showable = true ∧ d.shown.length ≤ 10000 ∧ tItems C sp E vs (acc ++ [d.shown]) H k) ∨
    ∃ x dx fs, v = .ref x ∧ H x = some (.ins C dx fs) ∧ sp [.ref x] H (fun u H' => ∃ z : Str, u = .str z ∧ z.length ≤ 10000 ∧ tItems C sp E vs (acc ++ [z]) H' k) E
def rReprT (C : Addr) (sp : Sp) (E : XK) : List V → Hp → VK → Prop := fun xs H Q => ∃ a vs, xs = [.ref a] ∧ H a = some (.tup vs) ∧ vs.length ≤ 1000 ∧ tItems C sp E vs [] H fun ts H' => Q (.str (tupleText ts)) H'
section
variable {X : Cx} {CX : CXT} {k : Nat} {C f : Addr} {fd : FuncData} {ps : List Str} {sp : Sp} {E : XK}
theorem leaf_run {pins : List (Addr × Obj)} {σ : L2.St} {H : Hp} {s : Shared} {A : Around} {XE : Value → Shared → Prop} {b : Nat} {v : V} {u : Value} {d : PyData} {Q : Str → Shared → Prop} (I : Inv X pins σ H s) (r : RelV v u) (hd : leafD v = some d) (hs : d.showable = true) (hb : b + d.shown.length ≤ sizeLine)
    (h : ∀ tk, Inv X pins σ H { s with toks := tk } → Q d.shown { s with toks := tk }) : wpAny (model X.prog X.w) A (pyReprUnder b u) Q XE s := by
  have go : ReprIs X.prog X.w u d.shown → wpAny (model X.prog X.w) A (pyReprUnder b u) Q XE s := fun z => z b hb A XE s Q fun tk => h tk (I.tok tk)
  cases v with
  | non =>
    cases hd
    cases r
    exact go ReprIs.none
  | bl b =>
    cases hd
    cases r
    exact go (by simpa only [PyData.shown] using ReprIs.bool b)
  | int i =>
    cases hd
    obtain ⟨t, rfl⟩ := r
    exact go (by simpa only [PyData.shown] using ReprIs.int t (by simpa [PyData.showable] using hs))
  | str x =>
    cases hd
    obtain ⟨t, rfl⟩ := r
    exact go (by simpa only [PyData.shown] using ReprIs.str x t (by simp only [PyData.shown] at hb; omega))
  | _ => cases hd
theorem items_run (m : Meth X.K C "__repr__" f) (F : FnOk X.prog X.w X.K X.mg X.base CX k f fd ps sp) (hb : Binds X.K fd ps []) (hx : Passes CX X E) {A : Around} (hr : Room k A) (hfr : ∀ {s : Shared} {H : Hp} {pins : List (Addr × Obj)} {σ : L2.St}, Inv X pins σ H s → Env0 X.prog X.w X.K X.mg X.base A X.stack s H) {pins : List (Addr × Obj)} {σ : L2.St} {κ : List Str → Hp → Prop} :
    ∀ (us : List Value) (vs : List V) (acc : List Str) (n : Nat) (s : Shared) (H : Hp) (Q : (Array Str × Nat) → Shared → Prop), Vals vs us → Inv X pins σ H s → n + vs.length * 10002 + 10002 ≤ sizeLine → tItems C sp E vs acc H κ →
      (∀ ts H' s' n', Inv X pins σ H' s' → κ ts H' → ts.length = acc.length + vs.length → (∀ t ∈ ts, t ∈ acc ∨ t.length ≤ 10000) → Q ⟨ts.toArray, n'⟩ s') → wpAny (model X.prog X.w) A (forIn us (⟨acc.toArray, n⟩ : (Array Str × Nat)) tupBody) Q X.xe s := by
  intro us
  induction us with
  | nil =>
    intro vs acc n s H Q r I hn h q
    cases r
    rw [List.forIn_nil]
    exact wpAny_pure (q acc H s n I h (by simp) fun t ht => .inl ht)
  | cons u us ih =>
    intro vs acc n s H Q r I hn h q
    cases r with
    | cons r1 rs =>
      rename_i v vs
      rw [List.length_cons] at hn
      rw [List.forIn_cons]
      have step : ∀ (t : Str) (s' : Shared) (H' : Hp), t.length ≤ 10000 → Inv X pins σ H' s' → tItems C sp E vs (acc ++ [t]) H' κ → wpAny (model X.prog X.w) A (forIn us (⟨acc.toArray.push t, n + (t.length + 2)⟩ : (Array Str × Nat)) tupBody) Q X.xe s' := by
        intro t s' H' ht I' h'
        have e : acc.toArray.push t = (acc ++ [t]).toArray := by simp
        rw [e]
        refine ih vs (acc ++ [t]) (n + (t.length + 2)) s' H' Q rs I' (by omega) h' fun ts H2 s2 n2 I2 k2 l2 b2 => q ts H2 s2 n2 I2 k2 (by rw [l2]; simp only [List.length_append, List.length_cons, List.length_nil]; omega) fun z hz => ?_
        rcases b2 z hz with y | y
        · rcases List.mem_append.mp y with y | y
          · exact .inl y
          · rw [List.mem_singleton.mp y]
            exact .inr ht
        · exact .inr y
      rcases h with ⟨d, hd, hs, hl, h⟩ | ⟨x, dx, fs, rfl, hx', h⟩
      · refine wpAny_bind (wpAny_bind (leaf_run I r1 hd hs (by omega) fun tk I' => wpAny_pure ?_))
        exact step d.shown _ H hl I' h
      · obtain rfl : u = Value.ref x := r1
        obtain ⟨mA, J, _⟩ := ins_get I.hok hx'
        obtain ⟨od, J, _⟩ := J.look
        refine wpAny_bind (wpAny_bind (PySem.W.lm_reprUnder (by omega) hr.units0 I.kIn J m.at_ m.fn ?_))
        have n1 : ([Value.ref x] ++ []).length = ps.length := by
          rw [List.append_nil]
          exact F.len _ _ _ _ h
        have z := hb s [Value.ref x] I.kIn n1
        rw [List.append_nil] at z
        refine wpAny_call (codeAny_mono (F.run A X.stack s H ⟨[.ref x], []⟩ [.ref x] [.ref x] _ E hr (hfr I) z (.cons rfl .nil) h) fun r s' hq => ?_)
        match r, hq with
        | .error e, hq => exact hx pins σ H s e s' I hq
        | .ok .next, hq => exact False.elim hq
        | .ok .brk, hq => exact False.elim hq
        | .ok .cont, hq => exact False.elim hq
        | .ok (.ret u), hq =>
          obtain ⟨v, H', I', rv, z, rfl, hz, h'⟩ := I.after hq
          obtain ⟨t, rfl⟩ := rv
          exact ⟨z, t, rfl, wpAny_pure (step z s' H' hz I' h')⟩
theorem tupleText_few {ts : List Str} (h : ∀ t ∈ ts, t.length ≤ 10000) (l : ts.length ≤ 1000) : (tupleText ts).length ≤ sizeLine := by
  have z := tupleText_len_le ts
  have s : ∀ l : List Str, (∀ t ∈ l, t.length ≤ 10000) → (l.map (·.length)).sum ≤ 10000 * l.length := by
    intro l
    induction l with
    | nil => intro _; exact Nat.zero_le _
    | cons a r ih =>
      intro q
      have h1 := q a List.mem_cons_self
      have h2 := ih fun n m => q n (List.mem_cons_of_mem _ m)
      simp only [List.map_cons, List.sum_cons, List.length_cons]
      omega
  have s2 := s ts h
  rw [sizeLine_eq]
  omega
/-- repr(t), t a tuple of values without parts and of objects of the class -/
theorem call_reprT (gd : X.A.guards = some []) (m : Meth X.K C "__repr__" f) (F : FnOk X.prog X.w X.K X.mg X.base CX k f fd ps sp) (hr : Room (k + 2) X.A) (hb : Binds X.K fd ps []) (hx : Passes CX X E) : CallR X (.builtin "repr") (rReprT C sp E) := by
  intro pins s σ H xs us Q I r h
  obtain ⟨a, vs, rfl, ha, hl, h⟩ := h
  obtain ⟨u, rfl, ru⟩ := vals1 r
  obtain rfl : u = Value.ref a := ru
  obtain ⟨_, its, rv, o, ho, hc, n, hd⟩ := I.hok a _ ha
  have hty : s.TypeIs (.ref a) "tuple" := ⟨o, ho, hc⟩
  have gd1 : X.A.in1.guards = some [] := gd
  refine call_repr_slot hr.in1.units0 hty PySem.F.slot_tuple_repr ?_
  refine wpAny_call (codeAny_call_builtin_own (Code.quiet_builtin _ (by decide +kernel)) PySem.F.entry_tuple_repr (PySem.F.slot_tuple_repr.check _ _ _ _ _ _ _ _ hty (PySem.F.args_tuple_repr_1 _) ?_))
  show wpOwn _ _ _ (Builtin.tupleReprAt 0 ⟨[.ref a], []⟩) _ _ _
  rw [tuple_repr_tree, tupleReprUnderWay_eq]
  refine wpOwn_bind (wpOwn_stackTailAny gd1 (tupGuardF_off _) (tupGuardF_pos _) ?_)
  refine wpOwn_of_wpAny ?_
  show wpAny _ _ (tupleReprRest 0 (.ref a)) _ _ s
  unfold tupleReprRest Builtin.Tuple.tupleItemsOf
  refine wpAny_bind (wpAny_bind (wpAny_seqItems ho hd (wpAny_pure ?_)))
  rw [← Array.forIn_toList]
  have len : its.length = vs.length := rv.length.symm
  have hz : 0 + vs.length * 10002 + 10002 ≤ sizeLine := by
    rw [sizeLine_eq]
    omega
  refine wpAny_bind (items_run m F hb hx (room_tupu hr.in1 a) (fun I => env0_tupu I.env0.in1 a) its vs [] 0 s H _ rv I hz h fun ts H' s' n' I' q hlen hts => ?_)
  have hts' : ∀ t ∈ ts, t.length ≤ 10000 := fun t ht => (hts t ht).resolve_left fun z => nomatch z
  have hlen' : ts.length = its.length := by rw [hlen, len, List.length_nil, Nat.zero_add]
  have hsz := tupleText_few hts' (by rw [hlen', len]; exact hl)
  refine wpAny_bind (wpAny_mkStr (wpAny_pure ?_) (by simpa [tupleText, hlen'] using hsz))
  have fin : ∀ tk, ∃ x t, Value.str (tupleText ts) tk = .str x t ∧ EP X pins σ Q (.str (tupleText ts) tk) { s' with toks := s'.toks + 1 } := fun tk => ⟨_, _, rfl, .str (tupleText ts), H', I'.tok _, ⟨_, rfl⟩, q⟩
  simpa [tupleText, hlen'] using fin s'.toks
end
end Lm

namespace Lm
open PySem PySem.Spec PyProof.Rows L2
/-! ## Decimal figures, block by block -/
/-- the text of a number -/
abbrev ds (i : Int) : Str := Str.ofString (toString i)
def padK : Nat → Nat → List Nat
  | 0, _ => []
  | k + 1, r => padK k (r / 10) ++ [48 + r % 10]
theorem padK_len : ∀ k r, (padK k r).length = k
  | 0, _ => rfl
  | k + 1, r => by rw [padK, List.length_append, padK_len k] <;> rfl
theorem padK_zero : ∀ k, padK k 0 = List.replicate k 48
  | 0 => rfl
  | k + 1 => by
    rw [padK, Nat.zero_div, padK_zero k, List.replicate_succ']
theorem numL_block : ∀ k q r : Nat, 0 < q → r < 10 ^ k → TL.numL (q * 10 ^ k + r) = TL.numL q ++ padK k r
  | 0, q, r, _, h => by
    have e : r = 0 := by simpa using h
    subst e
    simp [padK]
  | k + 1, q, r, hq, h => by
    have e : q * 10 ^ (k + 1) = q * 10 ^ k * 10 := by rw [Nat.pow_succ, Nat.mul_assoc]
    have p : 0 < q * 10 ^ k := Nat.mul_pos hq (Nat.pos_of_ne_zero (by simp))
    have h2 : r / 10 < 10 ^ k := by
      rw [Nat.pow_succ] at h
      omega
    have ih := numL_block k q (r / 10) hq h2
    generalize q * 10 ^ k = A at *
    rw [e, TL.numL_step (by omega), padK, ← List.append_assoc, ← ih]
    have e1 : (A * 10 + r) / 10 = A + r / 10 := by omega
    have e2 : (A * 10 + r) % 10 = r % 10 := by omega
    rw [e1, e2]
theorem pad_num : ∀ k r : Nat, r < 10 ^ (k + 1) → List.replicate (k + 1 - (TL.numL r).length) 48 ++ TL.numL r = padK (k + 1) r
  | 0, r, h => by
    have h : r < 10 := by simpa using h
    rw [TL.numL_lt h]
    show [] ++ [48 + r] = [] ++ [48 + r % 10]
    rw [Nat.mod_eq_of_lt h]
  | k + 1, r, h => by
    by_cases s : r < 10
    · rw [TL.numL_lt s, padK, Nat.div_eq_of_lt s, padK_zero, Nat.mod_eq_of_lt s] <;> rfl
    · have h2 : r / 10 < 10 ^ (k + 1) := by
        rw [Nat.pow_succ] at h
        omega
      have ih := pad_num k (r / 10) h2
      rw [TL.numL_step (by omega), List.length_append, padK, ← ih, List.append_assoc]
      congr 2
      simp only [List.length_cons, List.length_nil]
      omega
theorem tl_ds_nat (n : Nat) : TL.tl (ds (n : Int)) = TL.numL n := TL.tl_num n
theorem tl_ds_neg {i : Int} (h : i < 0) : TL.tl (ds i) = 45 :: TL.numL i.natAbs := by
  obtain ⟨m, rfl⟩ : ∃ m : Nat, i = Int.negSucc m := by
    cases i with
    | ofNat m => exact absurd h (by simp)
    | negSucc m => exact ⟨m, rfl⟩
  show (Str.ofString (toString (Int.negSucc m))).cps.toList = 45 :: TL.numL (m + 1)
  rw [PyProof.Rows.signs_ofString]
  show ("-" ++ Nat.repr (m + 1)).toList.map Char.toNat = 45 :: (Nat.toDigits 10 (m + 1)).map Char.toNat
  rw [String.toList_append, List.map_append, Nat.toList_repr] <;> rfl
theorem tl_zfill {r : Nat} (h : r < 10 ^ 64) : TL.tl (Txt.zfill (ds (r : Int)) 64) = padK 64 r := by
  have hl : (TL.numL r).length ≤ 64 := TL.numL_len (by decide) h
  have e : TL.tl (ds (r : Int)) = TL.numL r := tl_ds_nat r
  have el : (ds (r : Int)).length = (TL.numL r).length := by rw [TL.len_tl, e]
  have pn := pad_num 63 r h
  unfold Txt.zfill
  by_cases c : (64 : Int) ≤ (ds (r : Int)).length
  · rw [if_pos c, e, ← pn]
    have z : 63 + 1 - (TL.numL r).length = 0 := by omega
    rw [z] <;> rfl
  · rw [if_neg c]
    unfold PySem.zfilled
    have h0 : ∀ c, (ds (r : Int)).cps[0]? = some c → c ≠ 43 ∧ c ≠ 45 := fun c hc => by
      have m : c ∈ TL.numL r := by
        rw [← e]
        have hc : (ds (r : Int)).cps.toList[0]? = some c := by rw [Array.getElem?_toList]; exact hc
        exact List.mem_of_getElem? hc
      have := TL.numL_digits r c m
      omega
    have fin : TL.tl (Builtin.Str.padded (ds (r : Int)) ((64 : Int).toNat - (ds (r : Int)).length) 0 48) = padK 64 r := by
      show (Builtin.Str.padded (ds (r : Int)) ((64 : Int).toNat - (ds (r : Int)).length) 0 48).cps.toList = _
      rw [PyProof.Rows.padded_list, List.replicate_zero, List.append_nil, el, ← pn]
      show List.replicate (64 - _) 48 ++ TL.tl (ds (r : Int)) = _
      rw [e]
    split
    · rename_i q
      exact absurd rfl (h0 43 q).1
    · rename_i q
      exact absurd rfl (h0 45 q).2
    · exact fin
def figB (r : Nat) : List Str := if h : r < 10 ^ 64 then [ds (r : Int)] else Txt.zfill (ds ((r % 10 ^ 64 : Nat) : Int)) 64 :: figB (r / 10 ^ 64)
  termination_by r
  decreasing_by exact Nat.div_lt_self (by have : (0 : Nat) < 10 ^ 64 := by decide +kernel
                                          omega) (by decide +kernel)
theorem figB_lt {r : Nat} (h : r < 10 ^ 64) : figB r = [ds (r : Int)] := by rw [figB, dif_pos h]
theorem figB_ge {r : Nat} (h : ¬ r < 10 ^ 64) : figB r = Txt.zfill (ds ((r % 10 ^ 64 : Nat) : Int)) 64 :: figB (r / 10 ^ 64) := by rw [figB, dif_neg h]
theorem joinL_flat : ∀ ls : List (List Nat), TL.joinL [] ls = ls.flatten
  | [] => rfl
  | [p] => by simp [TL.joinL]
  | p :: q :: r => by
    show p ++ ([] ++ TL.joinL [] (q :: r)) = _
    rw [List.nil_append, joinL_flat (q :: r)] <;> rfl
theorem tl_join0 (xs : List Str) : TL.tl (Txt.join "" xs) = (xs.map TL.tl).flatten := by
  rw [TL.join_eq, TL.tl_join]
  exact joinL_flat _
theorem figB_flat (r : Nat) : ((figB r).reverse.map TL.tl).flatten = TL.numL r := by
  induction r using Nat.strongRecOn with
  | _ r ih =>
    by_cases h : r < 10 ^ 64
    · rw [figB_lt h]
      simp [tl_ds_nat]
    · have pos : (0 : Nat) < 10 ^ 64 := by decide +kernel
      have lt : r / 10 ^ 64 < r := Nat.div_lt_self (by omega) (by decide +kernel)
      have q0 : 0 < r / 10 ^ 64 := Nat.div_pos (by omega) pos
      have m : r % 10 ^ 64 < 10 ^ 64 := Nat.mod_lt r pos
      rw [figB_ge h, List.reverse_cons, List.map_append, List.flatten_append, ih _ lt]
      show _ ++ (TL.tl (Txt.zfill _ 64) ++ []) = _
      rw [List.append_nil, tl_zfill m, ← numL_block 64 _ _ q0 m, Nat.div_add_mod' r (10 ^ 64)]
/-- what figures_of puts together -/
def figL (n : Int) : List Str := figB n.natAbs ++ (if n < 0 then [("-" : Str)] else [])
theorem figs_eq (n : Int) : Txt.join "" (figL n).reverse = ds n := by
  refine TL.ext_tl ?_
  rw [tl_join0]
  unfold figL
  by_cases h : n < 0
  · rw [if_pos h, List.reverse_append, List.map_append, List.flatten_append, figB_flat, tl_ds_neg h] <;> rfl
  · obtain ⟨m, rfl⟩ := Int.eq_ofNat_of_zero_le (by omega : 0 ≤ n)
    rw [if_neg h, List.append_nil, figB_flat]
    exact (tl_ds_nat m).symm
/-- numbers that are reckoned with -/
def Nb (n : Int) : Prop := n.natAbs < 2 ^ 9000
theorem Nb.log {n : Int} (h : Nb n) : n.natAbs.log2 < 9000 := by
  by_cases z : n.natAbs = 0
  · rw [z]
    decide
  · exact (Nat.log2_lt z).mpr h
theorem two_ten : (2 : Nat) ^ 9000 ≤ 10 ^ 2710 := by decide +kernel
theorem Nb.num {n : Int} (h : Nb n) : (TL.numL n.natAbs).length ≤ 2710 := TL.numL_len (by decide) (Nat.lt_of_lt_of_le h two_ten)
theorem ds_len {n : Int} (h : Nb n) : (ds n).length ≤ 2711 := by
  have l := h.num
  rw [TL.len_tl]
  by_cases z : n < 0
  · rw [tl_ds_neg z, List.length_cons]
    omega
  · obtain ⟨m, rfl⟩ := Int.eq_ofNat_of_zero_le (by omega : 0 ≤ n)
    rw [tl_ds_nat]
    simp only [Int.natAbs_natCast] at l
    omega
theorem sum_flat : ∀ xs : List Str, (xs.map (·.length)).sum = (xs.map TL.tl).flatten.length
  | [] => rfl
  | x :: r => by
    have ih := sum_flat r
    simp only [List.map_cons, List.sum_cons, List.flatten_cons, List.length_append]
    rw [ih, TL.len_tl]
theorem count_flat : ∀ ls : List (List Nat), (∀ l ∈ ls, l ≠ []) → ls.length ≤ ls.flatten.length
  | [], _ => Nat.le_refl _
  | l :: r, h => by
    have h1 := count_flat r fun x hx => h x (List.mem_cons_of_mem _ hx)
    have h2 : 0 < l.length := List.length_pos_iff.mpr (h l List.mem_cons_self)
    simp only [List.length_cons, List.flatten_cons, List.length_append]
    omega
theorem figB_ne (r : Nat) : ∀ x ∈ figB r, TL.tl x ≠ [] := by
  induction r using Nat.strongRecOn with
  | _ r ih =>
    intro x hx
    by_cases h : r < 10 ^ 64
    · rw [figB_lt h] at hx
      rw [List.mem_singleton.mp hx, tl_ds_nat]
      exact TL.numL_ne r
    · rw [figB_ge h] at hx
      have pos : (0 : Nat) < 10 ^ 64 := by decide +kernel
      rcases List.mem_cons.mp hx with z | z
      · rw [z, tl_zfill (Nat.mod_lt r pos)]
        intro y
        have := padK_len 64 (r % 10 ^ 64)
        rw [y] at this
        cases this
      · exact ih _ (Nat.div_lt_self (by omega) (by decide +kernel)) x z
theorem figL_few {n : Int} (h : Nb n) : (figL n).length ≤ 2711 ∧ ((figL n).map (·.length)).sum ≤ 2711 := by
  have a : (figB n.natAbs).length ≤ 2710 ∧ ((figB n.natAbs).map (·.length)).sum ≤ 2710 := by
    have f := figB_flat n.natAbs
    have l := h.num
    have e : ((figB n.natAbs).map (·.length)).sum = (TL.numL n.natAbs).length := by
      rw [← f, ← sum_flat, List.map_reverse, List.sum_reverse]
    have c := count_flat ((figB n.natAbs).reverse.map TL.tl) fun l hl => by
      obtain ⟨x, hx, rfl⟩ := List.mem_map.mp hl
      exact figB_ne _ x (List.mem_reverse.mp hx)
    rw [f, List.length_map, List.length_reverse] at c
    omega
  unfold figL
  have s : (("-" : Str)).length = 1 := rfl
  split
  · simp only [List.length_append, List.map_append, List.sum_append, List.length_cons, List.length_nil, List.map_cons, List.map_nil, List.sum_cons, List.sum_nil, s]
    omega
  · rw [List.append_nil]
    omega

/-! ## Texts of ratios -/
theorem repl1_free {z : List Nat} : ∀ {l : List Nat}, 47 ∉ l → StrLaws.replL [47] z l = l
  | [], _ => StrLaws.replL_nil
  | c :: r, h => by
    rw [StrLaws.replL_miss (fun e => h (by
      have e : [c] = [47] := e
      cases e
      exact List.mem_cons_self)), repl1_free fun m => h (List.mem_cons_of_mem _ m)]
theorem repl1_mid {z b : List Nat} : ∀ {a : List Nat}, 47 ∉ a → StrLaws.replL [47] z (a ++ 47 :: b) = a ++ (z ++ StrLaws.replL [47] z b)
  | [], _ => by
    rw [List.nil_append, List.nil_append, StrLaws.replL_hit (by simp) rfl] <;> rfl
  | c :: r, h => by
    rw [List.cons_append, StrLaws.replL_miss (fun e => h (by
      have e : [c] = [47] := e
      cases e
      exact List.mem_cons_self)), repl1_mid fun m => h (List.mem_cons_of_mem _ m)] <;> rfl
theorem ds_free (i : Int) : 47 ∉ TL.tl (ds i) := by
  by_cases z : i < 0
  · rw [tl_ds_neg z]
    intro m
    rcases List.mem_cons.mp m with e | e
    · cases e
    · exact TL.numL_free (.inl (by decide)) e
  · obtain ⟨m, rfl⟩ := Int.eq_ofNat_of_zero_le (by omega : 0 ≤ i)
    rw [tl_ds_nat]
    exact TL.numL_free (.inl (by decide))
def ratText (n u : Int) : Str := if u = 1 then ds n else ds n ++ ("/" : Str) ++ ds u
def ratRepr (n u : Int) : Str := ("Ratio(" : Str) ++ Txt.replace (ratText n u) "/" ", " ++ (")" : Str)
def ratShow (n u : Int) : Str := ("Ratio(" : Str) ++ ds n ++ (if u = 1 then ("" : Str) else (", " : Str) ++ ds u) ++ (")" : Str)
theorem ratRepr_eq (n u : Int) : ratRepr n u = ratShow n u := by
  have key : TL.tl (Txt.replace (ratText n u) "/" ", ") = TL.tl (ds n) ++ TL.tl (if u = 1 then ("" : Str) else (", " : Str) ++ ds u) := by
    refine (StrLaws.replace_list (x := ratText n u) (y := "/") (z := ", ") (by decide)).trans ?_
    show StrLaws.replL [47] (TL.tl ", ") (TL.tl (ratText n u)) = _
    unfold ratText
    by_cases h : u = 1
    · rw [if_pos h, if_pos h, repl1_free (ds_free n)]
      show _ = _ ++ []
      rw [List.append_nil]
    · rw [if_neg h, if_neg h, TL.tl_append, TL.tl_append, List.append_assoc]
      show StrLaws.replL [47] _ (TL.tl (ds n) ++ 47 :: TL.tl (ds u)) = _
      rw [repl1_mid (ds_free n), repl1_free (ds_free u), TL.tl_append]
  refine TL.ext_tl ?_
  unfold ratRepr ratShow
  rw [TL.tl_append, TL.tl_append, TL.tl_append, TL.tl_append, TL.tl_append, key]
  simp only [List.append_assoc]
theorem ratText_len {n u : Int} (h : Nb n) (g : Nb u) : (ratText n u).length ≤ 6000 := by
  have a := ds_len h
  have b := ds_len g
  have e : (("/" : Str)).length = 1 := rfl
  unfold ratText
  split
  · omega
  · rw [strLen_append, strLen_append]
    omega
theorem ratRepr_len {n u : Int} (h : Nb n) (g : Nb u) : (ratRepr n u).length ≤ 6000 := by
  have a := ds_len h
  have b := ds_len g
  have e1 : (("Ratio(" : Str)).length = 6 := rfl
  have e2 : ((", " : Str)).length = 2 := rfl
  have e3 : (("" : Str)).length = 0 := rfl
  have e4 : ((")" : Str)).length = 1 := rfl
  rw [ratRepr_eq]
  unfold ratShow
  rw [strLen_append, strLen_append, strLen_append]
  split
  · omega
  · rw [strLen_append]
    omega

/-! ## Least terms -/
def gd (n u : Int) : Int := ((Nat.gcd n.natAbs u.natAbs : Nat) : Int)
def sg (n u : Int) : Int := if u < 0 then -(gd n u) else gd n u
def rn (n u : Int) : Int := n.fdiv (sg n u)
def ru (n u : Int) : Int := u.fdiv (sg n u)
structure Red (n u : Int) : Prop where
  pos : 0 < u
  cop : Nat.gcd n.natAbs u.natAbs = 1
section
variable {n u : Int}
theorem gd_pos (h : u ≠ 0) : 0 < gd n u := by
  unfold gd
  have : 0 < Nat.gcd n.natAbs u.natAbs := Nat.gcd_pos_of_pos_right _ (by omega)
  omega
theorem sg_ne (h : u ≠ 0) : sg n u ≠ 0 := by
  have := gd_pos (n := n) h
  unfold sg
  split <;> omega
theorem sg_dvd (n u : Int) : sg n u ∣ n ∧ sg n u ∣ u := by
  have a : gd n u ∣ n := Int.ofNat_dvd_left.mpr (Nat.gcd_dvd_left _ _)
  have b : gd n u ∣ u := Int.ofNat_dvd_left.mpr (Nat.gcd_dvd_right _ _)
  unfold sg
  split
  · exact ⟨Int.neg_dvd.mpr a, Int.neg_dvd.mpr b⟩
  · exact ⟨a, b⟩
theorem rn_mul (n u : Int) : rn n u * sg n u = n := by
  unfold rn
  rw [Int.fdiv_eq_ediv_of_dvd (sg_dvd n u).1, Int.ediv_mul_cancel (sg_dvd n u).1]
theorem ru_mul (n u : Int) : ru n u * sg n u = u := by
  unfold ru
  rw [Int.fdiv_eq_ediv_of_dvd (sg_dvd n u).2, Int.ediv_mul_cancel (sg_dvd n u).2]
theorem sg_abs (n u : Int) : (sg n u).natAbs = Nat.gcd n.natAbs u.natAbs := by
  unfold sg gd
  split
  · rw [Int.natAbs_neg, Int.natAbs_natCast]
  · rw [Int.natAbs_natCast]
theorem rn_le (n u : Int) (h : u ≠ 0) : (rn n u).natAbs ≤ n.natAbs := by
  have e : (rn n u).natAbs * (sg n u).natAbs = n.natAbs := by rw [← Int.natAbs_mul, rn_mul]
  have p : 0 < (sg n u).natAbs := Int.natAbs_pos.mpr (sg_ne h)
  rw [← e]
  exact Nat.le_mul_of_pos_right _ p
theorem ru_le (n u : Int) (h : u ≠ 0) : (ru n u).natAbs ≤ u.natAbs := by
  have e : (ru n u).natAbs * (sg n u).natAbs = u.natAbs := by rw [← Int.natAbs_mul, ru_mul]
  have p : 0 < (sg n u).natAbs := Int.natAbs_pos.mpr (sg_ne h)
  rw [← e]
  exact Nat.le_mul_of_pos_right _ p
theorem ru_pos (h : u ≠ 0) : 0 < ru n u := by
  have e := ru_mul n u
  have g := gd_pos (n := n) h
  unfold sg at e
  rcases Int.lt_trichotomy (ru n u) 0 with z | z | z
  · exfalso
    split at e
    · have : 0 ≤ ru n u * -gd n u := by
        rw [Int.mul_neg, ← Int.neg_mul]
        exact Int.mul_nonneg (by omega) (by omega)
      omega
    · have : 0 < -ru n u * gd n u := Int.mul_pos (by omega) g
      rw [Int.neg_mul] at this
      omega
  · rw [z, Int.zero_mul] at e
    exact absurd e.symm h
  · exact z
theorem red_of (h : u ≠ 0) : Red (rn n u) (ru n u) := by
  refine ⟨ru_pos h, ?_⟩
  have e1 : (rn n u).natAbs * (sg n u).natAbs = n.natAbs := by rw [← Int.natAbs_mul, rn_mul]
  have e2 : (ru n u).natAbs * (sg n u).natAbs = u.natAbs := by rw [← Int.natAbs_mul, ru_mul]
  have p : 0 < (sg n u).natAbs := Int.natAbs_pos.mpr (sg_ne h)
  have g := sg_abs n u
  rw [← e1, ← e2, Nat.gcd_mul_right] at g
  generalize (rn n u).natAbs = a at *
  generalize (ru n u).natAbs = b at *
  generalize (sg n u).natAbs = c at *
  have g2 : 1 * c = Nat.gcd a b * c := by omega
  exact (Nat.eq_of_mul_eq_mul_right p g2).symm
theorem red_sg (r : Red n u) : sg n u = 1 := by
  unfold sg gd
  rw [r.cop, if_neg (by have := r.pos; omega)] <;> rfl
theorem red_id (r : Red n u) : rn n u = n ∧ ru n u = u := by
  unfold rn ru
  rw [red_sg r, Int.fdiv_one, Int.fdiv_one]
  exact ⟨rfl, rfl⟩
theorem red_one (n : Int) : Red n 1 := ⟨by decide, by simp⟩
theorem red_add (r : Red n u) : Red (n + u) u := ⟨r.pos, by
  have e : Int.gcd (n + u) u = Int.gcd n u := by simp
  exact e.trans r.cop⟩
theorem nb_rn (h : u ≠ 0) (b : Nb n) : Nb (rn n u) := Nat.lt_of_le_of_lt (rn_le n u h) b
theorem nb_ru (h : u ≠ 0) (b : Nb u) : Nb (ru n u) := Nat.lt_of_le_of_lt (ru_le n u h) b
theorem nb_sg (h : u ≠ 0) (b : Nb u) : Nb (sg n u) := by
  have e : (sg n u).natAbs ≤ u.natAbs := by
    rw [sg_abs]
    exact Nat.gcd_le_right _ (by omega)
  exact Nat.lt_of_le_of_lt e b
end
/-- // of a divisor of any sign -/
def CDivZ (_ j : Int) : Prop := j ≠ 0 ∧ j.natAbs.log2 < 9000
theorem op_fdivZ {X : Cx} : OpR X (binaryOp .FloorDiv) (rI CDivZ fun i j => .int (i.fdiv j)) := opI fun i j _ _ _ _ _ hc q => floordiv_int hc.1 q (.inl (PyProof.noPylong_of_log2 hc.2))

/-! ## A Ratio in the heap -/
abbrev ratA (K : PySem.W.Frag) : Addr := He.ga K "Ratio"
def q1 (n : V) : List (Str × V) := [("number", n)]
def q2 (n u : V) : List (Str × V) := [("number", n), ("under", u)]
def q3 (n u t : V) : List (Str × V) := [("number", n), ("under", u), ("text", t)]
theorem rput1 {n : V} : putF "number" n [] = q1 n := rfl
theorem rput2 {n u : V} : putF "under" u (q1 n) = q2 n u := rfl
theorem rput3 {n u t : V} : putF "text" t (q2 n u) = q3 n u t := rfl
def RatAt (K : PySem.W.Frag) (H : Hp) (x : Addr) (n u : Int) : Prop := ∃ dx : Addr, H x = some (.ins (ratA K) dx (q3 (.int n) (.int u) (.str (ratText n u))))
theorem RatAt.keep {K : PySem.W.Frag} {H H' : Hp} {x : Addr} {n u : Int} (h : RatAt K H x n u) (k : ∀ b o, H b = some o → (∃ C dx fs, o = .ins C dx fs) → H' b = some o) : RatAt K H' x n u := by
  obtain ⟨dx, h1⟩ := h
  exact ⟨dx, k _ _ h1 ⟨_, _, _, rfl⟩⟩
theorem RatAt.same {K : PySem.W.Frag} {H H' : Hp} {x : Addr} {n u : Int} (h : RatAt K H x n u) (s : Same H H') : RatAt K H' x n u := h.keep fun b o e _ => s b o e
theorem RatAt.ext {K : PySem.W.Frag} {H H' : Hp} {x : Addr} {n u : Int} (h : RatAt K H x n u) (e : LamX.ExtN H H') : RatAt K H' x n u := h.keep fun b o q ⟨_, _, _, c⟩ => e b o q fun ps z => by
  rw [z] at c
  cases c
theorem RatAt.keptT {K : PySem.W.Frag} {H H' : Hp} {x a : Addr} {n u : Int} {m : Nat} (h : RatAt K H x n u) (k : KeptT a H H') (hp : PotAt H a m) : RatAt K H' x n u := h.keep fun b o e ⟨_, _, _, c⟩ => by
  obtain ⟨_, _, _, q, _⟩ := hp
  refine k b o e (fun z => ?_) fun ps z => ?_
  · rw [z, q] at e
    cases e
    cases c
  · rw [z] at c
    cases c
theorem RatAt.but {K : PySem.W.Frag} {H H' : Hp} {x a : Addr} {n u : Int} {m : Nat} (h : RatAt K H x n u) (k : KeptBut a H H') (hp : PotAt H a m) : RatAt K H' x n u := h.keptT (KeptT.but k) hp
/-- what the written part says of the class -/
structure RatC (K : PySem.W.Frag) (mg : Str → Option Value) : Prop where
  m : mg "Ratio" = some (.ref (ratA K))
  cl : Cls K (ratA K)
  nN : NoAttr K (ratA K) "number"
  nU : NoAttr K (ratA K) "under"
  nT : NoAttr K (ratA K) "text"
  ha : PySem.W.findIn K (.ref (ratA K)) "__class__" = some (some (.builtin "object.__class__"))
  hn : PySem.W.specialIn K (.builtin "object.__class__") "__get__" = some (some (.builtin "getset_descriptor.__get__"))
  htk : PySem.W.takesIn K (.builtin "object.__class__") = some true
  hm : PySem.W.mroIn K (ratA K) (.type "object") = some true
  me : PySem.W.kitOne K (.ref (ratA K)) (.ref (ratA K)) = some true
  off : ∀ t ∈ (["int", "bool", "str"] : List String), PySem.W.kitOne K (.ref (ratA K)) (.type t) = some false
  un : ∀ t ∈ (["int", "bool", "str", "tuple", "list", "dict", "NoneType"] : List String), PySem.W.kitOne K (.type t) (.ref (ratA K)) = some false
  sub : ∀ t ∈ (["int", "bool", "str", "tuple", "list", "dict", "NoneType"] : List String), PySem.W.subIn K (.type t) (.ref (ratA K)) = some false
  first : PySem.W.selfFirst K (ratA K) = true
  ne : PySem.W.findIn K (.ref (ratA K)) "__ne__" = some (some (.builtin "object.__ne__"))
def ratB (K : PySem.W.Frag) : Bool := He.eqO (PySem.W.findIn K (.ref (ratA K)) "__class__") (some (some (.builtin "object.__class__"))) && (He.eqO (PySem.W.specialIn K (.builtin "object.__class__") "__get__") (some (some (.builtin "getset_descriptor.__get__"))) &&
  (decide (PySem.W.takesIn K (.builtin "object.__class__") = some true) && (decide (PySem.W.mroIn K (ratA K) (.type "object") = some true) && (decide (PySem.W.kitOne K (.ref (ratA K)) (.ref (ratA K)) = some true) &&
  ((["int", "bool", "str"] : List String).all (fun t => decide (PySem.W.kitOne K (.ref (ratA K)) (.type t) = some false)) && ((["int", "bool", "str", "tuple", "list", "dict", "NoneType"] : List String).all (fun t => decide (PySem.W.kitOne K (.type t) (.ref (ratA K)) = some false) && decide (PySem.W.subIn K (.type t) (.ref (ratA K)) = some false)) && (PySem.W.selfFirst K (ratA K) && He.eqO (PySem.W.findIn K (.ref (ratA K)) "__ne__") (some (some (.builtin "object.__ne__")))))))))) 
theorem ratB_ok {K : PySem.W.Frag} {mg : Str → Option Value} (h : ratB K = true) (m : mg "Ratio" = some (.ref (ratA K))) (cl : Cls K (ratA K)) (nN : NoAttr K (ratA K) "number") (nU : NoAttr K (ratA K) "under") (nT : NoAttr K (ratA K) "text") : RatC K mg := by
  obtain ⟨b1, h⟩ := He.ba h
  obtain ⟨b2, h⟩ := He.ba h
  obtain ⟨b3, h⟩ := He.ba h
  obtain ⟨b4, h⟩ := He.ba h
  obtain ⟨b5, h⟩ := He.ba h
  obtain ⟨b6, h⟩ := He.ba h
  obtain ⟨b7, h⟩ := He.ba h
  obtain ⟨b8, b9⟩ := He.ba h
  exact ⟨m, cl, nN, nU, nT, He.eqO_ok b1, He.eqO_ok b2, of_decide_eq_true b3, of_decide_eq_true b4, of_decide_eq_true b5, fun t ht => of_decide_eq_true (List.all_eq_true.mp b6 t ht), fun t ht => of_decide_eq_true (He.ba (List.all_eq_true.mp b7 t ht)).1, fun t ht => of_decide_eq_true (He.ba (List.all_eq_true.mp b7 t ht)).2, b8, He.eqO_ok b9⟩
theorem RatC.ty {K : PySem.W.Frag} {mg : Str → Option Value} {H : Hp} {x dx : Addr} {fs : List (Str × V)} (c : RatC K mg) (h : H x = some (.ins (ratA K) dx fs)) : TyX K H (.ref x) (.ref (ratA K)) := .base (.ins h c.cl c.ha c.hn c.htk c.hm)
theorem RatC.isaI {K : PySem.W.Frag} {mg : Str → Option Value} {H : Hp} {x : Addr} {n u : Int} (c : RatC K mg) (h : RatAt K H x n u) : IsaI K H (.ref x) := by
  obtain ⟨dx, h⟩ := h
  exact ⟨_, false, false, c.ty h, c.off "int" (by decide), c.off "bool" (by decide), rfl⟩

/-! ## What the ratios' own functions promise -/
def spFig : Sp := fun vs H Q _ => ∃ n : Int, vs = [.int n] ∧ Nb n ∧ ∀ H', Same H H' → Q (.str (ds n)) H'
def spRText : Sp := fun vs H Q _ => ∃ n u : Int, vs = [.int n, .int u] ∧ Nb n ∧ Nb u ∧ ∀ H', Same H H' → Q (.str (ratText n u)) H'
/-- an error of the class named x that keeps the pair (a, b) is wished -/
def Wish2 (K : PySem.W.Frag) (H : Hp) (E : XK) (x : Str) (a b : V) : Prop := ∀ d p H', Same H H' → H d = none → H p = none → H' p = some (.tup [a, b]) → H' d = some (.xd [("value", .ref p)]) → E (.ref (He.ga K x)) (some d) H'
theorem Wish2.same {K : PySem.W.Frag} {H H' : Hp} {E : XK} {x : Str} {a b : V} (h : Wish2 K H E x a b) (s : Same H H') : Wish2 K H' E x a b := fun d p H2 s2 n m e f => h d p H2 (s.trans s2) (s.free n) (s.free m) e f
/-- no terms of a ratio -/
def NoTerms (K : PySem.W.Frag) (H : Hp) (a b : V) : Prop := (∃ n : Int, a = .int n ∧ b = .int 0) ∨ (IsaI K H a ∧ wholeB a = false) ∨ ∃ n : Int, a = .int n ∧ IsaI K H b ∧ wholeB b = false
def spRInit (K : PySem.W.Frag) : Sp := fun vs H Q E => ∃ (x dx : Addr) (a b : V), vs = [.ref x, a, b] ∧ H x = some (.ins (ratA K) dx []) ∧
  ((∃ n u : Int, a = .int n ∧ b = .int u ∧ u ≠ 0 ∧ Nb n ∧ Nb u ∧ ∀ H', KeptBut x H H' → RatAt K H' x (rn n u) (ru n u) → Q .non H') ∨ (NoTerms K H a b ∧ Wish2 K H E "BadRatio" a b))
def spRRepr (K : PySem.W.Frag) : Sp := fun vs H Q _ => ∃ (x : Addr) (n u : Int), vs = [.ref x] ∧ RatAt K H x n u ∧ Nb n ∧ Nb u ∧ Q (.str (ratRepr n u)) H
def spREq (K : PySem.W.Frag) : Sp := fun vs H Q _ => ∃ (x : Addr) (v : V) (n u : Int), vs = [.ref x, v] ∧ RatAt K H x n u ∧
  ((∃ (y : Addr) (m w : Int), v = .ref y ∧ RatAt K H y m w ∧ Q (.bl (decide (n = m) && decide (u = w))) H) ∨ ((∃ t, TyX K H v t ∧ PySem.W.kitOne K t (.ref (ratA K)) = some false) ∧ Q (.bl false) H))
/-- a class that may be made, its __init__ may raise; its last parameters' defaults -/
structure MakD (P : Program) (w : World) (K : PySem.W.Frag) (mg : Str → Option Value) (base : Heap) (k : Nat) (x : Str) (C : Addr) (sp : Sp) (dvs : List V) : Prop where
  ex : ∃ (f : Addr) (fd : FuncData) (ps : List Str) (ds : List Value), Mk K C f ∧ FnOk P w K mg base (L2.CX P w) k f fd ps sp ∧ mg x = some (.ref C) ∧ Binds K fd ps ds ∧ Vals dvs ds
section
variable {X : Cx} {k j : Nat} {C : Addr} {x : Str} {sp : Sp} {p pos : Pos} {e : Expr} {es : List Expr} {t : TA} {E : XK} {dvs : List V}
theorem pe_mkD (c : MakD X.prog X.w X.K X.mg X.base k x C sp dvs) (hx : Passes (L2.CX X.prog X.w) X E) (hr : Room j X.A) (hk : k + 1 ≤ j) (hg : Gl X x) (ha : PA X (e :: es) t)
    (hdb : (x == ("__debug__" : Str)) = false := by decide) (he : starEach (e :: es) X.env = (false, eval e X.env) :: starEach es X.env := by rfl) (hpl : (backTo pos (starEach es X.env)).any (·.1) = false := by rfl) :
    PE X (.Call (.Name x p) (e :: es) [] pos) (tMake C sp dvs E t) := by
  obtain ⟨f, fd, ps, ds, M, F, hm, b, d⟩ := c.ex
  exact pe_make M F (hr.mono hk) hg hm b d hx ha hdb he hpl
end
/-- a def with defaults, as its callers see it -/
theorem calDD {P : Program} {w : World} {K : PySem.W.Frag} {mg : Str → Option Value} {base : Heap} {x : Str} {params : Arguments} {body : List Stmt} {scope : Scope} {f : Addr} {fd : FuncData} {N ps : List Str} {k : Nat} {sp : Sp} {dvs : List V}
    (F : FunD K x x params body scope dvs [] f fd) (hm : mg x = some (.ref f)) (S : FnScope N ps scope) (hd : dvs ≠ [])
    (b : ∀ (T : Addr) (kV doc pm : Value) (an : Option Addr) (cdv ct : Value) (us its : List Value), us.length = ps.length → its.length = dvs.length →
      ∃ k, bindArgs (PySem.W.fnOf x x params body scope (.ref T) kV doc pm an cdv ct) ⟨us, []⟩ = seqItems? (.ref T) >>= k ∧ k (some its.toArray) = pure (ps.zip (us ++ its.drop dvs.length)))
    (many : ∀ vs H Q E, sp vs H Q E → vs.length = ps.length)
    (walk : ∀ (cdv : Value) (A : Around) (outer : List Env) (s : Shared) (H : Hp) (vs : List V) (Q : VK) (E : XK), Room k (A.deeper (envOfC x scope s.heap.objs.size f cdv)) → sp vs H Q E →
      ∃ t, PSs (cxOf CX0 P w K mg base N x scope f cdv A outer s H E).nox body t ∧ t { nx := fun _ H' => Q .non H', rt := Q } (start N vs) H) : C8.Cal P w K mg base (k + 1) x sp [] := by
  obtain ⟨ds, v, bi⟩ := F.binds1 (ps := ps) ps.length dvs.length hd (by rw [Nat.sub_self, Nat.add_zero]) b
  rw [List.drop_length] at v
  cases v
  exact ⟨f, fd, ps, [], F.ok S many fun cdv A outer s H vs Q E hr h => let ⟨t, h1, h2⟩ := walk cdv A outer s H vs Q E hr h; ⟨t, PSs.nox h1, h2⟩, hm, F.kp, bi, .nil⟩
end Lm

namespace Lm
open PySem PySem.Spec PyProof.Rows L2
open CwR (tReplC pet_replC pst_ret psst_nil psst_one)
/-! ## f-strings one part of which wants a token -/
inductive PJT (X : Cx) : List Expr → List TE → Prop where
  | nil : PJT X [] []
  | cons {e : Expr} {t : TE} {es : List Expr} {ts : List TE} (h : PET X e t) (r : PJT X es ts) : PJT X (e :: es) (t :: ts)
theorem pjt_run {X : Cx} {pins : List (Addr × Obj)} {σ : L2.St} {es : List Expr} {ts : List TE} (h : PJT X es ts) : ∀ (acc : Str) (s : Shared) (H : Hp) (Q : Str → Hp → Prop) (R : Str → Shared → Prop), 1 ≤ s.toks → acc.length ≤ sizeLine → Inv X pins σ H s → tJs ts acc σ H Q →
    (∀ out s1 H1, out.length ≤ sizeLine → Inv X pins σ H1 s1 → Q out H1 → R out s1) → Joins (model X.prog X.w) X.A X.xe (evalEach es X.env) acc R s := by
  induction h with
  | nil =>
    intro acc s H Q R h1 hz I q k
    have e0 : evalEach [] X.env = [] := by first | rfl | simp [evalEach]
    rw [e0]
    exact k acc s H hz I q
  | @cons e t es ts he r ih =>
    intro acc s H Q R h1 hz I q k
    have e0 : evalEach (e :: es) X.env = eval e X.env :: evalEach es X.env := by first | rfl | simp [evalEach]
    rw [e0]
    refine wpAny_mono (PySem.wpAny_toks (he pins s σ H _ h1 I q)) (fun v s1 hv => ?_) fun _ _ z => z.2
    obtain ⟨hk, x, H1, I1, r1, y, rfl, hy, q1⟩ := hv
    obtain ⟨tk, rfl⟩ := r1
    exact ⟨y, tk, rfl, hy, ih (acc ++ y) s1 H1 Q R (Nat.le_trans h1 hk) hy I1 q1 k⟩
section
variable {X : Cx} {e v1 v2 : Expr} {rest : List Expr} {te : TE} {ts : List TE} {pos : Pos}
def tJoined (ts : List TE) : TE := fun σ H Q => tJs ts Str.empty σ H fun out H1 => Q (.str out) H1
theorem pet_joined (h : PJT X (v1 :: v2 :: rest) ts) : PET X (.JoinedStr (v1 :: v2 :: rest) pos) (tJoined ts) := fun pins s σ H Q h0 I q =>
  wpAny_JoinedStr (pjt_run h Str.empty s H (fun out H1 => Q (.str out) H1) _ h0 (Nat.zero_le _) I q fun out s1 H1 hz I1 q1 => ⟨hz, .str out, H1, I1.tok _, ⟨_, rfl⟩, q1⟩)
def tFmtS (te : TE) : TE := fun σ H Q => te σ H fun x H1 => ∃ y : Str, x = .str y ∧ y.length ≤ sizeLine ∧ Q (.str y) H1
theorem pet_fmtS (he : PET X e te) : PET X (.FormattedValue e (-1) none pos) (tFmtS te) := by
  intro pins s σ H Q h0 I h
  refine wpAny_FormattedValue_plain (wpAny_mono (he pins s σ H _ h0 I h) (fun v s1 hv => ?_) fun _ _ z => z)
  obtain ⟨x, H1, I1, r1, y, rfl, hz, q⟩ := hv
  obtain ⟨t, rfl⟩ := r1
  exact wpAny_formatField_str ⟨.str y, H1, I1, ⟨t, rfl⟩, q⟩ ⟨.str y, H1, I1.tok _, ⟨_, rfl⟩, q⟩ hz
theorem pet_str {x : Str} {k : Nat} {p : Pos} : PET X (.Constant (.str x) k p) (tC (.str x)) := CwR.PET.of pe_str
end
section
variable {P : Program} {w : World} {K : PySem.W.Frag} {mg : Str → Option Value} {base : Heap} {x qual : Str} {params : Arguments} {body : List Stmt} {scope : Scope} {dvs : List V} {kws : List (Str × V)} {f : Addr} {fd : FuncData}
/-- a def at whose beginning a token is out -/
theorem okT {CX : CXT} {N ps : List Str} {k : Nat} {sp : Sp} (F : FunD K x qual params body scope dvs kws f fd) (S : FnScope N ps scope) (hnc : ∀ y ∈ scope.names, y.2 ≠ .cell) (hps : 1 ≤ ps.length) (len : ∀ vs H Q E, sp vs H Q E → vs.length = ps.length)
    (hbody : ∀ (cdv : Value) (A : Around) (outer : List Env) (s : Shared) (H : Hp) (vs : List V) (Q : VK) (E : XK), Room k (A.deeper (envOfC qual scope s.heap.objs.size f cdv)) → sp vs H Q E →
      ∃ t, PSsT (cxOf CX P w K mg base N qual scope f cdv A outer s H E) body t ∧ t { nx := fun _ H' => Q .non H', rt := Q } (start N vs) H) : FnOk P w K mg base CX (k + 1) f fd ps sp := by
  obtain ⟨oc, od, dV, kV, doc, pm, an, cdv, ct, osl, rfl, lk, hcd, _, _⟩ := F.ex
  exact fn_ofT lk hcd S hnc hps len fun A outer s H vs Q E hr hsp => hbody cdv A outer s H vs Q E hr hsp
end
theorem calR_or {X : Cx} {f : Value} {r r' : List V → Hp → VK → Prop} (h : CallR X f r) (h' : CallR X f r') : CallR X f (fun xs H Q => r xs H Q ∨ r' xs H Q) := fun pins s σ H xs us Q I rx q => q.elim (h pins s σ H xs us Q I rx) (h' pins s σ H xs us Q I rx)
end Lm

namespace Lm
open PySem PySem.Spec PyProof.Rows L2
open LamX (CodeO TabS Tabs ExtN TabB)
/-! ## The head of a program with imports: what its top leaves of sys.modules is looked at, too -/
def strK (v : Value) : Bool := match v with
  | .str _ _ => true
  | _ => false
def modsB (g : Addr → Option Obj) : Bool := match g sysModules with
  | some o => (match o.data with
    | .dict es _ => es.toList.all fun e => strK e.key
    | _ => false)
  | none => false
theorem modsB_ok {h : Heap} (x : modsB h.get? = true) : ∃ mm, h.Ns sysModules mm := by
  unfold modsB at x
  cases e : h.get? sysModules with
  | none =>
    rw [e] at x
    cases x
  | some o =>
    rw [e] at x
    have x : (match o.data with
      | .dict es _ => es.toList.all fun e => strK e.key
      | _ => false) = true := x
    cases d : o.data with
    | dict es ep =>
      rw [d] at x
      have x : (es.toList.all fun e => strK e.key) = true := x
      refine ⟨nsFind es, o, es, ep, e, d, fun en hen => ?_, fun _ => rfl⟩
      have y := List.all_eq_true.mp x en (Array.mem_toList_iff.mpr hen)
      unfold strK at y
      split at y
      · rename_i a b z
        exact ⟨_, _, z⟩
      · cases y
    | _ =>
      rw [d] at x
      cases x
def hookM (n : Nat) (fa : List He.Fa) (fn : List He.DefD) (ts : List He.Tab) (tf : List He.Defn) (ex : PySem.W.Frag → Bool) : PySem.W.Hook where
  α := He.AlX × Bool
  obs := fun s => ((He.hookX n fa fn ts tf ex).obs s, modsB s.heap.get?)
  val := fun w => ((He.hookX n fa fn ts tf ex).val w, true)
  says := fun w h => (He.hookX n fa fn ts tf ex).says w h ∧ ∃ mm, h.Ns sysModules mm
  of := fun w s e => ⟨(He.hookX n fa fn ts tf ex).of w s (congrArg (fun z : He.AlX × Bool => z.1) e), modsB_ok (congrArg (fun z : He.AlX × Bool => z.2) e)⟩
  keeps := fun w h h' ⟨a, mm, b⟩ k => ⟨(He.hookX n fa fn ts tf ex).keeps w h h' a k, mm, b.keepsP k⟩
theorem walkTI {l : PySem.W.OpenLaw} {n k : Nat} {q : Program} {loose : List Str} {XP : (Str → Option Value) → Heap → Prop} {YP : World → Heap → Prop} {d : DefRec} {x : Str}
    (hn : l.most = some n) (hn2 : n ≤ sizeLine) (hdf : d.params.defaults = []) (hr : Room k callerA) (hmo : ∀ w h, YP w h → ∃ mm, h.Ns sysModules mm)
    (F : ∀ (w : World) (mg : Str → Option Value) (fa : Addr) (h : Heap), YP w h → h.Ns mainGlobals mg → mg d.name = some (.ref fa) →
      ∃ (K : PySem.W.Frag) (fd : FuncData) (cs : List (Addr × Addr)) (sp : Sp), K.In h ∧ (∀ p ∈ cs, h.get? p.2 = some { cls := .none, data := .fields #[] }) ∧ (∀ p ∈ cs, K.lookup p.2 = none) ∧ (∀ p ∈ cs, PySem.W.CodeHd h p.1 p.2) ∧ (∀ (s : Shared) (u : Value), BindsTo s fd ⟨[u], []⟩ [(x, u)]) ∧
        (∀ (H : Hp) (a : Addr) (ns : List Int), ns.length ≤ n → (∀ p ∈ cs, H p.2 = some (.tbl #[])) → ScL K H a (ns.map V.int) → sp [.ref a] H (fun v _ => v = .bl true) C8.E0) ∧
        ∀ base : Heap, LawHeap K mg base → (∀ p ∈ cs, TabB base mg p.1 p.2) → FnG l.prog w K mg base CX0 k fa fd [x] sp) :
    PySem.W.WalkO q loose XP YP l.row.toRowW d [] (fun f vs => PySem.call f vs) := by
  refine Att.attach_call hn hdf fun w s₀ s₁ mg mb fa o pm cd doc a vs ns G Y ho hd hcd hmg hobj hints hlen hg => ?_
  obtain ⟨K, fd, cs, sp, KX, hT, nT, hC, hb, hsp, hF⟩ := F w mg fa _ Y G.T.g hmg
  exact lawT_call KX G.T.g G.T.b G.T.builtins G.T.nolimit (hmo _ _ Y) G.T.nodigits hg hT nT hC G.T.bmain hobj hints (Nat.le_trans hlen hn2) hr hF hb fun H hH hS => hsp H a ns hlen hH hS
end Lm

namespace PySem.W
open PySem PySem.Calls PyProof.Rows
section
open SeqAt
variable {i : Int} {t : Tok} {x C : Addr} {dx : Addr}
/-- a built-in says that it does not know such an operand -/
abbrev NoWay (B : Builtin) (i : Int) (t : Tok) (x C dx : Addr) : Prop := Meets (B ⟨[.int i t, .ref x], []⟩) (fun _ R s => s.heap.get? x = some (instObj C dx) ∧ R (.ok (.ret .notImplemented)) s)
theorem lm_add_ref : NoWay Builtin.«int.__add__» i t x C dx := .of_wp fun prog w A R s h => by
  obtain ⟨hp, g, d, tk, os⟩ := s
  obtain ⟨hl, h⟩ := h
  wp_walk using wpAny_loadPart' hl
  exact ⟨_, rfl, h⟩
theorem lm_sub_ref : NoWay Builtin.«int.__sub__» i t x C dx := .of_wp fun prog w A R s h => by
  obtain ⟨hp, g, d, tk, os⟩ := s
  obtain ⟨hl, h⟩ := h
  wp_walk using wpAny_loadPart' hl
  exact ⟨_, rfl, h⟩
theorem lm_mul_ref : NoWay Builtin.«int.__mul__» i t x C dx := .of_wp fun prog w A R s h => by
  obtain ⟨hp, g, d, tk, os⟩ := s
  obtain ⟨hl, h⟩ := h
  wp_walk using wpAny_loadPart' hl
  exact ⟨_, rfl, h⟩
theorem lm_lt_ref : NoWay Builtin.«int.__lt__» i t x C dx := .of_wp fun prog w A R s h => by
  obtain ⟨hp, g, d, tk, os⟩ := s
  obtain ⟨hl, h⟩ := h
  wp_walk using wpAny_loadPart' hl
  exact ⟨_, rfl, h⟩
theorem lm_le_ref : NoWay Builtin.«int.__le__» i t x C dx := .of_wp fun prog w A R s h => by
  obtain ⟨hp, g, d, tk, os⟩ := s
  obtain ⟨hl, h⟩ := h
  wp_walk using wpAny_loadPart' hl
  exact ⟨_, rfl, h⟩
theorem lm_gt_ref : NoWay Builtin.«int.__gt__» i t x C dx := .of_wp fun prog w A R s h => by
  obtain ⟨hp, g, d, tk, os⟩ := s
  obtain ⟨hl, h⟩ := h
  wp_walk using wpAny_loadPart' hl
  exact ⟨_, rfl, h⟩
theorem lm_ge_ref : NoWay Builtin.«int.__ge__» i t x C dx := .of_wp fun prog w A R s h => by
  obtain ⟨hp, g, d, tk, os⟩ := s
  obtain ⟨hl, h⟩ := h
  wp_walk using wpAny_loadPart' hl
  exact ⟨_, rfl, h⟩
end
section
variable {prog : Program} {w : World} {A : Around} {E : Value → Shared → Prop} {s : Shared} {K : Frag} {x C f g L : Addr} {h₀ : Heap} {m : Str → Option Value} {od : Option Obj} {dx : Addr} {i : Int} {t : Tok}
/-- what the facts of int's operator say of one -/
structure IntOp (nm : String) (id : String) (B : Builtin) : Prop where
  fills : fillsNumberSlot (.type "int") nm = pure true
  slot : Slot "int" (PySem.dunder nm) id
  entry : entryFor table id = some B
  args : ∀ a b : Value, argsOk id ⟨[a, b], []⟩
theorem intop_add : IntOp "add" "int.__add__" Builtin.«int.__add__» := ⟨F.fills_int_add, F.slot_int_add, F.entry_int_add, F.args_int_add_2⟩
theorem intop_sub : IntOp "sub" "int.__sub__" Builtin.«int.__sub__» := ⟨F.fills_int_sub, F.slot_int_sub, F.entry_int_sub, F.args_int_sub_2⟩
theorem intop_mul : IntOp "mul" "int.__mul__" Builtin.«int.__mul__» := ⟨F.fills_int_mul, F.slot_int_mul, F.entry_int_mul, F.args_int_mul_2⟩
theorem lm_noway {nm id : String} {B : Builtin} {Q : Option Value → Shared → Prop} (o : IntOp nm id B) (N : NoWay B i t x C dx) (hx : s.heap.get? x = some (instObj C dx)) (h : Q none s) : wpAny (model prog w) A (tryMethod (.int i t) (PySem.dunder nm) (.ref x)) Q E s := by
  unfold tryMethod
  refine wpAny_bind (wpAny_callSpecial?_slot (typeIs_int s i t) o.slot ?_)
  exact call_meets o.slot (typeIs_int s i t) o.entry (o.args _ _) N ⟨hx, wpAny_pure h⟩
/-- i op x, x of an own class that has the reflected operator -/
theorem lm_rbin {op : Operator} {id : String} {B : Builtin} {Q : Value → Shared → Prop} (X : K.In s.heap) (I : InstAt s.heap x (instObj C dx) C od) (hx : s.heap.get? x = some (instObj C dx)) (o : IntOp op.info.2 id B) (N : NoWay B i t x C dx) (hc : selfFirst K C = true)
    (hs : findIn K (.ref C) (PySem.dunder op.info.2) = some (some (.ref g))) (hr : findIn K (.ref C) (dunderR op.info.2) = some (some (.ref f))) (hf : isFn K (.ref f) = true) (hsub : subIn K (.ref C) (.type "int") = some false)
    (h : wpAny (model prog w) A (call (.ref f) [.ref x, .int i t]) (CmpBack Q) E s) : wpAny (model prog w) A (binaryOp op (.int i t) (.ref x)) Q E s := by
  obtain ⟨cd, rest, hcd, hm⟩ := ksp_first hc
  rcases hi : op.info with ⟨sym, nm'⟩
  rw [hi] at hs hr o
  dsimp only at hs hr o
  have one := ksp_try X I hr hf h
  have no : ∀ {Q' : Option Value → Shared → Prop}, Q' none s → wpAny (model prog w) A (tryMethod (.int i t) (PySem.dunder nm') (.ref x)) Q' E s := fun {Q'} q => lm_noway o N hx q
  obtain ⟨hh, gg, d, tt, os⟩ := s
  have L1 : Looks (model prog w) hh (typeOf (.int i t)) (.type "int") := Looks.of_pure rfl
  have L2 : Looks (model prog w) hh (typeOf (.ref x)) (.ref C) := I.type
  have L3 : Looks (model prog w) hh (fillsNumberSlot (.type "int") nm') true := Looks.of_pure o.fills
  have L4 : Looks (model prog w) hh (fillsNumberSlot (.ref C) nm') true := fills_K X hcd hm hs
  have L5 : Looks (model prog w) hh (isSubtype (.ref C) (.type "int")) false := looks_subIn X hsub
  have L7 : Looks (model prog w) hh (numberSlotInPython (.type "int") nm') false := Looks.of_pure rfl
  have hne : (Value.type "int" == Value.ref C) = false := Bool.eq_false_iff.mpr fun q => by cases beq_iff_eq.mp q
  simp only [binaryOp, hi]
  refine wpAny_holding (wpAny_bind ?_)
  unfold binaryOp1
  refine wpAny_bind (L1.at (wpAny_bind (L2.at (wpAny_bind (L3.at ?_)))))
  simp only [hne, Bool.false_eq_true, if_false]
  ksp_lk
  refine no ?_
  ksp_lk
  refine wpAny_mono one (fun r s' hr' => ?_) fun _ _ e => e
  obtain ⟨v, rfl, hq⟩ := hr'
  ksp_lk
  exact hq
structure IntCmp (op : CmpOp) (id : String) (B : Builtin) : Prop where
  slot : Slot "int" (cmpInfo op).2.1 id
  entry : entryFor table id = some B
  args : ∀ a b : Value, argsOk id ⟨[a, b], []⟩
theorem intcmp_lt : IntCmp .Lt "int.__lt__" Builtin.«int.__lt__» := ⟨F.slot_int_lt, F.entry_int_lt, F.args_int_lt_2⟩
theorem intcmp_le : IntCmp .LtE "int.__le__" Builtin.«int.__le__» := ⟨F.slot_int_le, F.entry_int_le, F.args_int_le_2⟩
theorem intcmp_gt : IntCmp .Gt "int.__gt__" Builtin.«int.__gt__» := ⟨F.slot_int_gt, F.entry_int_gt, F.args_int_gt_2⟩
theorem intcmp_ge : IntCmp .GtE "int.__ge__" Builtin.«int.__ge__» := ⟨F.slot_int_ge, F.entry_int_ge, F.args_int_ge_2⟩
/-- i op x of order, x of an own class that has the reflected one -/
theorem lm_rcmp {op : CmpOp} {id : String} {B : Builtin} {Q : Value → Shared → Prop} (hu : A.units < cLine) (X : K.In s.heap) (I : InstAt s.heap x (instObj C dx) C od) (hx : s.heap.get? x = some (instObj C dx)) (o : IntCmp op id B) (N : NoWay B i t x C dx)
    (hr : findIn K (.ref C) (cmpInfo op).2.2 = some (some (.ref f))) (hf : isFn K (.ref f) = true) (hsub : subIn K (.ref C) (.type "int") = some false)
    (h : wpAny (model prog w) A (call (.ref f) [.ref x, .int i t]) (CmpBack Q) E s) : wpAny (model prog w) A (richCompare op (.int i t) (.ref x)) Q E s := by
  have one : wpAny (model prog w) A (tryCompare (.ref x) (cmpInfo op).2.2 (.int i t)) (fun r s' => ∃ v, r = some v ∧ Q v s') E s := by
    unfold tryCompare
    refine wpAny_bind (ifBound_K X I hr hf (wpAny_mono h (fun v s' hv => ?_) fun _ _ e => e))
    cases v <;> first | exact hv.elim | exact wpAny_pure ⟨_, rfl, hv⟩
  have no : ∀ {Q' : Option Value → Shared → Prop}, Q' none s → wpAny (model prog w) A (tryCompare (.int i t) (cmpInfo op).2.1 (.ref x)) Q' E s := fun {Q'} q => by
    unfold tryCompare
    refine wpAny_bind (wpAny_callSpecialIfBound?_slot (typeIs_int s i t) o.slot ?_)
    exact call_meets o.slot (typeIs_int s i t) o.entry (o.args _ _) N ⟨hx, wpAny_pure q⟩
  have oneThing : oneThing? op (.int i t) (.ref x) = none := by first | rfl | simp [oneThing?]
  unfold richCompare
  refine wpAny_holding (wpAny_bind (wpAny_cRoomFor hu ?_))
  rw [oneThing]
  refine wpAny_bind ((Looks.of_pure (M := model prog w) (h := s.heap) (t := typeOf (.int i t)) (r := .type "int") rfl).here (wpAny_bind (I.type.here ?_)))
  have hne : (Value.type "int" != Value.ref C) = true := by
    have : (Value.type "int" == Value.ref C) = false := Bool.eq_false_iff.mpr fun q => by cases beq_iff_eq.mp q
    simp [bne, this]
  simp only [hne, if_true]
  refine wpAny_bind ((looks_subIn X hsub).here ?_)
  simp only [Bool.false_eq_true, if_false]
  refine wpAny_bind (no ?_)
  simp only [Bool.not_false, if_true]
  refine wpAny_bind (wpAny_mono one (fun r s' z => ?_) fun _ _ e => e)
  obtain ⟨v, rfl, hq⟩ := z
  exact wpAny_pure hq
end
end PySem.W
namespace Lm
open PySem PySem.Spec PyProof.Rows L2
/-- an operator of an own class, from both sides, beside int -/
structure ROp (K : PySem.W.Frag) (C : Addr) (nm : String) (f r : Addr) : Prop where
  fwd : PySem.W.findIn K (.ref C) (PySem.dunder nm) = some (some (.ref f))
  ff : PySem.W.isFn K (.ref f) = true
  bwd : PySem.W.findIn K (.ref C) (PySem.dunderR nm) = some (some (.ref r))
  rf : PySem.W.isFn K (.ref r) = true
  i1 : ∃ fo, PySem.W.findIn K (.type "int") (PySem.dunder nm) = some fo
  i2 : ∃ ro, PySem.W.findIn K (.type "int") (PySem.dunderR nm) = some ro
  s1 : PySem.W.subIn K (.type "int") (.ref C) = some false
  s2 : PySem.W.subIn K (.ref C) (.type "int") = some false
  first : PySem.W.selfFirst K C = true
def ropB (K : PySem.W.Frag) (nm : String) : Bool := (PySem.W.findIn K (.type "int") (PySem.dunder nm)).isSome && (PySem.W.findIn K (.type "int") (PySem.dunderR nm)).isSome
/-- x op i, i an int -/
def rOwnI (C : Addr) (sp : Sp) (E : XK) : R2 := fun x y H Q => ∃ a dx fs i, x = .ref a ∧ y = .int i ∧ H a = some (.ins C dx fs) ∧ sp [.ref a, .int i] H Q E
/-- i op x -/
def rIOwn (C : Addr) (sp : Sp) (E : XK) : R2 := fun x y H Q => ∃ a dx fs i, y = .ref a ∧ x = .int i ∧ H a = some (.ins C dx fs) ∧ sp [.ref a, .int i] H Q E
section
variable {X : Cx} {CX : CXT} {k : Nat} {C f r : Addr} {fd : FuncData} {ps : List Str} {sp : Sp} {E : XK}
theorem back_call {pins : List (Addr × Obj)} {s : Shared} {σ : L2.St} {H : Hp} {vs : List V} {us : List Value} {Q : VK} (F : FnOk X.prog X.w X.K X.mg X.base CX k f fd ps sp) (hr : Room k X.A) (hb : Binds X.K fd ps []) (hx : Passes CX X E) (I : Inv X pins σ H s) (rv : Vals vs us) (q : sp vs H Q E) :
    wpAny (model X.prog X.w) X.A (call (.ref f) us) (PySem.W.CmpBack (EP X pins σ Q)) X.xe s :=
  thn (run_fn F hr hb .nil hx I rv (by rw [List.append_nil]; exact q)) fun u s' h => by
    obtain ⟨v, H', I', r, q'⟩ := h
    exact back_of r ⟨v, H', I', r, q'⟩
theorem op_ownI {op : Operator} (D : ROp X.K C op.info.2 f r) (F : FnOk X.prog X.w X.K X.mg X.base CX k f fd ps sp) (hr : Room k X.A) (hb : Binds X.K fd ps []) (hx : Passes CX X E) : OpR X (binaryOp op) (rOwnI C sp E) := by
  intro pins s σ H x y v u Q I rx ry h
  obtain ⟨a, dx, fs, i, rfl, rfl, ha, q⟩ := h
  cases rx
  obtain ⟨t, rfl⟩ := ry
  obtain ⟨mA, J, _⟩ := ins_get I.hok ha
  obtain ⟨od, J, _⟩ := J.look
  obtain ⟨mm, hF⟩ := I.fr
  obtain ⟨fo, h1⟩ := D.i1
  obtain ⟨ro, h2⟩ := D.i2
  exact PySem.W.ksp_binT hF I.ok.mod.kin J (T := "int") rfl D.first D.fwd D.ff D.bwd (.inr ⟨r, rfl⟩) h1 h2 D.s1 (back_call (vs := [.ref a, .int i]) F hr hb hx I (.cons rfl (.cons ⟨t, rfl⟩ .nil)) q)
theorem op_iown {op : Operator} {id : String} {B : Builtin} (D : ROp X.K C op.info.2 f r) (o : PySem.W.IntOp op.info.2 id B) (N : ∀ i t x dx, PySem.W.NoWay B i t x C dx) (F : FnOk X.prog X.w X.K X.mg X.base CX k r fd ps sp) (hr : Room k X.A) (hb : Binds X.K fd ps []) (hx : Passes CX X E) : OpR X (binaryOp op) (rIOwn C sp E) := by
  intro pins s σ H x y v u Q I rx ry h
  obtain ⟨a, dx, fs, i, rfl, rfl, ha, q⟩ := h
  cases ry
  obtain ⟨t, rfl⟩ := rx
  obtain ⟨mA, J0, _⟩ := ins_get I.hok ha
  obtain ⟨od, J, _⟩ := J0.look
  exact PySem.W.lm_rbin I.kIn J J0.obj o (N i t a dx) D.first D.fwd D.bwd D.rf D.s2 (back_call (vs := [.ref a, .int i]) F hr hb hx I (.cons rfl (.cons ⟨t, rfl⟩ .nil)) q)
/-- a comparison of order of an own class -/
structure RCmp (K : PySem.W.Frag) (C : Addr) (op : CmpOp) (f : Addr) : Prop where
  fwd : PySem.W.findIn K (.ref C) (cmpInfo op).2.1 = some (some (.ref f))
  ff : PySem.W.isFn K (.ref f) = true
  s1 : PySem.W.subIn K (.type "int") (.ref C) = some false
theorem op_cmpO {op : CmpOp} (hop : ∀ a b, compareOp op a b = richCompare op a b) (D : RCmp X.K C op f) (F : FnOk X.prog X.w X.K X.mg X.base CX k f fd ps sp) (hr : Room k X.A) (hb : Binds X.K fd ps []) (hx : Passes CX X E) : OpR X (compareOp op) (rOwn C sp E) := by
  intro pins s σ H x y v u Q I rx ry h
  obtain ⟨a, b, dx, dy, fs, gs, rfl, rfl, ha, hb', q⟩ := h
  cases rx
  cases ry
  obtain ⟨mA, J, _⟩ := ins_get I.hok ha
  obtain ⟨mB, J', _⟩ := ins_get I.hok hb'
  obtain ⟨od, J, _⟩ := J.look
  obtain ⟨od', J', _⟩ := J'.look
  obtain ⟨m, hF⟩ := I.fr
  rw [hop]
  exact PySem.W.cmp_K (op := op) (tb := .ref C) hr.units0 hF I.ok.mod.kin J J'.type (by simp [PySem.W.notFirst]) D.fwd D.ff (back_call (vs := [.ref a, .ref b]) F hr hb hx I (.cons rfl (.cons rfl .nil)) q)
theorem op_cmpOI {op : CmpOp} (hop : ∀ a b, compareOp op a b = richCompare op a b) (D : RCmp X.K C op f) (F : FnOk X.prog X.w X.K X.mg X.base CX k f fd ps sp) (hr : Room k X.A) (hb : Binds X.K fd ps []) (hx : Passes CX X E) : OpR X (compareOp op) (rOwnI C sp E) := by
  intro pins s σ H x y v u Q I rx ry h
  obtain ⟨a, dx, fs, i, rfl, rfl, ha, q⟩ := h
  cases rx
  obtain ⟨t, rfl⟩ := ry
  obtain ⟨mA, J, _⟩ := ins_get I.hok ha
  obtain ⟨od, J, _⟩ := J.look
  obtain ⟨m, hF⟩ := I.fr
  rw [hop]
  exact PySem.W.cmp_K (op := op) (tb := .type "int") hr.units0 hF I.ok.mod.kin J (.of_pure rfl) (by unfold PySem.W.notFirst; rw [D.s1]; simp) D.fwd D.ff (back_call (vs := [.ref a, .int i]) F hr hb hx I (.cons rfl (.cons ⟨t, rfl⟩ .nil)) q)
/-- i op x: the reflected comparison of x -/
theorem op_cmpIO {op : CmpOp} {id : String} {B : Builtin} (hop : ∀ a b, compareOp op a b = richCompare op a b) (o : PySem.W.IntCmp op id B) (N : ∀ i t x dx, PySem.W.NoWay B i t x C dx) (h1 : PySem.W.findIn X.K (.ref C) (cmpInfo op).2.2 = some (some (.ref f))) (h2 : PySem.W.isFn X.K (.ref f) = true)
    (h3 : PySem.W.subIn X.K (.ref C) (.type "int") = some false) (F : FnOk X.prog X.w X.K X.mg X.base CX k f fd ps sp) (hr : Room k X.A) (hb : Binds X.K fd ps []) (hx : Passes CX X E) : OpR X (compareOp op) (rIOwn C sp E) := by
  intro pins s σ H x y v u Q I rx ry h
  obtain ⟨a, dx, fs, i, rfl, rfl, ha, q⟩ := h
  cases ry
  obtain ⟨t, rfl⟩ := rx
  obtain ⟨mA, J0, _⟩ := ins_get I.hok ha
  obtain ⟨od, J, _⟩ := J0.look
  rw [hop]
  exact PySem.W.lm_rcmp hr.units0 I.kIn J J0.obj o (N i t a dx) h1 h2 h3 (back_call (vs := [.ref a, .int i]) F hr hb hx I (.cons rfl (.cons ⟨t, rfl⟩ .nil)) q)
/-- -x -/
def tNegO (C : Addr) (sp : Sp) (E : XK) (te : TE) : TE := fun σ H Q => te σ H fun x H1 => ∃ a dx fs, x = .ref a ∧ H1 a = some (.ins C dx fs) ∧ sp [.ref a] H1 Q E
theorem un_negO (h1 : PySem.W.findIn X.K (.ref C) "__neg__" = some (some (.ref f))) (h2 : PySem.W.isFn X.K (.ref f) = true) (F : FnOk X.prog X.w X.K X.mg X.base CX k f fd ps sp) (hr : Room k X.A) (hb : Binds X.K fd ps []) (hx : Passes CX X E) :
    UnR X (unaryOp .USub) (fun x H Q => ∃ a dx fs, x = .ref a ∧ H a = some (.ins C dx fs) ∧ sp [.ref a] H Q E) := by
  intro pins s σ H x v Q I rx h
  obtain ⟨a, dx, fs, rfl, ha, q⟩ := h
  cases rx
  obtain ⟨mA, J, _⟩ := ins_get I.hok ha
  obtain ⟨od, J, _⟩ := J.look
  obtain ⟨m, hF⟩ := I.fr
  refine PySem.W.ksp_neg hF I.ok.mod.kin J h1 h2 ?_
  refine thn (run_fn (us := [.ref a]) (vs := [.ref a]) F hr hb .nil hx I (.cons rfl .nil) (by rw [List.append_nil]; exact q)) fun u s' h => h
end
end Lm

namespace Lm
open PySem PySem.Spec PyProof.Rows L2
/-! ## Texts of great numbers -/
abbrev Dg (h : Heap) : Prop := ∃ mc, h.Ns cStatics mc ∧ mc "sys.int_max_str_digits" = none
section
variable {prog : Program} {w : World} {A : Around} {E : Value → Shared → Prop} {s : Shared} {a : Int} {t : Tok}
theorem digits_ok {M : Model} {Q : Option Nat → Shared → Prop} (nb : Nb a) (hd : Dg s.heap) (h : Q none s) : wpAny M A (Builtin.overDigitLimit? a) Q E s := by
  have l := nb.log
  unfold Builtin.overDigitLimit?
  by_cases c : a.natAbs.log2 < 1920
  · rw [if_pos c]
    exact wpAny_pure h
  · rw [if_neg c]
    obtain ⟨mc, h1, h2⟩ := hd
    unfold Builtin.intMaxStrDigits
    refine wpAny_bind (wpAny_bind (wpAny_nsGet h1 ?_))
    rw [h2]
    refine wpAny_pure ?_
    dsimp only
    rw [if_neg (by omega)]
    have e : (((4300 : Nat) == 0) || decide (a.natAbs.log2 < 3 * 4300)) = true := by
      rw [decide_eq_true (show a.natAbs.log2 < 3 * 4300 by omega)]
      rfl
    rw [if_pos e]
    exact wpAny_pure h
theorem meets_int_repr (nb : Nb a) : Meets (Builtin.«int.__repr__» ⟨[.int a t], []⟩) (fun _ R s => Dg s.heap ∧ R (.ok (.ret (.str (ds a) s.toks))) { s with toks := s.toks + 1 }) := .of_wp fun prog w A R s h => by
  obtain ⟨hd, h⟩ := h
  have fit : (ds a).length ≤ sizeLine := by
    have := ds_len nb
    rw [sizeLine_eq]
    omega
  unfold Builtin.«int.__repr__»
  show wpAny _ _ (do let r ← Builtin.overDigitLimit? a; _) _ _ _
  refine wpAny_bind (digits_ok nb hd ?_)
  exact wpAny_bind (wpAny_mkStr (wpAny_pure ⟨_, rfl, h⟩) fit)
theorem reprObj_big {Q : Value → Shared → Prop} (nb : Nb a) (hd : Dg s.heap) (h : Q (.str (ds a) s.toks) { s with toks := s.toks + 1 }) : wpAny (model prog w) A (pyReprObj (.int a t)) Q E s := by
  have hv : [Value.int a t].any Value.onHeap = false := rfl
  unfold pyReprObj
  simp only [cRoomFor, hv, Bool.false_eq_true, if_false, pure_bind]
  refine wpAny_bind (wpAny_specialOf (name := Str.ofString "__repr__") (typeIs_int s a t) PySem.F.slot_int_repr.lookup ?_)
  refine wpAny_bind (m := callSpecialIfBound? (.int a t) (Str.ofString "__repr__")) (wpAny_callSpecialIfBound?_slot (name := Str.ofString "__repr__") (typeIs_int s a t) PySem.F.slot_int_repr (call_meets PySem.F.slot_int_repr (typeIs_int s a t) PySem.F.entry_int_repr (PySem.F.args_int_repr_1 _) (meets_int_repr nb) ⟨hd, ?_⟩))
  exact wpAny_bind (wpAny_isInstance (T := "str") (b := true) rfl isSubtype_str_str (wpAny_pure h))
theorem reprUnder_big {b : Nat} {Q : Str → Shared → Prop} (hb : b ≤ sizeLine) (nb : Nb a) (hd : Dg s.heap) (h : Q (ds a) { s with toks := s.toks + 1 }) : wpAny (model prog w) A (pyReprUnder b (.int a t)) Q E s := by
  rw [pyReprUnder_leaf (v := .int a t) hb (fun _ e => nomatch e)]
  unfold pyRepr
  exact wpAny_bind (reprObj_big nb hd (wpAny_pure h))
end
/-- repr of a tuple of numbers -/
def rReprN : List V → Hp → VK → Prop := fun xs H Q => ∃ (p : Addr) (ns : List Int), xs = [.ref p] ∧ H p = some (.tup (ns.map V.int)) ∧ ns.length ≤ 1000 ∧ (∀ n ∈ ns, Nb n) ∧ Q (.str (tupleText (ns.map ds))) H
section
variable {X : Cx}
theorem ints_run {pins : List (Addr × Obj)} {σ : L2.St} {H : Hp} (hd : Dg X.base) {A : Around} : ∀ (us : List Value) (ns : List Int) (acc : List Str) (n : Nat) (s : Shared) (Q : (Array Str × Nat) → Shared → Prop), Vals (ns.map V.int) us → (∀ n ∈ ns, Nb n) → Inv X pins σ H s → n + ns.length * 10002 + 10002 ≤ sizeLine →
    (∀ s' n', Inv X pins σ H s' → Q ⟨(acc ++ ns.map ds).toArray, n'⟩ s') → wpAny (model X.prog X.w) A (forIn us (⟨acc.toArray, n⟩ : (Array Str × Nat)) tupBody) Q X.xe s := by
  intro us
  induction us with
  | nil =>
    intro ns acc n s Q r nb I hn q
    cases ns with
    | nil =>
      rw [List.forIn_nil]
      refine wpAny_pure ?_
      have z := q s n I
      simpa using z
    | cons _ _ => cases r
  | cons u us ih =>
    intro ns acc n s Q r nb I hn q
    cases ns with
    | nil => cases r
    | cons a ns =>
      cases r with
      | cons r1 rs =>
        rw [List.length_cons] at hn
        obtain ⟨t, rfl⟩ := r1
        rw [List.forIn_cons]
        have na := nb a List.mem_cons_self
        have la := ds_len na
        have dg : Dg s.heap := let ⟨mc, h1, h2⟩ := hd; ⟨mc, h1.keepsP I.bk, h2⟩
        refine wpAny_bind (wpAny_bind (reprUnder_big (by omega) na dg (wpAny_pure ?_)))
        have e : acc.toArray.push (ds a) = (acc ++ [ds a]).toArray := by simp
        show wpAny _ _ (forIn us (⟨acc.toArray.push (ds a), n + ((ds a).length + 2)⟩ : (Array Str × Nat)) tupBody) _ _ _
        rw [e]
        refine ih ns (acc ++ [ds a]) _ _ Q rs (fun m hm => nb m (List.mem_cons_of_mem _ hm)) (I.tok _) (by omega) fun s' n' I' => ?_
        have z := q s' n' I'
        rw [List.map_cons] at z
        rw [List.append_assoc]
        exact z
theorem call_reprN (gd : X.A.guards = some []) (hd : Dg X.base) (hu : X.A.units + 64 < cLine) : CallR X (.builtin "repr") rReprN := by
  intro pins s σ H xs us Q I r h
  obtain ⟨a, ns, rfl, ha, hl, nb, q⟩ := h
  obtain ⟨u, rfl, ru⟩ := vals1 r
  obtain rfl : u = Value.ref a := ru
  obtain ⟨_, its, rv, o, ho, hc, n, hdt⟩ := I.hok a _ ha
  have hty : s.TypeIs (.ref a) "tuple" := ⟨o, ho, hc⟩
  have gd1 : X.A.in1.guards = some [] := gd
  refine call_repr_slot (by omega) hty PySem.F.slot_tuple_repr ?_
  refine wpAny_call (codeAny_call_builtin_own (Code.quiet_builtin _ (by decide +kernel)) PySem.F.entry_tuple_repr (PySem.F.slot_tuple_repr.check _ _ _ _ _ _ _ _ hty (PySem.F.args_tuple_repr_1 _) ?_))
  show wpOwn _ _ _ (Builtin.tupleReprAt 0 ⟨[.ref a], []⟩) _ _ _
  rw [tuple_repr_tree, tupleReprUnderWay_eq]
  refine wpOwn_bind (wpOwn_stackTailAny gd1 (tupGuardF_off _) (tupGuardF_pos _) ?_)
  refine wpOwn_of_wpAny ?_
  show wpAny _ _ (tupleReprRest 0 (.ref a)) _ _ s
  unfold tupleReprRest Builtin.Tuple.tupleItemsOf
  refine wpAny_bind (wpAny_bind (wpAny_seqItems ho hdt (wpAny_pure ?_)))
  rw [← Array.forIn_toList]
  have len : its.length = ns.length := by
    rw [← rv.length, List.length_map]
  have hz : 0 + ns.length * 10002 + 10002 ≤ sizeLine := by
    rw [sizeLine_eq]
    omega
  refine wpAny_bind (ints_run hd its ns [] 0 s _ rv nb I hz fun s' n' I' => ?_)
  rw [List.nil_append]
  have hts : ∀ t ∈ ns.map ds, t.length ≤ 10000 := fun t ht => by
    obtain ⟨m, hm, rfl⟩ := List.mem_map.mp ht
    have := ds_len (nb m hm)
    omega
  have hlen : (ns.map ds).length = its.length := by rw [List.length_map, len]
  have hsz := tupleText_few hts (by rw [List.length_map]; exact hl)
  have e1 : its.length = ns.length := len
  refine wpAny_bind (wpAny_mkStr (wpAny_pure ?_) (by simpa [tupleText, len] using hsz))
  have fin : ∀ tk, ∃ x t, Value.str (tupleText (ns.map ds)) tk = .str x t ∧ EP X pins σ Q (.str (tupleText (ns.map ds)) tk) { s' with toks := s'.toks + 1 } := fun tk => ⟨_, _, rfl, .str _, H, I'.tok _, ⟨_, rfl⟩, q⟩
  simpa [tupleText, len] using fin s'.toks
end
end Lm
namespace Lm
open PySem PySem.Spec PyProof.Rows L2
/-! ## Numbers: ratios and integers -/
def Mb (n : Int) : Prop := n.natAbs < 2 ^ 4000
theorem Mb.nb {n : Int} (h : Mb n) : Nb n := Nat.lt_of_lt_of_le h (Nat.pow_le_pow_right (by decide) (by decide))
theorem Mb.mulx {i j : Int} (h : Mb i) (g : Mb j) : CMulX i j := mulx_ok h g (by decide)
theorem Mb.mul {i j : Int} (h : Mb i) (g : Mb j) : (i * j).natAbs < 2 ^ 8000 := wide_lt h g
theorem nb_8000 {i : Int} (h : i.natAbs < 2 ^ 8000) : Nb i := Nat.lt_of_lt_of_le h (Nat.pow_le_pow_right (by decide) (by decide))
theorem nb_sum {i j : Int} (h : i.natAbs < 2 ^ 8000) (g : j.natAbs < 2 ^ 8000) : Nb (i + j) ∧ Nb (i - j) := by
  have e : (2 : Nat) ^ 8001 = 2 ^ 8000 + 2 ^ 8000 := by rw [Nat.pow_succ, Nat.mul_two]
  have l : (2 : Nat) ^ 8001 ≤ 2 ^ 9000 := Nat.pow_le_pow_right (by decide) (by decide)
  unfold Nb
  generalize (2 : Nat) ^ 8000 = A at *
  generalize (2 : Nat) ^ 8001 = B at *
  generalize (2 : Nat) ^ 9000 = C at *
  omega
theorem mb_one : Mb 1 := Nat.lt_of_lt_of_le (by decide : (1 : Int).natAbs < 2 ^ 1) (Nat.pow_le_pow_right (by decide) (by decide))
/-- v is the number m / w, w at least 1 -/
def NumAt (K : PySem.W.Frag) (H : Hp) (v : V) (m w : Int) : Prop := (∃ x, v = .ref x ∧ RatAt K H x m w) ∨ (v = .int m ∧ w = 1)
theorem NumAt.same {K : PySem.W.Frag} {H H' : Hp} {v : V} {m w : Int} (h : NumAt K H v m w) (s : Same H H') : NumAt K H' v m w := h.elim (fun ⟨x, e, r⟩ => .inl ⟨x, e, r.same s⟩) .inr
theorem NumAt.ext {K : PySem.W.Frag} {H H' : Hp} {v : V} {m w : Int} (h : NumAt K H v m w) (s : LamX.ExtN H H') : NumAt K H' v m w := h.elim (fun ⟨x, e, r⟩ => .inl ⟨x, e, r.ext s⟩) .inr
def NotRat (K : PySem.W.Frag) (H : Hp) (v : V) : Prop := ∃ t, TyX K H v t ∧ PySem.W.kitOne K t (.ref (ratA K)) = some false
theorem RatC.int {K : PySem.W.Frag} {mg : Str → Option Value} (RC : RatC K mg) (H : Hp) (i : Int) : NotRat K H (.int i) := ⟨_, .base (.int i), RC.un "int" (by decide)⟩
theorem RatC.data {K : PySem.W.Frag} {mg : Str → Option Value} {H : Hp} {v : V} {d : PyData} (RC : RatC K mg) (h : Dr H v d) : NotRat K H v := by
  cases h with
  | non => exact ⟨_, .base .non, RC.un "NoneType" (by decide)⟩
  | bl b => exact ⟨_, .base (.bl b), RC.un "bool" (by decide)⟩
  | int i => exact RC.int H i
  | str x => exact ⟨_, .base (.str x), RC.un "str" (by decide)⟩
  | lst e _ => exact ⟨_, .base (.lst e), RC.un "list" (by decide)⟩
  | tup e _ => exact ⟨_, .base (.tup e), RC.un "tuple" (by decide)⟩
  | dic e _ => exact ⟨_, .base (.dK e), RC.un "dict" (by decide)⟩
def spIsNum (K : PySem.W.Frag) : Sp := fun vs H Q _ => ∃ v, vs = [v] ∧ ((∃ m w, NumAt K H v m w ∧ Q (.bl true) H) ∨ (IsaI K H v ∧ NotRat K H v ∧ Q (.bl (wholeB v)) H))
def spTerms (K : PySem.W.Frag) : Sp := fun vs H Q _ => ∃ v m w, vs = [v] ∧ NumAt K H v m w ∧ ∀ p, H p = none → Q (.ref p) (upd H p (.tup [.int m, .int w]))
/-- two numbers that may be reckoned with -/
structure Two2 (K : PySem.W.Frag) (H : Hp) (x : Addr) (v : V) (n u m w : Int) : Prop where
  r : RatAt K H x n u
  v : NumAt K H v m w
  bn : Mb n
  bu : Mb u
  bm : Mb m
  bw : Mb w
  pu : 0 < u
  pw : 0 < w
def spCmp (K : PySem.W.Frag) (f : Int → Int → Bool) : Sp := fun vs H Q _ => ∃ x v n u m w, vs = [.ref x, v] ∧ Two2 K H x v n u m w ∧ ∀ H', Same H H' → Q (.bl (f (n * w) (m * u))) H'
def spAr (K : PySem.W.Frag) (f g : Int → Int → Int → Int → Int) : Sp := fun vs H Q _ => ∃ x v n u m w, vs = [.ref x, v] ∧ Two2 K H x v n u m w ∧ ∀ H' y, Same H H' → H y = none → RatAt K H' y (rn (f n u m w) (g n u m w)) (ru (f n u m w) (g n u m w)) → Q (.ref y) H'
def spNegR (K : PySem.W.Frag) : Sp := fun vs H Q _ => ∃ x n u, vs = [.ref x] ∧ RatAt K H x n u ∧ Mb n ∧ Mb u ∧ 0 < u ∧ ∀ H' y, Same H H' → H y = none → RatAt K H' y (rn (-n) u) (ru (-n) u) → Q (.ref y) H'
def spDiv (K : PySem.W.Frag) : Sp := fun vs H Q E => ∃ x v n u, vs = [.ref x, v] ∧ RatAt K H x n u ∧ ((∃ m w, Two2 K H x v n u m w ∧ m ≠ 0 ∧ ∀ H' y, Same H H' → H y = none → RatAt K H' y (rn (n * w) (u * m)) (ru (n * w) (u * m)) → Q (.ref y) H') ∨
  (((∃ w, NumAt K H v 0 w) ∨ (IsaI K H v ∧ NotRat K H v ∧ wholeB v = false)) ∧ Wish K H E "BadRatio" v))
abbrev fAdd (n u m w : Int) : Int := n * w + m * u
abbrev fSub (n u m w : Int) : Int := n * w - m * u
abbrev fMul (n _u m _w : Int) : Int := n * m
abbrev gMul (_n u _m w : Int) : Int := u * w
end Lm
namespace Lm
open PySem PySem.Spec PyProof.Rows L2
theorem make_rat {K : PySem.W.Frag} {H2 : Hp} {n u : Int} {R : Hp → Prop} {E : XK} {x dx : Addr} (hx : H2 x = none) (hdx : H2 dx = none) (u0 : u ≠ 0) (nb : Nb n) (ub : Nb u) (k : ∀ H', Same H2 H' → RatAt K H' x (rn n u) (ru n u) → R H') :
    spRInit K [.ref x, .int n, .int u] (upd (upd H2 dx (.own x)) x (.ins (ratA K) dx [])) (fun v H3 => v = .non ∧ R H3) E :=
  ⟨x, dx, _, _, rfl, upd_same, .inl ⟨n, u, rfl, rfl, u0, nb, ub, fun H3 kb r => ⟨rfl, k H3 (fun b o e => by
    have n1 : b ≠ x := ne_of_none e hx
    refine kb b o ?_ n1
    rw [upd_ne n1, upd_ne (ne_of_none e hdx)]
    exact e) r⟩⟩⟩
theorem unpackL {K : PySem.W.Frag} {p : Addr} {c m : V} {i j : Nat} {σ : L2.St} {H : Hp} {N : L2.St → Hp → Prop} (e : H p = some (.tup [c, m])) (q : N ((σ.set i (some c)).set j (some m)) H) : gTup K 2 (gCons (gName i) (gCons (gName j) gNil)) (.ref p) σ H N :=
  ⟨p, _, rfl, SqT.of e, rfl, _, _, rfl, _, _, rfl, rfl, q⟩
theorem pos_mul {u w : Int} (h : 0 < u) (g : 0 < w) : u * w ≠ 0 := by
  have := Int.mul_pos h g
  omega
end Lm

namespace Lm
open PySem PySem.Spec PyProof.Rows L2
/-! ## Ratios from both sides -/
theorem opR_or {X : Cx} {op : Value → Value → Sem Value} {r r' : R2} (h : OpR X op r) (h' : OpR X op r') : OpR X op (fun x y H Q => r x y H Q ∨ r' x y H Q) := fun pins s σ H x y v u Q I rx ry q => q.elim (h pins s σ H x y v u Q I rx ry) (h' pins s σ H x y v u Q I rx ry)
theorem red_neg {n u : Int} (r : Red n u) : Red (-n) u := ⟨r.pos, by rw [Int.natAbs_neg]; exact r.cop⟩
theorem Mb.neg {n : Int} (h : Mb n) : Mb (-n) := by
  unfold Mb at *
  rw [Int.natAbs_neg]
  exact h
theorem sg_neg (n u : Int) : sg (-n) u = sg n u := by
  unfold sg gd
  rw [Int.natAbs_neg]
theorem rn_neg {n u : Int} (h : u ≠ 0) : rn (-n) u = -rn n u := by
  have e1 := rn_mul (-n) u
  have e2 := rn_mul n u
  rw [sg_neg] at e1
  refine Int.eq_of_mul_eq_mul_right (sg_ne (n := n) h) ?_
  rw [e1, Int.neg_mul, e2]
theorem ru_neg (n u : Int) : ru (-n) u = ru n u := by
  unfold ru
  rw [sg_neg]
/-- int op x -/
def spRI (K : PySem.W.Frag) (sp : Sp) : Sp := fun vs H Q E => ∃ (x : Addr) (i n u : Int), vs = [.ref x, .int i] ∧ RatAt K H x n u ∧ sp vs H Q E
def spRsub (K : PySem.W.Frag) : Sp := fun vs H Q _ => ∃ (x : Addr) (i n u : Int), vs = [.ref x, .int i] ∧ Two2 K H x (.int i) n u i 1 ∧ Red n u ∧ ∀ H' y, Same H H' → H y = none → RatAt K H' y (rn (fAdd (-n) u i 1) (gMul (-n) u i 1)) (ru (fAdd (-n) u i 1) (gMul (-n) u i 1)) → Q (.ref y) H'
end Lm
namespace Lm
open PySem PySem.Spec PyProof.Rows L2
/-- p is the pair of n and u -/
structure Fr (H : Hp) (p : Addr) (n u : Int) : Prop where
  e : H p = some (.tup [.int n, .int u])
  r : Red n u
  bn : Mb n
  bu : Mb u
theorem Fr.same {H H' : Hp} {p : Addr} {n u : Int} (h : Fr H p n u) (s : Same H H') : Fr H' p n u := ⟨s _ _ h.e, h.r, h.bn, h.bu⟩
theorem Fr.nz {H : Hp} {p : Addr} {n u : Int} (h : Fr H p n u) : u ≠ 0 := by
  have := h.r.pos
  omega
/-- a law's sum, difference, product of two pairs -/
def spA (f g : Int → Int → Int → Int → Int) : Sp := fun vs H Q _ => ∃ (p q : Addr) (n u m w : Int), vs = [.ref p, .ref q] ∧ H p = some (.tup [.int n, .int u]) ∧ H q = some (.tup [.int m, .int w]) ∧ (Mb n ∧ Mb u ∧ Mb m ∧ Mb w) ∧ 0 < u ∧ 0 < w ∧ ∀ r, H r = none → Q (.ref r) (upd H r (.tup [.int (rn (f n u m w) (g n u m w)), .int (ru (f n u m w) (g n u m w))]))
def spMadeR (K : PySem.W.Frag) : Sp := fun vs H Q _ => ∃ (p : Addr) (n u : Int), vs = [.ref p] ∧ Fr H p n u ∧ ∀ H' y, Same H H' → H y = none → RatAt K H' y n u → Q (.ref y) H'
def spIsSo (K : PySem.W.Frag) : Sp := fun vs H Q _ => ∃ (x q : Addr) (n u : Int), vs = [.ref x, .ref q] ∧ RatAt K H x n u ∧ H q = some (.tup [.int n, .int u]) ∧ Nb n ∧ Nb u ∧ ∀ H', Same H H' → Q (.bl true) H'
def spSorts (K : PySem.W.Frag) : Sp := fun vs H Q _ => ∃ (q : Addr) (m w : Int), vs = [.ref q] ∧ Fr H q m w ∧ ∀ H' L xs, Same H H' → H L = none → H' L = some (.lst xs) → xs.length ≤ 2 → (∀ v ∈ xs, NumAt K H' v m w) → Q (.ref L) H'
end Lm
namespace Lm
open PySem PySem.Spec PyProof.Rows L2
/-! ## A one and so many noughts -/
def repS (x : Str) (n : Int) : Str := { cps := List.foldl (fun x1 x2 => x1 ++ x2) #[] (List.replicate n.toNat x.cps) }
def Few4 (k : Int) : Prop := k = 9 ∨ k = 18 ∨ k = 40 ∨ k = 300
theorem op_repS {X : Cx} : OpR X (binaryOp .Mult) (fun x y H Q => ∃ a k, x = .str a ∧ y = .int k ∧ Few4 k ∧ a = "0" ∧ Q (.str (repS "0" k)) H) := by
  intro pins s σ H x y v u Q I rx ry h
  obtain ⟨a, k, rfl, rfl, hk, rfl, q⟩ := h
  obtain ⟨t, rfl⟩ := rx
  obtain ⟨t', rfl⟩ := ry
  have ha : ("0" : Str).length = 1 := rfl
  have c1 : ¬ k < 1 := by rcases hk with rfl | rfl | rfl | rfl <;> decide
  have c2 : (k == 1 || ("0" : Str).length == 0) = false := by
    rw [ha]
    rcases hk with rfl | rfl | rfl | rfl <;> decide
  refine PySem.P.mul_str ?_ (fun _ _ => ?_) (fun _ _ => ?_) ?_
  · rcases hk with rfl | rfl | rfl | rfl <;> decide
  · rw [ha]
    rcases hk with rfl | rfl | rfl | rfl <;> decide
  · rw [ha]
    rcases hk with rfl | rfl | rfl | rfl <;> decide +kernel
  rw [if_neg c1, if_neg (by rw [c2]; decide)]
  refine ⟨?_, .str (repS "0" k), H, I.tok _, ⟨_, rfl⟩, q⟩
  rw [sizeLine_eq]
  have l : (repS "0" k).length ≤ 640 := by rcases hk with rfl | rfl | rfl | rfl <;> decide +kernel
  exact Nat.le_trans l (by decide)
theorem few4_text {k : Int} (h : Few4 k) : PySem.intText? (("1" : Str) ++ repS "0" k) = some (10 ^ k.toNat) ∧ (("1" : Str) ++ repS "0" k).length ≤ 640 ∧ ("1" : Str).length + (repS "0" k).length ≤ 640 := by
  rcases h with rfl | rfl | rfl | rfl <;> exact ⟨by decide +kernel, by decide +kernel, by decide +kernel⟩
theorem few4_mb {k : Int} (h : Few4 k) : (1 : Int) < 10 ^ k.toNat ∧ ((10 : Int) ^ k.toNat).natAbs < 2 ^ 1000 := by
  rcases h with rfl | rfl | rfl | rfl <;> exact ⟨by decide +kernel, by decide +kernel⟩
theorem Fr.but {H H' : Hp} {p a : Addr} {n u : Int} {m : Nat} (h : Fr H p n u) (k : KeptBut a H H') (hp : PotAt H a m) : Fr H' p n u := ⟨by
  obtain ⟨c0, c1, c2, ea, _⟩ := hp
  exact k _ _ h.e (ne_of h.e ea fun z => nomatch z), h.r, h.bn, h.bu⟩
theorem mb_of {n b : Int} (h : n.natAbs ≤ b.natAbs) (g : Mb b) : Mb n := Nat.lt_of_le_of_lt h g
def spFrac : Sp := fun vs H Q _ => ∃ (a : Addr) (n : Nat), vs = [.ref a] ∧ PotAt H a n ∧ n < 999990 ∧ ∀ (p : Addr) (i j : Int) H', Fr H' p i j → PotAt H' a (n + 2) → KeptBut a H H' → Q (.ref p) H'
def spGreat : Sp := fun vs H Q _ => ∃ (a : Addr) (k : Nat), vs = [.ref a] ∧ PotAt H a k ∧ k < 999990 ∧ ∀ (z p q : Addr) (n u m w : Int) H', H' z = some (.tup [.ref p, .ref q]) → Fr H' p n u → Fr H' q m w → PotAt H' a (k + 5) → KeptBut a H H' → Q (.ref z) H'
end Lm
namespace Lm
open PySem PySem.Spec PyProof.Rows L2
section
variable {K : PySem.W.Frag} {H : Hp} {x : Addr} {v : V} {n u m w : Int} {Q : VK} {E : XK}
theorem Two2.same {H' : Hp} (t : Two2 K H x v n u m w) (s : Same H H') : Two2 K H' x v n u m w := ⟨t.r.same s, t.v.same s, t.bn, t.bu, t.bm, t.bw, t.pu, t.pw⟩
theorem cmp_here {f : Int → Int → Bool} (t : Two2 K H x v n u m w) (k : ∀ H', Same H H' → Q (.bl (f (n * w) (m * u))) H') : rOwn (ratA K) (spCmp K f) E (.ref x) v H Q ∨ rOwnI (ratA K) (spCmp K f) E (.ref x) v H Q := by
  obtain ⟨dx, hx⟩ := id t.r
  rcases id t.v with ⟨y, rfl, ⟨dy, hy⟩⟩ | ⟨rfl, rfl⟩
  · exact .inl ⟨x, y, dx, dy, _, _, rfl, rfl, hx, hy, x, .ref y, n, u, m, w, rfl, t, k⟩
  · exact .inr ⟨x, dx, _, m, rfl, rfl, hx, x, .int m, n, u, m, 1, rfl, t, k⟩
theorem cmp_there {f g : Int → Int → Bool} (e : ∀ a b, f a b = g b a) (t : Two2 K H x v n u m w) (k : ∀ H', Same H H' → Q (.bl (g (n * w) (m * u))) H') : rOwn (ratA K) (spCmp K f) E v (.ref x) H Q ∨ rIOwn (ratA K) (spCmp K g) E v (.ref x) H Q := by
  obtain ⟨dx, hx⟩ := id t.r
  rcases id t.v with ⟨y, rfl, ⟨dy, hy⟩⟩ | ⟨rfl, rfl⟩
  · exact .inl ⟨y, x, dy, dx, _, _, rfl, rfl, hy, hx, y, .ref x, m, w, n, u, rfl, ⟨⟨dy, hy⟩, .inl ⟨x, rfl, t.r⟩, t.bm, t.bw, t.bn, t.bu, t.pw, t.pu⟩, fun H' s => by rw [e]; exact k H' s⟩
  · exact .inr ⟨x, dx, _, m, rfl, rfl, hx, x, .int m, n, u, m, 1, rfl, t, k⟩
theorem ar_here {f g : Int → Int → Int → Int → Int} (t : Two2 K H x v n u m w) (k : ∀ H' y, Same H H' → RatAt K H' y (rn (f n u m w) (g n u m w)) (ru (f n u m w) (g n u m w)) → Q (.ref y) H') : rOwn (ratA K) (spAr K f g) E (.ref x) v H Q ∨ rOwnI (ratA K) (spAr K f g) E (.ref x) v H Q := by
  obtain ⟨dx, hx⟩ := id t.r
  rcases id t.v with ⟨y, rfl, ⟨dy, hy⟩⟩ | ⟨rfl, rfl⟩
  · exact .inl ⟨x, y, dx, dy, _, _, rfl, rfl, hx, hy, x, .ref y, n, u, m, w, rfl, t, fun H' y s _ r => k H' y s r⟩
  · exact .inr ⟨x, dx, _, m, rfl, rfl, hx, x, .int m, n, u, m, 1, rfl, t, fun H' y s _ r => k H' y s r⟩
theorem ar_there {f g : Int → Int → Int → Int → Int} (ef : f m w n u = f n u m w) (eg : g m w n u = g n u m w) (t : Two2 K H x v n u m w) (k : ∀ H' y, Same H H' → RatAt K H' y (rn (f n u m w) (g n u m w)) (ru (f n u m w) (g n u m w)) → Q (.ref y) H') : rOwn (ratA K) (spAr K f g) E v (.ref x) H Q ∨ rIOwn (ratA K) (spRI K (spAr K f g)) E v (.ref x) H Q := by
  obtain ⟨dx, hx⟩ := id t.r
  rcases id t.v with ⟨y, rfl, ⟨dy, hy⟩⟩ | ⟨rfl, rfl⟩
  · refine .inl ⟨y, x, dy, dx, _, _, rfl, rfl, hy, hx, y, .ref x, m, w, n, u, rfl, ⟨⟨dy, hy⟩, .inl ⟨x, rfl, t.r⟩, t.bm, t.bw, t.bn, t.bu, t.pw, t.pu⟩, fun H' y s _ r => k H' y s ?_⟩
    rw [ef, eg] at r
    exact r
  · exact .inr ⟨x, dx, _, m, rfl, rfl, hx, x, m, n, u, rfl, t.r, x, .int m, n, u, m, 1, rfl, t, fun H' y s _ r => k H' y s r⟩
theorem sub_there (rd : Red n u) (t : Two2 K H x v n u m w) (k : ∀ H' y, Same H H' → RatAt K H' y (-rn (fSub n u m w) (gMul n u m w)) (ru (fSub n u m w) (gMul n u m w)) → Q (.ref y) H') : rOwn (ratA K) (spAr K fSub gMul) E v (.ref x) H Q ∨ rIOwn (ratA K) (spRsub K) E v (.ref x) H Q := by
  obtain ⟨dx, hx⟩ := id t.r
  have e0 : gMul n u m w ≠ 0 := pos_mul t.pu t.pw
  rcases id t.v with ⟨y, rfl, ⟨dy, hy⟩⟩ | ⟨rfl, rfl⟩
  · refine .inl ⟨y, x, dy, dx, _, _, rfl, rfl, hy, hx, y, .ref x, m, w, n, u, rfl, ⟨⟨dy, hy⟩, .inl ⟨x, rfl, t.r⟩, t.bm, t.bw, t.bn, t.bu, t.pw, t.pu⟩, fun H' y s _ r => k H' y s ?_⟩
    have e1 : fSub m w n u = -fSub n u m w := by
      show m * u - n * w = -(n * w - m * u)
      omega
    have e2 : gMul m w n u = gMul n u m w := Int.mul_comm w u
    rw [e1, e2, rn_neg e0, ru_neg] at r
    exact r
  · refine .inr ⟨x, dx, _, m, rfl, rfl, hx, x, m, n, u, rfl, t, rd, fun H' y s _ r => k H' y s ?_⟩
    have e1 : fAdd (-n) u m 1 = -fSub n u m 1 := by
      show -n * 1 + m * u = -(n * 1 - m * u)
      omega
    have e2 : gMul (-n) u m 1 = gMul n u m 1 := rfl
    rw [e1, e2, rn_neg e0, ru_neg] at r
    exact r
end
/-- all the operators of Ratio -/
structure Ops (P : Program) (w : World) (K : PySem.W.Frag) (mg : Str → Option Value) (base : Heap) : Prop where
  lt : ∃ f fd ps, RCmp K (ratA K) .Lt f ∧ FnOk P w K mg base (L2.CX P w) 3 f fd ps (spCmp K fun a b => decide (a < b)) ∧ Binds K fd ps []
  le : ∃ f fd ps, RCmp K (ratA K) .LtE f ∧ FnOk P w K mg base (L2.CX P w) 3 f fd ps (spCmp K fun a b => decide (a ≤ b)) ∧ Binds K fd ps []
  gt : ∃ f fd ps, RCmp K (ratA K) .Gt f ∧ FnOk P w K mg base (L2.CX P w) 3 f fd ps (spCmp K fun a b => decide (b < a)) ∧ Binds K fd ps []
  ge : ∃ f fd ps, RCmp K (ratA K) .GtE f ∧ FnOk P w K mg base (L2.CX P w) 3 f fd ps (spCmp K fun a b => decide (b ≤ a)) ∧ Binds K fd ps []
  i2 : PySem.W.subIn K (.ref (ratA K)) (.type "int") = some false
  add : ∃ f r fd ps fd' ps', ROp K (ratA K) (Operator.info .Add).2 f r ∧ (FnOk P w K mg base (L2.CX P w) 5 f fd ps (spAr K fAdd gMul) ∧ Binds K fd ps []) ∧ FnOk P w K mg base (L2.CX P w) 6 r fd' ps' (spRI K (spAr K fAdd gMul)) ∧ Binds K fd' ps' []
  sub : ∃ f r fd ps fd' ps', ROp K (ratA K) (Operator.info .Sub).2 f r ∧ (FnOk P w K mg base (L2.CX P w) 5 f fd ps (spAr K fSub gMul) ∧ Binds K fd ps []) ∧ FnOk P w K mg base (L2.CX P w) 6 r fd' ps' (spRsub K) ∧ Binds K fd' ps' []
  mul : ∃ f r fd ps fd' ps', ROp K (ratA K) (Operator.info .Mult).2 f r ∧ (FnOk P w K mg base (L2.CX P w) 5 f fd ps (spAr K fMul gMul) ∧ Binds K fd ps []) ∧ FnOk P w K mg base (L2.CX P w) 6 r fd' ps' (spRI K (spAr K fMul gMul)) ∧ Binds K fd' ps' []
  neg : ∃ f fd ps, (PySem.W.findIn K (.ref (ratA K)) "__neg__" = some (some (.ref f)) ∧ PySem.W.isFn K (.ref f) = true) ∧ FnOk P w K mg base (L2.CX P w) 5 f fd ps (spNegR K) ∧ Binds K fd ps []
  div : MetX P w K mg base 5 (ratA K) "divided" (spDiv K)
/-- the two of a law, and what is told of them -/
def spPairB : Sp := fun vs H Q _ => ∃ (p q : Addr) (n u m w : Int), vs = [.ref p, .ref q] ∧ Fr H p n u ∧ Fr H q m w ∧ ∀ H', Same H H' → Q (.bl true) H'
theorem bools4 : ∀ b1 b2 b3 b4 : Bool, (PyData.tuple [.bool b1, .bool b2, .bool b3, .bool b4]).showable = true ∧ (PyData.tuple [.bool b1, .bool b2, .bool b3, .bool b4]).depth ≤ 60 ∧ (PyData.tuple [.bool b1, .bool b2, .bool b3, .bool b4]).shown.length ≤ sizeLine := by
  decide +kernel
end Lm
namespace Lm
open PySem PySem.Spec PyProof.Rows L2
theorem ropB_ok {K : PySem.W.Frag} {mg : Str → Option Value} {nm : String} {f r : Addr} {x y : Str} (h : ropB K nm = true) (RC : RatC K mg) (i2 : PySem.W.subIn K (.ref (ratA K)) (.type "int") = some false) (m : Meth K (ratA K) x f) (m' : Meth K (ratA K) y r) (e : PySem.dunder nm = x) (e' : PySem.dunderR nm = y) : ROp K (ratA K) nm f r := by
  subst e e'
  obtain ⟨h1, h2⟩ := He.ba h
  exact ⟨m.at_, m.fn, m'.at_, m'.fn, Option.isSome_iff_exists.mp h1, Option.isSome_iff_exists.mp h2, RC.sub "int" (by decide), i2, RC.first⟩
end Lm

namespace PySem.W
open PySem PySem.Calls PyProof.Rows
namespace LmSM
theorem slot_sm : Slot "staticmethod" (Str.ofString "__get__") "staticmethod.__get__" :=
  Slot.of (owner := "staticmethod") (n := "__get__") (by rw [typeLookup_type, builtinLookup_eq_fast] <;> rfl) (by decide +kernel) (by decide +kernel) (by decide +kernel) (.inl (by decide +kernel)) (by rw [isSubtype_type] <;> rfl)
theorem entry_sm : entryFor table "staticmethod.__get__" = some Builtin.«staticmethod.__get__» := entryFor_of_tree (by rfl)
theorem args_sm : ∀ (a b c : Value), argsOk "staticmethod.__get__" { pos := [a, b, c] } := fun a b c => by
  show (match Manifest.signature? "staticmethod.__get__" with
    | some sig => Bind.checkArgs "staticmethod.__get__" sig { pos := [a, b, c] }
    | none => pure ()) = pure ()
  rfl
theorem sm_get {prog : Program} {w : World} {A : Around} {s : Shared} {K : Frag} {p C : Addr} {R : Result → Shared → Prop} {f obj : Value} {rest : List Value} (X : K.In s.heap) (hp : recIn K p "staticmethod" = some (f :: rest)) (h : R (.ok (.ret f)) s) :
    codeAny (model prog w) A (Code.call (.builtin "staticmethod.__get__") { pos := [.ref p, obj, .ref C] }) R s := by
  obtain ⟨d, sl, ho⟩ := rec_of X hp
  refine codeAny_call_builtin slot_sm.plain entry_sm (slot_sm.check _ _ _ _ _ _ _ _ ⟨_, ho, rfl⟩ (args_sm _ _ _) ?_)
  show wpAny (model prog w) A.in1 (Builtin.«staticmethod.__get__» { pos := [.ref p, obj, .ref C] }) _ _ _
  unfold Builtin.«staticmethod.__get__»
  rw [dga_cls]
  refine wpAny_bind (wpAny_pure ?_)
  dsimp only
  refine wpAny_bind ?_
  unfold field
  refine nd_load ho ?_
  refine wpAny_bind (wpAny_bind (wpAny_pure (wpAny_pure (wpAny_pure ?_))))
  exact wpAny_pure h
end LmSM
end PySem.W
namespace Lm
open PySem PySem.Spec PyProof.Rows L2
/-- C has the static method m, which is the def at g -/
structure SMet (K : PySem.W.Frag) (C : Addr) (mc : Value) (m : Str) (p g : Addr) : Prop where
  at_ : PySem.W.findCls K (.ref C) mc m = some (PySem.W.CFound.get (.builtin "staticmethod.__get__") (.ref p) .none (.ref C))
  rc : ∃ rest, PySem.W.recIn K p "staticmethod" = some (.ref g :: rest)
  kp : PySem.W.keepIn K (.ref g) = true
def tSMeth (C : Addr) (sp : Sp) (E : XK) (ta : TE) (t : TA) : TE := fun σ H Q => ta σ H fun x H1 => x = .ref C ∧ t σ H1 fun vs H2 => sp vs H2 Q E
section
variable {X : Cx} {CX : CXT} {k : Nat} {C p g : Addr} {mc : Value} {fd : FuncData} {ps : List Str} {sp : Sp} {E : XK} {o e : PySem.Expr} {es : List PySem.Expr} {m : Str} {pos apos : Pos} {ta : TE} {t : TA} {pl : Sem Bool}
theorem getsm_ok {pins : List (Addr × Obj)} {σ : L2.St} {H : Hp} {s : Shared} {A : Around} {XE : Value → Shared → Prop} {Q : Value × List Value → Shared → Prop} (I : L2.Inv X pins σ H s) (r : ClX.CRead X.K C mc) (c : SMet X.K C mc m p g) (h : ∀ s', L2.Inv X pins σ H s' → Q (.ref g, []) s') :
    wpAny (model X.prog X.w) A (getMethod (.ref C) m pl) Q XE s := by
  obtain ⟨rest, hp⟩ := c.rc
  refine PySem.W.method_cls (Inv.kIn I) r.ga (PySem.W.cls_bind (Inv.kIn I) r.rd c.at_ (wpAny_call (PySem.W.LmSM.sm_get (Inv.kIn (I.tok _)) hp (PySem.W.handed_on rfl (h _ (I.tok _))))))
theorem pe_static (he : PE X o ta) (r : ClX.CRead X.K C mc) (c : SMet X.K C mc m p g) (F : FnOk X.prog X.w X.K X.mg X.base CX k g fd ps sp) (hb : Binds X.K fd ps []) (hr : Room k X.A) (hx : Passes CX X E) (ha : PA X (e :: es) t)
    (hst : starEach (e :: es) X.env = (false, eval e X.env) :: starEach es X.env := by rfl) (hpl : (backTo pos (starEach es X.env)).any (·.1) = false := by rfl)
    (ht : eval (.Call (.Attribute o m apos) (e :: es) [] pos) X.env = (do
      let ov ← eval o X.env
      standAt apos.atName
      let (f, first) ← holding [ov] (getMethod ov m pl)
      callWith pos f first (backTo pos (starEach (e :: es) X.env)) (backToKw pos (keywordEach [] X.env))) := by rfl) :
    PE X (.Call (.Attribute o m apos) (e :: es) [] pos) (tSMeth C sp E ta t) := by
  refine ⟨fun pins s σ H Q I h => PySem.W.methodCall_KW (thn (he.run pins s σ H (fun x H1 => x = V.ref C ∧ t σ H1 fun vs H2 => sp vs H2 Q E) I h) fun u s1 x => ?_) ht⟩
  obtain ⟨x, H1, I1, rx, rfl, q⟩ := x
  obtain rfl : u = Value.ref C := rx
  refine getsm_ok I1 r c fun s2 I2 => ?_
  refine PySem.W.callWith_K (Inv.kIn I2) c.kp (thn (ha.run pos pins s2 σ H1 (fun vs H2 => sp vs H2 Q E) I2 q) fun us s3 x => ?_) hst hpl
  obtain ⟨vs, H2, I3, rv, q2⟩ := x
  exact ⟨Inv.kIn I3, run_fn F hr hb .nil hx I3 rv (by rw [List.append_nil]; exact q2)⟩
end
end Lm
namespace PySem.W
open PySem PySem.Calls PyProof.Rows
theorem lm_key {x : Str} {n : Int} (h : PySem.intText? x = some n) : ((numSeenOf x).length == (numTextOf x).length) = true ∧ ∃ ds, NumText.digits? 10 (NumText.core (numSeenOf x)) = some ds ∧ ds.size ≤ 4300 ∧ NumText.worth (NumText.sign (List.dropWhile NumText.blank (numSeenOf x))).fst ds = n := by
  unfold PySem.intText? at h
  split at h
  · rename_i hall
    split at h
    · rename_i ds hd
      split at h
      · rename_i sz
        exact ⟨hall, ds, hd, sz, Option.some.inj h⟩
      · cases h
    · cases h
  · cases h
theorem meets_int_text {x : Str} {u : Tok} {n : Int} (hn : PySem.intText? x = some n) : Meets (Builtin.«int.__new__» ⟨[.type "int", .str x u], []⟩) (fun _ R s => s.heap.NoDigits ∧ R (.ok (.ret (.int n s.toks))) { s with toks := s.toks + 1 }) := .of_wp fun prog w A R s h => by
  obtain ⟨hp, g, d, tk, os⟩ := s
  obtain ⟨hd, h⟩ := h
  have f1 := F.conv_sub_int
  have f2 := F.madeHere_int
  have f3 := W.KIN.str_int
  have f4 := W.KIN.str_idx
  have f5 := W.KIN.str_trunc
  obtain ⟨hall, ds, hds, sz, rfl⟩ := lm_key hn
  have e0 : (List.takeWhile (fun x => x != 0) (if (x.cps.all fun x => decide (x < 128)) = true then x.cps.toList else Unicode.numberText x.cps.toList)) = numSeenOf x := rfl
  have e1 : (if (x.cps.all fun x => decide (x < 128)) = true then x.cps.toList else Unicode.numberText x.cps.toList) = numTextOf x := rfl
  unfold Builtin.«int.__new__»
  refine wpAny_bind (wpAny_pure (wpAny_ite_false (by decide) (wpAny_bind (wpAny_of_eq f1 (wpAny_ite_false (by decide) (wpAny_bind (wpAny_of_eq f2 (wpAny_ite_false rfl (wpAny_ite_false rfl ?_)))))))))
  refine wpAny_bind (wpAny_pure ?_)
  dsimp only
  refine wpAny_bind ?_
  refine wpAny_bind ?_
  refine wpAny_bind (wpAny_specialOf_val rfl f3 (wpAny_pure (wpAny_bind (wpAny_specialOf_val rfl f4 (wpAny_ite_false rfl (wpAny_bind (wpAny_specialOf_val rfl f5 ?_)))))))
  dsimp only
  refine wpAny_bind (wpAny_bind (wpAny_pure (wpAny_pure ?_)))
  dsimp only
  have fin : ∀ lim : Nat, (lim = 0 ∨ ds.size ≤ lim) → True := fun _ _ => trivial
  by_cases c : (numSeenOf x).length ≤ 640
  · refine wpAny_ite_true (decide_eq_true c) ?_
    refine wpAny_bind (wpAny_pure ?_)
    dsimp only
    rw [e0, e1, NumText.readNumeral_ten, hds, NumText.judge_ok (.inl rfl) (by omega)]
    dsimp only
    refine wpAny_ite_true (decide_eq_true hall) ?_
    exact wpAny_mkInt (wpAny_ite_true rfl (wpAny_pure ⟨_, rfl, h⟩))
  · refine wpAny_ite_false (decide_eq_false c) ?_
    refine wpAny_bind ?_
    obtain ⟨mc, h1, h2⟩ := hd
    unfold Builtin.intMaxStrDigits
    refine wpAny_bind (wpAny_nsGet h1 ?_)
    rw [h2]
    refine wpAny_pure ?_
    dsimp only
    rw [e0, e1, NumText.readNumeral_ten, hds, NumText.judge_ok (.inr sz) (by omega)]
    dsimp only
    refine wpAny_ite_true (decide_eq_true hall) ?_
    exact wpAny_mkInt (wpAny_ite_true rfl (wpAny_pure ⟨_, rfl, h⟩))
end PySem.W
namespace Lm
open PySem PySem.Spec PyProof.Rows L2
theorem dg_at {X : Cx} {pins : List (Addr × Obj)} {σ : L2.St} {H : Hp} {s : Shared} (hd : Dg X.base) (I : Inv X pins σ H s) : Dg s.heap := let ⟨mc, h1, h2⟩ := hd; ⟨mc, h1.keepsP I.bk, h2⟩
/-- int(text), of any length up to the limit -/
theorem call_int_big {X : Cx} (hd : Dg X.base) : CallR X (.type "int") (fun xs H Q => ∃ a n, xs = [.str a] ∧ PySem.intText? a = some n ∧ Q (.int n) H) := by
  intro pins s σ H xs us Q I r h
  obtain ⟨a, n, rfl, hn, q⟩ := h
  obtain ⟨u, rfl, ru⟩ := vals1 r
  obtain ⟨t, rfl⟩ := ru
  exact call_int_1 (PySem.W.meets_int_text hn) ⟨dg_at hd I, typeIs_int _ _ _, .int n, H, I.tok _, ⟨_, rfl⟩, q⟩
/-- str(i), i of any length up to the limit -/
theorem call_str_big {X : Cx} (hd : Dg X.base) (hu : X.A.units + 64 < cLine) : CallR X (.type "str") (fun xs H Q => ∃ i, xs = [.int i] ∧ Nb i ∧ Q (.str (ds i)) H) := by
  intro pins s σ H xs us Q I r h
  obtain ⟨i, rfl, nb, q⟩ := h
  obtain ⟨u, rfl, ru⟩ := vals1 r
  obtain ⟨t, rfl⟩ := ru
  refine callType_new (S := fun A R s => A.in1.units + 1 < cLine ∧ Dg s.heap ∧ R (.ok (.ret (.str (ds i) s.toks))) { s with toks := s.toks + 1 }) F.called_str (by decide) (F.typeCall_str_1 _) (F.newCall_str_1 _) (fun obj => F.args_object_init_2 obj _) F.entry_str_new
    (meets_str_new fun prog w A R s hq => ?_) ⟨?_, dg_at hd I, typeIs_str _ _ _, .str (ds i), H, I.tok _, ⟨_, rfl⟩, q⟩
  · obtain ⟨h1, h2, h3⟩ := hq
    refine wpAny_strOf_slot rfl h1 (typeIs_int s i t) F.slot_int_str PySem.F.slot_int_repr.toG ?_
    exact call_meets PySem.F.slot_int_repr (typeIs_int s i t) PySem.F.entry_int_repr (PySem.F.args_int_repr_1 _) (meets_int_repr nb) ⟨h2, ⟨_, _, rfl, h3⟩⟩
  · have e : X.A.in1.in1.units ≤ X.A.units + 2 := by unfold Around.in1; simp
    omega
end Lm

namespace Lm
open PySem PySem.Spec PyProof.Rows L2
/-! ## Figures and their values -/
abbrev dv (l : List Nat) : Nat := NumText.digitsVal l
theorem dv_fold : ∀ (l : List Nat) (a : Nat), l.foldl (fun acc c => acc * 10 + (c - 48)) a = a * 10 ^ l.length + dv l := by
  intro l
  induction l with
  | nil => intro a; simp [NumText.digitsVal]
  | cons c l ih =>
    intro a
    show l.foldl (fun acc c => acc * 10 + (c - 48)) (a * 10 + (c - 48)) = _
    rw [ih]
    have e : dv (c :: l) = (0 * 10 + (c - 48)) * 10 ^ l.length + dv l := ih _
    rw [e, List.length_cons, Nat.pow_succ, Nat.add_mul, Nat.zero_mul, Nat.zero_add, Nat.mul_comm (10 ^ l.length) 10, ← Nat.mul_assoc]
    omega
theorem dv_app (a b : List Nat) : dv (a ++ b) = dv a * 10 ^ b.length + dv b := by
  show (a ++ b).foldl _ 0 = _
  rw [List.foldl_append, dv_fold] <;> rfl
theorem dv_num (n : Nat) : dv (TL.numL n) = n := by
  rw [← TL.tl_num]
  show NumText.digitsVal (Str.ofString (toString (n : Int))).cps.toList = n
  rw [PySem.W.KIN.signs_num, PySem.W.KIN.val_back]
theorem numL_ten : ∀ m < 10, TL.numL m = [48 + m] := by decide +kernel
theorem numL_snoc (q r : Nat) (hq : 0 < q) (hr : r < 10) : TL.numL (q * 10 + r) = TL.numL q ++ [48 + r] := by
  have e := numL_block 1 q r hq (by omega)
  rw [Nat.pow_one] at e
  rw [e]
  congr 1
  show padK 1 r = _
  unfold padK
  simp [padK]
  omega
/-- figures with no nought ahead are the text of their value -/
theorem canon : ∀ (k : Nat) (cs : List Nat), cs.length = k → NumText.AllDigits cs → cs ≠ [] → (1 < cs.length → cs.head? ≠ some 48) → TL.numL (dv cs) = cs := by
  intro k
  induction k with
  | zero => intro cs e _ n; exact absurd (List.length_eq_zero_iff.mp e) n
  | succ k ih =>
    intro cs e ad n h
    obtain ⟨l, d, rfl⟩ : ∃ l d, cs = l ++ [d] := ⟨cs.dropLast, cs.getLast n, (List.dropLast_concat_getLast n).symm⟩
    have hd := ad d (by simp)
    have el : l.length = k := by simpa using e
    rw [dv_app]
    have e1 : dv [d] = d - 48 := by simp [NumText.digitsVal]
    rw [e1, List.length_singleton, Nat.pow_one]
    by_cases z : l = []
    · subst z
      have e0 : dv [] = 0 := rfl
      rw [e0, Nat.zero_mul, Nat.zero_add, numL_ten _ (by omega)]
      simp
      omega
    · have hl : l.head? ≠ some 48 := by
        cases l with
        | nil => exact absurd rfl z
        | cons c r => exact h (by simp)
      have il := ih l el (fun c hc => ad c (by simp [hc])) z fun _ => hl
      have pos : 0 < dv l := by
        refine Nat.pos_of_ne_zero fun e0 => hl ?_
        rw [e0] at il
        rw [← il]
        decide
      rw [numL_snoc _ _ pos (by omega), il]
      simp
      omega
def mn : List Nat → List Nat
  | 45 :: r => r
  | l => l
end Lm
namespace Lm
open PySem PySem.Spec PyProof.Rows L2
/-! ## Texts of ratios, sign by sign -/
def IsT (l : List Nat) (n u : Int) : Prop := Red n u ∧ l = TL.tl (ratText n u)
theorem rt_tl (n u : Int) : TL.tl (ratText n u) = if u = 1 then TL.tl (ds n) else TL.tl (ds n) ++ 47 :: TL.tl (ds u) := by
  unfold ratText
  by_cases c : u = 1
  · rw [if_pos c, if_pos c]
  · rw [if_neg c, if_neg c, TL.tl_append, TL.tl_append, List.append_assoc] <;> rfl
theorem first47 : ∀ {a a' b b' : List Nat}, 47 ∉ a → 47 ∉ a' → a ++ 47 :: b = a' ++ 47 :: b' → a = a' ∧ b = b' := by
  intro a
  induction a with
  | nil =>
    intro a' b b' _ h2 e
    cases a' with
    | nil => exact ⟨rfl, List.tail_eq_of_cons_eq e⟩
    | cons c r => exact absurd (by rw [show c = 47 from (List.head_eq_of_cons_eq e).symm]; simp) h2
  | cons c r ih =>
    intro a' b b' h1 h2 e
    cases a' with
    | nil => exact absurd (by rw [show c = 47 from List.head_eq_of_cons_eq e]; simp) h1
    | cons c' r' =>
      obtain ⟨e1, e2⟩ := List.cons.inj e
      obtain ⟨h3, h4⟩ := ih (fun z => h1 (by simp [z])) (fun z => h2 (by simp [z])) e2
      exact ⟨by rw [e1, h3], h4⟩
theorem cut47 : ∀ l : List Nat, 47 ∉ l ∨ ∃ a b, l = a ++ 47 :: b ∧ 47 ∉ a := by
  intro l
  induction l with
  | nil => exact .inl (by simp)
  | cons c r ih =>
    by_cases z : c = 47
    · exact .inr ⟨[], r, by rw [z] <;> rfl, by simp⟩
    · rcases ih with h | ⟨a, b, e, h⟩
      · exact .inl (by simp; exact ⟨fun w => z w.symm, h⟩)
      · exact .inr ⟨c :: a, b, by rw [e] <;> rfl, by simp; exact ⟨fun w => z w.symm, h⟩⟩
theorem is0 {l : List Nat} {n u : Int} (h : 47 ∉ l) : IsT l n u ↔ u = 1 ∧ l = TL.tl (ds n) := by
  unfold IsT
  rw [rt_tl]
  constructor
  · rintro ⟨r, e⟩
    by_cases c : u = 1
    · rw [if_pos c] at e
      exact ⟨c, e⟩
    · rw [if_neg c] at e
      exact absurd (by rw [e]; simp) h
  · rintro ⟨rfl, e⟩
    exact ⟨red_one n, by rw [if_pos rfl]; exact e⟩
theorem is1 {a b : List Nat} {n u : Int} (h : 47 ∉ a) : IsT (a ++ 47 :: b) n u ↔ Red n u ∧ u ≠ 1 ∧ a = TL.tl (ds n) ∧ b = TL.tl (ds u) := by
  unfold IsT
  rw [rt_tl]
  constructor
  · rintro ⟨r, e⟩
    by_cases c : u = 1
    · rw [if_pos c] at e
      exact absurd (by rw [← e]; simp) (ds_free n)
    · rw [if_neg c] at e
      obtain ⟨e1, e2⟩ := first47 h (ds_free n) e
      exact ⟨r, c, e1, e2⟩
  · rintro ⟨r, c, rfl, rfl⟩
    exact ⟨r, by rw [if_neg c]⟩
/-- a word of figures -/
def Fg (l : List Nat) : Prop := NumText.AllDigits l ∧ l ≠ []
instance (l : List Nat) : Decidable (NumText.AllDigits l) := by unfold NumText.AllDigits; exact inferInstance
instance (l : List Nat) : Decidable (Fg l) := by unfold Fg; exact inferInstance
theorem num_ne (n : Nat) : TL.numL n ≠ [] := fun z => by
  have e := dv_num n
  rw [z] at e
  have e0 : (0 : Nat) = n := e
  subst e0
  exact absurd z (by decide)
/-- the number of a word with a sign ahead or none -/
def sv (l : List Nat) : Int := if l.head? = some 45 then -(dv (mn l) : Int) else (dv (mn l) : Int)
theorem mn_pos {l : List Nat} (h : l.head? ≠ some 45) : mn l = l := by
  unfold mn
  split
  · exact absurd rfl h
  · rfl
theorem ds_sv (n : Int) : Fg (mn (TL.tl (ds n))) ∧ sv (TL.tl (ds n)) = n := by
  by_cases z : n < 0
  · have e := tl_ds_neg z
    refine ⟨?_, ?_⟩
    · rw [e]
      exact ⟨TL.numL_digits _, num_ne _⟩
    · unfold sv
      rw [e, if_pos (show (45 :: TL.numL n.natAbs).head? = some 45 from rfl)]
      show -((dv (TL.numL n.natAbs) : Nat) : Int) = n
      rw [dv_num]
      omega
  · obtain ⟨m, rfl⟩ := Int.eq_ofNat_of_zero_le (by omega : 0 ≤ n)
    have e := tl_ds_nat m
    have hd : (TL.numL m).head? ≠ some 45 := fun w => by
      cases hl : TL.numL m with
      | nil => rw [hl] at w; cases w
      | cons c r =>
        rw [hl] at w
        have := TL.numL_digits m c (by rw [hl]; simp)
        have e2 : c = 45 := Option.some.inj w
        omega
    rw [e]
    refine ⟨?_, ?_⟩
    · rw [mn_pos hd]
      exact ⟨TL.numL_digits _, num_ne _⟩
    · unfold sv
      rw [if_neg hd, mn_pos hd, dv_num]
end Lm
namespace Lm
open PySem PySem.Spec PyProof.Rows L2
/-- a text of signs below 128 -/
def Asc (x : Str) : Prop := ∀ c ∈ TL.tl x, c < 128
theorem dig_all : ∀ c < 128, Unicode.isDigit c = decide (48 ≤ c ∧ c ≤ 57) := by decide +kernel
theorem asc_is {x : Str} (h : Asc x) : Txt.isascii x = true := by
  unfold Txt.isascii
  rw [Array.all_eq_true']
  intro c hc
  exact decide_eq_true (h c (by simpa using hc))
theorem fg_is {x : Str} (h : Asc x) : Txt.isdigit x = decide (Fg (TL.tl x)) := by
  unfold Txt.isdigit
  have e1 : x.cps.all Unicode.isDigit = decide (NumText.AllDigits (TL.tl x)) := by
    rw [Bool.eq_iff_iff, Array.all_eq_true', decide_eq_true_eq]
    constructor
    · intro k c hc
      have := k c (by simpa using hc)
      rw [dig_all c (h c hc)] at this
      exact of_decide_eq_true this
    · intro k c hc
      have hc' : c ∈ TL.tl x := by simpa using hc
      rw [dig_all c (h c hc')]
      exact decide_eq_true (k c hc')
  have e2 : decide (x.length > 0) = decide (TL.tl x ≠ []) := by
    refine decide_eq_decide.mpr ?_
    rw [TL.len_tl, gt_iff_lt, List.length_pos_iff]
  rw [e1, e2, Bool.eq_iff_iff, Bool.and_eq_true, decide_eq_true_eq, decide_eq_true_eq, decide_eq_true_eq]
  exact ⟨fun h => ⟨h.2, h.1⟩, fun h => ⟨h.2, h.1⟩⟩
theorem sub_minus (x : Str) : Builtin.Str.subAt x ("-" : Str) 0 = decide ((TL.tl x).head? = some 45) := by
  rw [StrLaws.subAt_eq]
  show (List.take 1 (List.drop 0 (TL.tl x)) == [45]) = _
  rw [List.drop_zero]
  cases h : TL.tl x with
  | nil => rfl
  | cons c r =>
    show (([c] : List Nat) == [45]) = decide (some c = some 45)
    rw [Bool.eq_iff_iff, beq_iff_eq, decide_eq_true_eq]
    exact ⟨fun w => by rw [List.head_eq_of_cons_eq w], fun w => by rw [Option.some.inj w]⟩
theorem rp_tl (x : Str) : TL.tl (Txt.removeprefix x ("-" : Str)) = mn (TL.tl x) := by
  unfold Txt.removeprefix
  rw [sub_minus]
  by_cases c : (TL.tl x).head? = some 45
  · rw [if_pos (decide_eq_true c)]
    obtain ⟨r, e⟩ : ∃ r, TL.tl x = 45 :: r := by
      cases h : TL.tl x with
      | nil => rw [h] at c; cases c
      | cons d r => rw [h] at c; exact ⟨r, by rw [Option.some.inj c]⟩
    show TL.tl (if (x.length - 1 == x.length) = true then x else Builtin.Str.strSub x 1 x.length) = _
    have l : x.length = r.length + 1 := by rw [TL.len_tl, e, List.length_cons]
    rw [if_neg (by rw [l]; simp), TL.tl_strSub_end, e] <;> rfl
  · rw [if_neg (by rw [decide_eq_false c]; decide), mn_pos c] <;> rfl
theorem sw_minus (x : Str) : Txt.startswith x ("-" : Str) = decide ((TL.tl x).head? = some 45) := by
  unfold Txt.startswith
  rw [sub_minus]
  by_cases c : (TL.tl x).head? = some 45
  · have l : 0 + ("-" : Str).length ≤ x.length := by
      show 1 ≤ x.length
      rw [TL.len_tl]
      cases h : TL.tl x with
      | nil => rw [h] at c; cases c
      | cons d r => simp
    rw [decide_eq_true l, Bool.true_and]
  · rw [decide_eq_false c, Bool.and_false]
theorem mn_len (l : List Nat) : (mn l).length ≤ l.length := by
  unfold mn
  split <;> simp
theorem asc_mn {x y : Str} (h : Asc x) (e : TL.tl y = mn (TL.tl x)) : Asc y := fun c hc => by
  rw [e] at hc
  refine h c ?_
  unfold mn at hc
  split at hc
  · rename_i r e2
    rw [e2]
    simp [hc]
  · exact hc
end Lm
namespace Lm
open PySem PySem.Spec PyProof.Rows L2
theorem rgc_all : ∀ k < 40, ∀ h < 64, (Builtin.Range.small (h : Nat) ((h + 64 * k : Nat) : Int) 64 && decide (Builtin.Range.rangeSize (h : Nat) ((h + 64 * k : Nat) : Int) 64 = (k : Nat))) = true := by decide +kernel
theorem rgc {h k : Nat} (a : k < 40) (b : h < 64) : RgC (h : Int) ((h + 64 * k : Nat) : Int) 64 k := by
  obtain ⟨h1, h2⟩ := He.ba (rgc_all k a h b)
  exact ⟨by decide, by decide, h1, of_decide_eq_true h2⟩
def spFigs : Sp := fun vs H Q _ => ∃ x, vs = [.str x] ∧ Q (.bl (decide (Fg (TL.tl x)))) H
def spInt : Sp := fun vs H Q _ => ∃ x, vs = [.str x] ∧ Fg (mn (TL.tl x)) ∧ x.length ≤ 2000 ∧ Q (.int (sv (TL.tl x))) H
theorem sIx_nat {n d j : Nat} (h : j ≤ n) : HT.sIx n d (some (j : Int)) = j := by
  show (if (j : Int) < 0 then ((j : Int) + (n : Int)).toNat else min (j : Int).toNat n) = j
  rw [if_neg (by omega), Int.toNat_natCast]
  omega
theorem cut_tl (z : Str) (i j : Nat) (hi : i ≤ j) (hj : j ≤ z.length) : TL.tl (cutS z (some (i : Int)) (some (j : Int))) = (TL.tl z).extract i j := by
  show TL.tl ⟨(List.take (HT.sIx z.length z.length (some (j : Int)) - HT.sIx z.length 0 (some (i : Int))) (List.drop (HT.sIx z.length 0 (some (i : Int))) z.cps.toList)).toArray⟩ = _
  have e1 : HT.sIx z.length z.length (some (j : Int)) = j := sIx_nat hj
  have e2 : HT.sIx z.length 0 (some (i : Int)) = i := sIx_nat (by omega)
  rw [e1, e2, TL.tl_mk, List.extract_eq_take_drop] <;> rfl
theorem cut_to (z : Str) (j : Nat) (hj : j ≤ z.length) : TL.tl (cutS z none (some (j : Int))) = (TL.tl z).take j := by
  show TL.tl ⟨(List.take (HT.sIx z.length z.length (some (j : Int)) - HT.sIx z.length 0 none) (List.drop (HT.sIx z.length 0 none) z.cps.toList)).toArray⟩ = _
  have e1 : HT.sIx z.length z.length (some (j : Int)) = j := sIx_nat hj
  have e2 : HT.sIx z.length 0 none = 0 := rfl
  rw [e1, e2, TL.tl_mk, List.drop_zero, Nat.sub_zero]
theorem dv_bound {l : List Nat} (h : NumText.AllDigits l) : dv l < 10 ^ l.length := by
  induction l with
  | nil => decide
  | cons c r ih =>
    have e : dv (c :: r) = (0 * 10 + (c - 48)) * 10 ^ r.length + dv r := dv_fold r (0 * 10 + (c - 48))
    have hc := h c (by simp)
    have i := ih fun d hd => h d (by simp [hd])
    rw [e, List.length_cons, Nat.pow_succ]
    have : (0 * 10 + (c - 48)) * 10 ^ r.length ≤ 9 * 10 ^ r.length := Nat.mul_le_mul_right _ (by omega)
    omega
theorem ten_two : (10 : Nat) ^ 2000 < 2 ^ 7000 := by decide +kernel
theorem dv_nb {l : List Nat} (h : NumText.AllDigits l) (g : l.length ≤ 2000) : dv l < 2 ^ 7000 :=
  Nat.lt_trans (Nat.lt_of_lt_of_le (dv_bound h) (Nat.pow_le_pow_right (by decide) g)) ten_two
end Lm
namespace Lm
open PySem PySem.Spec PyProof.Rows L2
/-- the reading of a comprehension over a text -/
theorem lc_str {x : Str} {g : TG} {tt : TT} {te : TE} {vs : List Nat} {σ : L2.St} {H1 : Hp} {D : Addr} {Qd : Hp → Prop} (Pv : Nat → Hp → Prop) (h0 : Pv 0 (upd H1 D (.lst [])))
    (hs : ∀ (i : Nat) (c : Nat) (H : Hp), (TL.tl x)[i]? = some c → Pv i H → g (.str ⟨#[c]⟩) (wipe σ vs) H fun σ2 H2 => wipe σ2 vs = wipe σ vs ∧ tt σ2 H2 fun b H3 => if b = true then te σ2 H3 fun y H4 => ∃ acc, H4 D = some (.lst acc) ∧ acc.length < sizeLine ∧ Pv (i + 1) (upd H4 D (.lst (acc ++ [y]))) else Pv (i + 1) H3)
    (hd : ∀ H, Pv (TL.tl x).length H → Qd H) :
    ∃ W : Nat → Nat → Hp → Prop, (∃ m, W 0 m (upd H1 D (.lst []))) ∧ ∀ i m H, W i m H → ((Its x).stop i H ∧ Qd H) ∨ ((Its x).go i H ∧ ∃ Nx : Hp → Prop, (∀ H', Nx H' → ∃ m', m' < m ∧ W (i + 1) m' H') ∧
      ∀ v H', (Its x).yld i H v H' → g v (wipe σ vs) H' fun σ2 H2 => wipe σ2 vs = wipe σ vs ∧ tt σ2 H2 fun b H3 => if b = true then te σ2 H3 fun y H4 => ∃ acc, H4 D = some (.lst acc) ∧ acc.length < sizeLine ∧ Nx (upd H4 D (.lst (acc ++ [y]))) else Nx H3) := by
  have len : (TL.tl x).length = x.cps.size := by simp
  refine ⟨fun i m H => i + m = (TL.tl x).length ∧ Pv i H, ⟨(TL.tl x).length, by omega, h0⟩, fun i m H ⟨e, p⟩ => ?_⟩
  by_cases c : i < x.cps.size
  · refine .inr ⟨c, Pv (i + 1), fun H' p' => ⟨m - 1, by omega, by omega, p'⟩, fun v H' y => ?_⟩
    obtain ⟨rfl, d, hd', rfl⟩ := y
    exact hs i d H' (by rw [Array.getElem?_toList]; exact hd') p
  · refine .inl ⟨by show x.cps.size ≤ i; omega, hd H ?_⟩
    have : i = (TL.tl x).length := by omega
    rw [← this]
    exact p
/-- a word that is a whole number's text -/
def Wd (l : List Nat) : Prop := Fg l ∧ (1 < l.length → l.head? ≠ some 48)
instance (l : List Nat) : Decidable (Wd l) := by unfold Wd; exact inferInstance
def wv (l : List Nat) : V := if Wd l then .int (dv l : Int) else .non
def spWhl : Sp := fun vs H Q _ => ∃ x, vs = [.str x] ∧ x.length ≤ 2000 ∧ ∀ H', Same H H' → Q (wv (TL.tl x)) H'
def spFrText : Sp := fun vs H Q _ => ∃ p n u, vs = [.ref p] ∧ Fr H p n u ∧ n.natAbs ≤ 1000000 ∧ u.natAbs ≤ 1000000 ∧ Q (.str (ratText n u)) H
end Lm
namespace Lm
open PySem PySem.Spec PyProof.Rows L2
theorem cut_take (z : Str) (j : Nat) : TL.tl (cutS z none (some (j : Int))) = (TL.tl z).take j := by
  by_cases h : j ≤ z.length
  · exact cut_to z j h
  · show TL.tl ⟨(List.take (HT.sIx z.length z.length (some (j : Int)) - 0) (List.drop 0 z.cps.toList)).toArray⟩ = _
    have e1 : HT.sIx z.length z.length (some (j : Int)) = z.length := by
      show (if (j : Int) < 0 then ((j : Int) + (z.length : Int)).toNat else min (j : Int).toNat z.length) = z.length
      rw [if_neg (by omega), Int.toNat_natCast]
      omega
    rw [e1, TL.tl_mk, List.drop_zero, Nat.sub_zero]
    show (TL.tl z).take z.length = (TL.tl z).take j
    rw [List.take_of_length_le (by rw [TL.len_tl]; exact Nat.le_refl _), List.take_of_length_le (by rw [← TL.len_tl]; omega)]
theorem cut_drop (z : Str) (i : Nat) (h : i ≤ z.length) : TL.tl (cutS z (some (i : Int)) none) = (TL.tl z).drop i := by
  show TL.tl ⟨(List.take (z.length - HT.sIx z.length 0 (some (i : Int))) (List.drop (HT.sIx z.length 0 (some (i : Int))) z.cps.toList)).toArray⟩ = _
  rw [sIx_nat h, TL.tl_mk]
  exact List.take_of_length_le (by rw [List.length_drop, ← TL.len_tl]; exact Nat.le_refl _)
theorem spl_hit47 (acc r : List Nat) : TL.spl [47] 0 acc (47 :: r) = acc :: TL.spl [47] 0 [] r := TL.spl_part1 (s := 47) (S := []) (p := []) (rest := r) (acc := acc) (by simp) |>.trans (by rw [List.append_nil])
theorem spl_none47 {acc r : List Nat} (h : 47 ∉ r) : TL.spl [47] 0 acc r = [acc ++ r] := TL.spl_last1 h
theorem spl_cut47 {a b : List Nat} (h : 47 ∉ a) : TL.spl [47] 0 [] (a ++ 47 :: b) = a :: TL.spl [47] 0 [] b := TL.spl_part1 (s := 47) (S := []) (p := a) (rest := b) (acc := []) h
theorem spl_small : ∀ (k : Nat) (l : List Nat), l.length = k → (∀ w ∈ TL.spl [47] 0 [] l, w.length ≤ l.length) ∧ TL.spl [47] 0 [] l ≠ [] ∧ (TL.spl [47] 0 [] l).length ≤ l.length + 1 := by
  intro k
  induction k using Nat.strongRecOn with
  | _ k ih =>
    intro l e
    rcases cut47 l with h | ⟨a, b, rfl, h⟩
    · rw [spl_none47 h]
      refine ⟨fun w hw => ?_, List.cons_ne_nil _ _, by simp⟩
      rw [List.mem_singleton.mp hw]
      simp
    · rw [spl_cut47 h]
      rw [List.length_append, List.length_cons] at e
      obtain ⟨i1, i2, i3⟩ := ih b.length (by omega) b rfl
      refine ⟨fun w hw => ?_, List.cons_ne_nil _ _, ?_⟩
      · rw [List.length_append, List.length_cons]
        rcases List.mem_cons.mp hw with rfl | hw
        · omega
        · have := i1 w hw
          omega
      · rw [List.length_cons, List.length_append, List.length_cons]
        omega
theorem split_tl (x : Str) : (Txt.split x ("/" : Str)).map TL.tl = TL.spl [47] 0 [] (TL.tl x) := TL.split_spl x "/" (by decide +kernel) (TL.kind_ok (by decide +kernel))
theorem num_head : ∀ n : Nat, 0 < n → (TL.numL n).head? ≠ some 48 := by
  intro n
  induction n using Nat.strongRecOn with
  | _ n ih =>
    intro hn
    by_cases t : n < 10
    · rw [numL_ten n t]
      intro w
      have : 48 + n = 48 := Option.some.inj w
      omega
    · have e : n = n / 10 * 10 + n % 10 := by omega
      have i := ih (n / 10) (by omega) (by omega)
      rw [e, numL_snoc _ _ (by omega) (by omega)]
      cases h : TL.numL (n / 10) with
      | nil => exact absurd h (num_ne _)
      | cons c r =>
        rw [h] at i
        exact i
theorem wd_num (n : Nat) : Wd (TL.numL n) := by
  refine ⟨⟨TL.numL_digits n, num_ne n⟩, fun h w => ?_⟩
  by_cases z : n = 0
  · subst z
    exact absurd h (by decide)
  · -- no nought ahead
    by_cases t : n < 10
    · rw [numL_ten n t] at h
      exact absurd h (by simp)
    · exact absurd w (num_head n (by omega))
theorem wd_canon {l : List Nat} (h : Wd l) : TL.numL (dv l) = l := canon l.length l rfl h.1.1 h.1.2 h.2
def spFIn : Sp := fun vs H Q _ => ∃ t, vs = [.str t] ∧ t.length ≤ 2000 ∧ (∀ n u, IsT (TL.tl t) n u → ∀ H' p, Same H H' → H' p = some (.tup [.int n, .int u]) → Q (.ref p) H') ∧ ((∀ n u, ¬ IsT (TL.tl t) n u) → ∀ H', Same H H' → Q .non H')
end Lm
namespace Lm
open PySem PySem.Spec PyProof.Rows L2
theorem mn_app {a b : List Nat} (h : a ≠ []) : mn (a ++ b) = mn a ++ b := by
  cases a with
  | nil => exact absurd rfl h
  | cons c r =>
    by_cases e : c = 45
    · subst e
      rfl
    · rw [mn_pos (l := c :: r) fun w => e (Option.some.inj w)]
      exact mn_pos fun w => e (Option.some.inj w)
theorem mn_ds (n : Int) : mn (TL.tl (ds n)) = TL.numL n.natAbs ∧ TL.tl (ds n) ≠ [] ∧ ((TL.tl (ds n)).head? = some 45 ↔ n < 0) := by
  by_cases z : n < 0
  · rw [tl_ds_neg z]
    exact ⟨rfl, List.cons_ne_nil _ _, ⟨fun _ => z, fun _ => rfl⟩⟩
  · obtain ⟨m, rfl⟩ := Int.eq_ofNat_of_zero_le (by omega : 0 ≤ n)
    have hd : (TL.numL m).head? ≠ some 45 := fun w => by
      cases hl : TL.numL m with
      | nil => rw [hl] at w; cases w
      | cons c r =>
        rw [hl] at w
        have := TL.numL_digits m c (by rw [hl]; simp)
        have e2 : c = 45 := Option.some.inj w
        omega
    rw [tl_ds_nat, Int.natAbs_natCast]
    exact ⟨mn_pos hd, num_ne m, ⟨fun w => absurd w hd, fun w => absurd w z⟩⟩
theorem num47 (n : Nat) : 47 ∉ TL.numL n := fun h => by
  have := TL.numL_digits n 47 h
  omega
theorem ist_words {l : List Nat} {n u : Int} (h : IsT l n u) : ((l.head? = some 45 ↔ n < 0) ∧ 0 < u) ∧ ((u = 1 ∧ TL.spl [47] 0 [] (mn l) = [TL.numL n.natAbs]) ∨ (u ≠ 1 ∧ TL.spl [47] 0 [] (mn l) = [TL.numL n.natAbs, TL.numL u.natAbs] ∧ Red n u)) := by
  obtain ⟨rd, e⟩ := h
  obtain ⟨m1, m2, m3⟩ := mn_ds n
  rw [rt_tl] at e
  have up := rd.pos
  by_cases c : u = 1
  · rw [if_pos c] at e
    rw [e, m1, spl_none47 (num47 _)]
    exact ⟨⟨m3, up⟩, .inl ⟨c, rfl⟩⟩
  · rw [if_neg c] at e
    have hu : TL.tl (ds u) = TL.numL u.natAbs := by
      obtain ⟨m, rfl⟩ := Int.eq_ofNat_of_zero_le (by omega : 0 ≤ u)
      rw [tl_ds_nat] <;> rfl
    have hh : (TL.tl (ds n) ++ 47 :: TL.tl (ds u)).head? = (TL.tl (ds n)).head? := by
      cases h : TL.tl (ds n) with
      | nil => exact absurd h m2
      | cons _ _ => rfl
    rw [e, mn_app m2, m1, hh, spl_cut47 (num47 _), hu, spl_none47 (num47 _)]
    exact ⟨⟨m3, up⟩, .inr ⟨c, rfl, rd⟩⟩
theorem ds_sg {l : List Nat} {v : Nat} (h : mn l = TL.numL v) (hl : ¬ (l.head? = some 45 ∧ v = 0)) : l = TL.tl (ds ((if l.head? = some 45 then -1 else 1) * (v : Int))) := by
  by_cases c : l.head? = some 45
  · rw [if_pos c]
    have vp : 0 < v := Nat.pos_of_ne_zero fun z => hl ⟨c, z⟩
    rw [tl_ds_neg (by omega)]
    have e : ((-1 : Int) * (v : Int)).natAbs = v := by omega
    rw [e, ← h]
    cases l with
    | nil => cases c
    | cons d r =>
      rw [Option.some.inj c] <;> rfl
  · rw [if_neg c, Int.one_mul, tl_ds_nat, ← h, mn_pos c]
theorem cut_of {l : List Nat} {a : List Nat} (h : TL.spl [47] 0 [] l = [a]) : l = a := by
  rcases cut47 l with z | ⟨x, y, rfl, z⟩
  · rw [spl_none47 z] at h
    exact List.head_eq_of_cons_eq h
  · rw [spl_cut47 z] at h
    exact absurd (List.tail_eq_of_cons_eq h) (spl_small _ y rfl).2.1
theorem cut_of2 {l : List Nat} {a b : List Nat} (h : TL.spl [47] 0 [] l = [a, b]) : l = a ++ 47 :: b ∧ 47 ∉ a := by
  rcases cut47 l with z | ⟨x, y, rfl, z⟩
  · rw [spl_none47 z] at h
    cases h
  · rw [spl_cut47 z] at h
    obtain ⟨h1, h2⟩ := List.cons.inj h
    subst h1
    rw [cut_of h2] <;> exact ⟨rfl, z⟩
theorem ist_one {l a : List Nat} (h : TL.spl [47] 0 [] (mn l) = [a]) (w : Wd a) (hl : ¬ (l.head? = some 45 ∧ dv a = 0)) : IsT l ((if l.head? = some 45 then -1 else 1) * (dv a : Int)) 1 := by
  have e := (cut_of h).trans (wd_canon w).symm
  refine ⟨red_one _, ?_⟩
  rw [rt_tl, if_pos rfl]
  exact ds_sg e hl
theorem ist_two {l a b : List Nat} (h : TL.spl [47] 0 [] (mn l) = [a, b]) (wa : Wd a) (wb : Wd b) (hl : ¬ (l.head? = some 45 ∧ dv a = 0)) (rd : Red (dv a : Int) (dv b : Int)) (h2 : 2 ≤ dv b) : IsT l ((if l.head? = some 45 then -1 else 1) * (dv a : Int)) (dv b : Int) := by
  obtain ⟨e, ha⟩ := cut_of2 h
  have rd2 : Red ((if l.head? = some 45 then -1 else 1) * (dv a : Int)) (dv b : Int) := by
    by_cases c : l.head? = some 45
    · rw [if_pos c]
      have : (-1 : Int) * (dv a : Int) = -(dv a : Int) := by omega
      rw [this]
      exact red_neg rd
    · rw [if_neg c, Int.one_mul]
      exact rd
  refine ⟨rd2, ?_⟩
  rw [rt_tl, if_neg (by omega), tl_ds_nat, wd_canon wb]
  have key : ∀ z : List Nat, l = z ++ 47 :: b → mn z = a → z.head? = l.head? → l = TL.tl (ds ((if l.head? = some 45 then -1 else 1) * (dv a : Int))) ++ 47 :: b := by
    intro z e1 e2 e3
    have q := ds_sg (l := z) (v := dv a) (e2.trans (wd_canon wa).symm) (by rw [e3]; exact hl)
    rw [e3] at q
    rw [← q]
    exact e1
  by_cases c : l.head? = some 45
  · obtain ⟨r, el⟩ : ∃ r, l = 45 :: r := by
      cases l with
      | nil => cases c
      | cons d r => exact ⟨r, by rw [Option.some.inj c]⟩
    refine key (45 :: a) ?_ rfl c.symm
    rw [el] at e
    rw [el]
    exact congrArg (45 :: ·) e
  · rw [mn_pos c] at e
    have ne := wa.1.2
    refine key a e (mn_pos fun w => c ?_) ?_
    · rw [e]
      cases a with
      | nil => cases w
      | cons d r => exact w
    · rw [e]
      cases a with
      | nil => exact absurd rfl ne
      | cons d r => rfl
end Lm
namespace Lm
open PySem PySem.Spec PyProof.Rows L2
theorem part_cases (t : Str) : (47 ∉ TL.tl t ∧ Txt.partition t ("/" : Str) = (t, Str.empty, Str.empty)) ∨ ∃ a b : Str, Txt.partition t ("/" : Str) = (a, ("/" : Str), b) ∧ TL.tl t = TL.tl a ++ 47 :: TL.tl b ∧ 47 ∉ TL.tl a := by
  rcases cut47 (TL.tl t) with h | ⟨x, y, e, h⟩
  · exact .inl ⟨h, TL.partition_none (y := ("/" : Str)) (s := 47) (S := []) rfl h⟩
  · refine .inr ⟨⟨x.toArray⟩, ⟨y.toArray⟩, ?_, by rw [TL.tl_mk, TL.tl_mk]; exact e, by rw [TL.tl_mk]; exact h⟩
    have et : t = (⟨x.toArray⟩ : Str) ++ ("/" : Str) ++ (⟨y.toArray⟩ : Str) := TL.ext_tl (e.trans (by
      rw [TL.tl_append, TL.tl_append, List.append_assoc] <;> rfl))
    have z := TL.partition_app (y := ("/" : Str)) (s := 47) (S := []) rfl (a := (⟨x.toArray⟩ : Str)) (b := (⟨y.toArray⟩ : Str)) (by rw [TL.tl_mk]; exact h)
    rw [← et] at z
    exact z
theorem ds_pos {u : Int} (h : 0 < u) : Fg (TL.tl (ds u)) := by
  obtain ⟨m, rfl⟩ := Int.eq_ofNat_of_zero_le (by omega : 0 ≤ u)
  rw [tl_ds_nat]
  exact ⟨TL.numL_digits _, num_ne _⟩
theorem fg_mn {l : List Nat} (h : Fg l) : mn l = l := mn_pos fun w => by
  cases l with
  | nil => cases w
  | cons c r =>
    have := h.1 c (by simp)
    have e : c = 45 := Option.some.inj w
    omega
theorem sv_nb {l : List Nat} (h : Fg (mn l)) (g : l.length ≤ 2000) : Nb (sv l) := by
  have b := dv_nb h.1 (Nat.le_trans (mn_len l) g)
  have e : (sv l).natAbs = dv (mn l) := by
    unfold sv
    split
    · rw [Int.natAbs_neg, Int.natAbs_natCast]
    · rw [Int.natAbs_natCast]
  unfold Nb
  rw [e]
  exact Nat.lt_of_lt_of_le b (Nat.pow_le_pow_right (by decide) (by decide))
end Lm
namespace Lm
open PySem PySem.Spec PyProof.Rows L2
theorem asc_not {x : Str} (h : ¬ Asc x) : Txt.isascii x = false ∧ ¬ Fg (TL.tl x) := by
  refine ⟨?_, fun f => h fun c hc => by have := f.1 c hc; omega⟩
  cases z : Txt.isascii x with
  | false => rfl
  | true =>
    refine absurd (fun c hc => ?_) h
    unfold Txt.isascii at z
    rw [Array.all_eq_true'] at z
    exact of_decide_eq_true (z c (by simpa using hc))
theorem cut_len (z : Str) (lo hi : Option Int) : (cutS z lo hi).length ≤ z.length := by
  rw [TL.len_tl, TL.len_tl]
  show (TL.tl ⟨(List.take _ (List.drop _ z.cps.toList)).toArray⟩).length ≤ _
  rw [TL.tl_mk, List.length_take, List.length_drop]
  exact Nat.le_trans (Nat.min_le_right _ _) (Nat.sub_le _ _)
end Lm
namespace Lm
open PySem PySem.Spec PyProof.Rows L2
def Two9 (k : Int) : Prop := k = 40 ∨ k = 900
theorem nines {n : Nat} {k : Int} (e : (repS "9" k).cps.toList = List.replicate n 57) (h0 : n ≠ 0) (h1 : n ≤ 4300) (v : PySem.NumText.digitsVal (List.replicate n 57) = 10 ^ n - 1) : PySem.intText? (repS "9" k) = some (((10 ^ n - 1 : Nat) : Int)) := by
  have l : (repS "9" k).length = n := by
    have := congrArg List.length e
    rw [Array.length_toList, List.length_replicate] at this
    exact this
  rw [PySem.intText_digits (x := repS "9" k) (by rw [e]; intro c hc; rw [(List.mem_replicate.mp hc).2]; decide) (by rw [e]; intro z; exact h0 (by have := congrArg List.length z; simpa using this)) (by omega), e, v]
theorem two9_text {k : Int} (h : Two9 k) : PySem.intText? (repS "9" k) = some (10 ^ k.toNat - 1) ∧ (repS "9" k).length ≤ 900 := by
  rcases h with rfl | rfl
  · exact ⟨(nines (n := 40) (by decide +kernel) (by decide) (by decide) (by decide +kernel)).trans (by decide +kernel), by decide +kernel⟩
  · exact ⟨(nines (n := 900) (by decide +kernel) (by decide) (by decide) (by decide +kernel)).trans (by decide +kernel), by decide +kernel⟩
theorem op_rep9 {X : Cx} : OpR X (binaryOp .Mult) (fun x y H Q => ∃ k, x = .str "9" ∧ y = .int k ∧ Two9 k ∧ Q (.str (repS "9" k)) H) := by
  intro pins s σ H x y v u Q I rx ry h
  obtain ⟨k, rfl, rfl, hk, q⟩ := h
  obtain ⟨t, rfl⟩ := rx
  obtain ⟨t', rfl⟩ := ry
  have ha : ("9" : Str).length = 1 := rfl
  have c1 : ¬ k < 1 := by rcases hk with rfl | rfl <;> decide
  have c2 : (k == 1 || ("9" : Str).length == 0) = false := by
    rw [ha]
    rcases hk with rfl | rfl <;> decide
  refine PySem.P.mul_str ?_ (fun _ _ => ?_) (fun _ _ => ?_) ?_
  · rcases hk with rfl | rfl <;> decide
  · rw [ha]
    rcases hk with rfl | rfl <;> decide
  · rw [ha]
    rcases hk with rfl | rfl <;> decide +kernel
  rw [if_neg c1, if_neg (by rw [c2]; decide)]
  refine ⟨?_, .str (repS "9" k), H, I.tok _, ⟨_, rfl⟩, q⟩
  rw [sizeLine_eq]
  exact Nat.le_trans (two9_text hk).2 (by decide)
theorem great_ok {k i : Int} (h : Two9 k) (i0 : 0 ≤ i) (i1 : i < 1000) : Nb (10 ^ k.toNat - 1 - i) ∧ (ds (10 ^ k.toNat - 1 - i)).length ≤ 900 := by
  have b : (0 : Int) ≤ 10 ^ k.toNat - 1 - i ∧ (10 : Int) ^ k.toNat - 1 - i < 10 ^ 900 := by
    rcases h with rfl | rfl
    · have e1 : (10 : Int) ^ (40 : Int).toNat ≤ 10 ^ 900 := by decide +kernel
      have e2 : (1000 : Int) ≤ 10 ^ (40 : Int).toNat := by decide +kernel
      generalize (10 : Int) ^ (40 : Int).toNat = A at *
      generalize (10 : Int) ^ 900 = B at *
      omega
    · have e2 : (1000 : Int) ≤ 10 ^ 900 := by decide +kernel
      show (0 : Int) ≤ 10 ^ 900 - 1 - i ∧ (10 : Int) ^ 900 - 1 - i < 10 ^ 900
      generalize (10 : Int) ^ 900 = B at *
      omega
  generalize (10 : Int) ^ k.toNat - 1 - i = N at *
  obtain ⟨m, rfl⟩ := Int.eq_ofNat_of_zero_le b.1
  have e3 : ((10 ^ 900 : Nat) : Int) = 10 ^ 900 := by decide +kernel
  have lt : m < 10 ^ 900 := by
    have z := b.2
    rw [← e3] at z
    exact Int.ofNat_lt.mp z
  refine ⟨?_, ?_⟩
  · unfold Nb
    rw [Int.natAbs_natCast]
    exact Nat.lt_trans lt (by decide +kernel)
  · rw [TL.len_tl, tl_ds_nat]
    exact TL.numL_len (by decide) lt
end Lm
namespace Lm
open PySem PySem.Spec PyProof.Rows L2
theorem cut_mem {z : Str} {lo hi : Option Int} {c : Nat} (h : c ∈ TL.tl (cutS z lo hi)) : c ∈ TL.tl z := by
  have e : TL.tl (cutS z lo hi) = List.take (HT.sIx z.length z.length hi - HT.sIx z.length 0 lo) (List.drop (HT.sIx z.length 0 lo) (TL.tl z)) := TL.tl_mk _
  rw [e] at h
  exact List.mem_of_mem_drop (List.mem_of_mem_take h)
theorem asc_cut {z : Str} {lo hi : Option Int} (h : Asc z) : Asc (cutS z lo hi) := fun c hc => h c (cut_mem hc)
theorem asc_app {x y : Str} (h : Asc x) (g : Asc y) : Asc (x ++ y) := fun c hc => by
  rw [TL.tl_append] at hc
  rcases List.mem_append.mp hc with hc | hc
  · exact h c hc
  · exact g c hc
theorem asc_ds (i : Int) : Asc (ds i) := fun c hc => by
  by_cases z : i < 0
  · rw [tl_ds_neg z] at hc
    rcases List.mem_cons.mp hc with rfl | hc
    · decide
    · have := TL.numL_digits _ c hc
      omega
  · obtain ⟨m, rfl⟩ := Int.eq_ofNat_of_zero_le (by omega : 0 ≤ i)
    rw [tl_ds_nat] at hc
    have := TL.numL_digits _ c hc
    omega
instance (x : Str) : Decidable (Asc x) := by unfold Asc; exact inferInstance
theorem asc_rt (n u : Int) : Asc (ratText n u) := by
  unfold ratText
  split
  · exact asc_ds n
  · exact asc_app (asc_app (asc_ds n) (by decide +kernel)) (asc_ds u)
/-- repr of a text of such signs -/
theorem asc_repr {x : Str} (h : Asc x) (l : x.length ≤ 2000) : (PyData.str x).showable = true ∧ (PyData.str x).depth ≤ 60 ∧ (PyData.str x).shown.length ≤ sizeLine := by
  refine ⟨rfl, Nat.zero_le _, ?_⟩
  have z := StrLaws.reprText_len x fun c hc => Nat.lt_trans (h c hc) (by decide)
  rw [sizeLine_eq]
  show (reprText x).length ≤ _
  omega
end Lm

namespace Lm
open PySem PySem.Spec PyProof.Rows L2
/-! ## A static method's def, found behind its class's attribute -/
def stP (K : PySem.W.Frag) (C m : Str) : Addr := He.ma K (He.ga K C) m
def stA (K : PySem.W.Frag) (C m : Str) : Addr := match PySem.W.recIn K (stP K C m) "staticmethod" with
  | some (.ref g :: _) => g
  | _ => 0
def fnAt (K : PySem.W.Frag) (g : Addr) : He.FnW := match List.lookup g K with
  | some { cls := _, dict := _, data := Data.func fd, slots := _ } => some (fd.name, fd.qualname, fd.params, fd.body, fd.scope, fd.globals, fd.closure, fd.builtins)
  | _ => none
def okAt (K : PySem.W.Frag) (g : Addr) (qual : Str) : Bool := PySem.W.keepIn K (.ref g) && match List.lookup g K with
  | some { cls := _, dict := _, data := Data.func fd, slots := _ } => PySem.W.codeIn K fd.code qual && (He.dflB K fd.defaults [] && He.kwdB K fd.kwdefaults [])
  | _ => false
theorem funS {K : PySem.W.Frag} {g : Addr} {x qual : Str} {params : Arguments} {body : List Stmt} {scope : Scope} (e : fnAt K g = some (x, qual, params, FuncBody.stmts body, scope, mainGlobals, [], builtinsNs)) (c : okAt K g qual = true) : ∃ fd, FunD K x qual params body scope [] [] g fd := by
  obtain ⟨kp, c2⟩ := He.ba c
  unfold fnAt at e
  cases h : List.lookup g K with
  | none =>
    rw [h] at e
    cases e
  | some o =>
    obtain ⟨oc, od, dt, osl⟩ := o
    rw [h] at e c2
    cases dt with
    | func fd =>
      obtain ⟨c3, c4⟩ := He.ba c2
      obtain ⟨c5, c6⟩ := He.ba c4
      obtain ⟨n1, n2, n3, n4, n5, n6, n7, n8, n9, n10, n11, n12, n13, n14⟩ := fd
      simp only [Option.some.injEq, Prod.mk.injEq] at e
      obtain ⟨rfl, rfl, rfl, rfl, rfl, rfl, rfl, rfl⟩ := e
      exact ⟨_, ⟨⟨_, _, _, _, _, _, _, _, _, _, rfl, h, c3, He.dflB_ok c5, He.kwdB_ok c6⟩, kp⟩⟩
    | _ => cases e
/-- the class has this static method -/
def stB (K : PySem.W.Frag) (C m : Str) : Bool := PySem.W.readsIn K (He.ga K C) (.type "type") && (He.eqO (PySem.W.specialIn K (.ref (He.ga K C)) (Str.ofString "__getattribute__")) (some (some (.builtin "type.__getattribute__"))) &&
  (match PySem.W.findCls K (.ref (He.ga K C)) (.type "type") m with
  | some (.get a b c d) => decide (a = .builtin "staticmethod.__get__") && (decide (b = .ref (stP K C m)) && (decide (c = .none) && decide (d = .ref (He.ga K C))))
  | _ => false) && (match PySem.W.recIn K (stP K C m) "staticmethod" with
  | some (.ref _ :: _) => true
  | _ => false))
theorem stB_ok {K : PySem.W.Frag} {C m : Str} (h : stB K C m = true) (kp : PySem.W.keepIn K (.ref (stA K C m)) = true) : ClX.CRead K (He.ga K C) (.type "type") ∧ SMet K (He.ga K C) (.type "type") m (stP K C m) (stA K C m) := by
  obtain ⟨h1, h2⟩ := He.ba h
  obtain ⟨h3, h4⟩ := He.ba h2
  obtain ⟨h5, h6⟩ := He.ba h3
  refine ⟨⟨h1, He.eqO_ok h5⟩, ?_, ?_, kp⟩
  · split at h6
    · rename_i a b c d e
      obtain ⟨x1, x2⟩ := He.ba h6
      obtain ⟨x3, x4⟩ := He.ba x2
      obtain ⟨x5, x6⟩ := He.ba x4
      rw [e, of_decide_eq_true x1, of_decide_eq_true x3, of_decide_eq_true x5, of_decide_eq_true x6]
    · cases h6
  · unfold stA
    split at h4
    · rename_i g rest e
      exact ⟨rest, by rw [e]⟩
    · cases h4
/-- the Frag of a list of addresses: with the namespace of what is kept aside, so that classes can be read -/
def asS (g : Addr → Option Obj) (n : Nat) : List Addr := cStatics :: He.asD g n
def frS (g : Addr → Option Obj) (n : Nat) : PySem.W.Frag := He.frT g (asS g n)
def obsS (n : Nat) (fa : List He.Fa) (fn : List He.DefD) (ts : List He.Tab) (tf : List He.Defn) (ex : PySem.W.Frag → Bool) (g : Addr → Option Obj) : He.AlX :=
  let K := frS g n
  (He.obsT fa fn ts K, ex K && He.tabsB g tf K)
theorem tabsS {g : Addr → Option Obj} {tf : List He.Defn} {K : PySem.W.Frag} (h : He.tabsB g tf K = true) {p : He.Defn} (hp : p ∈ tf) :
    PySem.W.codeHdIn K (He.cT K p).1 (He.cT K p).2 = true ∧ ∃ o, g (He.cT K p).2 = some o ∧ He.emptyTab o = true := by
  have b := He.ba (List.all_eq_true.mp h p hp)
  refine ⟨b.1, ?_⟩
  have b2 := b.2
  split at b2
  · exact ⟨_, by assumption, b2⟩
  · cases b2
theorem saysS {n : Nat} {fa : List He.Fa} {fn : List He.DefD} {ts : List He.Tab} {tf : List He.Defn} {ex : PySem.W.Frag → Bool} {w : World} {h : Heap} (e : obsS n fa fn ts tf ex h.get? = He.valX fn ts w) :
    He.SaysX fa fn ts tf ex w h (frS h.get? n) := by
  have e1 := congrArg Prod.fst e
  have e2 : (ex (frS h.get? n) && He.tabsB h.get? tf (frS h.get? n)) = true := congrArg Prod.snd e
  obtain ⟨x1, x2⟩ := He.ba e2
  constructor
  · exact e1
  · exact x1
  · intro p hp
    exact (tabsS x2 hp).1
  · intro p hp
    obtain ⟨_, o, q, z⟩ := tabsS x2 hp
    exact He.frT_none q z
  · intro p hp
    obtain ⟨_, o, q, z⟩ := tabsS x2 hp
    rw [q, He.emptyTab_eq z]
def hookS (n : Nat) (fa : List He.Fa) (fn : List He.DefD) (ts : List He.Tab) (tf : List He.Defn) (ex : PySem.W.Frag → Bool) (C m : Str) (val : He.FnW) : PySem.W.Hook where
  α := He.AlX × (Bool × He.FnW)
  obs := fun s => (obsS n fa fn ts tf ex s.heap.get?, modsB s.heap.get?, fnAt (frS s.heap.get? n) (stA (frS s.heap.get? n) C m))
  val := fun w => (He.valX fn ts w, true, val)
  says := fun w h => (∃ K : PySem.W.Frag, K.In h ∧ He.SaysX fa fn ts tf ex w h K ∧ fnAt K (stA K C m) = val) ∧ ∃ mm, h.Ns sysModules mm
  of := fun w s e => by
    have e1 := congrArg (fun z : He.AlX × (Bool × He.FnW) => z.1) e
    have e2 := congrArg (fun z : He.AlX × (Bool × He.FnW) => z.2.1) e
    have e3 := congrArg (fun z : He.AlX × (Bool × He.FnW) => z.2.2) e
    exact ⟨⟨_, He.frT_in, saysS e1, e3⟩, modsB_ok e2⟩
  keeps := fun w h h' ⟨⟨K, KX, sx, ef⟩, mm, b⟩ k => by
    refine ⟨?_, mm, b.keepsP k⟩
    refine ⟨K, KX.keeps k, ⟨sx.t, sx.more, sx.hd, sx.out, fun p hp => k _ _ (sx.empty p hp)⟩, ef⟩
end Lm

namespace K03
open PySem PySem.Spec PyProof.Rows L2 Lm
open C8 (Cal Mak Met pe_c pe_mk pe_mt pe_mt0 pss_cut tCut)
open LamX (CodeO TabS Tabs ExtN TabB LamS lamCx lamEnv lamS_by)
--KR 11
--ERR ["BadRatio", "BadText"]
def top (i : Nat) : Stmt := PySem.Challenge.pw_loosemirrors_k03_texts_of_ratios.main.body.getD i (.Pass ⟨0, 0, 0, 0⟩)
abbrev s_MirrorError_init : Stmt := inClass (top 5) 0
abbrev n_MirrorError_init : List Str := ["self", "value"]
abbrev p_MirrorError_init : List Str := ["self", "value"]
theorem sc_MirrorError_init : FnScope n_MirrorError_init p_MirrorError_init (defScope s_MirrorError_init) := ⟨rfl, rfl, rfl, by decide +kernel, rfl, by decide +kernel, by decide +kernel⟩
abbrev s_is_whole : Stmt := top 3
abbrev n_is_whole : List Str := ["value"]
abbrev p_is_whole : List Str := ["value"]
theorem sc_is_whole : FnScope n_is_whole p_is_whole (defScope s_is_whole) := ⟨rfl, rfl, rfl, by decide +kernel, rfl, by decide +kernel, by decide +kernel⟩
abbrev s_figures_of : Stmt := top 12
abbrev n_figures_of : List Str := ["number", "rest", "blocks", "block"]
abbrev p_figures_of : List Str := ["number"]
theorem sc_figures_of : FnScope n_figures_of p_figures_of (defScope s_figures_of) := ⟨rfl, rfl, rfl, by decide +kernel, rfl, by decide +kernel, by decide +kernel⟩
abbrev s_Ratio_init : Stmt := inClass (top 15) 0
abbrev n_Ratio_init : List Str := ["self", "number", "under", "shared"]
abbrev p_Ratio_init : List Str := ["self", "number", "under"]
theorem sc_Ratio_init : FnScope n_Ratio_init p_Ratio_init (defScope s_Ratio_init) := ⟨rfl, rfl, rfl, by decide +kernel, rfl, by decide +kernel, by decide +kernel⟩
abbrev s_Ratio_repr : Stmt := inClass (top 15) 3
abbrev n_Ratio_repr : List Str := ["self"]
abbrev p_Ratio_repr : List Str := ["self"]
theorem sc_Ratio_repr : FnScope n_Ratio_repr p_Ratio_repr (defScope s_Ratio_repr) := ⟨rfl, rfl, rfl, by decide +kernel, rfl, by decide +kernel, by decide +kernel⟩
abbrev s_Ratio_eq : Stmt := inClass (top 15) 4
abbrev n_Ratio_eq : List Str := ["self", "other"]
abbrev p_Ratio_eq : List Str := ["self", "other"]
theorem sc_Ratio_eq : FnScope n_Ratio_eq p_Ratio_eq (defScope s_Ratio_eq) := ⟨rfl, rfl, rfl, by decide +kernel, rfl, by decide +kernel, by decide +kernel⟩
abbrev s_text_of : Stmt := top 18
abbrev n_text_of : List Str := ["number", "under"]
abbrev p_text_of : List Str := ["number", "under"]
theorem sc_text_of : FnScope n_text_of p_text_of (defScope s_text_of) := ⟨rfl, rfl, rfl, by decide +kernel, rfl, by decide +kernel, by decide +kernel⟩
theorem seq_ofA {t u : TS} {D : Ends} {σ : L2.St} {H : Hp} (h : t { D with nx := u D } σ H) : tSeq t u D σ H := h
theorem asg_ofA {te : TE} {g : TG} {D : Ends} {σ : L2.St} {H : Hp} (h : te σ H fun x H1 => g x σ H1 D.nx) : tAsg te g D σ H := h
theorem unpackA {K : PySem.W.Frag} {p : Addr} {c m : V} {i j : Nat} {σ : L2.St} {H : Hp} {N : L2.St → Hp → Prop} (e : H p = some (.tup [c, m])) (q : N ((σ.set i (some c)).set j (some m)) H) : gTup K 2 (gCons (gName i) (gCons (gName j) gNil)) (.ref p) σ H N :=
  ⟨p, _, rfl, SqT.of e, rfl, _, _, rfl, _, _, rfl, rfl, q⟩
theorem fig_end {K : PySem.W.Frag} {σ : L2.St} {H : Hp} {l : Addr} {n : Int} {D : Ends} (hv : σ[2]? = some (some (.ref l))) (e : H l = some (.lst ((figL n).map V.str))) (nb : Nb n) (k : ∀ H', Same H H' → D.rt (.str (ds n)) H') : tRet (tM1 (rJn K) (tC (.str "")) (tRevL K (tVar 2))) D σ H := by
  have few := figL_few nb
  refine ⟨⟨_, rfl⟩, _, hv, l, _, rfl, SqL.of e, fun p hp => ⟨_, p, (figL n).reverse, rfl, rfl, .inl (SqL.of ?_), ?_, ?_⟩⟩
  · rw [List.map_reverse]
    exact upd_same
  · rw [List.map_reverse, List.sum_reverse, List.length_reverse]
    have : (("" : Str)).length = 0 := rfl
    rw [this]
    omega
  · rw [figs_eq]
    exact k _ (Same.new hp)
theorem raise_two {P : Program} {w : World} {K : PySem.W.Frag} {mg : Str → Option Value} {base : Heap} {ns : List Str} {x : Str} {i j : Nat} {a b : V} {σ : L2.St} {H : Hp} {E : XK} (Z : ErrL P w K mg base ns) (hx : x ∈ ns) (ha : σ[i]? = some (some a)) (hb : σ[j]? = some (some b)) (h : Wish2 K H E x a b) :
    tRaise K x (tCons (tTup (tCons (tVar i) (tCons (tVar j) tNil))) tNil) σ H E :=
  raise_ok (te := tTup (tCons (tVar i) (tCons (tVar j) tNil))) Z hx ⟨_, ha, _, hb, (by show 2 ≤ sizeLine; decide), fun p hp d H2 s nd e => h d p H2 ((Same.new hp).trans s) (by
    by_cases z : d = p
    · rw [z, upd_same] at nd
      cases nd
    · rw [upd_ne z] at nd
      exact nd) hp (s _ _ upd_same) e⟩ fun ⟨v, e, u, f, l, q⟩ k => ⟨v, e, u, f, l, fun p hp => k _ _ (q p hp)⟩
theorem rinit_end {K : PySem.W.Frag} {mg : Str → Option Value} {H : Hp} {x dx : Addr} {n u g : Int} {D : Ends} (RC : RatC K mg) (hx : H x = some (.ins (ratA K) dx [])) (eg : g = sg n u) (u0 : u ≠ 0) (nb : Nb n) (ub : Nb u) (k : ∀ H', KeptBut x H H' → RatAt K H' x (rn n u) (ru n u) → D.nx [some (.ref x), some (.int n), some (.int u), some (.int g)] H') :
    tSeq (sFld K (tVar 0) (tOp (rI CDivZ fun i j => V.int (i.fdiv j)) (tVar 1) (tVar 3)) "number") (tSeq (sFld K (tVar 0) (tOp (rI CDivZ fun i j => V.int (i.fdiv j)) (tVar 2) (tVar 3)) "under")
      (sFld K (tVar 0) (tCall spRText [] E0 (tCons (tFld K (tVar 0) "number") (tCons (tFld K (tVar 0) "under") tNil))) "text")) D [some (.ref x), some (.int n), some (.int u), some (.int g)] H := by
  subst eg
  have c : sg n u ≠ 0 ∧ (sg n u).natAbs.log2 < 9000 := ⟨sg_ne u0, (nb_sg u0 ub).log⟩
  refine ⟨_, rfl, _, rfl, _, _, rfl, rfl, c, _, rfl, x, ratA K, dx, [], rfl, hx, RC.cl, RC.nN, (show 0 < 1000 by decide), ?_⟩
  rw [rput1]
  refine ⟨_, rfl, _, rfl, _, _, rfl, rfl, c, _, rfl, x, ratA K, dx, _, rfl, upd_same, RC.cl, RC.nU, (show 1 < 1000 by decide), ?_⟩
  rw [rput2]
  refine ⟨_, rfl, x, ratA K, dx, _, .int (rn n u), rfl, upd_same, RC.cl, RC.nN, rfl, _, rfl, x, ratA K, dx, _, .int (ru n u), rfl, upd_same, RC.cl, RC.nU, rfl, _, _, rfl, nb_rn u0 nb, nb_ru u0 ub, fun H3 s3 => ⟨_, rfl, x, ratA K, dx, _, rfl, s3 _ _ upd_same, RC.cl, RC.nT, (show 2 < 1000 by decide), ?_⟩⟩
  rw [rput3]
  refine k _ (fun b o e nb => ?_) ⟨dx, upd_same⟩
  rw [upd_ne nb]
  refine s3 _ _ ?_
  rw [upd_ne nb, upd_ne nb]
  exact e
section
variable {P : Program} {w : World} {K : PySem.W.Frag} {mg : Str → Option Value} {base : Heap} {f : Addr} {fd : FuncData}
theorem ok_err_init (F : FunD K "__init__" "MirrorError.__init__" (defArgs s_MirrorError_init) (defBody s_MirrorError_init) (defScope s_MirrorError_init) [] [] f fd) : FnOk P w K mg base CX0 1 f fd ["self", "value"] (spErr K) := by
  refine F.ok sc_MirrorError_init (fun vs H Q E h => ?_) (fun cdv A outer s H vs Q E hr h => ⟨_, (pss_one (ps_ost (pv 0) (pv 1) rfl)), ?_⟩)
  · obtain ⟨a, C, v, rfl, _⟩ := h
    rfl
  obtain ⟨a, C, v, rfl, T, nv, ha, k⟩ := h
  exact ⟨_, rfl, _, rfl, a, C, rfl, T, nv, .inl ⟨ha, k⟩⟩
theorem ok_whole (F : FunD K "is_whole" "is_whole" (defArgs s_is_whole) (defBody s_is_whole) (defScope s_is_whole) [] [] f fd) (hm : mg "is_whole" = some (.ref f)) (T : Bl mg base) : Cal P w K mg base 1 "is_whole" (spWhole K) [] := by
  refine calD F hm sc_is_whole (fun _ _ _ _ _ _ us hl => match us, hl with | [_], _ => rfl) (fun vs H Q E h => ?_) (fun cdv A outer s H vs Q E hr h => ?_)
  · obtain ⟨v, rfl, _⟩ := h
    rfl
  obtain ⟨v, rfl, ⟨t, bi, bb, ty, k1, k2, e⟩, q⟩ := h
  refine ⟨_, (pss_one (ps_ret (pe_and (pe_callB call_isR (by rfl) T.isinstance (by decide +kernel) (pa_cons (pv 0) (pa_cons (pe_bltn (v := .ty "int") (by rfl) T.int (by decide +kernel) rfl) pa_nil))) (pe_one (pe_not (pe_callB call_isR (by rfl) T.isinstance (by decide +kernel) (pa_cons (pv 0) (pa_cons (pe_bltn (v := .ty "bool") (by rfl) T.bool (by decide +kernel) rfl) pa_nil)))))))), ?_⟩
  rw [← e] at q
  refine ⟨_, rfl, _, _, t, _, bi, rfl, .ty _, .inl ty, k1, bi, rfl, ?_⟩
  cases bi with
  | true => exact iteT ⟨_, rfl, _, _, t, _, bb, rfl, .ty _, .inl ty, k2, bb, rfl, q⟩
  | false => exact iteF q
theorem ok_figures (F : FunD K "figures_of" "figures_of" (defArgs s_figures_of) (defBody s_figures_of) (defScope s_figures_of) [] [] f fd) (hm : mg "figures_of" = some (.ref f)) (T : Bl mg base) (W64 : ∃ u, mg "WIDTH" = some u ∧ RelV (.int 64) u) (B64 : ∃ u, mg "BLOCK" = some u ∧ RelV (.int (10 ^ 64)) u) (divmod0 : mg "divmod" = none) : Cal P w K mg base 1 "figures_of" spFig [] := by
  refine calD F hm sc_figures_of (fun _ _ _ _ _ _ us hl => match us, hl with | [_], _ => rfl) (fun vs H Q E h => ?_) (fun cdv A outer s H vs Q E hr h => ?_)
  · obtain ⟨n, rfl, _⟩ := h
    rfl
  obtain ⟨n, rfl, nb, k⟩ := h
  refine ⟨_, (pss_cons (ps_set (i := 1) sc_figures_of.nd rfl (by first | exact Or.inl rfl | exact Or.inr rfl) (pe_callB call_abs (by rfl) T.abs (by decide +kernel) (pa_cons (pv 0) pa_nil)))
    (pss_cons (ps_set (i := 2) sc_figures_of.nd rfl (by first | exact Or.inl rfl | exact Or.inr rfl) (pe_lst pa_nil))
    (pss_cons (ps_while PassesOwn.never (pt_cmpR op_ge (pv 1) (C8.pe_gc (v := .int (10 ^ 64)) (by rfl) B64) (nomark _))
    (pss_cons (ps_asg (pe_callB call_divmodW (by rfl) divmod0 (by decide +kernel) (pa_cons (pv 1) (pa_cons (C8.pe_gc (v := .int (10 ^ 64)) (by rfl) B64) pa_nil))) (pg_tup rfl (pgs_cons (pg_name (i := 1) sc_figures_of.nd rfl (by first | exact Or.inl rfl | exact Or.inr rfl)) (pgs_cons (pg_name (i := 3) sc_figures_of.nd rfl (by first | exact Or.inl rfl | exact Or.inr rfl)) pgs_nil))))
    (pss_one (ps_expr (pe_bm PySem.F.plainAttrs_list PySem.F.slot_list_append PySem.F.type_list_append mt_append (pv 2) (pa_cons (pe_bm PySem.F.plainAttrs_str PySem.F.slot_str_zfill PySem.F.type_str_zfill mt_zfill (pe_callTy call_str_int (by rfl) T.str (by decide +kernel) (pa_cons (pv 3) pa_nil)) (pa_cons (C8.pe_gc (v := .int 64) (by rfl) W64) pa_nil)) pa_nil))))))
    (pss_cons (ps_expr (pe_bm PySem.F.plainAttrs_list PySem.F.slot_list_append PySem.F.type_list_append mt_append (pv 2) (pa_cons (pe_callTy call_str_int (by rfl) T.str (by decide +kernel) (pa_cons (pv 1) pa_nil)) pa_nil)))
    (pss_cons (ps_if (pt_cmpR op_lt (pv 0) pe_int (nomark _)) (pss_one (ps_expr (pe_bm PySem.F.plainAttrs_list PySem.F.slot_list_append PySem.F.type_list_append mt_append (pv 2) (pa_cons pe_str pa_nil)))) pss_nil)
    (pss_one (ps_ret (pe_join pe_str (pe_revL (pv 2)))))))))), ?_⟩
  have pos64 : (0 : Int) < 10 ^ 64 := by decide +kernel
  have nlt : (if n < 0 then -n else n) = (n.natAbs : Int) := by split <;> omega
  refine ⟨_, rfl, _, rfl, (by show 0 ≤ sizeLine; exact Nat.zero_le _), fun l hl => ?_⟩
  rw [nlt]
  refine while_by (fun σ H' => ∃ (r : Nat) (bs : List Str) (z : Option V), σ = [some (.int n), some (.int (r : Int)), some (.ref l), z] ∧ Same H H' ∧ H' l = some (.lst (bs.map V.str)) ∧ bs ++ figB r = figB n.natAbs) (fun σ _ => match σ with
    | [_, some (.int r), _, _] => r.toNat
    | _ => 0) ⟨n.natAbs, [], none, rfl, Same.new hl, upd_same, rfl⟩ ?_ ?_
  · rintro σ H' ⟨r, bs, z, rfl, s, el, eq⟩
    have few := (figL_few nb).1
    have few2 : bs.length + (figB r).length ≤ 2711 := by
      have := congrArg List.length eq
      rw [List.length_append] at this
      unfold figL at few
      rw [List.length_append] at few
      omega
    refine ⟨_, rfl, _, _, rfl, rfl, _, rfl, ite2 (fun h => ?_) (fun h => ?_)⟩
    · have h := of_decide_eq_true h
      have hr64 : ¬ r < 10 ^ 64 := fun z => by
        have z2 : (r : Int) < ((10 ^ 64 : Nat) : Int) := Int.ofNat_lt.mpr z
        have z3 : ((10 ^ 64 : Nat) : Int) = 10 ^ 64 := by decide +kernel
        omega
      have eB := figB_ge hr64
      have e1 : (r : Int) / 10 ^ 64 = ((r / 10 ^ 64 : Nat) : Int) := rfl
      have e2 : (r : Int) % 10 ^ 64 = ((r % 10 ^ 64 : Nat) : Int) := rfl
      have lm : r % 10 ^ 64 < 10 ^ 64 := Nat.mod_lt r (by decide +kernel)
      refine seq_ofA (asg_ofA ⟨_, rfl, _, _, rfl, ⟨pos64, PyProof.noPylong_of_log2 (by decide +kernel)⟩, fun p hp => ?_⟩)
      rw [e1, e2]
      have np : ∀ {b : Addr} {o : HO}, H' b = some o → b ≠ p := fun e => ne_of_none e hp
      refine unpackA (i := 1) (j := 3) upd_same ?_
      refine ⟨_, rfl, .inl ⟨rfl, _, SqL.of ((upd_ne (np el)).trans el)⟩, ⟨_, rfl, _, rfl, (by
        have : (((r % 10 ^ 64 : Nat) : Int)).natAbs = r % 10 ^ 64 := Int.natAbs_natCast _
        rw [this]
        by_cases z : r % 10 ^ 64 = 0
        · rw [z]
          decide
        · exact (Nat.log2_lt z).mpr (Nat.lt_trans lm (by decide +kernel))), rfl, _, _, rfl, rfl, (by decide +kernel), l, _, _, rfl, rfl, (upd_ne (np el)).trans el, ?_, ?_⟩⟩
      · rw [List.length_map, sizeLine_eq]
        omega
      · refine ⟨⟨r / 10 ^ 64, bs ++ [Txt.zfill (ds ((r % 10 ^ 64 : Nat) : Int)) 64], _, rfl, fun b o e => ?_, ?_, ?_⟩, ?_⟩
        · have e3 := s b o e
          rw [upd_ne (ne_of_none e hl), upd_ne (np e3)]
          exact e3
        · rw [List.map_append]
          exact upd_same
        · rw [List.append_assoc, ← eq, eB] <;> rfl
        · show ((r / 10 ^ 64 : Nat) : Int).toNat < ((r : Nat) : Int).toNat
          rw [Int.toNat_natCast, Int.toNat_natCast]
          exact Nat.div_lt_self (by omega) (by decide +kernel)
    · have h : ¬ (10 : Int) ^ 64 ≤ (r : Int) := fun z => h (decide_eq_true z)
      have hr64 : r < 10 ^ 64 := by
        have z3 : ((10 ^ 64 : Nat) : Int) = 10 ^ 64 := by decide +kernel
        refine Int.ofNat_lt.mp ?_
        rw [z3]
        omega
      rw [figB_lt hr64] at eq few2
      have lg : ((r : Nat) : Int).natAbs.log2 < 1920 := by
        rw [Int.natAbs_natCast]
        by_cases z : r = 0
        · rw [z]
          decide
        · exact (Nat.log2_lt z).mpr (Nat.lt_trans hr64 (by decide +kernel))
      refine ⟨_, rfl, .inl ⟨rfl, _, SqL.of el⟩, _, rfl, _, rfl, lg, l, _, _, rfl, rfl, el, ?_, ?_⟩
      · rw [List.length_map, sizeLine_eq]
        omega
      have eL : (bs ++ [ds (r : Int)]).map V.str = bs.map V.str ++ [V.str (ds (r : Int))] := by rw [List.map_append] <;> rfl
      have e2 : upd H' l (.lst (bs.map V.str ++ [V.str (ds (r : Int))])) l = some (.lst ((bs ++ [ds (r : Int)]).map V.str)) := by
        rw [eL]
        exact upd_same
      have s2 : ∀ o, Same H (upd H' l o) := fun o b u e => by
        rw [upd_ne (ne_of_none e hl)]
        exact s b u e
      refine ⟨_, rfl, _, _, rfl, rfl, _, rfl, ite2 (fun h => ?_) (fun h => ?_)⟩
      · have h := of_decide_eq_true h
        refine ⟨_, rfl, .inl ⟨rfl, _, SqL.of e2⟩, l, _, _, rfl, rfl, e2, ?_, ?_⟩
        · rw [List.length_map, List.length_append, sizeLine_eq]
          simp only [List.length_cons, List.length_nil] at *
          omega
        · refine fig_end (K := K) (n := n) rfl ?_ nb fun H3 s3 => k H3 (Same.trans (fun b u e => ?_) s3)
          · have : (figL n).map V.str = (bs ++ [ds (r : Int)]).map V.str ++ [V.str "-"] := by
              unfold figL
              rw [if_pos h, List.map_append, eq] <;> rfl
            rw [this]
            exact upd_same
          · rw [upd_ne (ne_of_none e hl)]
            exact s2 _ b u e
      · have h : ¬ n < 0 := fun z => h (decide_eq_true z)
        refine fig_end (K := K) (n := n) rfl ?_ nb fun H3 s3 => k H3 (Same.trans (s2 _) s3)
        have : (figL n).map V.str = (bs ++ [ds (r : Int)]).map V.str := by
          unfold figL
          rw [if_neg h, List.append_nil, eq]
        rw [this]
        exact e2
  · rintro σ H' Q1 Q2 m ⟨v, hv, a, b, e1, e2, c, ec, q⟩
    exact ⟨v, hv, a, b, e1, e2, c, ec, m _ _ q⟩
theorem ok_rtext (F : FunD K "text_of" "text_of" (defArgs s_text_of) (defBody s_text_of) (defScope s_text_of) [] [] f fd) (hm : mg "text_of" = some (.ref f)) (T : Bl mg base) (c_figures_of : Cal P w K mg base 1 "figures_of" spFig []) : Cal P w K mg base 2 "text_of" spRText [] := by
  refine calD F hm sc_text_of (fun _ _ _ _ _ _ us hl => match us, hl with | [_, _], _ => rfl) (fun vs H Q E h => ?_) (fun cdv A outer s H vs Q E hr h => ?_)
  · obtain ⟨n, u, rfl, _⟩ := h
    rfl
  obtain ⟨n, u, rfl, nb, ub, k⟩ := h
  refine ⟨_, (pss_cons (ps_if (pt_cmpR op_eq (pv 1) pe_int (nomark _)) (pss_one (ps_ret (pe_c c_figures_of hr (by decide) (by rfl) (pa_cons (pv 0) pa_nil)))) pss_nil)
    (pss_one (ps_ret (pe_joined (PJ.cons (pe_fmt (pe_c c_figures_of hr (by decide) (by rfl) (pa_cons (pv 0) pa_nil))) (PJ.cons pe_str (PJ.cons (pe_fmt (pe_c c_figures_of hr (by decide) (by rfl) (pa_cons (pv 1) pa_nil))) PJ.nil))))))), ?_⟩
  have l1 := ds_len nb
  have l2 := ds_len ub
  have e0 : (Str.empty).length = 0 := rfl
  have e1 : (("/" : Str)).length = 1 := rfl
  refine ⟨_, rfl, rfl, _, rfl, ite2 (fun h => ?_) (fun h => ?_)⟩
  · have h : u = 1 := V.int.inj (of_decide_eq_true h)
    refine ⟨_, rfl, n, rfl, nb, fun H1 s1 => ?_⟩
    have := k H1 s1
    unfold ratText at this
    rw [if_pos h] at this
    exact this
  · have h : ¬ u = 1 := fun z => h (decide_eq_true (congrArg V.int z))
    refine ⟨_, rfl, n, rfl, nb, fun H1 s1 => .inl ⟨_, rfl, ?_, _, rfl, ?_, _, rfl, ?_, _, rfl, u, rfl, ub, fun H2 s2 => .inl ⟨_, rfl, ?_, _, rfl, ?_, ?_⟩⟩⟩
    · rw [sizeLine_eq]
      omega
    · rw [strLen_append, sizeLine_eq]
      omega
    · rw [strLen_append, strLen_append, sizeLine_eq]
      omega
    · rw [sizeLine_eq]
      omega
    · rw [strLen_append, strLen_append, strLen_append, sizeLine_eq]
      omega
    · have e : Str.empty ++ ds n ++ ("/" : Str) ++ ds u = ratText n u := by
        unfold ratText
        rw [if_neg h]
        refine TL.ext_tl ?_
        rw [TL.tl_append, TL.tl_append, TL.tl_append, TL.tl_append, TL.tl_append] <;> rfl
      have z := k H2 (s1.trans s2)
      rw [← e] at z
      exact z
theorem ok_rinit (F : FunD K "__init__" "Ratio.__init__" (defArgs s_Ratio_init) (defBody s_Ratio_init) (defScope s_Ratio_init) [.int 1] [] f fd) (T : Bl mg base) (RC : RatC K mg) (Z : ErrL P w K mg base ["BadRatio", "BadText"]) (GC : mg "gcd" = some (.builtin "math.gcd")) (c_is_whole : Cal P w K mg base 1 "is_whole" (spWhole K) []) (c_text_of : Cal P w K mg base 2 "text_of" spRText []) :
    FnOk P w K mg base (L2.CX P w) 3 f fd ["self", "number", "under"] (spRInit K) := by
  refine okX F sc_Ratio_init (fun vs H Q E h => ?_) (fun cdv A outer s H vs Q E hr h => ?_)
  · obtain ⟨x, dx, a, b, rfl, _⟩ := h
    rfl
  refine ⟨_, (pss_cons (ps_if (PW.pt (pw_or (pt_not (pt_val (pe_c c_is_whole hr (by decide) (by rfl) (pa_cons (pv 1) pa_nil)))) (pw_or (pt_not (pt_val (pe_c c_is_whole hr (by decide) (by rfl) (pa_cons (pv 2) pa_nil)))) (pw_or1 (pt_cmpR op_eq (pv 2) pe_int (nomark _)))))) (pss_one (ps_raise rfl (takes_of rfl rfl rfl rfl) (pmk_err Z (x := "BadRatio") (by decide +kernel) hr (by decide) (by rfl) (pa_cons (pe_tup (pa_cons (pv 1) (pa_cons (pv 2) pa_nil))) pa_nil)))) pss_nil)
    (pss_cons (ps_set (i := 3) sc_Ratio_init.nd rfl (by first | exact Or.inl rfl | exact Or.inr rfl) (pe_callBfun cr_gcd (by rfl) GC (pa_cons (pv 1) (pa_cons (pv 2) pa_nil))))
    (pss_cons (ps_if (pt_cmpR op_lt (pv 2) pe_int (nomark _)) (pss_one (ps_set (i := 3) sc_Ratio_init.nd rfl (by first | exact Or.inl rfl | exact Or.inr rfl) (pe_un un_neg (pv 3)))) pss_nil)
    (pss_cons (ps_fld (pv 0) (pe_op op_fdivZ (pv 1) (pv 3)) rfl)
    (pss_cons (ps_fld (pv 0) (pe_op op_fdivZ (pv 2) (pv 3)) rfl)
    (pss_one (ps_fld (pv 0) (pe_c c_text_of hr (by decide) (by rfl) (pa_cons (pe_fld (pv 0) rfl) (pa_cons (pe_fld (pv 0) rfl) pa_nil))) rfl))))))), ?_⟩
  obtain ⟨x, dx, a, b, rfl, hx, h⟩ := h
  rcases h with ⟨n, u, rfl, rfl, u0, nb, ub, k⟩ | ⟨bad, wish⟩
  · refine ⟨_, rfl, _, rfl, isaI_int n, _, rfl, iteF ⟨_, rfl, _, rfl, isaI_int u, _, rfl, iteF ⟨_, rfl, rfl, _, rfl, ?_⟩⟩⟩
    refine no_of (decide_eq_false fun z => u0 (V.int.inj z)) ?_
    refine ⟨_, rfl, _, rfl, _, _, rfl, ?_⟩
    refine ⟨_, rfl, _, _, rfl, rfl, _, rfl, ite2 (fun h => ?_) (fun h => ?_)⟩
    · have e : -((Nat.gcd n.natAbs u.natAbs : Nat) : Int) = sg n u := by
        unfold sg gd
        rw [if_pos (of_decide_eq_true h)]
      exact ⟨_, rfl, _, rfl, rinit_end (D := { nx := fun _ H' => Q .non H', rt := Q }) RC hx e u0 nb ub k⟩
    · have e : ((Nat.gcd n.natAbs u.natAbs : Nat) : Int) = sg n u := by
        unfold sg gd
        rw [if_neg fun z => h (decide_eq_true z)]
      exact rinit_end (D := { nx := fun _ H' => Q .non H', rt := Q }) RC hx e u0 nb ub k
  · rcases bad with ⟨n, rfl, rfl⟩ | ⟨isa, wb⟩ | ⟨n, rfl, isa, wb⟩
    · refine ⟨_, rfl, _, rfl, isaI_int n, _, rfl, iteF ⟨_, rfl, _, rfl, isaI_int 0, _, rfl, iteF ⟨_, rfl, rfl, _, rfl, ?_⟩⟩⟩
      exact yes_of (decide_eq_true rfl) (raise_two Z (by decide +kernel) rfl rfl wish)
    · refine ⟨_, rfl, _, rfl, isa, _, rfl, ?_⟩
      rw [wb]
      exact iteT (raise_two Z (by decide +kernel) rfl rfl wish)
    · refine ⟨_, rfl, _, rfl, isaI_int n, _, rfl, iteF ⟨_, rfl, _, rfl, isa, _, rfl, ?_⟩⟩
      rw [wb]
      exact iteT (raise_two Z (by decide +kernel) rfl rfl wish)
theorem ok_rrepr (F : FunD K "__repr__" "Ratio.__repr__" (defArgs s_Ratio_repr) (defBody s_Ratio_repr) (defScope s_Ratio_repr) [] [] f fd) (RC : RatC K mg) : FnOk P w K mg base (L2.CX P w) 1 f fd ["self"] (spRRepr K) := by
  refine okT F sc_Ratio_repr (by decide +kernel) (by decide) (fun vs H Q E h => ?_) (fun cdv A outer s H vs Q E hr h => ?_)
  · obtain ⟨x, n, u, rfl, _⟩ := h
    rfl
  refine ⟨_, CwR.psst_one (CwR.pst_ret (pet_joined (PJT.cons pet_str (PJT.cons (pet_fmtS (CwR.pet_replC (pe_fld (pv 0) rfl))) (PJT.cons pet_str PJT.nil))))), ?_⟩
  obtain ⟨x, n, u, rfl, ⟨dx, hx⟩, nb, ub, q⟩ := h
  have l1 := ratText_len nb ub
  have e1 : (("/" : Str)).length = 1 := rfl
  have e2 : ((", " : Str)).length = 2 := rfl
  have e3 : (("Ratio(" : Str)).length = 6 := rfl
  have e4 : ((")" : Str)).length = 1 := rfl
  have e0 : (Str.empty).length = 0 := rfl
  have l2 := TK.replace_len (ratText n u) "/" ", "
  rw [e2] at l2
  refine ⟨_, rfl, ?_, _, rfl, x, ratA K, dx, _, .str (ratText n u), rfl, hx, RC.cl, RC.nT, rfl, ratText n u, rfl, ?_, _, rfl, ?_, _, rfl, ?_, _, rfl, ?_, ?_⟩
  · rw [strLen_append, sizeLine_eq]
    omega
  · rw [e2]
    omega
  · rw [sizeLine_eq]
    omega
  · rw [strLen_append, strLen_append, sizeLine_eq]
    omega
  · rw [strLen_append, strLen_append, strLen_append, sizeLine_eq]
    omega
  · have e : Str.empty ++ ("Ratio(" : Str) ++ Txt.replace (ratText n u) "/" ", " ++ (")" : Str) = ratRepr n u := by
      unfold ratRepr
      refine TL.ext_tl ?_
      rw [TL.tl_append, TL.tl_append, TL.tl_append, TL.tl_append, TL.tl_append] <;> rfl
    show Q (.str (Str.empty ++ ("Ratio(" : Str) ++ Txt.replace (ratText n u) "/" ", " ++ (")" : Str))) H
    rw [e]
    exact q
theorem ok_req (F : FunD K "__eq__" "Ratio.__eq__" (defArgs s_Ratio_eq) (defBody s_Ratio_eq) (defScope s_Ratio_eq) [] [] f fd) (T : Bl mg base) (RC : RatC K mg) : FnOk P w K mg base CX0 1 f fd ["self", "other"] (spREq K) := by
  refine F.ok sc_Ratio_eq (fun vs H Q E h => ?_) (fun cdv A outer s H vs Q E hr h => ⟨_, (pss_one (ps_ret (pe_and (pe_callB call_isR (by rfl) T.isinstance (by decide +kernel) (pa_cons (pv 1) (pa_cons (pe_glob (v := .ref (ratA K)) (by rfl) RC.m rfl) pa_nil))) (pe_and (pe_cmpR op_eq (pe_fld (pv 0) rfl) (pe_fld (pv 1) rfl) (nomark _)) (pe_one (pe_cmpR op_eq (pe_fld (pv 0) rfl) (pe_fld (pv 1) rfl) (nomark _))))))), ?_⟩)
  · obtain ⟨x, v, n, u, rfl, _⟩ := h
    rfl
  obtain ⟨x, v, n, u, rfl, ⟨dx, hx⟩, h⟩ := h
  rcases h with ⟨y, m, z, rfl, ⟨dy, hy⟩, q⟩ | ⟨⟨t, ty, kt⟩, q⟩
  · refine ⟨_, rfl, _, _, _, _, true, rfl, .own _, .inl (RC.ty hy), RC.me, true, rfl, iteT ?_⟩
    refine ⟨_, rfl, x, ratA K, dx, _, .int n, rfl, hx, RC.cl, RC.nN, rfl, _, rfl, y, ratA K, dy, _, .int m, rfl, hy, RC.cl, RC.nN, rfl, rfl, _, rfl, ?_⟩
    have ei : ∀ i j : Int, decide (V.int i = V.int j) = decide (i = j) := fun i j => decide_eq_decide.mpr ⟨V.int.inj, congrArg V.int⟩
    rw [ei]
    refine ite2 (fun h => ?_) (fun h => ?_)
    · rw [h, Bool.true_and] at q
      refine ⟨_, rfl, x, ratA K, dx, _, .int u, rfl, hx, RC.cl, RC.nU, rfl, _, rfl, y, ratA K, dy, _, .int z, rfl, hy, RC.cl, RC.nU, rfl, rfl, ?_⟩
      rw [ei]
      exact q
    · rw [Bool.eq_false_iff.mpr h, Bool.false_and] at q
      exact q
  · exact ⟨_, rfl, _, _, t, _, false, rfl, .own _, .inl ty, kt, false, rfl, iteF q⟩
end

abbrev s_is_figures : Stmt := top 11
abbrev n_is_figures : List Str := ["text"]
abbrev p_is_figures : List Str := ["text"]
theorem sc_is_figures : FnScope n_is_figures p_is_figures (defScope s_is_figures) := ⟨rfl, rfl, rfl, by decide +kernel, rfl, by decide +kernel, by decide +kernel⟩
abbrev s_integer_of : Stmt := top 13
abbrev n_integer_of : List Str := ["text", "figures", "head", "number", "start"]
abbrev p_integer_of : List Str := ["text"]
theorem sc_integer_of : FnScope n_integer_of p_integer_of (defScope s_integer_of) := ⟨rfl, rfl, rfl, by decide +kernel, rfl, by decide +kernel, by decide +kernel⟩
section
variable {P : Program} {w : World} {K : PySem.W.Frag} {mg : Str → Option Value} {base : Heap} {f fA rA fN : Addr} {fd fdA fdN : FuncData} {psA psN : List Str}
theorem ok_figs (F : FunD K "is_figures" "is_figures" (defArgs s_is_figures) (defBody s_is_figures) (defScope s_is_figures) [] [] f fd) (hm : mg "is_figures" = some (.ref f)) (T : Bl mg base) : Cal P w K mg base 1 "is_figures" spFigs [] := by
  refine calD F hm sc_is_figures (fun _ _ _ _ _ _ us hl => match us, hl with | [_], _ => rfl) (fun vs H Q E h => ?_) (fun cdv A outer s H vs Q E hr h => ?_)
  · obtain ⟨x, rfl, _⟩ := h
    rfl
  obtain ⟨x, rfl, q⟩ := h
  refine ⟨_, (pss_one (ps_ret (pe_and (pe_m0 PySem.F.slot_str_isascii PySem.F.type_str_isascii mt_isascii (pv 0)) (pe_one (pe_m0 PySem.F.slot_str_isdigit PySem.F.type_str_isdigit mt_isdigit (pv 0)))))), ?_⟩
  refine ⟨_, rfl, ⟨_, rfl⟩, x, rfl, rfl, trivial, _, rfl, ?_⟩
  by_cases asc : Asc x
  · rw [← fg_is asc] at q
    rw [asc_is asc]
    exact iteT ⟨_, rfl, ⟨_, rfl⟩, x, rfl, rfl, trivial, q⟩
  · obtain ⟨h1, h2⟩ := asc_not asc
    rw [h1]
    rw [decide_eq_false h2] at q
    exact iteF q
theorem ok_int (F : FunD K "integer_of" "integer_of" (defArgs s_integer_of) (defBody s_integer_of) (defScope s_integer_of) [] [] f fd) (hm : mg "integer_of" = some (.ref f)) (T : Bl mg base) (dg : Dg base) (W64 : ∃ u, mg "WIDTH" = some u ∧ RelV (.int 64) u) (B64 : ∃ u, mg "BLOCK" = some u ∧ RelV (.int (10 ^ 64)) u) : Cal P w K mg base 1 "integer_of" spInt [] := by
  refine calD F hm sc_integer_of (fun _ _ _ _ _ _ us hl => match us, hl with | [_], _ => rfl) (fun vs H Q E h => ?_) (fun cdv A outer s H vs Q E hr h => ?_)
  · obtain ⟨x, rfl, _⟩ := h
    rfl
  obtain ⟨x, rfl, fg, hl, q⟩ := h
  refine ⟨_, (pss_cons (ps_set (i := 1) sc_integer_of.nd rfl (by first | exact Or.inl rfl | exact Or.inr rfl) (pe_bm PySem.F.plainAttrs_str PySem.F.slot_str_removeprefix PySem.F.type_str_removeprefix mt_removeprefix (pv 0) (pa_cons pe_str pa_nil)))
    (pss_cons (ps_set (i := 2) sc_integer_of.nd rfl (by first | exact Or.inl rfl | exact Or.inr rfl) (pe_op op_mod (pe_callB call_len_str (by rfl) T.len (by decide +kernel) (pa_cons (pv 1) pa_nil)) (C8.pe_gc (v := .int 64) (by rfl) W64)))
    (pss_cons (ps_set (i := 3) sc_integer_of.nd rfl (by first | exact Or.inl rfl | exact Or.inr rfl) (pe_callTy (call_int_big dg) (by rfl) T.int (by decide +kernel) (pa_cons (pe_op op_add_str pe_str (pe_slice sl_str (pv 1) po_none (po_some (pv 2)))) pa_nil)))
    (pss_cons (ps_for PassesOwn.never rfl (pi_range3 (by rfl) T.range (pa_cons (pv 2) (pa_cons (pe_callB call_len_str (by rfl) T.len (by decide +kernel) (pa_cons (pv 1) pa_nil)) (pa_cons (C8.pe_gc (v := .int 64) (by rfl) W64) pa_nil)))) (pg_name (i := 4) sc_integer_of.nd rfl (by first | exact Or.inl rfl | exact Or.inr rfl))
    (pss_one (ps_set (i := 3) sc_integer_of.nd rfl (by first | exact Or.inl rfl | exact Or.inr rfl) (pe_op op_add (pe_op op_mulX (pv 3) (C8.pe_gc (v := .int (10 ^ 64)) (by rfl) B64)) (pe_callTy (call_int_big dg) (by rfl) T.int (by decide +kernel) (pa_cons (pe_slice sl_str (pv 1) (po_some (pv 4)) (po_some (pe_op op_add (pv 4) (C8.pe_gc (v := .int 64) (by rfl) W64)))) pa_nil))))))
    (pss_one (ps_ret (pe_ifExp (pt_val (pe_m1 PySem.F.slot_str_startswith PySem.F.type_str_startswith mt_startswith (pv 0) pe_str)) (pe_un un_neg (pv 3)) (pv 3)))))))), ?_⟩
  have ey := rp_tl x
  have lx : x.length ≤ sizeLine := by
    rw [sizeLine_eq]
    omega
  have ly : (Txt.removeprefix x ("-" : Str)).length ≤ 2000 := by
    rw [TL.len_tl, ey]
    have := mn_len (TL.tl x)
    rw [TL.len_tl] at hl
    omega
  refine ⟨_, rfl, (by first | exact ⟨_, rfl⟩ | exact .str _ | rfl), x, _, rfl, rfl, lx, ?_⟩
  dsimp only [gName]
  generalize Txt.removeprefix x ("-" : Str) = y at *
  have ly1 : y.length ≤ sizeLine := by
    rw [sizeLine_eq]
    omega
  obtain ⟨h, k, hk, h64⟩ : ∃ h k, y.length = h + 64 * k ∧ h < 64 := ⟨y.length % 64, y.length / 64, by omega, by omega⟩
  have k40 : k < 40 := by omega
  have eh : ((y.length : Nat) : Int) % 64 = (h : Nat) := by omega
  refine ⟨_, rfl, y, rfl, ly1, _, _, rfl, rfl, (show (0 : Int) < 64 by decide), ?_⟩
  dsimp only [gName]
  rw [eh]
  have cl : (mn (TL.tl x)).length = h + 64 * k := by rw [← ey, ← TL.len_tl, hk]
  have ad := fg.1
  have adT : ∀ j, NumText.AllDigits ((mn (TL.tl x)).take j) := fun j c hc => ad c (List.mem_of_mem_take hc)
  have tk0 : TL.tl (("0" : Str) ++ cutS y none (some (h : Int))) = 48 :: (mn (TL.tl x)).take h := by
    rw [TL.tl_append, cut_to y h (by omega), ey] <;> rfl
  have lt0 : (("0" : Str) ++ cutS y none (some (h : Int))).length = h + 1 := by
    rw [TL.len_tl, tk0, List.length_cons, List.length_take, cl]
    omega
  have i0 : PySem.intText? (("0" : Str) ++ cutS y none (some (h : Int))) = some ((dv ((mn (TL.tl x)).take h) : Nat) : Int) := by
    have z := PySem.intText_digits (x := ("0" : Str) ++ cutS y none (some (h : Int))) (by
      show NumText.AllDigits (TL.tl _)
      rw [tk0]
      intro c hc
      rcases List.mem_cons.mp hc with rfl | hc
      · decide
      · exact adT h c hc) (by
      show TL.tl _ ≠ []
      rw [tk0]
      exact List.cons_ne_nil _ _) (by omega)
    rw [z]
    have e2 : NumText.digitsVal (TL.tl (("0" : Str) ++ cutS y none (some (h : Int)))) = dv ((mn (TL.tl x)).take h) := by
      rw [tk0]
      rfl
    exact congrArg (fun n : Nat => some (n : Int)) e2
  refine ⟨_, rfl, _, rfl, _, rfl, y, rfl, ly1, _, _, rfl, rfl, ?_, _, _, rfl, i0, ?_⟩
  · have e3 : (cutS y none (some (h : Int))).length = h := by
      rw [TL.len_tl, cut_to y h (by omega), ey, List.length_take, cl]
      omega
    rw [e3, sizeLine_eq]
    show 1 + h ≤ _
    omega
  dsimp only [gName]
  have rg : RgC (h : Int) ((y.length : Nat) : Int) 64 k := by
    rw [hk]
    exact rgc k40 h64
  refine ⟨_, rfl, _, rfl, y, rfl, ly1, _, _, _, k, rfl, rg, for_rangeC (lo := (h : Int)) (c := 64) (n := k) (fun i σ H' => H' = H ∧ ∃ st, σ = [some (.str x), some (.str y), some (.int (h : Int)), some (.int ((dv ((mn (TL.tl x)).take (h + 64 * i)) : Nat) : Int)), st]) ⟨rfl, _, rfl⟩ ?_ ?_⟩
  · rintro i σ H' hi ⟨rfl, st, rfl⟩
    have es : (h : Int) + (i : Nat) * 64 = ((h + 64 * i : Nat) : Int) := by omega
    have et : (h : Int) + (i : Nat) * 64 + 64 = ((h + 64 * i + 64 : Nat) : Int) := by omega
    have cx := cut_tl y (h + 64 * i) (h + 64 * i + 64) (by omega) (by omega)
    have ex : (mn (TL.tl x)).take (h + 64 * (i + 1)) = (mn (TL.tl x)).take (h + 64 * i) ++ (mn (TL.tl x)).extract (h + 64 * i) (h + 64 * i + 64) := by
      rw [List.extract_eq_take_drop, show h + 64 * (i + 1) = (h + 64 * i) + 64 from by omega, List.take_add, show h + 64 * i + 64 - (h + 64 * i) = 64 from by omega]
    have lex : ((mn (TL.tl x)).extract (h + 64 * i) (h + 64 * i + 64)).length = 64 := by
      rw [List.extract_eq_take_drop, List.length_take, List.length_drop, cl]
      omega
    have adE : NumText.AllDigits ((mn (TL.tl x)).extract (h + 64 * i) (h + 64 * i + 64)) := fun c hc => by
      rw [List.extract_eq_take_drop] at hc
      exact ad c (List.mem_of_mem_drop (List.mem_of_mem_take hc))
    rw [ey] at cx
    have iT : PySem.intText? (cutS y (some ((h + 64 * i : Nat) : Int)) (some ((h + 64 * i + 64 : Nat) : Int))) = some ((dv ((mn (TL.tl x)).extract (h + 64 * i) (h + 64 * i + 64)) : Nat) : Int) := by
      have z := PySem.intText_digits (x := cutS y (some ((h + 64 * i : Nat) : Int)) (some ((h + 64 * i + 64 : Nat) : Int))) (by
        show NumText.AllDigits (TL.tl _)
        rw [cx]
        exact adE) (by
        show TL.tl _ ≠ []
        rw [cx]
        intro w
        rw [w] at lex
        cases lex) (by
        rw [TL.len_tl, cx, lex]
        decide)
      rw [z]
      exact congrArg (fun l : List Nat => some ((NumText.digitsVal l : Nat) : Int)) cx
    have nb : (((dv ((mn (TL.tl x)).take (h + 64 * i)) : Nat) : Int)).natAbs < 2 ^ 7000 := by
      rw [Int.natAbs_natCast]
      refine dv_nb (adT _) ?_
      rw [List.length_take]
      omega
    have cm : CMulX ((dv ((mn (TL.tl x)).take (h + 64 * i)) : Nat) : Int) (10 ^ 64) := mulx_ok (b := 300) nb (by decide +kernel) (by decide)
    dsimp only [gName]
    refine ⟨_, rfl, _, _, rfl, rfl, cm, _, rfl, _, rfl, _, rfl, _, rfl, _, _, rfl, rfl, _, rfl, y, rfl, ly1, _, ((dv ((mn (TL.tl x)).extract (h + 64 * i) (h + 64 * i + 64)) : Nat) : Int), rfl, ?_, _, _, rfl, rfl, rfl, some (.int ((h : Int) + (i : Nat) * 64)), ?_⟩
    · rw [et, es]
      exact iT
    · have e4 : ((dv ((mn (TL.tl x)).take (h + 64 * i)) : Nat) : Int) * 10 ^ 64 + ((dv ((mn (TL.tl x)).extract (h + 64 * i) (h + 64 * i + 64)) : Nat) : Int) = ((dv ((mn (TL.tl x)).take (h + 64 * (i + 1))) : Nat) : Int) := by
        have p : ((10 ^ 64 : Nat) : Int) = 10 ^ 64 := by decide +kernel
        rw [ex, dv_app, lex, Int.natCast_add, Int.natCast_mul, p]
      exact congrArg (fun z : Int => [some (V.str x), some (V.str y), some (V.int (h : Int)), some (V.int z), some (V.int ((h : Int) + (i : Nat) * 64))]) e4
  · rintro σ H' ⟨rfl, st, rfl⟩
    have all : (mn (TL.tl x)).take (h + 64 * k) = mn (TL.tl x) := List.take_of_length_le (by omega)
    rw [all]
    refine ⟨_, rfl, ⟨_, rfl⟩, x, _, rfl, rfl, _, rfl, ?_⟩
    rw [sw_minus]
    unfold sv at q
    by_cases c : (TL.tl x).head? = some 45
    · rw [if_pos c] at q
      exact yes_of (decide_eq_true c) ⟨_, rfl, _, rfl, q⟩
    · rw [if_neg c] at q
      exact no_of (decide_eq_false c) ⟨_, rfl, q⟩
end

end K03

namespace K03
open PySem PySem.Spec PyProof.Rows L2 Lm
open C8 (Cal Mak Met pe_c pe_mk pe_mt pe_mt0 pss_cut tCut)
open LamX (CodeO TabS Tabs ExtN TabB LamS lamCx lamEnv lamS_by)
--KR 9
--NOTOP
abbrev s_law_pot : Stmt := top 20
abbrev n_law_pot : List Str := ["script", "place", "cell", "own", "small"]
abbrev p_law_pot : List Str := ["script", "place"]
theorem sc_law_pot : FnScope n_law_pot p_law_pot (defScope s_law_pot) := ⟨rfl, rfl, rfl, by decide +kernel, rfl, by decide +kernel, by decide +kernel⟩
abbrev s_law_take : Stmt := top 21
abbrev n_law_take : List Str := ["pot", "upto", "digit", "prime", "blend"]
abbrev p_law_take : List Str := ["pot", "upto"]
theorem sc_law_take : FnScope n_law_take p_law_take (defScope s_law_take) := ⟨rfl, rfl, rfl, by decide +kernel, rfl, by decide +kernel, by decide +kernel⟩
abbrev s_law_of : Stmt := top 22
abbrev n_law_of : List Str := ["pot", "some"]
abbrev p_law_of : List Str := ["pot", "some"]
theorem sc_law_of : FnScope n_law_of p_law_of (defScope s_law_of) := ⟨rfl, rfl, rfl, by decide +kernel, rfl, by decide +kernel, by decide +kernel⟩
abbrev s_law_cells : Stmt := top 23
abbrev n_law_cells : List Str := ["script", "most"]
abbrev p_law_cells : List Str := ["script", "most"]
theorem sc_law_cells : FnScope n_law_cells p_law_cells (defScope s_law_cells) := ⟨rfl, rfl, rfl, by decide +kernel, rfl, by decide +kernel, by decide +kernel⟩
abbrev s_law_told : Stmt := top 24
abbrev n_law_told : List Str := ["call", "caught", "back", "error"]
abbrev p_law_told : List Str := ["call"]
theorem sc_law_told : FnScope n_law_told p_law_told (defScope s_law_told) := ⟨rfl, rfl, rfl, by decide +kernel, rfl, by decide +kernel, by decide +kernel⟩
abbrev s_law_right : Stmt := top 33
abbrev n_law_right : List Str := ["pot", "texts", "lap", "one", "text", "size", "great", "value", "due", "caught", "part"]
abbrev p_law_right : List Str := ["pot"]
theorem sc_law_right : FnScope n_law_right p_law_right (defScope s_law_right) := ⟨rfl, rfl, rfl, by decide +kernel, rfl, by decide +kernel, by decide +kernel⟩
abbrev s_law : Stmt := top 34
abbrev n_law : List Str := ["script", "place"]
abbrev p_law : List Str := ["script"]
theorem sc_law : FnScope n_law p_law (defScope s_law) := ⟨rfl, rfl, rfl, by decide +kernel, rfl, by decide +kernel, by decide +kernel⟩
section
variable {P : Program} {w : World} {K : PySem.W.Frag} {mg : Str → Option Value} {base : Heap} {f : Addr} {fd : FuncData}
theorem ok_pot (F : FunD K "_law_pot" "_law_pot" (defArgs s_law_pot) (defBody s_law_pot) (defScope s_law_pot) [] [] f fd) (hm : mg "_law_pot" = some (.ref f)) (T : Bl mg base) : Cal P w K mg base 1 "_law_pot" (spPot K) [] := by
  refine calD F hm sc_law_pot (fun _ _ _ _ _ _ us hl => match us, hl with | [_, _], _ => rfl) (fun vs H Q E h => ?_) (fun cdv A outer s H vs Q E hr h => ?_)
  · obtain ⟨a, ns, j, rfl, _⟩ := h
    rfl
  obtain ⟨a, ns, j, rfl, hS, hj, k⟩ := h
  refine ⟨_, (pss_cut (ps_set (i := 2) sc_law_pot.nd rfl (by first | exact Or.inl rfl | exact Or.inr rfl) (pe_ifExp (pt_cmpR op_lt (pv 1) (pe_callB call_len_seq (by rfl) T.len (by decide +kernel) (pa_cons (pv 0) pa_nil)) (nomark _)) (pe_ix ix_seq (pv 0) (pv 1) (fun _ _ => rfl)) (pe_op op_add (pe_op op_mul pe_int (pv 1)) pe_int)))
    (pss_cons (ps_set (i := 3) sc_law_pot.nd rfl (by first | exact Or.inl rfl | exact Or.inr rfl) (pe_op op_mul (pe_op op_mod (pe_callTy call_int1 (by rfl) T.int (by decide +kernel) (pa_cons (pe_callB call_abs (by rfl) T.abs (by decide +kernel) (pa_cons (pv 2) pa_nil)) pa_nil)) (pe_op op_powW (pe_op op_pow pe_int pe_int) pe_int)) (pe_callTy call_int1 (by rfl) T.int (by decide +kernel) (pa_cons (pe_cmpR op_ge (pe_callB call_abs (by rfl) T.abs (by decide +kernel) (pa_cons (pv 2) pa_nil)) (pe_op op_pow pe_int pe_int) (nomark _)) pa_nil))))
    (pss_cons (ps_set (i := 4) sc_law_pot.nd rfl (by first | exact Or.inl rfl | exact Or.inr rfl) (pe_op op_mod (pe_callTy call_int1 (by rfl) T.int (by decide +kernel) (pa_cons (pv 2) pa_nil)) pe_int))
    (pss_one (ps_ret (pe_lst (pa_cons (pv 3) (pa_cons (pe_op op_mod (pe_callTy call_int1 (by rfl) T.int (by decide +kernel) (pa_cons (pe_op op_add (pe_op op_add (pe_op op_mul (pv 4) pe_int) (pe_op op_mul (pe_op op_mul pe_int (pv 1)) (pv 1))) pe_int) pa_nil)) pe_int) (pa_cons pe_int pa_nil))))))))), ?_⟩
  refine ⟨fun σ H' => H' = H ∧ ∃ c : Int, σ = [some (.ref a), some (.int (j : Int)), some (.int c), none, none], ?_, ?_⟩
  · refine ⟨_, rfl, _, rfl, a, _, rfl, .inl hS, _, _, rfl, rfl, _, rfl, ?_⟩
    refine ite2 (fun hc => ?_) (fun hc => ?_)
    · have hlt : (j : Int) < ((ns.map V.int).length : Nat) := of_decide_eq_true hc
      have hj2 : j < ns.length := by
        rw [List.length_map] at hlt
        omega
      exact ⟨_, rfl, _, rfl, .inl ⟨a, _, _, .int ns[j], rfl, rfl, hS, atI_of rfl (by rw [List.getElem?_map, List.getElem?_eq_getElem hj2] <;> rfl), rfl, _, rfl⟩⟩
    · exact ⟨_, rfl, _, _, rfl, rfl, .inl ⟨by decide, by decide⟩, _, _, rfl, rfl, rfl, _, rfl⟩
  · rintro σ H' ⟨rfl, c, rfl⟩
    -- own
    refine ⟨_, rfl, _, rfl, .inl ⟨_, rfl, _, _, rfl, rfl, ⟨by decide, by decide, by decide⟩, _, _, rfl, rfl, ⟨by decide, by decide +kernel⟩, _, _, rfl, rfl, (show (0 : Int) < _ by decide +kernel),
      _, rfl, _, rfl, _, _, rfl, rfl, ⟨by decide, by decide, by decide⟩, _, _, rfl, rfl, .inr ⟨_, rfl, _, _, rfl, rfl, .inr ?_, ?_⟩⟩⟩
    · have b := ite_b2i (c := decide ((10 : Int) ^ (18 : Int).toNat ≤ if c < 0 then -c else c))
      exact ⟨Int.lt_of_lt_of_le (by decide) b.1, Int.lt_of_le_of_lt b.2 (by decide)⟩
    -- small
    refine ⟨_, rfl, .inl ⟨_, rfl, _, _, rfl, rfl, (show (0 : Int) < _ by decide), ?_⟩⟩
    have b1 := mod_lt (x := c) (m := 2305843009213693951) (by decide)
    refine ⟨_, rfl, _, rfl, _, _, rfl, rfl, .inr ⟨by decide, by decide⟩, _, rfl, _, _, rfl, rfl, .inl ⟨by decide, by decide⟩, _, rfl, _, _, rfl, rfl, .inr ⟨by omega, by omega⟩, _, _, rfl, rfl, _, _, rfl, rfl,
      .inl ⟨_, rfl, _, _, rfl, rfl, (show (0 : Int) < _ by decide), (by show 3 ≤ sizeLine; decide), fun p hp => ?_⟩⟩
    refine k p _ hp ⟨_, _, _, upd_same, ⟨?_, ?_, ?_⟩, by decide, by decide⟩
    · have b := ite_b2i (c := decide ((10 : Int) ^ (18 : Int).toNat ≤ if c < 0 then -c else c))
      exact Int.mul_nonneg (mod_lt (by decide +kernel)).1 b.1
    · exact (mod_lt (by decide)).1
    · exact Int.lt_trans (mod_lt (by decide)).2 (by decide)
theorem ok_take (F : FunD K "_law_take" "_law_take" (defArgs s_law_take) (defBody s_law_take) (defScope s_law_take) [] [] f fd) (hm : mg "_law_take" = some (.ref f)) (T : Bl mg base) : Cal P w K mg base 1 "_law_take" spTake [] := by
  refine calD F hm sc_law_take (fun _ _ _ _ _ _ us hl => match us, hl with | [_, _], _ => rfl) (fun vs H Q E h => ?_) (fun cdv A outer s H vs Q E hr h => ?_)
  · obtain ⟨a, u, n, rfl, _⟩ := h
    rfl
  obtain ⟨a, u, n, rfl, ⟨p0, p1, p2, e, ⟨b0, b1, b1'⟩, b2, b2'⟩, hn, hu0, hu1, k⟩ := h
  refine ⟨_, (pss_cons (ps_if (pt_cmpR op_gt (pe_ix ix_seq (pv 0) pe_int (fun _ _ => rfl)) pe_int (nomark _)) (pss_cons (ps_set (i := 2) sc_law_take.nd rfl (by first | exact Or.inl rfl | exact Or.inr rfl) (pe_op op_mod (pe_callTy call_int1 (by rfl) T.int (by decide +kernel) (pa_cons (pe_ix ix_seq (pv 0) pe_int (fun _ _ => rfl)) pa_nil)) (pv 1)))
    (pss_cons (ps_asg (pe_op op_fdiv (pe_ix ix_seq (pv 0) pe_int (fun _ _ => rfl)) (pv 1)) (pg_sub (pv 0) pe_int set_list))
    (pss_one (ps_ret (pv 2))))) pss_nil)
    (pss_cons (ps_asg (pe_op op_add (pe_ix ix_seq (pv 0) pe_int (fun _ _ => rfl)) pe_int) (pg_sub (pv 0) pe_int set_list))
    (pss_cons (ps_set (i := 3) sc_law_take.nd rfl (by first | exact Or.inl rfl | exact Or.inr rfl) (pe_ix ix_seq (pe_lst (pa_cons pe_int (pa_cons pe_int (pa_cons pe_int (pa_cons pe_int (pa_cons pe_int pa_nil)))))) (pe_op op_mod (pe_callTy call_int1 (by rfl) T.int (by decide +kernel) (pa_cons (pe_ix ix_seq (pv 0) pe_int (fun _ _ => rfl)) pa_nil)) pe_int) (fun _ _ => rfl)))
    (pss_cons (ps_set (i := 4) sc_law_take.nd rfl (by first | exact Or.inl rfl | exact Or.inr rfl) (pe_op op_mod (pe_callTy call_int1 (by rfl) T.int (by decide +kernel) (pa_cons (pe_op op_pow (pe_callTy call_int1 (by rfl) T.int (by decide +kernel) (pa_cons (pe_op op_add (pe_op op_add (pe_ix ix_seq (pv 0) pe_int (fun _ _ => rfl)) (pe_op op_mul (pe_op op_mul pe_int (pe_ix ix_seq (pv 0) pe_int (fun _ _ => rfl))) (pe_ix ix_seq (pv 0) pe_int (fun _ _ => rfl)))) pe_int) pa_nil)) pe_int) pa_nil)) (pv 3)))
    (pss_one (ps_ret (pe_op op_mod (pe_callTy call_int1 (by rfl) T.int (by decide +kernel) (pa_cons (pe_op op_fdiv (pe_op op_mul (pv 4) (pe_op op_add (pe_op op_mod (pe_callTy call_int1 (by rfl) T.int (by decide +kernel) (pa_cons (pv 4) pa_nil)) pe_int) (pe_op op_mul pe_int (pe_ix ix_seq (pv 0) pe_int (fun _ _ => rfl))))) pe_int) pa_nil)) (pv 1)))))))), ?_⟩
  refine ⟨_, rfl, .inl ⟨a, _, _, _, rfl, rfl, SqL.of e, atI_of (j := 0) rfl rfl, _, _, rfl, rfl, _, rfl, ?_⟩⟩
  refine ite2 (fun hc => ?_) (fun hc => ?_)
  · -- a digit of the cell's own
    refine ⟨_, rfl, .inl ⟨a, _, _, _, rfl, rfl, SqL.of e, atI_of (j := 0) rfl rfl, .inl ⟨_, rfl, _, rfl, _, _, rfl, rfl, hu0, ?_⟩⟩⟩
    refine ⟨_, rfl, .inl ⟨a, _, _, _, rfl, rfl, SqL.of e, atI_of (j := 0) rfl rfl, _, rfl, _, _, rfl, rfl, ⟨by omega, by omega⟩, _, rfl, a, _, _, 0, rfl, rfl, e, rfl, ?_⟩⟩
    have m := mod_lt (x := p0) hu0
    exact ⟨_, rfl, k _ _ m.1 m.2 ⟨p0 / u, p1, p2, upd_same, ⟨ediv_nn b0 (by omega), b1, b1'⟩, b2, by omega⟩ KeptBut.at_⟩
  · -- a mixed number
    refine ⟨_, rfl, .inl ⟨a, _, _, _, rfl, rfl, SqL.of e, atI_of (j := 2) rfl rfl, _, _, rfl, rfl, _, rfl, a, _, _, 2, rfl, rfl, e, rfl, ?_⟩⟩
    have e1 : upd H a (.lst [.int p0, .int p1, .int (p2 + 1)]) a = some (.lst [.int p0, .int p1, .int (p2 + 1)]) := upd_same
    refine ⟨(by show 5 ≤ sizeLine; decide), fun l hl => ?_⟩
    have nla : l ≠ a := (ne_of_none e1 hl).symm
    have e2 : ∀ o, upd (upd H a (.lst [.int p0, .int p1, .int (p2 + 1)])) l o a = some (.lst [.int p0, .int p1, .int (p2 + 1)]) := fun o => by rw [upd_ne nla.symm]; exact e1
    refine ⟨_, rfl, .inl ⟨a, _, _, _, rfl, rfl, SqL.of (e2 _), atI_of (j := 2) rfl rfl, .inl ⟨_, rfl, _, _, rfl, rfl, (show (0 : Int) < _ by decide), ?_⟩⟩⟩
    have m5 := mod_lt (x := p2 + 1) (m := 5) (by decide)
    obtain ⟨v, hv, hvm⟩ := atI_lt (xs := [V.int 2147483647, V.int 2147483629, V.int 2147483587, V.int 2147483579, V.int 2147483563]) (i := (p2 + 1) % 5) m5.1 m5.2
    have hpr : ∃ q : Int, v = .int q ∧ 2147483500 < q ∧ q < 2147483648 := by
      simp only [List.mem_cons, List.not_mem_nil, or_false] at hvm
      rcases hvm with rfl | rfl | rfl | rfl | rfl <;> exact ⟨_, rfl, by decide, by decide⟩
    obtain ⟨q, rfl, hq0, hq1⟩ := hpr
    refine .inl ⟨l, _, _, _, rfl, rfl, SqL.of upd_same, hv, ?_⟩
    -- blend
    refine ⟨_, rfl, .inl ⟨a, _, _, _, rfl, rfl, SqL.of (e2 _), atI_of (j := 1) rfl rfl, _, rfl, .inl ⟨a, _, _, _, rfl, rfl, SqL.of (e2 _), atI_of (j := 2) rfl rfl, _, _, rfl, rfl, .inl ⟨by decide, by decide⟩,
      _, rfl, .inl ⟨a, _, _, _, rfl, rfl, SqL.of (e2 _), atI_of (j := 2) rfl rfl, _, _, rfl, rfl, .inr ⟨by omega, by omega⟩, _, _, rfl, rfl, _, _, rfl, rfl, .inl ⟨_, rfl, _, _, rfl, rfl, ⟨by decide, by decide, ?_⟩, .inl ⟨_, rfl, _, rfl, _, _, rfl, rfl, ?_, ?_⟩⟩⟩⟩⟩⟩
    · have b := sq_bound (c := 100711) (n := p2 + 1) (by decide) (by decide) (by omega) (by omega)
      omega
    · show (0 : Int) < q
      omega
    -- the answer
    refine ⟨_, rfl, _, rfl, .inl ⟨_, rfl, _, _, rfl, rfl, (show (0 : Int) < _ by decide), _, rfl, .inl ⟨a, _, _, _, rfl, rfl, SqL.of (e2 _), atI_of (j := 2) rfl rfl, _, _, rfl, rfl, .inl ⟨by decide, by decide⟩, _, _, rfl, rfl, _, _, rfl, rfl, .inl ?_,
      _, _, rfl, rfl, ⟨by decide, by decide⟩, .inl ⟨_, rfl, _, rfl, _, _, rfl, rfl, hu0, ?_⟩⟩⟩⟩
    · have m := mod_lt (x := (p1 + 100711 * (p2 + 1) * (p2 + 1) + 40) ^ (3 : Int).toNat) (m := q) (by omega)
      exact ⟨by omega, by omega⟩
    refine k _ _ (mod_lt hu0).1 (mod_lt hu0).2 ⟨p0, p1, p2 + 1, e2 _, ⟨b0, b1, b1'⟩, by omega, by omega⟩ fun b o hb hne => ?_
    rw [upd_ne (ne_of_none (by rw [upd_ne hne]; exact hb) hl), upd_ne hne]
    exact hb
theorem ok_of (F : FunD K "_law_of" "_law_of" (defArgs s_law_of) (defBody s_law_of) (defScope s_law_of) [] [] f fd) (hm : mg "_law_of" = some (.ref f)) (T : Bl mg base) (c_law_take : Cal P w K mg base 1 "_law_take" spTake []) : Cal P w K mg base 2 "_law_of" (spOf K) [] := by
  refine calD F hm sc_law_of (fun _ _ _ _ _ _ us hl => match us, hl with | [_, _], _ => rfl) (fun vs H Q E h => ?_) (fun cdv A outer s H vs Q E hr h => ?_)
  · obtain ⟨a, l, xs, n, rfl, _⟩ := h
    rfl
  obtain ⟨a, l, xs, n, rfl, hp, hn, nla, hS, h0, h1, k⟩ := h
  refine ⟨_, (pss_one (ps_ret (pe_ix ix_seq (pv 1) (pe_c c_law_take hr (by decide) (by rfl) (pa_cons (pv 0) (pa_cons (pe_callB call_len_seq (by rfl) T.len (by decide +kernel) (pa_cons (pv 1) pa_nil)) pa_nil))) (fun _ _ => rfl)))), ?_⟩
  refine ⟨_, rfl, _, rfl, _, rfl, l, xs, rfl, hS, a, _, n, rfl, hp, hn, by omega, by omega, fun i H' i0 i1 hp' kb => ?_⟩
  obtain ⟨v, hv, hm⟩ := atI_lt (xs := xs) i0 i1
  rcases hS with hS | hS
  · exact .inl ⟨l, _, _, _, rfl, rfl, sql_keep hS kb nla, hv, k v H' hm hp' kb⟩
  · exact .inr (.inl ⟨l, _, _, _, rfl, rfl, sqt_keep hS kb nla, hv, k v H' hm hp' kb⟩)
theorem ok_cells (F : FunD K "_law_cells" "_law_cells" (defArgs s_law_cells) (defBody s_law_cells) (defScope s_law_cells) [] [] f fd) (hm : mg "_law_cells" = some (.ref f)) (T : Bl mg base) : Cal P w K mg base 1 "_law_cells" (spCells K 6) [] := by
  refine calD F hm sc_law_cells (fun _ _ _ _ _ _ us hl => match us, hl with | [_, _], _ => rfl) (fun vs H Q E h => ?_) (fun cdv A outer s H vs Q E hr h => ?_)
  · obtain ⟨a, ns, rfl, _⟩ := h
    rfl
  obtain ⟨a, ns, rfl, hS, hl, k⟩ := h
  refine ⟨_, (pss_one (ps_ret (pe_listRg rfl (by rfl) T.list (prg_1 (by rfl) T.range (pe_callB (call_max2 rfl) (by rfl) T.max (by decide +kernel) (pa_cons pe_int (pa_cons (pe_callB (call_min2 rfl) (by rfl) T.min (by decide +kernel) (pa_cons (pv 1) (pa_cons (pe_callB call_len_seq (by rfl) T.len (by decide +kernel) (pa_cons (pv 0) pa_nil)) pa_nil))) pa_nil))))))), ?_⟩
  refine ⟨_, rfl, _, rfl, a, _, rfl, .inl hS, _, _, rfl, _, _, rfl, _, rfl, RgOk.of_le (by decide) ?_ (by decide) ?_, fun p hp => ?_⟩
  · rw [List.length_map]
    split <;> split <;> omega
  · rw [List.length_map]
    split <;> split <;> omega
  have e : ∀ n : Int, rgV 0 n = (List.range n.toNat).map fun (i : Nat) => V.int (i : Int) := fun n => by
    unfold rgV
    rw [Int.sub_zero]
    exact List.map_congr_left fun i _ => by rw [Int.zero_add]
  rw [e]
  refine k p _ hp ?_
  rw [List.length_map]
  split <;> split <;> omega
theorem ok_told {j : Nat} {ns : List Str} (F : FunD K "_law_told" "_law_told" (defArgs s_law_told) (defBody s_law_told) (defScope s_law_told) [] [] f fd) (hm : mg "_law_told" = some (.ref f)) (Z : ErrL P w K mg base ns) : CalF P w K mg base (j + 1) j "_law_told" (spTold K) := by
  refine calF F hm sc_law_told (fun _ _ _ _ _ _ us hl => match us, hl with | [_], _ => rfl) (fun tl vs H Q h => ?_) (fun cdv A outer s H vs Q g tl gd hr AC h => ?_)
  · obtain ⟨rfl, _⟩ := h
    rfl
  obtain ⟨rfl, h⟩ := h
  have M : Names (cxOf CX0 P w K mg base n_law_told "_law_told" (defScope s_law_told) f cdv A outer s H E0) "MirrorError" (.ref (He.ga K "MirrorError")) := ⟨by rfl, by decide, .inl Z.mM⟩
  refine ⟨_, pss_cons (ps_asg (pe_tup (pa_cons pe_non (pa_cons pe_non pa_nil))) (pg_tup rfl (pgs_cons (pg_name (i := 1) sc_law_told.nd rfl (Or.inl rfl)) (pgs_cons (pg_name (i := 2) sc_law_told.nd rfl (Or.inl rfl)) pgs_nil))))
    (pss_cons (ps_try_in (i := 3) rfl rfl rfl sc_law_told.nd rfl rfl M takes0 (fun W pn xe tk => pss_one (ps_set (i := 2) sc_law_told.nd rfl (Or.inl rfl) (pe_actsW (i := 0) AC rfl gd hr tk rfl (Or.inl rfl))))
      (fun a pn => pss_one (ps_set (i := 1) sc_law_told.nd rfl (Or.inl rfl) (pv 3)))) (pss_one (ps_ret (pe_tup (pa_cons (pv 1) (pa_cons (pv 2) pa_nil)))))), ?_⟩
  refine ⟨(by show 2 ≤ sizeLine; decide), fun q hq => ⟨q, _, rfl, SqT.of upd_same, rfl, _, _, rfl, _, _, rfl, rfl, rfl, _, _, fun cls d H' hE => ?_, fun v H' hQ => ?_, h _ (Same.new hq)⟩⟩
  · obtain ⟨C, e, x, k⟩ := hE
    exact ⟨true, x, fun _ => ⟨C, e, fun a na => ⟨_, rfl, _, rfl, _, rfl, (by show 2 ≤ sizeLine; decide), fun p hp => k a na p hp⟩⟩, fun z => nomatch z⟩
  · exact ⟨_, rfl, _, rfl, (by show 2 ≤ sizeLine; decide), fun p hp => hQ p hp⟩
/-- the law: its right def says True of every cell -/
theorem ok_law {T0 : List (Addr × Str)} (F : FunD K "law" "law" (defArgs s_law) (defBody s_law) (defScope s_law) [] [] f fd) (hm : mg "law" = some (.ref f)) (T : Bl mg base) (c_law_pot : Cal P w K mg base 1 "_law_pot" (spPot K) []) (c_law_cells : Cal P w K mg base 1 "_law_cells" (spCells K 6) [])
    (c_law_right : CalG P w K mg base 9 "_law_right" (spRightT T0)) : FnG P w K mg base CX0 (9 + 1) f fd ["script"] (spLawT K T0) := by
  refine FnG.made F sc_law (fun vs H Q E h => ?_) (fun cdv A outer s H vs Q E gd hr h => ?_)
  · obtain ⟨a, ns, rfl, _⟩ := h
    rfl
  obtain ⟨a, ns, rfl, hS, hl, hT, k⟩ := h
  refine ⟨_, PSs.nox (pss_one (ps_ret (pe_callB (cr_all rfl) (by rfl) T.all (by decide +kernel) (pa_cons (pe_lc (own := [("place", 1)]) (g := (gName 1)) (tt := tYes) rfl sc_law.nd (pi_list (pe_c c_law_cells hr (by decide) (by rfl) (pa_cons (pv 0) (pa_cons pe_int pa_nil)))) (blkOk_by (own := [("place", 1)]) (N := n_law) (sc := defScope s_law) (by decide +kernel)) (fun _ _ _ _ _ => (pg_name (i := 1) sc_law.nd rfl (by first | exact Or.inl rfl | exact Or.inr rfl))) (fun _ _ _ _ _ => pts_nil) (fun _ _ _ _ _ => (pe_cG c_law_right gd hr (by decide) (by rfl) (pa_cons (pe_c c_law_pot hr (by decide) (by rfl) (pa_cons (pv 0) (pa_cons (pv 1) pa_nil))) pa_nil)))) pa_nil)))), ?_⟩
  refine ⟨_, rfl, a, ns, rfl, hS.seq, by omega, fun p m hp hm => ?_⟩
  refine ⟨p, rfl, ⟨_, SqL.of upd_same⟩, fun D hD => ?_⟩
  have npD : p ≠ D := ne_of_none upd_same hD
  refine lc_list (K := K) (a := p) (xs := (List.range m).map fun (i : Nat) => V.int (i : Int)) (fun i H' => ScL K H' a (ns.map V.int) ∧ H' p = some (.lst ((List.range m).map fun (i : Nat) => V.int (i : Int))) ∧ Tabs T0 H' ∧ ∃ bs : List Bool, H' D = some (.lst (bs.map V.bl)) ∧ bs.all id = true ∧ bs.length = i)
    ⟨?_, by rw [upd_ne npD]; exact upd_same, tabs_same (tabs_same hT (Same.new hp)) (Same.new hD), [], upd_same, rfl, rfl⟩ (fun i H' _ h => SqL.of h.2.1) ?_ ?_
  · exact (hS.new hp).new hD
  · rintro i x H' hi ⟨h1, h2, hT', bs, h3, h4, h5⟩
    have hi2 : i < m := by
      have q := (List.getElem?_eq_some_iff.mp hi).1
      simpa using q
    have ex : x = V.int (i : Int) := by
      rw [List.getElem?_map, List.getElem?_range hi2] at hi
      exact (Option.some.inj hi).symm
    subst ex
    refine ⟨rfl, ?_⟩
    refine yes_if ?_
    refine ⟨_, rfl, _, rfl, a, ns, i, rfl, h1.seq, by omega, fun q o hq hpot => ?_⟩
    have pn : ∀ ob u, upd H' q o q ≠ some (.frz ob u) := fun ob u z => by
      obtain ⟨_, _, _, e, _⟩ := hpot
      rw [e] at z
      cases z
    refine ⟨q, rfl, hpot, tabs_same hT' (Same.new hq), fun H2 kb hT2 => ?_⟩
    have nqD : D ≠ q := ne_of_none h3 hq
    have nqp : p ≠ q := ne_of_none h2 hq
    have k2 : H2 D = some (.lst (bs.map V.bl)) := kb D _ (by rw [upd_ne nqD]; exact h3) nqD (fun _ z => nomatch z)
    have k3 : H2 p = some (.lst ((List.range m).map fun (i : Nat) => V.int (i : Int))) := kb p _ (by rw [upd_ne nqp]; exact h2) nqp (fun _ z => nomatch z)
    refine ⟨_, k2, ?_, ScL.upd ((h1.new hq).keptT kb pn) k2, by rw [upd_ne npD]; exact k3, tabs_put hT2 k2, bs ++ [true], by rw [List.map_append]; exact upd_same, by rw [List.all_append, h4]; rfl, by rw [List.length_append, h5]; rfl⟩
    rw [List.length_map, h5]
    exact Nat.lt_of_lt_of_le (Nat.lt_of_lt_of_le hi2 hm) (by decide)
  · rintro H' ⟨h1, h2, _, bs, h3, h4, h5⟩
    refine ⟨D, bs, rfl, SqL.of h3, ?_⟩
    rw [h4]
    exact k _
end

abbrev s_law_gcd : Stmt := top 26
abbrev n_law_gcd : List Str := ["one", "other"]
abbrev p_law_gcd : List Str := ["one", "other"]
theorem sc_law_gcd : FnScope n_law_gcd p_law_gcd (defScope s_law_gcd) := ⟨rfl, rfl, rfl, by decide +kernel, rfl, by decide +kernel, by decide +kernel⟩
abbrev s_law_fr : Stmt := top 27
abbrev n_law_fr : List Str := ["number", "under", "by"]
abbrev p_law_fr : List Str := ["number", "under"]
theorem sc_law_fr : FnScope n_law_fr p_law_fr (defScope s_law_fr) := ⟨rfl, rfl, rfl, by decide +kernel, rfl, by decide +kernel, by decide +kernel⟩
abbrev s_law_made : Stmt := top 31
abbrev n_law_made : List Str := ["one"]
abbrev p_law_made : List Str := ["one"]
theorem sc_law_made : FnScope n_law_made p_law_made (defScope s_law_made) := ⟨rfl, rfl, rfl, by decide +kernel, rfl, by decide +kernel, by decide +kernel⟩
abbrev s_law_fr_text : Stmt := top 28
abbrev n_law_fr_text : List Str := ["one"]
abbrev p_law_fr_text : List Str := ["one"]
theorem sc_law_fr_text : FnScope n_law_fr_text p_law_fr_text (defScope s_law_fr_text) := ⟨rfl, rfl, rfl, by decide +kernel, rfl, by decide +kernel, by decide +kernel⟩
abbrev s_law_whole : Stmt := top 29
abbrev n_law_whole : List Str := ["word", "sign"]
abbrev p_law_whole : List Str := ["word"]
theorem sc_law_whole : FnScope n_law_whole p_law_whole (defScope s_law_whole) := ⟨rfl, rfl, rfl, by decide +kernel, rfl, by decide +kernel, by decide +kernel⟩
abbrev errs : List Str := ["BadRatio", "BadText"]
def pR : Str × Option Str := ("_law_right", none)
def T0 (K : PySem.W.Frag) : List (Addr × Str) := [((He.cT K pR).2, (("_law_right" : Str) ++ ".<locals>.") ++ "<lambda>")]
section
variable {P : Program} {w : World} {K : PySem.W.Frag} {mg : Str → Option Value} {base : Heap} {f fE fR : Addr} {fd fdE fdR : FuncData} {psE psR : List Str}
/-- Euclid -/
def spGcd : Sp := fun vs H Q _ => ∃ a b : Int, vs = [.int a, .int b] ∧ Q (.int ((Nat.gcd a.natAbs b.natAbs : Nat) : Int)) H
theorem abs_nat (a : Int) : (if a < 0 then -a else a) = (a.natAbs : Int) := by split <;> omega
theorem ok_gcd (F : FunD K "_law_gcd" "_law_gcd" (defArgs s_law_gcd) (defBody s_law_gcd) (defScope s_law_gcd) [] [] f fd) (hm : mg "_law_gcd" = some (.ref f)) (T : Bl mg base) : Cal P w K mg base 1 "_law_gcd" spGcd [] := by
  refine calD F hm sc_law_gcd (fun _ _ _ _ _ _ us hl => match us, hl with | [_, _], _ => rfl) (fun vs H Q E h => ?_) (fun cdv A outer s H vs Q E hr h => ?_)
  · obtain ⟨a, b, rfl, _⟩ := h
    rfl
  obtain ⟨a, b, rfl, q⟩ := h
  refine ⟨_, (pss_cons (ps_par (i := 0) (j := 1) (by rfl) sc_law_gcd.nd rfl rfl (by decide) rfl rfl (pa_cons (pe_callB call_abs (by rfl) T.abs (by decide +kernel) (pa_cons (pv 0) pa_nil)) (pa_cons (pe_callB call_abs (by rfl) T.abs (by decide +kernel) (pa_cons (pv 1) pa_nil)) pa_nil)) (by rfl))
    (pss_cons (ps_while PassesOwn.never (pt_cmpR op_ne (pv 1) pe_int (nomark _))
    (pss_one (ps_par (i := 0) (j := 1) (by rfl) sc_law_gcd.nd rfl rfl (by decide) rfl rfl (pa_cons (pv 1) (pa_cons (pe_op op_mod (pe_callTy call_int1 (by rfl) T.int (by decide +kernel) (pa_cons (pv 0) pa_nil)) (pe_callTy call_int1 (by rfl) T.int (by decide +kernel) (pa_cons (pv 1) pa_nil))) pa_nil)) (by rfl))))
    (pss_one (ps_ret (pv 0))))), ?_⟩
  refine ⟨_, rfl, _, rfl, _, rfl, _, rfl, _, _, rfl, ?_⟩
  rw [abs_nat, abs_nat]
  refine while_by (fun σ H' => H' = H ∧ ∃ x y : Nat, σ = [some (.int x), some (.int y)] ∧ Nat.gcd x y = Nat.gcd a.natAbs b.natAbs) (fun σ _ => match σ with
    | [_, some (.int r)] => r.toNat
    | _ => 0) ⟨rfl, _, _, rfl, rfl⟩ ?_ ?_
  · rintro σ H' ⟨rfl, x, y, rfl, e⟩
    have ei : decide (V.int (y : Int) = V.int 0) = decide (y = 0) := decide_eq_decide.mpr ⟨fun z => by have := V.int.inj z; omega, fun z => by rw [z] <;> rfl⟩
    refine ⟨_, rfl, rfl, _, rfl, ?_⟩
    rw [ei]
    by_cases z : y = 0
    · subst z
      refine no_of (by simp) ⟨_, rfl, ?_⟩
      rw [← e, Nat.gcd_zero_right] at q
      exact q
    · refine yes_of (by simp [z]) ?_
      refine ⟨_, rfl, _, rfl, .inl ⟨_, rfl, _, rfl, .inl ⟨_, rfl, _, _, rfl, rfl, by omega, _, _, rfl, ?_⟩⟩⟩
      refine ⟨⟨rfl, y, x % y, rfl, ?_⟩, ?_⟩
      · rw [← e, Nat.gcd_comm y, ← Nat.gcd_rec, Nat.gcd_comm]
      · show ((x : Int) % (y : Int)).toNat < ((y : Nat) : Int).toNat
        have : (x : Int) % (y : Int) = ((x % y : Nat) : Int) := rfl
        rw [this, Int.toNat_natCast, Int.toNat_natCast]
        exact Nat.mod_lt _ (by omega)
  · rintro σ H' Q1 Q2 m ⟨v, hv, a, b, eb, q⟩
    exact ⟨v, hv, a, b, eb, m _ _ q⟩
/-- least terms -/
def spFr : Sp := fun vs H Q _ => ∃ n u : Int, vs = [.int n, .int u] ∧ u ≠ 0 ∧ Nb u ∧ ∀ p, H p = none → Q (.ref p) (upd H p (.tup [.int (rn n u), .int (ru n u)]))
theorem ok_fr (F : FunD K "_law_fr" "_law_fr" (defArgs s_law_fr) (defBody s_law_fr) (defScope s_law_fr) [.int 1] [] f fd) (hm : mg "_law_fr" = some (.ref f)) (T : Bl mg base) (c_law_gcd : Cal P w K mg base 1 "_law_gcd" spGcd []) : Cal P w K mg base 2 "_law_fr" spFr [] := by
  refine calDD F hm sc_law_fr (by simp) (fun T kV doc pm an cdv ct us its hl hi => match us, its, hl, hi with | [_, _], [_], _, _ => ⟨_, rfl, rfl⟩) (fun vs H Q E h => ?_) (fun cdv A outer s H vs Q E hr h => ?_)
  · obtain ⟨n, u, rfl, _⟩ := h
    rfl
  obtain ⟨n, u, rfl, u0, ub, k⟩ := h
  refine ⟨_, (pss_cons (ps_set (i := 2) sc_law_fr.nd rfl (by first | exact Or.inl rfl | exact Or.inr rfl) (pe_op op_mul (pe_c c_law_gcd hr (by decide) (by rfl) (pa_cons (pv 0) (pa_cons (pv 1) pa_nil))) (pe_ifExp (pt_cmpR op_lt (pv 1) pe_int (nomark _)) (pe_un un_neg pe_int) pe_int)))
    (pss_one (ps_ret (pe_tup (pa_cons (pe_op op_fdivZ (pv 0) (pv 2)) (pa_cons (pe_op op_fdivZ (pv 1) (pv 2)) pa_nil)))))), ?_⟩
  have c : sg n u ≠ 0 ∧ (sg n u).natAbs.log2 < 9000 := ⟨sg_ne u0, (nb_sg u0 ub).log⟩
  have fin : ∀ {g : Int} {D : Ends}, g = sg n u → (∀ p, H p = none → D.rt (.ref p) (upd H p (.tup [.int (rn n u), .int (ru n u)]))) →
      tRet (tTup (tCons (tOp (rI CDivZ fun i j => V.int (i.fdiv j)) (tVar 0) (tVar 2)) (tCons (tOp (rI CDivZ fun i j => V.int (i.fdiv j)) (tVar 1) (tVar 2)) tNil))) D [some (.int n), some (.int u), some (.int g)] H := by
    rintro g D rfl k
    exact ⟨_, rfl, _, rfl, _, _, rfl, rfl, c, _, rfl, _, rfl, _, _, rfl, rfl, c, (by show 2 ≤ sizeLine; decide), fun p hp => k p hp⟩
  refine ⟨_, rfl, _, rfl, _, _, rfl, _, rfl, _, _, rfl, rfl, _, rfl, ite2 (fun h => ?_) (fun h => ?_)⟩
  · refine ⟨_, rfl, _, _, rfl, rfl, .inr ⟨by decide, by decide⟩, fin (D := { nx := fun _ H' => Q .non H', rt := Q }) ?_ k⟩
    unfold sg gd
    rw [if_pos (of_decide_eq_true h)]
    omega
  · refine ⟨_, _, rfl, rfl, .inr ⟨by decide, by decide⟩, fin (D := { nx := fun _ H' => Q .non H', rt := Q }) ?_ k⟩
    unfold sg gd
    rw [if_neg fun z => h (decide_eq_true z)]
    omega
theorem small_log {i : Int} (h : i.natAbs ≤ 1000000) : i.natAbs.log2 < 1920 ∧ (ds i).length ≤ 8 := by
  have a : i.natAbs < 2 ^ 20 := Nat.lt_of_le_of_lt h (by decide)
  refine ⟨?_, ?_⟩
  · by_cases z : i.natAbs = 0
    · rw [z]
      decide
    · exact Nat.lt_trans ((Nat.log2_lt z).mpr a) (by decide)
  · have t7 : (10 : Nat) ^ 7 = 10000000 := by decide
    have l : (TL.numL i.natAbs).length ≤ 7 := TL.numL_len (by decide) (by omega)
    rw [TL.len_tl]
    by_cases z : i < 0
    · rw [tl_ds_neg z, List.length_cons]
      omega
    · obtain ⟨m, rfl⟩ := Int.eq_ofNat_of_zero_le (by omega : 0 ≤ i)
      rw [tl_ds_nat]
      simp only [Int.natAbs_natCast] at l
      omega
theorem ok_frtext (F : FunD K "_law_fr_text" "_law_fr_text" (defArgs s_law_fr_text) (defBody s_law_fr_text) (defScope s_law_fr_text) [] [] f fd) (hm : mg "_law_fr_text" = some (.ref f)) (T : Bl mg base) : Cal P w K mg base 1 "_law_fr_text" spFrText [] := by
  refine calD F hm sc_law_fr_text (fun _ _ _ _ _ _ us hl => match us, hl with | [_], _ => rfl) (fun vs H Q E h => ?_) (fun cdv A outer s H vs Q E hr h => ?_)
  · obtain ⟨p, n, u, rfl, _⟩ := h
    rfl
  obtain ⟨p, n, u, rfl, fr, bn, bu, q⟩ := h
  refine ⟨_, (pss_one (ps_ret (pe_ifExp (pt_cmpR op_eq (pe_ix ix_seq (pv 0) pe_int (fun _ _ => rfl)) pe_int (nomark _)) (pe_callTy call_str_int (by rfl) T.str (by decide +kernel) (pa_cons (pe_ix ix_seq (pv 0) pe_int (fun _ _ => rfl)) pa_nil)) (pe_op op_add_str (pe_op op_add_str (pe_callTy call_str_int (by rfl) T.str (by decide +kernel) (pa_cons (pe_ix ix_seq (pv 0) pe_int (fun _ _ => rfl)) pa_nil)) pe_str) (pe_callTy call_str_int (by rfl) T.str (by decide +kernel) (pa_cons (pe_ix ix_seq (pv 0) pe_int (fun _ _ => rfl)) pa_nil)))))), ?_⟩
  have a0 : ∀ i j : Int, atI [V.int i, V.int j] 0 = some (.int i) := fun _ _ => atI_of (j := 0) rfl rfl
  have a1 : ∀ i j : Int, atI [V.int i, V.int j] 1 = some (.int j) := fun _ _ => atI_of (j := 1) rfl rfl
  obtain ⟨g1, l1⟩ := small_log bn
  obtain ⟨g2, l2⟩ := small_log bu
  have l1 : (Str.ofString (toString n)).length ≤ 8 := l1
  have l2 : (Str.ofString (toString u)).length ≤ 8 := l2
  unfold ratText at q
  refine ⟨_, rfl, .inr (.inl ⟨p, _, 1, _, rfl, rfl, SqT.of fr.e, a1 _ _, rfl, _, rfl, ite2 (fun h => ?_) (fun h => ?_)⟩)⟩
  · obtain rfl := V.int.inj (of_decide_eq_true h)
    exact ⟨_, rfl, .inr (.inl ⟨p, _, 0, _, rfl, rfl, SqT.of fr.e, a0 _ _, _, rfl, g1, q⟩)⟩
  · rw [if_neg fun z => h (decide_eq_true (congrArg V.int z))] at q
    refine ⟨_, rfl, .inr (.inl ⟨p, _, 0, _, rfl, rfl, SqT.of fr.e, a0 _ _, _, rfl, g1, _, _, rfl, rfl, ?_, _, rfl, .inr (.inl ⟨p, _, 1, _, rfl, rfl, SqT.of fr.e, a1 _ _, _, rfl, g2, _, _, rfl, rfl, ?_, q⟩)⟩)⟩
    · show _ + 1 ≤ _
      rw [sizeLine_eq]
      omega
    · rw [strLen_append, sizeLine_eq]
      show _ + 1 + _ ≤ _
      omega
theorem upd2 {H : Hp} {D : Addr} {o o' : HO} : upd (upd H D o) D o' = upd H D o' := by
  funext b
  by_cases e : b = D
  · subst e
    rw [upd_same, upd_same]
  · rw [upd_ne e, upd_ne e, upd_ne e]
theorem in_digs (c : Nat) : (c ∈ ("0123456789" : Str).cps.toList) ↔ 48 ≤ c ∧ c ≤ 57 := by
  show c ∈ [48, 49, 50, 51, 52, 53, 54, 55, 56, 57] ↔ _
  simp only [List.mem_cons, List.not_mem_nil, or_false]
  omega
theorem ok_whl (F : FunD K "_law_whole" "_law_whole" (defArgs s_law_whole) (defBody s_law_whole) (defScope s_law_whole) [] [] f fd) (hm : mg "_law_whole" = some (.ref f)) (T : Bl mg base) (dg : Dg base) : Cal P w K mg base 1 "_law_whole" spWhl [] := by
  refine calD F hm sc_law_whole (fun _ _ _ _ _ _ us hl => match us, hl with | [_], _ => rfl) (fun vs H Q E h => ?_) (fun cdv A outer s H vs Q E hr h => ?_)
  · obtain ⟨x, rfl, _⟩ := h
    rfl
  obtain ⟨x, rfl, hl, k⟩ := h
  refine ⟨_, (pss_cons (ps_if (PW.pt (pw_or (pt_cmpR op_eq (pv 0) pe_str (nomark _)) (pw_or (pt_not (pt_val (pe_callB (cr_all rfl) (by rfl) T.all (by decide +kernel) (pa_cons (pe_lc (own := [("sign", 1)]) (g := (gName 1)) (tt := tYes) rfl sc_law_whole.nd (pi_str (pv 0)) (blkOk_by (own := [("sign", 1)]) (N := n_law_whole) (sc := defScope s_law_whole) (by decide +kernel)) (fun _ _ _ _ _ => (pg_name (i := 1) sc_law_whole.nd rfl (by first | exact Or.inl rfl | exact Or.inr rfl))) (fun _ _ _ _ _ => pts_nil) (fun _ _ _ _ _ => (pe_cmpR op_in_sign (pv 1) pe_str (by rfl)))) pa_nil)))) (pw_or1 (PW.pt (pw_and (pt_cmpR op_gt (pe_callB call_len_str (by rfl) T.len (by decide +kernel) (pa_cons (pv 0) pa_nil)) pe_int (nomark _)) (pw_and1 (pt_cmpR op_eq (pe_ix ix_str (pv 0) pe_int (fun _ _ => rfl)) pe_str (nomark _))))))))) (pss_one (ps_ret pe_non)) pss_nil)
    (pss_one (ps_ret (pe_callTy (call_int_big dg) (by rfl) T.int (by decide +kernel) (pa_cons (pv 0) pa_nil))))), ?_⟩
  refine ⟨_, rfl, rfl, _, rfl, ?_⟩
  have ee : decide (V.str x = V.str "") = decide (TL.tl x = []) := decide_eq_decide.mpr ⟨fun z => by rw [V.str.inj z] <;> rfl, fun z => congrArg V.str (TL.ext_tl (z.trans rfl))⟩
  rw [ee]
  by_cases z : TL.tl x = []
  · refine yes_of (decide_eq_true z) ?_
    have w0 : wv (TL.tl x) = .non := by
      unfold wv
      rw [if_neg fun w => w.1.2 z]
    have kk := k H (Same.refl H)
    rw [w0] at kk
    exact kk
  refine no_of (decide_eq_false z) ?_
  refine ⟨_, rfl, x, rfl, fun D hD => lc_str (x := x) (fun i H' => H' = upd H D (.lst ((((TL.tl x).take i).map fun c => decide (48 ≤ c ∧ c ≤ 57)).map V.bl))) rfl ?_ ?_⟩
  · rintro i c H' hc rfl
    refine ⟨rfl, ?_⟩
    refine yes_if ?_
    refine ⟨_, rfl, c, _, rfl, rfl, _, upd_same, ?_, ?_⟩
    · rw [List.length_map, List.length_map, List.length_take, ← TL.len_tl, sizeLine_eq]
      omega
    · have e1 : decide (c ∈ ("0123456789" : Str).cps.toList) = decide (48 ≤ c ∧ c ≤ 57) := decide_eq_decide.mpr (in_digs c)
      rw [upd2, e1, List.take_add_one, hc, List.map_append, List.map_append] <;> rfl
  · rintro H' rfl
    have s1 : Same H (upd H D (.lst ((((TL.tl x).take (TL.tl x).length).map fun c => decide (48 ≤ c ∧ c ≤ 57)).map V.bl))) := Same.new hD
    have kk := k _ s1
    have ba : (((TL.tl x).take (TL.tl x).length).map fun c => decide (48 ≤ c ∧ c ≤ 57)).all id = decide (NumText.AllDigits (TL.tl x)) := by
      rw [List.take_length, Bool.eq_iff_iff, List.all_eq_true, decide_eq_true_eq]
      constructor
      · intro h c hc
        exact of_decide_eq_true (h _ (List.mem_map.mpr ⟨c, hc, rfl⟩))
      · intro h b hb
        obtain ⟨c, hc, rfl⟩ := List.mem_map.mp hb
        exact decide_eq_true (h c hc)
    refine ⟨D, _, rfl, SqL.of upd_same, _, rfl, ?_⟩
    rw [ba]
    generalize upd H D (.lst ((((TL.tl x).take (TL.tl x).length).map fun c => decide (48 ≤ c ∧ c ≤ 57)).map V.bl)) = H1 at *
    unfold wv at kk
    by_cases ad : NumText.AllDigits (TL.tl x)
    · rw [decide_eq_true ad]
      have lx : x.length ≤ sizeLine := by
        rw [sizeLine_eq]
        omega
      refine no_of rfl ⟨_, rfl, x, rfl, lx, _, _, rfl, rfl, _, rfl, ?_⟩
      have iT : PySem.intText? x = some ((dv (TL.tl x) : Nat) : Int) := PySem.intText_digits ad z (by omega)
      obtain ⟨d, r, e⟩ : ∃ d r, TL.tl x = d :: r := by
        cases h : TL.tl x with
        | nil => exact absurd h z
        | cons d r => exact ⟨d, r, rfl⟩
      have ll : x.length = (TL.tl x).length := TL.len_tl x
      by_cases l1 : 1 < x.length
      · refine yes_of (decide_eq_true (by omega)) ?_
        refine ⟨_, rfl, x, 0, d, rfl, rfl, lx, atI_of (j := 0) rfl (by
          show (TL.tl x)[0]? = some d
          rw [e]
          rfl), rfl, _, rfl, ?_⟩
        have e0 : decide (V.str ⟨#[d]⟩ = V.str "0") = decide (d = 48) := decide_eq_decide.mpr ⟨fun w => by
          have w2 : TL.tl (⟨#[d]⟩ : Str) = TL.tl ("0" : Str) := congrArg TL.tl (V.str.inj w)
          exact List.head_eq_of_cons_eq w2, fun w => by rw [w] <;> rfl⟩
        rw [e0]
        by_cases d48 : d = 48
        · refine yes_of (decide_eq_true d48) ?_
          rw [if_neg fun w => w.2 (by omega) (by rw [e, d48] <;> rfl)] at kk
          exact kk
        · refine no_of (decide_eq_false d48) ?_
          rw [if_pos ⟨⟨ad, z⟩, fun _ w => d48 (by rw [e] at w; exact Option.some.inj w)⟩] at kk
          exact ⟨_, rfl, x, _, rfl, iT, kk⟩
      · refine no_of (decide_eq_false (by omega)) ?_
        rw [if_pos ⟨⟨ad, z⟩, fun w => absurd w (by omega)⟩] at kk
        exact ⟨_, rfl, x, _, rfl, iT, kk⟩
    · rw [decide_eq_false ad]
      rw [if_neg fun w => ad w.1.1] at kk
      exact yes_of rfl kk
end
end K03

namespace K03
open PySem PySem.Spec PyProof.Rows L2 Lm
open C8 (Cal Mak Met pe_c pe_mk pe_mt pe_mt0 pss_cut tCut)
open LamX (CodeO TabS Tabs ExtN TabB LamS lamCx lamEnv lamS_by)
--KR 9
--NOTOP
abbrev s_law_fraction_in : Stmt := top 30
abbrev n_law_fraction_in : List Str := ["written", "sign", "rest", "terms", "numbers", "word"]
abbrev p_law_fraction_in : List Str := ["written"]
theorem sc_law_fraction_in : FnScope n_law_fraction_in p_law_fraction_in (defScope s_law_fraction_in) := ⟨rfl, rfl, rfl, by decide +kernel, rfl, by decide +kernel, by decide +kernel⟩
section
variable {P : Program} {w : World} {K : PySem.W.Frag} {mg : Str → Option Value} {base : Heap} {f fE fR : Addr} {fd fdE fdR : FuncData} {psE psR : List Str}
theorem ok_fin (F : FunD K "_law_fraction_in" "_law_fraction_in" (defArgs s_law_fraction_in) (defBody s_law_fraction_in) (defScope s_law_fraction_in) [] [] f fd) (hm : mg "_law_fraction_in" = some (.ref f)) (T : Bl mg base) (c_law_whole : Cal P w K mg base 1 "_law_whole" spWhl []) (c_law_fr : Cal P w K mg base 2 "_law_fr" spFr []) : Cal P w K mg base 3 "_law_fraction_in" spFIn [] := by
  refine calD F hm sc_law_fraction_in (fun _ _ _ _ _ _ us hl => match us, hl with | [_], _ => rfl) (fun vs H Q E h => ?_) (fun cdv A outer s H vs Q E hr h => ?_)
  · obtain ⟨t, rfl, _⟩ := h
    rfl
  obtain ⟨t, rfl, hl, yes, no⟩ := h
  refine ⟨_, (pss_cut (ps_asg (pe_ifExp (pt_cmpR op_eq (pe_slice sl_str (pv 0) po_none (po_some pe_int)) pe_str (nomark _)) (pe_tup (pa_cons (pe_un un_neg pe_int) (pa_cons (pe_slice sl_str (pv 0) (po_some pe_int) po_none) pa_nil))) (pe_tup (pa_cons pe_int (pa_cons (pv 0) pa_nil)))) (pg_tup rfl (pgs_cons (pg_name (i := 1) sc_law_fraction_in.nd rfl (by first | exact Or.inl rfl | exact Or.inr rfl)) (pgs_cons (pg_name (i := 2) sc_law_fraction_in.nd rfl (by first | exact Or.inl rfl | exact Or.inr rfl)) pgs_nil))))
    (pss_cons (ps_set (i := 3) sc_law_fraction_in.nd rfl (by first | exact Or.inl rfl | exact Or.inr rfl) (pe_split (pv 2) pe_str))
    (pss_cons (ps_setLc (i := 4) (own := [("word", 5)]) (g := (gName 5)) (tt := tYes) rfl sc_law_fraction_in.nd rfl rfl (sw_true rfl rfl rfl (by decide +kernel)) (pi_list (pv 3)) (blkOk_by (own := [("word", 5)]) (N := n_law_fraction_in) (sc := defScope s_law_fraction_in) (by decide +kernel)) (fun _ _ _ _ _ => (pg_name (i := 5) sc_law_fraction_in.nd rfl (by first | exact Or.inl rfl | exact Or.inr rfl))) (fun _ _ _ _ _ => pts_nil) (fun _ _ _ _ _ => (pe_c c_law_whole hr (by decide) (by rfl) (pa_cons (pv 5) pa_nil))))
    (pss_cons (ps_if (PW.pt (pw_or (pt_cmpR op_in_seq pe_non (pv 4) (by rfl)) (pw_or (pt_cmpR op_gt (pe_callB call_len_seq (by rfl) T.len (by decide +kernel) (pa_cons (pv 3) pa_nil)) pe_int (nomark _)) (pw_or1 (PW.pt (pw_and (pt_cmpR op_lt (pv 1) pe_int (nomark _)) (pw_and1 (pt_cmpR op_eq (pe_ix ix_seq (pv 4) pe_int (fun _ _ => rfl)) pe_int (nomark _))))))))) (pss_one (ps_ret pe_non)) pss_nil)
    (pss_cons (ps_if (pt_cmpR op_eq (pe_callB call_len_seq (by rfl) T.len (by decide +kernel) (pa_cons (pv 3) pa_nil)) pe_int (nomark _)) (pss_one (ps_ret (pe_tup (pa_cons (pe_op op_mulX (pv 1) (pe_ix ix_seq (pv 4) pe_int (fun _ _ => rfl))) (pa_cons pe_int pa_nil))))) pss_nil)
    (pss_cons (ps_if (PW.pt (pw_or (pt_cmpR op_lt (pe_ix ix_seq (pv 4) pe_int (fun _ _ => rfl)) pe_int (nomark _)) (pw_or1 (pt_cmpR (op_neD hr.units) (pe_c c_law_fr hr (by decide) (by rfl) (pa_cons (pe_ix ix_seq (pv 4) pe_int (fun _ _ => rfl)) (pa_cons (pe_ix ix_seq (pv 4) pe_int (fun _ _ => rfl)) pa_nil))) (pe_tup (pa_cons (pe_ix ix_seq (pv 4) pe_int (fun _ _ => rfl)) (pa_cons (pe_ix ix_seq (pv 4) pe_int (fun _ _ => rfl)) pa_nil))) (nomark _))))) (pss_one (ps_ret pe_non)) pss_nil)
    (pss_one (ps_ret (pe_tup (pa_cons (pe_op op_mulX (pv 1) (pe_ix ix_seq (pv 4) pe_int (fun _ _ => rfl))) (pa_cons (pe_ix ix_seq (pv 4) pe_int (fun _ _ => rfl)) pa_nil))))))))))), ?_⟩
  have lt : t.length ≤ sizeLine := by
    rw [sizeLine_eq]
    omega
  refine ⟨fun σ H' => Same H H' ∧ ∃ r : Str, TL.tl r = mn (TL.tl t) ∧ σ = [some (.str t), some (.int (if (TL.tl t).head? = some 45 then -1 else 1)), some (.str r), none, none, none], ?_, ?_⟩
  · refine asg_ofA ⟨_, rfl, _, rfl, t, rfl, lt, rfl, _, rfl, ?_⟩
    have e1 : decide (V.str (cutS t none (some 1)) = V.str "-") = decide ((TL.tl t).head? = some 45) := by
      refine decide_eq_decide.mpr ⟨fun w => ?_, fun w => congrArg V.str (TL.ext_tl ?_)⟩
      · have w2 : TL.tl (cutS t none (some ((1 : Nat) : Int))) = TL.tl ("-" : Str) := congrArg TL.tl (V.str.inj w)
        rw [cut_take] at w2
        cases h : TL.tl t with
        | nil => rw [h] at w2; cases w2
        | cons c r =>
          rw [h] at w2
          have w3 : [c] = [45] := w2
          rw [List.head_eq_of_cons_eq w3] <;> rfl
      · show TL.tl (cutS t none (some ((1 : Nat) : Int))) = [45]
        rw [cut_take]
        cases h : TL.tl t with
        | nil => rw [h] at w; cases w
        | cons c r =>
          rw [h] at w
          rw [Option.some.inj w] <;> rfl
    rw [e1]
    by_cases c : (TL.tl t).head? = some 45
    · have l1 : 1 ≤ t.length := by
        rw [TL.len_tl]
        cases h : TL.tl t with
        | nil => rw [h] at c; cases c
        | cons _ _ => simp
      refine yes_of (decide_eq_true c) ⟨_, rfl, _, rfl, _, rfl, t, rfl, lt, (by show 2 ≤ sizeLine; decide), fun p hp => unpackA upd_same ⟨Same.new hp, cutS t (some ((1 : Nat) : Int)) none, ?_, ?_⟩⟩
      · rw [cut_drop t 1 l1]
        cases h : TL.tl t with
        | nil => rw [h] at c; cases c
        | cons d r =>
          rw [h] at c
          rw [Option.some.inj c] <;> rfl
      · rw [if_pos c] <;> rfl
    · refine no_of (decide_eq_false c) ⟨_, rfl, (by show 2 ≤ sizeLine; decide), fun p hp => unpackA upd_same ⟨Same.new hp, t, (mn_pos c).symm, ?_⟩⟩
      rw [if_neg c] <;> rfl
  rintro σ H1 ⟨s1, r, er, rfl⟩
  have lr : r.length ≤ 2000 := by
    have z := mn_len (TL.tl t)
    rw [TL.len_tl, er]
    rw [TL.len_tl] at hl
    omega
  have spl := split_tl r
  obtain ⟨b1, b2, b3⟩ := spl_small _ (TL.tl r) rfl
  rw [← spl] at b1 b2 b3
  rw [List.length_map] at b3
  have lr2 : r.length + 2 ≤ sizeLine := by
    rw [sizeLine_eq]
    omega
  refine ⟨_, rfl, ⟨_, rfl⟩, r, _, rfl, rfl, (by decide +kernel), lr2, fun p hp => ?_⟩
  generalize Txt.split r ("/" : Str) = ws at *
  have s2 : Same H1 (upd H1 p (.lst (ws.map V.str))) := Same.new hp
  have e2 : upd H1 p (.lst (ws.map V.str)) p = some (.lst (ws.map V.str)) := upd_same
  generalize upd H1 p (.lst (ws.map V.str)) = H2 at *
  have lws : ws.length ≤ 2001 := by
    rw [TL.len_tl] at lr
    omega
  have s12 := s1.trans s2
  dsimp only [gName]
  refine ⟨_, rfl, p, rfl, ⟨_, SqL.of e2⟩, fun D hD => lc_list (K := K) (a := p) (xs := ws.map V.str) (fun i H' => Same H2 H' ∧ H' D = some (.lst ((ws.take i).map fun w => wv (TL.tl w)))) ⟨Same.new hD, upd_same⟩ (fun i H' _ h => SqL.of (h.1 _ _ e2)) ?_ ?_⟩
  · rintro i v H' hv ⟨s3, eD⟩
    obtain ⟨wd, hw, rfl⟩ : ∃ wd, ws[i]? = some wd ∧ v = V.str wd := by
      rw [List.getElem?_map] at hv
      cases h : ws[i]? with
      | none => rw [h] at hv; cases hv
      | some wd => rw [h] at hv; exact ⟨wd, rfl, (Option.some.inj hv).symm⟩
    refine ⟨rfl, ?_⟩
    refine yes_if ?_
    have lw : wd.length ≤ 2000 := by
      have z := b1 _ (List.mem_map.mpr ⟨wd, List.mem_of_getElem? hw, rfl⟩)
      rw [TL.len_tl]
      rw [TL.len_tl] at lr
      omega
    refine ⟨_, rfl, wd, rfl, lw, fun H4 s4 => ⟨_, s4 _ _ eD, ?_, ?_, ?_⟩⟩
    · rw [List.length_map, List.length_take, sizeLine_eq]
      omega
    · intro b o eb
      have nb : b ≠ D := ne_of_none eb hD
      rw [upd_ne nb]
      exact s4 _ _ (s3 _ _ eb)
    · rw [upd_same, List.take_add_one, hw, List.map_append] <;> rfl
  · rintro H3 ⟨s3, eD⟩
    rw [List.length_map, List.take_length] at eD
    have ep := s3 _ _ e2
    have s03 := s12.trans s3
    clear s1 s2 s3 e2 s12 hD hp
    have nin : ∀ w, inV .non (ws.map fun w => wv (TL.tl w)) = w → (w = false ↔ ∀ x ∈ ws, Wd (TL.tl x)) := by
      rintro w rfl
      unfold inV
      rw [List.any_eq_false]
      constructor
      · intro h x hx
        by_cases c : Wd (TL.tl x)
        · exact c
        · have := h _ (List.mem_map.mpr ⟨x, hx, rfl⟩)
          unfold wv at this
          rw [if_neg c] at this
          exact absurd rfl this
      · intro h v hv
        obtain ⟨x, hx, rfl⟩ := List.mem_map.mp hv
        unfold wv
        rw [if_pos (h x hx)]
        exact Bool.false_ne_true
    refine ⟨_, rfl, D, _, rfl, .inl (SqL.of eD), rfl, ?_, _, rfl, ?_⟩
    · rw [List.all_eq_true]
      intro v hv
      obtain ⟨x, hx, rfl⟩ := List.mem_map.mp hv
      unfold wv
      split <;> rfl
    have ist : ∀ n u, IsT (TL.tl t) n u → ((TL.tl t).head? = some 45 ↔ n < 0) ∧ 0 < u ∧ ((u = 1 ∧ ws.map TL.tl = [TL.numL n.natAbs]) ∨ (u ≠ 1 ∧ ws.map TL.tl = [TL.numL n.natAbs, TL.numL u.natAbs] ∧ Red n u)) := fun n u h => by
      obtain ⟨⟨h1, h2⟩, h3⟩ := ist_words h
      rw [← er, ← spl] at h3
      exact ⟨h1, h2, h3⟩
    have sps : TL.spl [47] 0 [] (mn (TL.tl t)) = ws.map TL.tl := by rw [← er]; exact spl.symm
    by_cases hW : ∀ x ∈ ws, Wd (TL.tl x)
    · have e0 := (nin _ rfl).mpr hW
      rw [e0]
      refine no_of rfl ⟨_, rfl, p, _, rfl, .inl (SqL.of ep), _, _, rfl, rfl, _, rfl, ?_⟩
      by_cases l2 : 2 < ws.length
      · refine yes_of (decide_eq_true (by rw [List.length_map]; omega)) (no (fun n u h => ?_) H3 s03)
        obtain ⟨_, _, h3⟩ := ist n u h
        have ll : (ws.map TL.tl).length = ws.length := List.length_map _
        rcases h3 with ⟨_, e⟩ | ⟨_, e, _⟩
        · rw [e] at ll
          simp at ll
          omega
        · rw [e] at ll
          simp at ll
          omega
      refine no_of (decide_eq_false (by rw [List.length_map]; omega)) ?_
      obtain ⟨a, rest, rfl⟩ : ∃ a rest, ws = a :: rest := by
        cases ws with
        | nil => exact absurd rfl b2
        | cons a rest => exact ⟨a, rest, rfl⟩
      have hWa : Wd (TL.tl a) := hW a (by simp)
      have ea : wv (TL.tl a) = .int ((dv (TL.tl a) : Nat) : Int) := by
        unfold wv
        rw [if_pos hWa]
      have at0 : atI ((a :: rest).map fun w => wv (TL.tl w)) 0 = some (.int ((dv (TL.tl a) : Nat) : Int)) := atI_of (j := 0) rfl (by
        show some (wv (TL.tl a)) = _
        rw [ea])
      have sgn : ∀ {c : Bool}, c = decide ((if (TL.tl t).head? = some 45 then (-1 : Int) else 1) < 0) → c = decide ((TL.tl t).head? = some 45) := by
        rintro c rfl
        by_cases z : (TL.tl t).head? = some 45
        · rw [if_pos z, decide_eq_true z] <;> rfl
        · rw [if_neg z, decide_eq_false z] <;> rfl
      have e45 : decide ((if (TL.tl t).head? = some 45 then (-1 : Int) else 1) < 0) = decide ((TL.tl t).head? = some 45) := sgn rfl
      have da : decide (V.int ((dv (TL.tl a) : Nat) : Int) = V.int 0) = decide (dv (TL.tl a) = 0) := decide_eq_decide.mpr ⟨fun w => by have := V.int.inj w; omega, fun w => by rw [w] <;> rfl⟩
      have lena : (TL.tl a).length ≤ 2000 := by
        have z := b1 _ (List.mem_map.mpr ⟨a, by simp, rfl⟩)
        rw [TL.len_tl] at lr
        omega
      have nba : (((dv (TL.tl a) : Nat) : Int)).natAbs < 2 ^ 7000 := by
        rw [Int.natAbs_natCast]
        exact dv_nb hWa.1.1 lena
      have cm : CMulX (if (TL.tl t).head? = some 45 then (-1 : Int) else 1) ((dv (TL.tl a) : Nat) : Int) := mulx_ok (a := 1) (by split <;> decide) nba (by decide)
      refine ⟨_, rfl, _, _, rfl, rfl, _, rfl, ?_⟩
      rw [e45]
      have neg : ((TL.tl t).head? = some 45 ∧ dv (TL.tl a) = 0) → ∀ n u, ¬ IsT (TL.tl t) n u := fun ⟨c1, c2⟩ n u h => by
        obtain ⟨h1, _, h3⟩ := ist n u h
        have hn := h1.mp c1
        have e1 : TL.tl a = TL.numL n.natAbs := by
          rcases h3 with ⟨_, e⟩ | ⟨_, e, _⟩ <;> exact List.head_eq_of_cons_eq e
        rw [e1, dv_num] at c2
        omega
      by_cases c1 : (TL.tl t).head? = some 45
      focus
        refine yes_of (decide_eq_true c1) ⟨_, rfl, .inl ⟨D, _, 0, _, rfl, rfl, SqL.of eD, at0, rfl, _, rfl, ?_⟩⟩
        rw [da]
        by_cases c2 : dv (TL.tl a) = 0
        focus
          exact yes_of (decide_eq_true c2) (no (neg ⟨c1, c2⟩) H3 s03)
        refine no_of (decide_eq_false c2) ?_
        have hl : ¬ ((TL.tl t).head? = some 45 ∧ dv (TL.tl a) = 0) := fun z => c2 z.2
        clear c1 c2
      rotate_left 1
      focus
        refine no_of (decide_eq_false c1) ?_
        have hl : ¬ ((TL.tl t).head? = some 45 ∧ dv (TL.tl a) = 0) := fun z => c1 z.1
        clear c1
      all_goals
        refine ⟨_, rfl, p, _, rfl, .inl (SqL.of ep), rfl, _, rfl, ?_⟩
        cases rest with
        | nil =>
          refine yes_of (decide_eq_true rfl) ⟨_, rfl, _, rfl, .inl ⟨D, _, 0, _, rfl, rfl, SqL.of eD, at0, _, _, rfl, rfl, cm, (by show 2 ≤ sizeLine; decide), fun q hq => yes _ _ (ist_one (a := TL.tl a) sps hWa hl) _ q (s03.trans (Same.new hq)) upd_same⟩⟩
        | cons b rest2 =>
          obtain rfl : rest2 = [] := by
            cases rest2 with
            | nil => rfl
            | cons c r => exact absurd (show 2 < (a :: b :: c :: r).length by simp) l2
          refine no_of (decide_eq_false fun w => absurd (show (2 : Int) = 1 from V.int.inj w) (by decide)) ?_
          have hWb : Wd (TL.tl b) := hW b (by simp)
          have eb : wv (TL.tl b) = .int ((dv (TL.tl b) : Nat) : Int) := by
            unfold wv
            rw [if_pos hWb]
          have at1 : atI ([a, b].map fun w => wv (TL.tl w)) 1 = some (.int ((dv (TL.tl b) : Nat) : Int)) := atI_of (j := 1) rfl (by
            show some (wv (TL.tl b)) = _
            rw [eb])
          have lenb : (TL.tl b).length ≤ 2000 := by
            have z := b1 _ (List.mem_map.mpr ⟨b, by simp, rfl⟩)
            rw [TL.len_tl] at lr
            omega
          have nbb : Nb ((dv (TL.tl b) : Nat) : Int) := by
            unfold Nb
            rw [Int.natAbs_natCast]
            exact Nat.lt_of_lt_of_le (dv_nb hWb.1.1 lenb) (Nat.pow_le_pow_right (by decide) (by decide))
          have two : ∀ n u, IsT (TL.tl t) n u → TL.tl a = TL.numL n.natAbs ∧ TL.tl b = TL.numL u.natAbs ∧ Red n u ∧ u ≠ 1 := fun n u h => by
            obtain ⟨_, _, h3⟩ := ist n u h
            rcases h3 with ⟨_, e⟩ | ⟨c, e, rd⟩
            · have z := congrArg List.length e
              simp at z
            · exact ⟨List.head_eq_of_cons_eq e, List.head_eq_of_cons_eq (List.tail_eq_of_cons_eq e), rd, c⟩
          refine ⟨_, rfl, .inl ⟨D, _, 1, _, rfl, rfl, SqL.of eD, at1, _, _, rfl, rfl, _, rfl, ?_⟩⟩
          by_cases b2' : dv (TL.tl b) < 2
          · refine yes_of (decide_eq_true (by omega)) (no (fun n u h => ?_) H3 s03)
            obtain ⟨_, h2, rd, c⟩ := two n u h
            have := rd.pos
            rw [h2, dv_num] at b2'
            omega
          refine no_of (decide_eq_false (by omega)) ?_
          have b0 : ((dv (TL.tl b) : Nat) : Int) ≠ 0 := by omega
          refine ⟨_, rfl, .inl ⟨D, _, 0, _, rfl, rfl, SqL.of eD, at0, _, rfl, .inl ⟨D, _, 1, _, rfl, rfl, SqL.of eD, at1, _, _, rfl, b0, nbb, fun q hq => ?_⟩⟩⟩
          have s4 : Same H3 (upd H3 q (.tup [.int (rn ((dv (TL.tl a) : Nat) : Int) ((dv (TL.tl b) : Nat) : Int)), .int (ru ((dv (TL.tl a) : Nat) : Int) ((dv (TL.tl b) : Nat) : Int))])) := Same.new hq
          have eq4 : upd H3 q (.tup [.int (rn ((dv (TL.tl a) : Nat) : Int) ((dv (TL.tl b) : Nat) : Int)), .int (ru ((dv (TL.tl a) : Nat) : Int) ((dv (TL.tl b) : Nat) : Int))]) q = some (.tup [.int (rn ((dv (TL.tl a) : Nat) : Int) ((dv (TL.tl b) : Nat) : Int)), .int (ru ((dv (TL.tl a) : Nat) : Int) ((dv (TL.tl b) : Nat) : Int))]) := upd_same
          generalize upd H3 q (.tup [.int (rn ((dv (TL.tl a) : Nat) : Int) ((dv (TL.tl b) : Nat) : Int)), .int (ru ((dv (TL.tl a) : Nat) : Int) ((dv (TL.tl b) : Nat) : Int))]) = H4 at *
          have eD4 := s4 _ _ eD
          refine ⟨_, rfl, .inl ⟨D, _, 0, _, rfl, rfl, SqL.of eD4, at0, _, rfl, .inl ⟨D, _, 1, _, rfl, rfl, SqL.of eD4, at1, (by show 2 ≤ sizeLine; decide), fun q2 hq2 => ?_⟩⟩⟩
          have s5 := Same.new (o := .tup [.int ((dv (TL.tl a) : Nat) : Int), .int ((dv (TL.tl b) : Nat) : Int)]) hq2
          refine ⟨_, _, .tup (SqT.of (s5 _ _ eq4)) (.cons (.int _) (.cons (.int _) .nil)), .tup (SqT.of upd_same) (.cons (.int _) (.cons (.int _) .nil)), rfl, rfl, _, rfl, ?_⟩
          have ev : ∀ a b c d : Int, (!PyData.eqv (.tuple [.int a, .int b]) (.tuple [.int c, .int d])) = !decide (a = c ∧ b = d) := fun a b c d => by
            have z : PyData.eqv (.tuple [.int a, .int b]) (.tuple [.int c, .int d]) = (a == c && (b == d && true)) := rfl
            rw [z, Bool.and_true]
            by_cases h1 : a = c <;> by_cases h2 : b = d <;> simp [h1, h2]
          rw [ev]
          have eD5 := s5 _ _ eD4
          by_cases rr : rn ((dv (TL.tl a) : Nat) : Int) ((dv (TL.tl b) : Nat) : Int) = ((dv (TL.tl a) : Nat) : Int) ∧ ru ((dv (TL.tl a) : Nat) : Int) ((dv (TL.tl b) : Nat) : Int) = ((dv (TL.tl b) : Nat) : Int)
          · refine no_of (by rw [decide_eq_true rr]; rfl) ?_
            have rd := red_of (n := ((dv (TL.tl a) : Nat) : Int)) b0
            rw [rr.1, rr.2] at rd
            refine ⟨_, rfl, _, rfl, .inl ⟨D, _, 0, _, rfl, rfl, SqL.of eD5, at0, _, _, rfl, rfl, cm, _, rfl, .inl ⟨D, _, 1, _, rfl, rfl, SqL.of eD5, at1, (by show 2 ≤ sizeLine; decide), fun q3 hq3 => yes _ _ (ist_two (a := TL.tl a) (b := TL.tl b) sps hWa hWb hl rd (by omega)) _ q3 ((s03.trans (s4.trans s5)).trans (Same.new hq3)) upd_same⟩⟩⟩
          · refine yes_of (by rw [decide_eq_false rr]; rfl) (no (fun n u h => rr ?_) _ (s03.trans (s4.trans s5)))
            obtain ⟨h1, h2, rd, _⟩ := two n u h
            have ha : ((dv (TL.tl a) : Nat) : Int) = (n.natAbs : Int) := by rw [h1, dv_num]
            have hb : ((dv (TL.tl b) : Nat) : Int) = (u.natAbs : Int) := by rw [h2, dv_num]
            have up := rd.pos
            have hb2 : ((dv (TL.tl b) : Nat) : Int) = u := by omega
            rw [ha, hb2]
            exact red_id ⟨up, by rw [Int.natAbs_natCast]; exact rd.cop⟩
    · have e0 : inV .non (ws.map fun w => wv (TL.tl w)) = true := by
        cases z : inV .non (ws.map fun w => wv (TL.tl w)) with
        | true => rfl
        | false => exact absurd ((nin _ rfl).mp z) hW
      rw [e0]
      refine yes_of rfl (no (fun n u h => hW fun x hx => ?_) H3 s03)
      obtain ⟨_, _, h3⟩ := ist n u h
      have hm : TL.tl x ∈ ws.map TL.tl := List.mem_map.mpr ⟨x, hx, rfl⟩
      rcases h3 with ⟨_, e⟩ | ⟨_, e, _⟩
      · rw [e] at hm
        rw [List.mem_singleton.mp hm]
        exact wd_num _
      · rw [e] at hm
        simp only [List.mem_cons, List.not_mem_nil, or_false] at hm
        rcases hm with hm | hm <;> rw [hm] <;> exact wd_num _
end
end K03

namespace K03
open PySem PySem.Spec PyProof.Rows L2 Lm
open C8 (Cal Mak Met pe_c pe_mk pe_mt pe_mt0 pss_cut tCut)
open LamX (CodeO TabS Tabs ExtN TabB LamS lamCx lamEnv lamS_by)
--KR 9
--NOTOP
abbrev s_Ratio_of : Stmt := inClass (top 15) 1
abbrev n_Ratio_of : List Str := ["text", "above", "stroke", "below", "number", "under", "ratio"]
abbrev p_Ratio_of : List Str := ["text"]
theorem sc_Ratio_of : FnScope n_Ratio_of p_Ratio_of (defScope s_Ratio_of) := ⟨rfl, rfl, rfl, by decide +kernel, rfl, by decide +kernel, by decide +kernel⟩
section
variable {P : Program} {w : World} {K : PySem.W.Frag} {mg : Str → Option Value} {base : Heap} {f fE fR : Addr} {fd fdE fdR : FuncData} {psE psR : List Str}
def NotStr (K : PySem.W.Frag) (H : Hp) (v : V) : Prop := ∃ t, TyX K H v t ∧ PySem.W.kitOne K t (.type "str") = some false
def spOfR (K : PySem.W.Frag) : Sp := fun vs H Q E => ∃ v, vs = [v] ∧ ((∃ t, v = .str t ∧ t.length ≤ 2000 ∧ (∀ n u, IsT (TL.tl t) n u → ∀ H' y, Same H H' → RatAt K H' y n u → Q (.ref y) H') ∧ ((∀ n u, ¬ IsT (TL.tl t) n u) → Wish K H E "BadText" v)) ∨ (NotStr K H v ∧ Wish K H E "BadText" v))
theorem unpack3 {K : PySem.W.Frag} {p : Addr} {c m d : V} {i j k : Nat} {σ : L2.St} {H : Hp} {N : L2.St → Hp → Prop} (e : H p = some (.tup [c, m, d])) (q : N (((σ.set i (some c)).set j (some m)).set k (some d)) H) : gTup K 3 (gCons (gName i) (gCons (gName j) (gCons (gName k) gNil))) (.ref p) σ H N :=
  ⟨p, _, rfl, SqT.of e, rfl, _, _, rfl, _, _, rfl, _, _, rfl, rfl, q⟩
theorem ok_rof (F : FunD K "of" "Ratio.of" (defArgs s_Ratio_of) (defBody s_Ratio_of) (defScope s_Ratio_of) [] [] f fd) (T : Bl mg base) (RC : RatC K mg) (Z : ErrL P w K mg base ["BadRatio", "BadText"]) (c_mk : MakD P w K mg base 3 "Ratio" (ratA K) (spRInit K) []) (c_is_figures : Cal P w K mg base 1 "is_figures" spFigs []) (c_integer_of : Cal P w K mg base 1 "integer_of" spInt []) : FnOk P w K mg base (L2.CX P w) 5 f fd ["text"] (spOfR K) := by
  refine okX F sc_Ratio_of (fun vs H Q E h => ?_) (fun cdv A outer s H vs Q E hr h => ?_)
  · obtain ⟨v, rfl, _⟩ := h
    rfl
  obtain ⟨v, rfl, h⟩ := h
  refine ⟨_, (pss_cons (ps_if (pt_not (pt_val (pe_callB call_isR (by rfl) T.isinstance (by decide +kernel) (pa_cons (pv 0) (pa_cons (pe_bltn (v := .ty "str") (by rfl) T.str (by decide +kernel) rfl) pa_nil))))) (pss_one (ps_raise rfl (takes_of rfl rfl rfl rfl) (pmk_err Z (x := "BadText") (by decide +kernel) hr (by decide) (by rfl) (pa_cons (pv 0) pa_nil)))) pss_nil)
    (pss_cons (ps_asg (pe_partition (pv 0) pe_str) (pg_tup rfl (pgs_cons (pg_name (i := 1) sc_Ratio_of.nd rfl (by first | exact Or.inl rfl | exact Or.inr rfl)) (pgs_cons (pg_name (i := 2) sc_Ratio_of.nd rfl (by first | exact Or.inl rfl | exact Or.inr rfl)) (pgs_cons (pg_name (i := 3) sc_Ratio_of.nd rfl (by first | exact Or.inl rfl | exact Or.inr rfl)) pgs_nil)))))
    (pss_cut (ps_if (pt_not (pt_truth (pv 2) (by intro _; rfl))) (pss_one (ps_set (i := 3) sc_Ratio_of.nd rfl (by first | exact Or.inl rfl | exact Or.inr rfl) pe_str)) pss_nil)
    (pss_cons (ps_if (PW.pt (pw_or (pt_not (pt_val (pe_c c_is_figures hr (by decide) (by rfl) (pa_cons (pe_bm PySem.F.plainAttrs_str PySem.F.slot_str_removeprefix PySem.F.type_str_removeprefix mt_removeprefix (pv 1) (pa_cons pe_str pa_nil)) pa_nil)))) (pw_or1 (pt_not (pt_val (pe_c c_is_figures hr (by decide) (by rfl) (pa_cons (pv 3) pa_nil))))))) (pss_one (ps_raise rfl (takes_of rfl rfl rfl rfl) (pmk_err Z (x := "BadText") (by decide +kernel) hr (by decide) (by rfl) (pa_cons (pv 0) pa_nil)))) pss_nil)
    (pss_cons (ps_par (i := 4) (j := 5) (by rfl) sc_Ratio_of.nd rfl rfl (by decide) rfl rfl (pa_cons (pe_c c_integer_of hr (by decide) (by rfl) (pa_cons (pv 1) pa_nil)) (pa_cons (pe_c c_integer_of hr (by decide) (by rfl) (pa_cons (pv 3) pa_nil)) pa_nil)) (by rfl))
    (pss_cons (ps_if (pt_cmpR op_eq (pv 5) pe_int (nomark _)) (pss_one (ps_raise rfl (takes_of rfl rfl rfl rfl) (pmk_err Z (x := "BadText") (by decide +kernel) hr (by decide) (by rfl) (pa_cons (pv 0) pa_nil)))) pss_nil)
    (pss_cons (ps_set (i := 6) sc_Ratio_of.nd rfl (by first | exact Or.inl rfl | exact Or.inr rfl) (pe_mkD c_mk passL hr (by decide) (by rfl) (pa_cons (pv 4) (pa_cons (pv 5) pa_nil))))
    (pss_cons (ps_if (pt_cmpR op_ne (pe_fld (pv 6) rfl) (pv 0) (nomark _)) (pss_one (ps_raise rfl (takes_of rfl rfl rfl rfl) (pmk_err Z (x := "BadText") (by decide +kernel) hr (by decide) (by rfl) (pa_cons (pv 0) pa_nil)))) pss_nil)
    (pss_one (ps_ret (pv 6))))))))))), ?_⟩
  rcases h with ⟨t, rfl, hl, yes, no⟩ | ⟨⟨t, ty, ki⟩, wish⟩
  rotate_left 1
  · refine ⟨_, rfl, _, _, _, _, false, rfl, .ty _, .inl ty, ki, false, rfl, iteT ?_⟩
    exact raise_var Z (by decide +kernel) rfl wish
  have lt : t.length ≤ sizeLine := by
    rw [sizeLine_eq]
    omega
  refine ⟨_, rfl, _, _, _, _, true, rfl, .ty _, .inl (.base (.str t)), kit_ty (by decide +kernel), true, rfl, iteF ?_⟩
  refine ⟨_, rfl, ⟨_, rfl⟩, t, _, rfl, rfl, (by decide +kernel), lt, fun p hp => unpack3 upd_same ?_⟩
  have s1 : Same H (upd H p (.tup [.str (Txt.partition t ("/" : Str)).1, .str (Txt.partition t ("/" : Str)).2.1, .str (Txt.partition t ("/" : Str)).2.2])) := Same.new hp
  generalize upd H p (.tup [.str (Txt.partition t ("/" : Str)).1, .str (Txt.partition t ("/" : Str)).2.1, .str (Txt.partition t ("/" : Str)).2.2]) = H1 at *
  refine ⟨fun σ H' => Same H H' ∧ ∃ (a b : Str) (st : V), σ = [some (.str t), some (.str a), some st, some (.str b), none, none, none] ∧ (∀ n u, IsT (TL.tl t) n u → TL.tl a = TL.tl (ds n) ∧ TL.tl b = TL.tl (ds u) ∧ Red n u) ∧ a.length ≤ 2000 ∧ b.length ≤ 2000, ?_, ?_⟩
  · rcases part_cases t with ⟨h47, e⟩ | ⟨a, b, e, et, h47⟩
    · rw [e]
      refine ⟨_, rfl, false, ⟨(by show 0 ≤ sizeLine; exact Nat.zero_le _), rfl⟩, yes_of rfl ⟨s1, t, "1", _, rfl, fun n u h => ?_, hl, (by decide)⟩⟩
      have rd := h.1
      obtain ⟨rfl, e2⟩ := (is0 h47).mp h
      exact ⟨e2, rfl, rd⟩
    · rw [e]
      have ll := congrArg List.length et
      rw [List.length_append, List.length_cons] at ll
      have la : a.length ≤ 2000 := by
        rw [TL.len_tl] at hl ⊢
        omega
      have lb : b.length ≤ 2000 := by
        rw [TL.len_tl] at hl ⊢
        omega
      refine ⟨_, rfl, true, ⟨(by show 1 ≤ sizeLine; decide), rfl⟩, no_of rfl ⟨s1, a, b, _, rfl, fun n u h => ?_, la, lb⟩⟩
      rw [et] at h
      obtain ⟨rd, _, e1, e2⟩ := (is1 h47).mp h
      exact ⟨e1, e2, rd⟩
  rintro σ H2 ⟨s2, a, b, st, rfl, parts, la, lb⟩
  have la1 : a.length ≤ sizeLine := by
    rw [sizeLine_eq]
    omega
  have ey := rp_tl a
  refine ⟨_, rfl, (by first | exact ⟨_, rfl⟩ | exact .str _ | rfl), a, _, rfl, rfl, la1, _, rfl, _, rfl, ?_⟩
  rw [ey]
  by_cases fa : Fg (mn (TL.tl a))
  rotate_left 1
  · rw [decide_eq_false fa]
    refine yes_of rfl (raise_var Z (by decide +kernel) rfl ((no fun n u h => fa ?_).same s2))
    rw [(parts n u h).1]
    exact (ds_sv n).1
  rw [decide_eq_true fa]
  refine no_of rfl ⟨_, rfl, b, rfl, _, rfl, ?_⟩
  by_cases fb : Fg (TL.tl b)
  rotate_left 1
  · rw [decide_eq_false fb]
    refine yes_of rfl (raise_var Z (by decide +kernel) rfl ((no fun n u h => fb ?_).same s2))
    obtain ⟨_, e2, rd⟩ := parts n u h
    rw [e2]
    exact ds_pos rd.pos
  rw [decide_eq_true fb]
  have fb' : Fg (mn (TL.tl b)) := by rw [fg_mn fb]; exact fb
  refine no_of rfl ⟨_, rfl, a, rfl, fa, la, _, rfl, b, rfl, fb', lb, _, _, rfl, ?_⟩
  have la2 : (TL.tl a).length ≤ 2000 := by rw [← TL.len_tl]; exact la
  have lb2 : (TL.tl b).length ≤ 2000 := by rw [← TL.len_tl]; exact lb
  have nba := sv_nb fa la2
  have nbb := sv_nb fb' lb2
  refine ⟨_, rfl, rfl, _, rfl, ?_⟩
  by_cases u0 : sv (TL.tl b) = 0
  · refine yes_of (decide_eq_true (congrArg V.int u0)) (raise_var Z (by decide +kernel) rfl ((no fun n u h => ?_).same s2))
    obtain ⟨_, e2, rd⟩ := parts n u h
    rw [e2, (ds_sv u).2] at u0
    have := rd.pos
    omega
  refine no_of (decide_eq_false fun z => u0 (V.int.inj z)) ?_
  refine ⟨_, rfl, _, rfl, fun y dy hy hdy _ => make_rat hy hdy u0 nba nbb fun H3 s3 r3 => ?_⟩
  obtain ⟨dy3, hy3⟩ := id r3
  refine ⟨_, rfl, y, ratA K, dy3, _, _, rfl, hy3, RC.cl, RC.nT, rfl, _, rfl, rfl, _, rfl, ?_⟩
  by_cases eq : ratText (rn (sv (TL.tl a)) (sv (TL.tl b))) (ru (sv (TL.tl a)) (sv (TL.tl b))) = t
  · refine no_of (by rw [eq, decide_eq_true rfl]; rfl) ?_
    exact ⟨_, rfl, yes _ _ ⟨red_of u0, by rw [eq]⟩ H3 y (s2.trans s3) r3⟩
  · refine yes_of (by rw [decide_eq_false fun z => eq (V.str.inj z)]; rfl) (raise_var Z (by decide +kernel) rfl ((no fun n u h => eq ?_).same (s2.trans s3)))
    obtain ⟨e1, e2, rd⟩ := parts n u h
    rw [e1, e2, (ds_sv n).2, (ds_sv u).2, (red_id rd).1, (red_id rd).2]
    exact (TL.ext_tl h.2).symm
end
end K03

namespace K03
open PySem PySem.Spec PyProof.Rows L2 Lm
open C8 (Cal Mak Met pe_c pe_mk pe_mt pe_mt0 pss_cut tCut)
open LamX (CodeO TabS Tabs ExtN TabB LamS lamCx lamEnv lamS_by)
--KR 9
--NOTOP
abbrev s_law_odd : Stmt := top 25
abbrev n_law_odd : List Str := ["pot", "some"]
abbrev p_law_odd : List Str := ["pot"]
theorem sc_law_odd : FnScope n_law_odd p_law_odd (defScope s_law_odd) := ⟨rfl, rfl, rfl, by decide +kernel, rfl, by decide +kernel, by decide +kernel⟩
abbrev s_law_spoilt : Stmt := top 32
abbrev n_law_spoilt : List Str := ["pot", "text", "at", "way", "sign"]
abbrev p_law_spoilt : List Str := ["pot", "text"]
theorem sc_law_spoilt : FnScope n_law_spoilt p_law_spoilt (defScope s_law_spoilt) := ⟨rfl, rfl, rfl, by decide +kernel, rfl, by decide +kernel, by decide +kernel⟩
section
variable {P : Program} {w : World} {K : PySem.W.Frag} {mg : Str → Option Value} {base : Heap} {f fE fR : Addr} {fd fdE fdR : FuncData} {psE psR : List Str}
def spOdd : Sp := fun vs H Q _ => ∃ (a : Addr) (n : Nat), vs = [.ref a] ∧ PotAt H a n ∧ n < 999999 ∧ ∀ v H', PotAt H' a (n + 1) → KeptBut a H H' → Sm 40 3 (fresh H H') v → Q v H'
theorem ok_odd (F : FunD K "_law_odd" "_law_odd" (defArgs s_law_odd) (defBody s_law_odd) (defScope s_law_odd) [] [] f fd) (hm : mg "_law_odd" = some (.ref f)) (T : Bl mg base) (c_law_of : Cal P w K mg base 2 "_law_of" (spOf K) []) : Cal P w K mg base 3 "_law_odd" spOdd [] := by
  refine calD F hm sc_law_odd (fun _ _ _ _ _ _ us hl => match us, hl with | [_], _ => rfl) (fun vs H Q E h => ?_) (fun cdv A outer s H vs Q E hr h => ?_)
  · obtain ⟨a, n, rfl, _⟩ := h
    rfl
  obtain ⟨a, n, rfl, hp, hn, k⟩ := h
  refine ⟨_, (pss_cons (ps_set (i := 1) sc_law_odd.nd rfl (by first | exact Or.inl rfl | exact Or.inr rfl) (pe_lst (pa_cons pe_non (pa_cons pe_bl (pa_cons pe_bl (pa_cons pe_int (pa_cons pe_int (pa_cons (pe_un un_neg pe_int) (pa_cons pe_int (pa_cons (pe_op op_pow pe_int pe_int) (pa_cons pe_str (pa_cons pe_str (pa_cons pe_str (pa_cons pe_str (pa_cons (pe_tup pa_nil) (pa_cons (pe_lst pa_nil) (pa_cons pe_dnewK (pa_cons (pe_tup (pa_cons pe_int pa_nil)) (pa_cons (pe_tup (pa_cons (pe_tup pa_nil) pa_nil)) (pa_cons (pe_lst (pa_cons pe_int pa_nil)) (pa_cons (pe_tup (pa_cons pe_int (pa_cons pe_int pa_nil))) pa_nil)))))))))))))))))))))
    (pss_cons (ps_set (i := 1) sc_law_odd.nd rfl (by first | exact Or.inl rfl | exact Or.inr rfl) (pe_op op_cat (pv 1) (pe_lst (pa_cons (pe_tup (pa_cons pe_str pa_nil)) (pa_cons (pe_tup (pa_cons pe_str pa_nil)) (pa_cons pe_str (pa_cons pe_str (pa_cons (pe_tup (pa_cons pe_int (pa_cons pe_int (pa_cons pe_int pa_nil)))) (pa_cons (pe_tup (pa_cons pe_non pa_nil)) (pa_cons (pe_tup (pa_cons pe_str pa_nil)) (pa_cons pe_str (pa_cons (pe_disp (pps_cons pe_str pe_int pps_nil) (by rfl) (by rfl) (fun z => by cases z) (by decide)) pa_nil))))))))))))
    (pss_one (ps_ret (pe_c c_law_of hr (by decide) (by rfl) (pa_cons (pv 0) (pa_cons (pv 1) pa_nil))))))), ?_⟩
  have e0 : DatE 3 1 (tTup tNil) := dat_tup (B := 1) dat_nil (by decide)
  have e1 : DatE 3 1 (tLst tNil) := dat_lst (B := 1) dat_nil (by decide)
  have z0 : DatE 1 0 (tC (.int 0)) := dat_int 0 (by decide +kernel) (by decide +kernel)
  have z1 : DatE 1 0 (tC (.int 1)) := dat_int 1 (by decide +kernel) (by decide +kernel)
  have D1 := dat_cons (B := 40) (k := 3) (dat_non (by decide)) (dat_cons (dat_bl true (by decide)) (dat_cons (dat_bl false (by decide)) (dat_cons (z0.mono (by decide) (by decide)) (dat_cons (z1.mono (by decide) (by decide)) (dat_cons (dat_neg 1 (by decide +kernel) (by decide +kernel))
    (dat_cons (dat_int 7 (by decide +kernel) (by decide +kernel)) (dat_cons (dat_pow 10 8 ⟨by decide, by decide, by decide⟩ (by decide +kernel) (by decide +kernel)) (dat_cons (dat_str "" (by decide +kernel)) (dat_cons (dat_str "a" (by decide +kernel)) (dat_cons (dat_str "p" (by decide +kernel)) (dat_cons (dat_str "mirror q" (by decide +kernel))
    (dat_cons (e0.mono (by decide) (by decide)) (dat_cons (e1.mono (by decide) (by decide)) (dat_cons (dat_dnew (by decide) (by decide)) (dat_cons ((dat_tup (dat_cons z0 dat_nil) (by decide)).mono (by decide) (by decide)) (dat_cons ((dat_tup (dat_cons e0 dat_nil) (by decide)).mono (by decide) (by decide))
    (dat_cons ((dat_lst (dat_cons z0 dat_nil) (by decide)).mono (by decide) (by decide)) (dat_cons ((dat_tup (dat_cons z0 (dat_cons z0 dat_nil)) (by decide)).mono (by decide) (by decide)) dat_nil))))))))))))))))))
  have D2 := dat_cons (B := 40) (k := 3) ((dat_tup (dat_cons (dat_str (B := 3) (k := 0) "a" (by decide +kernel)) dat_nil) (by decide)).mono (by decide) (by decide)) (dat_cons ((dat_tup (dat_cons (dat_str (B := 8) (k := 0) "always" (by decide +kernel)) dat_nil) (by decide)).mono (by decide) (by decide))
    (dat_cons (dat_str "a a" (by decide +kernel)) (dat_cons (dat_str "mirror a" (by decide +kernel)) (dat_cons ((dat_tup (dat_cons z1 (dat_cons z0 (dat_cons z0 dat_nil))) (by decide)).mono (by decide) (by decide)) (dat_cons ((dat_tup (dat_cons (dat_non (B := 4) (k := 0) (by decide)) dat_nil) (by decide)).mono (by decide) (by decide))
    (dat_cons ((dat_tup (dat_cons (dat_str (B := 6) (k := 0) "same" (by decide +kernel)) dat_nil) (by decide)).mono (by decide) (by decide)) (dat_cons (dat_str "row" (by decide +kernel)) (dat_cons (dat_disp1 "a" 1 (by decide +kernel) (by decide +kernel) (by decide)) dat_nil))))))))
  refine asg_lst D1 (by decide) fun vs1 p1 H1 s1 hp1 e1 m1 l1 => ?_
  refine asg_cat D2 (by decide) (by rw [l1]; decide) rfl e1 s1 m1 fun vs l H2 s2 hl e2 m2 l2 => ?_
  have hp' := hp.keep (H' := H2) fun o e => s2 _ _ (s1 _ _ e)
  obtain ⟨q0, q1, q2, eq, _⟩ := id hp
  refine ⟨_, rfl, _, rfl, a, l, vs, n, rfl, hp', by omega, (ne_of_none (s1 _ _ eq) hl).symm, .inl (SqL.of e2), ?_, ?_, fun v H' hv hpot kb => ?_⟩
  · rw [l2]
    omega
  · rw [l2, l1]
    decide
  · exact k v H' hpot ((KeptBut.of_same (s1.trans s2)).trans kb) ((m2 v hv).same (fresh_but eq kb))
theorem ok_made (F : FunD K "_law_made" "_law_made" (defArgs s_law_made) (defBody s_law_made) (defScope s_law_made) [] [] f fd) (hm : mg "_law_made" = some (.ref f)) (T : Bl mg base) (c_mk : MakD P w K mg base 3 "Ratio" (ratA K) (spRInit K) []) : Cal P w K mg base 5 "_law_made" (spMadeR K) [] := by
  refine calD F hm sc_law_made (fun _ _ _ _ _ _ us hl => match us, hl with | [_], _ => rfl) (fun vs H Q E h => ?_) (fun cdv A outer s H vs Q E hr h => ?_)
  · obtain ⟨p, n, u, rfl, _⟩ := h
    rfl
  obtain ⟨p, n, u, rfl, fr, k⟩ := h
  refine ⟨_, (pss_one (ps_ret (pe_mkD c_mk passL hr (by decide) (by rfl) (pa_cons (pe_ix ix_seq (pv 0) pe_int (fun _ _ => rfl)) (pa_cons (pe_ix ix_seq (pv 0) pe_int (fun _ _ => rfl)) pa_nil))))), ?_⟩
  have a0 : ∀ i j : Int, atI [V.int i, V.int j] 0 = some (.int i) := fun _ _ => atI_of (j := 0) rfl rfl
  have a1 : ∀ i j : Int, atI [V.int i, V.int j] 1 = some (.int j) := fun _ _ => atI_of (j := 1) rfl rfl
  obtain ⟨e1, e2⟩ := red_id fr.r
  exact ⟨_, rfl, .inr (.inl ⟨p, _, 0, .int n, rfl, rfl, SqT.of fr.e, a0 _ _, _, rfl, .inr (.inl ⟨p, _, 1, .int u, rfl, rfl, SqT.of fr.e, a1 _ _, fun y dy hy hdy _ => make_rat hy hdy fr.nz fr.bn.nb fr.bu.nb fun H4 s4 r4 => k H4 y s4 hy (by rw [e1, e2] at r4; exact r4)⟩)⟩)⟩
def spSpoil : Sp := fun vs H Q _ => ∃ (a : Addr) (t : Str) (n : Nat), vs = [.ref a, .str t] ∧ PotAt H a n ∧ n < 999990 ∧ t.length ≤ 999 ∧ ∀ (t' : Str) H', (Asc t → Asc t') → t'.length ≤ 2 * t.length + 1 → PotAt H' a (n + 3) → KeptBut a H H' → Q (.str t') H'
theorem ok_spoilt (F : FunD K "_law_spoilt" "_law_spoilt" (defArgs s_law_spoilt) (defBody s_law_spoilt) (defScope s_law_spoilt) [] [] f fd) (hm : mg "_law_spoilt" = some (.ref f)) (T : Bl mg base) (c_law_take : Cal P w K mg base 1 "_law_take" spTake []) (c_law_of : Cal P w K mg base 2 "_law_of" (spOf K) []) : Cal P w K mg base 3 "_law_spoilt" spSpoil [] := by
  refine calD F hm sc_law_spoilt (fun _ _ _ _ _ _ us hl => match us, hl with | [_, _], _ => rfl) (fun vs H Q E h => ?_) (fun cdv A outer s H vs Q E hr h => ?_)
  · obtain ⟨a, t, n, rfl, _⟩ := h
    rfl
  obtain ⟨a, t, n, rfl, hp, hn, hl, k⟩ := h
  refine ⟨_, (pss_cons (ps_par (i := 2) (j := 3) (by rfl) sc_law_spoilt.nd rfl rfl (by decide) rfl rfl (pa_cons (pe_c c_law_take hr (by decide) (by rfl) (pa_cons (pv 0) (pa_cons (pe_op op_add (pe_callB call_len_str (by rfl) T.len (by decide +kernel) (pa_cons (pv 1) pa_nil)) pe_int) pa_nil))) (pa_cons (pe_c c_law_take hr (by decide) (by rfl) (pa_cons (pv 0) (pa_cons pe_int pa_nil))) pa_nil)) (by rfl))
    (pss_cons (ps_set (i := 4) sc_law_spoilt.nd rfl (by first | exact Or.inl rfl | exact Or.inr rfl) (pe_c c_law_of hr (by decide) (by rfl) (pa_cons (pv 0) (pa_cons (pe_lst (pa_cons pe_str (pa_cons pe_str (pa_cons pe_str (pa_cons pe_str (pa_cons pe_str (pa_cons pe_str (pa_cons pe_str (pa_cons pe_str (pa_cons pe_str pa_nil)))))))))) pa_nil))))
    (pss_cons (ps_if (pt_cmpR op_eq (pv 3) pe_int (nomark _)) (pss_one (ps_ret (pe_op op_add_str (pe_op op_add_str (pe_slice sl_str (pv 1) po_none (po_some (pv 2))) (pv 4)) (pe_slice sl_str (pv 1) (po_some (pv 2)) po_none)))) pss_nil)
    (pss_one (ps_ret (pe_ifExp (pt_cmpR op_eq (pv 3) pe_int (nomark _)) (pe_op op_add_str (pe_slice sl_str (pv 1) po_none (po_some (pv 2))) (pe_slice sl_str (pv 1) (po_some (pe_op op_add (pv 2) pe_int)) po_none)) (pe_op op_add_str (pe_op op_add_str (pe_slice sl_str (pv 1) po_none (po_some (pv 2))) (pv 4)) (pe_slice sl_str (pv 1) (po_some (pe_op op_add (pv 2) pe_int)) po_none)))))))), ?_⟩
  have lt : t.length ≤ sizeLine := by
    rw [sizeLine_eq]
    omega
  refine ⟨_, rfl, _, rfl, t, rfl, lt, _, _, rfl, rfl, a, _, n, rfl, hp, by omega, by omega, by omega, fun i H1 i0 i1 hp1 kb1 => ⟨_, rfl, a, 3, n + 1, rfl, hp1, by omega, by decide, by decide, fun j H3 j0 j1 hp3 kb2 => ⟨_, _, rfl, ?_⟩⟩⟩
  have kb3 : KeptBut a H H3 := kb1.trans kb2
  dsimp only
  refine ⟨_, rfl, (by show 9 ≤ sizeLine; decide), fun l hl' => ⟨a, l, _, n + 2, rfl, hp3.new hl', by omega, hp3.ne hl', .inl (SqL.of upd_same), by simp, by simp, fun v H4 hv hp4 kb4 => ?_⟩⟩
  have kb4 : KeptBut a H H4 := (kb3.trans (KeptBut.new hl')).trans kb4
  obtain ⟨sg, rfl, ls, asg⟩ : ∃ sg : Str, v = .str sg ∧ sg.length = 1 ∧ Asc sg := by
    simp only [List.mem_cons, List.not_mem_nil, or_false] at hv
    rcases hv with rfl | rfl | rfl | rfl | rfl | rfl | rfl | rfl | rfl <;> exact ⟨_, rfl, rfl, by decide +kernel⟩
  have c1 := cut_len t none (some i)
  have c2 := cut_len t (some i) none
  have c3 := cut_len t (some (i + 1)) none
  have fit : ∀ m : Nat, m ≤ 2000 → m ≤ sizeLine := fun m h => by
    rw [sizeLine_eq]
    omega
  dsimp only [gName]
  refine ⟨_, rfl, rfl, _, rfl, ite2 (fun _ => ?_) (fun _ => ?_)⟩
  · refine ⟨_, rfl, _, rfl, _, rfl, t, rfl, lt, _, rfl, _, _, rfl, rfl, fit _ (by omega), _, rfl, _, rfl, _, rfl, t, rfl, lt, _, _, rfl, rfl, ?_, k _ _ (fun h => asc_app (asc_app (asc_cut h) asg) (asc_cut h)) ?_ hp4 kb4⟩
    · rw [strLen_append]
      exact fit _ (by omega)
    · rw [strLen_append, strLen_append]
      omega
  · refine ⟨_, rfl, rfl, _, rfl, ite2 (fun _ => ?_) (fun _ => ?_)⟩
    · refine ⟨_, rfl, _, rfl, _, rfl, t, rfl, lt, _, rfl, _, rfl, _, _, rfl, rfl, _, rfl, t, rfl, lt, _, _, rfl, rfl, fit _ (by omega), k _ _ (fun h => asc_app (asc_cut h) (asc_cut h)) ?_ hp4 kb4⟩
      rw [strLen_append]
      omega
    · refine ⟨_, rfl, _, rfl, _, rfl, t, rfl, lt, _, rfl, _, _, rfl, rfl, fit _ (by omega), _, rfl, _, rfl, _, _, rfl, rfl, _, rfl, t, rfl, lt, _, _, rfl, rfl, ?_, k _ _ (fun h => asc_app (asc_app (asc_cut h) asg) (asc_cut h)) ?_ hp4 kb4⟩
      · rw [strLen_append]
        exact fit _ (by omega)
      · rw [strLen_append, strLen_append]
        omega
end
end K03

namespace K03
open PySem PySem.Spec PyProof.Rows L2 Lm
open C8 (Cal Mak Met pe_c pe_mk pe_mt pe_mt0 pss_cut tCut)
open LamX (CodeO TabS Tabs ExtN TabB LamS lamCx lamEnv lamS_by)
--KR 9
--NOTOP
section
variable {P : Program} {w : World} {K : PySem.W.Frag} {mg : Str → Option Value} {base : Heap} {f fE fR fO pO : Addr} {mc : Value} {fd fdE fdR fdO : FuncData} {psE psR psO : List Str}
theorem repr_str {K : PySem.W.Frag} : ∀ vs H (Q : VK) E, spRRepr K vs H Q E → spRRepr K vs H (fun v H' => (∃ z, v = .str z) ∧ Q v H') E := fun _ _ _ _ ⟨x, n, u, e, r, nb, ub, q⟩ => ⟨x, n, u, e, r, nb, ub, ⟨_, rfl⟩, q⟩
def TX (H : Hp) (L : Addr) (m : Nat) : Prop := ∃ ts : List Str, H L = some (.lst (ts.map V.str)) ∧ ts.length ≤ m ∧ ∀ t ∈ ts, Asc t ∧ t.length ≤ 2000
theorem ist_unique {l : List Nat} {n u n' u' : Int} (h : IsT l n u) (g : IsT l n' u') : n = n' ∧ u = u' := by
  have sv1 : ∀ {i j : Int}, TL.tl (ds i) = TL.tl (ds j) → i = j := fun e => by
    have z := congrArg sv e
    rw [(ds_sv _).2, (ds_sv _).2] at z
    exact z
  rcases cut47 l with z | ⟨a, b, rfl, z⟩
  · obtain ⟨rfl, e1⟩ := (is0 z).mp h
    obtain ⟨rfl, e2⟩ := (is0 z).mp g
    exact ⟨sv1 (e1.symm.trans e2), rfl⟩
  · obtain ⟨_, _, e1, e2⟩ := (is1 z).mp h
    obtain ⟨_, _, e3, e4⟩ := (is1 z).mp g
    exact ⟨sv1 (e1.symm.trans e3), sv1 (e2.symm.trans e4)⟩
theorem ist_nb {l : List Nat} {n u : Int} (h : IsT l n u) (g : l.length ≤ 2000) : Nb n ∧ Nb u := by
  rcases cut47 l with z | ⟨a, b, rfl, z⟩
  · obtain ⟨rfl, e1⟩ := (is0 z).mp h
    refine ⟨?_, mb_one.nb⟩
    have e := (ds_sv n).2
    rw [← e]
    exact sv_nb (ds_sv n).1 (by rw [← e1]; exact g)
  · obtain ⟨_, _, e1, e2⟩ := (is1 z).mp h
    rw [List.length_append, List.length_cons] at g
    refine ⟨?_, ?_⟩
    · rw [← (ds_sv n).2]
      exact sv_nb (ds_sv n).1 (by rw [← e1]; omega)
    · rw [← (ds_sv u).2]
      exact sv_nb (ds_sv u).1 (by rw [← e2]; omega)
def JJ (K : PySem.W.Frag) (H : Hp) (a L : Addr) (m n : Nat) (H' : Hp) : Prop := L ≠ a ∧ H L = none ∧ TX H' L m ∧ PotAt H' a n ∧ Tabs (T0 K) H' ∧ KeptT a H H'
theorem JJ.but {H H1 H2 : Hp} {a L : Addr} {m n n' : Nat} (j : JJ K H a L m n H1) (kb : KeptBut a H1 H2) (p : PotAt H2 a n') : JJ K H a L m n' H2 :=
  let ⟨h1, h2, ⟨ts, e, r⟩, h4, h5, h6⟩ := j
  ⟨h1, h2, ⟨ts, kb _ _ e h1, r⟩, p, tabs_pot h5 kb h4, h6.trans (KeptT.but kb)⟩
theorem JJ.same {H H1 H2 : Hp} {a L : Addr} {m n : Nat} (j : JJ K H a L m n H1) (s : Same H1 H2) : JJ K H a L m n H2 :=
  let ⟨h1, h2, ⟨ts, e, r⟩, h4, h5, h6⟩ := j
  ⟨h1, h2, ⟨ts, s _ _ e, r⟩, h4.ext (ext_same s), tabs_same h5 s, h6.trans (KeptT.same s)⟩
theorem JJ.mono {H H1 : Hp} {a L : Addr} {m m' n n' : Nat} (j : JJ K H a L m n H1) (hm : m ≤ m') (hn : n ≤ n') : JJ K H a L m' n' H1 :=
  let ⟨h1, h2, ⟨ts, e, r1, r2⟩, h4, h5, h6⟩ := j
  ⟨h1, h2, ⟨ts, e, by omega, r2⟩, h4.mono hn, h5, h6⟩
/-- texts.extend([..]) -/
theorem JJ.grow {H H1 : Hp} {a L : Addr} {m n : Nat} {zs : List Str} (j : JJ K H a L m n H1) (hm : m ≤ 1000) (hz : zs.length ≤ 10) (hzs : ∀ t ∈ zs, Asc t ∧ t.length ≤ 2000) : ∃ ts : List Str, H1 L = some (.lst (ts.map V.str)) ∧ (ts.map V.str).length + (zs.map V.str).length ≤ sizeLine ∧ JJ K H a L (m + zs.length) n (upd H1 L (.lst (ts.map V.str ++ zs.map V.str))) := by
  obtain ⟨h1, h2, ⟨ts, e, r1, r2⟩, h4, h5, h6⟩ := j
  refine ⟨ts, e, ?_, h1, h2, ⟨ts ++ zs, by rw [List.map_append]; exact upd_same, by rw [List.length_append]; omega, fun t ht => ?_⟩, ?_, tabs_put h5 e, fun c o ec nc nt => ?_⟩
  · rw [List.length_map, List.length_map, sizeLine_eq]
    omega
  · rcases List.mem_append.mp ht with ht | ht
    · exact r2 t ht
    · exact hzs t ht
  · obtain ⟨c0, c1, c2, ea, rr⟩ := h4
    exact ⟨c0, c1, c2, (upd_ne h1.symm).trans ea, rr⟩
  · have cl : c ≠ L := fun z => by
      rw [z, h2] at ec
      cases ec
    rw [upd_ne cl]
    exact h6 c o ec nc nt
theorem reprChar_ge (q c : Nat) : 1 ≤ (Builtin.Str.reprChar q c).length := by
  unfold Builtin.Str.reprChar
  dsimp only
  repeat' split
  all_goals simp only [List.length_append, List.length_cons, List.length_nil]
  all_goals omega
theorem fold_repr_ge (q : Nat) : ∀ (l : List Nat) (acc : Array Nat), acc.size + l.length ≤ (l.foldl (fun out c => out ++ (Builtin.Str.reprChar q c).toArray) acc).size
  | [], acc => by simp
  | c :: r, acc => by
    have ih := fold_repr_ge q r (acc ++ (Builtin.Str.reprChar q c).toArray)
    have hc := reprChar_ge q c
    simp only [List.foldl_cons, List.length_cons]
    simp only [Array.size_append, List.size_toArray] at ih
    omega
theorem repr_ge (x : Str) : x.length ≤ (reprText x).length := by
  unfold reprText
  show _ ≤ ((x.cps.foldl (fun out c => out ++ (Builtin.Str.reprChar (reprQuote x) c).toArray) #[reprQuote x]).push (reprQuote x)).size
  rw [Array.size_push, ← Array.foldl_toList]
  have := fold_repr_ge (reprQuote x) x.cps.toList #[reprQuote x]
  have e : x.cps.toList.length = x.length := by simp [Str.length]
  rw [e] at this
  omega
def VOk (K : PySem.W.Frag) (H : Hp) (v : V) : Prop := (∃ x, v = .str x ∧ x.length ≤ 2000 ∧ (PyData.str x).shown.length ≤ sizeLine) ∨ ((∀ x, v ≠ .str x) ∧ Sm 40 3 H v) ∨ ∃ y, v = .ref y ∧ RatAt K H y 1 1
theorem VOk.ext {H H' : Hp} {v : V} (h : VOk K H v) (e : ExtN H H') : VOk K H' v := h.elim .inl fun h => .inr (h.elim (fun ⟨a, b⟩ => .inl ⟨a, b.ext e⟩) fun ⟨y, ev, r⟩ => .inr ⟨y, ev, r.ext e⟩)
theorem VOk.not {H : Hp} {v : V} (RC : RatC K mg) (h : VOk K H v) (n : ∀ x, v ≠ .str x) : NotStr K H v := by
  rcases h with ⟨x, e, _⟩ | ⟨_, ⟨d, h1, _⟩⟩ | ⟨y, rfl, ⟨dy, hy⟩⟩
  · exact absurd e (n x)
  · cases h1 with
    | non => exact ⟨_, .base .non, kit_ty (by decide +kernel)⟩
    | bl b => exact ⟨_, .base (.bl b), kit_ty (by decide +kernel)⟩
    | int i => exact ⟨_, .base (.int i), kit_ty (by decide +kernel)⟩
    | str x => exact absurd rfl (n x)
    | lst e _ => exact ⟨_, .base (.lst e), kit_ty (by decide +kernel)⟩
    | tup e _ => exact ⟨_, .base (.tup e), kit_ty (by decide +kernel)⟩
    | dic e _ => exact ⟨_, .base (.dK e), kit_ty (by decide +kernel)⟩
  · exact ⟨_, RC.ty hy, RC.off "str" (by decide)⟩
theorem nb_1 : Nb 1 := mb_one.nb
theorem VOk.told {H : Hp} {v : V} (h : VOk K H v) : ∃ t : Str, ∀ (Q : VK), Q (.str t) H → (rReprD [v] H Q ∨ rOwn1 (ratA K) (spRRepr K) E0 [v] H Q ∨ rReprN [v] H Q) := by
  rcases h with ⟨x, rfl, l1, l2⟩ | ⟨_, ⟨d, h1, h2, h3, h4⟩⟩ | ⟨y, rfl, r⟩
  · exact ⟨_, fun Q q => .inl ⟨_, _, rfl, .str x, rfl, Nat.zero_le _, l2, q⟩⟩
  · exact ⟨d.shown, fun Q q => .inl ⟨_, d, rfl, h1, h2, Nat.le_trans h3 (by decide), Nat.le_trans h4 (by rw [sizeLine_eq]; decide), q⟩⟩
  · obtain ⟨dx, hx⟩ := id r
    exact ⟨ratRepr 1 1, fun Q q => .inr (.inl ⟨y, dx, _, rfl, hx, y, 1, 1, rfl, r, nb_1, nb_1, q⟩)⟩
theorem of_bad {H : Hp} {v : V} {R : Addr → Hp → Prop} {E : XK} (RC : RatC K mg) (h : VOk K H v) (neg : ¬ ∃ x n u, v = .str x ∧ IsT (TL.tl x) n u) (wish : Wish K H E "BadText" v) : (∃ t, v = .str t ∧ t.length ≤ 2000 ∧ (∀ n u, IsT (TL.tl t) n u → ∀ H' y, Same H H' → RatAt K H' y n u → R y H') ∧ ((∀ n u, ¬ IsT (TL.tl t) n u) → Wish K H E "BadText" v)) ∨ (NotStr K H v ∧ Wish K H E "BadText" v) := by
  by_cases c : ∃ x, v = .str x
  · obtain ⟨x, rfl⟩ := c
    have l : x.length ≤ 2000 := by
      rcases h with ⟨y, e, l, _⟩ | ⟨n, _⟩ | ⟨y, e, _⟩
      · rw [V.str.inj e]
        exact l
      · exact absurd rfl (n x)
      · cases e
    exact .inl ⟨x, rfl, l, fun n u i => absurd ⟨x, n, u, rfl, i⟩ neg, fun _ => wish⟩
  · exact .inr ⟨h.not RC fun x e => c ⟨x, e⟩, wish⟩
theorem ok_right (F : FunD K "_law_right" "_law_right" (defArgs s_law_right) (defBody s_law_right) (defScope s_law_right) [] [] (He.fAd K pR) fd) (hm : mg "_law_right" = some (.ref (He.fAd K pR))) (T : Bl mg base) (dg : Dg base) (RC : RatC K mg) (Z : ErrL P w K mg base errs) (TB : TabB base mg (He.cT K pR).1 (He.cT K pR).2) (M_repr : Meth K (ratA K) "__repr__" fR) (F_repr : FnOk P w K mg base (L2.CX P w) 1 fR fdR psR (spRRepr K)) (B_repr : Binds K fdR psR [])
    (D_eq : OpD K (ratA K) "__eq__" fE) (F_eq : FnOk P w K mg base CX0 1 fE fdE psE (spREq K)) (B_eq : Binds K fdE psE []) (CR : ClX.CRead K (ratA K) mc) (SM : SMet K (ratA K) mc "of" pO fO) (F_of : FnOk P w K mg base (L2.CX P w) 5 fO fdO psO (spOfR K)) (B_of : Binds K fdO psO [])
    (c_law_of : Cal P w K mg base 2 "_law_of" (spOf K) []) (c_law_take : Cal P w K mg base 1 "_law_take" spTake []) (c_law_fr : Cal P w K mg base 2 "_law_fr" spFr []) (c_law_fr_text : Cal P w K mg base 1 "_law_fr_text" spFrText []) (c_law_made : Cal P w K mg base 5 "_law_made" (spMadeR K) []) (c_law_spoilt : Cal P w K mg base 3 "_law_spoilt" spSpoil []) (c_law_odd : Cal P w K mg base 3 "_law_odd" spOdd []) (c_law_fraction_in : Cal P w K mg base 3 "_law_fraction_in" spFIn [])
    (c_law_told : CalF P w K mg base 7 6 "_law_told" (spTold K)) (c_mk1 : MakD P w K mg base 3 "Ratio" (ratA K) (spRInit K) [.int 1]) : CalG P w K mg base 9 "_law_right" (spRightT (T0 K)) := by
  refine ⟨He.fAd K pR, fd, ["pot"], FnG.madeC F sc_law_right (fun vs H Q E h => ?_) (fun A outer s H vs Q E gd hr h => ?_), hm, F.kp, FunD.bindsN F (fun _ _ _ _ _ _ us hl => match us, hl with | [_], _ => rfl)⟩
  · obtain ⟨a, rfl, _⟩ := h
    rfl
  obtain ⟨a, rfl, hp, hT, k⟩ := h
  refine ⟨_, PSs.nox (pss_cons (ps_set (i := 1) sc_law_right.nd rfl (by first | exact Or.inl rfl | exact Or.inr rfl) (pe_lst (pa_cons pe_str (pa_cons pe_str (pa_cons pe_str (pa_cons pe_str (pa_cons pe_str (pa_cons pe_str (pa_cons pe_str (pa_cons pe_str (pa_cons pe_str (pa_cons pe_str (pa_cons pe_str (pa_cons pe_str (pa_cons pe_str (pa_cons pe_str (pa_cons pe_str pa_nil)))))))))))))))))
    (pss_cons (ps_set (i := 1) sc_law_right.nd rfl (by first | exact Or.inl rfl | exact Or.inr rfl) (pe_op op_cat (pv 1) (pe_lst (pa_cons pe_str (pa_cons pe_str pa_nil)))))
    (pss_cut (ps_for PassesOwn.never rfl (pi_range1 (by rfl) T.range (pa_cons pe_int pa_nil)) (pg_name (i := 2) sc_law_right.nd rfl (by first | exact Or.inl rfl | exact Or.inr rfl))
    (pss_cons (ps_set (i := 3) sc_law_right.nd rfl (by first | exact Or.inl rfl | exact Or.inr rfl) (pe_c c_law_fr hr (by decide) (by rfl) (pa_cons (pe_c c_law_of hr (by decide) (by rfl) (pa_cons (pv 0) (pa_cons (pe_lst (pa_cons pe_int (pa_cons pe_int (pa_cons (pe_un un_neg pe_int) (pa_cons pe_int (pa_cons (pe_un un_neg pe_int) (pa_cons pe_int (pa_cons pe_int (pa_cons (pe_un un_neg pe_int) (pa_cons pe_int pa_nil)))))))))) pa_nil))) (pa_cons (pe_c c_law_of hr (by decide) (by rfl) (pa_cons (pv 0) (pa_cons (pe_lst (pa_cons pe_int (pa_cons pe_int (pa_cons pe_int (pa_cons pe_int (pa_cons pe_int (pa_cons pe_int (pa_cons pe_int pa_nil)))))))) pa_nil))) pa_nil))))
    (pss_cons (ps_set (i := 4) sc_law_right.nd rfl (by first | exact Or.inl rfl | exact Or.inr rfl) (pe_c c_law_fr_text hr (by decide) (by rfl) (pa_cons (pv 3) pa_nil)))
    (pss_cons (ps_if (PW.pt (pw_or (pt_cmpR op_ne (pe_callB (calR_or (call_reprD gd hr.units T.mods) (calR_or (call_reprO M_repr F_repr (hr.mono (by decide)) B_repr passL repr_str) (call_reprN gd dg hr.units))) (by rfl) T.repr (by decide +kernel) (pa_cons (pe_fld (pe_c c_law_made hr (by decide) (by rfl) (pa_cons (pv 3) pa_nil)) rfl) pa_nil)) (pe_callB (calR_or (call_reprD gd hr.units T.mods) (calR_or (call_reprO M_repr F_repr (hr.mono (by decide)) B_repr passL repr_str) (call_reprN gd dg hr.units))) (by rfl) T.repr (by decide +kernel) (pa_cons (pv 4) pa_nil)) (nomark _)) (pw_or1 (pt_cmpR (op_ownNe D_eq RC.ne RC.hm F_eq (hr.mono (by decide)) B_eq pass0) (pe_static (pe_glob (v := .ref (ratA K)) (by rfl) RC.m rfl) CR SM F_of (hr := hr.mono (by decide)) (hb := B_of) (hx := passL) (pa_cons (pv 4) pa_nil)) (pe_c c_law_made hr (by decide) (by rfl) (pa_cons (pv 3) pa_nil)) (nomark _))))) (pss_one (ps_ret pe_bl)) pss_nil)
    (pss_one (ps_expr (pe_bm PySem.F.plainAttrs_list PySem.F.slot_list_extend PySem.F.type_list_extend mt_extend (pv 1) (pa_cons (pe_lst (pa_cons (pe_c c_law_spoilt hr (by decide) (by rfl) (pa_cons (pv 0) (pa_cons (pv 4) pa_nil))) (pa_cons (pe_c c_law_spoilt hr (by decide) (by rfl) (pa_cons (pv 0) (pa_cons (pe_c c_law_spoilt hr (by decide) (by rfl) (pa_cons (pv 0) (pa_cons (pv 4) pa_nil))) pa_nil))) pa_nil))) pa_nil))))))))
    (pss_cut (ps_for PassesOwn.never rfl (pi_tup (pe_tup (pa_cons pe_int (pa_cons pe_int pa_nil)))) (pg_name (i := 5) sc_law_right.nd rfl (by first | exact Or.inl rfl | exact Or.inr rfl))
    (pss_cons (ps_set (i := 6) sc_law_right.nd rfl (by first | exact Or.inl rfl | exact Or.inr rfl) (pe_callTy (call_str_big dg hr.units) (by rfl) T.str (by decide +kernel) (pa_cons (pe_op op_sub (pe_callTy (call_int_big dg) (by rfl) T.int (by decide +kernel) (pa_cons (pe_op op_rep9 pe_str (pv 5)) pa_nil)) (pe_c c_law_take hr (by decide) (by rfl) (pa_cons (pv 0) (pa_cons pe_int pa_nil)))) pa_nil)))
    (pss_cons (ps_expr (pe_bm PySem.F.plainAttrs_list PySem.F.slot_list_extend PySem.F.type_list_extend mt_extend (pv 1) (pa_cons (pe_lst (pa_cons (pv 6) (pa_cons (pe_op op_add_str pe_str (pv 6)) (pa_cons (pe_op op_add_str pe_str (pv 6)) (pa_cons (pe_op op_add_str (pe_op op_add_str (pe_op op_add_str (pe_op op_add_str pe_str (pv 6)) pe_str) (pv 6)) pe_str) (pa_cons (pe_op op_add_str (pv 6) pe_str) (pa_cons (pe_op op_add_str pe_str (pv 6)) pa_nil))))))) pa_nil)))
    (pss_one (ps_expr (pe_bm PySem.F.plainAttrs_list PySem.F.slot_list_extend PySem.F.type_list_extend mt_extend (pv 1) (pa_cons (pe_lst (pa_cons (pe_op op_add_str (pe_op op_add_str (pv 6) pe_str) (pv 6)) (pa_cons (pe_c c_law_spoilt hr (by decide) (by rfl) (pa_cons (pv 0) (pa_cons (pv 6) pa_nil))) pa_nil))) pa_nil)))))))
    (pss_cons (ps_for PassesOwn.never rfl (pi_list (pe_op op_cat (pv 1) (pe_lst (pa_cons pe_non (pa_cons pe_int (pa_cons pe_bl (pa_cons pe_int (pa_cons (pe_tup pa_nil) (pa_cons (pe_lst (pa_cons pe_str pa_nil)) (pa_cons (pe_tup (pa_cons pe_str (pa_cons pe_str pa_nil))) (pa_cons (pe_mkD c_mk1 passL hr (by decide) (by rfl) (pa_cons pe_int pa_nil)) (pa_cons (pe_c c_law_odd hr (by decide) (by rfl) (pa_cons (pv 0) pa_nil)) pa_nil)))))))))))) (pg_name (i := 7) sc_law_right.nd rfl (by first | exact Or.inl rfl | exact Or.inr rfl))
    (pss_cut (ps_set (i := 8) sc_law_right.nd rfl (by first | exact Or.inl rfl | exact Or.inr rfl) (pe_ifExp (pt_val (pe_callB call_isR (by rfl) T.isinstance (by decide +kernel) (pa_cons (pv 7) (pa_cons (pe_bltn (v := .ty "str") (by rfl) T.str (by decide +kernel) rfl) pa_nil)))) (pe_c c_law_fraction_in hr (by decide) (by rfl) (pa_cons (pv 7) pa_nil)) pe_non))
    (pss_cons (ps_asg (pe_lamF (T := T0 K) c_law_told gd hr (by decide) (by rfl) TB rfl (List.mem_singleton.mpr rfl) (fun p hp _ => by rw [List.mem_singleton.mp hp] <;> rfl) (lamS_by (show LamX.lamSB (defScope s_law_right) _ = true by decide +kernel)) rfl (fun _ _ _ _ _ => rfl) (fun _ _ _ _ E _ _ gd' hr' => (pe_static (pe_glob (v := .ref (ratA K)) (by rfl) RC.m rfl) CR SM F_of (hr := hr'.mono (by decide)) (hb := B_of) (hx := lam_passM) (pa_cons (pv 7) pa_nil))) pa_nil) (pg_tup rfl (pgs_cons (pg_name (i := 9) sc_law_right.nd rfl (by first | exact Or.inl rfl | exact Or.inr rfl)) (pgs_cons (pg_name (i := 10) sc_law_right.nd rfl (by first | exact Or.inl rfl | exact Or.inr rfl)) pgs_nil))))
    (pss_one (ps_if (pt_cmpR op_isN (pv 8) pe_non (nomark _)) (pss_one (ps_if (PW.pt (pw_or (pt_not (pt_val (pe_callB call_isR (by rfl) T.isinstance (by decide +kernel) (pa_cons (pv 9) (pa_cons (pe_glob (v := .ref (He.ga K "BadText")) (by rfl) (Z.m (x := "BadText") (by decide +kernel)) rfl) pa_nil))))) (pw_or1 (pt_cmpR op_ne (pe_callB (calR_or (call_reprD gd hr.units T.mods) (calR_or (call_reprO M_repr F_repr (hr.mono (by decide)) B_repr passL repr_str) (call_reprN gd dg hr.units))) (by rfl) T.repr (by decide +kernel) (pa_cons (pe_exR (pv 9) rfl) pa_nil)) (pe_callB (calR_or (call_reprD gd hr.units T.mods) (calR_or (call_reprO M_repr F_repr (hr.mono (by decide)) B_repr passL repr_str) (call_reprN gd dg hr.units))) (by rfl) T.repr (by decide +kernel) (pa_cons (pv 7) pa_nil)) (nomark _))))) (pss_one (ps_ret pe_bl)) pss_nil)) (pss_one (ps_if (PW.pt (pw_or (pt_cmpR op_notN (pv 9) pe_non (nomark _)) (pw_or1 (pt_cmpR op_ne (pe_callB (calR_or (call_reprD gd hr.units T.mods) (calR_or (call_reprO M_repr F_repr (hr.mono (by decide)) B_repr passL repr_str) (call_reprN gd dg hr.units))) (by rfl) T.repr (by decide +kernel) (pa_cons (pe_tup (pa_cons (pe_fld (pv 10) rfl) (pa_cons (pe_fld (pv 10) rfl) pa_nil))) pa_nil)) (pe_callB (calR_or (call_reprD gd hr.units T.mods) (calR_or (call_reprO M_repr F_repr (hr.mono (by decide)) B_repr passL repr_str) (call_reprN gd dg hr.units))) (by rfl) T.repr (by decide +kernel) (pa_cons (pv 8) pa_nil)) (nomark _))))) (pss_one (ps_ret pe_bl)) pss_nil)))))))
    (pss_one (ps_ret pe_bl))))))), ?_⟩
  refine ⟨(by show 15 ≤ sizeLine; decide), fun l0 hl0 => ?_⟩
  have s0 : Same H (upd H l0 (.lst ([("" : Str), "0", "-0", "1/1", "2/4", "1/0", "0/3", "+1", "01", "1/02", "--1", "1/-2", " 1", "1/2/3", "/2"].map V.str))) := Same.new hl0
  have e0 : upd H l0 (.lst ([("" : Str), "0", "-0", "1/1", "2/4", "1/0", "0/3", "+1", "01", "1/02", "--1", "1/-2", " 1", "1/2/3", "/2"].map V.str)) l0 = some (.lst ([("" : Str), "0", "-0", "1/1", "2/4", "1/0", "0/3", "+1", "01", "1/02", "--1", "1/-2", " 1", "1/2/3", "/2"].map V.str)) := upd_same
  refine ⟨_, rfl, (by show 2 ≤ sizeLine; decide), fun l1 hl1 => ?_⟩
  have s1 := s0.trans (Same.new (o := .lst ([("1/" : Str), "-"].map V.str)) hl1)
  refine ⟨_, _, _, _, rfl, rfl, (Same.new hl1) _ _ e0, upd_same, (by show 17 ≤ sizeLine; decide), fun L hL => ?_⟩
  have hLH := s1.free hL
  have hLa : L ≠ a := (hp.ext (ext_same s1)).ne hL
  have j0 : JJ K H a L 17 0 (upd (upd (upd H l0 (.lst ([("" : Str), "0", "-0", "1/1", "2/4", "1/0", "0/3", "+1", "01", "1/02", "--1", "1/-2", " 1", "1/2/3", "/2"].map V.str))) l1 (.lst ([("1/" : Str), "-"].map V.str))) L (.lst ([("" : Str), "0", "-0", "1/1", "2/4", "1/0", "0/3", "+1", "01", "1/02", "--1", "1/-2", " 1", "1/2/3", "/2", "1/", "-"].map V.str))) :=
    ⟨hLa, hLH, ⟨_, upd_same, by decide, by decide +kernel⟩, (hp.ext (ext_same s1)).new hL, tabs_same (tabs_same hT s1) (Same.new hL), (KeptT.same s1).trans (KeptT.same (Same.new hL))⟩
  dsimp only [gName]
  refine ⟨fun σ H' => ∃ s2 s3 s4, σ = [some (.ref a), some (.ref L), s2, s3, s4, none, none, none, none, none, none] ∧ JJ K H a L 37 200 H', ?_, ?_⟩
  · refine ⟨10, rfl, by decide, by decide, for_range (lo := 0) (n := (10 : Int).toNat) (fun i σ H' => ∃ s2 s3 s4, σ = [some (.ref a), some (.ref L), s2, s3, s4, none, none, none, none, none, none] ∧ JJ K H a L (17 + 2 * i) (20 * i) H') ⟨_, _, _, rfl, j0⟩ ?_ ?_⟩
    · rintro i σ H1 hi ⟨s2, s3, s4, rfl, jj⟩
      have hi10 : i < 10 := by simpa using hi
      dsimp only [gName]
      refine ⟨_, rfl, _, rfl, _, rfl, _, rfl, (by show 9 ≤ sizeLine; decide), fun l hl => ⟨a, l, _, 20 * i, rfl, jj.2.2.2.1.new hl, by omega, jj.2.2.2.1.ne hl, .inl (SqL.of upd_same), by decide, by decide, fun v H2 hv hp2 kb2 => ?_⟩⟩
      have hv' : ∃ i : Int, v = .int i ∧ i.natAbs ≤ 1000000 := by
        simp only [List.mem_cons, List.not_mem_nil, or_false] at hv
        rcases hv with rfl | rfl | rfl | rfl | rfl | rfl | rfl | rfl | rfl <;> exact ⟨_, rfl, by decide⟩
      obtain ⟨x, rfl, x1⟩ := hv'
      have j2 := jj.but ((KeptBut.new hl).trans kb2) hp2
      refine ⟨_, rfl, (by show 7 ≤ sizeLine; decide), fun l2 hl2 => ⟨a, l2, _, 20 * i + 1, rfl, hp2.new hl2, by omega, hp2.ne hl2, .inl (SqL.of upd_same), by decide, by decide, fun v2 H3 hv2 hp3 kb3 => ?_⟩⟩
      have hv' : ∃ j : Int, v2 = .int j ∧ j.natAbs ≤ 1000000 ∧ j ≠ 0 := by
        simp only [List.mem_cons, List.not_mem_nil, or_false] at hv2
        rcases hv2 with rfl | rfl | rfl | rfl | rfl | rfl | rfl <;> exact ⟨_, rfl, by decide, by decide⟩
      obtain ⟨y, rfl, y1, y0⟩ := hv'
      have j3 := j2.but ((KeptBut.new hl2).trans kb3) hp3
      have mb : ∀ {n : Int}, n.natAbs ≤ 1000000 → Mb n := fun h => Nat.lt_of_le_of_lt h (Nat.lt_of_lt_of_le (by decide : (1000000 : Nat) < 2 ^ 20) (Nat.pow_le_pow_right (by decide) (by decide)))
      refine ⟨x, y, rfl, y0, (mb y1).nb, fun p hp => ?_⟩
      have fr : Fr (upd H3 p (.tup [.int (rn x y), .int (ru x y)])) p (rn x y) (ru x y) := ⟨upd_same, red_of y0, mb (Nat.le_trans (rn_le x y y0) x1), mb (Nat.le_trans (ru_le x y y0) y1)⟩
      have b1 := Nat.le_trans (rn_le x y y0) x1
      have b2 := Nat.le_trans (ru_le x y y0) y1
      have j4 := j3.same (Same.new (o := .tup [.int (rn x y), .int (ru x y)]) hp)
      generalize upd H3 p (.tup [.int (rn x y), .int (ru x y)]) = H4 at *
      generalize rn x y = n at *
      generalize ru x y = u at *
      refine ⟨_, rfl, p, n, u, rfl, fr, b1, b2, ?_⟩
      dsimp only [gName]
      have at1 := asc_rt n u
      have lt1 : (ratText n u).length ≤ 17 := by
        unfold ratText
        have l1 := (small_log b1).2
        have l2 := (small_log b2).2
        split
        · omega
        · rw [strLen_append, strLen_append]
          show _ + 1 + _ ≤ 17
          omega
      have is1 : IsT (TL.tl (ratText n u)) n u := ⟨fr.r, rfl⟩
      obtain ⟨w1, w2, w3⟩ := asc_repr at1 (by omega)
      refine ⟨_, rfl, p, n, u, rfl, fr, fun H5 y5 s5 n5 r5 => ?_⟩
      obtain ⟨dy, hy⟩ := id r5
      refine ⟨y5, ratA K, dy, _, _, rfl, hy, RC.cl, RC.nT, rfl, .inl ⟨_, _, rfl, .str _, w1, w2, w3, _, rfl, .inl ⟨_, _, rfl, .str _, w1, w2, w3, rfl, _, rfl, ?_⟩⟩⟩
      refine no_of (by rw [decide_eq_true rfl]; rfl) ?_
      refine ⟨rfl, _, rfl, _, rfl, .inl ⟨_, rfl, by omega, fun n' u' h' H6 y6 s6 r6 => ?_, fun h => absurd is1 (h n u)⟩⟩
      obtain ⟨rfl, rfl⟩ := ist_unique is1 h'
      refine ⟨_, rfl, p, n, u, rfl, fr.same (s5.trans s6), fun H7 y7 s7 n7 r7 => ?_⟩
      obtain ⟨dy6, hy6⟩ := id (r6.same s7)
      obtain ⟨dy7, hy7⟩ := id r7
      refine ⟨y6, y7, dy6, dy7, _, _, rfl, rfl, hy6, hy7, y6, .ref y7, n, u, rfl, r6.same s7, .inl ⟨y7, n, u, rfl, r7, _, rfl, _, rfl, ?_⟩⟩
      refine no_of (by rw [decide_eq_true rfl, decide_eq_true rfl]; rfl) ?_
      have j7 := ((j4.same s5).same s6).same s7
      clear j4 s5 s6 s7 r5 r6 r7 hy6 hy7 hy fr
      refine ⟨_, rfl, .inl ⟨rfl, _, SqL.of j7.2.2.1.choose_spec.1⟩, ?_⟩
      refine ⟨_, rfl, _, rfl, a, _, 20 * i + 2, rfl, j7.2.2.2.1, by omega, by omega, fun t1 H8 a1 l1 p8 kb8 => ?_⟩
      have j8 := j7.but kb8 p8
      refine ⟨_, rfl, _, rfl, _, rfl, a, _, 20 * i + 5, rfl, p8, by omega, by omega, fun t2 H9 a2 l2 p9 kb9 => ?_⟩
      have j9 := j8.but kb9 p9
      refine ⟨a, _, 20 * i + 8, rfl, p9, by omega, by omega, fun t3 H10 a3 l3 p10 kb10 => ⟨(by show 2 ≤ sizeLine; decide), fun b hb => ?_⟩⟩
      have j10 := (j9.but kb10 p10).same (Same.new (o := .lst ([t1, t3].map V.str)) hb)
      obtain ⟨ts, ets, lts, j11⟩ := j10.grow (zs := [t1, t3]) (by omega) (by simp) (fun t ht => by
        simp only [List.mem_cons, List.not_mem_nil, or_false] at ht
        rcases ht with rfl | rfl
        · exact ⟨a1 at1, by omega⟩
        · exact ⟨a3 (a2 at1), by omega⟩)
      exact ⟨L, b, _, _, rfl, rfl, ets, upd_same, lts, _, _, _, rfl, j11.mono (by simp; omega) (by omega)⟩
    · rintro σ H1 ⟨s2, s3, s4, rfl, jj⟩
      exact ⟨_, _, _, rfl, jj⟩
  rintro σ H1 ⟨s2, s3, s4, rfl, jj⟩
  refine ⟨fun σ H' => ∃ s2 s3 s4 s5 s6, σ = [some (.ref a), some (.ref L), s2, s3, s4, s5, s6, none, none, none, none] ∧ JJ K H a L 60 220 H', ?_, ?_⟩
  · refine ⟨(by show 2 ≤ sizeLine; decide), fun q hq => ⟨q, rfl, ⟨_, SqT.of upd_same⟩, for_tup (K := K) (a := q) (xs := [V.int 40, .int 900]) (fun j σ H' => ∃ s2 s3 s4 s5 s6, σ = [some (.ref a), some (.ref L), s2, s3, s4, s5, s6, none, none, none, none] ∧ JJ K H a L (37 + 8 * j) (200 + 6 * j) H' ∧ H' q = some (.tup [.int 40, .int 900])) ⟨_, _, _, _, _, rfl, jj.same (Same.new hq), upd_same⟩ (fun j σ H' _ ⟨_, _, _, _, _, _, _, e⟩ => SqT.of e) ?_ ?_⟩⟩
    · rintro j v σ H2 hj ⟨s2, s3, s4, s5, s6, rfl, j2, eq⟩
      have hj2 : j < 2 := by
        have := (List.getElem?_eq_some_iff.mp hj).1
        simpa using this
      obtain ⟨k9, rfl, h9⟩ : ∃ k9 : Int, v = .int k9 ∧ Two9 k9 := by
        have hm := List.mem_of_getElem? hj
        simp only [List.mem_cons, List.not_mem_nil, or_false] at hm
        rcases hm with rfl | rfl
        · exact ⟨_, rfl, .inl rfl⟩
        · exact ⟨_, rfl, .inr rfl⟩
      dsimp only [gName]
      refine ⟨_, rfl, k9, rfl, rfl, h9, _, _, rfl, (two9_text h9).1, _, rfl, a, 1000, 200 + 6 * j, rfl, j2.2.2.2.1, by omega, by decide, by decide, fun i H3 i0 i1 hp3 kb3 => ?_⟩
      obtain ⟨nb, lg⟩ := great_ok h9 i0 i1
      have ag := asc_ds (10 ^ k9.toNat - 1 - i)
      have j3 := j2.but kb3 hp3
      have eq3 : H3 q = some (.tup [.int 40, .int 900]) := by
        obtain ⟨c0, c1, c2, ea, _⟩ := j2.2.2.2.1
        exact kb3 _ _ eq (ne_of eq ea fun z => nomatch z)
      refine ⟨_, _, rfl, rfl, _, rfl, nb, ?_⟩
      generalize ds (10 ^ k9.toNat - 1 - i) = g at *
      dsimp only [gName]
      have fit : ∀ {m : Nat}, m ≤ 2000 → m ≤ sizeLine := fun h => by
        rw [sizeLine_eq]
        omega
      refine ⟨_, rfl, .inl ⟨rfl, _, SqL.of j3.2.2.1.choose_spec.1⟩, ?_⟩
      refine ⟨_, rfl, _, rfl, _, _, rfl, rfl, fit (by show 1 + _ ≤ _; omega), _, rfl, _, _, rfl, rfl, fit (by show 2 + _ ≤ _; omega), _, rfl, _, _, rfl, rfl, fit (by show 1 + _ ≤ _; omega), _, _, rfl, rfl, ?_, _, rfl, _, _, rfl, rfl, ?_, _, _, rfl, rfl, ?_, _, rfl, _, _, rfl, rfl, fit (by show _ + 3 ≤ _; omega), _, rfl, _, _, rfl, rfl, fit (by show 1 + _ ≤ _; omega), (by show 6 ≤ sizeLine; decide), fun b hb => ?_⟩
      · rw [strLen_append]
        exact fit (by show 1 + _ + 1 ≤ _; omega)
      · rw [strLen_append, strLen_append]
        exact fit (by show 1 + _ + 1 + _ ≤ _; omega)
      · rw [strLen_append, strLen_append, strLen_append]
        exact fit (by show 1 + _ + 1 + _ + 1 ≤ _; omega)
      have am : Asc ("-" : Str) := by decide +kernel
      have aq : Asc ("/" : Str) := by decide +kernel
      have a1 : Asc ("1" : Str) := by decide +kernel
      have a1q : Asc ("1/" : Str) := by decide +kernel
      have a03 : Asc ("0/3" : Str) := by decide +kernel
      have a00 : Asc ("0" : Str) := by decide +kernel
      obtain ⟨ts, ets, lts, j4⟩ := (j3.same (Same.new (o := .lst ([g, ("-" : Str) ++ g, ("1/" : Str) ++ g, ("-" : Str) ++ g ++ ("/" : Str) ++ g ++ ("1" : Str), g ++ ("0/3" : Str), ("0" : Str) ++ g].map V.str)) hb)).grow (zs := [g, ("-" : Str) ++ g, ("1/" : Str) ++ g, ("-" : Str) ++ g ++ ("/" : Str) ++ g ++ ("1" : Str), g ++ ("0/3" : Str), ("0" : Str) ++ g]) (by omega) (by simp) (fun t ht => by
        simp only [List.mem_cons, List.not_mem_nil, or_false] at ht
        rcases ht with rfl | rfl | rfl | rfl | rfl | rfl
        · exact ⟨ag, by omega⟩
        · exact ⟨asc_app am ag, by rw [strLen_append]; show 1 + _ ≤ _; omega⟩
        · exact ⟨asc_app a1q ag, by rw [strLen_append]; show 2 + _ ≤ _; omega⟩
        · exact ⟨asc_app (asc_app (asc_app (asc_app am ag) aq) ag) a1, by rw [strLen_append, strLen_append, strLen_append, strLen_append]; show 1 + _ + 1 + _ + 1 ≤ _; omega⟩
        · exact ⟨asc_app ag a03, by rw [strLen_append]; show _ + 3 ≤ _; omega⟩
        · exact ⟨asc_app a00 ag, by rw [strLen_append]; show 1 + _ ≤ _; omega⟩)
      have nbq : b ≠ q := (ne_of_none eq3 hb).symm
      have nLq : q ≠ L := fun z => by
        rw [z] at eq3
        obtain ⟨_, _, ⟨us, eu, _⟩, _⟩ := j3
        rw [eu] at eq3
        cases eq3
      refine ⟨L, b, _, _, rfl, rfl, ets, upd_same, lts, ?_⟩
      have eq4 : upd (upd H3 b (.lst ([g, ("-" : Str) ++ g, ("1/" : Str) ++ g, ("-" : Str) ++ g ++ ("/" : Str) ++ g ++ ("1" : Str), g ++ ("0/3" : Str), ("0" : Str) ++ g].map V.str))) L (.lst (ts.map V.str ++ [g, ("-" : Str) ++ g, ("1/" : Str) ++ g, ("-" : Str) ++ g ++ ("/" : Str) ++ g ++ ("1" : Str), g ++ ("0/3" : Str), ("0" : Str) ++ g].map V.str)) q = some (.tup [.int 40, .int 900]) := ((upd_ne nLq).trans (upd_ne nbq.symm)).trans eq3
      refine ⟨_, rfl, .inl ⟨rfl, _, SqL.of j4.2.2.1.choose_spec.1⟩, ?_⟩
      refine ⟨_, rfl, _, _, rfl, rfl, fit (by show _ + 1 ≤ _; omega), _, rfl, _, _, rfl, rfl, ?_, _, rfl, _, rfl, a, g, 200 + 6 * j + 1, rfl, j4.2.2.2.1, by omega, by omega, fun t3 H5 a3 l3 p5 kb5 => ⟨(by show 2 ≤ sizeLine; decide), fun b2 hb2 => ?_⟩⟩
      · rw [strLen_append]
        exact fit (by show _ + 1 + _ ≤ _; omega)
      have j5 := j4.but kb5 p5
      have eq5 : H5 q = some (.tup [.int 40, .int 900]) := by
        obtain ⟨c0, c1, c2, ea, _⟩ := j4.2.2.2.1
        exact kb5 _ _ eq4 (ne_of eq4 ea fun z => nomatch z)
      obtain ⟨us, eus, lus, j6⟩ := (j5.same (Same.new (o := .lst ([g ++ ("/" : Str) ++ g, t3].map V.str)) hb2)).grow (zs := [g ++ ("/" : Str) ++ g, t3]) (by simp; omega) (by simp) (fun t ht => by
        simp only [List.mem_cons, List.not_mem_nil, or_false] at ht
        rcases ht with rfl | rfl
        · exact ⟨asc_app (asc_app ag aq) ag, by rw [strLen_append, strLen_append]; show _ + 1 + _ ≤ _; omega⟩
        · exact ⟨a3 ag, by omega⟩)
      refine ⟨L, b2, _, _, rfl, rfl, eus, upd_same, lus, _, _, _, _, _, rfl, j6.mono (by simp; omega) (by omega), ?_⟩
      exact ((upd_ne nLq).trans (upd_ne (ne_of_none eq5 hb2))).trans eq5
    · rintro σ H2 ⟨s2, s3, s4, s5, s6, rfl, j2, _⟩
      exact ⟨_, _, _, _, _, rfl, j2.mono (by simp) (by simp)⟩
  rintro σ H1 ⟨s2, s3, s4, s5, s6, rfl, jj⟩
  have e9 : ∀ (q1 q2 q3 y : Addr) (v : V) (H' : Hp), H' q1 = some (.tup []) → H' q2 = some (.lst [.str "1"]) → H' q3 = some (.tup [.str "1", .str "2"]) → RatAt K H' y 1 1 → Sm 40 3 H' v → ∀ x ∈ [V.non, .int 0, .bl true, .int 1, .ref q1, .ref q2, .ref q3, .ref y, v], VOk K H' x := by
    intro q1 q2 q3 y v H' e1 e2 e3 r sm x hx
    simp only [List.mem_cons, List.not_mem_nil, or_false] at hx
    rcases hx with rfl | rfl | rfl | rfl | rfl | rfl | rfl | rfl | rfl
    · exact .inr (.inl ⟨fun _ => nofun, sm_flat .non 40 3 rfl (by decide) (by decide +kernel)⟩)
    · exact .inr (.inl ⟨fun _ => nofun, sm_flat (.int 0) 40 3 rfl (by decide) (by decide +kernel)⟩)
    · exact .inr (.inl ⟨fun _ => nofun, sm_flat (.bl true) 40 3 rfl (by decide) (by decide +kernel)⟩)
    · exact .inr (.inl ⟨fun _ => nofun, sm_flat (.int 1) 40 3 rfl (by decide) (by decide +kernel)⟩)
    · exact .inr (.inl ⟨fun _ => nofun, ⟨.tuple [], .tup e1 .nil, by decide +kernel, by decide +kernel, by decide +kernel⟩⟩)
    · exact .inr (.inl ⟨fun _ => nofun, ⟨.list [.str "1"], .lst e2 (.cons (.str _) .nil), by decide +kernel, by decide +kernel, by decide +kernel⟩⟩)
    · exact .inr (.inl ⟨fun _ => nofun, ⟨.tuple [.str "1", .str "2"], .tup e3 (.cons (.str _) (.cons (.str _) .nil)), by decide +kernel, by decide +kernel, by decide +kernel⟩⟩)
    · exact .inr (.inr ⟨_, rfl, r⟩)
    · by_cases c : ∃ z, x = V.str z
      · obtain ⟨z, rfl⟩ := c
        obtain ⟨d, h1, h2, h3, h4⟩ := sm
        cases h1
        have g := repr_ge z
        have h5 : (reprText z).length ≤ 40 := h4
        exact .inl ⟨z, rfl, by omega, Nat.le_trans h4 (by rw [sizeLine_eq]; decide)⟩
      · exact .inr (.inl ⟨fun z e => c ⟨z, e⟩, sm⟩)
  refine ⟨_, rfl, (by show 0 ≤ sizeLine; exact Nat.zero_le _), fun q1 hq1 => ⟨(by show 1 ≤ sizeLine; decide), fun q2 hq2 => ⟨(by show 2 ≤ sizeLine; decide), fun q3 hq3 => fun y dy hy hdy _ => make_rat hy hdy (by decide) nb_1 nb_1 fun H5 s5' r5 => ?_⟩⟩⟩
  obtain ⟨r01, u01⟩ := red_id (red_one 1)
  rw [r01, u01] at r5
  have s15 : Same H1 H5 := (((Same.new hq1).trans (Same.new hq2)).trans (Same.new hq3)).trans s5'
  have e1 : H5 q1 = some (.tup []) := s5' _ _ ((Same.new hq3) _ _ ((Same.new hq2) _ _ upd_same))
  have e2 : H5 q2 = some (.lst [.str "1"]) := s5' _ _ ((Same.new hq3) _ _ upd_same)
  have e3 : H5 q3 = some (.tup [.str "1", .str "2"]) := s5' _ _ upd_same
  have j5 := jj.same s15
  clear jj s15 s5' hq1 hq2 hq3 hy hdy
  refine ⟨_, rfl, a, 220, rfl, j5.2.2.2.1, by omega, fun v H6 hp6 kb6 sm => ⟨(by show 9 ≤ sizeLine; decide), fun l hl => ?_⟩⟩
  have sm6 := sm.same fresh_sub
  have j6 := j5.but kb6 hp6
  have kx : ∀ {b : Addr} {o : HO}, H5 b = some o → (∀ p0 p1 p2 : Int, o ≠ .lst [.int p0, .int p1, .int p2]) → H6 b = some o := fun {b o} eb no => kb6 b o eb fun z => by
    obtain ⟨c0, c1, c2, ea, _⟩ := j5.2.2.2.1
    rw [z, ea] at eb
    exact no _ _ _ (Option.some.inj eb).symm
  have all6 := e9 q1 q2 q3 y v H6 (kx e1 fun _ _ _ => nofun) (kx e2 fun _ _ _ => by simp) (kx e3 fun _ _ _ => nofun) (r5.but kb6 j5.2.2.2.1) sm6
  have j7 := j6.same (Same.new (o := .lst [V.non, .int 0, .bl true, .int 1, .ref q1, .ref q2, .ref q3, .ref y, v]) hl)
  have all7 : ∀ x ∈ [V.non, .int 0, .bl true, .int 1, .ref q1, .ref q2, .ref q3, .ref y, v], VOk K (upd H6 l (.lst [V.non, .int 0, .bl true, .int 1, .ref q1, .ref q2, .ref q3, .ref y, v])) x := fun x hx => (all6 x hx).ext (ext_same (Same.new hl))
  obtain ⟨ts, ets, lts, ats⟩ := id j7.2.2.1
  refine ⟨L, l, _, _, rfl, rfl, ets, upd_same, ?_, fun D hD => ?_⟩
  · rw [List.length_map, sizeLine_eq]
    simp
    omega
  generalize upd H6 l (.lst [V.non, .int 0, .bl true, .int 1, .ref q1, .ref q2, .ref q3, .ref y, v]) = H7 at *
  have s8 : Same H7 (upd H7 D (.lst (ts.map V.str ++ [V.non, .int 0, .bl true, .int 1, .ref q1, .ref q2, .ref q3, .ref y, v]))) := Same.new hD
  have e8 : upd H7 D (.lst (ts.map V.str ++ [V.non, .int 0, .bl true, .int 1, .ref q1, .ref q2, .ref q3, .ref y, v])) D = some (.lst (ts.map V.str ++ [V.non, .int 0, .bl true, .int 1, .ref q1, .ref q2, .ref q3, .ref y, v])) := upd_same
  have j8 := j7.same s8
  have all8 : ∀ x ∈ ts.map V.str ++ [V.non, .int 0, .bl true, .int 1, .ref q1, .ref q2, .ref q3, .ref y, v], VOk K (upd H7 D (.lst (ts.map V.str ++ [V.non, .int 0, .bl true, .int 1, .ref q1, .ref q2, .ref q3, .ref y, v]))) x := fun x hx => by
    rcases List.mem_append.mp hx with hx | hx
    · obtain ⟨z, hz, rfl⟩ := List.mem_map.mp hx
      obtain ⟨az, lz⟩ := ats z hz
      exact .inl ⟨z, rfl, lz, (asc_repr az lz).2.2⟩
    · exact (all7 x hx).ext (ext_same s8)
  generalize ts.map V.str ++ [V.non, .int 0, .bl true, .int 1, .ref q1, .ref q2, .ref q3, .ref y, v] = xs at *
  generalize upd H7 D (.lst xs) = H8 at *
  clear all7 all6 j7 j6 j5 e9 e1 e2 e3 sm6 sm kx hl hD
  refine ⟨D, rfl, ⟨_, SqL.of e8⟩, for_list (K := K) (a := D) (xs := xs) (fun j σ H' => ∃ s2 s3 s4 s5 s6 s7 s8 s9 s10, σ = [some (.ref a), some (.ref L), s2, s3, s4, s5, s6, s7, s8, s9, s10] ∧ ExtN H8 H' ∧ Tabs (T0 K) H') ⟨_, _, _, _, _, _, _, _, _, rfl, ExtN.refl _, j8.2.2.2.2.1⟩ (fun j σ H' _ ⟨_, _, _, _, _, _, _, _, _, _, e, _⟩ => SqL.of (e _ _ e8 (fun _ => nofun))) ?_ ?_⟩
  · rintro j x σ H9 hj ⟨s2, s3, s4, s5, s6, s7, s8', s9, s10, rfl, x9, t9⟩
    have vok := (all8 x (List.mem_of_getElem? hj)).ext x9
    dsimp only [gName]
    refine ⟨fun σ H' => ∃ d, σ = [some (.ref a), some (.ref L), s2, s3, s4, s5, s6, some x, some d, s9, s10] ∧ Same H9 H' ∧ ((∃ z n u p, x = .str z ∧ z.length ≤ 2000 ∧ IsT (TL.tl z) n u ∧ d = .ref p ∧ H' p = some (.tup [.int n, .int u])) ∨ (d = .non ∧ ¬ ∃ z n u, x = .str z ∧ IsT (TL.tl z) n u)), ?_, ?_⟩
    · by_cases c : ∃ z, x = V.str z
      · obtain ⟨z, rfl⟩ := c
        have lz : z.length ≤ 2000 := by
          rcases vok with ⟨y', e, l', _⟩ | ⟨n, _⟩ | ⟨y', e, _⟩
          · rw [V.str.inj e]
            exact l'
          · exact absurd rfl (n z)
          · cases e
        refine asg_ofA ⟨_, rfl, _, _, _, _, true, rfl, .ty _, .inl (.base (.str z)), kit_ty (by decide +kernel), true, rfl, iteT ⟨_, rfl, z, rfl, lz, fun n u is H' p s e => ⟨_, rfl, s, .inl ⟨z, n, u, p, rfl, lz, is, rfl, e⟩⟩, fun neg H' s => ⟨_, rfl, s, .inr ⟨rfl, fun ⟨z', n, u, e, is⟩ => neg n u (by rw [V.str.inj e]; exact is)⟩⟩⟩⟩
      · obtain ⟨t, ty, ki⟩ := vok.not RC fun z e => c ⟨z, e⟩
        refine asg_ofA ⟨_, rfl, _, _, _, _, false, rfl, .ty _, .inl ty, ki, false, rfl, iteF ⟨_, rfl, Same.refl _, .inr ⟨rfl, fun ⟨z, _, _, e, _⟩ => c ⟨z, e⟩⟩⟩⟩
    · rintro σ H10 ⟨d, rfl, s10', hd⟩
      have t10 := tabs_same t9 s10'
      have vok10 := vok.ext (ext_same s10')
      refine ⟨t10, fun Ha eA tA c' qn hc => ⟨hc, rfl, fun Hb sb => ⟨sb _ _ hc, ?_⟩⟩⟩
      have xb : ExtN H10 Hb := eA.trans (ext_same sb)
      refine ⟨rfl, _, rfl, ?_⟩
      rcases hd with ⟨z, n, u, p, rfl, lz, is, rfl, ep⟩ | ⟨rfl, neg⟩
      · refine ⟨_, rfl, .inl ⟨z, rfl, lz, fun n' u' is' Hc y2 sc r2 => ?_, fun ng => absurd is (ng n u)⟩⟩
        obtain ⟨rfl, rfl⟩ := ist_unique is is'
        obtain ⟨nbn, nbu⟩ := ist_nb is (by rw [← TL.len_tl]; exact lz)
        intro pp hpp
        have sp : Same Hc (upd Hc pp (.tup [.non, .ref y2])) := Same.new hpp
        obtain ⟨dy2, hy2⟩ := id (r2.same sp)
        have ep2 := sp _ _ (sc _ _ (xb _ _ ep (fun _ => nofun)))
        have xe : ExtN H10 (upd Hc pp (.tup [.non, .ref y2])) := (xb.trans (ext_same sc)).trans (ext_same sp)
        have te : Tabs (T0 K) (upd Hc pp (.tup [.non, .ref y2])) := tabs_same (tabs_same (tabs_same tA sb) sc) sp
        refine unpackA upd_same ?_
        generalize upd Hc pp (.tup [.non, .ref y2]) = He' at *
        refine ⟨_, rfl, rfl, _, rfl, ?_⟩
        refine no_of (decide_eq_false nofun) ?_
        refine ⟨_, rfl, rfl, _, rfl, ?_⟩
        refine no_of rfl ?_
        have nb : ∀ m ∈ [n, u], Nb m := fun m hm => by
          simp only [List.mem_cons, List.not_mem_nil, or_false] at hm
          rcases hm with rfl | rfl
          · exact nbn
          · exact nbu
        refine ⟨_, rfl, y2, ratA K, dy2, _, .int n, rfl, hy2, RC.cl, RC.nN, rfl, _, rfl, y2, ratA K, dy2, _, .int u, rfl, hy2, RC.cl, RC.nU, rfl, (by show 2 ≤ sizeLine; decide), fun q hq => .inr (.inr ⟨q, [n, u], rfl, upd_same, (by show 2 ≤ 1000; decide), nb, _, rfl, .inr (.inr ⟨p, [n, u], rfl, (Same.new hq) _ _ ep2, (by show 2 ≤ 1000; decide), nb, rfl, _, rfl, ?_⟩)⟩)⟩
        refine no_of (by rw [decide_eq_true rfl]; rfl) ?_
        exact ⟨_, _, _, _, _, _, _, _, _, rfl, ((x9.trans (ext_same s10')).trans xe).trans (ext_same (Same.new hq)), tabs_same te (Same.new hq)⟩
      · refine ⟨x, rfl, of_bad RC (vok10.ext xb) neg fun dd Hd sd nd edd => ?_⟩
        refine ⟨_, rfl, Z.exm "BadText" (by decide +kernel), fun e he pp hpp => ?_⟩
        have s2' : Same Hd (upd (upd Hd e (exr e (He.ga K "BadText") (some dd))) pp (.tup [.ref e, .non])) := (Same.new he).trans (Same.new hpp)
        have er : upd (upd Hd e (exr e (He.ga K "BadText") (some dd))) pp (.tup [.ref e, .non]) e = some (exr e (He.ga K "BadText") (some dd)) := by
          rw [upd_ne (ne_of_none upd_same hpp)]
          exact upd_same
        have ed2 := s2' _ _ edd
        refine unpackA upd_same ?_
        generalize upd (upd Hd e (exr e (He.ga K "BadText") (some dd))) pp (.tup [.ref e, .non]) = He' at *
        have xe : ExtN H10 He' := (xb.trans (ext_same sd)).trans (ext_same s2')
        have te : Tabs (T0 K) He' := tabs_same tA ((sb.trans sd).trans s2')
        obtain ⟨txt, tell⟩ := (vok10.ext xe).told
        obtain ⟨fI, _, hC, _⟩ := Z.ini
        have C := hC "BadText" (by decide +kernel)
        have kl : PySem.W.kitOne K (.ref (He.ga K "BadText")) (.ref (He.ga K "BadText")) = some true := (Z.kit "BadText" (by decide +kernel) "BadText" (by decide +kernel)).trans (congrArg some (decide_eq_true rfl))
        refine ⟨_, rfl, rfl, _, rfl, ?_⟩
        refine yes_of (decide_eq_true rfl) ?_
        refine ⟨_, rfl, _, _, _, _, true, rfl, .own _, .inr ⟨e, _, dd, rfl, rfl, C.ex, er, _, ed2⟩, kl, true, rfl, no_of rfl ?_⟩
        refine ⟨_, rfl, e, _, dd, _, x, rfl, C.xf, C.nv, er, ed2, by simp [List.lookup], tell _ ⟨_, rfl, tell _ ⟨rfl, _, rfl, ?_⟩⟩⟩
        refine no_of (by rw [decide_eq_true rfl]; rfl) ?_
        exact ⟨_, _, _, _, _, _, _, _, _, rfl, (x9.trans (ext_same s10')).trans xe, te⟩
  · rintro σ H9 ⟨s2, s3, s4, s5, s6, s7, s8', s9, s10, rfl, x9, t9⟩
    exact k _ (j8.2.2.2.2.2.trans (KeptT.ext x9)) t9
end
end K03

namespace K03
open PySem PySem.Spec PyProof.Rows L2 Lm
open LamX (CodeO TabS Tabs ExtN TabB)
/-! ### the head -/
abbrev dd (x : Str) (s : Stmt) : He.DefD := ⟨(x, none), x, x, defArgs s, defBody s, defScope s, [], []⟩
abbrev dm (m q : Str) (s : Stmt) (dvs : List He.Dv) : He.DefD := ⟨("Ratio", some m), m, q, defArgs s, defBody s, defScope s, dvs, []⟩
def dI : He.DefD := ⟨("MirrorError", some "__init__"), "__init__", "MirrorError.__init__", defArgs s_MirrorError_init, defBody s_MirrorError_init, defScope s_MirrorError_init, [], []⟩
abbrev dfr : He.DefD := ⟨("_law_fr", none), "_law_fr", "_law_fr", defArgs s_law_fr, defBody s_law_fr, defScope s_law_fr, [.int 1], []⟩
def fn : List He.DefD := [dI,
  dm "__init__" "Ratio.__init__" s_Ratio_init [.int 1],
  dm "__repr__" "Ratio.__repr__" s_Ratio_repr [],
  dm "__eq__" "Ratio.__eq__" s_Ratio_eq [],
  dd "is_whole" s_is_whole,
  dd "is_figures" s_is_figures,
  dd "figures_of" s_figures_of,
  dd "integer_of" s_integer_of,
  dd "text_of" s_text_of,
  dd "_law_pot" s_law_pot,
  dd "_law_take" s_law_take,
  dd "_law_of" s_law_of,
  dd "_law_cells" s_law_cells,
  dd "_law_told" s_law_told,
  dd "_law_odd" s_law_odd,
  dd "_law_gcd" s_law_gcd,
  dfr,
  dd "_law_fr_text" s_law_fr_text,
  dd "_law_whole" s_law_whole,
  dd "_law_fraction_in" s_law_fraction_in,
  dd "_law_made" s_law_made,
  dd "_law_spoilt" s_law_spoilt,
  dd "_law_right" s_law_right,
  dd "law" s_law]
def gloNames : List Str := ["MirrorError", "BadRatio", "BadText", "Ratio", "is_whole", "is_figures", "figures_of", "integer_of", "text_of", "_law_pot", "_law_take", "_law_of", "_law_cells", "_law_told", "_law_odd", "_law_gcd", "_law_fr", "_law_fr_text", "_law_whole", "_law_fraction_in", "_law_made", "_law_spoilt", "_law_right", "law"]
def looseNames : List Str := ["_wall", "is_whole", "MirrorError", "BadRatio", "BadText", "WIDTH", "BLOCK", "is_figures", "figures_of", "integer_of", "Ratio", "is_number", "terms_of", "text_of", "_law_pot", "_law_take", "_law_of", "_law_cells", "_law_told", "_law_odd", "_law_gcd", "_law_fr", "_law_fr_text", "_law_whole", "_law_fraction_in", "_law_made", "_law_spoilt", "_law_right"]
def clsFa : List He.Fa := [.int "WIDTH" 64, .int "BLOCK" (10 ^ 64), .free "divmod", .cls "Ratio", .noat "Ratio" "number", .noat "Ratio" "under", .noat "Ratio" "text", .meth "Ratio" "__repr__", .meth "Ratio" "__eq__", .mkr "Ratio"]
def fa : List He.Fa := gloNames.map He.Fa.glo ++ (freeNames.map He.Fa.free ++ clsFa)
def exB (K : PySem.W.Frag) : Bool := errLB K errs && (ratB K && (He.eqO (PySem.W.nsIn K mainGlobals "gcd") (some (some (.builtin "math.gcd"))) && (stB K "Ratio" "of" && okAt K (stA K "Ratio" "of") "Ratio.of")))
def ofV : He.FnW := some ("of", "Ratio.of", defArgs s_Ratio_of, FuncBody.stmts (defBody s_Ratio_of), defScope s_Ratio_of, mainGlobals, [], builtinsNs)
abbrev R : PySem.W.OpenRow := PySem.W.OpenLaw.row PySem.Challenge.rw_loosemirrors_k03_texts_of_ratios
abbrev hk : PySem.W.Hook := hookS 6 fa fn [] [pR] exB "Ratio" "of" ofV
def ob (s : PySem.W.SharedT) : He.AlX × (Bool × He.FnW) := (obsS 6 fa fn [] [pR] exB (HandSHeadRun.getT s), modsB (HandSHeadRun.getT s), fnAt (frS (HandSHeadRun.getT s) 6) (stA (frS (HandSHeadRun.getT s) 6) "Ratio" "of"))
theorem ob_eq (s : PySem.W.SharedT) : ob s = hk.obs s.abs := by
  have e : HandSHeadRun.getT s = s.abs.heap.get? := funext (HandSHeadRun.getT_eq s)
  unfold ob
  rw [e] <;> rfl
theorem run (w : World) : HandSHeadRun.RunEqI R (PySem.W.view R.prog [0, 34]) hk ob 40000 looseNames w := by
  unfold HandSHeadRun.RunEqI
  kernel_rfl
theorem facts {P : Program} {w : World} {K : PySem.W.Frag} {h : Heap} {mg : Str → Option Value} {f : Addr} (X : K.In h) (G : h.Ns mainGlobals mg) (hfa : mg ("law" : Str) = some (.ref f)) (c : He.SaysD fa fn K) (hx : exB K = true) (hof : fnAt K (stA K "Ratio" "of") = ofV) :
    ∃ fd : FuncData, (∀ (s : Shared) (v : Value), BindsTo s fd ⟨[v], []⟩ [("script", v)]) ∧ ∀ base : Heap, LawHeap K mg base → (∀ p ∈ [He.cT K pR], TabB base mg p.1 p.2) → FnG P w K mg base CX0 10 f fd ["script"] (spLawT K (T0 K)) := by
  have gl : ∀ {x : Str}, x ∈ gloNames → mg x = some (.ref (He.ga K x)) := fun {x} hx => He.glo_ok X G (c.facts (by
    unfold fa
    exact List.mem_append_left _ (List.mem_map.mpr ⟨x, hx, rfl⟩)))
  have fr : ∀ {x : Str}, x ∈ freeNames → mg x = none := fun {x} hx => He.free_ok X G (c.facts (by
    unfold fa
    exact List.mem_append_right _ (List.mem_append_left _ (List.mem_map.mpr ⟨x, hx, rfl⟩))))
  have cf : ∀ {y : He.Fa} (i : Nat), clsFa[i]? = some y → y.ok K = true := fun {y} i hy => c.facts (by
    unfold fa
    exact List.mem_append_right _ (List.mem_append_right _ (List.mem_of_getElem? hy)))
  obtain ⟨hx1, hx2⟩ := He.ba hx
  obtain ⟨hx2, hx3⟩ := He.ba hx2
  obtain ⟨hx3, hx4⟩ := He.ba hx3
  obtain ⟨hx5, hx6⟩ := He.ba hx4
  have GC : mg "gcd" = some (.builtin "math.gcd") := PySem.W.mg_of X G (He.eqO_ok hx3)
  obtain ⟨CR, SM⟩ := stB_ok hx5 (He.ba hx6).1
  obtain ⟨fdO, FO⟩ := funS hof hx6
  obtain ⟨fd0, F0⟩ := c.def_ 0 (d := dI) rfl
  obtain ⟨fd1, F1⟩ := c.def_ 1 (d := dm "__init__" "Ratio.__init__" s_Ratio_init [.int 1]) rfl
  obtain ⟨fd2, F2⟩ := c.def_ 2 (d := dm "__repr__" "Ratio.__repr__" s_Ratio_repr []) rfl
  obtain ⟨fd3, F3⟩ := c.def_ 3 (d := dm "__eq__" "Ratio.__eq__" s_Ratio_eq []) rfl
  obtain ⟨fd4, F4⟩ := c.def_ 4 (d := dd "is_whole" s_is_whole) rfl
  obtain ⟨fd5, F5⟩ := c.def_ 5 (d := dd "is_figures" s_is_figures) rfl
  obtain ⟨fd6, F6⟩ := c.def_ 6 (d := dd "figures_of" s_figures_of) rfl
  obtain ⟨fd7, F7⟩ := c.def_ 7 (d := dd "integer_of" s_integer_of) rfl
  obtain ⟨fd8, F8⟩ := c.def_ 8 (d := dd "text_of" s_text_of) rfl
  obtain ⟨fd9, F9⟩ := c.def_ 9 (d := dd "_law_pot" s_law_pot) rfl
  obtain ⟨fd10, F10⟩ := c.def_ 10 (d := dd "_law_take" s_law_take) rfl
  obtain ⟨fd11, F11⟩ := c.def_ 11 (d := dd "_law_of" s_law_of) rfl
  obtain ⟨fd12, F12⟩ := c.def_ 12 (d := dd "_law_cells" s_law_cells) rfl
  obtain ⟨fd13, F13⟩ := c.def_ 13 (d := dd "_law_told" s_law_told) rfl
  obtain ⟨fd14, F14⟩ := c.def_ 14 (d := dd "_law_odd" s_law_odd) rfl
  obtain ⟨fd15, F15⟩ := c.def_ 15 (d := dd "_law_gcd" s_law_gcd) rfl
  obtain ⟨fd16, F16⟩ := c.def_ 16 (d := dfr) rfl
  obtain ⟨fd17, F17⟩ := c.def_ 17 (d := dd "_law_fr_text" s_law_fr_text) rfl
  obtain ⟨fd18, F18⟩ := c.def_ 18 (d := dd "_law_whole" s_law_whole) rfl
  obtain ⟨fd19, F19⟩ := c.def_ 19 (d := dd "_law_fraction_in" s_law_fraction_in) rfl
  obtain ⟨fd20, F20⟩ := c.def_ 20 (d := dd "_law_made" s_law_made) rfl
  obtain ⟨fd21, F21⟩ := c.def_ 21 (d := dd "_law_spoilt" s_law_spoilt) rfl
  obtain ⟨fd22, F22⟩ := c.def_ 22 (d := dd "_law_right" s_law_right) rfl
  obtain ⟨fd23, F23⟩ := c.def_ 23 (d := dd "law" s_law) rfl
  have e := hfa.symm.trans (gl (x := "law") (by decide +kernel))
  cases e
  have b := FunD.bindsA (ps := ["script"]) F23 fun _ _ _ _ _ _ us hl => match us, hl with | [_], _ => rfl
  have bI := FunD.bindsN (ps := ["self", "value"]) F0 fun _ _ _ _ _ _ us hl => match us, hl with | [_, _], _ => rfl
  have bO := FunD.bindsN (ps := ["text"]) FO fun _ _ _ _ _ _ us hl => match us, hl with | [_], _ => rfl
  have b2 := FunD.bindsN (ps := ["self"]) F2 fun _ _ _ _ _ _ us hl => match us, hl with | [_], _ => rfl
  have b3 := FunD.bindsN (ps := ["self", "other"]) F3 fun _ _ _ _ _ _ us hl => match us, hl with | [_, _], _ => rfl
  obtain ⟨ds2, v2, b2'⟩ := F1.binds1 (ps := ["self", "number", "under"]) 3 1 (List.cons_ne_nil _ _) rfl fun T kV doc pm an cdv ct us its hl hi => match us, its, hl, hi with | [_, _, _], [_], _, _ => ⟨_, rfl, rfl⟩
  obtain ⟨ds1, v1, b1'⟩ := F1.binds1 (ps := ["self", "number", "under"]) 2 0 (List.cons_ne_nil _ _) rfl fun T kV doc pm an cdv ct us its hl hi => match us, its, hl, hi with | [_, _], [_], _, _ => ⟨_, rfl, rfl⟩
  refine ⟨fd23, fun s v => b s [v] rfl, fun base LH TBs => ?_⟩
  have T : Bl mg base := bl_of fr LH.mods
  have W64 : ∃ u, mg "WIDTH" = some u ∧ RelV (.int 64) u := by
    obtain ⟨t, ht⟩ := He.int_ok X G (cf (y := .int "WIDTH" 64) 0 rfl)
    exact ⟨_, ht, t, rfl⟩
  have B64 : ∃ u, mg "BLOCK" = some u ∧ RelV (.int (10 ^ 64)) u := by
    obtain ⟨t, ht⟩ := He.int_ok X G (cf (y := .int "BLOCK" (10 ^ 64)) 1 rfl)
    exact ⟨_, ht, t, rfl⟩
  have DM : mg "divmod" = none := He.free_ok X G (cf (y := .free "divmod") 2 rfl)
  have RC : RatC K mg := ratB_ok hx2 (gl (by decide +kernel)) (He.cls_ok (cf (y := .cls "Ratio") 3 rfl)) (He.noat_ok (cf (y := .noat "Ratio" "number") 4 rfl)) (He.noat_ok (cf (y := .noat "Ratio" "under") 5 rfl)) (He.noat_ok (cf (y := .noat "Ratio" "text") 6 rfl))
  have Z : ErrL P w K mg base errs := errLB_ok hx1 (fun {x} hx => gl (by
    have z : ∀ x ∈ errs, x ∈ gloNames := by decide +kernel
    exact z x hx)) (gl (by decide +kernel)) (ok_err_init F0) bI
  have m2 := He.meth_ok (cf (y := .meth "Ratio" "__repr__") 7 rfl)
  have m3 := He.meth_ok (cf (y := .meth "Ratio" "__eq__") 8 rfl)
  have mk := He.mkr_ok (cf (y := .mkr "Ratio") 9 rfl)
  have cwhole := ok_whole (P := P) (w := w) F4 (gl (by decide +kernel)) T
  have cfigs := ok_figs (P := P) (w := w) F5 (gl (by decide +kernel)) T
  have cfig := ok_figures (P := P) (w := w) F6 (gl (by decide +kernel)) T W64 B64 DM
  have cint := ok_int (P := P) (w := w) F7 (gl (by decide +kernel)) T LH.digits W64 B64
  have ctext := ok_rtext (P := P) (w := w) F8 (gl (by decide +kernel)) T cfig
  have fI := ok_rinit F1 T RC Z GC cwhole ctext
  have fR := ok_rrepr (P := P) (w := w) (base := base) F2 RC
  have fE := ok_req (P := P) (w := w) F3 T RC
  have mk2 : MakD P w K mg base 3 "Ratio" (ratA K) (spRInit K) [] := ⟨_, _, _, ds2, mk, fI, gl (by decide +kernel), b2', v2⟩
  have mk1 : MakD P w K mg base 3 "Ratio" (ratA K) (spRInit K) [.int 1] := ⟨_, _, _, ds1, mk, fI, gl (by decide +kernel), b1', v1⟩
  have DE : OpD K (ratA K) "__eq__" _ := ⟨m3.at_, m3.fn, RC.first⟩
  have fO := ok_rof (P := P) (w := w) FO T RC Z mk2 cfigs cint
  have cpot := ok_pot (P := P) (w := w) F9 (gl (by decide +kernel)) T
  have ctake := ok_take (P := P) (w := w) F10 (gl (by decide +kernel)) T
  have cof := ok_of F11 (gl (by decide +kernel)) T ctake
  have ccells := ok_cells (P := P) (w := w) F12 (gl (by decide +kernel)) T
  have ctold := ok_told (P := P) (w := w) (j := 6) F13 (gl (by decide +kernel)) Z
  have codd := ok_odd F14 (gl (by decide +kernel)) T cof
  have cgcd := ok_gcd (P := P) (w := w) F15 (gl (by decide +kernel)) T
  have cfr := ok_fr F16 (gl (by decide +kernel)) T cgcd
  have cfrt := ok_frtext (P := P) (w := w) F17 (gl (by decide +kernel)) T
  have cwhl := ok_whl (P := P) (w := w) F18 (gl (by decide +kernel)) T LH.digits
  have cfin := ok_fin F19 (gl (by decide +kernel)) T cwhl cfr
  have cmade := ok_made F20 (gl (by decide +kernel)) T mk2
  have cspoil := ok_spoilt F21 (gl (by decide +kernel)) T ctake cof
  have cright := ok_right F22 (gl (by decide +kernel)) T LH.digits RC Z (TBs _ (List.mem_singleton.mpr rfl)) m2 fR b2 DE fE b3 CR SM fO bO cof ctake cfr cfrt cmade cspoil codd cfin ctold mk1
  exact ok_law F23 hfa T cpot ccells cright
end K03
open PySem PySem.W PySem.Calls PyProof.Rows
theorem PySem.Challenge.cw_loosemirrors_k03_texts_of_ratios_holds : PySem.Challenge.rw_loosemirrors_k03_texts_of_ratios.Holds := by
  w_on; o_law
  refine HandSHeadRun.head_imp (r := OpenLaw.row PySem.Challenge.rw_loosemirrors_k03_texts_of_ratios) (q := view (OpenLaw.row PySem.Challenge.rw_loosemirrors_k03_texts_of_ratios).prog [0, 34]) (H := K03.hk) (ob := K03.ob) (M := 40000) (loose := K03.looseNames) (d := HandSHeadRun.topDef (OpenLaw.row PySem.Challenge.rw_loosemirrors_k03_texts_of_ratios).prog 34) (kwd := []) K03.ob_eq
    K03.run (by kernel_rfl) (by kernel_rfl) (by kernel_rfl) (by rfl) (by first | assumption | decide +kernel) (by decide +kernel) ⟨rfl, rfl, rfl, rfl, rfl, by decide +kernel⟩ ?hw ?hc
  case hw => w_witness2
  case hc =>
    refine Lm.walkTI (l := PySem.Challenge.rw_loosemirrors_k03_texts_of_ratios) (n := 63) (k := 10) (x := "script") rfl (by decide) (by kernel_rfl) ⟨rfl, by decide, by decide⟩ (fun w h y => y.2) ?F
    intro w mg fa h Y G hmg0
    obtain ⟨⟨K, KX, c, hof⟩, _⟩ := Y
    have hmg : mg ("law" : PySem.Str) = some (.ref fa) := by
      have e : (HandSHeadRun.topDef (OpenLaw.row PySem.Challenge.rw_loosemirrors_k03_texts_of_ratios).prog 34).name = ("law" : PySem.Str) := by kernel_rfl
      rw [← e]
      exact hmg0
    obtain ⟨fd, hb, hF⟩ := K03.facts (P := (PySem.Challenge.rw_loosemirrors_k03_texts_of_ratios).prog) (w := w) KX G hmg c.t.d c.more hof
    have one : ∀ p ∈ [He.cT K K03.pR], p = He.cT K K03.pR := fun p hp => List.mem_singleton.mp hp
    have me : K03.pR ∈ [K03.pR] := List.mem_singleton.mpr rfl
    exact ⟨K, fd, [He.cT K K03.pR], Lm.spLawT K (K03.T0 K), KX, fun p hp => by rw [one p hp]; exact c.empty _ me, fun p hp => by rw [one p hp]; exact c.out _ me, fun p hp => by rw [one p hp]; exact PySem.W.codeHd_of_K KX (c.hd _ me), hb,
      fun H a ns hl hT hS => ⟨a, ns, rfl, hS, hl, fun p hp => by rw [List.mem_singleton.mp hp]; exact LamX.TabS.nil (hT _ (List.mem_singleton.mpr rfl)), fun _ => rfl⟩, hF⟩
