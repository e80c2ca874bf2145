import PyProof.Rows.All
import Wide.All
import OpenK.AllK
import Wide.FinOn
import HandS.ForMost
import HandS.ForExc
import HandS.ExcInit
import HandS.ExcValue
import HandS.ExcIs
import HandS.IsInst
import HandS.Defaults
import HandS.Conv
import HandS.Wide
import HandS.HeadHook4
import HandS.HeadWalk
import HandS.Head2
import HandS.ExcField
import HandS.Codes
import PySem.Challenge.RW_loosemirrors_k00_errors_keep_their_value
set_option Elab.async false
set_option linter.all false
set_option maxRecDepth 100000
set_option maxHeartbeats 2000000
namespace Lm
open PySem PySem.Spec PyProof.Rows L2

/-! ## Defs that are entered where no repr of a container is under way -/
section
variable {P : Program} {w : World} {K : PySem.W.Frag} {mg : Str → Option Value} {base : Heap} {CX : CXT} {k : Nat} {f : Addr} {fd : FuncData} {ps : List Str} {sp : Sp}

/-- as the layer's promise of a def, but of entries where nothing guards against going round -/
structure FnG (P : Program) (w : World) (K : PySem.W.Frag) (mg : Str → Option Value) (base : Heap) (CX : CXT) (k : Nat) (f : Addr) (fd : FuncData) (ps : List Str) (sp : Sp) : Prop where
  many : ∀ vs H Q E, sp vs H Q E → vs.length = ps.length
  goes : ∀ (A : Around) (outer : List Env) (s : Shared) (H : Hp) (args : Args) (us : List Value) (vs : List V) (Q : VK) (E : XK), A.guards = some [] → Room k A →
    Env0 P w K mg base A outer s H → BindsTo s fd args (ps.zip us) → Vals vs us → sp vs H Q E → codeAny (model P w) A (.call (.ref f) args) (CR CX outer P w H s Q E) s

theorem FnG.of (F : FnOk P w K mg base CX k f fd ps sp) : FnG P w K mg base CX k f fd ps sp :=
  ⟨F.len, fun A outer s H args us vs Q E _ hr => F.run A outer s H args us vs Q E hr⟩

/-- such a def by its body -/
theorem FnG.made {x qual : Str} {params : Arguments} {body : List Stmt} {scope : Scope} {dvs : List V} {kws : List (Str × V)} {N : List Str}
    (F : FunD K x qual params body scope dvs kws f fd) (S : FnScope N ps scope) (many : ∀ vs H Q E, sp vs H Q E → vs.length = ps.length)
    (walk : ∀ (cdv : Value) (A : Around) (outer : List Env) (s : Shared) (H : Hp) (vs : List V) (Q : VK) (E : XK), A.guards = some [] → Room k (A.deeper (envOfC qual scope s.heap.objs.size f cdv)) → sp vs H Q E →
      ∃ t, PSs (cxOf CX P w K mg base N qual scope f cdv A outer s H E) body t ∧ t { nx := fun _ H' => Q .non H', rt := Q } (start N vs) H) :
    FnG P w K mg base CX (k + 1) f fd ps sp := by
  obtain ⟨oc, od, dV, kV, doc, pm, an, cdv, ct, osl, rfl, look, code, _, _⟩ := F.ex
  refine ⟨many, fun A outer s H args us vs Q E hgd hr e0 hb r hsp => ?_⟩
  have old : ∀ b o, base.get? b = some o → s.heap.get? b = some o := fun b o e => (e0.bs b o e).1
  have KX : K.In s.heap := e0.mod.kin.keeps old
  have kinds : ∀ y ∈ ps.zip us, scope.names.lookup y.1 = some .local ∨ (scope.names.lookup y.1 = some .cell ∧ ((cellsFrom (s.heap.objs.size + 1) scope.names []).lookup y.1).isSome = true) := by
    rintro ⟨n, v⟩ hy
    rcases S.par n (List.of_mem_zip hy).1 with q | q
    · exact Or.inl q
    · exact Or.inr ⟨q, PySem.W.cellsFrom_some _ _ _ (Or.inl q)⟩
  refine codeAny_call_function hr.depth (KX _ _ look) rfl S.co S.gen rfl (PySem.W.codeRec_of KX code) (hb _ _ _ _ ?_)
  refine wpAny_newFunctionEnv_cells S.kind kinds fun env he s1 x => ?_
  subst he
  refine ⟨(e0.mod.nolimit.keeps old).keeps x.toInCall.keep, codeAny_func ?_⟩
  obtain ⟨t, ht, hq⟩ := walk cdv A outer s H vs Q E hgd (hr.deeper _) hsp
  have I : Inv (cxOf CX P w K mg base N qual scope f cdv A outer s H E) [] (start N vs) H s1 := inv_start S hr.hd e0 (many _ _ _ _ hsp) r x
  refine wpAny_mono (ht.run [] s1 (start N vs) H _ I hq) (fun fl s' hs => ?_) fun e s' hs => hs
  match fl, hs with
  | .ret u, ⟨v, σ', H', J, rv, q⟩ => exact ⟨v, H', J.os, J.bare, J.base, J.hok, rv, q⟩
  | .next, ⟨σ', H', J, q⟩ => exact ⟨V.non, H', J.os, J.bare, J.base, J.hok, rfl, q⟩
  | .brk, ⟨_, _, _, q⟩ => exact q.elim
  | .cont, ⟨_, _, _, q⟩ => exact q.elim
end

section
variable {X : Cx} {CX : CXT} {k : Nat} {f : Addr} {fd : FuncData} {ps : List Str} {sp : Sp} {dvs : List V} {ds : List Value} {E : XK}
theorem FnG.call {pins : List (Addr × Obj)} {σ : L2.St} {H : Hp} {s : Shared} {Q : VK} {us : List Value} {vs : List V} (F : FnG X.prog X.w X.K X.mg X.base CX k f fd ps sp) (gd : X.A.guards = some []) (hr : Room k X.A) (hb : Binds X.K fd ps ds) (hd : Vals dvs ds)
    (hx : Passes CX X E) (I : Inv X pins σ H s) (r : Vals vs us) (h : sp (vs ++ dvs) H Q E) : wpAny (model X.prog X.w) X.A (PySem.call (.ref f) us) (EP X pins σ Q) X.xe s := by
  have all : Vals (vs ++ dvs) (us ++ ds) := r.append hd
  have n : (us ++ ds).length = ps.length := all.length.symm.trans (F.many _ _ _ _ h)
  refine wpAny_call (codeAny_mono (F.goes X.A X.stack s H ⟨us, []⟩ (us ++ ds) (vs ++ dvs) Q E gd hr I.env0 (hb s us I.kIn n) all h) fun r s' hq => ?_)
  match r, hq with
  | .error e, hq => exact hx pins σ H s e s' I hq
  | .ok (.ret u), hq => exact I.after hq
  | .ok .next, hq => exact False.elim hq
  | .ok .brk, hq => exact False.elim hq
  | .ok .cont, hq => exact False.elim hq
/-- f(e, ..), f such a def -/
theorem pe_callG {x : Str} {p pos : Pos} {e : Expr} {es : List Expr} {t : TA} (F : FnG X.prog X.w X.K X.mg X.base CX k f fd ps sp) (gd : X.A.guards = some []) (hr : Room k X.A) (hg : Gl X x) (hm : X.mg x = some (.ref f))
    (hk : PySem.W.keepIn X.K (.ref f) = true) (hb : Binds X.K fd ps ds) (hd : Vals dvs ds) (hx : Passes CX X E) (ha : PA X (e :: es) t) (hdb : (x == ("__debug__" : Str)) = false := by decide)
    (he : starEach (e :: es) X.env = (false, eval e X.env) :: starEach es X.env := by rfl) (hpl : (backTo pos (starEach es X.env)).any (·.1) = false := by rfl) :
    PE X (.Call (.Name x p) (e :: es) [] pos) (tCall sp dvs E t) :=
  ⟨fun pins s σ H Q I h => wpAny_Call_Name_kw (ld_glob I hg hm (PySem.W.callWith_K (h₀ := X.base) I.ok.mod.kin hk
    (thn (ha.run pos pins s σ H _ I h) fun us s1 ⟨vs, H1, I1, r, q⟩ => ⟨I1.kIn, F.call gd hr hb hd hx I1 r q⟩) he hpl) hdb)⟩
end

/-! ## The end of a law: it is called where nothing runs -/
section
variable {P : Program} {w : World} {K : PySem.W.Frag} {mg mb : Str → Option Value} {CX : CXT} {k : Nat} {fa a : Addr} {fd : FuncData} {x : Str} {sp : Sp} {s₁ : Shared} {vs : List Value} {ns : List Int}
abbrev LawEnd (s₁ : Shared) (r : Result) (s' : Shared) : Prop := r = .ok (.ret (.bool true)) ∧ OldK s₁.heap s'.heap ∧ s'.os = s₁.os ∧ AllBare s'.gens
/-- what is fixed of the heap that a law starts at -/
structure LawHeap (K : PySem.W.Frag) (mg : Str → Option Value) (base : Heap) : Prop where
  kin : K.In base
  glob : base.Ns mainGlobals mg
  mods : ∃ mm, base.Ns sysModules mm
/-- from the heap that tracks the script alone (or nothing) -/
theorem lawG_core (H : Hp) (KX : K.In s₁.heap) (hns : s₁.heap.Ns mainGlobals mg) (hb : s₁.heap.Ns builtinsNs mb) (hbb : ∀ x : Str, x ≠ "__name__" → mb x = bootBuiltins x) (hlim : s₁.heap.NoLimit) (hmo : ∃ mm, s₁.heap.Ns sysModules mm) (hg : s₁.gens = #[])
    (ha : s₁.heap.get? a = some { cls := .type "list", data := .seq vs.toArray }) (hr : Room k callerA) (F : ∀ base : Heap, LawHeap K mg base → FnG P w K mg base CX k fa fd [x] sp)
    (hbind : ∀ (s : Shared) (u : Value), BindsTo s fd ⟨[u], []⟩ [(x, u)]) (hsp : sp [.ref a] H (fun v _ => v = .bl true) fun _ _ _ => False) (hCX : ∀ H e s', CX [] H s₁ (fun _ _ _ => False) e s' → False)
    (hO : Only H) (hok : HOk P w H s₁.heap) (one : ∀ b, H b ≠ none → b = a ∧ K.lookup a = none) : codeAny (model P w) callerA (.call (.ref fa) ⟨[.ref a], []⟩) (LawEnd s₁) s₁ := by
  have some_ : ∀ {b : Addr} {u : HO}, H b = some u → b = a ∧ K.lookup a = none := fun {b u} q => one b (by rw [q]; exact fun z => nomatch z)
  have free : ∀ {b : Addr}, (∀ u, H b ≠ some u) → H b = none := fun {b} n => by
    cases q : H b with
    | none => rfl
    | some u => exact absurd q (n u)
  have ns_ : ∀ {b : Addr} {m : Str → Option Value}, s₁.heap.Ns b m → (hidT s₁.heap H).Ns b m := by
    rintro b m ⟨o, es, ep, e, d, r⟩
    refine ⟨o, es, ep, hidT_get e (free fun u q => ?_), d, r⟩
    rw [(some_ q).1, ha] at e
    cases e
    cases d
  have kin : K.In (hidT s₁.heap H) := fun b o e => hidT_get (KX b o e) (free fun u q => by
    have z := some_ q
    rw [z.1, z.2] at e
    cases e)
  have base : LawHeap K mg (hidT s₁.heap H) := ⟨kin, ns_ hns, let ⟨mm, h⟩ := hmo; ⟨mm, ns_ h⟩⟩
  have e0 : Env0 P w K mg (hidT s₁.heap H) callerA [] s₁ H := ⟨rfl, ⟨kin, base.glob, ⟨mb, ns_ hb, hbb⟩, let ⟨mc, h1, h2⟩ := hlim; ⟨mc, ns_ h1, h2⟩⟩, fun b o e => of_hidT e, Nat.le_of_eq (hidT_size _ _), trivial, fun b hb => absurd (show b ∈ ([] : List Addr) from hb) (by simp), hok, .of_eq hg⟩
  refine codeAny_mono ((F _ base).goes callerA [] s₁ H ⟨[.ref a], []⟩ [.ref a] [.ref a] _ _ rfl hr e0 (hbind s₁ (.ref a)) (.cons rfl .nil) hsp) fun r s' h => ?_
  match r, h with
  | .error e, h => exact (hCX H e s' h).elim
  | .ok .next, h => exact False.elim h
  | .ok .brk, h => exact False.elim h
  | .ok .cont, h => exact False.elim h
  | .ok (.ret u), ⟨v, H', os, bare, un, hok', r', q⟩ =>
    obtain rfl : v = .bl true := q
    obtain rfl : u = Value.bool true := r'
    refine ⟨rfl, OldK.of_keep fun b o e => ?_, os, bare⟩
    rcases hO b with z | ⟨oz, xs, z⟩
    · exact un.keep b o e z (fun h => absurd (show b ∈ ([] : List Addr) from h) (by simp)) (by simp)
    · have e1 := (hok b _ z).1
      have e2 := (hok' b _ (un.frzs b _ _ z)).1
      rw [e] at e1
      cases e1
      exact e2
theorem lawG_call (KX : K.In s₁.heap) (hns : s₁.heap.Ns mainGlobals mg) (hb : s₁.heap.Ns builtinsNs mb) (hbb : ∀ x : Str, x ≠ "__name__" → mb x = bootBuiltins x) (hlim : s₁.heap.NoLimit) (hmo : ∃ mm, s₁.heap.Ns sysModules mm) (hg : s₁.gens = #[])
    (ha : s₁.heap.get? a = some { cls := .type "list", data := .seq vs.toArray }) (hi : IntsAre vs ns) (hl : ns.length ≤ sizeLine) (hr : Room k callerA) (F : ∀ base : Heap, LawHeap K mg base → FnG P w K mg base CX k fa fd [x] sp)
    (hbind : ∀ (s : Shared) (u : Value), BindsTo s fd ⟨[u], []⟩ [(x, u)]) (hsp : ∀ H : Hp, Only H → SqL K H a (ns.map V.int) → sp [.ref a] H (fun v _ => v = .bl true) fun _ _ _ => False)
    (hCX : ∀ H e s', CX [] H s₁ (fun _ _ _ => False) e s' → False) : codeAny (model P w) callerA (.call (.ref fa) ⟨[.ref a], []⟩) (LawEnd s₁) s₁ := by
  have rv := vals_ints hi
  cases hk : K.lookup a with
  | some o =>
    have e := KX a o hk
    rw [ha] at e
    cases e
    have hS : SqL K (fun _ => none) a (ns.map V.int) := .inr ⟨_, vs.toArray, _, hk, rfl, rfl, rfl, by rw [List.size_toArray, hi.length]; exact hl, by simpa using rv⟩
    exact lawG_core (fun _ => none) KX hns hb hbb hlim hmo hg ha hr F hbind (hsp _ (fun _ => .inl rfl) hS) hCX (fun _ => .inl rfl) (fun b u z => nomatch (show (none : Option HO) = some u from z)) fun b z => absurd rfl z
  | none =>
    have at_ : ∀ b, (fun b => if b = a then some (HO.frz { cls := .type "list", data := .seq vs.toArray } (.lst (ns.map V.int))) else none : Hp) b = none ∨ b = a := fun b => by
      by_cases hb : b = a
      · exact .inr hb
      · exact .inl (if_neg hb)
    have hO : Only fun b => if b = a then some (HO.frz { cls := .type "list", data := .seq vs.toArray } (.lst (ns.map V.int))) else none := fun b => by
      rcases at_ b with z | z
      · exact .inl z
      · exact .inr ⟨_, _, if_pos z⟩
    refine lawG_core _ KX hns hb hbb hlim hmo hg ha hr F hbind (hsp _ hO (.inl (.inr ⟨_, if_pos rfl⟩))) hCX hO (fun b u z => ?_) fun b z => ⟨(at_ b).resolve_left z, hk⟩
    rcases at_ b with y | y
    · cases y.symm.trans z
    · subst y
      have z' := (if_pos rfl).symm.trans z
      cases z'
      exact ⟨ha, by rw [List.length_map]; exact hl, vs, _, rv, ha⟩
theorem walkG {l : PySem.W.OpenLaw} {n k : Nat} {q : Program} {loose : List Str} {XP : (Str → Option Value) → Heap → Prop} {YP : World → Heap → Prop} {d : DefRec} {CX : CXT} {x : Str}
    (hn : l.most = some n) (hn2 : n ≤ sizeLine) (hdf : d.params.defaults = []) (hr : Room k callerA) (him : importsNone q = true)
    (F : ∀ (w : World) (mg : Str → Option Value) (fa : Addr) (h : Heap), YP w h → h.Ns mainGlobals mg → mg d.name = some (.ref fa) →
      ∃ (K : PySem.W.Frag) (fd : FuncData) (sp : Sp), K.In h ∧ (∀ (s : Shared) (u : Value), BindsTo s fd ⟨[u], []⟩ [(x, u)]) ∧
        (∀ (H : Hp) (a : Addr) (ns : List Int), ns.length ≤ n → Only H → SqL K H a (ns.map V.int) → sp [.ref a] H (fun v _ => v = .bl true) fun _ _ _ => False) ∧
        ∀ base : Heap, LawHeap K mg base → FnG l.prog w K mg base CX k fa fd [x] sp)
    (hCX : ∀ (H : Hp) (s : Shared) (e : Value) (s' : Shared), CX [] H s (fun _ _ _ => False) e s' → False) :
    PySem.W.WalkO q loose XP YP l.row.toRowW d [] (fun f vs => PySem.call f vs) := by
  refine Att.attach_call hn hdf fun w s₀ s₁ mg mb fa o pm cd doc a vs ns G Y ho hd hcd hmg hobj hints hlen hg => ?_
  obtain ⟨K, fd, sp, KX, hb, hsp, hF⟩ := F w mg fa _ Y G.T.g hmg
  obtain ⟨mm, hmm, _⟩ := (G.T.seer him).mods
  exact lawG_call KX G.T.g G.T.b G.T.builtins G.T.nolimit ⟨mm, hmm⟩ hg hobj hints (Nat.le_trans hlen hn2) hr hF hb (fun H hO hS => hsp H a ns hlen hO hS) fun H e s' => hCX H s₁ e s'
end
end Lm

namespace Lm
open PySem PySem.Spec PyProof.Rows L2

/-! ## repr of data: none, bools, ints, texts, lists, tuples, dicts that the abstract heap tracks -/
def keyD : Key → PyData
  | .inl i => .int i
  | .inr x => .str x
mutual
inductive Dr (H : Hp) : V → PyData → Prop
  | non : Dr H .non .none
  | bl (b : Bool) : Dr H (.bl b) (.bool b)
  | int (i : Int) : Dr H (.int i) (.int i)
  | str (x : Str) : Dr H (.str x) (.str x)
  | lst {a : Addr} {xs : List V} {ds : List PyData} : H a = some (.lst xs) → DrAll H xs ds → Dr H (.ref a) (.list ds)
  | tup {a : Addr} {xs : List V} {ds : List PyData} : H a = some (.tup xs) → DrAll H xs ds → Dr H (.ref a) (.tuple ds)
  | dic {a : Addr} {kvs : List (Key × V)} {ds : List PyData} : H a = some (.dK kvs) → DrAll H (kvs.map (·.2)) ds → Dr H (.ref a) (.dict ((kvs.map fun q => keyD q.1).zip ds))
inductive DrAll (H : Hp) : List V → List PyData → Prop
  | nil : DrAll H [] []
  | cons {v : V} {vs : List V} {d : PyData} {ds : List PyData} : Dr H v d → DrAll H vs ds → DrAll H (v :: vs) (d :: ds)
end
theorem DrAll.length {H : Hp} : ∀ {vs : List V} {ds : List PyData}, DrAll H vs ds → vs.length = ds.length
  | _, _, .nil => rfl
  | _, _, .cons _ t => congrArg (· + 1) t.length
/-- what is tracked as data stays so -/
def Kept (H H' : Hp) : Prop := ∀ a o, H a = some o → H' a = some o
mutual
theorem Dr.keep {H H' : Hp} (k : ∀ (a : Addr) (o : HO), H a = some o → (∃ xs, o = .lst xs) ∨ (∃ xs, o = .tup xs) ∨ (∃ ks, o = .dK ks) → H' a = some o) : ∀ {v : V} {d : PyData}, Dr H v d → Dr H' v d
  | _, _, .non => .non
  | _, _, .bl b => .bl b
  | _, _, .int i => .int i
  | _, _, .str x => .str x
  | _, _, .lst e h => .lst (k _ _ e (.inl ⟨_, rfl⟩)) (DrAll.keep k h)
  | _, _, .tup e h => .tup (k _ _ e (.inr (.inl ⟨_, rfl⟩))) (DrAll.keep k h)
  | _, _, .dic e h => .dic (k _ _ e (.inr (.inr ⟨_, rfl⟩))) (DrAll.keep k h)
theorem DrAll.keep {H H' : Hp} (k : ∀ (a : Addr) (o : HO), H a = some o → (∃ xs, o = .lst xs) ∨ (∃ xs, o = .tup xs) ∨ (∃ ks, o = .dK ks) → H' a = some o) : ∀ {vs : List V} {ds : List PyData}, DrAll H vs ds → DrAll H' vs ds
  | _, _, .nil => .nil
  | _, _, .cons h t => .cons (Dr.keep k h) (DrAll.keep k t)
end
theorem Dr.same {H H' : Hp} {v : V} {d : PyData} (h : Dr H v d) (k : Same H H') : Dr H' v d := h.keep fun a o e _ => k a o e

/-- the keys of a dict, as they stand in the heap -/
theorem keys_read {P : Program} {w : World} {h : Heap} : ∀ {es : List DictEntry} {vs : List (Key × Value)} {kvs : List (Key × V)}, Pairs (mixKind P w) es vs → KV kvs vs →
    ReadsAll h (es.map (·.key)) (kvs.map fun q => keyD q.1) [] ∧ es.map (·.val) = vs.map (·.2) ∧ Vals (kvs.map (·.2)) (vs.map (·.2))
  | _, _, _, .nil, .nil => ⟨.nil, rfl, .nil⟩
  | e :: es, (k, u) :: vs, (k', v) :: kvs, .cons hk hv hp, .cons hr hrs => by
    obtain ⟨i1, i2, i3⟩ := keys_read hp hrs
    have ek : k' = k := hr.1
    have rv : RelV v u := hr.2
    subst ek
    have hev : e.val = u := hv
    refine ⟨?_, by simp only [List.map_cons, hev, i2], .cons rv i3⟩
    have one : Reads h e.key (keyD k') [] := by
      rcases keyIs_shape hk with ⟨i, t, q1, q2⟩ | ⟨x, t, q1, q2⟩
      · rw [q2]
        have q1' : k' = Sum.inl i := q1
        subst q1'
        exact Reads.int i t
      · rw [q2]
        have q1' : k' = Sum.inr x := q1
        subst q1'
        exact Reads.str x t
    exact ReadsAll.cons one i1
section
variable {X : Cx} {pins : List (Addr × Obj)} {σ : L2.St} {H : Hp} {s : Shared}
theorem zip_fst {α β : Type} : ∀ {xs : List α} {ys : List β}, xs.length = ys.length → (xs.zip ys).map (·.1) = xs ∧ (xs.zip ys).map (·.2) = ys
  | [], [], _ => ⟨rfl, rfl⟩
  | x :: xs, y :: ys, h => by
    obtain ⟨h1, h2⟩ := zip_fst (xs := xs) (ys := ys) (by simpa using h)
    exact ⟨by simp only [List.zip_cons_cons, List.map_cons, h1], by simp only [List.zip_cons_cons, List.map_cons, h2]⟩
mutual
theorem Dr.reads (I : Inv X pins σ H s) : ∀ {v : V} {d : PyData} {u : Value}, Dr H v d → RelV v u → ∃ as, Reads s.heap u d as ∧ ∀ b ∈ as, ∃ o, H b = some o
  | _, _, u, .non, r => by
    obtain rfl : u = Value.none := r
    exact ⟨[], .none, by simp⟩
  | _, _, u, .bl b, r => by
    obtain rfl : u = Value.bool b := r
    exact ⟨[], .bool b, by simp⟩
  | _, _, _, .int i, r => by
    obtain ⟨t, rfl⟩ := r
    exact ⟨[], .int i t, by simp⟩
  | _, _, _, .str x, r => by
    obtain ⟨t, rfl⟩ := r
    exact ⟨[], .str x t, by simp⟩
  | _, _, u, .lst (a := a) e h, r => by
    obtain rfl : u = Value.ref a := r
    obtain ⟨_, its, n, rv, ho⟩ := I.hok a _ e
    obtain ⟨as, hr, ha⟩ := DrAll.reads I h rv
    refine ⟨_, Reads.list ho rfl rfl (by simpa using hr), fun b hb => ?_⟩
    rcases List.mem_cons.mp hb with q | q
    · exact ⟨_, by rw [q]; exact e⟩
    · exact ha b q
  | _, _, u, .tup (a := a) e h, r => by
    obtain rfl : u = Value.ref a := r
    obtain ⟨_, its, rv, o, ho, hc, n, hd⟩ := I.hok a _ e
    obtain ⟨as, hr, ha⟩ := DrAll.reads I h rv
    exact ⟨_, Reads.tuple ho hc hd (by simpa using hr), ha⟩
  | _, _, u, .dic (a := a) (kvs := kvs) (ds := ds) e h, r => by
    obtain rfl : u = Value.ref a := r
    obtain ⟨_, _, vs, rel, o, es, ep, ho, hx, hd, _, hp, _⟩ := I.hok a _ e
    obtain ⟨k1, k2, k3⟩ := keys_read (h := s.heap) hp rel
    obtain ⟨as, hr, ha⟩ := DrAll.reads I h k3
    have hl : (kvs.map fun q => keyD q.1).length = ds.length := by
      have := h.length
      simpa using this
    obtain ⟨z1, z2⟩ := zip_fst hl
    refine ⟨_, Reads.dict ho hx.1 hd (as := []) (bs := as) (by rw [z1]; exact k1) (by rw [z2, k2]; exact hr), fun b hb => ?_⟩
    rcases List.mem_cons.mp hb with q | q
    · exact ⟨_, by rw [q]; exact e⟩
    · exact ha b (by simpa using q)
theorem DrAll.reads (I : Inv X pins σ H s) : ∀ {vs : List V} {ds : List PyData} {us : List Value}, DrAll H vs ds → Vals vs us → ∃ as, ReadsAll s.heap us ds as ∧ ∀ b ∈ as, ∃ o, H b = some o
  | _, _, _, .nil, .nil => ⟨[], .nil, by simp⟩
  | _, _, _, .cons h t, .cons r rs => by
    obtain ⟨as, h1, h2⟩ := Dr.reads I h r
    obtain ⟨bs, h3, h4⟩ := DrAll.reads I t rs
    exact ⟨_, .cons h1 h3, fun b hb => (List.mem_append.mp hb).elim (h2 b) (h4 b)⟩
end
/-- the object at a fixed address of the base isn't tracked -/
theorem ns_untracked (I : Inv X pins σ H s) {b : Addr} {m : Str → Option Value} (h : X.base.Ns b m) : H b = none := by
  obtain ⟨o, _, _, e, _⟩ := h
  exact (I.bs b o e).2
/-- what repr tells of data -/
def rReprD : List V → Hp → VK → Prop := fun xs H Q => ∃ v d, xs = [v] ∧ Dr H v d ∧ d.showable = true ∧ d.depth ≤ 60 ∧ d.shown.length ≤ sizeLine ∧ Q (.str d.shown) H
theorem call_reprD (gd : X.A.guards = some []) (hu : X.A.units + 64 < cLine) (hm : ∃ mm, X.base.Ns sysModules mm) : CallR X (.builtin "repr") rReprD := by
  intro pins s σ H xs us Q I r h
  obtain ⟨v, d, rfl, hd, hs, hdep, hz, q⟩ := h
  obtain ⟨u, rfl, ru⟩ := vals1 r
  obtain ⟨mm, hm⟩ := hm
  have hsys := ns_untracked I hm
  obtain ⟨as, hr, ha⟩ := hd.reads I ru
  have hno : sysModules ∉ as := fun hb => by
    obtain ⟨o, ho⟩ := ha _ hb
    rw [hsys] at ho
    cases ho
  have byRef : ∀ a : Addr, u = Value.ref a → wpAny (model X.prog X.w) X.A (call (.builtin "repr") [u]) (EP X pins σ Q) X.xe s := fun a e => by
    subst e
    exact repr_of_reads' hr hs (fun _ => hno) gd (by omega) (fun _ _ z => z) (fun h' t tk k => ⟨.str d.shown, H, I.kept (t' := tk) k, ⟨t, rfl⟩, q⟩) hz
  cases hd with
  | non =>
    obtain rfl : u = Value.none := ru
    exact PySem.P.repr_of_none ⟨.str _, H, I.tok _, ⟨_, rfl⟩, q⟩
  | bl b =>
    obtain rfl : u = Value.bool b := ru
    exact PySem.P.repr_of_bool ⟨.str _, H, I.tok _, ⟨_, rfl⟩, by simpa only [PyData.shown] using q⟩
  | int i =>
    obtain ⟨t, rfl⟩ := ru
    exact PySem.P.repr_of_int (by simpa [PyData.showable] using hs) ⟨.str _, H, I.tok _, ⟨_, rfl⟩, by simpa only [PyData.shown] using q⟩
  | str x =>
    obtain ⟨t, rfl⟩ := ru
    exact PySem.P.repr_of_str ⟨.str _, H, I.tok _, ⟨_, rfl⟩, by simpa only [PyData.shown] using q⟩ (by simpa only [PyData.shown] using hz)
  | lst _ _ => exact byRef _ ru
  | tup _ _ => exact byRef _ ru
  | dic _ _ => exact byRef _ ru
end
end Lm

namespace Lm
open PySem PySem.Spec PyProof.Rows L2

/-! ## Own exceptions as values: made, their fields read, asked for their class -/
/-- C(e, ..), kept as a value; C's __init__ keeps sp -/
def tMkV (C : Addr) (sp : Sp) (ta : TA) : TE := fun σ H Q => ta σ H fun vs H1 => vs.length ≤ 1000 ∧ ∀ a, H1 a = none →
  sp (.ref a :: vs) (upd H1 a (exo a C none)) (fun v H2 => v = .non ∧ Q (.ref a) H2) (fun _ _ _ => False)
section
variable {X : Cx}
theorem pe_oexV {CX : CXT} {x : Str} {e : Expr} {es : List Expr} {p pos : Pos} {C fI : Addr} {k : Nat} {fd : FuncData} {ps : List Str} {sp : Sp} {ta : TA} (T : OexC X.K C) (iC : PySem.W.findIn X.K (.ref C) "__init__" = some (some (.ref fI))) (tI : PySem.W.typeIn X.K (.ref fI) = some (.type "function"))
    (F1 : FnOk X.prog X.w X.K X.mg X.base CX k fI fd ps sp) (hr : Room (k + 1) X.A) (hb : Binds X.K fd ps []) (hx : Passes CX X (fun _ _ _ => False)) (hg : Gl X x) (hm : X.mg x = some (.ref C)) (ha : PA X (e :: es) ta)
    (hdb : (x == ("__debug__" : Str)) = false := by decide) (he : starEach (e :: es) X.env = (false, eval e X.env) :: starEach es X.env := by rfl) (hpl : (backTo pos (starEach es X.env)).any (·.1) = false := by rfl) :
    PE X (.Call (.Name x p) (e :: es) [] pos) (tMkV C sp ta) := by
  refine ⟨fun pins s σ H Q I h => ?_⟩
  obtain ⟨nm, q, N, bs, bm, sn, sub, ab, col, dd, k0, k1, k2, k3, k5, hC, hbm⟩ := T.cls
  refine wpAny_Call_Name_kw (ld_glob I hg hm ?_ hdb)
  refine PySem.W.callWith_K (h₀ := X.base) I.ok.mod.kin T.kC (thn (ha.run pos pins s σ H _ I h) fun us s1 ⟨vs, H1, I1, r1, hz, q1⟩ => ⟨I1.kIn, ?_⟩) he hpl
  show wpAny _ _ (call (.ref C) us) _ _ _
  obtain ⟨hp, g, dr, tk, os⟩ := s1
  let a : Addr := hp.objs.size + 1
  have above : hp.objs.size ≤ a := Nat.le_succ _
  have hq := q1 a (I1.hok.fresh above)
  let h2 : Heap := (hp.push (PySem.W.kdv_tup us)).push (PySem.HandSPX.excO C hp.objs.size)
  have kk : ∀ b o, hp.get? b = some o → h2.get? b = some o := fun b o z => Heap.get?_push_of_some _ (Heap.get?_push_of_some _ z)
  have hget : h2.get? a = some (PySem.HandSPX.excO C hp.objs.size) := by
    show ((hp.push (PySem.W.kdv_tup us)).push (PySem.HandSPX.excO C hp.objs.size)).get? (hp.objs.size + 1) = _
    heap_get
  have I2 : Inv X pins σ (upd H1 a (exo a C none)) ⟨h2, g, dr, tk, os⟩ := I1.laid (t' := tk) (h' := h2) kk above (exo_ok hget)
  have r2 : Vals (V.ref a :: vs) (Value.ref a :: us) := .cons rfl r1
  have hl : (Value.ref a :: us).length = ps.length := r2.length.symm.trans (F1.len _ _ _ _ hq)
  have hus : us.length ≤ sizeLine := by
    rw [← Paired.length r1, sizeLine_eq]
    omega
  have hb2 : BindsTo ⟨h2, g, dr, tk, os⟩ fd ⟨Value.ref a :: us, []⟩ (ps.zip (Value.ref a :: us)) := by
    have z := hb ⟨h2, g, dr, tk, os⟩ (Value.ref a :: us) I2.kIn (by rw [List.append_nil]; exact hl)
    rw [List.append_nil] at z
    exact z
  refine wpAny_call (PySem.HandSPX.call_own F.excBase_ValueError (fun Y => PySem.HandSPX.refsVE_contains Y bm hbm) (I1.kIn _ _ hC) (PySem.W.looks_findIn I1.kIn iC) (fun self => PySem.W.bind_fn I1.kIn self tI) hus
    (codeAny_mono (F1.run _ X.stack _ _ ⟨Value.ref a :: us, []⟩ (Value.ref a :: us) _ _ (fun _ _ _ => False) (hr.make C us []) (I2.env0.make C us []) hb2 r2 hq) fun r s' hq' => ?_))
  match r, hq' with
  | .error er, hq' => exact hx pins σ _ _ er s' I2 hq'
  | .ok .next, hq' => exact False.elim hq'
  | .ok .brk, hq' => exact False.elim hq'
  | .ok .cont, hq' => exact False.elim hq'
  | .ok (.ret u), ⟨v, H2, os2, bare2, un2, hok2, rv, ev, q2⟩ =>
    subst ev
    obtain ⟨h3, g3, d3, t3, os3⟩ := s'
    obtain rfl : os3 = os := os2
    exact ⟨rv, .ref a, H2, I2.call (h' := h3) (g' := g3) (d' := d3) (t' := t3) (ch := []) un2 hok2 bare2 (fun b z => absurd z (by simp)), rfl, q2⟩

/-- x.f, x a made own exception -/
def tExF (K : PySem.W.Frag) (f : Str) (te : TE) : TE := fun σ H Q => te σ H fun x H1 => ∃ (a C d : Addr) (fs : List (Str × V)) (v : V), x = .ref a ∧ XfC K C ∧ PySem.W.findIn K (.ref C) f = some none ∧
  H1 a = some (exo a C (some d)) ∧ H1 d = some (exd d fs) ∧ fs.lookup f = some v ∧ Q v H1
theorem pe_exF {e : Expr} {te : TE} {pos : Pos} {f : Str} (he : PE X e te) (hb : attributeBase e f X.env (eval e X.env) = eval e X.env := by rfl) : PE X (.Attribute e f pos) (tExF X.K f te) := by
  refine ⟨fun pins s σ H Q I h => ?_⟩
  refine attr_of hb (thn (he.run pins s σ H _ I h) fun u s1 hh => ?_)
  obtain ⟨x, H1, I1, rx, a, C, d, fs, v, ex, T, hno, ea, ed, l, q⟩ := hh
  subst ex
  obtain rfl : u = Value.ref a := rx
  obtain ⟨t1, ho⟩ := exo_at I1.hok ea
  obtain ⟨mA, hns, hr⟩ := exd_at I1.hok ed
  obtain ⟨od, hod, hl⟩ := lookIn_ns hns
  obtain ⟨z, hz, rz⟩ := RelO.some_of (v := v) (o := mA f) (by rw [← l]; exact hr f)
  have J : PySem.W.InstAt s1.heap a _ C (some od) := ⟨ho, rfl, rfl, hod⟩
  exact HandSPX.exc_get I1.kIn J T.ga T.gg T.exC (PySem.W.findObj_own T.hdC hno rfl (by rw [hl, hz])) (handed_of rz) ⟨v, H1, I1.tok _, rz, q⟩
end
end Lm

namespace Lm
open PySem PySem.Spec PyProof.Rows L2
section
open PySem.W PySem.Calls
variable {prog : Program} {w : World} {A : Around} {E : Value → Shared → Prop} {s : Shared} {K : Frag} {x D : Addr} {ox : Obj} {od : Option Obj}
/-- x.__class__ of an exception, whatever its own dict holds -/
theorem class_of_exc {Q : Option Value → Shared → Prop} (C : ExcC K D) (X : K.In s.heap) (I : InstAt s.heap x ox D od) (h : Q (some (.ref D)) { s with toks := s.toks + 1 }) : wpAny (model prog w) A (getAttr? (.ref x) "__class__") Q E s := by
  have hf : findObj K D od "__class__" = some (.bind (.builtin "getset_descriptor.__get__") (.builtin "object.__class__")) := by
    obtain ⟨cd, hc, _⟩ := any_some C.hd
    cases od with
    | none => exact findObj_dataN (by rw [hc] <;> rfl) C.ha C.hn C.ht
    | some o => exact findObj_data (by rw [hc] <;> rfl) C.ha C.hn C.ht
  obtain ⟨hp, g, d, t, os⟩ := s
  have own : Value.builtin "BaseException.__getattribute__" ≠ Value.builtin "object.__getattribute__" := by decide +kernel
  have L0 := I.type (M := model prog w)
  have L1 := looks_findIn (M := model prog w) X C.hg
  have L2 := looks_findIn (M := model prog w) X C.hk
  have L3 := looks_find (M := model prog w) X I hf
  have sub : Looks (model prog w) hp (isInstance (.ref x) (.type "BaseException")) true := L0.andThen (looks_subIn X C.hs)
  unfold getAttr? getAttrBy? getAttrBy
  refine wpAny_bind (wpAny_mkText (wpAny_bind (wpAny_attempt (wpAny_holding (wpAny_bind (L0.at (wpAny_bind (L1.at ?_))))))))
  show wpAny _ _ (if (onTheHeap (Value.ref D) && Value.builtin "BaseException.__getattribute__" == Value.builtin "object.__getattribute__") = true then _ else _) _ _ _
  rw [beq_eq_false_iff_ne.mpr own, Bool.and_false, if_neg Bool.false_ne_true]
  unfold getAttrByItsOwn hookBefore
  refine wpAny_bind ?_
  rw [if_pos (show onTheHeap (Value.ref D) = true from rfl)]
  refine L2.at (wpAny_bind (wpAny_attempt (wpAny_holding ?_)))
  unfold callGetattribute
  rw [Bool.false_and, if_neg Bool.false_ne_true]
  unfold boundAndCalled
  rw [PySem.F.excAttr_ValueError.ga.bind (.ref x)]
  refine wpAny_bind (wpAny_pure ?_)
  show wpAny _ _ (call (.builtin "BaseException.__getattribute__") [.ref x, .str "__class__" t]) _ _ _
  refine wpAny_call (codeAny_call_builtin PySem.F.excAttr_ValueError.ga.plain PySem.F.entry_bexc_ga ?_)
  refine @check_slot (model prog w) _ _ ⟨hp, g, d, t + 1, os⟩ "BaseException.__getattribute__" "BaseException" "__getattribute__" (.ref x) [.str "__class__" t] [] _ (by decide +kernel) (by decide +kernel) sub (PySem.F.args_bexc_ga (.ref x) (.str "__class__" t)) ?_
  unfold Builtin.«object.__getattribute__»
  refine wpAny_bind (wpAny_of_eq (a := ((Value.ref x : Value), [Value.str "__class__" t])) (by first | rfl | (simp only [slotArgs]; rfl)) ?_)
  refine wpAny_bind (wpAny_pure (wpAny_bind (L0.at (wpAny_bind (L3.at ?_)))))
  show wpAny _ _ (holding [Value.builtin "object.__class__"] (call (.builtin "getset_descriptor.__get__") [.builtin "object.__class__", .ref x, .ref D]) >>= ret) _ _ _
  refine wpAny_bind (wpAny_holding (wpAny_call (class_get (s := ⟨hp, g, d, t + 1, os⟩) (ox := ox) (od := od) X I C.hm ?_)))
  refine wpAny_pure ?_
  show wpAny _ _ (handedOut (.ref D)) _ _ _
  rw [handedOut_of (v := .ref D) rfl]
  first
    | exact wpAny_pure (wpAny_pure h)
    | exact wpAny_pure h
    | exact wpAny_pure (wpAny_bind (wpAny_pure (wpAny_pure h)))
/-- what isinstance wants to know of an own exception -/
theorem kit_exc (C : ExcC K D) : KitX K (.ref x) (.ref D) (fun h => InstAt h x ox D od) := by
  have isC : ∃ cd, clsIn K D = some cd := by
    obtain ⟨cd, hc, _⟩ := any_some C.hd
    exact ⟨cd, hc⟩
  obtain ⟨cd, hc⟩ := isC
  unfold clsIn at hc
  refine ⟨fun _ _ _ I => I.type, fun _ _ X _ => ?_, fun h tp dd its n sl X htp => ?_, fun X I k => class_of_exc C X I k⟩
  · split at hc
    · rename_i ho
      intro A' Q' E' s' k q
      unfold isType loadHead
      exact wpAny_bind (wpAny_loadPart (k _ _ (X _ _ ho)) (wpAny_pure q))
    · cases hc
  · refine Bool.eq_false_iff.mpr fun q => ?_
    obtain rfl : D = tp := Value.ref.inj (beq_iff_eq.mp q)
    split at hc
    · rename_i ho
      cases (X _ _ ho).symm.trans htp
    · cases hc
end
/-- isinstance(x, c), c one class, x also a made own exception -/
def rIsE (K : PySem.W.Frag) : List V → Hp → VK → Prop := fun xs H Q => ∃ (x c : V) (t u : Value) (b : Bool), xs = [x, c] ∧ ClsV c u ∧
  (TyX K H x t ∨ ∃ a D d, x = .ref a ∧ t = .ref D ∧ ExcC K D ∧ H a = some (exo a D (some d)) ∧ ∃ fs, H d = some (exd d fs)) ∧ PySem.W.kitOne K t u = some b ∧ Q (.bl b) H
theorem call_isE {X : Cx} : CallR X (.builtin "isinstance") (rIsE X.K) := by
  intro pins s σ H xs us Q I r h
  obtain ⟨x, c, t, u, b, rfl, k, ty, e, q⟩ := h
  rcases ty with ty | ⟨a, D, d, rfl, rfl, C, ha, fs, hd⟩
  · exact call_isi pins s σ H _ us Q I r ⟨x, c, t, u, b, rfl, k, ty, e, q⟩
  · obtain ⟨u1, u2, rfl, r1, r2⟩ := vals2 r
    obtain rfl := k.eq r2
    obtain rfl : u1 = Value.ref a := r1
    obtain ⟨t1, ho⟩ := exo_at I.hok ha
    obtain ⟨mA, hns, _⟩ := exd_at I.hok hd
    obtain ⟨od, hod, _⟩ := lookIn_ns hns
    exact PySem.W.kia_one (kit_exc (ox := _) (od := some od) C) I.kIn ⟨ho, rfl, rfl, hod⟩ e (fun z => nomatch z) fun tk => ⟨.bl b, H, I.tok tk, rfl, q⟩
end Lm

namespace Lm
open PySem PySem.Spec PyProof.Rows L2
open C8 (Cal Mak Met pe_c pe_mk pe_mt pe_mt0 pss_cut tCut)

/-! ## What a law's own helpers ask of the module: the built-ins that stand as they are -/
structure Bl (mg : Str → Option Value) (base : Heap) : Prop where
  len : mg "len" = none
  int : mg "int" = none
  abs : mg "abs" = none
  range : mg "range" = none
  list : mg "list" = none
  max : mg "max" = none
  min : mg "min" = none
  all : mg "all" = none
  isinstance : mg "isinstance" = none
  repr : mg "repr" = none
  str : mg "str" = none
  tuple : mg "tuple" = none
  ValueError : mg "ValueError" = none
  bool : mg "bool" = none
  mods : ∃ mm, base.Ns sysModules mm
/-- a def as its callers see it: its promise, where it stands, how its arguments bind -/
theorem calD {P : Program} {w : World} {K : PySem.W.Frag} {mg : Str → Option Value} {base : Heap} {x : Str} {params : Arguments} {body : List Stmt} {scope : Scope} {f : Addr} {fd : FuncData} {N ps : List Str} {k : Nat} {sp : Sp}
    (F : FunD K x x params body scope [] [] f fd) (hm : mg x = some (.ref f)) (S : FnScope N ps scope)
    (b : ∀ (kV doc pm : Value) (an : Option Addr) (cdv ct : Value) (us : List Value), us.length = ps.length → bindArgs (PySem.W.fnOf x x params body scope .none kV doc pm an cdv ct) ⟨us, []⟩ = pure (ps.zip us))
    (many : ∀ vs H Q E, sp vs H Q E → vs.length = ps.length)
    (walk : ∀ (cdv : Value) (A : Around) (outer : List Env) (s : Shared) (H : Hp) (vs : List V) (Q : VK) (E : XK), Room k (A.deeper (envOfC x scope s.heap.objs.size f cdv)) → sp vs H Q E →
      ∃ t, PSs (cxOf CX0 P w K mg base N x scope f cdv A outer s H E).nox body t ∧ t { nx := fun _ H' => Q .non H', rt := Q } (start N vs) H) : Cal P w K mg base (k + 1) x sp [] :=
  ⟨f, fd, ps, [], F.ok S many fun cdv A outer s H vs Q E hr h => let ⟨t, h1, h2⟩ := walk cdv A outer s H vs Q E hr h; ⟨t, PSs.nox h1, h2⟩, hm, F.kp, FunD.bindsN F b, .nil⟩
/-- the same of a def that is entered where no repr is under way -/
structure CalG (P : Program) (w : World) (K : PySem.W.Frag) (mg : Str → Option Value) (base : Heap) (k : Nat) (x : Str) (sp : Sp) : Prop where
  ex : ∃ (f : Addr) (fd : FuncData) (ps : List Str), FnG P w K mg base CX0 k f fd ps sp ∧ mg x = some (.ref f) ∧ PySem.W.keepIn K (.ref f) = true ∧ Binds K fd ps []
theorem CalG.of {P : Program} {w : World} {K : PySem.W.Frag} {mg : Str → Option Value} {base : Heap} {x : Str} {k : Nat} {sp : Sp} (c : Cal P w K mg base k x sp []) : CalG P w K mg base k x sp := by
  obtain ⟨f, fd, ps, ds, F, hm, kp, b, d⟩ := c.ex
  cases d
  exact ⟨f, fd, ps, FnG.of F, hm, kp, b⟩
theorem calG {P : Program} {w : World} {K : PySem.W.Frag} {mg : Str → Option Value} {base : Heap} {x : Str} {params : Arguments} {body : List Stmt} {scope : Scope} {f : Addr} {fd : FuncData} {N ps : List Str} {k : Nat} {sp : Sp}
    (F : FunD K x x params body scope [] [] f fd) (hm : mg x = some (.ref f)) (S : FnScope N ps scope)
    (b : ∀ (kV doc pm : Value) (an : Option Addr) (cdv ct : Value) (us : List Value), us.length = ps.length → bindArgs (PySem.W.fnOf x x params body scope .none kV doc pm an cdv ct) ⟨us, []⟩ = pure (ps.zip us))
    (many : ∀ vs H Q E, sp vs H Q E → vs.length = ps.length)
    (walk : ∀ (cdv : Value) (A : Around) (outer : List Env) (s : Shared) (H : Hp) (vs : List V) (Q : VK) (E : XK), A.guards = some [] → Room k (A.deeper (envOfC x scope s.heap.objs.size f cdv)) → sp vs H Q E →
      ∃ t, PSs (cxOf CX0 P w K mg base N x scope f cdv A outer s H E).nox body t ∧ t { nx := fun _ H' => Q .non H', rt := Q } (start N vs) H) : CalG P w K mg base (k + 1) x sp :=
  ⟨f, fd, ps, FnG.made F S many fun cdv A outer s H vs Q E gd hr h => let ⟨t, h1, h2⟩ := walk cdv A outer s H vs Q E gd hr h; ⟨t, PSs.nox h1, h2⟩, hm, F.kp, FunD.bindsN F b⟩
section
variable {X : Cx} {k j : Nat} {x : Str} {sp : Sp} {p pos : Pos} {e : Expr} {es : List Expr} {t : TA}
theorem pe_cG (c : CalG X.prog X.w X.K X.mg X.base k x sp) (gd : X.A.guards = some []) (hr : Room j X.A) (hk : k ≤ j) (hg : Gl X x) (ha : PA X (e :: es) t)
    (hdb : (x == ("__debug__" : Str)) = false := by decide) (he : starEach (e :: es) X.env = (false, eval e X.env) :: starEach es X.env := by rfl) (hpl : (backTo pos (starEach es X.env)).any (·.1) = false := by rfl) :
    PE X (.Call (.Name x p) (e :: es) [] pos) (tCall sp [] E0 t) := by
  obtain ⟨f, fd, ps, F, hm, kp, b⟩ := c.ex
  exact pe_callG F gd (hr.mono hk) hg hm kp b .nil pass0 ha hdb he hpl
end

/-! ## Ways that join -/
/-- all but what stands at a is as it was -/
def But (a : Addr) (H H' : Hp) : Prop := ∀ b, b ≠ a → H' b = H b
/-- what was tracked is as it was, but for a -/
def KeptBut (a : Addr) (H H' : Hp) : Prop := ∀ b o, H b = some o → b ≠ a → H' b = some o
theorem KeptBut.refl {a : Addr} {H : Hp} : KeptBut a H H := fun _ _ e _ => e
theorem KeptBut.trans {a : Addr} {H1 H2 H3 : Hp} (h : KeptBut a H1 H2) (k : KeptBut a H2 H3) : KeptBut a H1 H3 := fun b o e n => k b o (h b o e n) n
theorem KeptBut.of_but {a : Addr} {H H' : Hp} (h : But a H H') : KeptBut a H H' := fun b o e n => by rw [h b n]; exact e
theorem KeptBut.new {a p : Addr} {H : Hp} {o : HO} (h : H p = none) : KeptBut a H (upd H p o) := fun b u e _ => by rw [upd_ne (ne_of_none e h)]; exact e
theorem KeptBut.at_ {a : Addr} {H : Hp} {o : HO} : KeptBut a H (upd H a o) := fun b u e n => by rw [upd_ne n]; exact e
theorem KeptBut.of_same {a : Addr} {H H' : Hp} (h : Same H H') : KeptBut a H H' := fun b o e _ => h b o e

/-! ## Lists that stay -/
theorem sql_keep {K : PySem.W.Frag} {H H' : Hp} {a l : Addr} {xs : List V} (h : SqL K H l xs) (kb : KeptBut a H H') (n : l ≠ a) : SqL K H' l xs := by
  rcases h with (h | ⟨o, h⟩) | h
  · exact .inl (.inl (kb _ _ h n))
  · exact .inl (.inr ⟨o, kb _ _ h n⟩)
  · exact .inr h
theorem sqt_keep {K : PySem.W.Frag} {H H' : Hp} {a l : Addr} {xs : List V} (h : SqT K H l xs) (kb : KeptBut a H H') (n : l ≠ a) : SqT K H' l xs := by
  rcases h with (h | ⟨o, h⟩) | h
  · exact .inl (.inl (kb _ _ h n))
  · exact .inl (.inr ⟨o, kb _ _ h n⟩)
  · exact .inr h
/-- the script: locked, or an object of the module -/
def ScL (K : PySem.W.Frag) (H : Hp) (a : Addr) (xs : List V) : Prop := (∃ o, H a = some (.frz o (.lst xs))) ∨ ∀ H', SqL K H' a xs
theorem ScL.seq {K : PySem.W.Frag} {H : Hp} {a : Addr} {xs : List V} (h : ScL K H a xs) : SqL K H a xs := by
  rcases h with ⟨o, h⟩ | h
  · exact .inl (.inr ⟨o, h⟩)
  · exact h H
theorem ScL.of {K : PySem.W.Frag} {H : Hp} {a : Addr} {xs : List V} (o : Only H) (h : SqL K H a xs) : ScL K H a xs := by
  rcases h with (h | ⟨ob, h⟩) | h
  · rcases o a with z | ⟨ob, ys, z⟩
    · rw [z] at h
      cases h
    · rw [z] at h
      cases h
  · exact .inl ⟨ob, h⟩
  · exact .inr fun _ => .inr h
theorem ScL.but {K : PySem.W.Frag} {H H' : Hp} {a q : Addr} {xs : List V} (h : ScL K H a xs) (kb : KeptBut q H H') (n : ∀ o u, H q ≠ some (.frz o u)) : ScL K H' a xs := by
  rcases h with ⟨o, h⟩ | h
  · exact .inl ⟨o, kb _ _ h fun z => n _ _ (by rw [← z]; exact h)⟩
  · exact .inr h
theorem ScL.new {K : PySem.W.Frag} {H : Hp} {a q : Addr} {xs : List V} {o : HO} (h : ScL K H a xs) (n : H q = none) : ScL K (upd H q o) a xs :=
  h.but (q := q) KeptBut.at_ fun _ _ z => by rw [n] at z; cases z
theorem ScL.upd {K : PySem.W.Frag} {H : Hp} {a q : Addr} {xs ys : List V} {o : HO} (h : ScL K H a xs) (n : H q = some (.lst ys)) : ScL K (upd H q o) a xs :=
  h.but (q := q) KeptBut.at_ fun _ _ z => by rw [n] at z; cases z

/-! ## The pot of a cell: three numbers in a list -/
def PotAt (H : Hp) (a : Addr) (n : Nat) : Prop := ∃ p0 p1 p2 : Int, H a = some (.lst [.int p0, .int p1, .int p2]) ∧ (0 ≤ p0 ∧ 0 ≤ p1 ∧ p1 < 2305843009213693951) ∧ 0 ≤ p2 ∧ p2 ≤ (n : Int)
theorem PotAt.mono {H : Hp} {a : Addr} {m n : Nat} (h : PotAt H a m) (l : m ≤ n) : PotAt H a n := by
  obtain ⟨p0, p1, p2, e, b, c, d⟩ := h
  exact ⟨p0, p1, p2, e, b, c, by omega⟩
theorem PotAt.keep {H H' : Hp} {a : Addr} {n : Nat} (h : PotAt H a n) (k : ∀ o, H a = some o → H' a = some o) : PotAt H' a n := by
  obtain ⟨p0, p1, p2, e, b⟩ := h
  exact ⟨p0, p1, p2, k _ e, b⟩
theorem PotAt.new {H : Hp} {a p : Addr} {n : Nat} {o : HO} (h : PotAt H a n) (hp : H p = none) : PotAt (upd H p o) a n := h.keep fun u e => by rw [upd_ne (ne_of_none e hp)]; exact e
theorem PotAt.ne {H : Hp} {a p : Addr} {n : Nat} (h : PotAt H a n) (hp : H p = none) : p ≠ a := by
  obtain ⟨_, _, _, e, _⟩ := h
  exact (ne_of_none e hp).symm
/-- _law_pot -/
def spPot (K : PySem.W.Frag) : Sp := fun vs H Q _ => ∃ (s : Addr) (ns : List Int) (j : Nat), vs = [.ref s, .int (j : Int)] ∧ SqL K H s (ns.map V.int) ∧ j ≤ 1000 ∧ ∀ (p : Addr) (o : HO), H p = none → PotAt (upd H p o) p 0 → Q (.ref p) (upd H p o)
/-- _law_take -/
def spTake : Sp := fun vs H Q _ => ∃ (a : Addr) (u : Int) (n : Nat), vs = [.ref a, .int u] ∧ PotAt H a n ∧ n < 1000000 ∧ 0 < u ∧ u ≤ 1000000 ∧ ∀ (i : Int) (H' : Hp), 0 ≤ i → i < u → PotAt H' a (n + 1) → KeptBut a H H' → Q (.int i) H'
/-- _law_of -/
def spOf (K : PySem.W.Frag) : Sp := fun vs H Q _ => ∃ (a l : Addr) (xs : List V) (n : Nat), vs = [.ref a, .ref l] ∧ PotAt H a n ∧ n < 1000000 ∧ l ≠ a ∧ (SqL K H l xs ∨ SqT K H l xs) ∧ 0 < xs.length ∧ xs.length ≤ 1000 ∧
  ∀ (v : V) (H' : Hp), v ∈ xs → PotAt H' a (n + 1) → KeptBut a H H' → Q v H'
/-- _law_cells -/
def spCells (K : PySem.W.Frag) (most : Int) : Sp := fun vs H Q _ => ∃ (s : Addr) (ns : List Int), vs = [.ref s, .int most] ∧ SqL K H s (ns.map V.int) ∧ ns.length ≤ 1000 ∧ ∀ (p : Addr) (m : Nat), H p = none → m ≤ 1000 → Q (.ref p) (upd H p (.lst ((List.range m).map fun (i : Nat) => V.int (i : Int))))
/-- _law_right: from a pot it always says True -/
def spRight : Sp := fun vs H Q _ => ∃ a : Addr, vs = [.ref a] ∧ PotAt H a 0 ∧ ∀ H', KeptBut a H H' → Q (.bl true) H'
/-- law -/
def spLaw (K : PySem.W.Frag) : Sp := fun vs H Q _ => ∃ (a : Addr) (ns : List Int), vs = [.ref a] ∧ ScL K H a (ns.map V.int) ∧ ns.length ≤ 63 ∧ ∀ H', Q (.bl true) H'


theorem yes_if {σ : L2.St} {H : Hp} {A B : Hp → Prop} (h : A H) : tYes σ H fun b H' => if b = true then A H' else B H' := by
  show (if true = true then A H else B H)
  rw [if_pos rfl]
  exact h

/-! ## Numbers -/
def CPowW (i j : Int) : Prop := 0 ≤ j ∧ (Builtin.Int.intBits i : Int) * j ≤ 2 ^ 27
theorem op_powW {X : Cx} : OpR X (binaryOp .Pow) (rI CPowW fun i j => .int (i ^ j.toNat)) := opI fun _ _ _ _ _ _ _ hc q => pow_int hc.1 hc.2 q
theorem mod_lt {x m : Int} (h : 0 < m) : 0 ≤ x % m ∧ x % m < m := ⟨Int.emod_nonneg x (by omega), Int.emod_lt_of_pos x h⟩
theorem atI_of {α : Type} {xs : List α} {i : Int} {j : Nat} {v : α} (e : i = (j : Int)) (h : xs[j]? = some v) : atI xs i = some v := by
  subst e
  have hj : j < xs.length := (List.getElem?_eq_some_iff.mp h).1
  unfold atI ixN
  rw [if_pos (by omega), if_pos (by omega)]
  simpa using h
theorem atI_lt {α : Type} {xs : List α} {i : Int} (h0 : 0 ≤ i) (h : i < (xs.length : Int)) : ∃ v, atI xs i = some v ∧ v ∈ xs := by
  obtain ⟨j, e⟩ : ∃ j : Nat, i = (j : Int) := ⟨i.toNat, by omega⟩
  have hj : j < xs.length := by omega
  exact ⟨xs[j], atI_of e (List.getElem?_eq_getElem hj), List.getElem_mem hj⟩
theorem pow3_nn {x : Int} (h : 0 ≤ x) : 0 ≤ x ^ (3 : Int).toNat := Int.pow_nonneg h
theorem ediv_nn {x d : Int} (h : 0 ≤ x) (hd : 0 ≤ d) : 0 ≤ x / d := Int.ediv_nonneg h hd
theorem ite_b2i {c : Bool} : 0 ≤ (if c = true then (1 : Int) else 0) ∧ (if c = true then (1 : Int) else 0) ≤ 1 := by cases c <;> decide
theorem sq_bound {c n : Int} (hc : 0 ≤ c) (hc2 : c ≤ 200000) (h0 : 0 ≤ n) (h1 : n ≤ 1000001) : 0 ≤ c * n * n ∧ c * n * n ≤ 200001000000000000 := by
  have a : c * n ≤ 200000 * 1000001 := Int.mul_le_mul hc2 h1 h0 (by decide)
  have b : 0 ≤ c * n := Int.mul_nonneg hc h0
  have d : c * n * n ≤ 200000 * 1000001 * 1000001 := Int.mul_le_mul a h1 h0 (by decide)
  exact ⟨Int.mul_nonneg b h0, Int.le_trans d (by decide)⟩
end Lm

namespace Lm
open PySem PySem.Spec PyProof.Rows L2

/-! ## Small data: what it reads as, with bounds for repr -/
/-- v reads as some data of depth ≤ k whose text has at most B signs -/
def Sm (B k : Nat) (H : Hp) (v : V) : Prop := ∃ d, Dr H v d ∧ d.showable = true ∧ d.depth ≤ k ∧ d.shown.length ≤ B
theorem Sm.mono {B k B' k' : Nat} {H : Hp} {v : V} (h : Sm B k H v) (hB : B ≤ B') (hk : k ≤ k') : Sm B' k' H v := by
  obtain ⟨d, h1, h2, h3, h4⟩ := h
  exact ⟨d, h1, h2, Nat.le_trans h3 hk, Nat.le_trans h4 hB⟩
theorem Sm.same {B k : Nat} {H H' : Hp} {v : V} (h : Sm B k H v) (s : Same H H') : Sm B k H' v := by
  obtain ⟨d, h1, h2⟩ := h
  exact ⟨d, h1.same s, h2⟩
/-- the pot is no data: what is data stays so while the pot changes -/
theorem Same.new {H : Hp} {p : Addr} {o : HO} (h : H p = none) : Same H (upd H p o) := fun b u e => by rw [upd_ne (ne_of_none e h)]; exact e
theorem Sm.all {B k : Nat} {H : Hp} : ∀ {vs : List V}, (∀ v ∈ vs, Sm B k H v) → ∃ ds, DrAll H vs ds ∧ PyData.showableAll ds = true ∧ PyData.depthAll ds ≤ k ∧ ((PyData.shownAll ds).map (·.length)).sum ≤ B * vs.length ∧ (PyData.shownAll ds).length = vs.length
  | [], _ => ⟨[], .nil, rfl, Nat.zero_le _, Nat.zero_le _, rfl⟩
  | v :: vs, h => by
    obtain ⟨d, h1, h2, h3, h4⟩ := h v List.mem_cons_self
    obtain ⟨ds, i1, i2, i3, i4, i5⟩ := Sm.all (vs := vs) fun u hu => h u (List.mem_cons_of_mem _ hu)
    refine ⟨d :: ds, .cons h1 i1, ?_, ?_, ?_, ?_⟩
    · simp only [PyData.showableAll, h2, i2, Bool.and_self]
    · simp only [PyData.depthAll]
      omega
    · simp only [PyData.shownAll, List.map_cons, List.sum_cons, List.length_cons, Nat.mul_succ]
      omega
    · simp only [PyData.shownAll, List.length_cons, i5]
theorem Sm.tup {B k : Nat} {H : Hp} {a : Addr} {vs : List V} (e : H a = some (.tup vs)) (h : ∀ v ∈ vs, Sm B k H v) : Sm ((B + 2) * vs.length + 3) (k + 1) H (.ref a) := by
  obtain ⟨ds, i1, i2, i3, i4, i5⟩ := Sm.all h
  refine ⟨.tuple ds, .tup e i1, by simpa only [PyData.showable] using i2, by simp only [PyData.depth]; omega, ?_⟩
  have z := tupleText_len_le (PyData.shownAll ds)
  simp only [PyData.shown]
  rw [i5] at z
  rw [Nat.add_mul]
  omega
theorem Sm.lst {B k : Nat} {H : Hp} {a : Addr} {vs : List V} (e : H a = some (.lst vs)) (h : ∀ v ∈ vs, Sm B k H v) : Sm ((B + 2) * vs.length + 3) (k + 1) H (.ref a) := by
  obtain ⟨ds, i1, i2, i3, i4, i5⟩ := Sm.all h
  refine ⟨.list ds, .lst e i1, by simpa only [PyData.showable] using i2, by simp only [PyData.depth]; omega, ?_⟩
  have z := listText_len_le (PyData.shownAll ds)
  simp only [PyData.shown]
  rw [i5] at z
  rw [Nat.add_mul]
  omega

/-- what is tracked in H' and wasn't in H -/
def fresh (H H' : Hp) : Hp := fun b => if (H b).isSome then none else H' b
theorem fresh_sub {H H' : Hp} : Same (fresh H H') H' := fun b o e => by
  unfold fresh at e
  split at e
  · cases e
  · exact e
theorem fresh_on {H H1 H2 : Hp} (s : Same H1 H2) : Same (fresh H H1) (fresh H H2) := fun b o e => by
  unfold fresh at e ⊢
  split at e
  · cases e
  · rename_i h
    rw [if_neg h]
    exact s b o e
theorem fresh_in {H H1 H2 : Hp} (s : Same H H1) : Same (fresh H1 H2) (fresh H H2) := fun b o e => by
  unfold fresh at e ⊢
  split at e
  · cases e
  · rename_i h
    have n : ¬ (H b).isSome = true := fun z => h (by
      obtain ⟨u, hu⟩ := Option.isSome_iff_exists.mp z
      rw [s b u hu]
      rfl)
    rw [if_neg n]
    exact e
theorem fresh_at {H H1 : Hp} {p : Addr} {o : HO} (s : Same H H1) (hp : H1 p = none) : fresh H (upd H1 p o) p = some o := by
  have n : H p = none := s.free hp
  unfold fresh
  rw [n]
  exact upd_same
/-- a change of what was there ahead leaves what is fresh -/
theorem fresh_but {H H1 H2 : Hp} {a : Addr} {u : HO} (ha : H a = some u) (k : KeptBut a H1 H2) : Same (fresh H H1) (fresh H H2) := fun b o e => by
  unfold fresh at e ⊢
  split at e
  · cases e
  · rename_i h
    rw [if_neg h]
    exact k b o e fun z => h (by rw [z, ha]; rfl)

/-! ## Expressions that give small data, made of new objects, and keep what is tracked -/
def DatE (B k : Nat) (te : TE) : Prop := ∀ (σ : L2.St) (H : Hp) (Q : VK), (∀ v H', Same H H' → Sm B k (fresh H H') v → Q v H') → te σ H Q
def DatA (B k n : Nat) (ta : TA) : Prop := ∀ (σ : L2.St) (H : Hp) (Q : List V → Hp → Prop), (∀ vs H', Same H H' → (∀ v ∈ vs, Sm B k (fresh H H') v) → vs.length = n → Q vs H') → ta σ H Q
theorem DatE.mono {B k B' k' : Nat} {te : TE} (h : DatE B k te) (hB : B ≤ B') (hk : k ≤ k') : DatE B' k' te := fun σ H Q q => h σ H Q fun v H' s m => q v H' s (m.mono hB hk)
theorem dat_nil {B k : Nat} : DatA B k 0 tNil := fun σ H Q q => q [] H (Same.refl H) (fun _ h => nomatch h) rfl
theorem dat_cons {B k n : Nat} {te : TE} {ta : TA} (h : DatE B k te) (t : DatA B k n ta) : DatA B k (n + 1) (tCons te ta) := fun σ H Q q =>
  h σ H _ fun v H1 s1 m1 => t σ H1 _ fun vs H2 s2 m2 l => q (v :: vs) H2 (s1.trans s2) (fun u hu => by
    rcases List.mem_cons.mp hu with z | z
    · rw [z]
      exact m1.same (fresh_on s2)
    · exact (m2 u z).same (fresh_in s1)) (by rw [List.length_cons, l])
theorem dat_tup {B k n : Nat} {ta : TA} (h : DatA B k n ta) (hn : n ≤ 1000) : DatE ((B + 2) * n + 3) (k + 1) (tTup ta) := fun σ H Q q =>
  h σ H _ fun vs H1 s1 m1 l => ⟨Nat.le_of_lt (small1000 (by omega)), fun p hp => by
    have sn : Same H1 (upd H1 p (.tup vs)) := Same.new hp
    have m := Sm.tup (fresh_at (o := .tup vs) s1 hp) fun v hv => (m1 v hv).same (fresh_on sn)
    rw [l] at m
    exact q _ _ (s1.trans sn) m⟩
theorem dat_lst {B k n : Nat} {ta : TA} (h : DatA B k n ta) (hn : n ≤ 1000) : DatE ((B + 2) * n + 3) (k + 1) (tLst ta) := fun σ H Q q =>
  h σ H _ fun vs H1 s1 m1 l => ⟨Nat.le_of_lt (small1000 (by omega)), fun p hp => by
    have sn : Same H1 (upd H1 p (.lst vs)) := Same.new hp
    have m := Sm.lst (fresh_at (o := .lst vs) s1 hp) fun v hv => (m1 v hv).same (fresh_on sn)
    rw [l] at m
    exact q _ _ (s1.trans sn) m⟩
theorem sm_flat {H : Hp} {v : V} {d : PyData} (h : Dr H v d) (B k : Nat) (hs : d.showable = true) (hk : d.depth ≤ k) (hB : d.shown.length ≤ B) : Sm B k H v := ⟨d, h, hs, hk, hB⟩
theorem dat_non {B k : Nat} (hB : 4 ≤ B) : DatE B k (tC .non) := fun σ H Q q => q _ H (Same.refl H) (sm_flat .non B k rfl (Nat.zero_le _) (Nat.le_trans (by decide +kernel : (PyData.none).shown.length ≤ 4) hB))
theorem dat_bl {B k : Nat} (b : Bool) (hB : 5 ≤ B) : DatE B k (tC (.bl b)) := fun σ H Q q => q _ H (Same.refl H) (sm_flat (.bl b) B k rfl (Nat.zero_le _) (Nat.le_trans (by cases b <;> decide +kernel : (PyData.bool b).shown.length ≤ 5) hB))
theorem sm_int {H : Hp} {B k : Nat} (i : Int) (hs : (PyData.int i).showable = true) (hB : (PyData.int i).shown.length ≤ B) : Sm B k H (.int i) := sm_flat (.int i) B k hs (Nat.zero_le _) hB
theorem dat_int {B k : Nat} (i : Int) (hs : (PyData.int i).showable = true) (hB : (PyData.int i).shown.length ≤ B) : DatE B k (tC (.int i)) := fun σ H Q q => q _ H (Same.refl H) (sm_int i hs hB)
theorem dat_str {B k : Nat} (x : Str) (hB : (PyData.str x).shown.length ≤ B) : DatE B k (tC (.str x)) := fun σ H Q q => q _ H (Same.refl H) (sm_flat (.str x) B k rfl (Nat.zero_le _) hB)
theorem dat_neg {B k : Nat} (i : Int) (hs : (PyData.int (-i)).showable = true) (hB : (PyData.int (-i)).shown.length ≤ B) : DatE B k (tUn (rU fun i => .int (-i)) (tC (.int i))) := fun σ H Q q => ⟨_, rfl, q _ H (Same.refl H) (sm_int _ hs hB)⟩
theorem dat_pow {B k : Nat} (i j : Int) (c : CPow i j) (hs : (PyData.int (i ^ j.toNat)).showable = true) (hB : (PyData.int (i ^ j.toNat)).shown.length ≤ B) : DatE B k (tOp (rI CPow fun i j => .int (i ^ j.toNat)) (tC (.int i)) (tC (.int j))) :=
  fun σ H Q q => ⟨_, _, rfl, rfl, c, q _ H (Same.refl H) (sm_int _ hs hB)⟩
theorem dat_dnew {B k : Nat} (hB : 2 ≤ B) (hk : 1 ≤ k) : DatE B k tDNewK := fun σ H Q q p hp => by
  refine q _ _ (Same.new hp) ⟨.dict [], ?_, by decide +kernel, Nat.le_trans (by decide +kernel) hk, Nat.le_trans (by decide +kernel : (PyData.dict []).shown.length ≤ 2) hB⟩
  exact Dr.dic (kvs := []) (ds := []) (fresh_at (Same.refl H) hp) .nil
/-- {x: i} -/
theorem dat_disp1 {B k : Nat} (x : Str) (i : Int) (hs : (PyData.dict [(.str x, .int i)]).showable = true) (hB : (PyData.dict [(.str x, .int i)]).shown.length ≤ B) (hk : (PyData.dict [(.str x, .int i)]).depth ≤ k) : DatE B k (tDisp [(tC (.str x), tC (.int i))]) := fun σ H Q q p hp => by
  refine ⟨upd_same, [(Sum.inr x, .int i)], rfl, (by decide : 1 ≤ 15), ?_⟩
  have e : mergeK [] [((Sum.inr x : Key), V.int i)] = [((Sum.inr x : Key), V.int i)] := by
    unfold mergeK putK
    simp
  rw [e]
  have f : fresh H (upd (upd H p (.dK [])) p (.dK [((Sum.inr x : Key), V.int i)])) p = some (.dK [((Sum.inr x : Key), V.int i)]) := by
    unfold fresh
    rw [hp]
    exact upd_same
  refine q _ _ (fun b o hb => ?_) ⟨_, Dr.dic (kvs := [((Sum.inr x : Key), V.int i)]) (ds := [.int i]) f (.cons (.int i) .nil), hs, hk, hB⟩
  have nb : b ≠ p := ne_of_none hb hp
  rw [upd_ne nb, upd_ne nb]
  exact hb
/-- x = [data ..] -/
theorem asg_lst {B k n i : Nat} {ta : TA} {D : Ends} {σ : L2.St} {H : Hp} (h : DatA B k n ta) (hn : n ≤ 1000) (q : ∀ vs p H', Same H H' → H p = none → H' p = some (.lst vs) → (∀ v ∈ vs, Sm B k (fresh H H') v) → vs.length = n → D.nx (σ.set i (some (.ref p))) H') :
    tAsg (tLst ta) (gName i) D σ H :=
  h σ H _ fun vs H1 s1 m1 l => ⟨Nat.le_of_lt (small1000 (by omega)), fun p hp => by
    have sn : Same H1 (upd H1 p (.lst vs)) := Same.new hp
    exact q vs p _ (s1.trans sn) (s1.free hp) upd_same (fun v hv => (m1 v hv).same (fresh_on sn)) l⟩
/-- x = x + [data ..] -/
theorem asg_cat {B k n i : Nat} {ta : TA} {D : Ends} {σ : L2.St} {H0 H : Hp} {p : Addr} {us : List V} (h : DatA B k n ta) (hn : n ≤ 1000) (hu : us.length ≤ 1000) (hv : σ[i]? = some (some (.ref p))) (hp : H p = some (.lst us)) (s0 : Same H0 H) (m0 : ∀ v ∈ us, Sm B k (fresh H0 H) v)
    (q : ∀ vs l H', Same H H' → H l = none → H' l = some (.lst vs) → (∀ v ∈ vs, Sm B k (fresh H0 H') v) → vs.length = us.length + n → D.nx (σ.set i (some (.ref l))) H') :
    tAsg (tOp rCat (tVar i) (tLst ta)) (gName i) D σ H :=
  ⟨_, hv, h σ H _ fun vs H1 s1 m1 l => ⟨Nat.le_of_lt (small1000 (by omega)), fun p2 hp2 => by
    have s2 : Same H1 (upd H1 p2 (.lst vs)) := Same.new hp2
    refine ⟨p, p2, us, vs, rfl, rfl, s2 _ _ (s1 _ _ hp), upd_same, ?_, fun l3 hl3 => ?_⟩
    · rw [l]
      exact Nat.le_of_lt (Nat.lt_of_le_of_lt (Nat.add_le_add hu hn) (by decide))
    have s3 : Same (upd H1 p2 (.lst vs)) (upd (upd H1 p2 (.lst vs)) l3 (.lst (us ++ vs))) := Same.new hl3
    refine q (us ++ vs) l3 _ ((s1.trans s2).trans s3) ((s1.trans s2).free hl3) upd_same (fun v hv => ?_) (by rw [List.length_append, l])
    rcases List.mem_append.mp hv with z | z
    · exact (m0 v z).same (fresh_on ((s1.trans s2).trans s3))
    · exact (m1 v z).same (fun b o e => fresh_in s0 b o (fresh_on (s2.trans s3) b o e))⟩⟩
end Lm

namespace Lm
open PySem PySem.Spec PyProof.Rows L2
open C8 (Cal Mak Met pe_c pe_mk pe_mt pe_mt0 pss_cut tCut)

/-! ## The package's errors: each an own class whose __init__ (MirrorError's) keeps its argument as value -/
/-- MirrorError.__init__ -/
def spErr (K : PySem.W.Frag) : Sp := fun vs H Q _ => ∃ (a C : Addr) (v : V), vs = [.ref a, v] ∧ OexC K C ∧ PySem.W.findIn K (.ref C) "value" = some none ∧ H a = some (exo a C none) ∧
  ∀ dx, H dx = none → dx ≠ a → Q .non (upd (upd H dx (exd dx [("value", v)])) a (exo a C (some dx)))
/-- what the written part says of one of them -/
structure ErrC (K : PySem.W.Frag) (C fI : Addr) : Prop where
  T : OexC K C
  iC : PySem.W.findIn K (.ref C) "__init__" = some (some (.ref fI))
  nv : PySem.W.findIn K (.ref C) "value" = some none
  xf : XfC K C
  ex : ExcC K C
/-- an error of the class named x, made with v, stands at a -/
def ErrAt (K : PySem.W.Frag) (H : Hp) (a : Addr) (x : Str) (v : V) : Prop := ∃ d, H a = some (exo a (He.ga K x) (some d)) ∧ H d = some (exd d [("value", v)])
theorem ErrAt.same {K : PySem.W.Frag} {H H' : Hp} {a : Addr} {x : Str} {v : V} (h : ErrAt K H a x v) (s : Same H H') : ErrAt K H' a x v := by
  obtain ⟨d, h1, h2⟩ := h
  exact ⟨d, s _ _ h1, s _ _ h2⟩
def subNames : List Str := ["BadRatio", "BadText", "BadBook", "NoName", "BadLine", "Used", "Few", "BadRows", "BadScript", "BadDot", "Long", "BadNumber", "OtherBook", "BadClaim", "BadNames", "BadLooks", "Nothing", "Loose", "Needed", "NotSure", "BadOffers", "BadWishes", "Full", "NoDot", "NothingToUndo", "NothingToRedo", "NoTrial", "BadJournal", "BadSay"]
def errNames : List Str := "MirrorError" :: subNames
/-- all that a law needs to know of the errors -/
structure Errs (P : Program) (w : World) (K : PySem.W.Frag) (mg : Str → Option Value) (base : Heap) : Prop where
  m : ∀ {x : Str}, x ∈ errNames → mg x = some (.ref (He.ga K x))
  ini : ∃ (fI : Addr) (fd : FuncData), (∀ x ∈ errNames, ErrC K (He.ga K x) fI) ∧ PySem.W.typeIn K (.ref fI) = some (.type "function") ∧ FnOk P w K mg base CX0 1 fI fd ["self", "value"] (spErr K) ∧ Binds K fd ["self", "value"] []
  kit : ∀ x ∈ errNames, ∀ y ∈ subNames, PySem.W.kitOne K (.ref (He.ga K x)) (.ref (He.ga K y)) = some (decide (x = y))
  kitM : ∀ x ∈ errNames, PySem.W.kitOne K (.ref (He.ga K x)) (.ref (He.ga K "MirrorError")) = some true
  kitV : ∀ x ∈ errNames, PySem.W.kitOne K (.ref (He.ga K x)) (.type "ValueError") = some true
theorem Errs.err {P : Program} {w : World} {K : PySem.W.Frag} {mg : Str → Option Value} {base : Heap} (Z : Errs P w K mg base) {x : Str} (h : x ∈ errNames) : ∃ fI, ErrC K (He.ga K x) fI := by
  obtain ⟨fI, _, h1, _⟩ := Z.ini
  exact ⟨fI, h1 x h⟩
/-- Err(e) -/
def tErr (K : PySem.W.Frag) (x : Str) (ta : TA) : TE := tMkV (He.ga K x) (spErr K) ta
theorem pe_err {X : Cx} {j : Nat} {x : Str} {e : Expr} {p pos : Pos} {ta : TA} (Z : Errs X.prog X.w X.K X.mg X.base) (hx : x ∈ errNames) (hr : Room j X.A) (hj : 2 ≤ j) (hg : Gl X x) (ha : PA X [e] ta)
    (hdb : (x == ("__debug__" : Str)) = false := by decide) (he : starEach [e] X.env = (false, eval e X.env) :: starEach [] X.env := by rfl) (hpl : (backTo pos (starEach [] X.env)).any (·.1) = false := by rfl) :
    PE X (.Call (.Name x p) [e] [] pos) (tErr X.K x ta) := by
  obtain ⟨fI, fd, h1, tI, F, b⟩ := Z.ini
  have C := h1 x hx
  exact pe_oexV C.T C.iC tI F (hr.mono hj) b pass0 hg (Z.m hx) ha hdb he hpl
/-- Err(v), v what stands in a slot -/
theorem err_var {P : Program} {w : World} {K : PySem.W.Frag} {mg : Str → Option Value} {base : Heap} {x : Str} {i : Nat} {v : V} {σ : L2.St} {H : Hp} {Q : VK} (Z : Errs P w K mg base) (hx : x ∈ errNames) (hv : σ[i]? = some (some v))
    (h : ∀ a H2, Same H H2 → H a = none → ErrAt K H2 a x v → Q (.ref a) H2) : tErr K x (tCons (tVar i) tNil) σ H Q := by
  obtain ⟨fI, C⟩ := Z.err hx
  refine ⟨v, hv, (by decide : 1 ≤ 1000), fun a ha => ⟨a, _, v, rfl, C.T, C.nv, upd_same, fun dx hdx hne => ⟨rfl, ?_⟩⟩⟩
  have hd : H dx = none := by
    rw [upd_ne hne] at hdx
    exact hdx
  refine h a _ (fun b o hb => ?_) ha ⟨dx, upd_same, by rw [upd_ne hne]; exact upd_same⟩
  have n1 : b ≠ a := ne_of_none hb ha
  rw [upd_ne n1, upd_ne (ne_of_none hb hd), upd_ne n1]
  exact hb
/-- (x, Err(v)), v what stands in a slot -/
theorem pair_made {P : Program} {w : World} {K : PySem.W.Frag} {mg : Str → Option Value} {base : Heap} {x : Str} {i : Nat} {v : V} {σ : L2.St} {H : Hp} {Q : VK} (Z : Errs P w K mg base) (hx : x ∈ errNames) (hv : σ[i]? = some (some v))
    (h : ∀ t a H', Same H H' → H t = none → H' t = some (.tup [.str x, .ref a]) → ErrAt K H' a x v → Q (.ref t) H') : tTup (tCons (tC (.str x)) (tCons (tErr K x (tCons (tVar i) tNil)) tNil)) σ H Q := by
  show tErr K x (tCons (tVar i) tNil) σ H (fun y H2 => [V.str x, y].length ≤ sizeLine ∧ ∀ p, H2 p = none → Q (.ref p) (upd H2 p (.tup [.str x, y])))
  refine err_var Z hx hv fun a H2 s2 ha e2 => ⟨(by show 2 ≤ sizeLine; decide), fun t ht => ?_⟩
  exact h t a _ (s2.trans (Same.new ht)) (s2.free ht) upd_same (e2.same (Same.new ht))
/-- isinstance(made, Err) -/
theorem isi_made {P : Program} {w : World} {K : PySem.W.Frag} {mg : Str → Option Value} {base : Heap} {x y : Str} {e : Addr} {v : V} {H : Hp} {Q : VK} (Z : Errs P w K mg base) (hx : x ∈ errNames) (hy : y ∈ subNames) (h : ErrAt K H e x v)
    (q : Q (.bl (decide (x = y))) H) : rIsE K [.ref e, .ref (He.ga K y)] H Q := by
  obtain ⟨d, h1, h2⟩ := h
  obtain ⟨fI, C⟩ := Z.err hx
  exact ⟨_, _, _, _, _, rfl, .own _, .inr ⟨e, _, d, rfl, rfl, C.ex, h1, _, h2⟩, Z.kit x hx y hy, q⟩
theorem isi_M {P : Program} {w : World} {K : PySem.W.Frag} {mg : Str → Option Value} {base : Heap} {x : Str} {e : Addr} {v : V} {H : Hp} {Q : VK} (Z : Errs P w K mg base) (hx : x ∈ errNames) (h : ErrAt K H e x v)
    (q : Q (.bl true) H) : rIsE K [.ref e, .ref (He.ga K "MirrorError")] H Q := by
  obtain ⟨d, h1, h2⟩ := h
  obtain ⟨fI, C⟩ := Z.err hx
  exact ⟨_, _, _, _, _, rfl, .own _, .inr ⟨e, _, d, rfl, rfl, C.ex, h1, _, h2⟩, Z.kitM x hx, q⟩
theorem isi_V {P : Program} {w : World} {K : PySem.W.Frag} {mg : Str → Option Value} {base : Heap} {x : Str} {e : Addr} {v : V} {H : Hp} {Q : VK} (Z : Errs P w K mg base) (hx : x ∈ errNames) (h : ErrAt K H e x v)
    (q : Q (.bl true) H) : rIsE K [.ref e, .ty "ValueError"] H Q := by
  obtain ⟨d, h1, h2⟩ := h
  obtain ⟨fI, C⟩ := Z.err hx
  exact ⟨_, _, _, _, _, rfl, .ty _, .inr ⟨e, _, d, rfl, rfl, C.ex, h1, _, h2⟩, Z.kitV x hx, q⟩
end Lm

namespace Lm
open PySem PySem.Spec PyProof.Rows L2
open C8 (Cal Mak Met pe_c pe_mk pe_mt pe_mt0 pss_cut tCut)

/-! ## Lists of named errors, lists of named answers -/
/-- at l: pairs (name, error of that name made with v) -/
def EL (K : PySem.W.Frag) (H : Hp) (l : Addr) (v : V) (ts : List Addr) : Prop := H l = some (.lst (ts.map V.ref)) ∧ ∀ t ∈ ts, ∃ x e, x ∈ subNames ∧ H t = some (.tup [.str x, .ref e]) ∧ ErrAt K H e x v
theorem exo_lst {e C : Addr} {d : Option Addr} {xs : List V} : exo e C d ≠ .lst xs := fun z => by
  have z' : HO.ext _ = HO.lst xs := z
  cases z'
theorem exd_lst {e : Addr} {fs : List (Str × V)} {xs : List V} : exd e fs ≠ .lst xs := fun z => by
  have z' : HO.ext _ = HO.lst xs := z
  cases z'
/-- an error isn't touched by a list's change -/
theorem ErrAt.upd {K : PySem.W.Frag} {H : Hp} {a l : Addr} {x : Str} {v : V} {xs : List V} {o : HO} (h : ErrAt K H a x v) (hl : H l = some (.lst xs)) : ErrAt K (upd H l o) a x v := by
  obtain ⟨d, h1, h2⟩ := h
  exact ⟨d, by rw [upd_ne (ne_of h1 hl exo_lst)]; exact h1, by rw [upd_ne (ne_of h2 hl exd_lst)]; exact h2⟩
theorem el_put {K : PySem.W.Frag} {H H' : Hp} {l : Addr} {v : V} {ts us : List Addr} (h : EL K H l v ts) (s : Same H H') (hu : ∀ t ∈ us, ∃ x e, x ∈ subNames ∧ H' t = some (.tup [.str x, .ref e]) ∧ ErrAt K H' e x v) : EL K (upd H' l (.lst ((ts ++ us).map V.ref))) l v (ts ++ us) := by
  have hl := s _ _ h.1
  refine ⟨upd_same, fun t ht => ?_⟩
  have key : ∃ x e, x ∈ subNames ∧ H' t = some (.tup [.str x, .ref e]) ∧ ErrAt K H' e x v := by
    rcases List.mem_append.mp ht with z | z
    · obtain ⟨x, e, hx, h1, h2⟩ := h.2 t z
      exact ⟨x, e, hx, s _ _ h1, h2.same s⟩
    · exact hu t z
  obtain ⟨x, e, hx, h1, h2⟩ := key
  exact ⟨x, e, hx, by rw [upd_ne (ne_of h1 hl (by intro z; cases z))]; exact h1, h2.upd hl⟩
section
variable {P : Program} {w : World} {K : PySem.W.Frag} {mg : Str → Option Value} {base : Heap}
abbrev tPairE (K : PySem.W.Frag) (x : Str) : TE := tTup (tCons (tC (.str x)) (tCons (tErr K x (tCons (tVar 0) tNil)) tNil))
theorem lst2E {x y : Str} {v : V} {σ : L2.St} {H : Hp} {Q : VK} (Z : Errs P w K mg base) (hx : x ∈ errNames) (hy : y ∈ errNames) (hv : σ[0]? = some (some v))
    (q : ∀ p t u a b H', Same H H' → H p = none → H' p = some (.lst [.ref t, .ref u]) → H' t = some (.tup [.str x, .ref a]) → H' u = some (.tup [.str y, .ref b]) → ErrAt K H' a x v → ErrAt K H' b y v → Q (.ref p) H') :
    tLst (tCons (tPairE K x) (tCons (tPairE K y) tNil)) σ H Q := by
  show tPairE K x σ H (fun x1 H1 => tPairE K y σ H1 (fun y1 H2 => [x1, y1].length ≤ sizeLine ∧ ∀ p, H2 p = none → Q (.ref p) (upd H2 p (.lst [x1, y1]))))
  refine pair_made Z hx hv fun t a H1 s1 f1 t1 e1 => ?_
  refine pair_made Z hy hv fun u b H2 s2 f2 t2 e2 => ?_
  refine ⟨(by show 2 ≤ sizeLine; decide), fun p hp => ?_⟩
  have s3 : Same H2 (upd H2 p (.lst [.ref t, .ref u])) := Same.new hp
  exact q p t u a b _ ((s1.trans s2).trans s3) ((s1.trans s2).free hp) upd_same (s3 _ _ (s2 _ _ t1)) (s3 _ _ t2) (e1.same (s2.trans s3)) (e2.same s3)
theorem lst1E {x : Str} {v : V} {σ : L2.St} {H : Hp} {Q : VK} (Z : Errs P w K mg base) (hx : x ∈ errNames) (hv : σ[0]? = some (some v))
    (q : ∀ p t a H', Same H H' → H p = none → H' p = some (.lst [.ref t]) → H' t = some (.tup [.str x, .ref a]) → ErrAt K H' a x v → Q (.ref p) H') :
    tLst (tCons (tPairE K x) tNil) σ H Q := by
  show tPairE K x σ H (fun x1 H1 => [x1].length ≤ sizeLine ∧ ∀ p, H1 p = none → Q (.ref p) (upd H1 p (.lst [x1])))
  refine pair_made Z hx hv fun t a H1 s1 f1 t1 e1 => ?_
  refine ⟨(by show 1 ≤ sizeLine; decide), fun p hp => ?_⟩
  have s3 : Same H1 (upd H1 p (.lst [.ref t])) := Same.new hp
  exact q p t a _ (s1.trans s3) (s1.free hp) upd_same (s3 _ _ t1) (e1.same s3)
/-- what a state of _law_errors says: the value, the list found so far; what was tracked at the entry is kept -/
def ErrSt (K : PySem.W.Frag) (v : V) (H0 : Hp) (σ : L2.St) (H : Hp) (n : Nat) : Prop := ∃ (l : Addr) (ts : List Addr), σ = [some v, some (.ref l)] ∧ EL K H l v ts ∧ Same H0 H ∧ H0 l = none ∧ ts.length = n
/-- found.extend([(x, X(value)), (y, Y(value))]) -/
theorem err_ext2 {x y : Str} {v : V} {H0 : Hp} {σ : L2.St} {H : Hp} {D : Ends} {n : Nat} (Z : Errs P w K mg base) (hx : x ∈ subNames) (hy : y ∈ subNames) (hn : n ≤ 100) (h : ErrSt K v H0 σ H n) (q : ∀ H', ErrSt K v H0 σ H' (n + 2) → D.nx σ H') :
    tDrop (tBM K "list" rExtend (tVar 1) (tCons (tLst (tCons (tPairE K x) (tCons (tPairE K y) tNil))) tNil)) D σ H := by
  obtain ⟨l, ts, rfl, hE, s0, n0, hl⟩ := h
  refine ⟨_, rfl, .inl ⟨rfl, _, SqL.of hE.1⟩, ?_⟩
  show tLst (tCons (tPairE K x) (tCons (tPairE K y) tNil)) _ H (fun z H2 => rExtend (.ref l) [z] H2 fun _ H3 => D.nx [some v, some (.ref l)] H3)
  refine lst2E Z (List.mem_cons_of_mem _ hx) (List.mem_cons_of_mem _ hy) rfl fun p t u a b H' s hp ep et eu ea eb => ?_
  refine ⟨l, p, _, _, rfl, rfl, s _ _ hE.1, ep, ?_, ?_⟩
  · rw [List.length_map, hl]
    exact Nat.le_of_lt (small1000 (by show n + 2 ≤ 1000; omega))
  have em : ts.map V.ref ++ [V.ref t, V.ref u] = (ts ++ [t, u]).map V.ref := by simp
  rw [em]
  refine q _ ⟨l, ts ++ [t, u], rfl, el_put hE s fun z hz => ?_, fun b' o hb => ?_, n0, by rw [List.length_append, hl]; rfl⟩
  · rcases List.mem_cons.mp hz with rfl | hz
    · exact ⟨x, a, hx, et, ea⟩
    · rcases List.mem_cons.mp hz with rfl | hz
      · exact ⟨y, b, hy, eu, eb⟩
      · cases hz
  · rw [upd_ne (ne_of_none hb n0)]
    exact s _ _ (s0 _ _ hb)
/-- found.extend([(x, X(value))]) -/
theorem err_ext1 {x : Str} {v : V} {H0 : Hp} {σ : L2.St} {H : Hp} {D : Ends} {n : Nat} (Z : Errs P w K mg base) (hx : x ∈ subNames) (hn : n ≤ 100) (h : ErrSt K v H0 σ H n) (q : ∀ H', ErrSt K v H0 σ H' (n + 1) → D.nx σ H') :
    tDrop (tBM K "list" rExtend (tVar 1) (tCons (tLst (tCons (tPairE K x) tNil)) tNil)) D σ H := by
  obtain ⟨l, ts, rfl, hE, s0, n0, hl⟩ := h
  refine ⟨_, rfl, .inl ⟨rfl, _, SqL.of hE.1⟩, ?_⟩
  show tLst (tCons (tPairE K x) tNil) _ H (fun z H2 => rExtend (.ref l) [z] H2 fun _ H3 => D.nx [some v, some (.ref l)] H3)
  refine lst1E Z (List.mem_cons_of_mem _ hx) rfl fun p t a H' s hp ep et ea => ?_
  refine ⟨l, p, _, _, rfl, rfl, s _ _ hE.1, ep, ?_, ?_⟩
  · rw [List.length_map, hl]
    exact Nat.le_of_lt (small1000 (by show n + 1 ≤ 1000; omega))
  have em : ts.map V.ref ++ [V.ref t] = (ts ++ [t]).map V.ref := by simp
  rw [em]
  refine q _ ⟨l, ts ++ [t], rfl, el_put hE s fun z hz => ?_, fun b' o hb => ?_, n0, by rw [List.length_append, hl]; rfl⟩
  · rcases List.mem_cons.mp hz with rfl | hz
    · exact ⟨x, a, hx, et, ea⟩
    · cases hz
  · rw [upd_ne (ne_of_none hb n0)]
    exact s _ _ (s0 _ _ hb)
/-- found = [(x, X(value)), (y, Y(value))] -/
theorem err_first {x y : Str} {v : V} {H : Hp} {D : Ends} (Z : Errs P w K mg base) (hx : x ∈ subNames) (hy : y ∈ subNames) (q : ∀ σ H', ErrSt K v H σ H' 2 → D.nx σ H') :
    tAsg (tLst (tCons (tPairE K x) (tCons (tPairE K y) tNil))) (gName 1) D [some v, none] H := by
  show tLst (tCons (tPairE K x) (tCons (tPairE K y) tNil)) [some v, none] H (fun z H1 => D.nx ([some v, none].set 1 (some z)) H1)
  refine lst2E Z (List.mem_cons_of_mem _ hx) (List.mem_cons_of_mem _ hy) rfl fun p t u a b H' s hp ep et eu ea eb => ?_
  refine q _ _ ⟨p, [t, u], rfl, ⟨ep, fun z hz => ?_⟩, s, hp, rfl⟩
  rcases List.mem_cons.mp hz with rfl | hz
  · exact ⟨x, a, hx, et, ea⟩
  · rcases List.mem_cons.mp hz with rfl | hz
    · exact ⟨y, b, hy, eu, eb⟩
    · cases hz
/-- _law_errors -/
def spErrors (K : PySem.W.Frag) : Sp := fun vs H Q _ => ∃ v, vs = [v] ∧ ∀ (l : Addr) (ts : List Addr) (H' : Hp), Same H H' → EL K H' l v ts → ts.length = 29 → Q (.ref l) H'

/-! ### the names of the classes that an error is of -/
/-- at l: pairs (name, is it of that name) for an error of the name X -/
def KL (H : Hp) (l : Addr) (X : Str) (ts : List (Addr × Str)) : Prop := H l = some (.lst (ts.map fun p => V.ref p.1)) ∧ ∀ p ∈ ts, H p.1 = some (.tup [.str p.2, .bl (decide (X = p.2))])
abbrev tPairK (K : PySem.W.Frag) (y : Str) : TE := tTup (tCons (tC (.str y)) (tCons (tCB (rIsE K) (tCons (tVar 0) (tCons (tC (.ref (He.ga K y))) tNil))) tNil))
theorem pairk {X y : Str} {e : Addr} {v : V} {σ : L2.St} {H : Hp} {Q : VK} (Z : Errs P w K mg base) (hX : X ∈ errNames) (hy : y ∈ subNames) (hv : σ[0]? = some (some (.ref e))) (hE : ErrAt K H e X v)
    (h : ∀ t, H t = none → Q (.ref t) (upd H t (.tup [.str y, .bl (decide (X = y))]))) : tPairK K y σ H Q :=
  ⟨_, hv, (show rIsE K [.ref e, .ref (He.ga K y)] H (fun b H' => [V.str y, b].length ≤ sizeLine ∧ ∀ p, H' p = none → Q (.ref p) (upd H' p (.tup [.str y, b]))) from isi_made Z hX hy hE ⟨(by show 2 ≤ sizeLine; decide), fun t ht => h t ht⟩)⟩
theorem lst2K {X x y : Str} {e : Addr} {v : V} {σ : L2.St} {H : Hp} {Q : VK} (Z : Errs P w K mg base) (hX : X ∈ errNames) (hx : x ∈ subNames) (hy : y ∈ subNames) (hv : σ[0]? = some (some (.ref e))) (hE : ErrAt K H e X v)
    (q : ∀ p t u H', Same H H' → H p = none → H' p = some (.lst [.ref t, .ref u]) → H' t = some (.tup [.str x, .bl (decide (X = x))]) → H' u = some (.tup [.str y, .bl (decide (X = y))]) → Q (.ref p) H') :
    tLst (tCons (tPairK K x) (tCons (tPairK K y) tNil)) σ H Q := by
  show tPairK K x σ H (fun x1 H1 => tPairK K y σ H1 (fun y1 H2 => [x1, y1].length ≤ sizeLine ∧ ∀ p, H2 p = none → Q (.ref p) (upd H2 p (.lst [x1, y1]))))
  refine pairk Z hX hx hv hE fun t ht => ?_
  have s1 : Same H (upd H t (.tup [.str x, .bl (decide (X = x))])) := Same.new ht
  refine pairk Z hX hy hv (hE.same s1) fun u hu => ?_
  have s2 := Same.new (o := .tup [.str y, .bl (decide (X = y))]) hu
  refine ⟨(by show 2 ≤ sizeLine; decide), fun p hp => ?_⟩
  have s3 := Same.new (o := .lst [.ref t, .ref u]) hp
  exact q p t u _ ((s1.trans s2).trans s3) ((s1.trans s2).free hp) upd_same (s3 _ _ (s2 _ _ upd_same)) (s3 _ _ upd_same)
theorem lst1K {X x : Str} {e : Addr} {v : V} {σ : L2.St} {H : Hp} {Q : VK} (Z : Errs P w K mg base) (hX : X ∈ errNames) (hx : x ∈ subNames) (hv : σ[0]? = some (some (.ref e))) (hE : ErrAt K H e X v)
    (q : ∀ p t H', Same H H' → H p = none → H' p = some (.lst [.ref t]) → H' t = some (.tup [.str x, .bl (decide (X = x))]) → Q (.ref p) H') :
    tLst (tCons (tPairK K x) tNil) σ H Q := by
  show tPairK K x σ H (fun x1 H1 => [x1].length ≤ sizeLine ∧ ∀ p, H1 p = none → Q (.ref p) (upd H1 p (.lst [x1])))
  refine pairk Z hX hx hv hE fun t ht => ?_
  have s1 : Same H (upd H t (.tup [.str x, .bl (decide (X = x))])) := Same.new ht
  refine ⟨(by show 1 ≤ sizeLine; decide), fun p hp => ?_⟩
  have s3 := Same.new (o := .lst [.ref t]) hp
  exact q p t _ (s1.trans s3) (s1.free hp) upd_same (s3 _ _ upd_same)
def KSt (K : PySem.W.Frag) (X : Str) (e : Addr) (v : V) (H0 : Hp) (σ : L2.St) (H : Hp) (ns : List Str) : Prop := ∃ (l : Addr) (ts : List (Addr × Str)), σ = [some (.ref e), some (.ref l), none, none] ∧ KL H l X ts ∧ ErrAt K H e X v ∧ Same H0 H ∧ H0 l = none ∧ ts.map (·.2) = ns
theorem kl_put {H H' : Hp} {l : Addr} {X : Str} {ts us : List (Addr × Str)} (h : KL H l X ts) (s : Same H H') (hu : ∀ p ∈ us, H' p.1 = some (.tup [.str p.2, .bl (decide (X = p.2))])) : KL (upd H' l (.lst ((ts ++ us).map fun p => V.ref p.1))) l X (ts ++ us) := by
  have hl := s _ _ h.1
  refine ⟨upd_same, fun p hp => ?_⟩
  have key : H' p.1 = some (.tup [.str p.2, .bl (decide (X = p.2))]) := by
    rcases List.mem_append.mp hp with z | z
    · exact s _ _ (h.2 p z)
    · exact hu p z
  rw [upd_ne (ne_of key hl (by intro z; cases z))]
  exact key
theorem k_ext2 {X x y : Str} {e : Addr} {v : V} {H0 : Hp} {σ : L2.St} {H : Hp} {D : Ends} {ns : List Str} (Z : Errs P w K mg base) (hX : X ∈ errNames) (hx : x ∈ subNames) (hy : y ∈ subNames) (hn : ns.length ≤ 100) (h : KSt K X e v H0 σ H ns)
    (q : ∀ H', KSt K X e v H0 σ H' (ns ++ [x, y]) → D.nx σ H') : tDrop (tBM K "list" rExtend (tVar 1) (tCons (tLst (tCons (tPairK K x) (tCons (tPairK K y) tNil))) tNil)) D σ H := by
  obtain ⟨l, ts, rfl, hK, hE, s0, n0, hl⟩ := h
  refine ⟨_, rfl, .inl ⟨rfl, _, SqL.of hK.1⟩, ?_⟩
  show tLst (tCons (tPairK K x) (tCons (tPairK K y) tNil)) _ H (fun z H2 => rExtend (.ref l) [z] H2 fun _ H3 => D.nx [some (.ref e), some (.ref l), none, none] H3)
  refine lst2K Z hX hx hy rfl hE fun p t u H' s hp ep et eu => ?_
  refine ⟨l, p, _, _, rfl, rfl, s _ _ hK.1, ep, ?_, ?_⟩
  · have : ts.length = ns.length := by rw [← hl, List.length_map]
    rw [List.length_map, this]
    exact Nat.le_of_lt (small1000 (by show ns.length + 2 ≤ 1000; omega))
  have em : ts.map (fun p => V.ref p.1) ++ [V.ref t, V.ref u] = (ts ++ [(t, x), (u, y)]).map fun p => V.ref p.1 := by simp
  rw [em]
  refine q _ ⟨l, ts ++ [(t, x), (u, y)], rfl, kl_put hK s fun z hz => ?_, (hE.same s).upd (s _ _ hK.1), fun b' o hb => ?_, n0, by rw [List.map_append, hl]; rfl⟩
  · rcases List.mem_cons.mp hz with rfl | hz
    · exact et
    · rcases List.mem_cons.mp hz with rfl | hz
      · exact eu
      · cases hz
  · rw [upd_ne (ne_of_none hb n0)]
    exact s _ _ (s0 _ _ hb)
theorem k_ext1 {X x : Str} {e : Addr} {v : V} {H0 : Hp} {σ : L2.St} {H : Hp} {D : Ends} {ns : List Str} (Z : Errs P w K mg base) (hX : X ∈ errNames) (hx : x ∈ subNames) (hn : ns.length ≤ 100) (h : KSt K X e v H0 σ H ns)
    (q : ∀ H', KSt K X e v H0 σ H' (ns ++ [x]) → D.nx σ H') : tDrop (tBM K "list" rExtend (tVar 1) (tCons (tLst (tCons (tPairK K x) tNil)) tNil)) D σ H := by
  obtain ⟨l, ts, rfl, hK, hE, s0, n0, hl⟩ := h
  refine ⟨_, rfl, .inl ⟨rfl, _, SqL.of hK.1⟩, ?_⟩
  show tLst (tCons (tPairK K x) tNil) _ H (fun z H2 => rExtend (.ref l) [z] H2 fun _ H3 => D.nx [some (.ref e), some (.ref l), none, none] H3)
  refine lst1K Z hX hx rfl hE fun p t H' s hp ep et => ?_
  refine ⟨l, p, _, _, rfl, rfl, s _ _ hK.1, ep, ?_, ?_⟩
  · have : ts.length = ns.length := by rw [← hl, List.length_map]
    rw [List.length_map, this]
    exact Nat.le_of_lt (small1000 (by show ns.length + 1 ≤ 1000; omega))
  have em : ts.map (fun p => V.ref p.1) ++ [V.ref t] = (ts ++ [(t, x)]).map fun p => V.ref p.1 := by simp
  rw [em]
  refine q _ ⟨l, ts ++ [(t, x)], rfl, kl_put hK s fun z hz => ?_, (hE.same s).upd (s _ _ hK.1), fun b' o hb => ?_, n0, by rw [List.map_append, hl]; rfl⟩
  · rcases List.mem_cons.mp hz with rfl | hz
    · exact et
    · cases hz
  · rw [upd_ne (ne_of_none hb n0)]
    exact s _ _ (s0 _ _ hb)
theorem k_app {X x : Str} {e : Addr} {v : V} {H0 : Hp} {σ : L2.St} {H : Hp} {D : Ends} {ns : List Str} (Z : Errs P w K mg base) (hX : X ∈ errNames) (hx : x ∈ subNames) (hn : ns.length ≤ 100) (h : KSt K X e v H0 σ H ns)
    (q : ∀ H', KSt K X e v H0 σ H' (ns ++ [x]) → D.nx σ H') : tDrop (tBM K "list" rAppend (tVar 1) (tCons (tPairK K x) tNil)) D σ H := by
  obtain ⟨l, ts, rfl, hK, hE, s0, n0, hl⟩ := h
  refine ⟨_, rfl, .inl ⟨rfl, _, SqL.of hK.1⟩, ?_⟩
  show tPairK K x _ H (fun z H2 => rAppend (.ref l) [z] H2 fun _ H3 => D.nx [some (.ref e), some (.ref l), none, none] H3)
  refine pairk Z hX hx rfl hE fun t ht => ?_
  have s : Same H (upd H t (.tup [.str x, .bl (decide (X = x))])) := Same.new ht
  refine ⟨l, _, _, rfl, rfl, s _ _ hK.1, ?_, ?_⟩
  · have : ts.length = ns.length := by rw [← hl, List.length_map]
    rw [List.length_map, this]
    exact small1000 (by omega)
  have em : ts.map (fun p => V.ref p.1) ++ [V.ref t] = (ts ++ [(t, x)]).map fun p => V.ref p.1 := by simp
  rw [em]
  refine q _ ⟨l, ts ++ [(t, x)], rfl, kl_put hK s fun z hz => ?_, (hE.same s).upd (s _ _ hK.1), fun b' o hb => ?_, n0, by rw [List.map_append, hl]; rfl⟩
  · rcases List.mem_cons.mp hz with rfl | hz
    · exact upd_same
    · cases hz
  · rw [upd_ne (ne_of_none hb n0)]
    exact s _ _ (s0 _ _ hb)
theorem k_first {X x y : Str} {e : Addr} {v : V} {H : Hp} {D : Ends} (Z : Errs P w K mg base) (hX : X ∈ errNames) (hx : x ∈ subNames) (hy : y ∈ subNames) (hE : ErrAt K H e X v)
    (q : ∀ σ H', KSt K X e v H σ H' [x, y] → D.nx σ H') : tAsg (tLst (tCons (tPairK K x) (tCons (tPairK K y) tNil))) (gName 1) D [some (.ref e), none, none, none] H := by
  show tLst (tCons (tPairK K x) (tCons (tPairK K y) tNil)) [some (.ref e), none, none, none] H (fun z H1 => D.nx ([some (.ref e), none, none, none].set 1 (some z)) H1)
  refine lst2K Z hX hx hy rfl hE fun p t u H' s hp ep et eu => ?_
  refine q _ _ ⟨p, [(t, x), (u, y)], rfl, ⟨ep, fun z hz => ?_⟩, hE.same s, s, hp, rfl⟩
  rcases List.mem_cons.mp hz with rfl | hz
  · exact et
  · rcases List.mem_cons.mp hz with rfl | hz
    · exact eu
    · cases hz
/-- [name for name, is_form in found if is_form] -/
theorem k_comp {X : Str} {e : Addr} {v : V} {H0 : Hp} {σ : L2.St} {H : Hp} {Q : VK} {ns : List Str} (h : KSt K X e v H0 σ H ns) (hn : ns.length ≤ 100)
    (q : ∀ p H', Same H H' → ErrAt K H' e X v → H' p = some (.lst ((ns.filter fun y => decide (X = y)).map V.str)) → Q (.ref p) H') :
    tLc (iList K (tVar 1)) (gTup K 2 (gCons (gName 2) (gCons (gName 3) gNil))) (tB (tVar 3)) (tVar 2) [2, 3] σ H Q := by
  obtain ⟨l, ts, rfl, hK, hE, s0, n0, hl⟩ := h
  refine ⟨_, rfl, l, rfl, ⟨_, SqL.of hK.1⟩, fun D hD => ?_⟩
  have nl : l ≠ D := ne_of_none hK.1 hD
  refine lc_list (K := K) (a := l) (xs := ts.map fun p => V.ref p.1) (fun i H' => Same H H' ∧ H' D = some (.lst (((ts.take i).filter fun p => decide (X = p.2)).map fun p => V.str p.2)))
    ⟨Same.new hD, upd_same⟩ (fun i H' _ h => SqL.of (h.1 _ _ hK.1)) ?_ ?_
  · rintro i z H' hi ⟨s, hd⟩
    have hi2 : i < ts.length := by
      have := (List.getElem?_eq_some_iff.mp hi).1
      simpa using this
    have ez : z = V.ref (ts[i]).1 := by
      rw [List.getElem?_map, List.getElem?_eq_getElem hi2] at hi
      exact (Option.some.inj hi).symm
    subst ez
    have ht := s _ _ (hK.2 ts[i] (List.getElem_mem hi2))
    refine ⟨_, _, rfl, SqT.of ht, rfl, _, _, rfl, _, _, rfl, rfl, rfl, _, rfl, _, rfl, ?_⟩
    have tk : ts.take (i + 1) = ts.take i ++ [ts[i]] := by rw [List.take_add_one, List.getElem?_eq_getElem hi2]; rfl
    by_cases c : X = (ts[i]).2
    · dsimp only
      rw [decide_eq_true c, if_pos rfl]
      refine ⟨_, rfl, _, hd, ?_, fun b o hb => ?_, ?_⟩
      · refine small1000 ?_
        rw [List.length_map]
        refine Nat.le_trans (List.length_filter_le _ _) ?_
        rw [List.length_take]
        have : ts.length = ns.length := by rw [← hl, List.length_map]
        omega
      · rw [upd_ne (ne_of_none hb hD)]
        exact s _ _ hb
      · rw [upd_same, tk, List.filter_append, List.map_append]
        have f1 : [ts[i]].filter (fun p => decide (X = p.2)) = [ts[i]] := by rw [List.filter_cons, decide_eq_true c, if_pos rfl]; rfl
        rw [f1]
        rfl
    · dsimp only
      rw [decide_eq_false c, if_neg Bool.false_ne_true]
      refine ⟨s, ?_⟩
      rw [tk, List.filter_append]
      have f1 : [ts[i]].filter (fun p => decide (X = p.2)) = [] := by rw [List.filter_cons, decide_eq_false c, if_neg Bool.false_ne_true]; rfl
      rw [f1, List.append_nil]
      exact hd
  · rintro H' ⟨s, hd⟩
    refine q D H' s (hE.same s) ?_
    rw [hd, List.length_map, List.take_length, ← hl, List.filter_map, List.map_map]
    rfl
/-- the names of an error's own class among these -/
def spKinds (K : PySem.W.Frag) (ns : List Str) : Sp := fun vs H Q _ => ∃ (e : Addr) (X : Str) (v : V), vs = [.ref e] ∧ X ∈ errNames ∧ ErrAt K H e X v ∧ ∀ p H', Same H H' → H' p = some (.lst ((ns.filter fun y => decide (X = y)).map V.str)) → Q (.ref p) H'
end
end Lm

namespace Lm
open PySem PySem.Spec PyProof.Rows L2
open C8 (Cal Mak Met pe_c pe_mk pe_mt pe_mt0 pss_cut tCut)

/-! ## Tests and expressions that only add to the heap -/
/-- the test comes to b -/
def Says (b : Bool) (c : TT) (σ : L2.St) (H : Hp) : Prop := ∀ Q : Bool → Hp → Prop, (∀ H', Same H H' → Q b H') → c σ H Q
/-- the expression comes to some v of which p holds -/
def Giv (te : TE) (σ : L2.St) (H : Hp) (p : V → Hp → Prop) : Prop := ∀ Q : VK, (∀ v H', Same H H' → p v H' → Q v H') → te σ H Q
section
variable {σ : L2.St} {H : Hp} {b : Bool} {A B c : TT} {t u : TS} {D : Ends}
theorem says_or (h : Says false A σ H) (k : ∀ H', Same H H' → Says b B σ H') : Says b (tOr A B) σ H := fun Q q => by
  refine h _ fun H' s => ?_
  show (if false = true then Q true H' else B σ H' Q)
  rw [if_neg Bool.false_ne_true]
  exact k H' s Q fun H2 s2 => q H2 (s.trans s2)
theorem says_or_t (h : Says true A σ H) : Says true (tOr A B) σ H := fun Q q => by
  refine h _ fun H' s => ?_
  show (if true = true then Q true H' else B σ H' Q)
  rw [if_pos rfl]
  exact q H' s
theorem says_and (h : Says true A σ H) (k : ∀ H', Same H H' → Says b B σ H') : Says b (tAnd A B) σ H := fun Q q => by
  refine h _ fun H' s => ?_
  show (if true = true then B σ H' Q else Q false H')
  rw [if_pos rfl]
  exact k H' s Q fun H2 s2 => q H2 (s.trans s2)
theorem says_and_f (h : Says false A σ H) : Says false (tAnd A B) σ H := fun Q q => by
  refine h _ fun H' s => ?_
  show (if false = true then B σ H' Q else Q false H')
  rw [if_neg Bool.false_ne_true]
  exact q H' s
theorem says_not (h : Says b A σ H) : Says (!b) (tNot A) σ H := fun Q q => h _ fun H' s => q H' s
theorem if_no (h : Says false c σ H) (q : ∀ H', Same H H' → u D σ H') : tIfS c t u D σ H := by
  refine h _ fun H' s => ?_
  show (if false = true then t D σ H' else u D σ H')
  rw [if_neg Bool.false_ne_true]
  exact q H' s
theorem if_yes (h : Says true c σ H) (q : ∀ H', Same H H' → t D σ H') : tIfS c t u D σ H := by
  refine h _ fun H' s => ?_
  show (if true = true then t D σ H' else u D σ H')
  rw [if_pos rfl]
  exact q H' s
/-- a test by a value -/
theorem says_val {te : TE} (h : Giv te σ H fun v _ => v = .bl b) : Says b (tB te) σ H := fun Q q => h _ fun v H' s e => ⟨b, e, q H' s⟩
theorem says_test {te : TE} (h : Giv te σ H fun v _ => v = .bl b) : Says b (tTest te) σ H := fun Q q => h _ fun v H' s e => ⟨b, e, q H' s⟩
theorem giv_var {i : Nat} {v : V} (h : σ[i]? = some (some v)) : Giv (tVar i) σ H fun x _ => x = v := fun Q q => ⟨v, h, q v H (Same.refl H) rfl⟩
theorem giv_c {v : V} : Giv (tC v) σ H fun x _ => x = v := fun Q q => q v H (Same.refl H) rfl
theorem Giv.mono {te : TE} {p q : V → Hp → Prop} (h : Giv te σ H p) (k : ∀ v H', Same H H' → p v H' → q v H') : Giv te σ H q := fun Q r => h Q fun v H' s e => r v H' s (k v H' s e)
/-- an operator -/
theorem giv_op {r : R2} {ta tb : TE} {p q : V → Hp → Prop} {o : V → Hp → Prop} (ha : Giv ta σ H p) (hb : ∀ x H1, Same H H1 → p x H1 → Giv tb σ H1 q)
    (ho : ∀ x y H1 H2, Same H H1 → Same H1 H2 → p x H1 → q y H2 → ∀ Q : VK, (∀ v H', Same H2 H' → o v H' → Q v H') → r x y H2 Q) : Giv (tOp r ta tb) σ H o := fun Q k =>
  ha _ fun x H1 s1 e1 => hb x H1 s1 e1 _ fun y H2 s2 e2 => ho x y H1 H2 s1 s2 e1 e2 Q fun v H' s3 e3 => k v H' ((s1.trans s2).trans s3) e3
/-- a built-in of one argument -/
theorem giv_b1 {r : List V → Hp → VK → Prop} {ta : TE} {p o : V → Hp → Prop} (ha : Giv ta σ H p) (hr : ∀ x H1, Same H H1 → p x H1 → ∀ Q : VK, (∀ v H', Same H1 H' → o v H' → Q v H') → r [x] H1 Q) : Giv (tCB r (tCons ta tNil)) σ H o := fun Q k =>
  ha _ fun x H1 s1 e1 => hr x H1 s1 e1 Q fun v H' s2 e2 => k v H' (s1.trans s2) e2
theorem giv_b2 {r : List V → Hp → VK → Prop} {ta tb : TE} {p q o : V → Hp → Prop} (ha : Giv ta σ H p) (hb : ∀ x H1, Same H H1 → p x H1 → Giv tb σ H1 q)
    (hr : ∀ x y H1 H2, Same H H1 → Same H1 H2 → p x H1 → q y H2 → ∀ Q : VK, (∀ v H', Same H2 H' → o v H' → Q v H') → r [x, y] H2 Q) : Giv (tCB r (tCons ta (tCons tb tNil))) σ H o := fun Q k =>
  ha _ fun x H1 s1 e1 => hb x H1 s1 e1 _ fun y H2 s2 e2 => hr x y H1 H2 s1 s2 e1 e2 Q fun v H' s3 e3 => k v H' ((s1.trans s2).trans s3) e3
/-- repr of small data -/
theorem giv_repr {te : TE} {B k : Nat} (hB : B ≤ 1000) (hk : k ≤ 60) {v : V} (h : Giv te σ H fun x _ => x = v) {d : PyData} (hd : Dr H v d) (h1 : d.showable = true) (h2 : d.depth ≤ k) (h3 : d.shown.length ≤ B) : Giv (tCB rReprD (tCons te tNil)) σ H fun x _ => x = .str d.shown :=
  giv_b1 h fun x H1 s e Q q => by
    subst e
    exact ⟨_, d, rfl, hd.same s, h1, Nat.le_trans h2 hk, Nat.le_trans h3 (Nat.le_of_lt (small1000 hB)), q _ H1 (Same.refl H1) rfl⟩
theorem giv_ne {ta tb : TE} {x y : V} (hs : scal x y = true) (ha : Giv ta σ H fun z _ => z = x) (hb : ∀ H1, Same H H1 → Giv tb σ H1 fun z _ => z = y) : Giv (tOp rNe ta tb) σ H fun v _ => v = .bl (!decide (x = y)) :=
  giv_op ha (fun _ H1 s _ => hb H1 s) fun a b H1 H2 _ _ ea eb Q q => by
    subst ea eb
    exact ⟨hs, q _ H2 (Same.refl H2) rfl⟩
theorem giv_eq {ta tb : TE} {x y : V} (hs : scal x y = true) (ha : Giv ta σ H fun z _ => z = x) (hb : ∀ H1, Same H H1 → Giv tb σ H1 fun z _ => z = y) : Giv (tOp rEq ta tb) σ H fun v _ => v = .bl (decide (x = y)) :=
  giv_op ha (fun _ H1 s _ => hb H1 s) fun a b H1 H2 _ _ ea eb Q q => by
    subst ea eb
    exact ⟨hs, q _ H2 (Same.refl H2) rfl⟩
/-- x = e -/
theorem asg_giv {te : TE} {i : Nat} {p : V → Hp → Prop} (h : Giv te σ H p) (q : ∀ v H', Same H H' → p v H' → D.nx (σ.set i (some v)) H') : tAsg te (gName i) D σ H := h _ fun v H' s e => q v H' s e
theorem ret_giv {te : TE} {p : V → Hp → Prop} (h : Giv te σ H p) (q : ∀ v H', Same H H' → p v H' → D.rt v H') : tRet te D σ H := h _ fun v H' s e => q v H' s e
end
section
variable {P : Program} {w : World} {K : PySem.W.Frag} {mg : Str → Option Value} {base : Heap} {σ : L2.St} {H : Hp}
theorem giv_err {x : Str} {te : TE} {v : V} (Z : Errs P w K mg base) (hx : x ∈ errNames) (h : Giv te σ H fun y _ => y = v) : Giv (tErr K x (tCons te tNil)) σ H fun y H' => ∃ a, y = .ref a ∧ H a = none ∧ ErrAt K H' a x v := fun Q q => by
  obtain ⟨fI, C⟩ := Z.err hx
  refine h _ fun y H1 s e => ?_
  subst e
  refine ⟨(by decide : 1 ≤ 1000), fun a ha => ⟨a, _, y, rfl, C.T, C.nv, upd_same, fun dx hdx hne => ⟨rfl, ?_⟩⟩⟩
  have hd : H1 dx = none := by
    rw [upd_ne hne] at hdx
    exact hdx
  refine q _ _ (s.trans fun b o hb => ?_) ⟨a, rfl, s.free ha, dx, upd_same, by rw [upd_ne hne]; exact upd_same⟩
  have n1 : b ≠ a := ne_of_none hb ha
  rw [upd_ne n1, upd_ne (ne_of_none hb hd), upd_ne n1]
  exact hb
theorem giv_value {x : Str} {te : TE} {e : Addr} {v : V} (Z : Errs P w K mg base) (hx : x ∈ errNames) (h : Giv te σ H fun y _ => y = .ref e) (hE : ErrAt K H e x v) : Giv (tExF K "value" te) σ H fun y _ => y = v := fun Q q => by
  obtain ⟨fI, C⟩ := Z.err hx
  refine h _ fun y H1 s ey => ?_
  subst ey
  obtain ⟨d, h1, h2⟩ := hE.same s
  exact ⟨e, _, d, _, v, rfl, C.xf, C.nv, h1, h2, by simp [List.lookup], q v H1 s rfl⟩
theorem giv_isi {x y : Str} {ta tb : TE} {e : Addr} {v : V} (Z : Errs P w K mg base) (hx : x ∈ errNames) (hy : y ∈ subNames) (ha : Giv ta σ H fun z _ => z = .ref e) (hb : ∀ H1, Same H H1 → Giv tb σ H1 fun z _ => z = .ref (He.ga K y)) (hE : ErrAt K H e x v) :
    Giv (tCB (rIsE K) (tCons ta (tCons tb tNil))) σ H fun z _ => z = .bl (decide (x = y)) :=
  giv_b2 ha (fun _ H1 s _ => hb H1 s) fun a b H1 H2 s1 s2 ea eb Q q => by
    subst ea eb
    exact isi_made Z hx hy (hE.same (s1.trans s2)) (q _ H2 (Same.refl H2) rfl)
theorem giv_isiM {x : Str} {ta tb : TE} {e : Addr} {v : V} (Z : Errs P w K mg base) (hx : x ∈ errNames) (ha : Giv ta σ H fun z _ => z = .ref e) (hb : ∀ H1, Same H H1 → Giv tb σ H1 fun z _ => z = .ref (He.ga K "MirrorError")) (hE : ErrAt K H e x v) :
    Giv (tCB (rIsE K) (tCons ta (tCons tb tNil))) σ H fun z _ => z = .bl true :=
  giv_b2 ha (fun _ H1 s _ => hb H1 s) fun a b H1 H2 s1 s2 ea eb Q q => by
    subst ea eb
    exact isi_M Z hx (hE.same (s1.trans s2)) (q _ H2 (Same.refl H2) rfl)
theorem giv_isiV {x : Str} {ta tb : TE} {e : Addr} {v : V} (Z : Errs P w K mg base) (hx : x ∈ errNames) (ha : Giv ta σ H fun z _ => z = .ref e) (hb : ∀ H1, Same H H1 → Giv tb σ H1 fun z _ => z = .ty "ValueError") (hE : ErrAt K H e x v) :
    Giv (tCB (rIsE K) (tCons ta (tCons tb tNil))) σ H fun z _ => z = .bl true :=
  giv_b2 ha (fun _ H1 s _ => hb H1 s) fun a b H1 H2 s1 s2 ea eb Q q => by
    subst ea eb
    exact isi_V Z hx (hE.same (s1.trans s2)) (q _ H2 (Same.refl H2) rfl)
/-- what is fresh, by the general rule -/
theorem fresh_of {H H1 H2 : Hp} (k : ∀ b o, H b = none → H1 b = some o → H2 b = some o) : Same (fresh H H1) (fresh H H2) := fun b o e => by
  unfold fresh at e ⊢
  cases h : H b with
  | some u =>
    rw [h] at e
    cases e
  | none =>
    rw [h] at e
    exact k b o h e
theorem fresh_less {H H1 H2 : Hp} (k : ∀ b, H1 b = none → H b = none) : Same (fresh H1 H2) (fresh H H2) := fun b o e => by
  unfold fresh at e ⊢
  cases h : H1 b with
  | some u =>
    rw [h] at e
    cases e
  | none =>
    rw [h] at e
    rw [k b h]
    exact e
end
end Lm

namespace Lm
open PySem PySem.Spec PyProof.Rows L2

/-! ## What the head must tell of the errors, as one Bool -/
def oexB (K : PySem.W.Frag) (C : Addr) : Bool := match K.lookup C with
  | some ⟨.type T, _, .cls cd, sl⟩ => (match cd.mro, sl.toList with
    | .ref C' :: bm, [_, _, _, _, some (.builtin n), _] => decide (T = "type") && (decide (C' = C) && (decide (n = "ValueError.__new__") && (!cd.hasDel && (cd.hasDict && PySem.HandSPX.refsVE bm))))
    | _, _ => false)
  | _ => false
theorem oexB_ok {K : PySem.W.Frag} {C : Addr} (h : oexB K C = true) : ∃ nm q N bs bm sn sub ab col dd k0 k1 k2 k3 k5, K.lookup C = some (excClassObj nm q C N bs bm true sn sub ab col dd k0 k1 k2 k3 k5 "ValueError.__new__") ∧ PySem.HandSPX.refsVE bm = true := by
  unfold oexB at h
  split at h
  · rename_i T dd cd sl ho
    split at h
    · rename_i C' bm k0 k1 k2 k3 n k5 hm hs
      obtain ⟨h1, h⟩ := He.ba h
      obtain ⟨h2, h⟩ := He.ba h
      obtain ⟨h3, h⟩ := He.ba h
      obtain ⟨h4, h⟩ := He.ba h
      obtain ⟨h5, h6⟩ := He.ba h
      obtain ⟨nm, bs, mro, ns, qn, hd, sn, sub, ab, col, del⟩ := cd
      dsimp only at hm h4 h5
      have e1 : T = "type" := of_decide_eq_true h1
      have e2 : C' = C := of_decide_eq_true h2
      have e3 : n = "ValueError.__new__" := of_decide_eq_true h3
      have e4 : del = false := by simpa using h4
      subst e1 e2 e3 e4 h5 hm
      have e5 : sl = #[k0, k1, k2, k3, some (.builtin "ValueError.__new__"), k5] := by
        obtain ⟨l⟩ := sl
        simp only at hs
        rw [hs]
      subst e5
      exact ⟨nm, qn, ns, bs, bm, sn, sub, ab, col, dd, k0, k1, k2, k3, k5, ho, h6⟩
    · cases h
  · cases h
def excB (K : PySem.W.Frag) (D : Addr) : Bool := He.eqO (PySem.W.findIn K (.ref D) "__getattribute__") (some (some (.builtin "BaseException.__getattribute__"))) && (He.eqO (PySem.W.findIn K (.ref D) "__getattr__") (some none) && (decide (PySem.W.subIn K (.ref D) (.type "BaseException") = some true) &&
  (PySem.W.hasDictIn K D && (He.eqO (PySem.W.findIn K (.ref D) "__class__") (some (some (.builtin "object.__class__"))) && (He.eqO (PySem.W.specialIn K (.builtin "object.__class__") "__get__") (some (some (.builtin "getset_descriptor.__get__"))) &&
  (decide (PySem.W.takesIn K (.builtin "object.__class__") = some true) && decide (PySem.W.mroIn K D (.type "object") = some true)))))))
theorem excB_ok {K : PySem.W.Frag} {D : Addr} (h : excB K D = true) : ExcC K D := by
  obtain ⟨h1, h⟩ := He.ba h
  obtain ⟨h2, h⟩ := He.ba h
  obtain ⟨h3, h⟩ := He.ba h
  obtain ⟨h4, h⟩ := He.ba h
  obtain ⟨h5, h⟩ := He.ba h
  obtain ⟨h6, h⟩ := He.ba h
  obtain ⟨h7, h8⟩ := He.ba h
  exact ⟨He.eqO_ok h1, He.eqO_ok h2, of_decide_eq_true h3, h4, He.eqO_ok h5, He.eqO_ok h6, of_decide_eq_true h7, of_decide_eq_true h8⟩
/-- MirrorError.__init__ -/
def iniA (K : PySem.W.Frag) : Addr := He.ma K (He.ga K "MirrorError") "__init__"
def errB (K : PySem.W.Frag) (x : Str) : Bool := oexB K (He.ga K x) && (He.eqO (PySem.W.findIn K (.ref (He.ga K x)) "__setattr__") (some (some (.builtin "object.__setattr__"))) && (decide (PySem.W.subIn K (.ref (He.ga K x)) (.type "BaseException") = some true) &&
  (decide (PySem.W.typeIn K (.ref (He.ga K x)) = some (.type "type")) && (PySem.W.keepIn K (.ref (He.ga K x)) && (He.eqO (PySem.W.findIn K (.ref (He.ga K x)) "__init__") (some (some (.ref (iniA K)))) &&
  (He.eqO (PySem.W.findIn K (.ref (He.ga K x)) "value") (some none) && (xfB K (He.ga K x) && excB K (He.ga K x))))))))
theorem errB_ok {K : PySem.W.Frag} {x : Str} (h : errB K x = true) : ErrC K (He.ga K x) (iniA K) := by
  obtain ⟨h1, h⟩ := He.ba h
  obtain ⟨h2, h⟩ := He.ba h
  obtain ⟨h3, h⟩ := He.ba h
  obtain ⟨h4, h⟩ := He.ba h
  obtain ⟨h5, h⟩ := He.ba h
  obtain ⟨h6, h⟩ := He.ba h
  obtain ⟨h7, h⟩ := He.ba h
  obtain ⟨h8, h9⟩ := He.ba h
  exact ⟨⟨oexB_ok h1, He.eqO_ok h2, of_decide_eq_true h3, of_decide_eq_true h4, h5⟩, He.eqO_ok h6, He.eqO_ok h7, xfB_ok h8, excB_ok h9⟩
def errsB (K : PySem.W.Frag) : Bool := decide (PySem.W.typeIn K (.ref (iniA K)) = some (.type "function")) && (errNames.all fun x => errB K x && (decide (PySem.W.kitOne K (.ref (He.ga K x)) (.ref (He.ga K "MirrorError")) = some true) &&
  (decide (PySem.W.kitOne K (.ref (He.ga K x)) (.type "ValueError") = some true) && subNames.all fun y => decide (PySem.W.kitOne K (.ref (He.ga K x)) (.ref (He.ga K y)) = some (decide (x = y))))))
theorem errsB_ok {P : Program} {w : World} {K : PySem.W.Frag} {mg : Str → Option Value} {base : Heap} {fd : FuncData} (h : errsB K = true) (m : ∀ {x : Str}, x ∈ errNames → mg x = some (.ref (He.ga K x))) (F : FnOk P w K mg base CX0 1 (iniA K) fd ["self", "value"] (spErr K)) (b : Binds K fd ["self", "value"] []) :
    Errs P w K mg base := by
  obtain ⟨h1, h2⟩ := He.ba h
  have all := List.all_eq_true.mp h2
  have at_ : ∀ x ∈ errNames, errB K x = true ∧ PySem.W.kitOne K (.ref (He.ga K x)) (.ref (He.ga K "MirrorError")) = some true ∧ PySem.W.kitOne K (.ref (He.ga K x)) (.type "ValueError") = some true ∧ ∀ y ∈ subNames, PySem.W.kitOne K (.ref (He.ga K x)) (.ref (He.ga K y)) = some (decide (x = y)) := fun x hx => by
    obtain ⟨a1, a⟩ := He.ba (all x hx)
    obtain ⟨a2, a⟩ := He.ba a
    obtain ⟨a3, a4⟩ := He.ba a
    exact ⟨a1, of_decide_eq_true a2, of_decide_eq_true a3, fun y hy => of_decide_eq_true (List.all_eq_true.mp a4 y hy)⟩
  exact ⟨m, ⟨iniA K, fd, fun x hx => errB_ok (at_ x hx).1, of_decide_eq_true h1, F, b⟩, fun x hx => (at_ x hx).2.2.2, fun x hx => (at_ x hx).2.1, fun x hx => (at_ x hx).2.2.1⟩
/-- the built-ins' names that a law leaves as they are -/
def freeNames : List Str := ["len", "int", "abs", "range", "list", "max", "min", "all", "isinstance", "repr", "str", "tuple", "ValueError", "bool"]
theorem bl_of {mg : Str → Option Value} {base : Heap} (h : ∀ {x : Str}, x ∈ freeNames → mg x = none) (m : ∃ mm, base.Ns sysModules mm) : Bl mg base :=
  ⟨h (by decide +kernel), h (by decide +kernel), h (by decide +kernel), h (by decide +kernel), h (by decide +kernel), h (by decide +kernel), h (by decide +kernel), h (by decide +kernel), h (by decide +kernel), h (by decide +kernel), h (by decide +kernel), h (by decide +kernel), h (by decide +kernel), h (by decide +kernel), m⟩
end Lm

namespace K00
open PySem PySem.Spec PyProof.Rows L2 Lm
open C8 (Cal Mak Met pe_c pe_mk pe_mt pe_mt0 pss_cut tCut)
--KR 4
def top (i : Nat) : Stmt := PySem.Challenge.pw_loosemirrors_k00_errors_keep_their_value.main.body.getD i (.Pass ⟨0, 0, 0, 0⟩)
abbrev s_law_pot : Stmt := top 32
abbrev n_law_pot : List Str := ["script", "place", "cell", "own", "small"]
abbrev p_law_pot : List Str := ["script", "place"]
theorem sc_law_pot : FnScope n_law_pot p_law_pot (defScope s_law_pot) := ⟨rfl, rfl, rfl, by decide +kernel, rfl, by decide +kernel, by decide +kernel⟩
abbrev s_law_take : Stmt := top 33
abbrev n_law_take : List Str := ["pot", "upto", "digit", "prime", "blend"]
abbrev p_law_take : List Str := ["pot", "upto"]
theorem sc_law_take : FnScope n_law_take p_law_take (defScope s_law_take) := ⟨rfl, rfl, rfl, by decide +kernel, rfl, by decide +kernel, by decide +kernel⟩
abbrev s_law_of : Stmt := top 34
abbrev n_law_of : List Str := ["pot", "some"]
abbrev p_law_of : List Str := ["pot", "some"]
theorem sc_law_of : FnScope n_law_of p_law_of (defScope s_law_of) := ⟨rfl, rfl, rfl, by decide +kernel, rfl, by decide +kernel, by decide +kernel⟩
abbrev s_law_cells : Stmt := top 35
abbrev n_law_cells : List Str := ["script", "most"]
abbrev p_law_cells : List Str := ["script", "most"]
theorem sc_law_cells : FnScope n_law_cells p_law_cells (defScope s_law_cells) := ⟨rfl, rfl, rfl, by decide +kernel, rfl, by decide +kernel, by decide +kernel⟩
abbrev s_law_right : Stmt := top 40
abbrev n_law_right : List Str := ["pot", "value", "lap", "plain", "name", "made"]
abbrev p_law_right : List Str := ["pot"]
theorem sc_law_right : FnScope n_law_right p_law_right (defScope s_law_right) := ⟨rfl, rfl, rfl, by decide +kernel, rfl, by decide +kernel, by decide +kernel⟩
abbrev s_law : Stmt := top 41
abbrev n_law : List Str := ["script", "place"]
abbrev p_law : List Str := ["script"]
theorem sc_law : FnScope n_law p_law (defScope s_law) := ⟨rfl, rfl, rfl, by decide +kernel, rfl, by decide +kernel, by decide +kernel⟩
section
variable {P : Program} {w : World} {K : PySem.W.Frag} {mg : Str → Option Value} {base : Heap} {f : Addr} {fd : FuncData}
theorem ok_pot (F : FunD K "_law_pot" "_law_pot" (defArgs s_law_pot) (defBody s_law_pot) (defScope s_law_pot) [] [] f fd) (hm : mg "_law_pot" = some (.ref f)) (T : Bl mg base) : Cal P w K mg base 1 "_law_pot" (spPot K) [] := by
  refine calD F hm sc_law_pot (fun _ _ _ _ _ _ us hl => match us, hl with | [_, _], _ => rfl) (fun vs H Q E h => ?_) (fun cdv A outer s H vs Q E hr h => ?_)
  · obtain ⟨a, ns, j, rfl, _⟩ := h
    rfl
  obtain ⟨a, ns, j, rfl, hS, hj, k⟩ := h
  refine ⟨_, (pss_cut (ps_set (i := 2) sc_law_pot.nd rfl (by first | exact Or.inl rfl | exact Or.inr rfl) (pe_ifExp (pt_cmpR op_lt (pv 1) (pe_callB call_len_seq (by rfl) T.len (by decide +kernel) (pa_cons (pv 0) pa_nil)) (nomark _)) (pe_ix ix_seq (pv 0) (pv 1) (fun _ _ => rfl)) (pe_op op_add (pe_op op_mul pe_int (pv 1)) pe_int)))
    (pss_cons (ps_set (i := 3) sc_law_pot.nd rfl (by first | exact Or.inl rfl | exact Or.inr rfl) (pe_op op_mul (pe_op op_mod (pe_callTy call_int1 (by rfl) T.int (by decide +kernel) (pa_cons (pe_callB call_abs (by rfl) T.abs (by decide +kernel) (pa_cons (pv 2) pa_nil)) pa_nil)) (pe_op op_powW (pe_op op_pow pe_int pe_int) pe_int)) (pe_callTy call_int1 (by rfl) T.int (by decide +kernel) (pa_cons (pe_cmpR op_ge (pe_callB call_abs (by rfl) T.abs (by decide +kernel) (pa_cons (pv 2) pa_nil)) (pe_op op_pow pe_int pe_int) (nomark _)) pa_nil))))
    (pss_cons (ps_set (i := 4) sc_law_pot.nd rfl (by first | exact Or.inl rfl | exact Or.inr rfl) (pe_op op_mod (pe_callTy call_int1 (by rfl) T.int (by decide +kernel) (pa_cons (pv 2) pa_nil)) pe_int))
    (pss_one (ps_ret (pe_lst (pa_cons (pv 3) (pa_cons (pe_op op_mod (pe_callTy call_int1 (by rfl) T.int (by decide +kernel) (pa_cons (pe_op op_add (pe_op op_add (pe_op op_mul (pv 4) pe_int) (pe_op op_mul (pe_op op_mul pe_int (pv 1)) (pv 1))) pe_int) pa_nil)) pe_int) (pa_cons pe_int pa_nil))))))))), ?_⟩
  refine ⟨fun σ H' => H' = H ∧ ∃ c : Int, σ = [some (.ref a), some (.int (j : Int)), some (.int c), none, none], ?_, ?_⟩
  · refine ⟨_, rfl, _, rfl, a, _, rfl, .inl hS, _, _, rfl, rfl, _, rfl, ?_⟩
    refine ite2 (fun hc => ?_) (fun hc => ?_)
    · have hlt : (j : Int) < ((ns.map V.int).length : Nat) := of_decide_eq_true hc
      have hj2 : j < ns.length := by
        rw [List.length_map] at hlt
        omega
      exact ⟨_, rfl, _, rfl, .inl ⟨a, _, _, .int ns[j], rfl, rfl, hS, atI_of rfl (by rw [List.getElem?_map, List.getElem?_eq_getElem hj2] <;> rfl), rfl, _, rfl⟩⟩
    · exact ⟨_, rfl, _, _, rfl, rfl, .inl ⟨by decide, by decide⟩, _, _, rfl, rfl, rfl, _, rfl⟩
  · rintro σ H' ⟨rfl, c, rfl⟩
    -- own
    refine ⟨_, rfl, _, rfl, .inl ⟨_, rfl, _, _, rfl, rfl, ⟨by decide, by decide, by decide⟩, _, _, rfl, rfl, ⟨by decide, by decide +kernel⟩, _, _, rfl, rfl, (show (0 : Int) < _ by decide +kernel),
      _, rfl, _, rfl, _, _, rfl, rfl, ⟨by decide, by decide, by decide⟩, _, _, rfl, rfl, .inr ⟨_, rfl, _, _, rfl, rfl, .inr ?_, ?_⟩⟩⟩
    · have b := ite_b2i (c := decide ((10 : Int) ^ (18 : Int).toNat ≤ if c < 0 then -c else c))
      exact ⟨Int.lt_of_lt_of_le (by decide) b.1, Int.lt_of_le_of_lt b.2 (by decide)⟩
    -- small
    refine ⟨_, rfl, .inl ⟨_, rfl, _, _, rfl, rfl, (show (0 : Int) < _ by decide), ?_⟩⟩
    have b1 := mod_lt (x := c) (m := 2305843009213693951) (by decide)
    refine ⟨_, rfl, _, rfl, _, _, rfl, rfl, .inr ⟨by decide, by decide⟩, _, rfl, _, _, rfl, rfl, .inl ⟨by decide, by decide⟩, _, rfl, _, _, rfl, rfl, .inr ⟨by omega, by omega⟩, _, _, rfl, rfl, _, _, rfl, rfl,
      .inl ⟨_, rfl, _, _, rfl, rfl, (show (0 : Int) < _ by decide), (by show 3 ≤ sizeLine; decide), fun p hp => ?_⟩⟩
    refine k p _ hp ⟨_, _, _, upd_same, ⟨?_, ?_, ?_⟩, by decide, by decide⟩
    · have b := ite_b2i (c := decide ((10 : Int) ^ (18 : Int).toNat ≤ if c < 0 then -c else c))
      exact Int.mul_nonneg (mod_lt (by decide +kernel)).1 b.1
    · exact (mod_lt (by decide)).1
    · exact Int.lt_trans (mod_lt (by decide)).2 (by decide)
theorem ok_take (F : FunD K "_law_take" "_law_take" (defArgs s_law_take) (defBody s_law_take) (defScope s_law_take) [] [] f fd) (hm : mg "_law_take" = some (.ref f)) (T : Bl mg base) : Cal P w K mg base 1 "_law_take" spTake [] := by
  refine calD F hm sc_law_take (fun _ _ _ _ _ _ us hl => match us, hl with | [_, _], _ => rfl) (fun vs H Q E h => ?_) (fun cdv A outer s H vs Q E hr h => ?_)
  · obtain ⟨a, u, n, rfl, _⟩ := h
    rfl
  obtain ⟨a, u, n, rfl, ⟨p0, p1, p2, e, ⟨b0, b1, b1'⟩, b2, b2'⟩, hn, hu0, hu1, k⟩ := h
  refine ⟨_, (pss_cons (ps_if (pt_cmpR op_gt (pe_ix ix_seq (pv 0) pe_int (fun _ _ => rfl)) pe_int (nomark _)) (pss_cons (ps_set (i := 2) sc_law_take.nd rfl (by first | exact Or.inl rfl | exact Or.inr rfl) (pe_op op_mod (pe_callTy call_int1 (by rfl) T.int (by decide +kernel) (pa_cons (pe_ix ix_seq (pv 0) pe_int (fun _ _ => rfl)) pa_nil)) (pv 1)))
    (pss_cons (ps_asg (pe_op op_fdiv (pe_ix ix_seq (pv 0) pe_int (fun _ _ => rfl)) (pv 1)) (pg_sub (pv 0) pe_int set_list))
    (pss_one (ps_ret (pv 2))))) pss_nil)
    (pss_cons (ps_asg (pe_op op_add (pe_ix ix_seq (pv 0) pe_int (fun _ _ => rfl)) pe_int) (pg_sub (pv 0) pe_int set_list))
    (pss_cons (ps_set (i := 3) sc_law_take.nd rfl (by first | exact Or.inl rfl | exact Or.inr rfl) (pe_ix ix_seq (pe_lst (pa_cons pe_int (pa_cons pe_int (pa_cons pe_int (pa_cons pe_int (pa_cons pe_int pa_nil)))))) (pe_op op_mod (pe_callTy call_int1 (by rfl) T.int (by decide +kernel) (pa_cons (pe_ix ix_seq (pv 0) pe_int (fun _ _ => rfl)) pa_nil)) pe_int) (fun _ _ => rfl)))
    (pss_cons (ps_set (i := 4) sc_law_take.nd rfl (by first | exact Or.inl rfl | exact Or.inr rfl) (pe_op op_mod (pe_callTy call_int1 (by rfl) T.int (by decide +kernel) (pa_cons (pe_op op_pow (pe_callTy call_int1 (by rfl) T.int (by decide +kernel) (pa_cons (pe_op op_add (pe_op op_add (pe_ix ix_seq (pv 0) pe_int (fun _ _ => rfl)) (pe_op op_mul (pe_op op_mul pe_int (pe_ix ix_seq (pv 0) pe_int (fun _ _ => rfl))) (pe_ix ix_seq (pv 0) pe_int (fun _ _ => rfl)))) pe_int) pa_nil)) pe_int) pa_nil)) (pv 3)))
    (pss_one (ps_ret (pe_op op_mod (pe_callTy call_int1 (by rfl) T.int (by decide +kernel) (pa_cons (pe_op op_fdiv (pe_op op_mul (pv 4) (pe_op op_add (pe_op op_mod (pe_callTy call_int1 (by rfl) T.int (by decide +kernel) (pa_cons (pv 4) pa_nil)) pe_int) (pe_op op_mul pe_int (pe_ix ix_seq (pv 0) pe_int (fun _ _ => rfl))))) pe_int) pa_nil)) (pv 1)))))))), ?_⟩
  refine ⟨_, rfl, .inl ⟨a, _, _, _, rfl, rfl, SqL.of e, atI_of (j := 0) rfl rfl, _, _, rfl, rfl, _, rfl, ?_⟩⟩
  refine ite2 (fun hc => ?_) (fun hc => ?_)
  · -- a digit of the cell's own
    refine ⟨_, rfl, .inl ⟨a, _, _, _, rfl, rfl, SqL.of e, atI_of (j := 0) rfl rfl, .inl ⟨_, rfl, _, rfl, _, _, rfl, rfl, hu0, ?_⟩⟩⟩
    refine ⟨_, rfl, .inl ⟨a, _, _, _, rfl, rfl, SqL.of e, atI_of (j := 0) rfl rfl, _, rfl, _, _, rfl, rfl, ⟨by omega, by omega⟩, _, rfl, a, _, _, 0, rfl, rfl, e, rfl, ?_⟩⟩
    have m := mod_lt (x := p0) hu0
    exact ⟨_, rfl, k _ _ m.1 m.2 ⟨p0 / u, p1, p2, upd_same, ⟨ediv_nn b0 (by omega), b1, b1'⟩, b2, by omega⟩ KeptBut.at_⟩
  · -- a mixed number
    refine ⟨_, rfl, .inl ⟨a, _, _, _, rfl, rfl, SqL.of e, atI_of (j := 2) rfl rfl, _, _, rfl, rfl, _, rfl, a, _, _, 2, rfl, rfl, e, rfl, ?_⟩⟩
    have e1 : upd H a (.lst [.int p0, .int p1, .int (p2 + 1)]) a = some (.lst [.int p0, .int p1, .int (p2 + 1)]) := upd_same
    refine ⟨(by show 5 ≤ sizeLine; decide), fun l hl => ?_⟩
    have nla : l ≠ a := (ne_of_none e1 hl).symm
    have e2 : ∀ o, upd (upd H a (.lst [.int p0, .int p1, .int (p2 + 1)])) l o a = some (.lst [.int p0, .int p1, .int (p2 + 1)]) := fun o => by rw [upd_ne nla.symm]; exact e1
    refine ⟨_, rfl, .inl ⟨a, _, _, _, rfl, rfl, SqL.of (e2 _), atI_of (j := 2) rfl rfl, .inl ⟨_, rfl, _, _, rfl, rfl, (show (0 : Int) < _ by decide), ?_⟩⟩⟩
    have m5 := mod_lt (x := p2 + 1) (m := 5) (by decide)
    obtain ⟨v, hv, hvm⟩ := atI_lt (xs := [V.int 2147483647, V.int 2147483629, V.int 2147483587, V.int 2147483579, V.int 2147483563]) (i := (p2 + 1) % 5) m5.1 m5.2
    have hpr : ∃ q : Int, v = .int q ∧ 2147483500 < q ∧ q < 2147483648 := by
      simp only [List.mem_cons, List.not_mem_nil, or_false] at hvm
      rcases hvm with rfl | rfl | rfl | rfl | rfl <;> exact ⟨_, rfl, by decide, by decide⟩
    obtain ⟨q, rfl, hq0, hq1⟩ := hpr
    refine .inl ⟨l, _, _, _, rfl, rfl, SqL.of upd_same, hv, ?_⟩
    -- blend
    refine ⟨_, rfl, .inl ⟨a, _, _, _, rfl, rfl, SqL.of (e2 _), atI_of (j := 1) rfl rfl, _, rfl, .inl ⟨a, _, _, _, rfl, rfl, SqL.of (e2 _), atI_of (j := 2) rfl rfl, _, _, rfl, rfl, .inl ⟨by decide, by decide⟩,
      _, rfl, .inl ⟨a, _, _, _, rfl, rfl, SqL.of (e2 _), atI_of (j := 2) rfl rfl, _, _, rfl, rfl, .inr ⟨by omega, by omega⟩, _, _, rfl, rfl, _, _, rfl, rfl, .inl ⟨_, rfl, _, _, rfl, rfl, ⟨by decide, by decide, ?_⟩, .inl ⟨_, rfl, _, rfl, _, _, rfl, rfl, ?_, ?_⟩⟩⟩⟩⟩⟩
    · have b := sq_bound (c := 100537) (n := p2 + 1) (by decide) (by decide) (by omega) (by omega)
      omega
    · show (0 : Int) < q
      omega
    -- the answer
    refine ⟨_, rfl, _, rfl, .inl ⟨_, rfl, _, _, rfl, rfl, (show (0 : Int) < _ by decide), _, rfl, .inl ⟨a, _, _, _, rfl, rfl, SqL.of (e2 _), atI_of (j := 2) rfl rfl, _, _, rfl, rfl, .inl ⟨by decide, by decide⟩, _, _, rfl, rfl, _, _, rfl, rfl, .inl ?_,
      _, _, rfl, rfl, ⟨by decide, by decide⟩, .inl ⟨_, rfl, _, rfl, _, _, rfl, rfl, hu0, ?_⟩⟩⟩⟩
    · have m := mod_lt (x := (p1 + 100537 * (p2 + 1) * (p2 + 1) + 37) ^ (3 : Int).toNat) (m := q) (by omega)
      exact ⟨by omega, by omega⟩
    refine k _ _ (mod_lt hu0).1 (mod_lt hu0).2 ⟨p0, p1, p2 + 1, e2 _, ⟨b0, b1, b1'⟩, by omega, by omega⟩ fun b o hb hne => ?_
    rw [upd_ne (ne_of_none (by rw [upd_ne hne]; exact hb) hl), upd_ne hne]
    exact hb
theorem ok_of (F : FunD K "_law_of" "_law_of" (defArgs s_law_of) (defBody s_law_of) (defScope s_law_of) [] [] f fd) (hm : mg "_law_of" = some (.ref f)) (T : Bl mg base) (c_law_take : Cal P w K mg base 1 "_law_take" spTake []) : Cal P w K mg base 2 "_law_of" (spOf K) [] := by
  refine calD F hm sc_law_of (fun _ _ _ _ _ _ us hl => match us, hl with | [_, _], _ => rfl) (fun vs H Q E h => ?_) (fun cdv A outer s H vs Q E hr h => ?_)
  · obtain ⟨a, l, xs, n, rfl, _⟩ := h
    rfl
  obtain ⟨a, l, xs, n, rfl, hp, hn, nla, hS, h0, h1, k⟩ := h
  refine ⟨_, (pss_one (ps_ret (pe_ix ix_seq (pv 1) (pe_c c_law_take hr (by decide) (by rfl) (pa_cons (pv 0) (pa_cons (pe_callB call_len_seq (by rfl) T.len (by decide +kernel) (pa_cons (pv 1) pa_nil)) pa_nil))) (fun _ _ => rfl)))), ?_⟩
  refine ⟨_, rfl, _, rfl, _, rfl, l, xs, rfl, hS, a, _, n, rfl, hp, hn, by omega, by omega, fun i H' i0 i1 hp' kb => ?_⟩
  obtain ⟨v, hv, hm⟩ := atI_lt (xs := xs) i0 i1
  rcases hS with hS | hS
  · exact .inl ⟨l, _, _, _, rfl, rfl, sql_keep hS kb nla, hv, k v H' hm hp' kb⟩
  · exact .inr (.inl ⟨l, _, _, _, rfl, rfl, sqt_keep hS kb nla, hv, k v H' hm hp' kb⟩)
theorem ok_cells (F : FunD K "_law_cells" "_law_cells" (defArgs s_law_cells) (defBody s_law_cells) (defScope s_law_cells) [] [] f fd) (hm : mg "_law_cells" = some (.ref f)) (T : Bl mg base) : Cal P w K mg base 1 "_law_cells" (spCells K 6) [] := by
  refine calD F hm sc_law_cells (fun _ _ _ _ _ _ us hl => match us, hl with | [_, _], _ => rfl) (fun vs H Q E h => ?_) (fun cdv A outer s H vs Q E hr h => ?_)
  · obtain ⟨a, ns, rfl, _⟩ := h
    rfl
  obtain ⟨a, ns, rfl, hS, hl, k⟩ := h
  refine ⟨_, (pss_one (ps_ret (pe_listRg rfl (by rfl) T.list (prg_1 (by rfl) T.range (pe_callB (call_max2 rfl) (by rfl) T.max (by decide +kernel) (pa_cons pe_int (pa_cons (pe_callB (call_min2 rfl) (by rfl) T.min (by decide +kernel) (pa_cons (pv 1) (pa_cons (pe_callB call_len_seq (by rfl) T.len (by decide +kernel) (pa_cons (pv 0) pa_nil)) pa_nil))) pa_nil))))))), ?_⟩
  refine ⟨_, rfl, _, rfl, a, _, rfl, .inl hS, _, _, rfl, _, _, rfl, _, rfl, RgOk.of_le (by decide) ?_ (by decide) ?_, fun p hp => ?_⟩
  · rw [List.length_map]
    split <;> split <;> omega
  · rw [List.length_map]
    split <;> split <;> omega
  have e : ∀ n : Int, rgV 0 n = (List.range n.toNat).map fun (i : Nat) => V.int (i : Int) := fun n => by
    unfold rgV
    rw [Int.sub_zero]
    exact List.map_congr_left fun i _ => by rw [Int.zero_add]
  rw [e]
  refine k p _ hp ?_
  rw [List.length_map]
  split <;> split <;> omega
/-- the law: its right def says True of every cell -/
theorem ok_law (F : FunD K "law" "law" (defArgs s_law) (defBody s_law) (defScope s_law) [] [] f fd) (hm : mg "law" = some (.ref f)) (T : Bl mg base) (c_law_pot : Cal P w K mg base 1 "_law_pot" (spPot K) []) (c_law_cells : Cal P w K mg base 1 "_law_cells" (spCells K 6) [])
    (c_law_right : CalG P w K mg base 4 "_law_right" spRight) : FnG P w K mg base CX0 (4 + 1) f fd ["script"] (spLaw K) := by
  refine FnG.made F sc_law (fun vs H Q E h => ?_) (fun cdv A outer s H vs Q E gd hr h => ?_)
  · obtain ⟨a, ns, rfl, _⟩ := h
    rfl
  obtain ⟨a, ns, rfl, hS, hl, k⟩ := h
  refine ⟨_, PSs.nox (pss_one (ps_ret (pe_callB (cr_all rfl) (by rfl) T.all (by decide +kernel) (pa_cons (pe_lc (own := [("place", 1)]) (g := (gName 1)) (tt := tYes) rfl sc_law.nd (pi_list (pe_c c_law_cells hr (by decide) (by rfl) (pa_cons (pv 0) (pa_cons pe_int pa_nil)))) (blkOk_by (own := [("place", 1)]) (N := n_law) (sc := defScope s_law) (by decide +kernel)) (fun _ _ _ _ _ => (pg_name (i := 1) sc_law.nd rfl (by first | exact Or.inl rfl | exact Or.inr rfl))) (fun _ _ _ _ _ => pts_nil) (fun _ _ _ _ _ => (pe_cG c_law_right gd hr (by decide) (by rfl) (pa_cons (pe_c c_law_pot hr (by decide) (by rfl) (pa_cons (pv 0) (pa_cons (pv 1) pa_nil))) pa_nil)))) pa_nil)))), ?_⟩
  refine ⟨_, rfl, a, ns, rfl, hS.seq, by omega, fun p m hp hm => ?_⟩
  refine ⟨p, rfl, ⟨_, SqL.of upd_same⟩, fun D hD => ?_⟩
  have npD : p ≠ D := ne_of_none upd_same hD
  refine lc_list (K := K) (a := p) (xs := (List.range m).map fun (i : Nat) => V.int (i : Int)) (fun i H' => ScL K H' a (ns.map V.int) ∧ H' p = some (.lst ((List.range m).map fun (i : Nat) => V.int (i : Int))) ∧ ∃ bs : List Bool, H' D = some (.lst (bs.map V.bl)) ∧ bs.all id = true ∧ bs.length = i)
    ⟨?_, by rw [upd_ne npD]; exact upd_same, [], upd_same, rfl, rfl⟩ (fun i H' _ h => SqL.of h.2.1) ?_ ?_
  · exact (hS.new hp).new hD
  · rintro i x H' hi ⟨h1, h2, bs, h3, h4, h5⟩
    have hi2 : i < m := by
      have q := (List.getElem?_eq_some_iff.mp hi).1
      simpa using q
    have ex : x = V.int (i : Int) := by
      rw [List.getElem?_map, List.getElem?_range hi2] at hi
      exact (Option.some.inj hi).symm
    subst ex
    refine ⟨rfl, ?_⟩
    refine yes_if ?_
    refine ⟨_, rfl, _, rfl, a, ns, i, rfl, h1.seq, by omega, fun q o hq hpot => ?_⟩
    have pn : ∀ ob u, upd H' q o q ≠ some (.frz ob u) := fun ob u z => by
      obtain ⟨_, _, _, e, _⟩ := hpot
      rw [e] at z
      cases z
    refine ⟨q, rfl, hpot, fun H2 kb => ?_⟩
    have nqD : D ≠ q := ne_of_none h3 hq
    have nqp : p ≠ q := ne_of_none h2 hq
    have k2 : H2 D = some (.lst (bs.map V.bl)) := kb D _ (by rw [upd_ne nqD]; exact h3) nqD
    have k3 : H2 p = some (.lst ((List.range m).map fun (i : Nat) => V.int (i : Int))) := kb p _ (by rw [upd_ne nqp]; exact h2) nqp
    have npD' : D ≠ p := fun z => npD z.symm
    refine ⟨_, k2, ?_, ScL.upd ((h1.new hq).but kb pn) k2, by rw [upd_ne npD]; exact k3, bs ++ [true], by rw [List.map_append]; exact upd_same, by rw [List.all_append, h4]; rfl, by rw [List.length_append, h5]; rfl⟩
    rw [List.length_map, h5]
    exact Nat.lt_of_lt_of_le (Nat.lt_of_lt_of_le hi2 hm) (by decide)
  · rintro H' ⟨h1, h2, bs, h3, h4, h5⟩
    refine ⟨D, bs, rfl, SqL.of h3, ?_⟩
    rw [h4]
    exact k _
end

abbrev s_MirrorError_init : Stmt := inClass (top 1) 0
abbrev n_MirrorError_init : List Str := ["self", "value"]
abbrev p_MirrorError_init : List Str := ["self", "value"]
theorem sc_MirrorError_init : FnScope n_MirrorError_init p_MirrorError_init (defScope s_MirrorError_init) := ⟨rfl, rfl, rfl, by decide +kernel, rfl, by decide +kernel, by decide +kernel⟩
abbrev s_law_odd : Stmt := top 36
abbrev n_law_odd : List Str := ["pot", "some"]
abbrev p_law_odd : List Str := ["pot"]
theorem sc_law_odd : FnScope n_law_odd p_law_odd (defScope s_law_odd) := ⟨rfl, rfl, rfl, by decide +kernel, rfl, by decide +kernel, by decide +kernel⟩
abbrev s_law_errors : Stmt := top 37
abbrev n_law_errors : List Str := ["value", "found"]
abbrev p_law_errors : List Str := ["value"]
theorem sc_law_errors : FnScope n_law_errors p_law_errors (defScope s_law_errors) := ⟨rfl, rfl, rfl, by decide +kernel, rfl, by decide +kernel, by decide +kernel⟩
abbrev s_law_some_kinds : Stmt := top 38
abbrev n_law_some_kinds : List Str := ["made", "found", "name", "is_form"]
abbrev p_law_some_kinds : List Str := ["made"]
theorem sc_law_some_kinds : FnScope n_law_some_kinds p_law_some_kinds (defScope s_law_some_kinds) := ⟨rfl, rfl, rfl, by decide +kernel, rfl, by decide +kernel, by decide +kernel⟩
abbrev s_law_kinds : Stmt := top 39
abbrev n_law_kinds : List Str := ["made", "found", "name", "is_form"]
abbrev p_law_kinds : List Str := ["made"]
theorem sc_law_kinds : FnScope n_law_kinds p_law_kinds (defScope s_law_kinds) := ⟨rfl, rfl, rfl, by decide +kernel, rfl, by decide +kernel, by decide +kernel⟩
section
variable {P : Program} {w : World} {K : PySem.W.Frag} {mg : Str → Option Value} {base : Heap} {f : Addr} {fd : FuncData}
theorem ok_init (F : FunD K "__init__" "MirrorError.__init__" (defArgs s_MirrorError_init) (defBody s_MirrorError_init) (defScope s_MirrorError_init) [] [] f fd) : FnOk P w K mg base CX0 1 f fd ["self", "value"] (spErr K) := by
  refine F.ok sc_MirrorError_init (fun vs H Q E h => ?_) (fun cdv A outer s H vs Q E hr h => ⟨_, (pss_one (ps_ost (pv 0) (pv 1) rfl)), ?_⟩)
  · obtain ⟨a, C, v, rfl, _⟩ := h
    rfl
  obtain ⟨a, C, v, rfl, T, nv, ha, k⟩ := h
  exact ⟨_, rfl, _, rfl, a, C, rfl, T, nv, .inl ⟨ha, k⟩⟩
/-- _law_odd: some small value, made anew -/
def spOdd : Sp := fun vs H Q _ => ∃ (a : Addr) (n : Nat), vs = [.ref a] ∧ PotAt H a n ∧ n < 999999 ∧ ∀ v H', PotAt H' a (n + 1) → KeptBut a H H' → Sm 40 3 (fresh H H') v → Q v H'
theorem ok_odd (F : FunD K "_law_odd" "_law_odd" (defArgs s_law_odd) (defBody s_law_odd) (defScope s_law_odd) [] [] f fd) (hm : mg "_law_odd" = some (.ref f)) (T : Bl mg base) (c_law_of : Cal P w K mg base 2 "_law_of" (spOf K) []) : Cal P w K mg base 3 "_law_odd" spOdd [] := by
  refine calD F hm sc_law_odd (fun _ _ _ _ _ _ us hl => match us, hl with | [_], _ => rfl) (fun vs H Q E h => ?_) (fun cdv A outer s H vs Q E hr h => ?_)
  · obtain ⟨a, n, rfl, _⟩ := h
    rfl
  obtain ⟨a, n, rfl, hp, hn, k⟩ := h
  refine ⟨_, (pss_cons (ps_set (i := 1) sc_law_odd.nd rfl (by first | exact Or.inl rfl | exact Or.inr rfl) (pe_lst (pa_cons pe_non (pa_cons pe_bl (pa_cons pe_bl (pa_cons pe_int (pa_cons pe_int (pa_cons (pe_un un_neg pe_int) (pa_cons pe_int (pa_cons (pe_op op_pow pe_int pe_int) (pa_cons pe_str (pa_cons pe_str (pa_cons pe_str (pa_cons pe_str (pa_cons (pe_tup pa_nil) (pa_cons (pe_lst pa_nil) (pa_cons pe_dnewK (pa_cons (pe_tup (pa_cons pe_int pa_nil)) (pa_cons (pe_tup (pa_cons (pe_tup pa_nil) pa_nil)) (pa_cons (pe_lst (pa_cons pe_int pa_nil)) (pa_cons (pe_tup (pa_cons pe_int (pa_cons pe_int pa_nil))) pa_nil)))))))))))))))))))))
    (pss_cons (ps_set (i := 1) sc_law_odd.nd rfl (by first | exact Or.inl rfl | exact Or.inr rfl) (pe_op op_cat (pv 1) (pe_lst (pa_cons (pe_tup (pa_cons pe_str pa_nil)) (pa_cons (pe_tup (pa_cons pe_str pa_nil)) (pa_cons pe_str (pa_cons pe_str (pa_cons (pe_tup (pa_cons pe_int (pa_cons pe_int (pa_cons pe_int pa_nil)))) (pa_cons (pe_tup (pa_cons pe_non pa_nil)) (pa_cons (pe_tup (pa_cons pe_str pa_nil)) (pa_cons pe_str (pa_cons (pe_disp (pps_cons pe_str pe_int pps_nil) (by rfl) (by rfl) (fun z => by cases z) (by decide)) pa_nil))))))))))))
    (pss_one (ps_ret (pe_c c_law_of hr (by decide) (by rfl) (pa_cons (pv 0) (pa_cons (pv 1) pa_nil))))))), ?_⟩
  have e0 : DatE 3 1 (tTup tNil) := dat_tup (B := 1) dat_nil (by decide)
  have e1 : DatE 3 1 (tLst tNil) := dat_lst (B := 1) dat_nil (by decide)
  have z0 : DatE 1 0 (tC (.int 0)) := dat_int 0 (by decide +kernel) (by decide +kernel)
  have z1 : DatE 1 0 (tC (.int 1)) := dat_int 1 (by decide +kernel) (by decide +kernel)
  have D1 := dat_cons (B := 40) (k := 3) (dat_non (by decide)) (dat_cons (dat_bl true (by decide)) (dat_cons (dat_bl false (by decide)) (dat_cons (z0.mono (by decide) (by decide)) (dat_cons (z1.mono (by decide) (by decide)) (dat_cons (dat_neg 1 (by decide +kernel) (by decide +kernel))
    (dat_cons (dat_int 7 (by decide +kernel) (by decide +kernel)) (dat_cons (dat_pow 10 8 ⟨by decide, by decide, by decide⟩ (by decide +kernel) (by decide +kernel)) (dat_cons (dat_str "" (by decide +kernel)) (dat_cons (dat_str "a" (by decide +kernel)) (dat_cons (dat_str "p" (by decide +kernel)) (dat_cons (dat_str "mirror q" (by decide +kernel))
    (dat_cons (e0.mono (by decide) (by decide)) (dat_cons (e1.mono (by decide) (by decide)) (dat_cons (dat_dnew (by decide) (by decide)) (dat_cons ((dat_tup (dat_cons z0 dat_nil) (by decide)).mono (by decide) (by decide)) (dat_cons ((dat_tup (dat_cons e0 dat_nil) (by decide)).mono (by decide) (by decide))
    (dat_cons ((dat_lst (dat_cons z0 dat_nil) (by decide)).mono (by decide) (by decide)) (dat_cons ((dat_tup (dat_cons z0 (dat_cons z0 dat_nil)) (by decide)).mono (by decide) (by decide)) dat_nil))))))))))))))))))
  have D2 := dat_cons (B := 40) (k := 3) ((dat_tup (dat_cons (dat_str (B := 3) (k := 0) "a" (by decide +kernel)) dat_nil) (by decide)).mono (by decide) (by decide)) (dat_cons ((dat_tup (dat_cons (dat_str (B := 8) (k := 0) "always" (by decide +kernel)) dat_nil) (by decide)).mono (by decide) (by decide))
    (dat_cons (dat_str "a a" (by decide +kernel)) (dat_cons (dat_str "mirror a" (by decide +kernel)) (dat_cons ((dat_tup (dat_cons z1 (dat_cons z0 (dat_cons z0 dat_nil))) (by decide)).mono (by decide) (by decide)) (dat_cons ((dat_tup (dat_cons (dat_non (B := 4) (k := 0) (by decide)) dat_nil) (by decide)).mono (by decide) (by decide))
    (dat_cons ((dat_tup (dat_cons (dat_str (B := 6) (k := 0) "same" (by decide +kernel)) dat_nil) (by decide)).mono (by decide) (by decide)) (dat_cons (dat_str "row" (by decide +kernel)) (dat_cons (dat_disp1 "a" 1 (by decide +kernel) (by decide +kernel) (by decide)) dat_nil))))))))
  refine asg_lst D1 (by decide) fun vs1 p1 H1 s1 hp1 e1 m1 l1 => ?_
  refine asg_cat D2 (by decide) (by rw [l1]; decide) rfl e1 s1 m1 fun vs l H2 s2 hl e2 m2 l2 => ?_
  have hp' := hp.keep (H' := H2) fun o e => s2 _ _ (s1 _ _ e)
  obtain ⟨q0, q1, q2, eq, _⟩ := id hp
  refine ⟨_, rfl, _, rfl, a, l, vs, n, rfl, hp', by omega, (ne_of_none (s1 _ _ eq) hl).symm, .inl (SqL.of e2), ?_, ?_, fun v H' hv hpot kb => ?_⟩
  · rw [l2]
    omega
  · rw [l2, l1]
    decide
  · exact k v H' hpot ((KeptBut.of_same (s1.trans s2)).trans kb) ((m2 v hv).same (fresh_but eq kb))
theorem ok_errors (F : FunD K "_law_errors" "_law_errors" (defArgs s_law_errors) (defBody s_law_errors) (defScope s_law_errors) [] [] f fd) (hm : mg "_law_errors" = some (.ref f)) (T : Bl mg base) (Z : Errs P w K mg base) : Cal P w K mg base 3 "_law_errors" (spErrors K) [] := by
  refine calD F hm sc_law_errors (fun _ _ _ _ _ _ us hl => match us, hl with | [_], _ => rfl) (fun vs H Q E h => ?_) (fun cdv A outer s H vs Q E hr h => ?_)
  · obtain ⟨v, rfl, _⟩ := h
    rfl
  obtain ⟨v, rfl, k⟩ := h
  refine ⟨_, (pss_cons (ps_set (i := 1) sc_law_errors.nd rfl (by first | exact Or.inl rfl | exact Or.inr rfl) (pe_lst (pa_cons (pe_tup (pa_cons pe_str (pa_cons (pe_err Z (x := "BadBook") (by decide +kernel) hr (by decide) (by rfl) (pa_cons (pv 0) pa_nil)) pa_nil))) (pa_cons (pe_tup (pa_cons pe_str (pa_cons (pe_err Z (x := "BadClaim") (by decide +kernel) hr (by decide) (by rfl) (pa_cons (pv 0) pa_nil)) pa_nil))) pa_nil))))
    (pss_cons (ps_expr (pe_bm PySem.F.plainAttrs_list PySem.F.slot_list_extend PySem.F.type_list_extend mt_extend (pv 1) (pa_cons (pe_lst (pa_cons (pe_tup (pa_cons pe_str (pa_cons (pe_err Z (x := "BadDot") (by decide +kernel) hr (by decide) (by rfl) (pa_cons (pv 0) pa_nil)) pa_nil))) (pa_cons (pe_tup (pa_cons pe_str (pa_cons (pe_err Z (x := "BadJournal") (by decide +kernel) hr (by decide) (by rfl) (pa_cons (pv 0) pa_nil)) pa_nil))) pa_nil))) pa_nil)))
    (pss_cons (ps_expr (pe_bm PySem.F.plainAttrs_list PySem.F.slot_list_extend PySem.F.type_list_extend mt_extend (pv 1) (pa_cons (pe_lst (pa_cons (pe_tup (pa_cons pe_str (pa_cons (pe_err Z (x := "BadLine") (by decide +kernel) hr (by decide) (by rfl) (pa_cons (pv 0) pa_nil)) pa_nil))) (pa_cons (pe_tup (pa_cons pe_str (pa_cons (pe_err Z (x := "BadLooks") (by decide +kernel) hr (by decide) (by rfl) (pa_cons (pv 0) pa_nil)) pa_nil))) pa_nil))) pa_nil)))
    (pss_cons (ps_expr (pe_bm PySem.F.plainAttrs_list PySem.F.slot_list_extend PySem.F.type_list_extend mt_extend (pv 1) (pa_cons (pe_lst (pa_cons (pe_tup (pa_cons pe_str (pa_cons (pe_err Z (x := "BadNames") (by decide +kernel) hr (by decide) (by rfl) (pa_cons (pv 0) pa_nil)) pa_nil))) (pa_cons (pe_tup (pa_cons pe_str (pa_cons (pe_err Z (x := "BadNumber") (by decide +kernel) hr (by decide) (by rfl) (pa_cons (pv 0) pa_nil)) pa_nil))) pa_nil))) pa_nil)))
    (pss_cons (ps_expr (pe_bm PySem.F.plainAttrs_list PySem.F.slot_list_extend PySem.F.type_list_extend mt_extend (pv 1) (pa_cons (pe_lst (pa_cons (pe_tup (pa_cons pe_str (pa_cons (pe_err Z (x := "BadOffers") (by decide +kernel) hr (by decide) (by rfl) (pa_cons (pv 0) pa_nil)) pa_nil))) (pa_cons (pe_tup (pa_cons pe_str (pa_cons (pe_err Z (x := "BadRatio") (by decide +kernel) hr (by decide) (by rfl) (pa_cons (pv 0) pa_nil)) pa_nil))) pa_nil))) pa_nil)))
    (pss_cons (ps_expr (pe_bm PySem.F.plainAttrs_list PySem.F.slot_list_extend PySem.F.type_list_extend mt_extend (pv 1) (pa_cons (pe_lst (pa_cons (pe_tup (pa_cons pe_str (pa_cons (pe_err Z (x := "BadRows") (by decide +kernel) hr (by decide) (by rfl) (pa_cons (pv 0) pa_nil)) pa_nil))) (pa_cons (pe_tup (pa_cons pe_str (pa_cons (pe_err Z (x := "BadSay") (by decide +kernel) hr (by decide) (by rfl) (pa_cons (pv 0) pa_nil)) pa_nil))) pa_nil))) pa_nil)))
    (pss_cons (ps_expr (pe_bm PySem.F.plainAttrs_list PySem.F.slot_list_extend PySem.F.type_list_extend mt_extend (pv 1) (pa_cons (pe_lst (pa_cons (pe_tup (pa_cons pe_str (pa_cons (pe_err Z (x := "BadScript") (by decide +kernel) hr (by decide) (by rfl) (pa_cons (pv 0) pa_nil)) pa_nil))) (pa_cons (pe_tup (pa_cons pe_str (pa_cons (pe_err Z (x := "BadText") (by decide +kernel) hr (by decide) (by rfl) (pa_cons (pv 0) pa_nil)) pa_nil))) pa_nil))) pa_nil)))
    (pss_cons (ps_expr (pe_bm PySem.F.plainAttrs_list PySem.F.slot_list_extend PySem.F.type_list_extend mt_extend (pv 1) (pa_cons (pe_lst (pa_cons (pe_tup (pa_cons pe_str (pa_cons (pe_err Z (x := "BadWishes") (by decide +kernel) hr (by decide) (by rfl) (pa_cons (pv 0) pa_nil)) pa_nil))) (pa_cons (pe_tup (pa_cons pe_str (pa_cons (pe_err Z (x := "Few") (by decide +kernel) hr (by decide) (by rfl) (pa_cons (pv 0) pa_nil)) pa_nil))) pa_nil))) pa_nil)))
    (pss_cons (ps_expr (pe_bm PySem.F.plainAttrs_list PySem.F.slot_list_extend PySem.F.type_list_extend mt_extend (pv 1) (pa_cons (pe_lst (pa_cons (pe_tup (pa_cons pe_str (pa_cons (pe_err Z (x := "Full") (by decide +kernel) hr (by decide) (by rfl) (pa_cons (pv 0) pa_nil)) pa_nil))) (pa_cons (pe_tup (pa_cons pe_str (pa_cons (pe_err Z (x := "Long") (by decide +kernel) hr (by decide) (by rfl) (pa_cons (pv 0) pa_nil)) pa_nil))) pa_nil))) pa_nil)))
    (pss_cons (ps_expr (pe_bm PySem.F.plainAttrs_list PySem.F.slot_list_extend PySem.F.type_list_extend mt_extend (pv 1) (pa_cons (pe_lst (pa_cons (pe_tup (pa_cons pe_str (pa_cons (pe_err Z (x := "Loose") (by decide +kernel) hr (by decide) (by rfl) (pa_cons (pv 0) pa_nil)) pa_nil))) (pa_cons (pe_tup (pa_cons pe_str (pa_cons (pe_err Z (x := "Needed") (by decide +kernel) hr (by decide) (by rfl) (pa_cons (pv 0) pa_nil)) pa_nil))) pa_nil))) pa_nil)))
    (pss_cons (ps_expr (pe_bm PySem.F.plainAttrs_list PySem.F.slot_list_extend PySem.F.type_list_extend mt_extend (pv 1) (pa_cons (pe_lst (pa_cons (pe_tup (pa_cons pe_str (pa_cons (pe_err Z (x := "NoDot") (by decide +kernel) hr (by decide) (by rfl) (pa_cons (pv 0) pa_nil)) pa_nil))) (pa_cons (pe_tup (pa_cons pe_str (pa_cons (pe_err Z (x := "NoName") (by decide +kernel) hr (by decide) (by rfl) (pa_cons (pv 0) pa_nil)) pa_nil))) pa_nil))) pa_nil)))
    (pss_cons (ps_expr (pe_bm PySem.F.plainAttrs_list PySem.F.slot_list_extend PySem.F.type_list_extend mt_extend (pv 1) (pa_cons (pe_lst (pa_cons (pe_tup (pa_cons pe_str (pa_cons (pe_err Z (x := "Nothing") (by decide +kernel) hr (by decide) (by rfl) (pa_cons (pv 0) pa_nil)) pa_nil))) (pa_cons (pe_tup (pa_cons pe_str (pa_cons (pe_err Z (x := "NothingToRedo") (by decide +kernel) hr (by decide) (by rfl) (pa_cons (pv 0) pa_nil)) pa_nil))) pa_nil))) pa_nil)))
    (pss_cons (ps_expr (pe_bm PySem.F.plainAttrs_list PySem.F.slot_list_extend PySem.F.type_list_extend mt_extend (pv 1) (pa_cons (pe_lst (pa_cons (pe_tup (pa_cons pe_str (pa_cons (pe_err Z (x := "NothingToUndo") (by decide +kernel) hr (by decide) (by rfl) (pa_cons (pv 0) pa_nil)) pa_nil))) (pa_cons (pe_tup (pa_cons pe_str (pa_cons (pe_err Z (x := "NoTrial") (by decide +kernel) hr (by decide) (by rfl) (pa_cons (pv 0) pa_nil)) pa_nil))) pa_nil))) pa_nil)))
    (pss_cons (ps_expr (pe_bm PySem.F.plainAttrs_list PySem.F.slot_list_extend PySem.F.type_list_extend mt_extend (pv 1) (pa_cons (pe_lst (pa_cons (pe_tup (pa_cons pe_str (pa_cons (pe_err Z (x := "NotSure") (by decide +kernel) hr (by decide) (by rfl) (pa_cons (pv 0) pa_nil)) pa_nil))) (pa_cons (pe_tup (pa_cons pe_str (pa_cons (pe_err Z (x := "OtherBook") (by decide +kernel) hr (by decide) (by rfl) (pa_cons (pv 0) pa_nil)) pa_nil))) pa_nil))) pa_nil)))
    (pss_cons (ps_expr (pe_bm PySem.F.plainAttrs_list PySem.F.slot_list_extend PySem.F.type_list_extend mt_extend (pv 1) (pa_cons (pe_lst (pa_cons (pe_tup (pa_cons pe_str (pa_cons (pe_err Z (x := "Used") (by decide +kernel) hr (by decide) (by rfl) (pa_cons (pv 0) pa_nil)) pa_nil))) pa_nil)) pa_nil)))
    (pss_one (ps_ret (pv 1)))))))))))))))))), ?_⟩
  refine err_first Z (by decide +kernel) (by decide +kernel) fun σ H1 h => ?_
  refine err_ext2 Z (by decide +kernel) (by decide +kernel) (by decide) h fun H1 h => ?_
  refine err_ext2 Z (by decide +kernel) (by decide +kernel) (by decide) h fun H1 h => ?_
  refine err_ext2 Z (by decide +kernel) (by decide +kernel) (by decide) h fun H1 h => ?_
  refine err_ext2 Z (by decide +kernel) (by decide +kernel) (by decide) h fun H1 h => ?_
  refine err_ext2 Z (by decide +kernel) (by decide +kernel) (by decide) h fun H1 h => ?_
  refine err_ext2 Z (by decide +kernel) (by decide +kernel) (by decide) h fun H1 h => ?_
  refine err_ext2 Z (by decide +kernel) (by decide +kernel) (by decide) h fun H1 h => ?_
  refine err_ext2 Z (by decide +kernel) (by decide +kernel) (by decide) h fun H1 h => ?_
  refine err_ext2 Z (by decide +kernel) (by decide +kernel) (by decide) h fun H1 h => ?_
  refine err_ext2 Z (by decide +kernel) (by decide +kernel) (by decide) h fun H1 h => ?_
  refine err_ext2 Z (by decide +kernel) (by decide +kernel) (by decide) h fun H1 h => ?_
  refine err_ext2 Z (by decide +kernel) (by decide +kernel) (by decide) h fun H1 h => ?_
  refine err_ext2 Z (by decide +kernel) (by decide +kernel) (by decide) h fun H1 h => ?_
  refine err_ext1 Z (by decide +kernel) (by decide) h fun H1 h => ?_
  obtain ⟨l, ts, rfl, hE, s0, n0, hl⟩ := h
  exact ⟨_, rfl, k l ts H1 s0 hE hl⟩
def ns1 : List Str := ["BadBook", "BadClaim", "BadDot", "BadJournal", "BadLine", "BadLooks", "BadNames", "BadNumber", "BadOffers", "BadRatio", "BadRows", "BadSay", "BadScript", "BadText", "BadWishes"]
def ns2 : List Str := ["Few", "Full", "Long", "Loose", "Needed", "NoDot", "NoName", "Nothing", "NothingToRedo", "NothingToUndo", "NoTrial", "NotSure", "OtherBook", "Used"]
theorem ok_some_kinds (F : FunD K "_law_some_kinds" "_law_some_kinds" (defArgs s_law_some_kinds) (defBody s_law_some_kinds) (defScope s_law_some_kinds) [] [] f fd) (hm : mg "_law_some_kinds" = some (.ref f)) (T : Bl mg base) (Z : Errs P w K mg base) : Cal P w K mg base 1 "_law_some_kinds" (spKinds K ns1) [] := by
  refine calD F hm sc_law_some_kinds (fun _ _ _ _ _ _ us hl => match us, hl with | [_], _ => rfl) (fun vs H Q E h => ?_) (fun cdv A outer s H vs Q E hr h => ?_)
  · obtain ⟨e, x, v, rfl, _⟩ := h
    rfl
  obtain ⟨e, x, v, rfl, hX, hE, k⟩ := h
  refine ⟨_, (pss_cons (ps_set (i := 1) sc_law_some_kinds.nd rfl (by first | exact Or.inl rfl | exact Or.inr rfl) (pe_lst (pa_cons (pe_tup (pa_cons pe_str (pa_cons (pe_callB call_isE (by rfl) T.isinstance (by decide +kernel) (pa_cons (pv 0) (pa_cons (pe_glob (v := .ref (He.ga K "BadBook")) (by rfl) (Z.m (x := "BadBook") (by decide +kernel)) rfl) pa_nil))) pa_nil))) (pa_cons (pe_tup (pa_cons pe_str (pa_cons (pe_callB call_isE (by rfl) T.isinstance (by decide +kernel) (pa_cons (pv 0) (pa_cons (pe_glob (v := .ref (He.ga K "BadClaim")) (by rfl) (Z.m (x := "BadClaim") (by decide +kernel)) rfl) pa_nil))) pa_nil))) pa_nil))))
    (pss_cons (ps_expr (pe_bm PySem.F.plainAttrs_list PySem.F.slot_list_extend PySem.F.type_list_extend mt_extend (pv 1) (pa_cons (pe_lst (pa_cons (pe_tup (pa_cons pe_str (pa_cons (pe_callB call_isE (by rfl) T.isinstance (by decide +kernel) (pa_cons (pv 0) (pa_cons (pe_glob (v := .ref (He.ga K "BadDot")) (by rfl) (Z.m (x := "BadDot") (by decide +kernel)) rfl) pa_nil))) pa_nil))) (pa_cons (pe_tup (pa_cons pe_str (pa_cons (pe_callB call_isE (by rfl) T.isinstance (by decide +kernel) (pa_cons (pv 0) (pa_cons (pe_glob (v := .ref (He.ga K "BadJournal")) (by rfl) (Z.m (x := "BadJournal") (by decide +kernel)) rfl) pa_nil))) pa_nil))) pa_nil))) pa_nil)))
    (pss_cons (ps_expr (pe_bm PySem.F.plainAttrs_list PySem.F.slot_list_extend PySem.F.type_list_extend mt_extend (pv 1) (pa_cons (pe_lst (pa_cons (pe_tup (pa_cons pe_str (pa_cons (pe_callB call_isE (by rfl) T.isinstance (by decide +kernel) (pa_cons (pv 0) (pa_cons (pe_glob (v := .ref (He.ga K "BadLine")) (by rfl) (Z.m (x := "BadLine") (by decide +kernel)) rfl) pa_nil))) pa_nil))) (pa_cons (pe_tup (pa_cons pe_str (pa_cons (pe_callB call_isE (by rfl) T.isinstance (by decide +kernel) (pa_cons (pv 0) (pa_cons (pe_glob (v := .ref (He.ga K "BadLooks")) (by rfl) (Z.m (x := "BadLooks") (by decide +kernel)) rfl) pa_nil))) pa_nil))) pa_nil))) pa_nil)))
    (pss_cons (ps_expr (pe_bm PySem.F.plainAttrs_list PySem.F.slot_list_extend PySem.F.type_list_extend mt_extend (pv 1) (pa_cons (pe_lst (pa_cons (pe_tup (pa_cons pe_str (pa_cons (pe_callB call_isE (by rfl) T.isinstance (by decide +kernel) (pa_cons (pv 0) (pa_cons (pe_glob (v := .ref (He.ga K "BadNames")) (by rfl) (Z.m (x := "BadNames") (by decide +kernel)) rfl) pa_nil))) pa_nil))) (pa_cons (pe_tup (pa_cons pe_str (pa_cons (pe_callB call_isE (by rfl) T.isinstance (by decide +kernel) (pa_cons (pv 0) (pa_cons (pe_glob (v := .ref (He.ga K "BadNumber")) (by rfl) (Z.m (x := "BadNumber") (by decide +kernel)) rfl) pa_nil))) pa_nil))) pa_nil))) pa_nil)))
    (pss_cons (ps_expr (pe_bm PySem.F.plainAttrs_list PySem.F.slot_list_extend PySem.F.type_list_extend mt_extend (pv 1) (pa_cons (pe_lst (pa_cons (pe_tup (pa_cons pe_str (pa_cons (pe_callB call_isE (by rfl) T.isinstance (by decide +kernel) (pa_cons (pv 0) (pa_cons (pe_glob (v := .ref (He.ga K "BadOffers")) (by rfl) (Z.m (x := "BadOffers") (by decide +kernel)) rfl) pa_nil))) pa_nil))) (pa_cons (pe_tup (pa_cons pe_str (pa_cons (pe_callB call_isE (by rfl) T.isinstance (by decide +kernel) (pa_cons (pv 0) (pa_cons (pe_glob (v := .ref (He.ga K "BadRatio")) (by rfl) (Z.m (x := "BadRatio") (by decide +kernel)) rfl) pa_nil))) pa_nil))) pa_nil))) pa_nil)))
    (pss_cons (ps_expr (pe_bm PySem.F.plainAttrs_list PySem.F.slot_list_extend PySem.F.type_list_extend mt_extend (pv 1) (pa_cons (pe_lst (pa_cons (pe_tup (pa_cons pe_str (pa_cons (pe_callB call_isE (by rfl) T.isinstance (by decide +kernel) (pa_cons (pv 0) (pa_cons (pe_glob (v := .ref (He.ga K "BadRows")) (by rfl) (Z.m (x := "BadRows") (by decide +kernel)) rfl) pa_nil))) pa_nil))) (pa_cons (pe_tup (pa_cons pe_str (pa_cons (pe_callB call_isE (by rfl) T.isinstance (by decide +kernel) (pa_cons (pv 0) (pa_cons (pe_glob (v := .ref (He.ga K "BadSay")) (by rfl) (Z.m (x := "BadSay") (by decide +kernel)) rfl) pa_nil))) pa_nil))) pa_nil))) pa_nil)))
    (pss_cons (ps_expr (pe_bm PySem.F.plainAttrs_list PySem.F.slot_list_extend PySem.F.type_list_extend mt_extend (pv 1) (pa_cons (pe_lst (pa_cons (pe_tup (pa_cons pe_str (pa_cons (pe_callB call_isE (by rfl) T.isinstance (by decide +kernel) (pa_cons (pv 0) (pa_cons (pe_glob (v := .ref (He.ga K "BadScript")) (by rfl) (Z.m (x := "BadScript") (by decide +kernel)) rfl) pa_nil))) pa_nil))) (pa_cons (pe_tup (pa_cons pe_str (pa_cons (pe_callB call_isE (by rfl) T.isinstance (by decide +kernel) (pa_cons (pv 0) (pa_cons (pe_glob (v := .ref (He.ga K "BadText")) (by rfl) (Z.m (x := "BadText") (by decide +kernel)) rfl) pa_nil))) pa_nil))) pa_nil))) pa_nil)))
    (pss_cons (ps_expr (pe_bm PySem.F.plainAttrs_list PySem.F.slot_list_extend PySem.F.type_list_extend mt_extend (pv 1) (pa_cons (pe_lst (pa_cons (pe_tup (pa_cons pe_str (pa_cons (pe_callB call_isE (by rfl) T.isinstance (by decide +kernel) (pa_cons (pv 0) (pa_cons (pe_glob (v := .ref (He.ga K "BadWishes")) (by rfl) (Z.m (x := "BadWishes") (by decide +kernel)) rfl) pa_nil))) pa_nil))) pa_nil)) pa_nil)))
    (pss_one (ps_ret (pe_lc (own := [("name", 2), ("is_form", 3)]) (g := (gTup K 2 (gCons (gName 2) (gCons (gName 3) gNil)))) rfl sc_law_some_kinds.nd (pi_list (pv 1)) (blkOk_by (own := [("name", 2), ("is_form", 3)]) (N := n_law_some_kinds) (sc := defScope s_law_some_kinds) (by decide +kernel)) (fun _ _ _ _ _ => (pg_tup rfl (pgs_cons (pg_name (i := 2) sc_law_some_kinds.nd rfl (by first | exact Or.inl rfl | exact Or.inr rfl)) (pgs_cons (pg_name (i := 3) sc_law_some_kinds.nd rfl (by first | exact Or.inl rfl | exact Or.inr rfl)) pgs_nil)))) (fun _ _ _ _ _ => (pts_one (pt_val (pv 3)))) (fun _ _ _ _ _ => (pv 2))))))))))))), ?_⟩
  refine k_first Z hX (by decide +kernel) (by decide +kernel) hE fun σ H1 h => ?_
  refine k_ext2 Z hX (by decide +kernel) (by decide +kernel) (by decide) h fun H1 h => ?_
  refine k_ext2 Z hX (by decide +kernel) (by decide +kernel) (by decide) h fun H1 h => ?_
  refine k_ext2 Z hX (by decide +kernel) (by decide +kernel) (by decide) h fun H1 h => ?_
  refine k_ext2 Z hX (by decide +kernel) (by decide +kernel) (by decide) h fun H1 h => ?_
  refine k_ext2 Z hX (by decide +kernel) (by decide +kernel) (by decide) h fun H1 h => ?_
  refine k_ext2 Z hX (by decide +kernel) (by decide +kernel) (by decide) h fun H1 h => ?_
  refine k_ext1 Z hX (by decide +kernel) (by decide) h fun H1 h => ?_
  obtain ⟨_, _, _, _, _, s0, _, _⟩ := id h
  exact k_comp h (by decide) fun p H' s _ hp => k p H' (s0.trans s) hp
theorem ok_kinds (F : FunD K "_law_kinds" "_law_kinds" (defArgs s_law_kinds) (defBody s_law_kinds) (defScope s_law_kinds) [] [] f fd) (hm : mg "_law_kinds" = some (.ref f)) (T : Bl mg base) (Z : Errs P w K mg base) (c_law_some_kinds : Cal P w K mg base 1 "_law_some_kinds" (spKinds K ns1) []) : Cal P w K mg base 2 "_law_kinds" (spKinds K (ns1 ++ ns2)) [] := by
  refine calD F hm sc_law_kinds (fun _ _ _ _ _ _ us hl => match us, hl with | [_], _ => rfl) (fun vs H Q E h => ?_) (fun cdv A outer s H vs Q E hr h => ?_)
  · obtain ⟨e, x, v, rfl, _⟩ := h
    rfl
  obtain ⟨e, x, v, rfl, hX, hE, k⟩ := h
  refine ⟨_, (pss_cons (ps_set (i := 1) sc_law_kinds.nd rfl (by first | exact Or.inl rfl | exact Or.inr rfl) (pe_lst (pa_cons (pe_tup (pa_cons pe_str (pa_cons (pe_callB call_isE (by rfl) T.isinstance (by decide +kernel) (pa_cons (pv 0) (pa_cons (pe_glob (v := .ref (He.ga K "Few")) (by rfl) (Z.m (x := "Few") (by decide +kernel)) rfl) pa_nil))) pa_nil))) (pa_cons (pe_tup (pa_cons pe_str (pa_cons (pe_callB call_isE (by rfl) T.isinstance (by decide +kernel) (pa_cons (pv 0) (pa_cons (pe_glob (v := .ref (He.ga K "Full")) (by rfl) (Z.m (x := "Full") (by decide +kernel)) rfl) pa_nil))) pa_nil))) pa_nil))))
    (pss_cons (ps_expr (pe_bm PySem.F.plainAttrs_list PySem.F.slot_list_extend PySem.F.type_list_extend mt_extend (pv 1) (pa_cons (pe_lst (pa_cons (pe_tup (pa_cons pe_str (pa_cons (pe_callB call_isE (by rfl) T.isinstance (by decide +kernel) (pa_cons (pv 0) (pa_cons (pe_glob (v := .ref (He.ga K "Long")) (by rfl) (Z.m (x := "Long") (by decide +kernel)) rfl) pa_nil))) pa_nil))) (pa_cons (pe_tup (pa_cons pe_str (pa_cons (pe_callB call_isE (by rfl) T.isinstance (by decide +kernel) (pa_cons (pv 0) (pa_cons (pe_glob (v := .ref (He.ga K "Loose")) (by rfl) (Z.m (x := "Loose") (by decide +kernel)) rfl) pa_nil))) pa_nil))) pa_nil))) pa_nil)))
    (pss_cons (ps_expr (pe_bm PySem.F.plainAttrs_list PySem.F.slot_list_extend PySem.F.type_list_extend mt_extend (pv 1) (pa_cons (pe_lst (pa_cons (pe_tup (pa_cons pe_str (pa_cons (pe_callB call_isE (by rfl) T.isinstance (by decide +kernel) (pa_cons (pv 0) (pa_cons (pe_glob (v := .ref (He.ga K "Needed")) (by rfl) (Z.m (x := "Needed") (by decide +kernel)) rfl) pa_nil))) pa_nil))) (pa_cons (pe_tup (pa_cons pe_str (pa_cons (pe_callB call_isE (by rfl) T.isinstance (by decide +kernel) (pa_cons (pv 0) (pa_cons (pe_glob (v := .ref (He.ga K "NoDot")) (by rfl) (Z.m (x := "NoDot") (by decide +kernel)) rfl) pa_nil))) pa_nil))) pa_nil))) pa_nil)))
    (pss_cons (ps_expr (pe_bm PySem.F.plainAttrs_list PySem.F.slot_list_extend PySem.F.type_list_extend mt_extend (pv 1) (pa_cons (pe_lst (pa_cons (pe_tup (pa_cons pe_str (pa_cons (pe_callB call_isE (by rfl) T.isinstance (by decide +kernel) (pa_cons (pv 0) (pa_cons (pe_glob (v := .ref (He.ga K "NoName")) (by rfl) (Z.m (x := "NoName") (by decide +kernel)) rfl) pa_nil))) pa_nil))) (pa_cons (pe_tup (pa_cons pe_str (pa_cons (pe_callB call_isE (by rfl) T.isinstance (by decide +kernel) (pa_cons (pv 0) (pa_cons (pe_glob (v := .ref (He.ga K "Nothing")) (by rfl) (Z.m (x := "Nothing") (by decide +kernel)) rfl) pa_nil))) pa_nil))) pa_nil))) pa_nil)))
    (pss_cons (ps_expr (pe_bm PySem.F.plainAttrs_list PySem.F.slot_list_append PySem.F.type_list_append mt_append (pv 1) (pa_cons (pe_tup (pa_cons pe_str (pa_cons (pe_callB call_isE (by rfl) T.isinstance (by decide +kernel) (pa_cons (pv 0) (pa_cons (pe_glob (v := .ref (He.ga K "NothingToRedo")) (by rfl) (Z.m (x := "NothingToRedo") (by decide +kernel)) rfl) pa_nil))) pa_nil))) pa_nil)))
    (pss_cons (ps_expr (pe_bm PySem.F.plainAttrs_list PySem.F.slot_list_append PySem.F.type_list_append mt_append (pv 1) (pa_cons (pe_tup (pa_cons pe_str (pa_cons (pe_callB call_isE (by rfl) T.isinstance (by decide +kernel) (pa_cons (pv 0) (pa_cons (pe_glob (v := .ref (He.ga K "NothingToUndo")) (by rfl) (Z.m (x := "NothingToUndo") (by decide +kernel)) rfl) pa_nil))) pa_nil))) pa_nil)))
    (pss_cons (ps_expr (pe_bm PySem.F.plainAttrs_list PySem.F.slot_list_extend PySem.F.type_list_extend mt_extend (pv 1) (pa_cons (pe_lst (pa_cons (pe_tup (pa_cons pe_str (pa_cons (pe_callB call_isE (by rfl) T.isinstance (by decide +kernel) (pa_cons (pv 0) (pa_cons (pe_glob (v := .ref (He.ga K "NoTrial")) (by rfl) (Z.m (x := "NoTrial") (by decide +kernel)) rfl) pa_nil))) pa_nil))) (pa_cons (pe_tup (pa_cons pe_str (pa_cons (pe_callB call_isE (by rfl) T.isinstance (by decide +kernel) (pa_cons (pv 0) (pa_cons (pe_glob (v := .ref (He.ga K "NotSure")) (by rfl) (Z.m (x := "NotSure") (by decide +kernel)) rfl) pa_nil))) pa_nil))) pa_nil))) pa_nil)))
    (pss_cons (ps_expr (pe_bm PySem.F.plainAttrs_list PySem.F.slot_list_extend PySem.F.type_list_extend mt_extend (pv 1) (pa_cons (pe_lst (pa_cons (pe_tup (pa_cons pe_str (pa_cons (pe_callB call_isE (by rfl) T.isinstance (by decide +kernel) (pa_cons (pv 0) (pa_cons (pe_glob (v := .ref (He.ga K "OtherBook")) (by rfl) (Z.m (x := "OtherBook") (by decide +kernel)) rfl) pa_nil))) pa_nil))) (pa_cons (pe_tup (pa_cons pe_str (pa_cons (pe_callB call_isE (by rfl) T.isinstance (by decide +kernel) (pa_cons (pv 0) (pa_cons (pe_glob (v := .ref (He.ga K "Used")) (by rfl) (Z.m (x := "Used") (by decide +kernel)) rfl) pa_nil))) pa_nil))) pa_nil))) pa_nil)))
    (pss_one (ps_ret (pe_op op_cat (pe_c c_law_some_kinds hr (by decide) (by rfl) (pa_cons (pv 0) pa_nil)) (pe_lc (own := [("name", 2), ("is_form", 3)]) (g := (gTup K 2 (gCons (gName 2) (gCons (gName 3) gNil)))) rfl sc_law_kinds.nd (pi_list (pv 1)) (blkOk_by (own := [("name", 2), ("is_form", 3)]) (N := n_law_kinds) (sc := defScope s_law_kinds) (by decide +kernel)) (fun _ _ _ _ _ => (pg_tup rfl (pgs_cons (pg_name (i := 2) sc_law_kinds.nd rfl (by first | exact Or.inl rfl | exact Or.inr rfl)) (pgs_cons (pg_name (i := 3) sc_law_kinds.nd rfl (by first | exact Or.inl rfl | exact Or.inr rfl)) pgs_nil)))) (fun _ _ _ _ _ => (pts_one (pt_val (pv 3)))) (fun _ _ _ _ _ => (pv 2)))))))))))))), ?_⟩
  refine k_first Z hX (by decide +kernel) (by decide +kernel) hE fun σ H1 h => ?_
  refine k_ext2 Z hX (by decide +kernel) (by decide +kernel) (by decide) h fun H1 h => ?_
  refine k_ext2 Z hX (by decide +kernel) (by decide +kernel) (by decide) h fun H1 h => ?_
  refine k_ext2 Z hX (by decide +kernel) (by decide +kernel) (by decide) h fun H1 h => ?_
  refine k_app Z hX (by decide +kernel) (by decide) h fun H1 h => ?_
  refine k_app Z hX (by decide +kernel) (by decide) h fun H1 h => ?_
  refine k_ext2 Z hX (by decide +kernel) (by decide +kernel) (by decide) h fun H1 h => ?_
  refine k_ext2 Z hX (by decide +kernel) (by decide +kernel) (by decide) h fun H1 h => ?_
  obtain ⟨l, ts, rfl, hK, hE1, s0, n0, hl⟩ := id h
  refine ⟨_, rfl, e, x, v, rfl, hX, hE1, fun p1 H2 s2 e2 => ?_⟩
  have h2 : KSt K x e v H [some (.ref e), some (.ref l), none, none] H2 ns2 := ⟨l, ts, rfl, ⟨s2 _ _ hK.1, fun q hq => s2 _ _ (hK.2 q hq)⟩, hE1.same s2, s0.trans s2, n0, hl⟩
  refine k_comp h2 (by decide) fun p2 H3 s3 _ e3 => ?_
  refine ⟨p1, p2, _, _, rfl, rfl, s3 _ _ e2, e3, ?_, fun l hl => ?_⟩
  · rw [List.length_map, List.length_map]
    refine Nat.le_of_lt (small1000 (Nat.le_trans (Nat.add_le_add (List.length_filter_le _ _) (List.length_filter_le _ _)) (by decide)))
  refine k l _ (((s0.trans s2).trans s3).trans (Same.new hl)) ?_
  rw [upd_same, List.filter_append, List.map_append]
/-- the kinds of an error -/
theorem names_of {x : Str} (h : x ∈ subNames) : (ns1 ++ ns2).filter (fun y => decide (x = y)) = [x] := by
  have all : ∀ x ∈ subNames, (ns1 ++ ns2).filter (fun y => decide (x = y)) = [x] := by decide +kernel
  exact all x h
theorem names_M : (ns1 ++ ns2).filter (fun y => decide (("MirrorError" : Str) = y)) = [] := by decide +kernel
theorem giv_kinds {x : Str} {te : TE} {e : Addr} {v : V} {σ : L2.St} {H : Hp} (hx : x ∈ errNames) (h : Giv te σ H fun y _ => y = .ref e) (hE : ErrAt K H e x v) :
    Giv (tCall (spKinds K (ns1 ++ ns2)) [] E0 (tCons te tNil)) σ H fun y H' => ∃ p, y = .ref p ∧ H' p = some (.lst (((ns1 ++ ns2).filter fun y => decide (x = y)).map V.str)) := fun Q q =>
  h _ fun y H1 s ey => by
    subst ey
    exact ⟨e, x, v, rfl, hx, hE.same s, fun p H' s' hp => q _ H' (s.trans s') ⟨p, rfl, hp⟩⟩
theorem giv_nil {σ : L2.St} {H : Hp} : Giv (tLst tNil) σ H fun y H' => ∃ p, y = .ref p ∧ H' p = some (.lst []) := fun Q q => ⟨Nat.zero_le _, fun p hp => q _ _ (Same.new hp) ⟨p, rfl, upd_same⟩⟩
theorem giv_one {σ : L2.St} {H : Hp} {te : TE} {v : V} (h : Giv te σ H fun y _ => y = v) : Giv (tLst (tCons te tNil)) σ H fun y H' => ∃ p, y = .ref p ∧ H' p = some (.lst [v]) := fun Q q =>
  h _ fun y H1 s e => by
    subst e
    exact ⟨(by show 1 ≤ sizeLine; decide), fun p hp => q _ _ (s.trans (Same.new hp)) ⟨p, rfl, upd_same⟩⟩
theorem shaped1 : ∀ x ∈ subNames, SeqAt.shaped (.list ([x].map .str)) = true := by decide +kernel
theorem canLay1 : ∀ x ∈ subNames, (PyData.list ([x].map .str)).canLay0 = true := by decide +kernel
/-- _law_kinds(e) != [..] is False -/
theorem kinds_eq {x : Str} {te : TE} {ta : TA} {e : Addr} {v : V} {σ : L2.St} {H : Hp} {ys : List Str} (hx : x ∈ errNames) (h : Giv te σ H fun y _ => y = .ref e) (hE : ErrAt K H e x v) (hn : (ns1 ++ ns2).filter (fun y => decide (x = y)) = ys)
    (hl : ∀ H1, Same H H1 → Giv (tLst ta) σ H1 fun y H' => ∃ p, y = .ref p ∧ H' p = some (.lst (ys.map V.str))) (h1 : SeqAt.shaped (.list (ys.map .str)) = true) (hc : (PyData.list (ys.map .str)).canLay0 = true) :
    Says false (tTest (tOp (rNeD K) (tCall (spKinds K (ns1 ++ ns2)) [] E0 (tCons te tNil)) (tLst ta))) σ H := by
  refine says_test ((giv_op (o := fun v _ => v = .bl false) (giv_kinds hx h hE) (fun y H1 s _ => hl H1 s) fun a b H1 H2 s1 s2 ea eb Q q => ?_))
  obtain ⟨p, rfl, hp⟩ := ea
  obtain ⟨r, rfl, hr⟩ := eb
  have all : ∀ zs : List Str, DpAll K H2 (zs.map V.str) (zs.map PyData.str) := fun zs => by
    induction zs with
    | nil => exact .nil
    | cons z zs ih => exact .cons (.str z) ih
  refine ⟨.list (ys.map .str), .list (ys.map .str), .lst (SqL.of (by rw [← hn]; exact s2 _ _ hp)) (all ys), .lst (SqL.of hr) (all ys), h1, h1, ?_⟩
  rw [SeqAt.eqv_refl _ hc]
  exact q _ H2 (Same.refl H2) rfl
/-- repr(e.value) != repr(value) is False -/
theorem value_kept {x : Str} {i j B k : Nat} {e : Addr} {v : V} {σ : L2.St} {H : Hp} (Z : Errs P w K mg base) (hx : x ∈ errNames) (hi : σ[i]? = some (some (.ref e))) (hj : σ[j]? = some (some v)) (hE : ErrAt K H e x v) (hm : Sm B k H v) (hB : B ≤ 1000) (hk : k ≤ 60) :
    Says false (tTest (tOp rNe (tCB rReprD (tCons (tExF K "value" (tVar i)) tNil)) (tCB rReprD (tCons (tVar j) tNil)))) σ H := by
  obtain ⟨d, h1, h2, h3, h4⟩ := hm
  have g := giv_ne (x := .str d.shown) (y := .str d.shown) rfl (giv_repr hB hk (giv_value Z hx (giv_var hi) hE) h1 h2 h3 h4) (fun H1 s => giv_repr hB hk (giv_var hj) (h1.same s) h2 h3 h4)
  refine says_test (g.mono fun u _ _ eu => ?_)
  rw [eu, decide_eq_true rfl]
  rfl
/-- a draw of _law_odd -/
theorem odd_call {a : Addr} {n : Nat} {σ : L2.St} {H : Hp} {Q : VK} (hv : σ[0]? = some (some (.ref a))) (hp : PotAt H a n) (hn : n < 999999) (q : ∀ v H', PotAt H' a (n + 1) → KeptBut a H H' → Sm 40 3 (fresh H H') v → Q v H') : tCall spOdd [] E0 (tCons (tVar 0) tNil) σ H Q :=
  ⟨_, hv, a, n, rfl, hp, hn, q⟩
theorem ok_right (F : FunD K "_law_right" "_law_right" (defArgs s_law_right) (defBody s_law_right) (defScope s_law_right) [] [] f fd) (hm : mg "_law_right" = some (.ref f)) (T : Bl mg base) (Z : Errs P w K mg base) (c_law_odd : Cal P w K mg base 3 "_law_odd" spOdd []) (c_law_errors : Cal P w K mg base 3 "_law_errors" (spErrors K) [])
    (c_law_kinds : Cal P w K mg base 2 "_law_kinds" (spKinds K (ns1 ++ ns2)) []) : CalG P w K mg base 4 "_law_right" spRight := by
  refine calG F hm sc_law_right (fun _ _ _ _ _ _ us hl => match us, hl with | [_], _ => rfl) (fun vs H Q E h => ?_) (fun cdv A outer s H vs Q E gd hr h => ?_)
  · obtain ⟨a, rfl, _⟩ := h
    rfl
  obtain ⟨a, rfl, hp, k⟩ := h
  obtain ⟨p0, p1, p2, ep, _⟩ := id hp
  refine ⟨_, (pss_cons (ps_for PassesOwn.never rfl (pi_list (pe_op op_cat (pe_lc (own := [("lap", 2)]) (g := (gName 2)) (tt := tYes) rfl sc_law_right.nd (pi_range1 (by rfl) T.range (pa_cons pe_int pa_nil)) (blkOk_by (own := [("lap", 2)]) (N := n_law_right) (sc := defScope s_law_right) (by decide +kernel)) (fun _ _ _ _ _ => (pg_name (i := 2) sc_law_right.nd rfl (by first | exact Or.inl rfl | exact Or.inr rfl))) (fun _ _ _ _ _ => pts_nil) (fun _ _ _ _ _ => (pe_c c_law_odd hr (by decide) (by rfl) (pa_cons (pv 0) pa_nil)))) (pe_lst (pa_cons (pe_tup (pa_cons (pe_c c_law_odd hr (by decide) (by rfl) (pa_cons (pv 0) pa_nil)) (pa_cons (pe_lst (pa_cons (pe_c c_law_odd hr (by decide) (by rfl) (pa_cons (pv 0) pa_nil)) pa_nil)) pa_nil))) pa_nil)))) (pg_name (i := 1) sc_law_right.nd rfl (by first | exact Or.inl rfl | exact Or.inr rfl))
    (pss_cons (ps_set (i := 3) sc_law_right.nd rfl (by first | exact Or.inl rfl | exact Or.inr rfl) (pe_err Z (x := "MirrorError") (by decide +kernel) hr (by decide) (by rfl) (pa_cons (pv 1) pa_nil)))
    (pss_cons (ps_if (PW.pt (pw_or (pt_cmpR op_ne (pe_callB (call_reprD gd hr.units T.mods) (by rfl) T.repr (by decide +kernel) (pa_cons (pe_exF (pv 3) rfl) pa_nil)) (pe_callB (call_reprD gd hr.units T.mods) (by rfl) T.repr (by decide +kernel) (pa_cons (pv 1) pa_nil)) (nomark _)) (pw_or (pt_not (pt_val (pe_callB call_isE (by rfl) T.isinstance (by decide +kernel) (pa_cons (pv 3) (pa_cons (pe_bltn (v := .ty "ValueError") (by rfl) T.ValueError (by decide +kernel) rfl) pa_nil))))) (pw_or1 (pt_cmpR (op_neD hr.units) (pe_c c_law_kinds hr (by decide) (by rfl) (pa_cons (pv 3) pa_nil)) (pe_lst pa_nil) (nomark _)))))) (pss_one (ps_ret pe_bl)) pss_nil)
    (pss_one (ps_for PassesOwn.never rfl (pi_list (pe_c c_law_errors hr (by decide) (by rfl) (pa_cons (pv 1) pa_nil))) (pg_tup rfl (pgs_cons (pg_name (i := 4) sc_law_right.nd rfl (by first | exact Or.inl rfl | exact Or.inr rfl)) (pgs_cons (pg_name (i := 5) sc_law_right.nd rfl (by first | exact Or.inl rfl | exact Or.inr rfl)) pgs_nil)))
    (pss_cons (ps_if (PW.pt (pw_or (pt_cmpR op_ne (pe_callB (call_reprD gd hr.units T.mods) (by rfl) T.repr (by decide +kernel) (pa_cons (pe_exF (pv 5) rfl) pa_nil)) (pe_callB (call_reprD gd hr.units T.mods) (by rfl) T.repr (by decide +kernel) (pa_cons (pv 1) pa_nil)) (nomark _)) (pw_or1 (pt_cmpR (op_neD hr.units) (pe_c c_law_kinds hr (by decide) (by rfl) (pa_cons (pv 5) pa_nil)) (pe_lst (pa_cons (pv 4) pa_nil)) (nomark _))))) (pss_one (ps_ret pe_bl)) pss_nil)
    (pss_one (ps_if (PW.pt (pw_or (pt_not (pt_val (pe_callB call_isE (by rfl) T.isinstance (by decide +kernel) (pa_cons (pv 5) (pa_cons (pe_glob (v := .ref (He.ga K "MirrorError")) (by rfl) (Z.m (x := "MirrorError") (by decide +kernel)) rfl) pa_nil))))) (pw_or1 (pt_not (pt_val (pe_callB call_isE (by rfl) T.isinstance (by decide +kernel) (pa_cons (pv 5) (pa_cons (pe_bltn (v := .ty "ValueError") (by rfl) T.ValueError (by decide +kernel) rfl) pa_nil)))))))) (pss_one (ps_ret pe_bl)) pss_nil))))))))
    (pss_one (ps_ret pe_bl))), ?_⟩
  -- [_law_odd(pot) for lap in range(3)]
  refine ⟨3, rfl, by decide, by decide, fun D hD => ?_⟩
  have nDa : D ≠ a := (ne_of_none ep hD).symm
  let HD : Hp := upd H D (.lst [])
  have hpD : PotAt HD a 0 := hp.new hD
  refine lc_range (lo := 0) (n := 3) (fun i H' => PotAt H' a i ∧ (∀ b o, HD b = some o → b ≠ a → b ≠ D → H' b = some o) ∧ ∃ acc, H' D = some (.lst acc) ∧ acc.length = i ∧ ∀ v ∈ acc, Sm 40 3 (fresh HD H') v) ⟨hpD, fun b o e _ _ => e, [], upd_same, rfl, fun _ h => nomatch h⟩ ?_ ?_
  · rintro i H' hi ⟨h1, h2, acc, h3, h4, h5⟩
    refine ⟨rfl, ?_⟩
    refine yes_if ?_
    refine odd_call rfl h1 (by omega) fun v H2 q1 q2 q3 => ?_
    have hD2 := q2 D _ h3 nDa
    obtain ⟨_, _, _, e2, _⟩ := id q1
    have up : Same (fresh HD H2) (fresh HD (upd H2 D (.lst (acc ++ [v])))) := fresh_of fun b o n e => by
      rw [upd_ne (fun z => by rw [z] at n; exact nomatch (n.symm.trans upd_same))]
      exact e
    refine ⟨acc, hD2, small1000 (by omega), q1.keep (fun o e => by rw [upd_ne nDa.symm]; exact e), fun b o e n1 n2 => ?_, acc ++ [v], upd_same, by rw [List.length_append, h4]; rfl, fun u hu => ?_⟩
    · rw [upd_ne n2]
      exact q2 b o (h2 b o e n1 n2) n1
    · rcases List.mem_append.mp hu with z | z
      · refine (h5 u z).same fun b o e => up b o (fresh_of (H1 := H') (fun b o n e => q2 b o e fun z => ?_) b o e)
        rw [z] at n
        obtain ⟨_, _, _, ea, _⟩ := id hpD
        exact nomatch (n.symm.trans ea)
      · rcases List.mem_cons.mp z with rfl | z
        · refine q3.same fun b o e => up b o (fresh_less (H1 := H') (fun b n => ?_) b o e)
          cases hb : HD b with
          | none => rfl
          | some u =>
            by_cases c1 : b = a
            · obtain ⟨_, _, _, e1, _⟩ := id h1
              rw [c1, e1] at n
              cases n
            · by_cases c2 : b = D
              · rw [c2, h3] at n
                cases n
              · rw [h2 b u hb c1 c2] at n
                cases n
        · cases z
  · rintro H3 ⟨h1, h2, acc, h3, h4, h5⟩
    -- (_law_odd(pot), [_law_odd(pot)])
    refine odd_call rfl h1 (by decide) fun v1 H4 p4 k4 m4 => ?_
    refine odd_call rfl p4 (by decide) fun v2 H5 p5 k5 m5 => ?_
    refine ⟨(by show 1 ≤ sizeLine; decide), fun l1 hl1 => ⟨(by show 2 ≤ sizeLine; decide), fun t1 ht1 => ⟨(by show 1 ≤ sizeLine; decide), fun l2 hl2 => ?_⟩⟩⟩
    have s1 := Same.new (o := .lst [v2]) hl1
    have s2 := Same.new (o := .tup [v1, .ref l1]) ht1
    have s3 := Same.new (o := .lst [.ref t1]) hl2
    have s123 := (s1.trans s2).trans s3
    have a3 : ∃ u, H3 a = some u := let ⟨_, _, _, e, _⟩ := h1; ⟨_, e⟩
    have a4 : ∃ u, H4 a = some u := let ⟨_, _, _, e, _⟩ := p4; ⟨_, e⟩
    obtain ⟨u3, a3⟩ := a3
    obtain ⟨u4, a4⟩ := a4
    have D5 := k5 D _ (k4 D _ h3 nDa) nDa
    refine ⟨D, l2, acc, [.ref t1], rfl, rfl, s123 _ _ D5, upd_same, ?_, fun l3 hl3 => ?_⟩
    · rw [h4]
      show 3 + 1 ≤ sizeLine
      decide
    have s4 := Same.new (o := .lst (acc ++ [.ref t1])) hl3
    let H6 : Hp := upd (upd (upd (upd H5 l1 (.lst [v2])) t1 (.tup [v1, .ref l1])) l2 (.lst [.ref t1])) l3 (.lst (acc ++ [.ref t1]))
    have s6 : Same H5 H6 := s123.trans s4
    -- all that the loop goes over is small
    have all : ∀ v ∈ acc ++ [.ref t1], Sm 200 6 H6 v := by
      intro v hv
      rcases List.mem_append.mp hv with z | z
      · refine Sm.mono (B := 40) (k := 3) (Sm.same (H := fresh HD H3) (h5 v z) fun b o e => ?_) (by decide) (by decide)
        have e3 := fresh_sub b o e
        have nb : b ≠ a := fun c => by
          obtain ⟨_, _, _, ea, _⟩ := id hpD
          unfold Lm.fresh at e
          rw [c, ea] at e
          cases e
        exact s6 _ _ (k5 b o (k4 b o e3 nb) nb)
      · rcases List.mem_cons.mp z with rfl | z
        · have b1 : Sm 40 3 H6 v1 := m4.same fun b o e => by
            have nb : b ≠ a := fun c => by
              unfold Lm.fresh at e
              rw [c, a3] at e
              cases e
            exact s6 _ _ (k5 b o (fresh_sub b o e) nb)
          have b2 : Sm 40 3 H6 v2 := m5.same fun b o e => s6 _ _ (fresh_sub b o e)
          have e1 : H6 l1 = some (.lst [v2]) := s4 _ _ (s3 _ _ (s2 _ _ upd_same))
          have e2 : H6 t1 = some (.tup [v1, .ref l1]) := s4 _ _ (s3 _ _ upd_same)
          have c2 : Sm 45 4 H6 (.ref l1) := Sm.lst e1 fun v hv => by
            rcases List.mem_cons.mp hv with rfl | hv
            · exact b2
            · cases hv
          refine Sm.mono (Sm.tup (B := 45) (k := 4) e2 fun v hv => ?_) (show 47 * 2 + 3 ≤ 200 by decide) (by decide)
          rcases List.mem_cons.mp hv with rfl | hv
          · exact b1.mono (by decide) (by decide)
          · rcases List.mem_cons.mp hv with rfl | hv
            · exact c2
            · cases hv
        · cases z
    have kept : KeptBut a H H6 := fun b o e n => by
      have nD : b ≠ D := ne_of_none e hD
      exact s6 _ _ (k5 b o (k4 b o (h2 b o (by show upd H D _ b = _; rw [upd_ne nD]; exact e) n nD) n) n)
    refine ⟨l3, rfl, ⟨_, SqL.of upd_same⟩, for_list (K := K) (a := l3) (xs := acc ++ [.ref t1]) (fun i σ H' => ∃ s1 s2 s3 s4 s5, σ = [some (.ref a), s1, s2, s3, s4, s5] ∧ Same H6 H') ⟨_, _, _, _, _, rfl, Same.refl H6⟩ (fun i σ H' _ ⟨_, _, _, _, _, _, s⟩ => SqL.of (s _ _ upd_same)) ?_ ?_⟩
    · rintro i v σ H' hi ⟨x1, x2, x3, x4, x5, rfl, s⟩
      have hm : Sm 200 6 H' v := (all v (List.mem_of_getElem? hi)).same s
      have eM : ("MirrorError" : Str) ∈ errNames := by decide +kernel
      refine asg_giv (giv_err Z eM (giv_var (v := v) rfl)) fun y H7 s7 ey => ?_
      obtain ⟨e, rfl, _, hE⟩ := ey
      refine if_no (says_or (value_kept (i := 3) (j := 1) Z eM rfl rfl hE (hm.same s7) (by decide) (by decide)) fun H8 s8 => says_or (says_not (says_val (giv_isiV Z eM (giv_var rfl) (fun H9 _ => giv_c) (hE.same s8)))) fun H9 s9 =>
        kinds_eq (ys := []) eM (giv_var rfl) ((hE.same s8).same s9) names_M (fun H10 s10 => giv_nil) (by decide +kernel) (by decide +kernel)) fun H8 s8 => ?_
      refine ⟨_, rfl, v, rfl, fun l ts H9 s9 hEL hts => ?_⟩
      refine ⟨l, rfl, ⟨_, SqL.of hEL.1⟩, for_list (K := K) (a := l) (xs := ts.map V.ref) (fun i σ H' => ∃ s4 s5, σ = [some (.ref a), some v, x2, some (.ref e), s4, s5] ∧ Same H9 H') ⟨_, _, rfl, Same.refl H9⟩ (fun i σ H' _ ⟨_, _, _, s⟩ => SqL.of (s _ _ hEL.1)) ?_ ?_⟩
      · rintro i2 u σ2 H10 hi2 ⟨y4, y5, rfl, s10⟩
        obtain ⟨t, ht, rfl⟩ : ∃ t, t ∈ ts ∧ V.ref t = u := List.mem_map.mp (List.mem_of_getElem? hi2)
        obtain ⟨x, e2, hx, h1, h2⟩ := hEL.2 t ht
        have ex : x ∈ errNames := List.mem_cons_of_mem _ hx
        refine ⟨t, _, rfl, SqT.of (s10 _ _ h1), rfl, _, _, rfl, _, _, rfl, rfl, ?_⟩
        have hE2 := h2.same s10
        have hm2 : Sm 200 6 H10 v := (((hm.same s7).same s8).same s9).same s10
        refine if_no (says_or (value_kept (i := 5) (j := 1) Z ex rfl rfl hE2 hm2 (by decide) (by decide)) fun H11 s11 =>
          kinds_eq (ys := [x]) ex (giv_var rfl) (hE2.same s11) (names_of hx) (fun H12 s12 => giv_one (giv_var rfl)) (shaped1 x hx) (canLay1 x hx)) fun H11 s11 => ?_
        refine if_no (says_or (says_not (says_val (giv_isiM Z ex (giv_var rfl) (fun H9 _ => giv_c) (hE2.same s11)))) fun H12 s12 => says_not (says_val (giv_isiV Z ex (giv_var rfl) (fun H9 _ => giv_c) ((hE2.same s11).same s12)))) fun H12 s12 => ?_
        exact ⟨_, _, rfl, (s10.trans s11).trans s12⟩
      · rintro σ2 H10 ⟨y4, y5, rfl, s10⟩
        exact ⟨_, _, _, _, _, rfl, (((s.trans s7).trans s8).trans s9).trans s10⟩
    · rintro σ H' ⟨x1, x2, x3, x4, x5, rfl, s⟩
      exact k H' (kept.trans (KeptBut.of_same s))
end
end K00

namespace K00
open PySem PySem.Spec PyProof.Rows L2 Lm
/-! ### the head -/
abbrev dd (x : Str) (s : Stmt) : He.DefD := ⟨(x, none), x, x, defArgs s, defBody s, defScope s, [], []⟩
def dI : He.DefD := ⟨("MirrorError", some "__init__"), "__init__", "MirrorError.__init__", defArgs s_MirrorError_init, defBody s_MirrorError_init, defScope s_MirrorError_init, [], []⟩
def fn : List He.DefD := [dI, dd "_law_pot" s_law_pot, dd "_law_take" s_law_take, dd "_law_of" s_law_of, dd "_law_cells" s_law_cells, dd "_law_odd" s_law_odd, dd "_law_errors" s_law_errors, dd "_law_some_kinds" s_law_some_kinds, dd "_law_kinds" s_law_kinds, dd "_law_right" s_law_right, dd "law" s_law]
def defNames : List Str := ["_law_pot", "_law_take", "_law_of", "_law_cells", "_law_odd", "_law_errors", "_law_some_kinds", "_law_kinds", "_law_right", "law"]
def looseNames : List Str := errNames ++ (["_law_pot", "_law_take", "_law_of", "_law_cells", "_law_odd", "_law_errors", "_law_some_kinds", "_law_kinds", "_law_right"] : List Str)
def fa : List He.Fa := errNames.map He.Fa.glo ++ (defNames.map He.Fa.glo ++ freeNames.map He.Fa.free)
abbrev R : PySem.W.OpenRow := PySem.W.OpenLaw.row PySem.Challenge.rw_loosemirrors_k00_errors_keep_their_value
abbrev hk : PySem.W.Hook := He.hookX 6 fa fn [] [] errsB
def ob (s : PySem.W.SharedT) : He.AlX := He.obsX 6 fa fn [] [] errsB (HandSHeadRun.getT s)
theorem ob_eq (s : PySem.W.SharedT) : ob s = hk.obs s.abs := He.obsX_eq (HandSHeadRun.getT_eq s)
theorem run (w : World) : HandSHeadRun.RunEq R (PySem.W.view R.prog [41]) hk ob 40000 looseNames w := by
  intro os
  kernel_rfl
theorem facts {P : Program} {w : World} {K : PySem.W.Frag} {h : Heap} {mg : Str → Option Value} {f : Addr} (X : K.In h) (G : h.Ns mainGlobals mg) (hfa : mg ("law" : Str) = some (.ref f)) (c : He.SaysD fa fn K) (hx : errsB K = true) :
    ∃ fd : FuncData, (∀ (s : Shared) (v : Value), BindsTo s fd ⟨[v], []⟩ [("script", v)]) ∧ ∀ base : Heap, LawHeap K mg base → FnG P w K mg base CX0 5 f fd ["script"] (spLaw K) := by
  have gl : ∀ {x : Str}, x ∈ errNames ++ defNames → mg x = some (.ref (He.ga K x)) := fun {x} hx => He.glo_ok X G (c.facts (by
    unfold fa
    rcases List.mem_append.mp hx with h | h
    · exact List.mem_append_left _ (List.mem_map.mpr ⟨x, h, rfl⟩)
    · exact List.mem_append_right _ (List.mem_append_left _ (List.mem_map.mpr ⟨x, h, rfl⟩))))
  have fr : ∀ {x : Str}, x ∈ freeNames → mg x = none := fun {x} hx => He.free_ok X G (c.facts (by
    unfold fa
    exact List.mem_append_right _ (List.mem_append_right _ (List.mem_map.mpr ⟨x, hx, rfl⟩))))
  have ge : ∀ {x : Str}, x ∈ errNames → mg x = some (.ref (He.ga K x)) := fun hx => gl (List.mem_append_left _ hx)
  have gd : ∀ {x : Str}, x ∈ defNames → mg x = some (.ref (He.ga K x)) := fun hx => gl (List.mem_append_right _ hx)
  obtain ⟨fd0, F0⟩ := c.def_ 0 (d := dI) rfl
  obtain ⟨fd1, F1⟩ := c.def_ 1 (d := dd "_law_pot" s_law_pot) rfl
  obtain ⟨fd2, F2⟩ := c.def_ 2 (d := dd "_law_take" s_law_take) rfl
  obtain ⟨fd3, F3⟩ := c.def_ 3 (d := dd "_law_of" s_law_of) rfl
  obtain ⟨fd4, F4⟩ := c.def_ 4 (d := dd "_law_cells" s_law_cells) rfl
  obtain ⟨fd5, F5⟩ := c.def_ 5 (d := dd "_law_odd" s_law_odd) rfl
  obtain ⟨fd6, F6⟩ := c.def_ 6 (d := dd "_law_errors" s_law_errors) rfl
  obtain ⟨fd7, F7⟩ := c.def_ 7 (d := dd "_law_some_kinds" s_law_some_kinds) rfl
  obtain ⟨fd8, F8⟩ := c.def_ 8 (d := dd "_law_kinds" s_law_kinds) rfl
  obtain ⟨fd9, F9⟩ := c.def_ 9 (d := dd "_law_right" s_law_right) rfl
  obtain ⟨fd10, F10⟩ := c.def_ 10 (d := dd "law" s_law) rfl
  have e := hfa.symm.trans (gd (x := "law") (by decide +kernel))
  cases e
  have b := FunD.bindsA (ps := ["script"]) F10 fun _ _ _ _ _ _ us hl => match us, hl with | [_], _ => rfl
  have bI := FunD.bindsN (ps := ["self", "value"]) F0 fun _ _ _ _ _ _ us hl => match us, hl with | [_, _], _ => rfl
  refine ⟨fd10, fun s v => b s [v] rfl, fun base LH => ?_⟩
  have T : Bl mg base := bl_of fr LH.mods
  have Z : Errs P w K mg base := errsB_ok hx ge (ok_init F0) bI
  have c1 := ok_pot (P := P) (w := w) F1 (gd (by decide +kernel)) T
  have c2 := ok_take (P := P) (w := w) F2 (gd (by decide +kernel)) T
  have c3 := ok_of F3 (gd (by decide +kernel)) T c2
  have c4 := ok_cells (P := P) (w := w) F4 (gd (by decide +kernel)) T
  have c5 := ok_odd F5 (gd (by decide +kernel)) T c3
  have c6 := ok_errors F6 (gd (by decide +kernel)) T Z
  have c7 := ok_some_kinds F7 (gd (by decide +kernel)) T Z
  have c8 := ok_kinds F8 (gd (by decide +kernel)) T Z c7
  have c9 := ok_right F9 (gd (by decide +kernel)) T Z c5 c6 c8
  exact ok_law F10 hfa T c1 c4 c9
end K00
open PySem PySem.W PySem.Calls PyProof.Rows
theorem PySem.Challenge.cw_loosemirrors_k00_errors_keep_their_value_holds : PySem.Challenge.rw_loosemirrors_k00_errors_keep_their_value.Holds := by
  w_on; o_law
  refine HandSHeadRun.head_any (r := OpenLaw.row PySem.Challenge.rw_loosemirrors_k00_errors_keep_their_value) (q := view (OpenLaw.row PySem.Challenge.rw_loosemirrors_k00_errors_keep_their_value).prog [41]) (H := K00.hk) (ob := K00.ob) (M := 40000) (loose := K00.looseNames) (d := HandSHeadRun.topDef (OpenLaw.row PySem.Challenge.rw_loosemirrors_k00_errors_keep_their_value).prog 41) (kwd := []) K00.ob_eq
    (by kernel_rfl) (fun s => by kernel_rfl) K00.run (by kernel_rfl) (by kernel_rfl) (by kernel_rfl) (by rfl) (by first | assumption | decide +kernel) (by decide +kernel) ⟨rfl, rfl, rfl, rfl, rfl, by decide +kernel⟩ ?hw ?hc
  case hw => w_witness2
  case hc =>
    refine Lm.walkG (l := PySem.Challenge.rw_loosemirrors_k00_errors_keep_their_value) (n := 63) (k := 5) (x := "script") (CX := L2.CX0) rfl (by decide) (by kernel_rfl) ⟨rfl, by decide, by decide⟩ (by kernel_rfl) ?F (fun _ _ _ _ z => z)
    intro w mg fa h Y G hmg0
    obtain ⟨K, KX, c⟩ := Y
    have hmg : mg ("law" : PySem.Str) = some (.ref fa) := by
      have e : (HandSHeadRun.topDef (OpenLaw.row PySem.Challenge.rw_loosemirrors_k00_errors_keep_their_value).prog 41).name = ("law" : PySem.Str) := by kernel_rfl
      rw [← e]
      exact hmg0
    obtain ⟨fd, hb, hF⟩ := K00.facts (P := (PySem.Challenge.rw_loosemirrors_k00_errors_keep_their_value).prog) (w := w) KX G hmg c.t.d c.more
    exact ⟨K, fd, Lm.spLaw K, KX, hb, fun H a ns hl hO hS => ⟨a, ns, rfl, Lm.ScL.of hO hS, hl, fun _ => rfl⟩, hF⟩
