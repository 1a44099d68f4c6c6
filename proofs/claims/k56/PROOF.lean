import PyProof.Rows.All
import Wide.All
import OpenK.AllK
import Wide.FinOn
import PyProof.EqAt
import PyProof.EqKinds
import PyProof.TupleCall
import PyProof.Rows.ReprR
import HandS.Base
import HandS.Call
import HandS.List
import HandS.Comp
import HandS.Ends
import HandS.Dict
import HandS.Iter
import HandS.Text
import HandS.Words
import HandS.WordsList
import HandS.Defaults
import PyProof.StrBlock2
import HandS.Wide
import HandS.Codes
import PyProof.ReprLen
import PyProof.FitsInt
import HandS.Exc
import HandS.ExcInit
import HandS.ExcValue
import HandS.IsInst
import KE.KExcInit
import KE.KExcIs
import HandS.ExcField
import HandS.ExcIs
import HandS.MakeKwOnly
import HandS.ForDict
import HandS.Walk
import KE.GoesEnum
import KE.GoesMore
import HandS.Style
import HandS.TryOnly
import HandS.DictComp
import HandS.Conv
import HandS.Head0
import HandS.Head1
import HandS.Head2
import HandS.HeadEnd
import HandS.HeadHook1
import HandS.HeadHook2
import HandS.HeadHook3
import HandS.HeadHook4
import KE.KStateDown
import HandS.TryMany
import HandS.ExcOwn
import HandS.WordsExc
import HandS.CallSlots
import PyProof.P3Eq
import PyProof.TupleKey
import PyProof.DictKinds
import HandS.FStr
import HandS.SortKw
import KE.DatumOrd
import PyProof.P3In
import KE.DataEq
import HandS.Deep
import KE.KOpsOwn
import KE.KDictSum
import HandS.More
import HandS.Star
import HandS.TupAny
import HandS.DeepEq
import HandS.SetFor
import HandS.Strs
import PySem.Challenge.RW_toldpast_k56_terms_of_two_books
set_option Elab.async false
set_option linter.all false
set_option maxRecDepth 100000
set_option maxHeartbeats 4000000
/-! what the laws of this set share: promises of defs that are called where no repr is under way, and repr itself -/
namespace Tp
open PySem PySem.Spec PyProof.Rows L2

/-- a def keeps its promise wherever no repr is under way -/
structure FnG (P : Program) (w : World) (K : PySem.W.Frag) (mg : Str → Option Value) (base : Heap) (CX : CXT) (k : Nat)
    (f : Addr) (fd : FuncData) (ps : List Str) (sp : Sp) : Prop where
  len : ∀ vs H Q E, sp vs H Q E → vs.length = ps.length
  run : ∀ (B : Around) (out : List Env) (s : Shared) (H : Hp) (args : Args) (us : List Value) (vs : List V) (Q : VK) (E : XK),
    Room k B → B.guards = some [] → Env0 P w K mg base B out s H → BindsTo s fd args (ps.zip us) → Vals vs us → sp vs H Q E →
    codeAny (model P w) B (.call (.ref f) args) (CR CX out P w H s Q E) s

section
variable {P : Program} {w : World} {K : PySem.W.Frag} {mg : Str → Option Value} {base : Heap} {CX : CXT} {j k : Nat}
variable {f : Addr} {fd : FuncData} {ps : List Str} {sp sp' : Sp}
theorem FnG.of (F : FnOk P w K mg base CX k f fd ps sp) : FnG P w K mg base CX k f fd ps sp :=
  ⟨F.len, fun B out s H args us vs Q E hr _ he => F.run B out s H args us vs Q E hr he⟩
theorem FnG.up (F : FnG P w K mg base CX j f fd ps sp) (h : j ≤ k) : FnG P w K mg base CX k f fd ps sp :=
  ⟨F.len, fun B out s H args us vs Q E hr => F.run B out s H args us vs Q E (hr.mono h)⟩
theorem deeper_guards {B : Around} {env : Env} {g : List Code} (h : B.guards = some g) : (B.deeper env).guards = some g := h

/-- a body's reading gives the promise -/
theorem fnG_of {nm qual : Str} {params : Arguments} {body : List Stmt} {sc : Scope} {dV kV doc pm cdv ct oc : Value} {an od : Option Addr}
    {osl : Array (Option Value)} {N : List Str} (lk : K.lookup f = some ⟨oc, od, .func (PySem.W.fnOf nm qual params body sc dV kV doc pm an cdv ct), osl⟩)
    (hcd : PySem.W.codeIn K cdv qual = true) (S : FnScope N ps sc) (len : ∀ vs H Q E, sp vs H Q E → vs.length = ps.length)
    (hbody : ∀ (B : Around) (out : List Env) (s : Shared) (H : Hp) (vs : List V) (Q : VK) (E : XK),
      Room k (B.deeper (envOfC qual sc s.heap.objs.size f cdv)) → (B.deeper (envOfC qual sc s.heap.objs.size f cdv)).guards = some [] → sp vs H Q E →
      ∃ t, PSs (cxOf CX P w K mg base N qual sc f cdv B out s H E) body t ∧ t { nx := fun _ H' => Q .non H', rt := Q } (start N vs) H) :
    FnG P w K mg base CX (k + 1) f (PySem.W.fnOf nm qual params body sc dV kV doc pm an cdv ct) ps sp := by
  refine ⟨len, fun B out s H args us vs Q E hr hg e0 hb rv hsp => ?_⟩
  obtain ⟨t, ht, hq⟩ := hbody B out s H vs Q E (hr.deeper _) (deeper_guards hg) hsp
  have hl := len _ _ _ _ hsp
  have KX : K.In s.heap := e0.mod.kin.keeps fun b o e => (e0.bs b o e).1
  have lim : s.heap.NoLimit := e0.mod.nolimit.keeps fun b o e => (e0.bs b o e).1
  have hkind : ∀ y ∈ ps.zip us, sc.names.lookup y.1 = some .local ∨
      (sc.names.lookup y.1 = some .cell ∧ ((cellsFrom (s.heap.objs.size + 1) sc.names []).lookup y.1).isSome = true) := by
    rintro ⟨n, v⟩ hy
    exact (S.par n (List.of_mem_zip hy).1).imp id fun q => ⟨q, PySem.W.cellsFrom_some _ _ _ (.inl q)⟩
  refine codeAny_call_function hr.depth (KX _ _ lk) rfl S.co S.gen rfl (PySem.W.codeRec_of KX hcd) (hb _ _ _ _ ?_)
  refine wpAny_newFunctionEnv_cells S.kind hkind fun env he s1 x => ?_
  subst he
  refine ⟨lim.keeps x.toInCall.keep, codeAny_func ?_⟩
  have I : Inv (cxOf CX P w K mg base N qual sc f cdv B out s H E) [] (start N vs) H s1 := inv_start S hr.hd e0 hl rv x
  refine wpAny_mono (ht.run [] s1 (start N vs) H _ I hq) (fun fl s' hs => ?_) fun e s' hs => hs
  cases fl with
  | ret u =>
    obtain ⟨v, τ, G, J, rw', q⟩ := hs
    exact ⟨v, G, J.os, J.bare, J.base, J.hok, rw', q⟩
  | next =>
    obtain ⟨τ, G, J, q⟩ := hs
    exact ⟨V.non, G, J.os, J.bare, J.base, J.hok, rfl, q⟩
  | brk => exact hs.elim fun _ z => z.elim fun _ z => z.2.elim
  | cont => exact hs.elim fun _ z => z.elim fun _ z => z.2.elim

/-- a def of the text, its body walked -/
theorem FunG.ok {x qual : Str} {st : Stmt} {N : List Str} (F : Fun K x qual st f fd) (S : FnScope N ps (defScope st)) (len : ∀ vs H Q E, sp vs H Q E → vs.length = ps.length)
    (hb : ∀ (cdv : Value) (B : Around) (out : List Env) (s : Shared) (H : Hp) (vs : List V) (Q : VK) (E : XK),
      Room k (B.deeper (envOfC qual (defScope st) s.heap.objs.size f cdv)) → (B.deeper (envOfC qual (defScope st) s.heap.objs.size f cdv)).guards = some [] → sp vs H Q E →
      ∃ t, PSs (cxOf CX0 P w K mg base N qual (defScope st) f cdv B out s H E).nox (defBody st) t ∧ t { nx := fun _ H' => Q .non H', rt := Q } (start N vs) H) :
    FnG P w K mg base CX0 (k + 1) f fd ps sp := by
  obtain ⟨oc, od, kV, doc, pm, an, cdv, ct, osl, rfl, lk, hcd⟩ := F.ex
  refine fnG_of lk hcd S len fun B out s H vs Q E hr hg hsp => ?_
  obtain ⟨t, h, q⟩ := hb cdv B out s H vs Q E hr hg hsp
  exact ⟨t, h.nox, q⟩
end

/-- what a caller knows of a def of the module: its promise, where it stands -/
structure Cg (P : Program) (w : World) (K : PySem.W.Frag) (mg : Str → Option Value) (base : Heap) (k : Nat) (x : Str) (sp : Sp) : Prop where
  ex : ∃ (f : Addr) (fd : FuncData) (ps : List Str), FnG P w K mg base CX0 k f fd ps sp ∧ mg x = some (.ref f) ∧ PySem.W.keepIn K (.ref f) = true ∧ Binds K fd ps []
theorem Cg.mk' {P : Program} {w : World} {K : PySem.W.Frag} {mg : Str → Option Value} {base : Heap} {k : Nat} {x qual : Str} {sp : Sp} {f : Addr} {fd : FuncData} {ps : List Str} {st : Stmt}
    (F : Fun K x qual st f fd) (G : FnG P w K mg base CX0 k f fd ps sp) (hm : mg x = some (.ref f)) (hb : Binds K fd ps []) : Cg P w K mg base k x sp := ⟨⟨f, fd, ps, G, hm, F.kp, hb⟩⟩
def tCl (sp : Sp) (t : TA) : TE := fun σ H Q => t σ H fun vs H1 => sp vs H1 Q E0
section
variable {X : Cx} {j k : Nat} {x : Str} {p pos : Pos} {e : Expr} {es : List Expr} {t : TA} {sp : Sp}
theorem pe_g (c : Cg X.prog X.w X.K X.mg X.base j x sp) (hr : Room k X.A) (hG : X.A.guards = some []) (hk : j ≤ k) (hg : Gl X x) (ha : PA X (e :: es) t)
    (hdb : (x == ("__debug__" : Str)) = false := by decide) (he : starEach (e :: es) X.env = (false, eval e X.env) :: starEach es X.env := by rfl)
    (hpl : (backTo pos (starEach es X.env)).any (·.1) = false := by rfl) : PE X (.Call (.Name x p) (e :: es) [] pos) (tCl sp t) := by
  obtain ⟨f, fd, ps, F, hm, hkp, hb⟩ := c.ex
  refine ⟨fun pins s σ H Q I h => wpAny_Call_Name_kw (ld_glob I hg hm ?_ hdb)⟩
  refine PySem.W.callWith_K (h₀ := X.base) I.ok.mod.kin hkp (thn (ha.run pos pins s σ H _ I h) fun us s1 hh => ?_) he hpl
  obtain ⟨vs, H1, I1, r, q⟩ := hh
  refine ⟨I1.kIn, ?_⟩
  have hl : (us ++ []).length = ps.length := by
    rw [List.append_nil, ← r.length]
    exact F.len _ _ _ _ q
  have hbt := hb s1 us I1.kIn hl
  rw [List.append_nil] at hbt
  refine wpAny_call (codeAny_mono (F.run X.A X.stack s1 H1 ⟨us, []⟩ us vs Q E0 (hr.mono hk) hG I1.env0 hbt r q) fun r' s' hq => ?_)
  cases r' with
  | error e' => exact (show False from hq).elim
  | ok fl =>
    cases fl with
    | ret u => exact I1.after hq
    | next => exact (show False from hq).elim
    | brk => exact (show False from hq).elim
    | cont => exact (show False from hq).elim
end

/-! ### repr of plain data -/
mutual
theorem Dp.plain {K : PySem.W.Frag} {H : Hp} : ∀ (d : PyData) (v : V), Dp K H v d → d.hasDict = false
  | .none, _, _ => by simp only [PyData.hasDict]
  | .bool _, _, _ => by simp only [PyData.hasDict]
  | .int _, _, _ => by simp only [PyData.hasDict]
  | .str _, _, _ => by simp only [PyData.hasDict]
  | .list ds, _, h => by
    cases h with
    | lst _ ha => simpa only [PyData.hasDict] using Dp.plainAll ds _ ha
  | .tuple ds, _, h => by
    cases h with
    | tup _ ha => simpa only [PyData.hasDict] using Dp.plainAll ds _ ha
  | .dict _, _, h => by cases h
theorem Dp.plainAll {K : PySem.W.Frag} {H : Hp} : ∀ (ds : List PyData) (vs : List V), DpAll K H vs ds → PyData.hasDictAll ds = false
  | [], _, _ => by simp only [PyData.hasDictAll]
  | d :: ds, _, h => by
    cases h with
    | cons h1 h2 =>
      simp only [PyData.hasDictAll, Bool.or_eq_false_iff]
      exact ⟨Dp.plain d _ h1, Dp.plainAll ds _ h2⟩
end
def rRepr (K : PySem.W.Frag) : List V → Hp → VK → Prop := fun xs H Q => ∃ (a : Addr) (d : PyData), xs = [.ref a] ∧ Dp K H (.ref a) d ∧ d.showable = true ∧ d.depth ≤ 60 ∧ d.shown.length ≤ sizeLine ∧ Q (.str d.shown) H
theorem call_repr {X : Cx} {k : Nat} (hr : Room k X.A) (hG : X.A.guards = some []) : CallR X (.builtin "repr") (rRepr X.K) := by
  intro pins s σ H xs us Q I r h
  obtain ⟨a, d, rfl, hd, hs, hdep, hz, q⟩ := h
  obtain ⟨u, rfl, r1⟩ := vals1 r
  cases (show u = Value.ref a from r1)
  obtain ⟨as, hrd⟩ := Dp.reads I d _ _ hd rfl
  have hu := hr.units
  exact repr_of_reads' hrd hs (PyData.noDict_hsm (Dp.plain d _ hd)) hG (by omega) (fun _ _ e => e) (fun h' u tk hk => ⟨.str d.shown, H, I.kept hk, ⟨u, rfl⟩, q⟩) hz

/-! ### the law's call -/
theorem law_callG {P : Program} {w : World} {K : PySem.W.Frag} {mg mb : Str → Option Value} {k : Nat} {fa a : Addr} {fd : FuncData} {x : Str} {sp : Sp} {s1 : Shared} {vs : List Value} {ns : List Int}
    (KX : K.In s1.heap) (hns : s1.heap.Ns mainGlobals mg) (hb : s1.heap.Ns builtinsNs mb) (hbb : ∀ x : Str, x ≠ "__name__" → mb x = bootBuiltins x) (hlim : s1.heap.NoLimit) (hg : s1.gens = #[])
    (ha : s1.heap.get? a = some { cls := .type "list", data := .seq vs.toArray }) (hi : IntsAre vs ns) (hl : ns.length ≤ sizeLine) (hr : Room k callerA)
    (F : ∀ base : Heap, K.In base → base.Ns mainGlobals mg → FnG P w K mg base CX0 k fa fd [x] sp) (hbind : ∀ (s : Shared) (u : Value), BindsTo s fd ⟨[u], []⟩ [(x, u)])
    (hsp : ∀ H : Hp, Only H → SqL K H a (ns.map V.int) → sp [.ref a] H (fun v _ => v = .bl true) E0) :
    codeAny (model P w) callerA (.call (.ref fa) ⟨[.ref a], []⟩) (fun r s' => r = .ok (.ret (.bool true)) ∧ OldK s1.heap s'.heap ∧ s'.os = s1.os ∧ AllBare s'.gens) s1 := by
  -- the layer's own end, asked of a promise that holds of this one call alone, by a def that keeps none elsewhere
  have rv := vals_ints hi
  have lv := hi.length
  have core : ∀ H : Hp, Only H → SqL K H a (ns.map V.int) → HOk P w H s1.heap → (∀ b, H b ≠ none → b = a) → (H a ≠ none → K.lookup a = none) →
      codeAny (model P w) callerA (.call (.ref fa) ⟨[.ref a], []⟩) (fun r s' => r = .ok (.ret (.bool true)) ∧ OldK s1.heap s'.heap ∧ s'.os = s1.os ∧ AllBare s'.gens) s1 := by
    intro H hO hS hok hA hK
    have noA : ∀ {b : Addr} {o : Obj} {es : Array DictEntry} {ep : Nat}, s1.heap.get? b = some o → o.data = .dict es ep → H b = none := by
      intro b o es ep e d
      cases q : H b with
      | none => rfl
      | some u =>
        have eb := hA b (by rw [q]; exact Option.some_ne_none _)
        rw [eb, ha] at e
        cases e
        cases (show Data.seq vs.toArray _ = Data.dict es ep from d)
    have nsK : ∀ {b : Addr} {m : Str → Option Value}, s1.heap.Ns b m → (hidT s1.heap H).Ns b m := by
      intro b m hm
      obtain ⟨o, es, ep, e, d, r⟩ := hm
      exact ⟨o, es, ep, hidT_get e (noA e d), d, r⟩
    have hKb : K.In (hidT s1.heap H) := by
      intro b o e
      refine hidT_get (KX b o e) ?_
      cases q : H b with
      | none => rfl
      | some u =>
        have eb := hA b (by rw [q]; exact Option.some_ne_none _)
        rw [eb] at e q
        rw [hK (by rw [q]; exact Option.some_ne_none _)] at e
        cases e
    obtain ⟨mc, l1, l2⟩ := hlim
    have hM : Mod K mg (hidT s1.heap H) := ⟨hKb, nsK hns, ⟨mb, nsK hb, hbb⟩, ⟨mc, nsK l1, l2⟩⟩
    have e0 : Env0 P w K mg (hidT s1.heap H) callerA [] s1 H :=
      ⟨rfl, hM, fun b o e => of_hidT e, Nat.le_of_eq (hidT_size _ _), trivial, fun b hb => (List.not_mem_nil hb).elim, hok, .of_eq hg⟩
    refine codeAny_mono ((F _ hKb (nsK hns)).run callerA [] s1 H ⟨[.ref a], []⟩ [.ref a] [.ref a] _ _ hr rfl e0 (hbind s1 (.ref a)) (.cons rfl .nil) (hsp H hO hS)) ?_
    intro r s' h
    cases r with
    | error e => exact (show False from h).elim
    | ok fl =>
      cases fl with
      | next => exact (show False from h).elim
      | brk => exact (show False from h).elim
      | cont => exact (show False from h).elim
      | ret u =>
        obtain ⟨v, H', os, bare, un, hok', r', q⟩ := h
        cases (show v = .bl true from q)
        cases (show u = Value.bool true from r')
        refine ⟨rfl, OldK.of_keep fun b o e => ?_, os, bare⟩
        cases q : H b with
        | none => exact un.keep b o e q (fun z => (List.not_mem_nil z).elim) (fun z => (List.not_mem_nil z).elim)
        | some u =>
          rcases hO b with z | ⟨ob, xs, z⟩
          · rw [q] at z
            cases z
          · have e1 := (hok b _ z).1
            have e2 := (hok' b _ (un.frzs b ob _ z)).1
            rw [e] at e1
            cases e1
            exact e2
  cases hk : K.lookup a with
  | some o =>
    have e := KX a o hk
    rw [ha] at e
    cases e
    refine core (fun _ => none) (fun _ => .inl rfl) (.inr ⟨_, vs.toArray, _, hk, rfl, rfl, rfl, ?_, ?_⟩) (fun b u z => by cases (show (none : Option HO) = some u from z)) (fun b z => (z rfl).elim) fun z => (z rfl).elim
    · rw [List.size_toArray, lv]
      exact hl
    · simpa using rv
  | none =>
    refine core (fun b => if b = a then some (.frz { cls := .type "list", data := .seq vs.toArray } (.lst (ns.map V.int))) else none) (fun b => ?_) (.inl (.inr ⟨_, if_pos rfl⟩)) (fun b u z => ?_) (fun b z => ?_) fun _ => hk
    · by_cases hb : b = a
      · exact .inr ⟨_, _, if_pos hb⟩
      · exact .inl (if_neg hb)
    · by_cases hb : b = a
      · cases (if_pos hb).symm.trans z
        cases hb
        refine ⟨ha, ?_, vs, _, rv, ha⟩
        rw [List.length_map]
        exact hl
      · cases (if_neg hb).symm.trans z
    · by_cases hb : b = a
      · exact hb
      · exact (z (if_neg hb)).elim

/-- the goal that the head leaves, from the law's promise -/
theorem walkG {l : PySem.W.OpenLaw} {n k : Nat} {q : Program} {loose : List Str} {XP : (Str → Option Value) → Heap → Prop} {YP : World → Heap → Prop} {d : DefRec} {K : Params → PySem.W.Frag} {sp : PySem.W.Frag → Sp} {x : Str}
    (hn : l.most = some n) (hn2 : n ≤ sizeLine) (hdf : d.params.defaults = []) (hr : Room k callerA) (hY : ∀ (w : World) (h : Heap), YP w h → (K w.params).In h)
    (F : ∀ (w : World) (mg : Str → Option Value) (fa : Addr) (h : Heap), (K w.params).In h → h.Ns mainGlobals mg → mg d.name = some (.ref fa) →
      ∃ fd : FuncData, (∀ (s : Shared) (u : Value), BindsTo s fd ⟨[u], []⟩ [(x, u)]) ∧
        ∀ base : Heap, (K w.params).In base → base.Ns mainGlobals mg → FnG l.prog w (K w.params) mg base CX0 k fa fd [x] (sp (K w.params)))
    (hsp : ∀ (K : PySem.W.Frag) (H : Hp) (a : Addr) (ns : List Int), ns.length ≤ n → Only H → SqL K H a (ns.map V.int) → sp K [.ref a] H (fun v _ => v = .bl true) E0) :
    PySem.W.WalkO q loose XP YP l.row.toRowW d [] (fun f vs => PySem.call f vs) := by
  refine Att.attach_call hn hdf fun w s0 s1 mg mb fa o pm cd doc a vs ns G Y ho hd hcd hmg hobj hints hlen hg => ?_
  have KX := hY w _ Y
  obtain ⟨fd, hb, hF⟩ := F w mg fa _ KX G.T.g hmg
  exact law_callG KX G.T.g G.T.b G.T.builtins G.T.nolimit hg hobj hints (Nat.le_trans hlen hn2) hr hF hb fun H hO hS => hsp (K w.params) H a ns hlen hO hS
end Tp
set_option Elab.async false
set_option linter.all false
set_option maxRecDepth 100000
set_option maxHeartbeats 4000000
/-! the draws: a box of three ints, of which each draw takes some -/
namespace Tp
open PySem PySem.Spec PyProof.Rows L2
/-- a box at p, from which at most n draws were mixed -/
def BoxAt (H : Hp) (p : Addr) (n : Nat) : Prop := ∃ a b c : Int, H p = some (.lst [.int a, .int b, .int c]) ∧ 0 ≤ a ∧ 0 ≤ b ∧ b < 2147483629 ∧ 0 ≤ c ∧ c ≤ (n : Int)
theorem BoxAt.mono {H : Hp} {p : Addr} {n m : Nat} (h : BoxAt H p n) (hl : n ≤ m) : BoxAt H p m := by
  obtain ⟨a, b, c, h1, h2, h3, h4, h5, h6⟩ := h
  exact ⟨a, b, c, h1, h2, h3, h4, h5, by omega⟩
/-- all that was tracked is as it was, but at p -/
def Keep (p : Addr) (H H' : Hp) : Prop := ∀ b o, b ≠ p → H b = some o → H' b = some o
theorem Keep.refl (p : Addr) (H : Hp) : Keep p H H := fun _ _ _ e => e
theorem Keep.trans {p : Addr} {H H1 H2 : Hp} (a : Keep p H H1) (b : Keep p H1 H2) : Keep p H H2 := fun c o hc e => b c o hc (a c o hc e)
theorem Keep.of {p : Addr} {H H' : Hp} (a : Same H H') : Keep p H H' := fun c o _ e => a c o e
theorem Keep.put {p : Addr} {H : Hp} {o : HO} : Keep p H (upd H p o) := fun c u hc e => by rw [upd_ne hc]; exact e
theorem Same.put {H : Hp} {q : Addr} {o : HO} (h : H q = none) : Same H (upd H q o) := fun c u e => by rw [upd_ne (ne_of_none e h)]; exact e
theorem Keep.new {p q : Addr} {H : Hp} {o : HO} (h : H q = none) : Keep p H (upd H q o) := .of (Same.put h)
theorem BoxAt.keep {H H' : Hp} {p : Addr} {n : Nat} (h : BoxAt H p n) (k : Same H H') : BoxAt H' p n := by
  obtain ⟨a, b, c, h1, h2⟩ := h
  exact ⟨a, b, c, k _ _ h1, h2⟩
theorem BoxAt.ne {H : Hp} {p q : Addr} {n : Nat} (h : BoxAt H p n) (hq : H q = none) : p ≠ q := by
  obtain ⟨a, b, c, h1, _⟩ := h
  exact ne_of_none h1 hq
theorem BoxAt.new {H : Hp} {p q : Addr} {n : Nat} {o : HO} (h : BoxAt H p n) (hq : H q = none) : BoxAt (upd H q o) p n := h.keep (Same.put hq)
theorem BoxAt.put {H : Hp} {p q : Addr} {n : Nat} {o : HO} (h : BoxAt H p n) (hq : q ≠ p) : BoxAt (upd H q o) p n := by
  obtain ⟨a, b, c, h1, h2⟩ := h
  exact ⟨a, b, c, (upd_ne hq.symm).trans h1, h2⟩
/-- all that was tracked is as it was, but at p and at d -/
def Keep2 (p d : Addr) (H H' : Hp) : Prop := ∀ b o, b ≠ p → b ≠ d → H b = some o → H' b = some o
theorem Keep2.of {p d : Addr} {H H' : Hp} (k : Keep p H H') : Keep2 p d H H' := fun b o h1 _ e => k b o h1 e
theorem Keep2.put {p d : Addr} {H G : Hp} {o : HO} (k : Keep2 p d H G) : Keep2 p d H (upd G d o) := fun b u h1 h2 e => (upd_ne h2).trans (k b u h1 h2 e)
theorem Keep2.next {p d : Addr} {H G G' : Hp} (k : Keep2 p d H G) (j : Keep p G G') : Keep2 p d H G' := fun b u h1 h2 e => j b u h1 (k b u h1 h2 e)
theorem Keep2.fin {p d : Addr} {H G : Hp} (k : Keep2 p d H G) (hd : H d = none) : Keep p H G := fun b u h1 e => k b u h1 (ne_of_none e hd) e
theorem keep_of {p : Addr} {H H' : Hp} (h : ∀ b, b ≠ p → H' b = H b) : Keep p H H' := fun b o hb e => by rw [h b hb]; exact e
/-- a list that is read stands on, but at p -/
theorem Keep.seq {K : PySem.W.Frag} {p a : Addr} {H H' : Hp} {xs : List V} (k : Keep p H H') (ha : a ≠ p) (h : SqL K H a xs) : SqL K H' a xs := by
  rcases h with (h | ⟨o, h⟩) | h
  · exact .inl (.inl (k _ _ ha h))
  · exact .inl (.inr ⟨o, k _ _ ha h⟩)
  · exact .inr h

/-- _law_cell: some int of the script, or some other -/
def spCellT (K : PySem.W.Frag) : Sp := fun vs H Q _ => ∃ (a : Addr) (ns : List Int) (k : Nat), vs = [.ref a, .int k] ∧ SqL K H a (ns.map V.int) ∧ ns.length ≤ 63 ∧ k ≤ 1000 ∧ ∀ z : Int, Q (.int z) H
/-- _law_box -/
def spBox : Sp := fun vs H Q _ => ∃ z : Int, vs = [.int z] ∧ ∀ p H', H p = none → BoxAt H' p 0 → Keep p H H' → Q (.ref p) H'
/-- _law_take -/
def spTake : Sp := fun vs H Q _ => ∃ (p : Addr) (m : Int) (n : Nat), vs = [.ref p, .int m] ∧ BoxAt H p n ∧ 0 < m ∧ m.natAbs.log2 < 1000 ∧ n ≤ 1000000 ∧
  ∀ (d : Int) (H' : Hp), 0 ≤ d → d < m → BoxAt H' p (n + 1) → (∀ b, b ≠ p → H' b = H b) → Q (.int d) H'

end Tp
set_option Elab.async false
set_option linter.all false
set_option maxRecDepth 100000
set_option maxHeartbeats 4000000
namespace T56
open PySem PySem.Spec PyProof.Rows L2 Tp
def top (i : Nat) : Stmt := PySem.Challenge.pw_toldpast_k56_terms_of_two_books.main.body.getD i (.Pass ⟨0, 0, 0, 0⟩)
abbrev sCell : Stmt := top 74
abbrev sBox : Stmt := top 75
abbrev sTake : Stmt := top 76
section
variable {P : Program} {w : World} {K : PySem.W.Frag} {mg : Str → Option Value} {base : Heap} {f : Addr} {fd : FuncData}
theorem scCell : FnScope ["_law_script", "_law_k"] ["_law_script", "_law_k"] (defScope sCell) := ⟨rfl, rfl, rfl, by decide +kernel, rfl, by decide +kernel, by decide +kernel⟩
theorem ok_cell (F : Fun K "_law_cell" "_law_cell" sCell f fd) (mL : mg "len" = none) : FnG P w K mg base CX0 1 f fd ["_law_script", "_law_k"] (spCellT K) := by
  refine FunG.ok F scCell (fun vs H Q E h => ?_) (fun cdv B out s H vs Q E hr hG h => ?_)
  · obtain ⟨a, ns, k, rfl, _⟩ := h
    rfl
  · obtain ⟨a, ns, k, rfl, hs, hl, hk, q⟩ := h
    refine ⟨_, pss_cons (ps_if (pt_cmpR op_lt (pv 1) (pe_callB call_len (by rfl) mL PySem.boot_len (pa_cons (pv 0) pa_nil)) (nomark _)) (pss_one (ps_ret (pe_ix ix_list (pv 0) (pv 1) fun _ _ => rfl))) pss_nil)
      (pss_one (ps_ret (pe_op op_add (pe_op op_mul pe_int (pv 1)) pe_int))), ?_⟩
    refine ⟨_, rfl, _, rfl, _, _, rfl, .inl ⟨_, hs, rfl⟩, _, _, rfl, rfl, _, rfl, ?_⟩
    refine ite2 (fun hlt => ?_) (fun hge => ?_)
    · have hlt' := of_decide_eq_true hlt
      rw [List.length_map] at hlt'
      have hkl : k < ns.length := by omega
      refine ⟨_, rfl, _, rfl, a, _, _, .int (ns[k]), rfl, rfl, hs, atI_nat ?_, q _⟩
      rw [List.getElem?_map, List.getElem?_eq_getElem hkl]
      rfl
    · refine ⟨_, rfl, _, _, rfl, rfl, .inl ⟨by decide, by decide⟩, _, _, rfl, rfl, q _⟩
theorem scBox : FnScope ["_law_cell_here"] ["_law_cell_here"] (defScope sBox) := ⟨rfl, rfl, rfl, by decide +kernel, rfl, by decide +kernel, by decide +kernel⟩
theorem ok_box (F : Fun K "_law_box" "_law_box" sBox f fd) (mM : mg "max" = none) : FnG P w K mg base CX0 1 f fd ["_law_cell_here"] spBox := by
  refine FunG.ok F scBox (fun vs H Q E h => ?_) (fun cdv B out s H vs Q E hr hG h => ?_)
  · obtain ⟨z, rfl, _⟩ := h
    rfl
  · obtain ⟨z, rfl, q⟩ := h
    refine ⟨_, pss_one (ps_ret (pe_lst (pa_cons (pe_callB (call_max2 rfl) (by rfl) mM (by decide +kernel) (pa_cons pe_int (pa_cons (pe_op op_sub (pv 0) (pe_op op_pow pe_int pe_int)) pa_nil)))
      (pa_cons (pe_op op_mod (pv 0) pe_int) (pa_cons pe_int pa_nil))))), ?_⟩
    refine ⟨_, rfl, _, _, rfl, rfl, ⟨by decide, by decide, by decide⟩, _, _, rfl, rfl, _, _, rfl, _, rfl, _, _, rfl, rfl, (by decide : (0:Int) < 2147483629), ?_⟩
    refine ⟨(by show 3 ≤ sizeLine; decide), fun p hp => ?_⟩
    refine q p _ hp ⟨_, _, _, upd_same, ?_, Int.emod_nonneg _ (by decide), Int.emod_lt_of_pos _ (by decide), by decide, by decide⟩ Keep.put
    split <;> omega
theorem scTake : FnScope ["_law_box_here", "_law_many", "_law_digit", "_law_mixed"] ["_law_box_here", "_law_many"] (defScope sTake) := ⟨rfl, rfl, rfl, by decide +kernel, rfl, by decide +kernel, by decide +kernel⟩
theorem pow_small {x : Int} {b : Nat} (h0 : 0 ≤ x) (h : x < 2 ^ 63) : x.natAbs < 2 ^ 64 := by omega
theorem ok_take (F : Fun K "_law_take" "_law_take" sTake f fd) : FnG P w K mg base CX0 1 f fd ["_law_box_here", "_law_many"] spTake := by
  refine FunG.ok F scTake (fun vs H Q E h => ?_) (fun cdv B out s H vs Q E hr hG h => ?_)
  · obtain ⟨p, m, n, rfl, _⟩ := h
    rfl
  · obtain ⟨p, m, n, rfl, ⟨a, b, c, hp, ha, hb, hb2, hc, hcn⟩, hm, hm2, hn, q⟩ := h
    refine ⟨_, pss_cons (ps_if (pt_cmpR op_gt (pe_ix ix_list (pv 0) pe_int fun _ _ => rfl) pe_int (nomark _))
        (pss_cons (ps_set (i := 2) scTake.nd rfl (.inl rfl) (pe_op op_mod (pe_ix ix_list (pv 0) pe_int fun _ _ => rfl) (pv 1)))
          (pss_cons (ps_asg (pe_op op_fdivW (pe_ix ix_list (pv 0) pe_int fun _ _ => rfl) (pv 1)) (pg_sub (pv 0) pe_int set_list))
            (pss_one (ps_ret (pv 2))))) pss_nil)
      (pss_cons (ps_asg (pe_op op_add (pe_ix ix_list (pv 0) pe_int fun _ _ => rfl) pe_int) (pg_sub (pv 0) pe_int set_list))
        (pss_cons (ps_set (i := 3) scTake.nd rfl (.inl rfl) (pe_op op_mod (pe_op op_pow (pe_op op_add (pe_op op_add (pe_ix ix_list (pv 0) pe_int fun _ _ => rfl) (pe_op op_mul pe_int (pe_ix ix_list (pv 0) pe_int fun _ _ => rfl))) pe_int) pe_int) pe_int))
          (pss_cons (ps_set (i := 3) scTake.nd rfl (.inl rfl) (pe_op op_mod (pe_op op_pow (pe_op op_add (pv 3) (pe_op op_mul pe_int (pe_ix ix_list (pv 0) pe_int fun _ _ => rfl))) pe_int) pe_int))
            (pss_one (ps_ret (pe_op op_mod (pe_op op_fdiv (pv 3) pe_int) (pv 1))))))), ?_⟩
    have sq : SqL K H p [V.int a, V.int b, V.int c] := SqL.of hp
    refine ⟨_, rfl, p, _, _, .int a, rfl, rfl, sq, rfl, _, _, rfl, rfl, _, rfl, ?_⟩
    refine ite2 (fun h1 => ?_) (fun h1 => ?_)
    · have h1' := of_decide_eq_true h1
      refine ⟨_, rfl, p, _, _, .int a, rfl, rfl, sq, rfl, _, rfl, _, _, rfl, rfl, hm, ?_⟩
      refine ⟨_, rfl, p, _, _, .int a, rfl, rfl, sq, rfl, _, rfl, _, _, rfl, rfl, ⟨hm, by omega⟩, _, rfl, p, _, _, 0, rfl, rfl, hp, rfl, ?_⟩
      refine ⟨_, rfl, q _ _ (Int.emod_nonneg _ (by omega)) (Int.emod_lt_of_pos _ hm) ⟨_, _, _, upd_same, ?_, hb, hb2, hc, by omega⟩ fun x hx => upd_ne hx⟩
      exact Int.ediv_nonneg (by omega) (by omega)
    · have sq2 : SqL K (upd H p (.lst [.int a, .int b, .int (c + 1)])) p [V.int a, V.int b, V.int (c + 1)] := SqL.of upd_same
      refine ⟨_, rfl, p, _, _, .int c, rfl, rfl, sq, rfl, _, _, rfl, rfl, _, rfl, p, _, _, 2, rfl, rfl, hp, rfl, ?_⟩
      refine ⟨_, rfl, p, _, _, .int b, rfl, rfl, sq2, rfl, _, rfl, p, _, _, .int (c + 1), rfl, rfl, sq2, rfl, _, _, rfl, rfl, .inl ⟨by decide, by decide⟩, _, _, rfl, rfl, _, _, rfl, rfl, _, _, rfl, rfl, ⟨by decide, by decide, by omega⟩, _, _, rfl, rfl, (by decide : (0 : Int) < 2147483647), ?_⟩
      have hx1 := Int.emod_nonneg ((b + 15486173 * (c + 1) + 1249) ^ (5 : Int).toNat) (by decide : (2147483647 : Int) ≠ 0)
      have hx2 := Int.emod_lt_of_pos ((b + 15486173 * (c + 1) + 1249) ^ (5 : Int).toNat) (by decide : (0 : Int) < 2147483647)
      generalize (b + 15486173 * (c + 1) + 1249) ^ (5 : Int).toNat % 2147483647 = y at hx1 hx2 ⊢
      refine ⟨_, rfl, _, rfl, p, _, _, .int (c + 1), rfl, rfl, sq2, rfl, _, _, rfl, rfl, .inl ⟨by decide, by decide⟩, _, _, rfl, rfl, _, _, rfl, rfl, ⟨by decide, by decide, by omega⟩, _, _, rfl, rfl, (by decide : (0 : Int) < 2147483587), ?_⟩
      generalize (y + 104711 * (c + 1)) ^ (3 : Int).toNat % 2147483587 = z
      refine ⟨_, rfl, _, _, rfl, rfl, ⟨by decide, by decide⟩, _, rfl, _, _, rfl, rfl, hm, ?_⟩
      exact q _ _ (Int.emod_nonneg _ (by omega)) (Int.emod_lt_of_pos _ hm) ⟨_, _, _, upd_same, ha, hb, hb2, by omega, by omega⟩ fun x hx => upd_ne hx
end
end T56
set_option Elab.async false
set_option linter.all false
set_option maxRecDepth 100000
set_option maxHeartbeats 4000000
/-! texts of bounded length, data whose repr fits -/
namespace Tp
open PySem PySem.Spec PyProof.Rows L2
/-! ### texts -/
structure Tz (n : Nat) (z : Str) : Prop where
  le : (TL.tl z).length ≤ n
  sm : ∀ c ∈ TL.tl z, c < 256
theorem Tz.mono {n m : Nat} {z : Str} (h : Tz n z) (hl : n ≤ m) : Tz m z := ⟨Nat.le_trans h.le hl, h.sm⟩
theorem Tz.len {n : Nat} {z : Str} (h : Tz n z) : z.length ≤ n := by
  rw [TL.len_tl]
  exact h.le
theorem Tz.app {n m : Nat} {x y : Str} (a : Tz n x) (b : Tz m y) : Tz (n + m) (x ++ y) := by
  have e := TL.tl_append x y
  refine ⟨?_, fun c hc => ?_⟩
  · rw [e, List.length_append]
    exact Nat.add_le_add a.le b.le
  · rw [e] at hc
    exact (List.mem_append.mp hc).elim (a.sm c) (b.sm c)
theorem Tz.one {c : Nat} (h : c < 256) : Tz 1 ⟨#[c]⟩ := ⟨Nat.le_refl 1, fun d hd => by
  have e : d = c := by simpa using hd
  rw [e]
  exact h⟩
theorem Tz.cut {n : Nat} {z : Str} (h : Tz n z) (lo hi : Option Int) : Tz n (cutS z lo hi) := by
  have e : TL.tl (cutS z lo hi) = ((TL.tl z).drop (HT.sIx z.length 0 lo)).take (HT.sIx z.length z.length hi - HT.sIx z.length 0 lo) := rfl
  refine ⟨?_, fun c hc => ?_⟩
  · rw [e, List.length_take, List.length_drop]
    have := h.le
    omega
  · rw [e] at hc
    exact h.sm c (List.mem_of_mem_drop (List.mem_of_mem_take hc))
theorem joinL_len (S : List Nat) (m k : Nat) (hS : S.length ≤ k) : ∀ ps : List (List Nat), (∀ q ∈ ps, q.length ≤ m) → (TL.joinL S ps).length ≤ ps.length * (m + k)
  | [], _ => Nat.zero_le _
  | [q], h => by
    have := h q List.mem_cons_self
    show q.length ≤ 1 * (m + k)
    omega
  | q :: r :: rs, h => by
    have h1 := h q List.mem_cons_self
    have ih := joinL_len S m k hS (r :: rs) fun x hx => h x (List.mem_cons_of_mem _ hx)
    show (q ++ (S ++ TL.joinL S (r :: rs))).length ≤ ((r :: rs).length + 1) * (m + k)
    rw [List.length_append, List.length_append, Nat.succ_mul]
    omega
theorem joinL_mem {S : List Nat} : ∀ {ps : List (List Nat)} {c : Nat}, c ∈ TL.joinL S ps → c ∈ S ∨ ∃ q ∈ ps, c ∈ q
  | [], _, h => absurd h List.not_mem_nil
  | [q], _, h => .inr ⟨q, List.mem_cons_self, h⟩
  | q :: r :: rs, c, h => by
    have h' : c ∈ q ++ (S ++ TL.joinL S (r :: rs)) := h
    rcases List.mem_append.mp h' with z | z
    · exact .inr ⟨q, List.mem_cons_self, z⟩
    · rcases List.mem_append.mp z with z | z
      · exact .inl z
      · rcases joinL_mem z with z | ⟨x, hx, z⟩
        · exact .inl z
        · exact .inr ⟨x, List.mem_cons_of_mem _ hx, z⟩
theorem tl_joinT (s : Str) (ys : List Str) : TL.tl (Txt.join s ys) = TL.joinL (TL.tl s) (ys.map TL.tl) := (congrArg TL.tl (TL.join_eq s ys)).trans (TL.tl_join s ys)
theorem Tz.join {k m : Nat} {s : Str} {ys : List Str} (hs : Tz k s) (hy : ∀ y ∈ ys, Tz m y) : Tz (ys.length * (m + k)) (Txt.join s ys) := by
  refine ⟨?_, fun c hc => ?_⟩
  · rw [tl_joinT]
    have h := joinL_len (TL.tl s) m k hs.le (ys.map TL.tl) fun q hq => by
      obtain ⟨y, hy', rfl⟩ := List.mem_map.mp hq
      exact (hy y hy').le
    rwa [List.length_map] at h
  · rw [tl_joinT] at hc
    rcases joinL_mem hc with z | ⟨q, hq, z⟩
    · exact hs.sm c z
    · obtain ⟨y, hy', rfl⟩ := List.mem_map.mp hq
      exact (hy y hy').sm c z
/-- the sum that join wants -/
theorem sum_le {m : Nat} : ∀ {ys : List Str}, (∀ y ∈ ys, Tz m y) → (ys.map (·.length)).sum ≤ ys.length * m
  | [], _ => Nat.zero_le _
  | y :: ys, h => by
    have h1 := (h y List.mem_cons_self).len
    have ih := sum_le (m := m) (ys := ys) fun z hz => h z (List.mem_cons_of_mem _ hz)
    rw [List.map_cons, List.sum_cons, List.length_cons, Nat.succ_mul]
    omega
/-- parts between separators -/
theorem spl_len (S : List Nat) : ∀ (l : List Nat) (k : Nat) (acc : List Nat), ((TL.spl S k acc l).map (·.length)).sum ≤ acc.length + l.length ∧ (TL.spl S k acc l).length ≤ l.length + 1 ∧ ∀ q ∈ TL.spl S k acc l, ∀ c ∈ q, c ∈ acc ∨ c ∈ l
  | [], k, acc => by
    rw [TL.spl_nil]
    refine ⟨by simp, by simp, fun q hq c hc => ?_⟩
    rw [List.mem_singleton.mp hq] at hc
    exact .inl hc
  | c :: r, 0, acc => by
    cases h : TL.pre S (c :: r) with
    | true =>
      rw [TL.spl_hit h]
      obtain ⟨h1, h2, h3⟩ := spl_len S r (S.length - 1) []
      refine ⟨?_, ?_, fun q hq d hd => ?_⟩
      · rw [List.map_cons, List.sum_cons, List.length_cons]
        rw [List.length_nil] at h1
        omega
      · rw [List.length_cons, List.length_cons]
        omega
      · rcases List.mem_cons.mp hq with e | e
        · rw [e] at hd
          exact .inl hd
        · rcases h3 q e d hd with z | z
          · exact absurd z List.not_mem_nil
          · exact .inr (List.mem_cons_of_mem _ z)
    | false =>
      rw [TL.spl_miss h]
      obtain ⟨h1, h2, h3⟩ := spl_len S r 0 (acc ++ [c])
      refine ⟨?_, ?_, fun q hq d hd => ?_⟩
      · rw [List.length_append] at h1
        rw [List.length_cons]
        have e : [c].length = 1 := rfl
        omega
      · rw [List.length_cons]
        omega
      · rcases h3 q hq d hd with z | z
        · rcases List.mem_append.mp z with z | z
          · exact .inl z
          · rw [List.mem_singleton.mp z]
            exact .inr List.mem_cons_self
        · exact .inr (List.mem_cons_of_mem _ z)
  | c :: r, k + 1, acc => by
    have e : TL.spl S (k + 1) acc (c :: r) = TL.spl S k acc r := by
      rw [TL.spl_pass S (k + 1), TL.spl_pass S k]
      rfl
    rw [e]
    obtain ⟨h1, h2, h3⟩ := spl_len S r k acc
    refine ⟨?_, ?_, fun q hq d hd => (h3 q hq d hd).imp id (List.mem_cons_of_mem _)⟩
    · rw [List.length_cons]
      omega
    · rw [List.length_cons]
      omega
theorem split_len {z m : Str} {n : Nat} (hz : Tz n z) (hm : (TL.tl m).length = 1) (h2 : ∀ c ∈ TL.tl m, c < 256) :
    ((Txt.split z m).map (·.length)).sum ≤ n ∧ (Txt.split z m).length ≤ n + 1 ∧ ∀ y ∈ Txt.split z m, ∀ c ∈ TL.tl y, c < 256 := by
  have hne : TL.tl m ≠ [] := fun e => by
    rw [e] at hm
    cases hm
  have hk : ¬ Builtin.Str.strKind z < Builtin.Str.strKind m := TL.kind_ok (by
    rw [← Array.all_toList]
    exact List.all_eq_true.mpr fun c hc => decide_eq_true (h2 c hc))
  have e := TL.split_spl z m hne hk
  obtain ⟨h3, h4, h5⟩ := spl_len (TL.tl m) (TL.tl z) 0 []
  rw [← e] at h3 h4 h5
  rw [List.map_map] at h3
  have e2 : ((fun l : List Nat => l.length) ∘ TL.tl) = fun y : Str => y.length := funext fun y => (TL.len_tl y).symm
  have hzl := hz.le
  refine ⟨?_, ?_, fun y hy c hc => ?_⟩
  · rw [e2, List.length_nil] at h3
    omega
  · rw [List.length_map] at h4
    omega
  · rcases h5 (TL.tl y) (List.mem_map.mpr ⟨y, hy, rfl⟩) c hc with x | x
    · exact absurd x List.not_mem_nil
    · exact hz.sm c x
/-- an item of a list at a drawn place -/
theorem atI_in {α : Type} {xs : List α} {d : Int} (h0 : 0 ≤ d) (h : d < (xs.length : Int)) : ∃ v, v ∈ xs ∧ atI xs d = some v := by
  have hj : d.toNat < xs.length := by omega
  have e : d = ((d.toNat : Nat) : Int) := by omega
  exact ⟨xs[d.toNat], List.getElem_mem hj, (congrArg (atI xs) e).trans (atI_nat (List.getElem?_eq_getElem hj))⟩

/-! ### data whose repr fits -/
structure Nice (n k : Nat) (d : PyData) : Prop where
  sh : d.showable = true
  ls : d.leavesShort 2000 = true
  wt : d.weight ≤ n
  dp : d.depth ≤ k
structure NiceAll (n k : Nat) (ds : List PyData) : Prop where
  sh : PyData.showableAll ds = true
  ls : PyData.leavesShortAll 2000 ds = true
  wt : PyData.weightAll ds ≤ n
  dp : PyData.depthAll ds ≤ k
theorem Nice.fits {n k : Nat} {d : PyData} (h : Nice n k d) (hn : n ≤ 8000) : d.shown.length ≤ sizeLine := by
  have h1 := PyData.shown_le 2000 (by decide) d h.ls
  have h2 : (2000 + 2) * d.weight ≤ 2002 * 8000 := Nat.mul_le_mul (Nat.le_refl _) (Nat.le_trans h.wt hn)
  rw [PySem.sizeLine_eq]
  omega
theorem Nice.mono {n k m j : Nat} {d : PyData} (h : Nice n k d) (h1 : n ≤ m) (h2 : k ≤ j) : Nice m j d := ⟨h.sh, h.ls, Nat.le_trans h.wt h1, Nat.le_trans h.dp h2⟩
theorem nice_none : Nice 0 0 .none := ⟨rfl, rfl, Nat.le_refl _, Nat.le_refl _⟩
theorem nice_bool (b : Bool) : Nice 0 0 (.bool b) := ⟨rfl, rfl, Nat.le_refl _, Nat.le_refl _⟩
theorem nice_int {i : Int} (h : i.natAbs.log2 < 1000) : Nice 1000 0 (.int i) := by
  refine ⟨?_, ?_, ?_, by simp only [PyData.depth]; exact Nat.le_refl _⟩
  · simp only [PyData.showable]
    exact decide_eq_true (by omega)
  · simp only [PyData.leavesShort]
    refine decide_eq_true ?_
    have e := int_text_length_le (a := i) (k := 1920) (by decide) (by omega)
    show (Str.ofString (toString i)).length ≤ 2000
    rw [PySem.ofString_length]
    omega
  · simp only [PyData.weight]
    split <;> omega
theorem nice_str {n : Nat} {z : Str} (h : Tz n z) : Nice n 0 (.str z) := by
  refine ⟨by simp only [PyData.showable], ?_, ?_, by simp only [PyData.depth]; exact Nat.le_refl _⟩
  · simp only [PyData.leavesShort]
    refine List.all_eq_true.mpr fun c hc => decide_eq_true ?_
    exact Nat.lt_of_lt_of_le (h.sm c hc) (by decide)
  · simp only [PyData.weight]
    exact h.len
theorem niceAll_nil : NiceAll 0 0 [] := ⟨rfl, rfl, Nat.le_refl _, Nat.le_refl _⟩
theorem NiceAll.cons {n m k j : Nat} {d : PyData} {ds : List PyData} (h : Nice n k d) (hs : NiceAll m j ds) : NiceAll (n + 1 + m) (max k j) (d :: ds) := by
  refine ⟨?_, ?_, ?_, ?_⟩
  · simp only [PyData.showableAll, h.sh, hs.sh, Bool.and_self]
  · simp only [PyData.leavesShortAll, h.ls, hs.ls, Bool.and_self]
  · simp only [PyData.weightAll]
    have := h.wt
    have := hs.wt
    omega
  · simp only [PyData.depthAll]
    have := h.dp
    have := hs.dp
    omega
theorem NiceAll.list {n k : Nat} {ds : List PyData} (h : NiceAll n k ds) : Nice n (k + 1) (.list ds) := by
  refine ⟨?_, ?_, ?_, ?_⟩
  · simp only [PyData.showable]
    exact h.sh
  · simp only [PyData.leavesShort]
    exact h.ls
  · simp only [PyData.weight]
    exact h.wt
  · simp only [PyData.depth]
    have := h.dp
    omega
theorem NiceAll.tuple {n k : Nat} {ds : List PyData} (h : NiceAll n k ds) : Nice n (k + 1) (.tuple ds) := by
  refine ⟨?_, ?_, ?_, ?_⟩
  · simp only [PyData.showable]
    exact h.sh
  · simp only [PyData.leavesShort]
    exact h.ls
  · simp only [PyData.weight]
    exact h.wt
  · simp only [PyData.depth]
    have := h.dp
    omega
theorem NiceAll.mono {n k m j : Nat} {ds : List PyData} (h : NiceAll n k ds) (h1 : n ≤ m) (h2 : k ≤ j) : NiceAll m j ds := ⟨h.sh, h.ls, Nat.le_trans h.wt h1, Nat.le_trans h.dp h2⟩
theorem niceAll_strs : ∀ {ys : List Str}, (∀ y ∈ ys, ∀ c ∈ TL.tl y, c < 256) → NiceAll ((ys.map (·.length)).sum + ys.length) 0 (ys.map PyData.str)
  | [], _ => niceAll_nil
  | y :: ys, h => by
    have h1 := NiceAll.cons (nice_str (n := y.length) (z := y) ⟨Nat.le_of_eq (TL.len_tl y).symm, h y List.mem_cons_self⟩) (niceAll_strs (ys := ys) fun z hz => h z (List.mem_cons_of_mem _ hz))
    refine h1.mono ?_ (Nat.le_refl _)
    rw [List.map_cons, List.sum_cons, List.length_cons]
    omega
/-- repr(x), x plain data -/
theorem rRepr_of {K : PySem.W.Frag} {H : Hp} {a : Addr} {d : PyData} {n k : Nat} {Q : VK} (h : Dp K H (.ref a) d) (hn : Nice n k d) (h1 : n ≤ 8000) (h2 : k ≤ 60) (q : Q (.str d.shown) H) : rRepr K [.ref a] H Q :=
  ⟨a, d, rfl, h, hn.sh, Nat.le_trans hn.dp h2, hn.fits h1, q⟩
/-- flat values as data -/
def dV : V → PyData
  | .bl b => .bool b
  | .int i => .int i
  | .str x => .str x
  | _ => .none
def isFlat : V → Bool
  | .non => true
  | .bl _ => true
  | .int _ => true
  | .str _ => true
  | _ => false
theorem dp_flat {K : PySem.W.Frag} {H : Hp} : ∀ {v : V}, isFlat v = true → Dp K H v (dV v)
  | .non, _ => .non
  | .bl b, _ => .bl b
  | .int i, _ => .int i
  | .str x, _ => .str x
theorem dpAll_flat {K : PySem.W.Frag} {H : Hp} : ∀ {vs : List V}, vs.all isFlat = true → DpAll K H vs (vs.map dV)
  | [], _ => .nil
  | v :: vs, h => by
    rw [List.all_cons, Bool.and_eq_true] at h
    exact .cons (dp_flat h.1) (dpAll_flat h.2)
theorem dpAll_strs {K : PySem.W.Frag} {H : Hp} : ∀ (ys : List Str), DpAll K H (ys.map V.str) (ys.map PyData.str)
  | [] => .nil
  | y :: ys => .cons (.str y) (dpAll_strs ys)
end Tp
set_option Elab.async false
set_option linter.all false
set_option maxRecDepth 100000
set_option maxHeartbeats 4000000
/-! exceptions of the program's own classes over any built-in base: how one is made, by position and by keyword -/
namespace Tp
open PySem HandSPX
/-- what is asked of the line behind an own class that is made by newId of B -/
structure LineX (B : String) (bm : List Value) : Prop where
  hB : bm.contains (.type B) = true
  hA : bm.contains (.type "AttributeError") = false
  hN : bm.contains (.type "NameError") = false
section
variable {prog : Program} {w : World} {A : Around} {E : Value → Shared → Prop} {R : Result → Shared → Prop} {h : Heap} {g : Array GenState} {d : Drawn} {t : Nat} {os : OsState}
variable {nm q : Str} {C N : Addr} {bs bm bmB : List Value} {hdct : Bool} {sn : List Str} {sub : List Value} {ab : Bool} {col : Option Bool} {dd : Option Addr} {k0 k1 k2 k3 k5 : Option Value} {B newId initId : String}
/-- may newId make it? -/
theorem mk_check {M : Model} (F : ExcBaseFacts B newId initId bmB) (L : LineX B bm) {rest : List Value} {kw : List (Str × Value)} {Q : Unit → Shared → Prop}
    (hC : h.get? C = some (excClassObj nm q C N bs bm hdct sn sub ab col dd k0 k1 k2 k3 k5 newId))
    (hq : Q () ⟨h, g, d, t, os⟩) : wpAny M A (checkBuiltinCall newId ⟨.ref C :: rest, kw⟩) Q E ⟨h, g, d, t, os⟩ := by
  have hc : (Value.ref C :: bm).contains (.type B) = true := by
    rw [List.contains_cons]
    exact Bool.or_eq_true_iff.mpr (.inr L.hB)
  have hst := F.noStar
  simp only [checkBuiltinCall, F.newSplit, F.newKind, F.newRow]
  repeat (first
    | refine wpAny_loadPart_at hC ?_
    | (refine wpAny_isSubtype_exc hC ?_; rw [hc])
    | refine wpAny_staticBase_exc hC ?_
    | refine wpAny_madeBy_exc hC ?_
    | simp only [Bool.false_eq_true, bne_self_eq_false, if_false]
    | wp_step)
  exact hq
/-- newId itself -/
theorem mk_new (F : ExcBaseFacts B newId initId bmB) (L : LineX B bm) {rest : List Value} {kw : List (Str × Value)}
    (hC : h.get? C = some (excClassObj nm q C N bs bm hdct sn sub ab col dd k0 k1 k2 k3 k5 newId)) (hz : rest.length ≤ sizeLine)
    (hq : R (.ok (.ret (.ref (h.objs.size + 1)))) ⟨(h.push (PySem.W.kdv_tup rest)).push (excO C h.objs.size), g, d, t, os⟩) :
    codeAny (model prog w) A (.builtin newId ⟨.ref C :: rest, kw⟩) R ⟨h, g, d, t, os⟩ := by
  have hends := F.ends
  have up : ∀ {X : String} {b : Bool}, bm.contains (.type X) = b → (Value.ref C :: bm).contains (.type X) = b := fun {X b} e => by
    rw [List.contains_cons, e]
    cases b <;> rfl
  have h1 := up L.hB
  have h2 := up L.hA
  have h3 := up L.hN
  refine codeAny_builtinAt F.entry ?_
  unfold Builtin.«BaseException.__new__»
  refine wpAt_bind ?_
  show wpAt _ _ _ (stack >>= _) _ _ _
  refine wpAt_bind (wpAt_stack fun p below => wpAt_of_wpAny ?_)
  wp_walk
  refine wpAt_of_wpAny ?_
  rw [F.owner]
  repeat (first
    | with_reducible refine wpAny_loadPart_at hC ?_
    | with_reducible refine wpAny_madeHere_exc F.canon hC ?_
    | (with_reducible refine wpAny_isSubtype_exc hC ?_; first | rw [h1] | rw [h2] | rw [h3])
    | wp_step)
  show R _ _
  rw [Heap.size_push]
  exact hq
/-- type.__call__ on it, up to its own __init__ -/
theorem mk_type (F : ExcBaseFacts B newId initId bmB) (L : LineX B bm) {rest : List Value} {kw : List (Str × Value)} {iv : Value} {Q : Fin → Shared → Prop}
    (hC : h.get? C = some (excClassObj nm q C N bs bm hdct sn sub ab col dd k0 k1 k2 k3 k5 newId)) (hz : rest.length ≤ sizeLine)
    (hi : W.Looks (model prog w) h (typeLookup (.ref C) "__init__") (some iv))
    (hb : ∀ self, W.Looks (model prog w) h (bindSpecial iv self) (iv, [self]))
    (hq : codeAny (model prog w) A (.call iv ⟨.ref (h.objs.size + 1) :: rest, kw⟩)
      (fun r s' => match r with
        | .ok (.ret v) => v = .none ∧ Q (.done (.ret (.ref (h.objs.size + 1)))) s'
        | .ok _ => False
        | .error e => E e s') ⟨(h.push (W.kdv_tup rest)).push (excO C h.objs.size), g, d, t, os⟩) :
    wpAny (model prog w) A (Builtin.«type.__call__» ⟨.ref C :: rest, kw⟩) Q E ⟨h, g, d, t, os⟩ := by
  repeat (first
    | with_reducible refine wpAny_madeBy_exc hC ?_
    | with_reducible refine wpAny_loadPart_at hC ?_
    | wp_step)
  refine codeAny_call_builtin_code (Code.quiet_builtin _ F.quiet) (mk_check F L hC ?_)
  refine mk_new F L hC hz ?_
  show wpAny _ _ _ _ _ _
  have kp : ∀ b o, h.get? b = some o → ((h.push (W.kdv_tup rest)).push (excO C h.objs.size)).get? b = some o :=
    fun b o e => Heap.get?_push_of_some _ (Heap.get?_push_of_some _ e)
  have hC' := kp _ _ hC
  have hx : ((h.push (W.kdv_tup rest)).push (excO C h.objs.size)).get? (h.objs.size + 1) = some (excO C h.objs.size) := by heap_get
  have hcC : (Value.ref C :: bm).contains (.ref C) = true := by simp
  unfold isInstance
  repeat (first
    | with_reducible refine wpAny_loadPart_at hx ?_
    | (with_reducible refine wpAny_isSubtype_exc hC' ?_; rw [hcC])
    | wp_step)
  show wpAny _ _ (typeLookup (.ref C) _) _ _ _
  refine (hi.keeps kp).at (wpAny_holding (wpAny_bind (((hb (.ref (h.objs.size + 1))).keeps kp).at ?_)))
  refine wpAny_bind (wpAny_call (codeAny_mono hq fun r s' z => ?_))
  cases r with
  | error e => exact z
  | ok fl =>
    cases fl with
    | ret v =>
      obtain ⟨ev, z'⟩ := z
      subst ev
      first
        | exact wpAny_pure (wpAny_pure z')
        | (wp_walk; exact z')
    | next => exact False.elim z
    | brk => exact False.elim z
    | cont => exact False.elim z
/-- the call C(..) -/
theorem mk_call (F : ExcBaseFacts B newId initId bmB) (L : LineX B bm) {rest : List Value} {kw : List (Str × Value)} {iv : Value}
    (hC : h.get? C = some (excClassObj nm q C N bs bm hdct sn sub ab col dd k0 k1 k2 k3 k5 newId)) (hz : rest.length ≤ sizeLine)
    (hi : W.Looks (model prog w) h (typeLookup (.ref C) "__init__") (some iv))
    (hb : ∀ self, W.Looks (model prog w) h (bindSpecial iv self) (iv, [self]))
    (hq : codeAny (model prog w) (A.under (.builtin "type.__call__" ⟨.ref C :: rest, kw⟩)) (.call iv ⟨.ref (h.objs.size + 1) :: rest, kw⟩) (W.InitBack (h.objs.size + 1) R)
      ⟨(h.push (W.kdv_tup rest)).push (excO C h.objs.size), g, d, t, os⟩) :
    codeAny (model prog w) A (.call (.ref C) ⟨rest, kw⟩) R ⟨h, g, d, t, os⟩ := by
  have f1 := tc_lookup
  have f2 := tc_bind (.ref C)
  have hTy : (⟨h, g, d, t, os⟩ : Shared).TypeIs (.ref C) "type" := ⟨_, hC, rfl⟩
  refine codeAny_of_tree ?_
  show wpAny _ _ (callAny (.ref C) _) _ _ _
  repeat (any_goals (first | assumption | with_reducible refine wpAny_loadPart_at hC ?_ | wp_step))
  refine ⟨rfl, codeAny_call_builtin_at (Code.quiet_builtin _ (by decide +kernel)) entry_typeCall (wpAny_check_type_call_sub hC (mk_type F L hC hz hi hb ?_))⟩
  refine codeAny_mono hq fun r s' z => ?_
  cases r with
  | error e => exact z
  | ok fl => cases fl <;> exact z
end
end Tp
set_option Elab.async false
set_option linter.all false
set_option maxRecDepth 100000
set_option maxHeartbeats 4000000
/-! exceptions of the program's own classes, over any built-in base: made as values, stored into, read, asked for their class, raised -/
namespace Tp
open PySem PySem.Spec PyProof.Rows L2
abbrev valLine : List Value := [.type "ValueError", .type "Exception", .type "BaseException", .type "object"]
abbrev keyLine : List Value := [.type "KeyError", .type "LookupError", .type "Exception", .type "BaseException", .type "object"]
abbrev lookLine : List Value := [.type "LookupError", .type "Exception", .type "BaseException", .type "object"]
local macro_rules | `(tactic| walk_at "factX") => `(tactic| first | decide +kernel | kernel_rfl | (rw [isSubtype_type]; kernel_rfl) | (rw [mroOf_type]; kernel_rfl) | (intro z; kernel_rfl) | (intro z1 z2 z3; unfold argsOk; kernel_rfl))
theorem storeKey : StoreFacts "KeyError" keyLine "object.__setattr__" "object" :=
  { mro := by walk_at "factX"
    slot := .of (owner := "object") (n := "__setattr__")
      (by rw [typeLookup_type, builtinLookup_eq_fast]; kernel_rfl) (by walk_at "factX") (by walk_at "factX")
      (by walk_at "factX") (by first | exact .inl (by walk_at "factX") | exact .inr (by walk_at "factX")) (by walk_at "factX")
    entry := F.store_object.entry
    kind := by walk_at "factX"
    split := by walk_at "factX"
    hasOwner := by walk_at "factX"
    args := by walk_at "factX"
    passes := by walk_at "factX" }
/-- a base: what makes its instances, what line stands behind its classes -/
structure BaseX (newId : String) (line : List Value) : Prop where
  ex : ∃ (B initId S : String) (bmB : List Value), ExcBaseFacts B newId initId bmB ∧ StoreFacts S line "object.__setattr__" "object" ∧ LineX B line
theorem baseV : BaseX "ValueError.__new__" valLine := ⟨_, _, _, _, F.excBase_ValueError, F.store_ValueError, ⟨by decide +kernel, by decide +kernel, by decide +kernel⟩⟩
theorem baseK : BaseX "LookupError.__new__" keyLine := ⟨_, _, _, _, F.excBase_LookupError, storeKey, ⟨by decide +kernel, by decide +kernel, by decide +kernel⟩⟩
theorem baseL : BaseX "LookupError.__new__" lookLine := ⟨_, _, _, _, F.excBase_LookupError, F.store_LookupError, ⟨by decide +kernel, by decide +kernel, by decide +kernel⟩⟩
/-- what the written part says of an own class of exceptions -/
structure ExK (K : PySem.W.Frag) (C : Addr) : Prop where
  ln : ∃ (newId : String) (line : List Value), BaseX newId line ∧ PySem.W.excInitIn K C line newId = true ∧ PySem.W.excOver K C line = true
  sa : PySem.W.findIn K (.ref C) "__setattr__" = some (some (.builtin "object.__setattr__"))
  ga : PySem.W.findIn K (.ref C) "__getattribute__" = some (some (.builtin "BaseException.__getattribute__"))
  gg : PySem.W.findIn K (.ref C) "__getattr__" = some none
  exC : PySem.W.subIn K (.ref C) (.type "BaseException") = some true
  tyC : PySem.W.typeIn K (.ref C) = some (.type "type")
  hdC : PySem.W.hasDictIn K C = true
  kC : PySem.W.keepIn K (.ref C) = true
  ha : PySem.W.findIn K (.ref C) "__class__" = some (some (.builtin "object.__class__"))
  hn : PySem.W.specialIn K (.builtin "object.__class__") "__get__" = some (some (.builtin "getset_descriptor.__get__"))
  ht : PySem.W.takesIn K (.builtin "object.__class__") = some true
  hm : PySem.W.mroIn K C (.type "object") = some true
/-- a class for which name f is free -/
def freeB (K : PySem.W.Frag) (C : Addr) (f : Str) : Bool := decide (PySem.W.findIn K (.ref C) f = some none)
theorem freeB_ok {K : PySem.W.Frag} {C : Addr} {f : Str} (h : freeB K C f = true) : PySem.W.findIn K (.ref C) f = some none := of_decide_eq_true h
def exkB (K : PySem.W.Frag) (C : Addr) (newId : String) (line : List Value) : Bool :=
  PySem.W.excInitIn K C line newId && (PySem.W.excOver K C line &&
  (decide (PySem.W.findIn K (.ref C) "__setattr__" = some (some (.builtin "object.__setattr__"))) &&
  (decide (PySem.W.findIn K (.ref C) "__getattribute__" = some (some (.builtin "BaseException.__getattribute__"))) &&
  (decide (PySem.W.findIn K (.ref C) "__getattr__" = some none) &&
  (decide (PySem.W.subIn K (.ref C) (.type "BaseException") = some true) &&
  (decide (PySem.W.typeIn K (.ref C) = some (.type "type")) &&
  (PySem.W.hasDictIn K C && (PySem.W.keepIn K (.ref C) &&
  (decide (PySem.W.findIn K (.ref C) "__class__" = some (some (.builtin "object.__class__"))) &&
  (decide (PySem.W.specialIn K (.builtin "object.__class__") "__get__" = some (some (.builtin "getset_descriptor.__get__"))) &&
  (decide (PySem.W.takesIn K (.builtin "object.__class__") = some true) && decide (PySem.W.mroIn K C (.type "object") = some true))))))))))))
theorem exkB_ok {K : PySem.W.Frag} {C : Addr} {newId : String} {line : List Value} (b : BaseX newId line) (h : exkB K C newId line = true) : ExK K C := by
  unfold exkB at h
  simp only [Bool.and_eq_true, decide_eq_true_eq] at h
  obtain ⟨h1, h2, h3, h4, h5, h6, h7, h8, h9, h10, h11, h12, h13⟩ := h
  exact ⟨⟨newId, line, b, h1, h2⟩, h3, h4, h5, h6, h7, h8, h9, h10, h11, h12, h13⟩

/-- an exception that stands as a value at a: its class, its fields -/
def ExAt (H : Hp) (a C : Addr) (fs : List (Str × V)) : Prop := (fs = [] ∧ H a = some (exo a C none)) ∨ ∃ dx, dx ≠ a ∧ H a = some (exo a C (some dx)) ∧ H dx = some (exd dx fs)

theorem ne_of_none' {H : Hp} {a b : Addr} {o : HO} (n : H b = none) (e : H a = some o) : b ≠ a := fun z => by
  rw [z, e] at n
  cases n
section

variable {prog : Program} {w : World} {A : Around} {E : Value → Shared → Prop} {R : Result → Shared → Prop} {hp : Heap} {g : Array GenState} {d : Drawn} {t : Nat} {os : OsState}
variable {K : PySem.W.Frag} {name : Str} {tk : Tok} {v : Value} {x C t1 : Addr} {B : String} {line : List Value}
theorem taker_none (h : PySem.W.findIn K (.ref C) name = some none) : PySem.W.takerIn K C name = some none := by
  unfold PySem.W.takerIn
  rw [h]
  rfl
/-- the first field -/
theorem osa_first (SF : StoreFacts B line "object.__setattr__" "object") (X : K.In hp) (hx : hp.get? x = some (PySem.W.excObj C t1 none .none)) (hl : PySem.W.excOver K C line = true) (hh : PySem.W.hasDictIn K C = true) (ha : PySem.W.findIn K (.ref C) name = some none)
    (hq : ∀ h' tk' dx, (∀ b o, b ≠ x → hp.get? b = some o → h'.get? b = some o) → hp.objs.size ≤ dx → dx ≠ x → h'.get? x = some (PySem.W.excObj C t1 (some dx) .none) →
      h'.Ns1 dx (fun y => if y = name then some v else none) → R (.ok (.ret .none)) ⟨h', g, d, tk', os⟩) :
    codeAny (model prog w) A (.call (.builtin "object.__setattr__") ⟨[.ref x, .str name tk, v], []⟩) R ⟨hp, g, d, t, os⟩ := by
  refine PySem.W.osa_openX (od := none) SF X ⟨hx, rfl, rfl, trivial⟩ hl (taker_none ha) fun b => ?_
  obtain ⟨cd, hc, hd'⟩ := PySem.W.any_some hh
  refine wpAny_bind (wpAny_pure (wpAny_bind (PySem.W.instanceDict_exc hx (PySem.W.looks_clsIn X hc) hd' ?_)))
  show wpAny _ _ (Builtin.ObjectAttr.storeInDict hp.objs.size (.str name tk) name v) _ _ _
  have hxs : x ≠ hp.objs.size := Nat.ne_of_lt (Heap.lt_size hx)
  refine HandSPX.store_in_new ?_ fun h' tk' hn' hs => ?_
  · exact ⟨_, #[], _, (Heap.get?_update_ne _ _ _ _ hxs.symm).trans (Heap.get?_push_at rfl rfl), rfl, fun e he => absurd he (by simp), fun _ => rfl⟩
  · refine hq h' tk' hp.objs.size (fun b o hb ho => ?_) (Nat.le_refl _) hxs.symm ?_ hn'
    · exact (hs.2 b (Nat.ne_of_lt (Heap.lt_size ho))).trans ((Heap.get?_update_ne _ _ _ _ hb).trans (Heap.get?_push_of_some _ ho))
    · exact (hs.2 x hxs).trans (Heap.get?_update_self _ (Heap.get?_push_of_some _ hx) rfl)
/-- a further one -/
theorem osa_next {dx : Addr} {m0 : Str → Option Value} {nl : List Str} (SF : StoreFacts B line "object.__setattr__" "object") (X : K.In hp) (hx : hp.get? x = some (PySem.W.excObj C t1 (some dx) .none)) (hl : PySem.W.excOver K C line = true) (hh : PySem.W.hasDictIn K C = true) (ha : PySem.W.findIn K (.ref C) name = some none)
    (hns : hp.Ns1 dx m0) (hw : Within m0 nl) (hz : nl.length ≤ 1000)
    (hq : ∀ h' tk', (∀ b o, b ≠ dx → hp.get? b = some o → h'.get? b = some o) → h'.Ns1 dx (fun y => if y = name then some v else m0 y) → R (.ok (.ret .none)) ⟨h', g, d, tk', os⟩) :
    codeAny (model prog w) A (.call (.builtin "object.__setattr__") ⟨[.ref x, .str name tk, v], []⟩) R ⟨hp, g, d, t, os⟩ := by
  obtain ⟨oD, _, _, hoD, _, _⟩ := hns.count hw
  refine PySem.W.osa_openX (od := some oD) SF X ⟨hx, rfl, rfl, hoD⟩ hl (taker_none ha) fun b => ?_
  obtain ⟨cd, hc, hd'⟩ := PySem.W.any_some hh
  refine wpAny_bind (wpAny_pure (wpAny_bind (wpAny_bind (wpAny_loadPart hx (wpAny_bind ((PySem.W.looks_clsIn X hc).here ?_))))))
  rw [hd']
  refine wpAny_pure (a := some dx) ?_
  exact PySem.OEX.store_in_old hns hw hz fun h' tk' hn' hs => hq h' tk' (fun b o hb ho => (hs.2 b hb).trans ho) hn'
end
section
variable {X : Cx} {pins : List (Addr × Obj)} {σ : L2.St} {H : Hp} {s : Shared} {a C dx : Addr} {f : Str} {y : V} {u : Value} {fs : List (Str × V)} {E : Value → Shared → Prop} {A : Around}
theorem st_first {Q : Unit → Shared → Prop} (T : ExK X.K C) (I : Inv X pins σ H s) (e : H a = some (exo a C none)) (hno : PySem.W.findIn X.K (.ref C) f = some none) (ry : RelV y u)
    (h : ∀ dx s', H dx = none → dx ≠ a → Inv X pins σ (upd (upd H dx (exd dx [(f, y)])) a (exo a C (some dx))) s' → Q () s') : wpAny (model X.prog X.w) A (setAttr (.ref a) f u) Q E s := by
  obtain ⟨newId, line, ⟨B, initId, S, bmB, FB, SF, L⟩, hi, hl⟩ := T.ln
  obtain ⟨t1, ho⟩ := exo_at I.hok e
  obtain ⟨hp, g, d, t, os⟩ := s
  refine PySem.W.set_plain I.kIn (ox := PySem.W.excObj C t1 none .none) (od := none) ⟨ho, rfl, rfl, trivial⟩ T.sa ?_
  refine osa_first SF I.kIn ho hl T.hdC hno (fun h' tk' dx k dn dne hx hn => ?_)
  have hnd : H dx = none := I.hok.fresh dn
  have nd : ∀ {b : Addr} {o : Obj}, hp.get? b = some o → b ≠ dx := fun {b o} q => Nat.ne_of_lt (Nat.lt_of_lt_of_le (Heap.lt_size q) dn)
  have na : ∀ {b : Addr}, H b = none → b ≠ a := fun {b} n => ne_of_none' n e
  have U : Un X.fs [] H (upd (upd H dx (exd dx [(f, y)])) a (exo a C (some dx))) hp h' :=
    ⟨fun b o q n _ _ => k b o (na n) q, fun b o q n _ _ => ⟨o.slots, k b o (na n) q⟩,
      fun b o q n _ => (upd_ne (na n)).trans ((upd_ne (nd q)).trans n),
      fun b o q _ => if hb : b = a then ⟨_, hb ▸ hx⟩ else ⟨o, k b o hb q⟩,
      fun b xs q => (upd_ne (at_ne e q exo_tup)).trans ((upd_ne (ne_of_none q hnd)).trans q),
      fun b o v q => (upd_ne (at_ne e q exo_frz)).trans ((upd_ne (ne_of_none q hnd)).trans q),
      fun b ps q => ⟨#[], by
        rw [upd_ne (at_ne e q exo_tbl), upd_ne (ne_of_none q hnd), q]
        simp⟩⟩
  refine h dx _ hnd dne (I.un (t' := tk') U fun b o q => ?_)
  by_cases hb : b = a
  · subst hb
    cases upd_same.symm.trans q
    exact exo_ok hx
  · rw [upd_ne hb] at q
    by_cases hd : b = dx
    · subst hd
      cases upd_same.symm.trans q
      exact exd_ok hn (relO_put (fs := []) ry fun g => True.intro)
    · rw [upd_ne hd] at q
      have stay : ∀ {c : Addr}, H c = some (.own b) → c ≠ a := fun hc => at_ne e hc exo_own
      refine (I.hok b o q).stay (fun c v hc z => k c v (hc.elim (fun ec => ec ▸ hb) stay) z) (fun c hc => ?_) (fun c xs hc => ?_)
      · exact (upd_ne (stay hc)).trans ((upd_ne (ne_of_none hc hnd)).trans hc)
      · exact (upd_ne (at_ne e hc exo_tup)).trans ((upd_ne (ne_of_none hc hnd)).trans hc)
theorem st_next {Q : Unit → Shared → Prop} (T : ExK X.K C) (I : Inv X pins σ H s) (e : H a = some (exo a C (some dx))) (ed : H dx = some (exd dx fs)) (hl : fs.length ≤ 900) (hno : PySem.W.findIn X.K (.ref C) f = some none) (ry : RelV y u)
    (h : ∀ s', Inv X pins σ (upd H dx (exd dx ((f, y) :: fs))) s' → Q () s') : wpAny (model X.prog X.w) A (setAttr (.ref a) f u) Q E s := by
  obtain ⟨newId, line, ⟨B, initId, S, bmB, FB, SF, L⟩, hi, hlo⟩ := T.ln
  obtain ⟨t1, ho⟩ := exo_at I.hok e
  obtain ⟨mA, hns, rel⟩ := exd_at I.hok ed
  have hw := within_of rel
  obtain ⟨hp, g, d, t, os⟩ := s
  obtain ⟨oD, _, _, hoD, _, _⟩ := hns.count hw
  refine PySem.W.set_plain I.kIn (ox := PySem.W.excObj C t1 (some dx) .none) (od := some oD) ⟨ho, rfl, rfl, hoD⟩ T.sa ?_
  refine osa_next SF I.kIn ho hlo T.hdC hno hns hw (by rw [List.length_map]; omega) (fun h' tk' k hn => ?_)
  have hd : ∃ o, h'.get? dx = some o := by
    obtain ⟨o, _, _, e', _⟩ := hn
    exact ⟨o, e'⟩
  exact h _ (I.write (t' := tk') (x := dx) (e := dx) (o := exd dx ((f, y) :: fs)) (by rw [ed]; exact True.intro) (.inl rfl) k hd (exd_ok hn (relO_put ry rel)))
end
end Tp
set_option Elab.async false
set_option linter.all false
set_option maxRecDepth 100000
set_option maxHeartbeats 4000000
/-! rules for exceptions that stand as values -/
namespace Tp
open PySem PySem.Spec PyProof.Rows L2
section
variable {X : Cx} {pins : List (Addr × Obj)} {σ : L2.St} {H : Hp} {s : Shared} {a D C : Addr} {fs : List (Str × V)}
theorem ex_inst (I : Inv X pins σ H s) (h : ExAt H a D fs) : ∃ (ox : Obj) (od : Option Obj), PySem.W.InstAt s.heap a ox D od ∧ ∀ f v, fs.lookup f = some v → ∃ o u, od = some o ∧ PySem.W.lookIn f o = some (some u) ∧ RelV v u := by
  rcases h with ⟨rfl, e⟩ | ⟨dx, _, e, ed⟩
  · obtain ⟨t1, ho⟩ := exo_at I.hok e
    exact ⟨_, none, ⟨ho, rfl, rfl, trivial⟩, fun f v z => by cases z⟩
  · obtain ⟨t1, ho⟩ := exo_at I.hok e
    obtain ⟨mA, hns, rel⟩ := exd_at I.hok ed
    obtain ⟨oD, hoD, hl⟩ := lookIn_ns hns
    refine ⟨_, some oD, ⟨ho, rfl, rfl, hoD⟩, fun f v z => ?_⟩
    obtain ⟨u, hu, ru⟩ := RelO.some_of (v := v) (o := mA f) (by rw [← z]; exact rel f)
    exact ⟨oD, u, rfl, by rw [hl, hu], ru⟩
theorem ex_kit (T : ExK X.K D) {ox : Obj} {od : Option Obj} : PySem.W.KitX X.K (.ref a) (.ref D) (fun h => PySem.W.InstAt h a ox D od) :=
  PySem.W.kitx_exc (by obtain ⟨cd, hc, _⟩ := PySem.W.any_some T.hdC; rw [hc]; rfl) T.ga T.gg T.exC T.ha T.hn T.ht T.hm
end
/-- isinstance(e, c) -/
def rIsx (K : PySem.W.Frag) : List V → Hp → VK → Prop := fun xs H Q => ∃ (a D : Addr) (fs : List (Str × V)) (c : V) (cv : Value) (b : Bool), xs = [.ref a, c] ∧ ExAt H a D fs ∧ ExK K D ∧ ClsV c cv ∧ PySem.W.kitOne K (.ref D) cv = some b ∧ Q (.bl b) H
/-- isinstance(e, (c, ..)) -/
def rIsxT (K : PySem.W.Frag) : List V → Hp → VK → Prop := fun xs H Q => ∃ (a D : Addr) (fs : List (Str × V)) (tp : Addr) (cs : List V) (us : List Value) (b : Bool), xs = [.ref a, .ref tp] ∧ ExAt H a D fs ∧ ExK K D ∧ H tp = some (.tup cs) ∧ Paired ClsV cs us ∧ PySem.W.kitAny K (.ref D) us = some b ∧ Q (.bl b) H
section
variable {X : Cx}
theorem call_isx : CallR X (.builtin "isinstance") (rIsx X.K) := by
  intro pins s σ H xs us Q I r h
  obtain ⟨a, D, fs, c, cv, b, rfl, ha, T, k, e, q⟩ := h
  obtain ⟨u1, u2, rfl, r1, r2⟩ := vals2 r
  cases (show u1 = Value.ref a from r1)
  have e2 := k.eq r2
  subst e2
  obtain ⟨ox, od, J, _⟩ := ex_inst I ha
  exact PySem.W.kia_one (ex_kit T) I.kIn J e (fun z => nomatch z) fun tk => ⟨.bl b, H, I.tok tk, rfl, q⟩
theorem call_isxT : CallR X (.builtin "isinstance") (rIsxT X.K) := by
  intro pins s σ H xs us Q I r h
  obtain ⟨a, D, fs, tp, cs, ws, b, rfl, ha, T, hT, k, e, q⟩ := h
  obtain ⟨u1, u2, rfl, r1, r2⟩ := vals2 r
  cases (show u1 = Value.ref a from r1)
  cases (show u2 = Value.ref tp from r2)
  obtain ⟨ox, od, J, _⟩ := ex_inst I ha
  obtain ⟨_, its, rv, o, h1, h2, n, h3⟩ := (show ObjOk X.prog X.w H s.heap tp (.tup cs) from I.hok tp _ hT)
  have e3 := ClsV.all k rv
  subst e3
  obtain ⟨oc, od', dt, sl⟩ := o
  simp only at h2 h3
  subst h2 h3
  exact PySem.W.kia_tup (ex_kit T) I.kIn J h1 e (fun z => nomatch z) fun tk => ⟨.bl b, H, I.tok tk, rfl, q⟩
end
/-- e.f -/
def tXg (K : PySem.W.Frag) (f : Str) (te : TE) : TE := fun σ H Q => te σ H fun x H1 => ∃ (a D : Addr) (fs : List (Str × V)) (v : V), x = .ref a ∧ ExAt H1 a D fs ∧ ExK K D ∧ PySem.W.findIn K (.ref D) f = some none ∧ fs.lookup f = some v ∧ Q v H1
/-- o.f = e -/
def tOsx (K : PySem.W.Frag) (f : Str) (to te : TE) : TS := fun D σ H => te σ H fun y H1 => to σ H1 fun x H2 => ∃ a C : Addr, x = .ref a ∧ ExK K C ∧ PySem.W.findIn K (.ref C) f = some none ∧
  ((H2 a = some (exo a C none) ∧ ∀ dx, H2 dx = none → dx ≠ a → D.nx σ (upd (upd H2 dx (exd dx [(f, y)])) a (exo a C (some dx)))) ∨
    ∃ (dx : Addr) (fs : List (Str × V)), H2 a = some (exo a C (some dx)) ∧ H2 dx = some (exd dx fs) ∧ fs.length ≤ 900 ∧ D.nx σ (upd H2 dx (exd dx ((f, y) :: fs))))
/-- C(..): its __init__ keeps sp -/
def tMkx (C : Addr) (n m : Nat) (sp : Sp) (gV : List V → List V → List V) (t tk : TA) : TE := fun σ H Q => t σ H fun vs H1 => tk σ H1 fun zs H2 => vs.length = n ∧ zs.length = m ∧ n ≤ 1000 ∧
  ∀ a, H2 a = none → sp (gV (.ref a :: vs) zs) (upd H2 a (exo a C none)) (fun v H3 => v = .non ∧ Q (.ref a) H3) E0
section
variable {X : Cx} {k n : Nat} {C fI : Addr} {fd : FuncData} {ps ks : List Str} {sp : Sp} {x f : Str} {p pos p' : Pos} {e o : Expr} {es : List Expr} {kws : List Keyword} {te to : TE} {t tk : TA}
variable {g : List Value → List Value → List Value} {gV : List V → List V → List V}
theorem pe_xg (he : PE X e te) (hb : attributeBase e f X.env (eval e X.env) = eval e X.env := by rfl) : PE X (.Attribute e f pos) (tXg X.K f te) := by
  refine ⟨fun pins s σ H Q I h => attr_of hb (thn (he.run pins s σ H _ I h) fun u s1 hh => ?_)⟩
  obtain ⟨x, H1, I1, rx, a, D, fs, v, rfl, hA, T, hno, l, q⟩ := hh
  cases (show u = Value.ref a from rx)
  obtain ⟨ox, od, J, hl⟩ := ex_inst I1 hA
  obtain ⟨o, w, rfl, lo, ru⟩ := hl f v l
  exact HandSPX.exc_get I1.kIn J T.ga T.gg T.exC (PySem.W.findObj_own T.hdC hno rfl lo) (handed_of ru) ⟨v, H1, I1.tok _, ru, q⟩
theorem ps_osx (ho : PE X o to) (he : PE X e te) (hs : swapsWith e (some (.Attribute o f p')) pos.line X.env = pure false := by rfl) : PS X (.Assign [.Attribute o f p'] e pos) (tOsx X.K f to te) := by
  refine ⟨fun pins s σ H D I h => ?_⟩
  refine plainObj_wpAny_Assign_Attribute (thn (he.run pins s σ H _ I h) fun v s1 ⟨y, H1, I1, r1, q1⟩ => thn (ho.run pins s1 σ H1 _ I1 q1) fun u s2 hh => ?_) hs
  obtain ⟨x, H2, I2, r2, a, C, rfl, T, hno, q⟩ := hh
  cases (show u = Value.ref a from r2)
  rcases q with ⟨ea, q⟩ | ⟨dx, fs, ea, ed, hl, q⟩
  · exact st_first T I2 ea hno r1 fun dx s' n ne J => ⟨σ, _, J, q dx n ne⟩
  · exact st_next T I2 ea ed hl hno r1 fun s' J => ⟨σ, _, J, q⟩
/-- the call of the class, its arguments told -/
theorem run_mkx {pins : List (Addr × Obj)} {σ : L2.St} {H : Hp} {s : Shared} {Q : VK} {us ws : List Value} {vs zs : List V} (T : ExK X.K C) (iC : PySem.W.findIn X.K (.ref C) "__init__" = some (some (.ref fI))) (tI : PySem.W.typeIn X.K (.ref fI) = some (.type "function"))
    (F : FnOk X.prog X.w X.K X.mg X.base CX0 k fI fd ps sp) (hr : Room (k + 1) X.A) (hb : KBn X.K fd ps (n + 1) ks g gV) (I : Inv X pins σ H s) (r : Vals vs us) (rz : Vals zs ws) (l1 : vs.length = n) (l2 : zs.length = ks.length) (hn : n ≤ 1000)
    (h : ∀ a, H a = none → sp (gV (.ref a :: vs) zs) (upd H a (exo a C none)) (fun v H3 => v = .non ∧ Q (.ref a) H3) E0) :
    wpAny (model X.prog X.w) X.A (call (.ref C) us (ks.zip ws)) (EP X pins σ Q) X.xe s := by
  obtain ⟨newId, line, ⟨B, initId, S, bmB, FB, SF, L⟩, hi, hl⟩ := T.ln
  obtain ⟨nm, N, qn, bs, bm, hdct, sn, sub, ab, col, dd, k0, k1, k2, k3, k5, hC, hT⟩ := PySem.W.excInit_of I.kIn hi
  have L' : LineX B bm := ⟨(hT _).trans L.hB, (hT _).trans L.hA, (hT _).trans L.hN⟩
  obtain ⟨hp, gg, dr, tk, os⟩ := s
  have hsz : hp.objs.size ≤ hp.objs.size + 1 := Nat.le_succ _
  have kk : ∀ b o, hp.get? b = some o → ((hp.push (PySem.W.kdv_tup us)).push (PySem.HandSPX.excO C hp.objs.size)).get? b = some o := fun b o z => Heap.get?_push_of_some _ (Heap.get?_push_of_some _ z)
  have hget : ((hp.push (PySem.W.kdv_tup us)).push (PySem.HandSPX.excO C hp.objs.size)).get? (hp.objs.size + 1) = some (PySem.HandSPX.excO C hp.objs.size) := by heap_get
  have I2 : Inv X pins σ (upd H (hp.objs.size + 1) (exo (hp.objs.size + 1) C none)) ⟨(hp.push (PySem.W.kdv_tup us)).push (PySem.HandSPX.excO C hp.objs.size), gg, dr, tk, os⟩ :=
    I.laid (t' := tk) kk hsz (exo_ok hget)
  have hq := h (hp.objs.size + 1) (I.hok.fresh hsz)
  have r1 : Vals (V.ref (hp.objs.size + 1) :: vs) (Value.ref (hp.objs.size + 1) :: us) := .cons rfl r
  have lu : us.length = n := r.length.symm.trans l1
  have hus : us.length ≤ sizeLine := by
    rw [lu, sizeLine_eq]
    omega
  have e1 : (Value.ref (hp.objs.size + 1) :: us).length = n + 1 := congrArg Nat.succ lu
  have e2 : ws.length = ks.length := rz.length.symm.trans l2
  refine wpAny_call (mk_call FB L' hC hus (PySem.W.looks_findIn I.kIn iC) (fun self => PySem.W.bind_fn I.kIn self tI)
    (codeAny_mono (F.run _ X.stack _ _ ⟨Value.ref (hp.objs.size + 1) :: us, ks.zip ws⟩ (g (Value.ref (hp.objs.size + 1) :: us) ws) _ _ E0 (hr.make C us (ks.zip ws))
      (I2.env0.make C us (ks.zip ws)) (hb.to _ (Value.ref (hp.objs.size + 1) :: us) ws I2.kIn e1 e2) (hb.rel r1 rz) hq) fun r' s' hq' => ?_))
  cases r' with
  | error e => exact False.elim hq'
  | ok fl =>
    cases fl with
    | ret u =>
      obtain ⟨v, H', I3, rv, ev, q3⟩ := I2.after hq'
      subst ev
      exact ⟨rv, ⟨V.ref (hp.objs.size + 1), H', I3, rfl, q3⟩⟩
    | next => exact False.elim hq'
    | brk => exact False.elim hq'
    | cont => exact False.elim hq'
/-- what a caller knows of an own class of exceptions: its __init__ -/
structure Cx1 (P : Program) (w : World) (K : PySem.W.Frag) (mg : Str → Option Value) (base : Heap) (x : Str) (C : Addr) (n : Nat) (ks : List Str) (sp : Sp) (gV : List V → List V → List V) : Prop where
  ex : ∃ (fI : Addr) (fd : FuncData) (ps : List Str) (g : List Value → List Value → List Value), ExK K C ∧ mg x = some (.ref C) ∧ PySem.W.findIn K (.ref C) "__init__" = some (some (.ref fI)) ∧ PySem.W.typeIn K (.ref fI) = some (.type "function") ∧
    FnOk P w K mg base CX0 1 fI fd ps sp ∧ KBn K fd ps (n + 1) ks g gV
/-- C(e, ..) -/
theorem pe_mkx (c : Cx1 X.prog X.w X.K X.mg X.base x C n [] sp gV) (hr : Room 2 X.A) (hg : Gl X x) (ha : PA X (e :: es) t)
    (hdb : (x == ("__debug__" : Str)) = false := by decide) (he : starEach (e :: es) X.env = (false, eval e X.env) :: starEach es X.env := by rfl) (hpl : (backTo pos (starEach es X.env)).any (·.1) = false := by rfl) :
    PE X (.Call (.Name x p) (e :: es) [] pos) (tMkx C n 0 sp gV t tNil) := by
  obtain ⟨fI, fd, ps, g, T, hm, iC, tI, F, hb⟩ := c.ex
  refine ⟨fun pins s σ H Q I h => wpAny_Call_Name_kw (ld_glob I hg hm ?_ hdb)⟩
  refine PySem.W.callWith_K (h₀ := X.base) I.ok.mod.kin T.kC (thn (ha.run pos pins s σ H _ I h) fun us s1 hh => ?_) he hpl
  obtain ⟨vs, H1, I1, r, l1, _, hn, q⟩ := hh
  exact ⟨I1.kIn, run_mkx T iC tI F hr hb I1 r (ws := []) .nil l1 rfl hn q⟩
/-- C(k = e, ..) -/
theorem pe_mkk (c : Cx1 X.prog X.w X.K X.mg X.base x C 0 ks sp gV) (hr : Room 2 X.A) (hg : Gl X x) (hkw : PK X kws tk)
    (hall : (backToKw pos (keywordEach kws X.env)).all (·.1.isSome) = true := by rfl) (hks : (backToKw pos (keywordEach kws X.env)).filterMap (·.1) = ks := by rfl) (hdb : (x == ("__debug__" : Str)) = false := by decide)
    (hpl : ((backTo pos (starEach [] X.env)).any (·.1) || (backToKw pos (keywordEach kws X.env)).any (·.1.isNone)) = false := by rfl) :
    PE X (.Call (.Name x p) [] kws pos) (tMkx C 0 ks.length sp gV tNil tk) := by
  obtain ⟨fI, fd, ps, g, T, hm, iC, tI, F, hb⟩ := c.ex
  refine ⟨fun pins s σ H Q I h => wpAny_Call_Name_kw (ld_glob I hg hm ?_ hdb)⟩
  refine PySem.W.callWith_KW0 (h₀ := X.base) I.ok.mod.kin T.kC hall (thn (hkw.run pos pins s σ H _ I h) fun ws s2 hh => ?_) hpl
  obtain ⟨zs, H2, I2, rz, l1, l2, hn, q⟩ := hh
  refine ⟨I2.kIn, ?_⟩
  rw [hks]
  exact run_mkx T iC tI F hr hb I2 .nil rz l1 l2 hn q
/-- C() -/
theorem pe_mk0 (c : Cx1 X.prog X.w X.K X.mg X.base x C 0 [] sp gV) (hr : Room 2 X.A) (hg : Gl X x) (hdb : (x == ("__debug__" : Str)) = false := by decide) :
    PE X (.Call (.Name x p) [] [] pos) (tMkx C 0 0 sp gV tNil tNil) := by
  obtain ⟨fI, fd, ps, g, T, hm, iC, tI, F, hb⟩ := c.ex
  refine ⟨fun pins s σ H Q I h => wpAny_Call_Name_kw (ld_glob I hg hm ?_ hdb)⟩
  obtain ⟨_, _, hn, q⟩ := h
  exact PySem.W.callWith_K0 (I.tok _).kIn T.kC (run_mkx T iC tI F hr hb (I.tok _) .nil (ws := []) .nil rfl rfl hn q)
/-- what makes an exception as a value may be raised -/
theorem pmk_x (hx : X.ex = []) (he : PE X e te) :
    PMk X e (fun σ H Q => te σ H fun x H1 => ∃ (a C : Addr) (d : Option Addr), x = .ref a ∧ H1 a = some (exo a C d) ∧ Fr0 X.H_0 a ∧ ExK X.K C ∧ Q (.ref C) d (delH H1 a)) := by
  intro pins s σ H Q I h
  refine wpAny_mono (he.run pins s σ H _ I h) (fun u s1 hu => ?_) fun _ _ x => x
  obtain ⟨v, H1, I1, r1, a, C, d, rfl, ha, h0, T, q⟩ := hu
  cases (show u = Value.ref a from r1)
  obtain ⟨t1, ho⟩ := exo_at I1.hok ha
  obtain ⟨G, gs, ga, J⟩ := I1.untrack ha h0 hx
  exact ⟨a, _, _, { s1 with heap := G }, delH H1 a, .ref C, d, rfl, J, gs, ga, ho, ⟨rfl, rfl⟩, rfl, rfl, delH_same, rfl, I1.bare, raises_own T.exC T.tyC, q⟩
end
end Tp
set_option Elab.async false
set_option linter.all false
set_option maxRecDepth 100000
set_option maxHeartbeats 4000000
/-! what an __init__ that stores its arguments leaves; making such an exception -/
namespace Tp
open PySem PySem.Spec PyProof.Rows L2
def Has (fs : List (Str × V)) (ns : List Str) (vs : List V) : Prop := ∀ (k : Nat) (n : Str) (v : V), ns[k]? = some n → vs[k]? = some v → fs.lookup n = some v
def ExI (H : Hp) (a C : Addr) (ns : List Str) (vs : List V) : Prop := ∃ fs, ExAt H a C fs ∧ Has fs ns vs
theorem ExAt.mono {H H' : Hp} {a C : Addr} {fs : List (Str × V)} (k : Same H H') (h : ExAt H a C fs) : ExAt H' a C fs := by
  rcases h with ⟨e, h⟩ | ⟨dx, n, h1, h2⟩
  · exact .inl ⟨e, k _ _ h⟩
  · exact .inr ⟨dx, n, k _ _ h1, k _ _ h2⟩
theorem ExI.mono {H H' : Hp} {a C : Addr} {ns : List Str} {vs : List V} (k : Same H H') (h : ExI H a C ns vs) : ExI H' a C ns vs := by
  obtain ⟨fs, h1, h2⟩ := h
  exact ⟨fs, h1.mono k, h2⟩
/-- an __init__ that stores its arguments under the names ns -/
def spI (C : Addr) (ns : List Str) : Sp := fun vs H Q _ => ∃ (a : Addr) (xs : List V), vs = .ref a :: xs ∧ xs.length = ns.length ∧ H a = some (exo a C none) ∧ ∀ H', Keep a H H' → ExI H' a C ns xs → Q .non H'
section
variable {K : PySem.W.Frag} {C : Addr} {vs : List V} {H : Hp} {Q : VK} {E : XK} {n m : Str}
theorem ini_len {ns : List Str} (h : spI C ns vs H Q E) : vs.length = (("self" : Str) :: ns).length := by
  obtain ⟨a, xs, rfl, hl, _⟩ := h
  exact congrArg Nat.succ hl
theorem ini0 (h : spI C [] vs H Q E) : ∃ a, vs = [.ref a] ∧ Q .non H := by
  obtain ⟨a, xs, rfl, hl, ha, q⟩ := h
  cases xs with
  | cons x xs => cases hl
  | nil => exact ⟨a, rfl, q H (fun b o _ e => e) ⟨[], .inl ⟨rfl, ha⟩, fun k n v z _ => by cases z⟩⟩
theorem ini1 (h : spI C [n] vs H Q E) : ∃ (a : Addr) (x : V), vs = [.ref a, x] ∧ (ExK K C → PySem.W.findIn K (.ref C) n = some none →
    ∃ a' C' : Addr, V.ref a = .ref a' ∧ ExK K C' ∧ PySem.W.findIn K (.ref C') n = some none ∧ ((H a' = some (exo a' C' none) ∧ ∀ dx, H dx = none → dx ≠ a' → Q .non (upd (upd H dx (exd dx [(n, x)])) a' (exo a' C' (some dx)))) ∨
      ∃ (dx : Addr) (fs : List (Str × V)), H a' = some (exo a' C' (some dx)) ∧ H dx = some (exd dx fs) ∧ fs.length ≤ 900 ∧ Q .non (upd H dx (exd dx ((n, x) :: fs))))) := by
  obtain ⟨a, xs, rfl, hl, ha, q⟩ := h
  match xs, hl with
  | [x], _ =>
    refine ⟨a, x, rfl, fun T hn => ⟨a, C, rfl, T, hn, .inl ⟨ha, fun dx hd hne => q _ (fun b o hb e => ?_) ⟨[(n, x)], .inr ⟨dx, hne, upd_same, ?_⟩, fun k n' v h1 h2 => ?_⟩⟩⟩⟩
    · exact (upd_ne hb).trans ((upd_ne (ne_of_none e hd)).trans e)
    · exact (upd_ne hne).trans upd_same
    · cases k with
      | zero =>
        cases h1
        cases h2
        rw [lookup_put, if_pos rfl]
      | succ k => cases h1
theorem ini2 (hnm : n ≠ m) (h : spI C [n, m] vs H Q E) : ∃ (a : Addr) (x y : V), vs = [.ref a, x, y] ∧ (ExK K C → PySem.W.findIn K (.ref C) n = some none → PySem.W.findIn K (.ref C) m = some none → ∀ N : Hp → Prop,
    (∀ H2, (∃ a' C' : Addr, V.ref a = .ref a' ∧ ExK K C' ∧ PySem.W.findIn K (.ref C') m = some none ∧ ((H2 a' = some (exo a' C' none) ∧ ∀ dx, H2 dx = none → dx ≠ a' → Q .non (upd (upd H2 dx (exd dx [(m, y)])) a' (exo a' C' (some dx)))) ∨
      ∃ (dx : Addr) (fs : List (Str × V)), H2 a' = some (exo a' C' (some dx)) ∧ H2 dx = some (exd dx fs) ∧ fs.length ≤ 900 ∧ Q .non (upd H2 dx (exd dx ((m, y) :: fs))))) → N H2) →
    ∃ a' C' : Addr, V.ref a = .ref a' ∧ ExK K C' ∧ PySem.W.findIn K (.ref C') n = some none ∧ ((H a' = some (exo a' C' none) ∧ ∀ dx, H dx = none → dx ≠ a' → N (upd (upd H dx (exd dx [(n, x)])) a' (exo a' C' (some dx)))) ∨
      ∃ (dx : Addr) (fs : List (Str × V)), H a' = some (exo a' C' (some dx)) ∧ H dx = some (exd dx fs) ∧ fs.length ≤ 900 ∧ N (upd H dx (exd dx ((n, x) :: fs))))) := by
  obtain ⟨a, xs, rfl, hl, ha, q⟩ := h
  match xs, hl with
  | [x, y], _ =>
    refine ⟨a, x, y, rfl, fun T hn hm N hN => ⟨a, C, rfl, T, hn, .inl ⟨ha, fun dx hd hne => hN _ ⟨a, C, rfl, T, hm, .inr ⟨dx, _, upd_same, (upd_ne hne).trans upd_same, Nat.le_of_ble_eq_true rfl, ?_⟩⟩⟩⟩⟩
    have hne' : a ≠ dx := Ne.symm hne
    refine q _ (fun b o hb e => ?_) ⟨[(m, y), (n, x)], .inr ⟨dx, hne, (upd_ne hne').trans upd_same, upd_same⟩, fun k n' v h1 h2 => ?_⟩
    · have e1 : b ≠ dx := ne_of_none e hd
      exact (upd_ne e1).trans ((upd_ne hb).trans ((upd_ne e1).trans e))
    · match k with
      | 0 =>
        cases h1
        cases h2
        rw [lookup_put, if_neg hnm, lookup_put, if_pos rfl]
      | 1 =>
        cases h1
        cases h2
        rw [lookup_put, if_pos rfl]
      | k + 2 => cases h1
end
/-- an exception of C is made, its fields the values -/
def tMke (C : Addr) (ns : List Str) (t : TA) : TE := fun σ H Q => t σ H fun vs H1 => vs.length = ns.length ∧ ns.length ≤ 1000 ∧ ∀ a H', H1 a = none → Same H1 H' → ExI H' a C ns vs → Q (.ref a) H'
theorem PE.of {X : Cx} {e : Expr} {t t' : TE} (h : PE X e t) (k : ∀ σ H Q, t' σ H Q → t σ H Q) : PE X e t' := ⟨fun pins s σ H Q I q => h.run pins s σ H Q I (k σ H Q q)⟩
/-- by keywords: pm puts their values in the fields' order -/
def tMkk (C : Addr) (ns : List Str) (m : Nat) (pm : List V → List V) (tk : TA) : TE := fun σ H Q => tk σ H fun zs H1 => zs.length = m ∧ (pm zs).length = ns.length ∧ ∀ a H', H1 a = none → Same H1 H' → ExI H' a C ns (pm zs) → Q (.ref a) H'
theorem spI_of {C a : Addr} {ns : List Str} {H1 : Hp} {Q : VK} {ws : List V} (hl : ws.length = ns.length) (ha : H1 a = none) (q : ∀ a H', H1 a = none → Same H1 H' → ExI H' a C ns ws → Q (.ref a) H') : spI C ns (.ref a :: ws) (upd H1 a (exo a C none)) (fun v H3 => v = .non ∧ Q (.ref a) H3) E0 :=
  ⟨a, ws, rfl, hl, upd_same, fun H' k h => ⟨rfl, q a H' ha (fun b o eb => k b o (ne_of_none eb ha) ((upd_ne (ne_of_none eb ha)).trans eb)) h⟩⟩
section
variable {X : Cx} {n : Nat} {C : Addr} {ks ns : List Str} {x : Str} {p pos : Pos} {e : Expr} {es : List Expr} {kws : List Keyword} {t tk : TA} {pm : List V → List V}
/-- C(e, ..) -/
theorem pe_mke (c : Cx1 X.prog X.w X.K X.mg X.base x C ns.length [] (spI C ns) (fun vs _ => vs)) (hr : Room 2 X.A) (hg : Gl X x) (ha : PA X (e :: es) t)
    (hdb : (x == ("__debug__" : Str)) = false := by decide) (he : starEach (e :: es) X.env = (false, eval e X.env) :: starEach es X.env := by rfl) (hpl : (backTo pos (starEach es X.env)).any (·.1) = false := by rfl) :
    PE X (.Call (.Name x p) (e :: es) [] pos) (tMke C ns t) := by
  obtain ⟨fI, fd, ps, g, T, hm, iC, tI, F, hb⟩ := c.ex
  refine ⟨fun pins s σ H Q I h => wpAny_Call_Name_kw (ld_glob I hg hm ?_ hdb)⟩
  refine PySem.W.callWith_K (h₀ := X.base) I.ok.mod.kin T.kC (thn (ha.run pos pins s σ H _ I h) fun us s1 hh => ?_) he hpl
  obtain ⟨vs, H1, I1, r, l1, hn, q⟩ := hh
  exact ⟨I1.kIn, run_mkx T iC tI F hr hb I1 r (ws := []) .nil l1 rfl hn fun a ha => spI_of l1 ha q⟩
/-- C(k = e, ..) -/
theorem pe_mkke (c : Cx1 X.prog X.w X.K X.mg X.base x C 0 ks (spI C ns) (fun vs zs => vs ++ pm zs)) (hr : Room 2 X.A) (hg : Gl X x) (hkw : PK X kws tk)
    (hall : (backToKw pos (keywordEach kws X.env)).all (·.1.isSome) = true := by rfl) (hks : (backToKw pos (keywordEach kws X.env)).filterMap (·.1) = ks := by rfl) (hdb : (x == ("__debug__" : Str)) = false := by decide)
    (hpl : ((backTo pos (starEach [] X.env)).any (·.1) || (backToKw pos (keywordEach kws X.env)).any (·.1.isNone)) = false := by rfl) :
    PE X (.Call (.Name x p) [] kws pos) (tMkk C ns ks.length pm tk) := by
  obtain ⟨fI, fd, ps, g, T, hm, iC, tI, F, hb⟩ := c.ex
  refine ⟨fun pins s σ H Q I h => wpAny_Call_Name_kw (ld_glob I hg hm ?_ hdb)⟩
  refine PySem.W.callWith_KW0 (h₀ := X.base) I.ok.mod.kin T.kC hall (thn (hkw.run pos pins s σ H _ I h) fun ws s2 hh => ?_) hpl
  obtain ⟨zs, H2, I2, rz, l2, l3, q⟩ := hh
  refine ⟨I2.kIn, ?_⟩
  rw [hks]
  exact run_mkx T iC tI F hr hb I2 .nil rz rfl l2 (Nat.zero_le _) fun a ha => spI_of l3 ha q
/-- C() -/
theorem pe_mk0e (c : Cx1 X.prog X.w X.K X.mg X.base x C 0 [] (spI C []) (fun vs _ => vs)) (hr : Room 2 X.A) (hg : Gl X x) (hdb : (x == ("__debug__" : Str)) = false := by decide) :
    PE X (.Call (.Name x p) [] [] pos) (tMke C [] tNil) := by
  obtain ⟨fI, fd, ps, g, T, hm, iC, tI, F, hb⟩ := c.ex
  refine ⟨fun pins s σ H Q I h => wpAny_Call_Name_kw (ld_glob I hg hm ?_ hdb)⟩
  obtain ⟨_, _, q⟩ := h
  exact PySem.W.callWith_K0 (I.tok _).kIn T.kC (run_mkx T iC tI F hr hb (I.tok _) .nil (ws := []) .nil rfl rfl (Nat.zero_le _) fun a ha => spI_of rfl ha q)
/-- many made at once: what each is -/
def Many (H : Hp) : List Addr → List (Addr × List Str × List V) → Prop
  | [], [] => True
  | a :: as, c :: cs => ExI H a c.1 c.2.1 c.2.2 ∧ Many H as cs
  | _, _ => False
theorem Many.mono {H H' : Hp} (k : Same H H') : ∀ {as : List Addr} {cs : List (Addr × List Str × List V)}, Many H as cs → Many H' as cs
  | [], [], _ => True.intro
  | a :: as, c :: cs, h => ⟨h.1.mono k, Many.mono k h.2⟩
  | [], _ :: _, h => h.elim
  | _ :: _, [], h => h.elim
theorem Many.app {H : Hp} {bs : List Addr} {ds : List (Addr × List Str × List V)} (k : Many H bs ds) : ∀ {as : List Addr} {cs : List (Addr × List Str × List V)}, Many H as cs → Many H (as ++ bs) (cs ++ ds)
  | [], [], _ => k
  | a :: as, c :: cs, h => ⟨h.1, Many.app k h.2⟩
  | [], _ :: _, h => h.elim
  | _ :: _, [], h => h.elim
theorem Many.len {H : Hp} : ∀ {as : List Addr} {cs : List (Addr × List Str × List V)}, Many H as cs → as.length = cs.length
  | [], [], _ => rfl
  | a :: as, c :: cs, h => congrArg Nat.succ (Many.len h.2)
  | [], _ :: _, h => h.elim
  | _ :: _, [], h => h.elim
theorem Many.get {H : Hp} : ∀ {as : List Addr} {cs : List (Addr × List Str × List V)} (i : Nat) (a : Addr) (c : Addr × List Str × List V), Many H as cs → as[i]? = some a → cs[i]? = some c → ExI H a c.1 c.2.1 c.2.2
  | [], [], i, a, c, _, h1, _ => by cases h1
  | a :: as, c :: cs, 0, _, _, h, h1, h2 => by
    cases h1
    cases h2
    exact h.1
  | a :: as, c :: cs, i + 1, _, _, h, h1, h2 => Many.get i _ _ h.2 h1 h2
  | [], _ :: _, _, _, _, h, _, _ => h.elim
  | _ :: _, [], _, _, _, h, _, _ => h.elim
/-- a row of arguments, each of which makes an exception of what σ tells -/
def tMany (cs : L2.St → Option (List (Addr × List Str × List V))) : TA := fun σ H Q => ∃ c, cs σ = some c ∧ ∀ as H', Same H H' → Many H' as c → Q (as.map V.ref) H'
/-- one expression that makes one -/
def tOne (c : L2.St → Option (Addr × List Str × List V)) : TE := fun σ H Q => ∃ d, c σ = some d ∧ ∀ a H', H a = none → Same H H' → ExI H' a d.1 d.2.1 d.2.2 → Q (.ref a) H'
theorem pa_many0 : PA X [] (tMany fun _ => some []) := ⟨fun pos pins s σ H Q I h => by
  obtain ⟨c, e, q⟩ := h
  cases e
  exact pa_nil.run pos pins s σ H Q I (q [] H (fun _ _ e => e) True.intro)⟩
theorem pa_many {c : L2.St → Option (Addr × List Str × List V)} {cs : L2.St → Option (List (Addr × List Str × List V))} (h1 : PE X e (tOne c)) (h2 : PA X es (tMany cs)) (he : starEach (e :: es) X.env = (false, eval e X.env) :: starEach es X.env := by rfl) :
    PA X (e :: es) (tMany fun σ => (c σ).bind fun d => (cs σ).map fun ds => d :: ds) := ⟨fun pos pins s σ H Q I h => by
  obtain ⟨l, el, q⟩ := h
  obtain ⟨d, ed, el⟩ := Option.bind_eq_some_iff.mp el
  obtain ⟨ds, eds, rfl⟩ := Option.map_eq_some_iff.mp el
  refine (pa_cons h1 h2 he).run pos pins s σ H Q I ⟨d, ed, fun a H1 _ k1 x1 => ⟨ds, eds, fun as H2 k2 x2 => q (a :: as) H2 (fun b o eb => k2 b o (k1 b o eb)) ⟨x1.mono k2, x2⟩⟩⟩⟩
/-- the value of slot i, m times -/
theorem pa_rep {i : Nat} : ∀ {es : List Expr}, True → True := fun _ => True.intro
end
end Tp
set_option Elab.async false
set_option linter.all false
set_option maxRecDepth 100000
set_option maxHeartbeats 4000000
/-! isinstance of any value: plain data, an instance, an exception -/
namespace Tp
open PySem PySem.Spec PyProof.Rows L2
def IsR (K : PySem.W.Frag) (H : Hp) (v : V) (cv : Value) (b : Bool) : Prop := (∃ t, TyX K H v t ∧ PySem.W.kitOne K t cv = some b) ∨ ∃ (a D : Addr) (fs : List (Str × V)), v = .ref a ∧ ExAt H a D fs ∧ ExK K D ∧ PySem.W.kitOne K (.ref D) cv = some b
def IsA (K : PySem.W.Frag) (H : Hp) (v : V) (cs : List Value) (b : Bool) : Prop := (∃ t, TyX K H v t ∧ PySem.W.kitAny K t cs = some b) ∨ ∃ (a D : Addr) (fs : List (Str × V)), v = .ref a ∧ ExAt H a D fs ∧ ExK K D ∧ PySem.W.kitAny K (.ref D) cs = some b
def rIsD (K : PySem.W.Frag) : List V → Hp → VK → Prop := fun xs H Q => ∃ (v c : V) (cv : Value) (b : Bool), xs = [v, c] ∧ ClsV c cv ∧ IsR K H v cv b ∧ Q (.bl b) H
def rIsDT (K : PySem.W.Frag) : List V → Hp → VK → Prop := fun xs H Q => ∃ (v : V) (tp : Addr) (cs : List V) (us : List Value) (b : Bool), xs = [v, .ref tp] ∧ H tp = some (.tup cs) ∧ Paired ClsV cs us ∧ IsA K H v us b ∧ Q (.bl b) H
theorem call_isd {X : Cx} : CallR X (.builtin "isinstance") (rIsD X.K) := by
  intro pins s σ H xs us Q I r h
  obtain ⟨v, c, cv, b, e, k, hr, q⟩ := h
  rcases hr with ⟨t, ty, e1⟩ | ⟨a, D, fs, rfl, hA, T, e1⟩
  · exact call_isi pins s σ H xs us Q I r ⟨v, c, t, cv, b, e, k, ty, e1, q⟩
  · exact call_isx pins s σ H xs us Q I r ⟨a, D, fs, c, cv, b, e, hA, T, k, e1, q⟩
theorem call_isdT {X : Cx} : CallR X (.builtin "isinstance") (rIsDT X.K) := by
  intro pins s σ H xs us Q I r h
  obtain ⟨v, tp, cs, ws, b, e, hT, k, hr, q⟩ := h
  rcases hr with ⟨t, ty, e1⟩ | ⟨a, D, fs, rfl, hA, T, e1⟩
  · exact call_isiT pins s σ H xs us Q I r ⟨v, tp, cs, t, ws, b, e, hT, k, ty, e1, q⟩
  · exact call_isxT pins s σ H xs us Q I r ⟨a, D, fs, tp, cs, ws, b, e, hA, T, hT, k, e1, q⟩
theorem TyX.up {K : PySem.W.Frag} {H H' : Hp} (k : Same H H') {v : V} {t : Value} (h : TyX K H v t) : TyX K H' v t := by
  cases h with
  | base b =>
    cases b with
    | non => exact .base .non
    | bl x => exact .base (.bl x)
    | int i => exact .base (.int i)
    | str x => exact .base (.str x)
    | flt x => exact .base (.flt x)
    | lst e => exact .base (.lst (k _ _ e))
    | frz e => exact .base (.frz (k _ _ e))
    | tup e => exact .base (.tup (k _ _ e))
    | dK e => exact .base (.dK (k _ _ e))
    | dT e => exact .base (.dT (k _ _ e))
    | ins e cl ha hn htk hm => exact .base (.ins (k _ _ e) cl ha hn htk hm)
  | byt b => exact .byt b
  | set e => exact .set (k _ _ e)
  | kList e c => exact .kList e c
  | kTuple e c => exact .kTuple e c
  | kDict e c => exact .kDict e c
  | fTuple e => exact .fTuple (k _ _ e)
  | fDict e => exact .fDict (k _ _ e)
theorem IsA.mono {K : PySem.W.Frag} {H H' : Hp} {v : V} {cs : List Value} {b : Bool} (k : Same H H') (h : IsA K H v cs b) : IsA K H' v cs b := by
  rcases h with ⟨t, ty, e⟩ | ⟨a, D, fs, e1, hA, T, e⟩
  · exact .inl ⟨t, TyX.up k ty, e⟩
  · exact .inr ⟨a, D, fs, e1, hA.mono k, T, e⟩
theorem IsR.mono {K : PySem.W.Frag} {H H' : Hp} {v : V} {c : Value} {b : Bool} (k : Same H H') (h : IsR K H v c b) : IsR K H' v c b := by
  rcases h with ⟨t, ty, e⟩ | ⟨a, D, fs, e1, hA, T, e⟩
  · exact .inl ⟨t, TyX.up k ty, e⟩
  · exact .inr ⟨a, D, fs, e1, hA.mono k, T, e⟩
theorem none_put {H : Hp} {p q : Addr} {o : HO} (hq : H q = none) (hp : upd H q o p = none) : H p = none := by
  by_cases e : p = q
  · rw [e]
    exact hq
  · rwa [upd_ne e] at hp
end Tp
set_option Elab.async false
set_option linter.all false
set_option maxRecDepth 100000
set_option maxHeartbeats 4000000
/-! a list or a tuple as what is walked; enumerate of a tuple -/
namespace Tp
open PySem PySem.Spec PyProof.Rows L2
open Sem (wp)
theorem meets_enum_one {v : Value} {o : Obj} {H : Heap → Prop} (B : Begins v o H) :
    Meets (Builtin.«enumerate.__new__» ⟨[.type "enumerate", v], []⟩) (fun _ R s => H s.heap ∧
      R (.ok (.ret (.ref (s.heap.push o).objs.size))) { s with heap := (s.heap.push o).push { cls := .type "enumerate", data := .fields #[.none, .bool false, .ref s.heap.objs.size, rawInt 0, .none, .none] } }) :=
  .of_wp fun prog w A R s h => by
    obtain ⟨hp, g, d, tk, os⟩ := s; obtain ⟨h1, h⟩ := h
    have hsub := sub_enumerate
    have q1 : ∀ {A' : Around} {E : Value → Shared → Prop} {Q : Value → Shared → Prop}, Q (.ref hp.objs.size) ⟨hp.push o, g, d, tk, os⟩ → wpAny (model prog w) A' (pyIter v) Q E ⟨hp, g, d, tk, os⟩ :=
      fun q => B.iter prog w _ _ ⟨hp, g, d, tk, os⟩ _ h1 q
    wp_walk using q1
    refine wpAny_stack_any fun st => wpAny_pure ?_
    split
    · rename_i c _ _ _ _ _
      cases (c == Value.type "enumerate")
      · wp_walk using q1
        exact ⟨_, rfl, h⟩
      · wp_walk using q1
        exact ⟨_, rfl, h⟩
    · wp_walk using q1
      exact ⟨_, rfl, h⟩
section
variable {prog : Program} {w : World} {A : Around} {E : Value → Shared → Prop} {s : Shared}
theorem enum_one {v : Value} {o : Obj} {H : Heap → Prop} {Q : Value → Shared → Prop} (B : Begins v o H) (h1 : H s.heap) (hn : ∀ obj, argsOk "object.__init__" ⟨[obj, v], []⟩)
    (ht : checkTypeCall "enumerate" ⟨[v], []⟩ = pure ()) (hc : checkBuiltinCall "enumerate.__new__" ⟨[.type "enumerate", v], []⟩ = pure ())
    (h : ∀ h', IsEnum h' (s.heap.objs.size + 1) s.heap.objs.size 0 .none → h'.get? s.heap.objs.size = some o → h'.objs.size = s.heap.objs.size + 2 →
      (∀ b o, s.heap.get? b = some o → h'.get? b = some o) → Q (.ref (s.heap.objs.size + 1)) { s with heap := h' }) :
    wpAny (model prog w) A (call (.type "enumerate") [v]) Q E s := by
  refine callType_new F.called_enumerate (by decide) ht hc hn F.entry_enumerate_new
    (meets_enum_one B) ⟨h1, ?_⟩
  have hz : (s.heap.push o).objs.size = s.heap.objs.size + 1 := Heap.size_push ..
  show _ ∧ _
  rw [hz]
  have he : IsEnum ((s.heap.push o).push { cls := .type "enumerate", data := .fields #[.none, .bool false, .ref s.heap.objs.size, rawInt 0, .none, .none] }) (s.heap.objs.size + 1) s.heap.objs.size 0 .none := by
    have := Heap.get?_push_size (s.heap.push o) (o := { cls := .type "enumerate", data := .fields #[.none, .bool false, .ref s.heap.objs.size, rawInt 0, .none, .none] }) rfl
    rw [hz] at this; exact this
  refine ⟨⟨_, he, rfl⟩, h _ he (Heap.get?_push_of_some _ (Heap.get?_push_size _ B.free)) (by rw [Heap.size_push, hz]) fun b o x => Heap.get?_push_of_some _ (Heap.get?_push_of_some _ x)⟩
end
theorem enum_endT {prog : Program} {w : World} {A : Around} {E : Value → Shared → Prop} {s : Shared} {e it l : Addr} {i : Nat} {items : Array Value} {old : Value} {Q : Option Value → Shared → Prop} (hh : A.handled = none)
    (he : IsEnum s.heap e it i old) (hit : s.heap.IsTupleIter it l i) (hl : s.heap.IsTuple l items) (hx : items[i]? = none)
    (hQ : ∀ h', Heap.ExtBut it s.heap h' → Q none { s with heap := h' }) : wpAny (model prog w) A (pyNext (.ref e)) Q E s := by
  have hT : s.TypeIs (.ref e) "enumerate" := ⟨_, he, rfl⟩
  unfold pyNext
  refine wpAny_bind (wpAny_attempt (wpAny_callSpecial?_slot (name := Str.ofString "__next__") hT F.slot_enumerate_next
    (wpAny_call_entry F.slot_enumerate_next hT F.entry_enumerate_next ?_ (F.args_enumerate_next_1 _))))
  show wpAny _ _ (field (.ref e) 2 >>= _) _ _ _
  refine wpAny_bind (wpAny_field he rfl (x := .ref it) rfl ?_)
  refine wpAny_bind (wpAny_nextOf_tuple_end hh hit hl hx fun h' x he' hx' => ?_)
  obtain ⟨o, ho, hc⟩ := hx'
  refine wpAny_bind (wpAny_isInstance (T := "StopIteration") (b := true) ⟨o, ho, hc⟩ isSubtype_stop ?_)
  exact wpAny_pure (hQ _ he')
/-- the tuple at a as it stands at each turn, each item in a new pair -/
def IteT (K : PySem.W.Frag) (a : Addr) : It :=
  ⟨fun i H => ∃ (xs : List V) (x : V), SqT K H a xs ∧ xs[i]? = some x, fun i H v H' => ∃ T x, v = .ref T ∧ H T = none ∧ H' = upd H T (.tup [.int (i : Nat), x]) ∧ ∀ xs, SqT K H a xs → xs[i]? = some x, fun i H => ∃ xs : List V, SqT K H a xs ∧ xs.length ≤ i⟩
/-- how the iterator of a tuple stands, that of enumerate ahead of it -/
def DrT (t : Addr) (items : Array Value) (i : Nat) (h : Heap) (it : Addr) : Prop := h.IsTupleIter it t i ∧ h.IsTuple t items
theorem turn_enumT {P : Program} {w : World} {K : PySem.W.Frag} {elts : List Expr} {kk : Nat} {tpos : Pos} (a e it : Addr) (ha : a ≠ it) (hae : a ≠ e) :
    Turn P w K (.Tuple elts kk tpos) (IteT K a) [e, it] e (fun i h => (∃ old, IsEnum h e it ((i : Nat) : Int) old) ∧ h.IsTupleIter it a i ∧ e ≠ it) where
  mem := by simp
  obj := fun i h st b hb => by
    obtain ⟨⟨old, he⟩, ⟨o, ho, hc, hd⟩, _⟩ := st
    have e' : b = e ∨ b = it := by simpa using hb
    rcases e' with z | z
    · rw [z]; exact ⟨_, he, fun v q => nomatch q⟩
    · rw [z]; exact ⟨o, ho, fun v q => by rw [hd] at q; cases q⟩
  keep := fun i h h' st k => let ⟨⟨old, he⟩, hi, hne⟩ := st; ⟨⟨old, k e (by simp) _ he⟩, hi.at fun o q => k it (by simp) o q, hne⟩
  item := by
    intro X hP hw hK hc i pins s σ H E I hf st hg
    subst hP hw hK
    obtain ⟨⟨old, he⟩, hit, hne⟩ := st
    obtain ⟨xs, x, hq, hx⟩ := hg
    obtain ⟨its, rv, p, hz⟩ := I.tuple hq
    obtain ⟨u, hu, ru⟩ := rv.get hx
    have hel : e < s.heap.objs.size := Heap.lt_size he
    have hil : it < s.heap.objs.size := by obtain ⟨_, q, _⟩ := hit; exact Heap.lt_size q
    have hi : i < its.toArray.size := by
      have := (List.getElem?_eq_some_iff.mp hu).1
      simpa using this
    refine wpAny_pyNext_enum_itemD (i := i) (Draws.tuple (A := X.A.in1) (I.ok.hd hc) it a ha its.toArray) he ⟨hit, p⟩ hi hne (by simp [hne, hae.symm]) fun u' h' tk hu' ho st' hT hsz hk => ?_
    have eu : u' = u := by
      have h1 : its.toArray[i]? = some u' := hu'
      have h2 : its.toArray[i]? = some u := by simpa using hu
      rw [h1] at h2
      exact Option.some.inj h2
    subst eu
    refine ⟨_, rfl, wpAny_letOwnedTupleGo_enum (s := { s with heap := h', toks := tk + 1 }) ho fun h'' he' sb => ?_⟩
    have hT2 : h''.get? s.heap.objs.size = some { cls := .type "tuple", data := .seq #[.int i tk, u'] } := (sb.2 _ (Nat.ne_of_gt hel)).trans hT
    have new : ObjOk X.prog X.w (upd H s.heap.objs.size (.tup [.int (i : Nat), x])) h'' s.heap.objs.size (.tup [.int (i : Nat), x]) :=
      ⟨by show 2 ≤ sizeLine; decide, [.int i tk, u'], .cons ⟨_, rfl⟩ (.cons ru .nil), ⟨_, hT2, rfl, _, rfl⟩⟩
    have I1 : Inv X pins σ (upd H s.heap.objs.size (.tup [.int (i : Nat), x])) { s with heap := h'', toks := tk + 1 } :=
      I.turnedNew (ch := [e, it]) (fun b ob hb q => (sb.2 b (fun z => hb (by simp [z]))).trans (hk b ob (fun z => hb (by simp [z])) (fun z => hb (by simp [z])) q)) hf (Nat.le_refl _) new
    refine ⟨.ref s.heap.objs.size, _, I1, rfl, ⟨_, x, rfl, I.hok.fresh (Nat.le_refl _), rfl, fun ys hy => by rw [I.tuple_inj hy hq]; exact hx⟩, ⟨⟨u', ?_⟩, st'.1.at fun o q => (sb.2 it (Ne.symm hne)).trans q, hne⟩, fun b hb => ?_⟩
    · have e1 : ((i + 1 : Nat) : Int) = (i : Int) + 1 := by omega
      rw [e1]; exact he'
    · have hb' : b < s.heap.objs.size := by
        have e' : b = e ∨ b = it := by simpa using hb
        rcases e' with z | z
        · rw [z]; exact hel
        · rw [z]; exact hil
      rw [upd_ne (Nat.ne_of_lt hb')]
      exact (hf b hb).1
  done := by
    intro X hP hw hK hc i pins s σ H E I hf st hg
    subst hP hw hK
    obtain ⟨⟨old, he⟩, hit, hne⟩ := st
    obtain ⟨xs, hq, hx⟩ := hg
    obtain ⟨its, rv, p, hz⟩ := I.tuple hq
    obtain ⟨f0, f1, f2, f3, f4, f5⟩ := hf it (by simp)
    have hl := rv.length
    exact enum_endT (I.ok.hd hc) he hit p (by simp; omega) fun h' eb => ⟨rfl, I.turned (t' := s.toks) (fun b o hb q => eb b o hb q) f0 f1 f3 f4 f5⟩
  self := fun A i s Q E st h => let ⟨⟨_, he⟩, _⟩ := st; wpAny_pyIter_enum he h
def iEnumT (K : PySem.W.Frag) (ta : TA) : TI := fun σ H R => ta σ H fun vs H1 => ∃ a xs, vs = [.ref a] ∧ SqT K H1 a xs ∧ R (IteT K a) H1
theorem pi_enumT {X : Cx} {e : Expr} {ta : TA} {p pos tpos : Pos} {elts : List Expr} {kk : Nat} (hg : Gl X "enumerate") (hm : X.mg "enumerate" = none) (ha : PA X [e] ta) (hs : starEach [e] X.env = [(false, eval e X.env)] := by rfl) :
    PI X (.Tuple elts kk tpos) (.Call (.Name "enumerate" p) [e] [] pos) (iEnumT X.K ta) := by
  refine ⟨fun pins s σ H R I h => ?_⟩
  refine Call_ (ld_blt I hg hm boot_enumerate (PyProof.Rows.callWith_type1 (thn (ha.run pos pins s σ H _ I h) fun us s1 ⟨vs, H1, I1, r1, q1⟩ => ?_) hs rfl))
  obtain ⟨a, xs, ex, hq, q⟩ := q1
  subst ex
  cases r1 with
  | cons r rr =>
    cases rr
    cases r
    obtain ⟨its, rv, p', hz⟩ := I1.tuple hq
    have hal : a < s1.heap.objs.size := by obtain ⟨_, q, _⟩ := id p'; exact Heap.lt_size q
    refine enum_one (begins_tuple a its.toArray) p' (fun obj => F.args_object_init_2 obj _) (F.typeCall_enumerate_1 _) (F.newCall_enumerate_1 _) fun h' he hit hsz hk => wpAny_pyIter_enum he ?_
    have I2 : Inv X pins σ H1 { s1 with heap := h' } := I1.kept (t' := s1.toks) hk
    refine ⟨s1.heap.objs.size + 1, [s1.heap.objs.size + 1, s1.heap.objs.size], _, _, H1, rfl, I2, turn_enumT a (s1.heap.objs.size + 1) s1.heap.objs.size (Nat.ne_of_lt hal) (Nat.ne_of_lt (Nat.lt_succ_of_lt hal)), ⟨⟨.none, he⟩, ⟨_, hit, rfl, rfl⟩, Nat.succ_ne_self _⟩, fun b hb => ?_, q⟩
    have e' : b = s1.heap.objs.size + 1 ∨ b = s1.heap.objs.size := by simpa using hb
    have hle : s1.heap.objs.size ≤ b := by
      rcases e' with z | z
      · rw [z]; exact Nat.le_add_right _ _
      · rw [z]; exact Nat.le_refl _
    exact I1.fpOk hle (I1.hok.fresh hle)
theorem walk_enumT {K : PySem.W.Frag} {a : Addr} {xs : List V} : Walk (IteT K a) xs.length (fun H => SqT K H a xs) (YPair (fun i => some (.int (i : Nat))) (fun i => xs[i]?)) := by
  refine ⟨fun i _ hi q => ⟨xs, xs[i], q, by simp [hi]⟩, fun _ q => ⟨xs, q, Nat.le_refl _⟩, fun i H v H' _ q y => ?_⟩
  obtain ⟨T, x, h1, h2, h3, h4⟩ := y
  exact ⟨T, .int (i : Nat), x, h1, h2, h3, rfl, h4 xs q⟩
/-- one of two walks -/
def iOr (w1 w2 : TI) : TI := fun σ H R => w1 σ H R ∨ w2 σ H R
theorem pi_or {X : Cx} {tg iter : Expr} {w1 w2 : TI} (h1 : PI X tg iter w1) (h2 : PI X tg iter w2) : PI X tg iter (iOr w1 w2) :=
  ⟨fun pins s σ H R I h => h.elim (h1.run pins s σ H R I) (h2.run pins s σ H R I)⟩
/-- a list or a tuple stands there -/
def SqA (K : PySem.W.Frag) (H : Hp) (a : Addr) (xs : List V) : Prop := SqL K H a xs ∨ SqT K H a xs
def SeqR (K : PySem.W.Frag) (a : Addr) (H : Hp) (R : It → Hp → Prop) : Prop := ((∃ xs, SqL K H a xs) ∧ R (Itl K a) H) ∨ ((∃ xs, SqT K H a xs) ∧ R (Itt K a) H)
def EnumR (K : PySem.W.Frag) (a : Addr) (H : Hp) (R : It → Hp → Prop) : Prop := ((∃ xs, SqL K H a xs) ∧ R (Ite K a) H) ∨ ((∃ xs, SqT K H a xs) ∧ R (IteT K a) H)
/-- what is walked: a list or a tuple -/
def iSeq (K : PySem.W.Frag) (te : TE) : TI := fun σ H R => te σ H fun x H1 => ∃ a, x = .ref a ∧ SeqR K a H1 R
theorem pi_seq {X : Cx} {tg l : Expr} {tl : TE} (hl : PE X l tl) : PI X tg l (iSeq X.K tl) := by
  refine ⟨fun pins s σ H R I h => ?_⟩
  refine thn (hl.run pins s σ H _ I h) fun v s1 ⟨x, H1, I1, r1, q1⟩ => ?_
  obtain ⟨a, e, q⟩ := q1
  subst e
  cases r1
  rcases q with ⟨⟨xs, hq⟩, q⟩ | ⟨⟨xs, hq⟩, q⟩
  · obtain ⟨its, rv, p, hz⟩ := I1.list hq
    refine wpAny_pyIter_list p.isList ?_
    refine ⟨s1.heap.objs.size, [s1.heap.objs.size], _, _, H1, rfl, I1.kept (t' := s1.toks) fun b o e => Heap.get?_push_of_some _ e, turn_list a _, ⟨_, Heap.get?_push_size _ rfl, rfl, rfl⟩, fun b hb => ?_, q⟩
    have e : b = s1.heap.objs.size := by simpa using hb
    subst e
    exact I1.fpOk (Nat.le_refl _) (I1.hok.fresh (Nat.le_refl _))
  · obtain ⟨its, rv, p, hz⟩ := I1.tuple hq
    refine wpAny_pyIter_tuple (show s1.heap.IsTuple a its.toArray from p) ?_
    refine ⟨s1.heap.objs.size, [s1.heap.objs.size], _, _, H1, rfl, I1.kept (t' := s1.toks) fun b o e => Heap.get?_push_of_some _ e, turn_tuple a _, ⟨_, Heap.get?_push_size _ rfl, rfl, rfl⟩, fun b hb => ?_, q⟩
    have e : b = s1.heap.objs.size := by simpa using hb
    subst e
    exact I1.fpOk (Nat.le_refl _) (I1.hok.fresh (Nat.le_refl _))
/-- enumerate of a list or a tuple -/
def iEnumS (K : PySem.W.Frag) (ta : TA) : TI := fun σ H R => ta σ H fun vs H1 => ∃ a, vs = [.ref a] ∧ EnumR K a H1 R
theorem pi_enumS {X : Cx} {e : Expr} {ta : TA} {p pos tpos : Pos} {elts : List Expr} {kk : Nat} (hg : Gl X "enumerate") (hm : X.mg "enumerate" = none) (ha : PA X [e] ta) (hs : starEach [e] X.env = [(false, eval e X.env)] := by rfl) :
    PI X (.Tuple elts kk tpos) (.Call (.Name "enumerate" p) [e] [] pos) (iEnumS X.K ta) := by
  refine ⟨fun pins s σ H R I h => ?_⟩
  refine Call_ (ld_blt I hg hm boot_enumerate (PyProof.Rows.callWith_type1 (thn (ha.run pos pins s σ H _ I h) fun us s1 ⟨vs, H1, I1, r1, q1⟩ => ?_) hs rfl))
  obtain ⟨a, ex, hq⟩ := q1
  subst ex
  cases r1 with
  | cons r rr =>
    cases rr
    cases r
    have fin : ∀ b, b ∈ [s1.heap.objs.size + 1, s1.heap.objs.size] → s1.heap.objs.size ≤ b := fun b hb => by
      have e' : b = s1.heap.objs.size + 1 ∨ b = s1.heap.objs.size := by simpa using hb
      rcases e' with z | z
      · rw [z]; exact Nat.le_add_right _ _
      · rw [z]; exact Nat.le_refl _
    rcases hq with ⟨⟨xs, hq⟩, q⟩ | ⟨⟨xs, hq⟩, q⟩
    · obtain ⟨its, rv, p', hz⟩ := I1.list hq
      refine call_enumerate_list p'.isList fun h' he hit hsz hk => wpAny_pyIter_enum he ?_
      have I2 : Inv X pins σ H1 { s1 with heap := h' } := I1.kept (t' := s1.toks) hk
      exact ⟨s1.heap.objs.size + 1, [s1.heap.objs.size + 1, s1.heap.objs.size], _, _, H1, rfl, I2, turn_enum a (s1.heap.objs.size + 1) s1.heap.objs.size, ⟨⟨.none, he⟩, hit, Nat.succ_ne_self _⟩, fun b hb => I1.fpOk (fin b hb) (I1.hok.fresh (fin b hb)), q⟩
    · obtain ⟨its, rv, p', hz⟩ := I1.tuple hq
      have hal : a < s1.heap.objs.size := by obtain ⟨_, q, _⟩ := id p'; exact Heap.lt_size q
      refine enum_one (begins_tuple a its.toArray) p' (fun obj => F.args_object_init_2 obj _) (F.typeCall_enumerate_1 _) (F.newCall_enumerate_1 _) fun h' he hit hsz hk => wpAny_pyIter_enum he ?_
      have I2 : Inv X pins σ H1 { s1 with heap := h' } := I1.kept (t' := s1.toks) hk
      exact ⟨s1.heap.objs.size + 1, [s1.heap.objs.size + 1, s1.heap.objs.size], _, _, H1, rfl, I2, turn_enumT a (s1.heap.objs.size + 1) s1.heap.objs.size (Nat.ne_of_lt hal) (Nat.ne_of_lt (Nat.lt_succ_of_lt hal)), ⟨⟨.none, he⟩, ⟨_, hit, rfl, rfl⟩, Nat.succ_ne_self _⟩, fun b hb => I1.fpOk (fin b hb) (I1.hok.fresh (fin b hb)), q⟩
section
variable {K : PySem.W.Frag} {H H' : Hp} {a : Addr} {xs : List V}
theorem SqA.up (k : Same H H') (h : SqA K H a xs) : SqA K H' a xs := by
  rcases h with h | h
  · refine .inl ?_
    rcases h with (h | ⟨o, h⟩) | h
    · exact .inl (.inl (k _ _ h))
    · exact .inl (.inr ⟨o, k _ _ h⟩)
    · exact .inr h
  · refine .inr ?_
    rcases h with (h | ⟨o, h⟩) | h
    · exact .inl (.inl (k _ _ h))
    · exact .inl (.inr ⟨o, k _ _ h⟩)
    · exact .inr h
theorem upL (k : Same H H') (h : SqL K H a xs) : SqL K H' a xs := by
  rcases h with (h | ⟨o, h⟩) | h
  · exact .inl (.inl (k _ _ h))
  · exact .inl (.inr ⟨o, k _ _ h⟩)
  · exact .inr h
theorem upT (k : Same H H') (h : SqT K H a xs) : SqT K H' a xs := by
  rcases h with (h | ⟨o, h⟩) | h
  · exact .inl (.inl (k _ _ h))
  · exact .inl (.inr ⟨o, k _ _ h⟩)
  · exact .inr h
/-- the walk of a list or a tuple while all stands as it stood -/
theorem seq_it {R : It → Hp → Prop} (h : SqA K H a xs) (hR : ∀ J, Walk J xs.length (fun G => Same H G) (YAt xs) → R J H) : SeqR K a H R := by
  rcases h with h | h
  · exact .inl ⟨⟨xs, h⟩, hR _ (walk_list.mono (fun G k => upL k h) fun _ _ _ _ _ _ y => y)⟩
  · exact .inr ⟨⟨xs, h⟩, hR _ (walk_tup.mono (fun G k => upT k h) fun _ _ _ _ _ _ y => y)⟩
theorem enum_it {R : It → Hp → Prop} (h : SqA K H a xs) (hR : ∀ J, Walk J xs.length (fun G => Same H G) (YPair (fun i => some (.int (i : Nat))) (fun i => xs[i]?)) → R J H) : EnumR K a H R := by
  rcases h with h | h
  · exact .inl ⟨⟨xs, h⟩, hR _ (walk_enum.mono (fun G k => upL k h) fun _ _ _ _ _ _ y => y)⟩
  · exact .inr ⟨⟨xs, h⟩, hR _ (walk_enumT.mono (fun G k => upT k h) fun _ _ _ _ _ _ y => y)⟩
end
end Tp
namespace Tp
open PySem PySem.Spec PyProof.Rows L2
theorem lenA {K : PySem.W.Frag} {H : Hp} {a : Addr} {xs : List V} (h : SqA K H a xs) : LenV K (.ref a) H xs.length := h.elim (fun h => .inl ⟨xs, h, rfl⟩) fun h => .inr ⟨xs, h, rfl⟩
theorem ixA {K : PySem.W.Frag} {H : Hp} {a : Addr} {xs : List V} {i : Int} {v : V} {Q : VK} (h : SqA K H a xs) (e : atI xs i = some v) (q : Q v H) : rIxL K (.ref a) (.int i) H Q ∨ rIxT K (.ref a) (.int i) H Q :=
  h.elim (fun h => .inl ⟨a, xs, i, v, rfl, rfl, h, e, q⟩) fun h => .inr ⟨a, xs, i, v, rfl, rfl, h, e, q⟩
end Tp
set_option Elab.async false
set_option linter.all false
set_option maxRecDepth 100000
set_option maxHeartbeats 4000000
/-! data of any depth with dicts in it, and its repr -/
namespace Tp
open PySem PySem.Spec PyProof.Rows L2
/-- a key as data -/
def kD : Key → PyData
  | .inl i => .int i
  | .inr x => .str x
mutual
inductive Dd (K : PySem.W.Frag) (H : Hp) : V → PyData → Prop
  | non : Dd K H .non .none
  | bl (b : Bool) : Dd K H (.bl b) (.bool b)
  | int (i : Int) : Dd K H (.int i) (.int i)
  | str (x : Str) : Dd K H (.str x) (.str x)
  | lst {a : Addr} {xs : List V} {ds : List PyData} : SqL K H a xs → DdAll K H xs ds → Dd K H (.ref a) (.list ds)
  | tup {a : Addr} {xs : List V} {ds : List PyData} : SqT K H a xs → DdAll K H xs ds → Dd K H (.ref a) (.tuple ds)
  | dct {a : Addr} {kvs : List (Key × V)} {es : List (PyData × PyData)} : H a = some (.dK kvs) → es.map (·.1) = kvs.map (fun kv => kD kv.1) → DdAll K H (kvs.map (·.2)) (es.map (·.2)) → Dd K H (.ref a) (.dict es)
inductive DdAll (K : PySem.W.Frag) (H : Hp) : List V → List PyData → Prop
  | nil : DdAll K H [] []
  | cons {v : V} {vs : List V} {d : PyData} {ds : List PyData} : Dd K H v d → DdAll K H vs ds → DdAll K H (v :: vs) (d :: ds)
end
/-- the table of modules is a dict of the written part -/
def Sm (K : PySem.W.Frag) : Prop := ∃ o : Obj, K.lookup sysModules = some o ∧ o.cls = .type "dict"
theorem reads_pairs {P : Program} {w : World} {h : Heap} : ∀ {es : List DictEntry} {kvs : List (Key × Value)}, Pairs (mixKind P w) es kvs → ReadsAll h (es.map (·.key)) (kvs.map fun kv => kD kv.1) [] ∧ es.map (·.val) = kvs.map (·.2)
  | _, _, .nil => ⟨.nil, rfl⟩
  | _, _, .cons h1 h2 h3 => by
    obtain ⟨ih1, ih2⟩ := reads_pairs (h := h) h3
    have e1 := keyIs_shape (show keyIs _ _ = true from h1)
    refine ⟨?_, ?_⟩
    · rcases e1 with ⟨i, t, e, e'⟩ | ⟨x, t, e, e'⟩
      · rw [List.map_cons, List.map_cons, e', e]
        exact ReadsAll.cons (as := []) (bs := []) (.int i t) ih1
      · rw [List.map_cons, List.map_cons, e', e]
        exact ReadsAll.cons (as := []) (bs := []) (.str x t) ih1
    · rw [List.map_cons, List.map_cons, ih2, h2]
theorem kv_keys : ∀ {kvs : List (Key × V)} {vs : List (Key × Value)}, KV kvs vs → vs.map (fun kv => kD kv.1) = kvs.map (fun kv => kD kv.1)
  | _, _, .nil => rfl
  | _, _, .cons a b => by rw [List.map_cons, List.map_cons, kv_keys b, a.1]
theorem kv_vals : ∀ {kvs : List (Key × V)} {vs : List (Key × Value)}, KV kvs vs → Vals (kvs.map (·.2)) (vs.map (·.2))
  | _, _, .nil => .nil
  | _, _, .cons a b => .cons a.2 (kv_vals b)
section
variable {X : Cx} {pins : List (Addr × Obj)} {σ : L2.St} {H : Hp} {s : Shared}
theorem not_list_sm (I : Inv X pins σ H s) (S : Sm X.K) {a : Addr} {o : Obj} (ho : s.heap.get? a = some o) (hc : o.cls = .type "list") : sysModules ≠ a := fun e => by
  obtain ⟨o2, hk, c2⟩ := S
  have h2 := I.kIn _ _ hk
  rw [e, ho] at h2
  have e3 := Option.some.inj h2
  rw [← e3, hc] at c2
  exact absurd (Value.type.inj c2) (by decide)
mutual
theorem Dd.reads (I : Inv X pins σ H s) (S : Sm X.K) : ∀ (d : PyData) (v : V) (u : Value), Dd X.K H v d → RelV v u → ∃ as, Reads s.heap u d as ∧ sysModules ∉ as
  | .none, _, _, h, r => by
    cases h
    cases r
    exact ⟨_, Reads.none, List.not_mem_nil⟩
  | .bool b, _, _, h, r => by
    cases h
    cases r
    exact ⟨_, Reads.bool b, List.not_mem_nil⟩
  | .int i, _, _, h, r => by
    cases h
    obtain ⟨t, rfl⟩ := r
    exact ⟨_, Reads.int i t, List.not_mem_nil⟩
  | .str x, _, _, h, r => by
    cases h
    obtain ⟨t, rfl⟩ := r
    exact ⟨_, Reads.str x t, List.not_mem_nil⟩
  | .list ds, _, _, h, r => by
    cases h with
    | lst hs ha =>
      cases r
      obtain ⟨its, rv, ⟨o, n, ho, hc, _, hd⟩, _⟩ := I.list hs
      obtain ⟨as, hr, hm⟩ := Dd.readsAll I S ds _ its ha rv
      refine ⟨_, Reads.list ho hc hd hr, fun z => ?_⟩
      rcases List.mem_cons.mp z with e | e
      · exact not_list_sm I S ho hc e
      · exact hm e
  | .tuple ds, _, _, h, r => by
    cases h with
    | tup hs ha =>
      cases r
      obtain ⟨its, rv, ⟨o, ho, hc, n, hd⟩, _⟩ := I.tuple hs
      obtain ⟨as, hr, hm⟩ := Dd.readsAll I S ds _ its ha rv
      exact ⟨_, Reads.tuple ho hc hd hr, hm⟩
  | .dict es, _, _, h, r => by
    cases h with
    | @dct a kvs _ ha he hv =>
      cases r
      obtain ⟨_, hsm, vs, rel, o, des, ep, ho, hx, hdat, _, hpr, _⟩ := dk_of I.hok ha
      obtain ⟨p1, p2⟩ := reads_pairs (h := s.heap) hpr
      have hkeys := kv_keys rel
      have hvals := kv_vals rel
      rw [← p2] at hvals
      obtain ⟨bs, hr, hm⟩ := Dd.readsPairs I S es _ _ hv hvals
      refine ⟨_, Reads.dict (as := []) (bs := bs) ho hx.1 hdat ?_ hr, fun z => ?_⟩
      · rw [he, ← hkeys]
        exact p1
      · rcases List.mem_cons.mp z with e | e
        · rw [← e] at hsm
          cases hsm
        · exact hm e
theorem Dd.readsAll (I : Inv X pins σ H s) (S : Sm X.K) : ∀ (ds : List PyData) (vs : List V) (us : List Value), DdAll X.K H vs ds → Vals vs us → ∃ as, ReadsAll s.heap us ds as ∧ sysModules ∉ as
  | [], _, _, h, r => by
    cases h
    cases r
    exact ⟨_, ReadsAll.nil, List.not_mem_nil⟩
  | d :: ds, _, _, h, r => by
    cases h with
    | cons h1 h2 =>
      cases r with
      | cons r1 r2 =>
        obtain ⟨as, q1, n1⟩ := Dd.reads I S d _ _ h1 r1
        obtain ⟨bs, q2, n2⟩ := Dd.readsAll I S ds _ _ h2 r2
        exact ⟨_, ReadsAll.cons q1 q2, fun z => (List.mem_append.mp z).elim n1 n2⟩
theorem Dd.readsPairs (I : Inv X pins σ H s) (S : Sm X.K) : ∀ (es : List (PyData × PyData)) (vs : List V) (us : List Value), DdAll X.K H vs (es.map (·.2)) → Vals vs us → ∃ as, ReadsAll s.heap us (es.map (·.2)) as ∧ sysModules ∉ as
  | [], _, _, h, r => by
    cases h
    cases r
    exact ⟨_, ReadsAll.nil, List.not_mem_nil⟩
  | (k, d) :: ds, _, _, h, r => by
    cases h with
    | cons h1 h2 =>
      cases r with
      | cons r1 r2 =>
        obtain ⟨as, q1, n1⟩ := Dd.reads I S d _ _ h1 r1
        obtain ⟨bs, q2, n2⟩ := Dd.readsPairs I S ds _ _ h2 r2
        exact ⟨_, ReadsAll.cons q1 q2, fun z => (List.mem_append.mp z).elim n1 n2⟩
end
end
/-- repr(x) of data -/
def rReprD (K : PySem.W.Frag) : List V → Hp → VK → Prop := fun xs H Q => ∃ (a : Addr) (d : PyData), xs = [.ref a] ∧ Dd K H (.ref a) d ∧ d.showable = true ∧ d.depth ≤ 60 ∧ d.shown.length ≤ sizeLine ∧ Q (.str d.shown) H
theorem call_reprD {X : Cx} {k : Nat} (S : Sm X.K) (hr : Room k X.A) (hG : X.A.guards = some []) : CallR X (.builtin "repr") (rReprD X.K) := by
  intro pins s σ H xs us Q I r h
  obtain ⟨a, d, rfl, hd, hs, hdep, hz, q⟩ := h
  obtain ⟨u, rfl, r1⟩ := vals1 r
  cases (show u = Value.ref a from r1)
  obtain ⟨as, hrd, hm⟩ := Dd.reads I S d _ _ hd rfl
  have hu := hr.units
  exact repr_of_reads' hrd hs (fun _ => hm) hG (by omega) (fun _ _ e => e) (fun h' u tk hk => ⟨.str d.shown, H, I.kept hk, ⟨u, rfl⟩, q⟩) hz
section
variable {K : PySem.W.Frag} {H H' : Hp}
theorem SqL.up (k : Same H H') {a : Addr} {xs : List V} (h : SqL K H a xs) : SqL K H' a xs := by
  rcases h with (h | ⟨o, h⟩) | h
  · exact .inl (.inl (k _ _ h))
  · exact .inl (.inr ⟨o, k _ _ h⟩)
  · exact .inr h
theorem SqT.up (k : Same H H') {a : Addr} {xs : List V} (h : SqT K H a xs) : SqT K H' a xs := by
  rcases h with (h | ⟨o, h⟩) | h
  · exact .inl (.inl (k _ _ h))
  · exact .inl (.inr ⟨o, k _ _ h⟩)
  · exact .inr h
mutual
theorem Dd.up (k : Same H H') : ∀ (d : PyData) (v : V), Dd K H v d → Dd K H' v d
  | .none, _, h => by cases h; exact .non
  | .bool _, _, h => by cases h; exact .bl _
  | .int _, _, h => by cases h; exact .int _
  | .str _, _, h => by cases h; exact .str _
  | .list ds, _, h => by
    cases h with
    | lst hs ha => exact .lst (SqL.up k hs) (Dd.upAll k ds _ ha)
  | .tuple ds, _, h => by
    cases h with
    | tup hs ha => exact .tup (SqT.up k hs) (Dd.upAll k ds _ ha)
  | .dict es, _, h => by
    cases h with
    | dct ha he hv => exact .dct (k _ _ ha) he (Dd.upPairs k es _ hv)
theorem Dd.upAll (k : Same H H') : ∀ (ds : List PyData) (vs : List V), DdAll K H vs ds → DdAll K H' vs ds
  | [], _, h => by cases h; exact .nil
  | d :: ds, _, h => by
    cases h with
    | cons h1 h2 => exact .cons (Dd.up k d _ h1) (Dd.upAll k ds _ h2)
theorem Dd.upPairs (k : Same H H') : ∀ (es : List (PyData × PyData)) (vs : List V), DdAll K H vs (es.map (·.2)) → DdAll K H' vs (es.map (·.2))
  | [], _, h => by cases h; exact .nil
  | (_, d) :: ds, _, h => by
    cases h with
    | cons h1 h2 => exact .cons (Dd.up k d _ h1) (Dd.upPairs k ds _ h2)
end
theorem Dd.mono {v : V} {d : PyData} (k : Same H H') (h : Dd K H v d) : Dd K H' v d := Dd.up k d v h
theorem DdAll.mono {vs : List V} {ds : List PyData} (k : Same H H') (h : DdAll K H vs ds) : DdAll K H' vs ds := Dd.upAll k ds vs h
theorem DdAll.len : ∀ {vs : List V} {ds : List PyData}, DdAll K H vs ds → vs.length = ds.length
  | _, _, .nil => rfl
  | _, _, .cons _ h => congrArg Nat.succ (DdAll.len h)
theorem DdAll.get : ∀ {vs : List V} {ds : List PyData} {i : Nat} {v : V}, DdAll K H vs ds → vs[i]? = some v → ∃ d, ds[i]? = some d ∧ Dd K H v d
  | _, _, 0, _, .cons h _, e => by
    cases e
    exact ⟨_, rfl, h⟩
  | _, _, i + 1, _, .cons _ h, e => DdAll.get (i := i) h e
  | _, _, _, _, .nil, e => by cases e
theorem DdAll.set : ∀ {vs : List V} {ds : List PyData} {i : Nat} {v : V} {d : PyData}, DdAll K H vs ds → Dd K H v d → DdAll K H (vs.set i v) (ds.set i d)
  | _, _, 0, _, _, .cons _ h, e => .cons e h
  | _, _, i + 1, _, _, .cons h1 h, e => .cons h1 (DdAll.set (i := i) h e)
  | _, _, _, _, _, .nil, _ => .nil
theorem DdAll.app : ∀ {vs ws : List V} {ds es : List PyData}, DdAll K H vs ds → DdAll K H ws es → DdAll K H (vs ++ ws) (ds ++ es)
  | _, _, _, _, .nil, h => h
  | _, _, _, _, .cons h1 h2, h => .cons h1 (DdAll.app h2 h)
theorem ddAll_flat : ∀ {vs : List V}, vs.all isFlat = true → DdAll K H vs (vs.map dV)
  | [], _ => .nil
  | v :: vs, h => by
    rw [List.all_cons, Bool.and_eq_true] at h
    refine .cons ?_ (ddAll_flat h.2)
    match v, h.1 with
    | .non, _ => exact .non
    | .bl b, _ => exact .bl b
    | .int i, _ => exact .int i
    | .str x, _ => exact .str x
end
end Tp
set_option Elab.async false
set_option linter.all false
set_option maxRecDepth 100000
set_option maxHeartbeats 4000000
/-! kinds of any value, and what the four questions of the document answer -/
namespace Tp
open PySem PySem.Spec PyProof.Rows L2
def tys6 : List String := ["int", "bool", "str", "list", "tuple", "dict"]
/-- the answer of isinstance, by the kind's name -/
def ansB (k t : String) : Bool := k == t || (k == "bool" && t == "int")
/-- all that isinstance answers of a value, by its kind -/
def Knd (K : PySem.W.Frag) (H : Hp) (x : V) (k : String) : Prop := (∃ t, TyX K H x t ∧ ∀ u ∈ tys6, PySem.W.kitOne K t (.type u) = some (ansB k u)) ∨
  ∃ (a D : Addr) (fs : List (Str × V)), x = .ref a ∧ ExAt H a D fs ∧ ExK K D ∧ ∀ u ∈ tys6, PySem.W.kitOne K (.ref D) (.type u) = some (ansB k u)
theorem Knd.mono {K : PySem.W.Frag} {H H' : Hp} {x : V} {k : String} (s : Same H H') (h : Knd K H x k) : Knd K H' x k := by
  rcases h with ⟨t, ty, e⟩ | ⟨a, D, fs, e1, hA, T, e⟩
  · exact .inl ⟨t, TyX.up s ty, e⟩
  · exact .inr ⟨a, D, fs, e1, hA.mono s, T, e⟩
theorem Knd.is {K : PySem.W.Frag} {H : Hp} {x : V} {k : String} (h : Knd K H x k) (u : String) (hu : u ∈ tys6) : IsR K H x (.type u) (ansB k u) := by
  rcases h with ⟨t, ty, e⟩ | ⟨a, D, fs, e1, hA, T, e⟩
  · exact .inl ⟨t, ty, e u hu⟩
  · exact .inr ⟨a, D, fs, e1, hA, T, e u hu⟩
theorem any2 {K : PySem.W.Frag} {t a b : Value} {p q : Bool} (h1 : PySem.W.kitOne K t a = some p) (h2 : PySem.W.kitOne K t b = some q) : PySem.W.kitAny K t [a, b] = some (p || q) :=
  kitAny_cons h1 (fun z => by
    rw [z, Bool.false_or]
    exact kitAny_cons h2 (fun z => by rw [z]; rfl) fun z => z) fun z => by rw [z, Bool.true_or]
theorem Knd.lt {K : PySem.W.Frag} {H : Hp} {x : V} {k : String} (h : Knd K H x k) : IsA K H x [.type "list", .type "tuple"] (ansB k "list" || ansB k "tuple") := by
  rcases h with ⟨t, ty, e⟩ | ⟨a, D, fs, e1, hA, T, e⟩
  · exact .inl ⟨t, ty, any2 (e _ (by decide)) (e _ (by decide))⟩
  · exact .inr ⟨a, D, fs, e1, hA, T, any2 (e _ (by decide)) (e _ (by decide))⟩
theorem knd_ty {K : PySem.W.Frag} {H : Hp} {x : V} (t : String) (h : TyX K H x (.type t)) (e : tys6.all (fun u => decide (kitB t u = some (ansB t u))) = true) : Knd K H x t :=
  .inl ⟨_, h, fun u hu => kit_ty (of_decide_eq_true (List.all_eq_true.mp e u hu))⟩
/-- a value with its kind; what an int and a text are -/
structure Vk (K : PySem.W.Frag) (H : Hp) (x : V) (k : String) : Prop where
  kd : Knd K H x k
  i : k = "int" → ∃ i, x = .int i
  s : k = "str" → ∃ z : Str, x = .str z ∧ z.length ≤ 5000
theorem Vk.mono {K : PySem.W.Frag} {H H' : Hp} {x : V} {k : String} (s : Same H H') (h : Vk K H x k) : Vk K H' x k := ⟨h.kd.mono s, h.i, h.s⟩
theorem vk_of {K : PySem.W.Frag} {H : Hp} {x : V} (k : String) (h : Knd K H x k) (h1 : k ≠ "int" := by decide) (h2 : k ≠ "str" := by decide) : Vk K H x k := ⟨h, fun e => absurd e h1, fun e => absurd e h2⟩
section
variable {K : PySem.W.Frag} {H : Hp}
theorem vk_non : Vk K H .non "NoneType" := vk_of _ (knd_ty _ (.base .non) (by decide +kernel))
theorem vk_bl (b : Bool) : Vk K H (.bl b) "bool" := vk_of _ (knd_ty _ (.base (.bl b)) (by decide +kernel))
theorem vk_int (i : Int) : Vk K H (.int i) "int" := ⟨knd_ty _ (.base (.int i)) (by decide +kernel), fun _ => ⟨i, rfl⟩, fun e => absurd e (by decide)⟩
theorem vk_str (z : Str) (h : z.length ≤ 5000) : Vk K H (.str z) "str" := ⟨knd_ty _ (.base (.str z)) (by decide +kernel), fun e => absurd e (by decide), fun _ => ⟨z, rfl, h⟩⟩
theorem tyx_list {a : Addr} {xs : List V} (h : SqL K H a xs) : TyX K H (.ref a) (.type "list") := by
  rcases h with (h | ⟨o, h⟩) | ⟨o, _, _, h, c, _⟩
  · exact .base (.lst h)
  · exact .base (.frz h)
  · exact .kList h c
theorem tyx_tuple {a : Addr} {xs : List V} (h : SqT K H a xs) : TyX K H (.ref a) (.type "tuple") := by
  rcases h with (h | ⟨o, h⟩) | ⟨o, _, _, h, c, _⟩
  · exact .base (.tup h)
  · exact .fTuple h
  · exact .kTuple h c
theorem vk_list {a : Addr} {xs : List V} (h : SqL K H a xs) : Vk K H (.ref a) "list" := vk_of _ (knd_ty _ (tyx_list h) (by decide +kernel))
theorem vk_tuple {a : Addr} {xs : List V} (h : SqT K H a xs) : Vk K H (.ref a) "tuple" := vk_of _ (knd_ty _ (tyx_tuple h) (by decide +kernel))
theorem vk_dict {a : Addr} {kvs : List (Key × V)} (h : H a = some (.dK kvs)) : Vk K H (.ref a) "dict" := vk_of _ (knd_ty _ (.base (.dK h)) (by decide +kernel))
/-- what isinstance asks of an instance of an own class -/
structure InsK (K : PySem.W.Frag) (C : Addr) : Prop where
  cl : Cls K C
  ha : PySem.W.findIn K (.ref C) "__class__" = some (some (.builtin "object.__class__"))
  hn : PySem.W.specialIn K (.builtin "object.__class__") "__get__" = some (some (.builtin "getset_descriptor.__get__"))
  ht : PySem.W.takesIn K (.builtin "object.__class__") = some true
  hm : PySem.W.mroIn K C (.type "object") = some true
  no : ∀ u ∈ tys6, PySem.W.kitOne K (.ref C) (.type u) = some false
theorem vk_ins {C a dx : Addr} {fs : List (Str × V)} (I : InsK K C) (h : H a = some (.ins C dx fs)) : Vk K H (.ref a) "object" :=
  vk_of _ (.inl ⟨_, .base (.ins h I.cl I.ha I.hn I.ht I.hm), fun u hu => by
    rw [I.no u hu]
    have : ∀ u ∈ tys6, ansB "object" u = false := by decide
    rw [this u hu]⟩)
theorem vk_exc {C a : Addr} {fs : List (Str × V)} (T : ExK K C) (no : ∀ u ∈ tys6, PySem.W.kitOne K (.ref C) (.type u) = some false) (h : ExAt H a C fs) : Vk K H (.ref a) "object" :=
  vk_of _ (.inr ⟨a, C, fs, rfl, h, T, fun u hu => by
    rw [no u hu]
    have : ∀ u ∈ tys6, ansB "object" u = false := by decide
    rw [this u hu]⟩)
end
/-! ### the answers -/
def lowB (c : Nat) : Bool := decide (97 ≤ c ∧ c ≤ 122)
def digB (c : Nat) : Bool := decide (48 ≤ c ∧ c ≤ 57)
/-- is it a name? -/
def nameB (l : List Nat) : Bool := decide (1 ≤ l.length ∧ l.length ≤ 8) && (l.head?.any lowB && l.all fun c => lowB c || digB c)
def nameV : V → Bool
  | .str z => nameB (TL.tl z)
  | _ => false
def intB (lo hi : Int) : V → Bool
  | .int i => decide (lo ≤ i ∧ i ≤ hi)
  | _ => false
/-- is_whole -/
def spWhole (K : PySem.W.Frag) : Sp := fun vs H Q _ => ∃ (x : V) (k : String), vs = [x] ∧ Vk K H x k ∧ Q (.bl (k == "int")) H
/-- is_integer -/
def spInteger (K : PySem.W.Frag) : Sp := fun vs H Q _ => ∃ (x : V) (lo hi : Int) (k : String), vs = [x, .int lo, .int hi] ∧ Vk K H x k ∧ (k ≠ "int" → Q (.bl false) H) ∧ ∀ i, x = .int i → Q (.bl (decide (lo ≤ i ∧ i ≤ hi))) H
/-- is_name -/
def spName (K : PySem.W.Frag) : Sp := fun vs H Q _ => ∃ (x : V) (k : String), vs = [x] ∧ Vk K H x k ∧ (k ≠ "str" → Q (.bl false) H) ∧ ∀ z, x = .str z → ∀ H', Same H H' → Q (.bl (nameB (TL.tl z))) H'
/-- is_list -/
def spList (K : PySem.W.Frag) : Sp := fun vs H Q _ => ∃ (x : V) (k : String), vs = [x] ∧ Vk K H x k ∧ ∀ H', Same H H' → Q (.bl (k == "list" || k == "tuple")) H'
theorem low_mem (c : Nat) : decide (c ∈ (("abcdefghijklmnopqrstuvwxyz" : Str)).cps.toList) = lowB c := by
  have e : (("abcdefghijklmnopqrstuvwxyz" : Str)).cps.toList = (List.range 26).map (· + 97) := by decide +kernel
  rw [e]
  unfold lowB
  refine decide_eq_decide.mpr ⟨fun h => ?_, fun h => ?_⟩
  · obtain ⟨i, hi, rfl⟩ := List.mem_map.mp h
    have := List.mem_range.mp hi
    omega
  · exact List.mem_map.mpr ⟨c - 97, List.mem_range.mpr (by omega), by omega⟩
theorem dig_mem' (c : Nat) : decide (c ∈ (("0123456789" : Str)).cps.toList) = digB c := by
  have e : (("0123456789" : Str)).cps.toList = (List.range 10).map (· + 48) := by decide +kernel
  rw [e]
  unfold digB
  refine decide_eq_decide.mpr ⟨fun h => ?_, fun h => ?_⟩
  · obtain ⟨i, hi, rfl⟩ := List.mem_map.mp h
    have := List.mem_range.mp hi
    omega
  · exact List.mem_map.mpr ⟨c - 48, List.mem_range.mpr (by omega), by omega⟩
/-! data: the kind, and the shape of a term row -/
def kindD : PyData → String
  | .none => "NoneType"
  | .bool _ => "bool"
  | .int _ => "int"
  | .str _ => "str"
  | .list _ => "list"
  | .tuple _ => "tuple"
  | .dict _ => "dict"
mutual
def shortD : PyData → Bool
  | .str z => decide (z.length ≤ 5000)
  | .list ds => shortAll ds
  | .tuple ds => shortAll ds
  | .none => true
  | .bool _ => true
  | .int _ => true
  | .dict _ => true
def shortAll : List PyData → Bool
  | [] => true
  | d :: ds => shortD d && shortAll ds
end
theorem shortAll_get : ∀ {ds : List PyData} {i : Nat} {d : PyData}, shortAll ds = true → ds[i]? = some d → shortD d = true
  | d :: ds, 0, _, h, e => by
    cases e
    simp only [shortAll, Bool.and_eq_true] at h
    exact h.1
  | d :: ds, i + 1, _, h, e => by
    simp only [shortAll, Bool.and_eq_true] at h
    exact shortAll_get (i := i) h.2 e
theorem vk_dd {K : PySem.W.Frag} {H : Hp} : ∀ {v : V} {d : PyData}, Dd K H v d → shortD d = true → Vk K H v (kindD d)
  | _, _, .non, _ => vk_non
  | _, _, .bl b, _ => vk_bl b
  | _, _, .int i, _ => vk_int i
  | _, _, .str z, h => vk_str z (of_decide_eq_true (by simpa only [shortD] using h))
  | _, _, .lst h _, _ => vk_list h
  | _, _, .tup h _, _ => vk_tuple h
  | _, _, .dct h _ _, _ => vk_dict h
/-- the items of a list or a tuple -/
def seqD : PyData → Option (List PyData)
  | .list ds => some ds
  | .tuple ds => some ds
  | _ => none
def nameD : PyData → Bool
  | .str z => nameB (TL.tl z)
  | _ => false
def idxD (i : Nat) : PyData → Bool
  | .int n => decide (0 ≤ n ∧ n ≤ (i : Int) - 1)
  | _ => false
def numsB (i : Nat) (d : PyData) : Bool := match seqD d with
  | some ns => decide (ns.length ≤ 3) && ns.all (idxD i)
  | none => false
/-- may it stand at index i as a term row? -/
def rowB (i : Nat) (d : PyData) : Bool := match seqD d with
  | some [a, b] => nameD a && numsB i b
  | _ => false
def rowsB : Nat → List PyData → Bool
  | _, [] => true
  | i, d :: ds => rowB i d && rowsB (i + 1) ds
def termsB (d : PyData) : Bool := match seqD d with
  | some ds => rowsB 0 ds
  | none => false
/-- _is_term_row -/
def spTermRow (K : PySem.W.Frag) : Sp := fun vs H Q _ => ∃ (x : V) (i : Nat) (d : PyData), vs = [x, .int (i : Nat)] ∧ Dd K H x d ∧ shortD d = true ∧ i ≤ 5000 ∧ ∀ H', Same H H' → Q (.bl (rowB i d)) H'
/-- is_terms of data, or of what is no list -/
def spTerms (K : PySem.W.Frag) : Sp := fun vs H Q _ => ∃ x : V, vs = [x] ∧ ((∃ d, Dd K H x d ∧ shortD d = true ∧ (∀ ds, seqD d = some ds → ds.length ≤ 5000) ∧ ∀ H', Same H H' → Q (.bl (termsB d)) H') ∨ (∃ k, Vk K H x k ∧ (k == "list" || k == "tuple") = false ∧ ∀ H', Same H H' → Q (.bl false) H'))
end Tp
namespace Tp
open PySem PySem.Spec PyProof.Rows L2
theorem ans_int {k : String} (h : ansB k "int" = true) : (!ansB k "bool") = (k == "int") := by
  unfold ansB at h ⊢
  by_cases e : k = "int"
  · subst e
    decide
  · have e2 : k = "bool" := by simpa [e] using h
    subst e2
    decide
theorem ans_int0 {k : String} (h : ansB k "int" = false) : (k == "int") = false := by
  unfold ansB at h
  simp only [Bool.or_eq_false_iff] at h
  exact h.1
theorem ans_lt (k : String) : (ansB k "list" || ansB k "tuple") = (k == "list" || k == "tuple") := by
  unfold ansB
  have h1 : ("list" == "int") = false := by decide
  have h2 : ("tuple" == "int") = false := by decide
  rw [h1, h2, Bool.and_false, Bool.or_false, Bool.or_false]
theorem ans_str (k : String) : ansB k "str" = (k == "str") := by
  unfold ansB
  have h1 : ("str" == "int") = false := by decide
  rw [h1, Bool.and_false, Bool.or_false]
theorem if_true_of {c : Bool} {A B : Prop} (hc : c = true) (h : A) : if c = true then A else B := by
  rw [hc]
  exact iteT h
theorem if_false_of {c : Bool} {A B : Prop} (hc : c = false) (h : B) : if c = true then A else B := by
  rw [hc]
  exact iteF h
theorem gl_c {X : Cx} {x : Str} {v : V} {pos : Pos} (hg : Gl X x) (h : ∃ u, X.mg x = some u ∧ RelV v u) (hd : (x == ("__debug__" : Str)) = false := by decide) : PE X (.Name x pos) (tC v) := by
  obtain ⟨u, h1, h2⟩ := h
  exact pe_glob hg h1 h2 hd
end Tp
namespace Tp
open PySem PySem.Spec PyProof.Rows L2
theorem dd_seq {K : PySem.W.Frag} {H : Hp} {x : V} {d : PyData} {ds : List PyData} (h : Dd K H x d) (e : seqD d = some ds) : ∃ a xs, x = .ref a ∧ SqA K H a xs ∧ DdAll K H xs ds := by
  cases h with
  | lst hs ha =>
    cases e
    exact ⟨_, _, rfl, .inl hs, ha⟩
  | tup hs ha =>
    cases e
    exact ⟨_, _, rfl, .inr hs, ha⟩
  | _ => cases e
theorem kind_seq (d : PyData) : (kindD d == "list" || kindD d == "tuple") = (seqD d).isSome := by
  cases d <;> first | rfl | simp [kindD, seqD]
theorem short_seq {d : PyData} {ds : List PyData} (h : shortD d = true) (e : seqD d = some ds) : shortAll ds = true := by
  cases d with
  | list xs =>
    cases e
    simpa only [shortD] using h
  | tuple xs =>
    cases e
    simpa only [shortD] using h
  | _ => cases e
theorem kind_str {K : PySem.W.Frag} {H : Hp} {x : V} {d : PyData} (h : Dd K H x d) : kindD d ≠ "str" → nameD d = false := by
  cases h <;> first | (intro _; rfl) | (intro e; exact absurd rfl e)
theorem kind_int {K : PySem.W.Frag} {H : Hp} {x : V} {d : PyData} (h : Dd K H x d) (i : Nat) : kindD d ≠ "int" → idxD i d = false := by
  cases h <;> first | (intro _; rfl) | (intro e; exact absurd rfl e)
/-- is_name of data -/
theorem name_dd {K : PySem.W.Frag} {H : Hp} {x : V} {d : PyData} {Q : VK} {E : XK} (h : Dd K H x d) (hs : shortD d = true) (q : ∀ H', Same H H' → Q (.bl (nameD d)) H') : spName K [x] H Q E :=
  ⟨x, kindD d, rfl, vk_dd h hs, fun e => by
    have := q H (Same.refl _)
    rwa [kind_str h e] at this, fun z e H' s => by
    subst e
    cases h
    exact q H' s⟩
/-- is_integer of data -/
theorem int_dd {K : PySem.W.Frag} {H : Hp} {x : V} {d : PyData} {i : Nat} {Q : VK} {E : XK} (h : Dd K H x d) (hs : shortD d = true) (q : Q (.bl (idxD i d)) H) : spInteger K [x, .int 0, .int ((i : Nat) - 1)] H Q E :=
  ⟨x, 0, (i : Nat) - 1, kindD d, rfl, vk_dd h hs, fun e => by
    rwa [kind_int h i e] at q, fun n e => by
    subst e
    cases h
    exact q⟩
theorem DdAll.at {K : PySem.W.Frag} {H : Hp} : ∀ {vs : List V} {ds : List PyData} {i : Nat} {d : PyData}, DdAll K H vs ds → ds[i]? = some d → ∃ v, vs[i]? = some v ∧ Dd K H v d
  | _, _, 0, _, .cons h _, e => by
    cases e
    exact ⟨_, rfl, h⟩
  | _, _, i + 1, _, .cons _ h, e => DdAll.at (i := i) h e
  | _, _, _, _, .nil, e => by cases e
def rowsAt (k : Nat) : List PyData → List Bool
  | [] => []
  | d :: ds => rowB k d :: rowsAt (k + 1) ds
theorem rowsAt_len (k : Nat) : ∀ ds : List PyData, (rowsAt k ds).length = ds.length
  | [] => rfl
  | _ :: ds => congrArg Nat.succ (rowsAt_len (k + 1) ds)
theorem rowsAt_all (k : Nat) : ∀ ds : List PyData, (rowsAt k ds).all id = rowsB k ds
  | [] => rfl
  | d :: ds => by
    rw [rowsAt, List.all_cons, rowsAt_all (k + 1) ds]
    rfl
theorem rowsAt_take : ∀ (k : Nat) (ds : List PyData) (i : Nat) (d : PyData), ds[i]? = some d → (rowsAt k ds).take (i + 1) = (rowsAt k ds).take i ++ [rowB (k + i) d]
  | k, [], i, d, e => by cases e
  | k, x :: ds, 0, d, e => by
    cases e
    rfl
  | k, x :: ds, i + 1, d, e => by
    have ih := rowsAt_take (k + 1) ds i d e
    rw [rowsAt, List.take_succ_cons, ih, List.take_succ_cons]
    rw [show k + 1 + i = k + (i + 1) by omega]
    rfl
end Tp
namespace Tp
open PySem PySem.Spec PyProof.Rows L2
theorem Same.tr {A B D : Hp} (a : Same A B) (b : Same B D) : Same A D := fun x o e => b x o (a x o e)
theorem ne_dec1 {n : Nat} {z : Int} (h : ¬ ((n : Nat) : Int) = z) : (!decide (V.int ((n : Nat) : Int) = V.int z)) = true := by
  rw [decide_eq_false fun e => h (V.int.inj e)]
  rfl
theorem ne_dec2 {n : Nat} {z : Int} (h : ((n : Nat) : Int) = z) : (!decide (V.int ((n : Nat) : Int) = V.int z)) = false := by
  rw [decide_eq_true (congrArg V.int h)]
  rfl
end Tp
namespace Tp
open PySem PySem.Spec PyProof.Rows L2
/-- an empty or any list or tuple is a list -/
theorem vk_seqA {K : PySem.W.Frag} {H : Hp} {a : Addr} {xs : List V} (h : SqA K H a xs) : ∃ k, Vk K H (.ref a) k ∧ (k == "list" || k == "tuple") = true :=
  h.elim (fun h => ⟨_, vk_list h, by decide⟩) fun h => ⟨_, vk_tuple h, by decide⟩
end Tp
set_option Elab.async false
set_option linter.all false
set_option maxRecDepth 100000
set_option maxHeartbeats 4000000
/-! more on data whose repr fits; equality with an empty list -/
namespace Tp
open PySem PySem.Spec PyProof.Rows L2
theorem nice_small {i : Int} {k : Nat} (h : i.natAbs < 2 ^ k) (hk : k ≤ 999) : Nice k 0 (.int i) := by
  have hl : i.natAbs.log2 < 1000 ∧ (¬ i = 0 → i.natAbs.log2 < k) := by
    by_cases z : i.natAbs = 0
    · have : i = 0 := by omega
      subst this
      exact ⟨by decide, fun e => absurd rfl e⟩
    · have := (Nat.log2_lt z).mpr h
      exact ⟨by omega, fun _ => this⟩
  have n := nice_int hl.1
  refine ⟨n.sh, n.ls, ?_, n.dp⟩
  simp only [PyData.weight]
  split
  · omega
  · rename_i hz
    have := hl.2 (by simpa using hz)
    omega
theorem NiceAll.app {n m k j : Nat} : ∀ {ds es : List PyData}, NiceAll n k ds → NiceAll m j es → NiceAll (n + m) (max k j) (ds ++ es)
  | [], es, _, h => h.mono (by omega) (by omega)
  | d :: ds, es, h1, h2 => by
    obtain ⟨a, b, c, e⟩ := h1
    obtain ⟨a', b', c', e'⟩ := h2
    simp only [PyData.showableAll, Bool.and_eq_true] at a
    simp only [PyData.leavesShortAll, Bool.and_eq_true] at b
    simp only [PyData.weightAll] at c
    simp only [PyData.depthAll] at e
    have ih := NiceAll.app (n := PyData.weightAll ds) (k := PyData.depthAll ds) (ds := ds) ⟨a.2, b.2, Nat.le_refl _, Nat.le_refl _⟩ ⟨a', b', c', e'⟩
    refine ⟨?_, ?_, ?_, ?_⟩
    · simp only [List.cons_append, PyData.showableAll, a.1, ih.sh, Bool.and_self]
    · simp only [List.cons_append, PyData.leavesShortAll, b.1, ih.ls, Bool.and_self]
    · have := ih.wt
      simp only [List.cons_append, PyData.weightAll]
      omega
    · have := ih.dp
      simp only [List.cons_append, PyData.depthAll]
      omega
theorem niceAll_of {n k : Nat} : ∀ {ds : List PyData}, (∀ d ∈ ds, Nice n k d) → NiceAll (ds.length * (n + 1)) k ds
  | [], _ => niceAll_nil.mono (by omega) (by omega)
  | d :: ds, h => (NiceAll.cons (h d List.mem_cons_self) (niceAll_of (ds := ds) fun x hx => h x (List.mem_cons_of_mem _ hx))).mono (by rw [List.length_cons, Nat.succ_mul]; omega) (by omega)
theorem niceAll_bools : ∀ (bs : List Bool), NiceAll bs.length 0 (bs.map PyData.bool)
  | [] => niceAll_nil
  | b :: bs => (NiceAll.cons (nice_bool b) (niceAll_bools bs)).mono (by rw [List.length_cons]; omega) (by omega)
theorem ddAll_bools {K : PySem.W.Frag} {H : Hp} : ∀ (bs : List Bool), DdAll K H (bs.map V.bl) (bs.map PyData.bool)
  | [] => .nil
  | b :: bs => .cons (.bl b) (ddAll_bools bs)
theorem ddAll_strs {K : PySem.W.Frag} {H : Hp} : ∀ (bs : List Str), DdAll K H (bs.map V.str) (bs.map PyData.str)
  | [] => .nil
  | b :: bs => .cons (.str b) (ddAll_strs bs)
/-- repr(x), x data -/
theorem rReprD_of {K : PySem.W.Frag} {H : Hp} {a : Addr} {d : PyData} {n k : Nat} {Q : VK} (h : Dd K H (.ref a) d) (hn : Nice n k d) (h1 : n ≤ 8000) (h2 : k ≤ 60) (q : Q (.str d.shown) H) : rReprD K [.ref a] H Q :=
  ⟨a, d, rfl, h, hn.sh, Nat.le_trans hn.dp h2, hn.fits h1, q⟩
theorem NiceAll.mem {n k : Nat} : ∀ {ds : List PyData}, NiceAll n k ds → ∀ d ∈ ds, Nice n k d
  | d :: ds, h, x, hx => by
    obtain ⟨a, b, c, e⟩ := h
    simp only [PyData.showableAll, Bool.and_eq_true] at a
    simp only [PyData.leavesShortAll, Bool.and_eq_true] at b
    simp only [PyData.weightAll] at c
    simp only [PyData.depthAll] at e
    rcases List.mem_cons.mp hx with z | z
    · subst z
      exact ⟨a.1, b.1, by omega, by omega⟩
    · exact NiceAll.mem (ds := ds) (n := n) (k := k) ⟨a.2, b.2, by omega, by omega⟩ x z
theorem NiceAll.set {n k m j : Nat} {d : PyData} (hd : Nice m j d) : ∀ {ds : List PyData} {i : Nat}, NiceAll n k ds → NiceAll (n + m) (max k j) (ds.set i d)
  | [], i, h => h.mono (by omega) (by omega)
  | x :: ds, 0, h => by
    obtain ⟨a, b, c, e⟩ := h
    simp only [PyData.showableAll, Bool.and_eq_true] at a
    simp only [PyData.leavesShortAll, Bool.and_eq_true] at b
    simp only [PyData.weightAll] at c
    simp only [PyData.depthAll] at e
    exact (NiceAll.cons hd (m := PyData.weightAll ds) (j := PyData.depthAll ds) ⟨a.2, b.2, Nat.le_refl _, Nat.le_refl _⟩).mono (by omega) (by omega)
  | x :: ds, i + 1, h => by
    obtain ⟨a, b, c, e⟩ := h
    simp only [PyData.showableAll, Bool.and_eq_true] at a
    simp only [PyData.leavesShortAll, Bool.and_eq_true] at b
    simp only [PyData.weightAll] at c
    simp only [PyData.depthAll] at e
    have ih := NiceAll.set hd (ds := ds) (i := i) (n := PyData.weightAll ds) (k := PyData.depthAll ds) ⟨a.2, b.2, Nat.le_refl _, Nat.le_refl _⟩
    exact (NiceAll.cons (d := x) ⟨a.1, b.1, Nat.le_refl _, Nat.le_refl _⟩ ih).mono (by omega) (by omega)
/-! a short text lies in a light datum -/
mutual
theorem short_of_weight : ∀ (d : PyData), d.weight ≤ 5000 → shortD d = true
  | .none, _ => rfl
  | .bool _, _ => rfl
  | .int _, _ => rfl
  | .dict _, _ => rfl
  | .str z, h => by
    simp only [shortD]
    refine decide_eq_true ?_
    simp only [PyData.weight] at h
    exact h
  | .list ds, h => by
    simp only [PyData.weight] at h
    simp only [shortD]
    exact short_of_weightAll ds h
  | .tuple ds, h => by
    simp only [PyData.weight] at h
    simp only [shortD]
    exact short_of_weightAll ds h
theorem short_of_weightAll : ∀ (ds : List PyData), PyData.weightAll ds ≤ 5000 → shortAll ds = true
  | [], _ => rfl
  | d :: ds, h => by
    simp only [PyData.weightAll] at h
    simp only [shortAll, Bool.and_eq_true]
    exact ⟨short_of_weight d (by omega), short_of_weightAll ds (by omega)⟩
end
theorem len_of_weight : ∀ (ds : List PyData), ds.length ≤ PyData.weightAll ds
  | [] => Nat.le_refl _
  | d :: ds => by
    have := len_of_weight ds
    simp only [PyData.weightAll, List.length_cons]
    omega
theorem eqv_nil (ds : List PyData) : PyData.eqv (.list ds) (.list []) = ds.isEmpty := by
  cases ds <;> simp [PyData.eqv, PyData.eqvAll]
theorem canLay_strs : ∀ (ys : List Str), (∀ y ∈ ys, ∀ c ∈ TL.tl y, c < 256) → PyData.canLayAll0 (ys.map PyData.str) = true
  | [], _ => rfl
  | y :: ys, h => by
    simp only [List.map_cons, PyData.canLayAll0, Bool.and_eq_true]
    refine ⟨?_, canLay_strs ys fun z hz => h z (List.mem_cons_of_mem _ hz)⟩
    simp only [PyData.canLay0, PyData.strOk]
    rw [← Array.all_toList]
    exact List.all_eq_true.mpr fun c hc => decide_eq_true (Nat.lt_trans (h y List.mem_cons_self c hc) (by decide))
theorem depth_strs : ∀ (ys : List Str), PyData.depthAll (ys.map PyData.str) = 0
  | [] => rfl
  | y :: ys => by
    simp only [List.map_cons, PyData.depthAll, PyData.depth, depth_strs ys]
    rfl
theorem shaped_strs {ys : List Str} (h : ∀ y ∈ ys, ∀ c ∈ TL.tl y, c < 256) : SeqAt.shaped (.list (ys.map PyData.str)) = true := by
  unfold SeqAt.shaped
  rw [Bool.and_eq_true]
  refine ⟨by simpa only [PyData.canLay0] using canLay_strs ys h, decide_eq_true ?_⟩
  simp only [PyData.depth, depth_strs]
  decide
end Tp
set_option Elab.async false
set_option linter.all false
set_option maxRecDepth 100000
set_option maxHeartbeats 4000000
/-! the heap without some addresses: data that lies apart from a box -/
namespace Tp
open PySem PySem.Spec PyProof.Rows L2
/-- all that is tracked but at p and q -/
def rs (p q : Addr) (G : Hp) : Hp := fun b => if b = p ∨ b = q then none else G b
section
variable {p q a : Addr} {G G' : Hp} {o : HO}
theorem rs_same : Same (rs p q G) G := fun b u e => by
  unfold rs at e
  split at e
  · cases e
  · exact e
theorem rs_at (h1 : a ≠ p) (h2 : a ≠ q) (e : G a = some o) : rs p q G a = some o := by
  unfold rs
  rw [if_neg fun z => z.elim h1 h2]
  exact e
theorem rs_keep (k : Keep2 p q G G') : Same (rs p q G) (rs p q G') := fun b u e => by
  unfold rs at e ⊢
  split at e
  · cases e
  · rename_i h
    rw [if_neg h]
    exact k b u (fun z => h (.inl z)) (fun z => h (.inr z)) e
theorem rs_keep1 (k : Keep p G G') : Same (rs p p G) (rs p p G') := rs_keep (Keep2.of k)
theorem rs_more : Same (rs p q G) (rs p p G) := fun b u e => by
  unfold rs at e ⊢
  split at e
  · cases e
  · rename_i h
    rw [if_neg fun z => h (.inl (z.elim id id))]
    exact e
theorem rs_up (k : Same G G') : Same (rs p q G) (rs p q G') := rs_keep fun b u _ _ e => k b u e
/-- a new object beside a box -/
theorem alloc {n : Nat} (hb : BoxAt G p n) (e : G a = none) : BoxAt (upd G a o) p n ∧ Same (rs p p G) (rs p p (upd G a o)) ∧ rs p p (upd G a o) a = some o ∧ Keep p G (upd G a o) ∧ Same G (upd G a o) :=
  ⟨hb.new e, rs_up (Same.put e), rs_at (hb.ne e).symm (hb.ne e).symm upd_same, Keep.new e, Same.put e⟩
end
/-- one of two targets -/
def gOr (g1 g2 : TG) : TG := fun v σ H Q => g1 v σ H Q ∨ g2 v σ H Q
theorem pg_or {X : Cx} {tg : Expr} {g1 g2 : TG} (h1 : PG X tg g1) (h2 : PG X tg g2) : PG X tg (gOr g1 g2) :=
  ⟨fun pins s σ H v u Q I r hw => hw.elim (h1.run pins s σ H v u Q I r) (h2.run pins s σ H v u Q I r)⟩
theorem pair_of {K : PySem.W.Frag} {H : Hp} {a : Addr} {xs : List V} {n : Nat} {t : TGs} {σ : L2.St} {Q : L2.St → Hp → Prop} (h : SqA K H a xs) (hn : xs.length = n) (q : t xs σ H Q) : gOr (gTup K n t) (gLst K n t) (.ref a) σ H Q :=
  h.elim (fun h => .inr ⟨a, xs, rfl, h, hn, q⟩) fun h => .inl ⟨a, xs, rfl, h, hn, q⟩
mutual
/-- data whose texts have small signs -/
def smD : PyData → Bool
  | .str z => (TL.tl z).all fun c => decide (c < 256)
  | .list ds => smAll ds
  | .tuple ds => smAll ds
  | .none => true
  | .bool _ => true
  | .int _ => true
  | .dict _ => true
def smAll : List PyData → Bool
  | [] => true
  | d :: ds => smD d && smAll ds
end
theorem smAll_get : ∀ {ds : List PyData} {i : Nat} {d : PyData}, smAll ds = true → ds[i]? = some d → smD d = true
  | d :: ds, 0, _, h, e => by
    cases e
    simp only [smAll, Bool.and_eq_true] at h
    exact h.1
  | d :: ds, i + 1, _, h, e => by
    simp only [smAll, Bool.and_eq_true] at h
    exact smAll_get (i := i) h.2 e
theorem smD_seq {d : PyData} {ds : List PyData} (h : smD d = true) (e : seqD d = some ds) : smAll ds = true := by
  cases d with
  | list xs =>
    cases e
    simpa only [smD] using h
  | tuple xs =>
    cases e
    simpa only [smD] using h
  | _ => cases e
theorem smD_str {z : Str} (h : smD (.str z) = true) : ∀ c ∈ TL.tl z, c < 256 := fun c hc => by
  simp only [smD] at h
  exact of_decide_eq_true (List.all_eq_true.mp h c hc)
theorem smD_tz {n : Nat} {z : Str} (h : Tz n z) : smD (.str z) = true := by
  simp only [smD]
  exact List.all_eq_true.mpr fun c hc => decide_eq_true (h.sm c hc)
theorem smAll_of : ∀ {ds : List PyData}, (∀ d ∈ ds, smD d = true) → smAll ds = true
  | [], _ => rfl
  | d :: ds, h => by
    simp only [smAll, Bool.and_eq_true]
    exact ⟨h d List.mem_cons_self, smAll_of fun x hx => h x (List.mem_cons_of_mem _ hx)⟩
theorem smAll_mem : ∀ {ds : List PyData}, smAll ds = true → ∀ d ∈ ds, smD d = true
  | d :: ds, h, x, hx => by
    simp only [smAll, Bool.and_eq_true] at h
    rcases List.mem_cons.mp hx with e | e
    · subst e
      exact h.1
    · exact smAll_mem h.2 x e
mutual
/-- data without dicts are what the layer knows -/
theorem dp_of_dd {K : PySem.W.Frag} {H : Hp} : ∀ (d : PyData) (v : V), Dd K H v d → d.hasDict = false → Dp K H v d
  | .none, _, h, _ => by cases h; exact .non
  | .bool _, _, h, _ => by cases h; exact .bl _
  | .int _, _, h, _ => by cases h; exact .int _
  | .str _, _, h, _ => by cases h; exact .str _
  | .list ds, _, h, e => by
    cases h with
    | lst hs ha => exact .lst hs (dp_of_ddAll ds _ ha (by simpa only [PyData.hasDict] using e))
  | .tuple ds, _, h, e => by
    cases h with
    | tup hs ha => exact .tup hs (dp_of_ddAll ds _ ha (by simpa only [PyData.hasDict] using e))
  | .dict _, _, _, e => by simp [PyData.hasDict] at e
theorem dp_of_ddAll {K : PySem.W.Frag} {H : Hp} : ∀ (ds : List PyData) (vs : List V), DdAll K H vs ds → PyData.hasDictAll ds = false → DpAll K H vs ds
  | [], _, h, _ => by cases h; exact .nil
  | d :: ds, _, h, e => by
    cases h with
    | cons h1 h2 =>
      simp only [PyData.hasDictAll, Bool.or_eq_false_iff] at e
      exact .cons (dp_of_dd d _ h1 e.1) (dp_of_ddAll ds _ h2 e.2)
end
/-- data that may be shown and asked -/
structure Gd (n k : Nat) (d : PyData) : Prop where
  nc : Nice n k d
  sm : smD d = true
theorem Gd.mono {n k m j : Nat} {d : PyData} (h : Gd n k d) (h1 : n ≤ m) (h2 : k ≤ j) : Gd m j d := ⟨h.nc.mono h1 h2, h.sm⟩
end Tp
namespace Tp
open PySem PySem.Spec PyProof.Rows L2
mutual
theorem canLay_of_sm : ∀ d : PyData, smD d = true → d.hasDict = false → d.canLay0 = true
  | .none, _, _ => rfl
  | .bool _, _, _ => rfl
  | .int _, _, _ => rfl
  | .str z, h, _ => by
    simp only [PyData.canLay0, PyData.strOk]
    rw [← Array.all_toList]
    exact List.all_eq_true.mpr fun c hc => decide_eq_true (Nat.lt_trans (smD_str h c hc) (by decide))
  | .list ds, h, e => by
    simp only [smD] at h
    simp only [PyData.hasDict] at e
    simpa only [PyData.canLay0] using canLay_of_smAll ds h e
  | .tuple ds, h, e => by
    simp only [smD] at h
    simp only [PyData.hasDict] at e
    simpa only [PyData.canLay0] using canLay_of_smAll ds h e
  | .dict _, _, e => by simp [PyData.hasDict] at e
theorem canLay_of_smAll : ∀ ds : List PyData, smAll ds = true → PyData.hasDictAll ds = false → PyData.canLayAll0 ds = true
  | [], _, _ => rfl
  | d :: ds, h, e => by
    simp only [smAll, Bool.and_eq_true] at h
    simp only [PyData.hasDictAll, Bool.or_eq_false_iff] at e
    simp only [PyData.canLayAll0, Bool.and_eq_true]
    exact ⟨canLay_of_sm d h.1 e.1, canLay_of_smAll ds h.2 e.2⟩
end
theorem nodict_ints : ∀ ns : List Int, PyData.hasDictAll (ns.map PyData.int) = false
  | [] => rfl
  | n :: ns => by
    simp only [List.map_cons, PyData.hasDictAll, PyData.hasDict, Bool.false_or]
    exact nodict_ints ns
theorem gd_list {n k : Nat} {ds : List PyData} (h : ∀ d ∈ ds, Gd n k d) : Gd (ds.length * (n + 1)) (k + 1) (.list ds) :=
  ⟨(niceAll_of fun d hd => (h d hd).nc).list, by simpa only [smD] using smAll_of fun d hd => (h d hd).sm⟩
theorem gd_tup {n k : Nat} {ds : List PyData} (h : ∀ d ∈ ds, Gd n k d) : Gd (ds.length * (n + 1)) (k + 1) (.tuple ds) :=
  ⟨(niceAll_of fun d hd => (h d hd).nc).tuple, by simpa only [smD] using smAll_of fun d hd => (h d hd).sm⟩
theorem gd_none : Gd 0 0 .none := ⟨nice_none, rfl⟩
theorem gd_bool (b : Bool) : Gd 0 0 (.bool b) := ⟨nice_bool b, rfl⟩
theorem gd_int {i : Int} {k : Nat} (h : i.natAbs < 2 ^ k) (hk : k ≤ 999) : Gd k 0 (.int i) := ⟨nice_small h hk, rfl⟩
theorem gd_str {n : Nat} {z : Str} (h : Tz n z) : Gd n 0 (.str z) := ⟨nice_str h, smD_tz h⟩
end Tp
set_option Elab.async false
set_option linter.all false
set_option maxRecDepth 100000
set_option maxHeartbeats 4000000
/-! calls of defs whose promises know the guards: by keywords, by methods, a new instance; parts that are never reached -/
namespace Tp
open PySem PySem.Spec PyProof.Rows L2
section
variable {X : Cx} {CX : CXT} {k n : Nat} {f C : Addr} {fd : FuncData} {ps ks : List Str} {sp : Sp} {E : XK} {x m : Str} {p pos apos : Pos} {e o : Expr} {es : List Expr} {kws : List Keyword} {te ta : TE} {t tk : TA}
variable {dvs : List V} {ds : List Value} {g : List Value → List Value → List Value} {gV : List V → List V → List V}
theorem run_g {pins : List (Addr × Obj)} {σ : L2.St} {H : Hp} {s : Shared} {Q : VK} {us : List Value} {vs : List V} (F : FnG X.prog X.w X.K X.mg X.base CX k f fd ps sp) (hr : Room k X.A) (hG : X.A.guards = some []) (hb : Binds X.K fd ps ds) (hd : Vals dvs ds) (hx : Passes CX X E)
    (I : Inv X pins σ H s) (r : Vals vs us) (h : sp (vs ++ dvs) H Q E) : wpAny (model X.prog X.w) X.A (call (.ref f) us) (EP X pins σ Q) X.xe s := by
  have r2 : Vals (vs ++ dvs) (us ++ ds) := r.append hd
  have hl : (us ++ ds).length = ps.length := by rw [← r2.length]; exact F.len _ _ _ _ h
  refine wpAny_call (codeAny_mono (F.run X.A X.stack s H ⟨us, []⟩ (us ++ ds) (vs ++ dvs) Q E hr hG I.env0 (hb s us I.kIn hl) r2 h) fun r s' hq => ?_)
  cases r with
  | error e => exact hx pins σ H s e s' I hq
  | ok fl =>
    cases fl with
    | ret u => exact I.after hq
    | next => exact False.elim hq
    | brk => exact False.elim hq
    | cont => exact False.elim hq
theorem run_gN {pins : List (Addr × Obj)} {σ : L2.St} {H : Hp} {s : Shared} {Q : VK} {us ws : List Value} {vs zs : List V} (F : FnG X.prog X.w X.K X.mg X.base CX k f fd ps sp) (hr : Room k X.A) (hG : X.A.guards = some []) (hb : KBn X.K fd ps n ks g gV) (hx : Passes CX X E)
    (I : Inv X pins σ H s) (r : Vals vs us) (rz : Vals zs ws) (l1 : vs.length = n) (l2 : zs.length = ks.length) (h : sp (gV vs zs) H Q E) : wpAny (model X.prog X.w) X.A (call (.ref f) us (ks.zip ws)) (EP X pins σ Q) X.xe s := by
  have r2 := hb.rel r rz
  refine wpAny_call (codeAny_mono (F.run X.A X.stack s H ⟨us, ks.zip ws⟩ (g us ws) (gV vs zs) Q E hr hG I.env0 (hb.to s us ws I.kIn (r.length.symm.trans l1) (rz.length.symm.trans l2)) r2 h) fun r s' hq => ?_)
  cases r with
  | error e => exact hx pins σ H s e s' I hq
  | ok fl =>
    cases fl with
    | ret u => exact I.after hq
    | next => exact False.elim hq
    | brk => exact False.elim hq
    | cont => exact False.elim hq
theorem run_gmake {pins : List (Addr × Obj)} {σ : L2.St} {H : Hp} {s : Shared} {Q : VK} {us : List Value} {vs : List V} (M : Mk X.K C f) (F : FnG X.prog X.w X.K X.mg X.base CX k f fd ps sp) (hr : Room (k + 1) X.A) (hG : X.A.guards = some []) (hb : Binds X.K fd ps ds) (hd : Vals dvs ds)
    (hx : Passes CX X E) (I : Inv X pins σ H s) (r : Vals vs us)
    (h : ∀ x dx, H x = none → H dx = none → dx ≠ x → sp (.ref x :: (vs ++ dvs)) (upd (upd H dx (.own x)) x (.ins C dx [])) (fun v H2 => v = .non ∧ Q (.ref x) H2) E) :
    wpAny (model X.prog X.w) X.A (call (.ref C) us) (EP X pins σ Q) X.xe s := by
  have hq := h (s.heap.objs.size + 1) s.heap.objs.size (I.hok.fresh (Nat.le_succ _)) (I.hok.fresh (Nat.le_refl _)) (Nat.ne_of_lt (Nat.lt_succ_self _))
  have I2 := Inv.made (C := C) I
  have r2 : Vals (V.ref (s.heap.objs.size + 1) :: (vs ++ dvs)) (Value.ref (s.heap.objs.size + 1) :: (us ++ ds)) := .cons rfl (r.append hd)
  have hl : (Value.ref (s.heap.objs.size + 1) :: us ++ ds).length = ps.length := by
    have e := r2.length
    rw [F.len _ _ _ _ hq] at e
    exact e.symm
  refine wpAny_call (make_map (f := f) I.kIn M.makes M.init (beq_iff_eq.mp M.fn) (codeAny_mono (F.run _ X.stack _ _ ⟨Value.ref (s.heap.objs.size + 1) :: us, []⟩ (Value.ref (s.heap.objs.size + 1) :: (us ++ ds)) _ _ E (hr.make C us []) hG
    (I2.env0.make C us []) (hb _ (Value.ref (s.heap.objs.size + 1) :: us) I2.kIn hl) r2 hq) fun r s' hq' => ?_))
  cases r with
  | error e => exact hx pins σ _ _ e s' I2 hq'
  | ok fl =>
    cases fl with
    | ret u =>
      obtain ⟨v, H', I3, rv, ev, q3⟩ := I2.after hq'
      subst ev
      exact ⟨rv, ⟨V.ref (s.heap.objs.size + 1), H', I3, rfl, q3⟩⟩
    | next => exact False.elim hq'
    | brk => exact False.elim hq'
    | cont => exact False.elim hq'
theorem pe_gd (F : FnG X.prog X.w X.K X.mg X.base CX k f fd ps sp) (hr : Room k X.A) (hG : X.A.guards = some []) (hg : Gl X x) (hm : X.mg x = some (.ref f)) (hk : PySem.W.keepIn X.K (.ref f) = true) (hb : Binds X.K fd ps ds) (hd : Vals dvs ds) (hx : Passes CX X E)
    (ha : PA X (e :: es) t) (hdb : (x == ("__debug__" : Str)) = false := by decide) (he : starEach (e :: es) X.env = (false, eval e X.env) :: starEach es X.env := by rfl) (hpl : (backTo pos (starEach es X.env)).any (·.1) = false := by rfl) :
    PE X (.Call (.Name x p) (e :: es) [] pos) (tCall sp dvs E t) := by
  refine ⟨fun pins s σ H Q I h => ?_⟩
  refine wpAny_Call_Name_kw (ld_glob I hg hm ?_ hdb)
  refine PySem.W.callWith_K (h₀ := X.base) I.ok.mod.kin hk (thn (ha.run pos pins s σ H _ I h) fun us s1 ⟨vs, H1, I1, r, q⟩ => ⟨I1.kIn, ?_⟩) he hpl
  exact run_g F hr hG hb hd hx I1 r q
theorem pe_gmake (M : Mk X.K C f) (F : FnG X.prog X.w X.K X.mg X.base CX k f fd ps sp) (hr : Room (k + 1) X.A) (hG : X.A.guards = some []) (hg : Gl X x) (hm : X.mg x = some (.ref C)) (hb : Binds X.K fd ps ds) (hd : Vals dvs ds) (hx : Passes CX X E)
    (ha : PA X (e :: es) t) (hdb : (x == ("__debug__" : Str)) = false := by decide) (he : starEach (e :: es) X.env = (false, eval e X.env) :: starEach es X.env := by rfl) (hpl : (backTo pos (starEach es X.env)).any (·.1) = false := by rfl) :
    PE X (.Call (.Name x p) (e :: es) [] pos) (tMake C sp dvs E t) := by
  refine ⟨fun pins s σ H Q I h => ?_⟩
  refine wpAny_Call_Name_kw (ld_glob I hg hm ?_ hdb)
  refine PySem.W.callWith_K (h₀ := X.base) I.ok.mod.kin M.kp (thn (ha.run pos pins s σ H _ I h) fun us s1 ⟨vs, H1, I1, r, q⟩ => ⟨I1.kIn, ?_⟩) he hpl
  exact run_gmake M F hr hG hb hd hx I1 r q
theorem pe_gmake0 (M : Mk X.K C f) (F : FnG X.prog X.w X.K X.mg X.base CX k f fd ps sp) (hr : Room (k + 1) X.A) (hG : X.A.guards = some []) (hg : Gl X x) (hm : X.mg x = some (.ref C)) (hb : Binds X.K fd ps ds) (hd : Vals dvs ds) (hx : Passes CX X E)
    (hdb : (x == ("__debug__" : Str)) = false := by decide) : PE X (.Call (.Name x p) [] [] pos) (tMake C sp dvs E tNil) := by
  refine ⟨fun pins s σ H Q I h => ?_⟩
  refine wpAny_Call_Name_kw (ld_glob I hg hm ?_ hdb)
  exact PySem.W.callWith_K0 I.kIn M.kp (run_gmake (us := []) M F hr hG hb hd hx I .nil h)
theorem pe_gmeth {pl : Sem Bool} (he : PE X o ta) (c : Cls X.K C) (hm : Meth X.K C m f) (F : FnG X.prog X.w X.K X.mg X.base CX k f fd ps sp) (hr : Room k X.A) (hG : X.A.guards = some []) (hb : Binds X.K fd ps ds) (hd : Vals dvs ds) (hx : Passes CX X E) (ha : PA X (e :: es) t)
    (hst : starEach (e :: es) X.env = (false, eval e X.env) :: starEach es X.env := by rfl) (hpl : (backTo pos (starEach es X.env)).any (·.1) = false := by rfl)
    (ht : eval (.Call (.Attribute o m apos) (e :: es) [] pos) X.env = (do
      let ov ← eval o X.env
      standAt apos.atName
      let (f, first) ← holding [ov] (getMethod ov m pl)
      callWith pos f first (backTo pos (starEach (e :: es) X.env)) (backToKw pos (keywordEach [] X.env))) := by rfl) :
    PE X (.Call (.Attribute o m apos) (e :: es) [] pos) (tMeth C m sp dvs E ta t) := by
  refine ⟨fun pins s σ H Q I h => ?_⟩
  refine PySem.W.methodCall_KW (pl := pl) (thn (he.run pins s σ H _ I h) fun u s1 ⟨x, H1, I1, rx, a, dx, fs, ex, ea, l, q⟩ => ?_) ht
  subst ex
  obtain rfl : u = Value.ref a := rx
  refine getmeth_ok I1 ea c hm l ?_
  refine PySem.W.callWith_K (first := [.ref a]) (h₀ := X.base) I.ok.mod.kin hm.kp (thn (ha.run pos pins s1 σ H1 _ I1 q) fun us s2 ⟨vs, H2, I2, r, q2⟩ => ⟨I2.kIn, ?_⟩) hst hpl
  exact run_g (us := .ref a :: us) (vs := .ref a :: vs) F hr hG hb hd hx I2 (.cons rfl r) q2
theorem pe_gmeth0 {pl : Sem Bool} (he : PE X o ta) (c : Cls X.K C) (hm : Meth X.K C m f) (F : FnG X.prog X.w X.K X.mg X.base CX k f fd ps sp) (hr : Room k X.A) (hG : X.A.guards = some []) (hb : Binds X.K fd ps ds) (hd : Vals dvs ds) (hx : Passes CX X E)
    (ht : eval (.Call (.Attribute o m apos) [] [] pos) X.env = (do
      let ov ← eval o X.env
      standAt apos.atName
      let (f, first) ← holding [ov] (getMethod ov m pl)
      callWith pos f first (backTo pos (starEach [] X.env)) (backToKw pos (keywordEach [] X.env))) := by rfl) :
    PE X (.Call (.Attribute o m apos) [] [] pos) (tMeth C m sp dvs E ta tNil) := by
  refine ⟨fun pins s σ H Q I h => ?_⟩
  refine PySem.W.methodCall_KW (pl := pl) (thn (he.run pins s σ H _ I h) fun u s1 ⟨x, H1, I1, rx, a, dx, fs, ex, ea, l, q⟩ => ?_) ht
  subst ex
  obtain rfl : u = Value.ref a := rx
  refine getmeth_ok I1 ea c hm l ?_
  exact PySem.W.callWith_K0 (first := [.ref a]) I1.kIn hm.kp (run_g (us := [.ref a]) (vs := [.ref a]) F hr hG hb hd hx I1 (.cons rfl .nil) q)
theorem pe_gN (F : FnG X.prog X.w X.K X.mg X.base CX k f fd ps sp) (hr : Room k X.A) (hG : X.A.guards = some []) (hg : Gl X x) (hm : X.mg x = some (.ref f)) (hk : PySem.W.keepIn X.K (.ref f) = true) (hb : KBn X.K fd ps n ks g gV) (hx : Passes CX X E)
    (ha : PA X (e :: es) t) (hkw : PK X kws tk) (hall : (backToKw pos (keywordEach kws X.env)).all (·.1.isSome) = true := by rfl) (hks : (backToKw pos (keywordEach kws X.env)).filterMap (·.1) = ks := by rfl)
    (hdb : (x == ("__debug__" : Str)) = false := by decide) (he : starEach (e :: es) X.env = (false, eval e X.env) :: starEach es X.env := by rfl)
    (hpl : ((backTo pos (starEach (e :: es) X.env)).any (·.1) || (backToKw pos (keywordEach kws X.env)).any (·.1.isNone)) = false := by rfl) :
    PE X (.Call (.Name x p) (e :: es) kws pos) (tCallN n ks.length sp gV E t tk) := by
  refine ⟨fun pins s σ H Q I h => ?_⟩
  refine wpAny_Call_Name_kw (ld_glob I hg hm ?_ hdb)
  refine PySem.W.callWith_KW (h₀ := X.base) I.ok.mod.kin hk hall (thn (ha.run pos pins s σ H _ I h) fun us s1 ⟨vs, H1, I1, r, q⟩ => ?_) hpl he
  refine thn (hkw.run pos pins s1 σ H1 _ I1 q) fun ws s2 ⟨zs, H2, I2, rz, l1, l2, q2⟩ => ⟨I2.kIn, ?_⟩
  rw [hks]
  exact run_gN F hr hG hb hx I2 r rz l1 l2 q2
theorem pe_gN0 (F : FnG X.prog X.w X.K X.mg X.base CX k f fd ps sp) (hr : Room k X.A) (hG : X.A.guards = some []) (hg : Gl X x) (hm : X.mg x = some (.ref f)) (hk : PySem.W.keepIn X.K (.ref f) = true) (hb : KBn X.K fd ps 0 ks g gV) (hx : Passes CX X E) (hkw : PK X kws tk)
    (hall : (backToKw pos (keywordEach kws X.env)).all (·.1.isSome) = true := by rfl) (hks : (backToKw pos (keywordEach kws X.env)).filterMap (·.1) = ks := by rfl) (hdb : (x == ("__debug__" : Str)) = false := by decide)
    (hpl : ((backTo pos (starEach [] X.env)).any (·.1) || (backToKw pos (keywordEach kws X.env)).any (·.1.isNone)) = false := by rfl) :
    PE X (.Call (.Name x p) [] kws pos) (tCallN 0 ks.length sp gV E tNil tk) := by
  refine ⟨fun pins s σ H Q I h => wpAny_Call_Name_kw (ld_glob I hg hm ?_ hdb)⟩
  refine PySem.W.callWith_KW0 (h₀ := X.base) I.ok.mod.kin hk hall (thn (hkw.run pos pins s σ H _ I h) fun ws s2 hh => ?_) hpl
  obtain ⟨zs, H2, I2, rz, l1, l2, q2⟩ := hh
  refine ⟨I2.kIn, ?_⟩
  rw [hks]
  exact run_gN F hr hG hb hx I2 .nil rz l1 l2 q2
end
/-- what a caller knows of a def that is called by keywords too -/
structure Cn (P : Program) (w : World) (K : PySem.W.Frag) (mg : Str → Option Value) (base : Heap) (k : Nat) (x : Str) (n : Nat) (ks : List Str) (gV : List V → List V → List V) (sp : Sp) : Prop where
  ex : ∃ (f : Addr) (fd : FuncData) (ps : List Str) (g : List Value → List Value → List Value), FnG P w K mg base CX0 k f fd ps sp ∧ mg x = some (.ref f) ∧ PySem.W.keepIn K (.ref f) = true ∧ KBn K fd ps n ks g gV
section
variable {X : Cx} {j k n : Nat} {ks : List Str} {sp : Sp} {x : Str} {p pos : Pos} {e : Expr} {es : List Expr} {kws : List Keyword} {t tk : TA} {gV : List V → List V → List V}
theorem pe_cn (c : Cn X.prog X.w X.K X.mg X.base j x n ks gV sp) (hr : Room k X.A) (hG : X.A.guards = some []) (hk : j ≤ k) (hg : Gl X x)
    (ha : PA X (e :: es) t) (hkw : PK X kws tk) (hall : (backToKw pos (keywordEach kws X.env)).all (·.1.isSome) = true := by rfl) (hks : (backToKw pos (keywordEach kws X.env)).filterMap (·.1) = ks := by rfl)
    (hdb : (x == ("__debug__" : Str)) = false := by decide) (he : starEach (e :: es) X.env = (false, eval e X.env) :: starEach es X.env := by rfl)
    (hpl : ((backTo pos (starEach (e :: es) X.env)).any (·.1) || (backToKw pos (keywordEach kws X.env)).any (·.1.isNone)) = false := by rfl) :
    PE X (.Call (.Name x p) (e :: es) kws pos) (tCallN n ks.length sp gV E0 t tk) := by
  obtain ⟨f, fd, ps, g, F, hm, hkp, hb⟩ := c.ex
  exact pe_gN F (hr.mono hk) hG hg hm hkp hb pass0 ha hkw hall hks hdb he hpl
theorem pe_cn0 (c : Cn X.prog X.w X.K X.mg X.base j x 0 ks gV sp) (hr : Room k X.A) (hG : X.A.guards = some []) (hk : j ≤ k) (hg : Gl X x) (hkw : PK X kws tk)
    (hall : (backToKw pos (keywordEach kws X.env)).all (·.1.isSome) = true := by rfl) (hks : (backToKw pos (keywordEach kws X.env)).filterMap (·.1) = ks := by rfl) (hdb : (x == ("__debug__" : Str)) = false := by decide)
    (hpl : ((backTo pos (starEach [] X.env)).any (·.1) || (backToKw pos (keywordEach kws X.env)).any (·.1.isNone)) = false := by rfl) :
    PE X (.Call (.Name x p) [] kws pos) (tCallN 0 ks.length sp gV E0 tNil tk) := by
  obtain ⟨f, fd, ps, g, F, hm, hkp, hb⟩ := c.ex
  exact pe_gN0 F (hr.mono hk) hG hg hm hkp hb pass0 hkw hall hks hdb hpl
end
/-- what a caller knows of a class of the text: how an instance is made -/
structure Cm (P : Program) (w : World) (K : PySem.W.Frag) (mg : Str → Option Value) (base : Heap) (k : Nat) (x : Str) (C : Addr) (dvs : List V) (sp : Sp) : Prop where
  ex : ∃ (f : Addr) (fd : FuncData) (ps : List Str) (ds : List Value), Mk K C f ∧ FnG P w K mg base CX0 k f fd ps sp ∧ mg x = some (.ref C) ∧ Binds K fd ps ds ∧ Vals dvs ds
section
variable {X : Cx} {j k n : Nat} {sp : Sp} {x : Str} {C : Addr} {dvs : List V} {p pos : Pos} {e : Expr} {es : List Expr} {t : TA}
theorem pe_cm (c : Cm X.prog X.w X.K X.mg X.base j x C dvs sp) (hr : Room k X.A) (hG : X.A.guards = some []) (hk : j + 1 ≤ k) (hg : Gl X x)
    (ha : PA X (e :: es) t) (hdb : (x == ("__debug__" : Str)) = false := by decide) (he : starEach (e :: es) X.env = (false, eval e X.env) :: starEach es X.env := by rfl) (hpl : (backTo pos (starEach es X.env)).any (·.1) = false := by rfl) :
    PE X (.Call (.Name x p) (e :: es) [] pos) (tMake C sp dvs E0 t) := by
  obtain ⟨f, fd, ps, ds, M, F, hm, hb, hd⟩ := c.ex
  exact pe_gmake M F (hr.mono hk) hG hg hm hb hd pass0 ha hdb he hpl
theorem pe_cm0 (c : Cm X.prog X.w X.K X.mg X.base j x C dvs sp) (hr : Room k X.A) (hG : X.A.guards = some []) (hk : j + 1 ≤ k) (hg : Gl X x)
    (hdb : (x == ("__debug__" : Str)) = false := by decide) : PE X (.Call (.Name x p) [] [] pos) (tMake C sp dvs E0 tNil) := by
  obtain ⟨f, fd, ps, ds, M, F, hm, hb, hd⟩ := c.ex
  exact pe_gmake0 M F (hr.mono hk) hG hg hm hb hd pass0 hdb
end
/-- what a caller knows of a method -/
structure Ct (P : Program) (w : World) (K : PySem.W.Frag) (mg : Str → Option Value) (base : Heap) (k : Nat) (C : Addr) (m : Str) (dvs : List V) (sp : Sp) : Prop where
  ex : ∃ (f : Addr) (fd : FuncData) (ps : List Str) (ds : List Value), Cls K C ∧ Meth K C m f ∧ FnG P w K mg base CX0 k f fd ps sp ∧ Binds K fd ps ds ∧ Vals dvs ds
section
variable {X : Cx} {j k n : Nat} {sp : Sp} {m : Str} {C : Addr} {dvs : List V} {p pos apos : Pos} {e o : Expr} {es : List Expr} {t : TA} {ta : TE}
theorem pe_ct {pl : Sem Bool} (he : PE X o ta) (c : Ct X.prog X.w X.K X.mg X.base j C m dvs sp) (hr : Room k X.A) (hG : X.A.guards = some []) (hk : j ≤ k) (ha : PA X (e :: es) t)
    (hst : starEach (e :: es) X.env = (false, eval e X.env) :: starEach es X.env := by rfl) (hpl : (backTo pos (starEach es X.env)).any (·.1) = false := by rfl)
    (ht : eval (.Call (.Attribute o m apos) (e :: es) [] pos) X.env = (do
      let ov ← eval o X.env
      standAt apos.atName
      let (f, first) ← holding [ov] (getMethod ov m pl)
      callWith pos f first (backTo pos (starEach (e :: es) X.env)) (backToKw pos (keywordEach [] X.env))) := by rfl) :
    PE X (.Call (.Attribute o m apos) (e :: es) [] pos) (tMeth C m sp dvs E0 ta t) := by
  obtain ⟨f, fd, ps, ds, cl, hm, F, hb, hd⟩ := c.ex
  exact pe_gmeth (pl := pl) he cl hm F (hr.mono hk) hG hb hd pass0 ha hst hpl ht
theorem pe_ct0 {pl : Sem Bool} (he : PE X o ta) (c : Ct X.prog X.w X.K X.mg X.base j C m dvs sp) (hr : Room k X.A) (hG : X.A.guards = some []) (hk : j ≤ k)
    (ht : eval (.Call (.Attribute o m apos) [] [] pos) X.env = (do
      let ov ← eval o X.env
      standAt apos.atName
      let (f, first) ← holding [ov] (getMethod ov m pl)
      callWith pos f first (backTo pos (starEach [] X.env)) (backToKw pos (keywordEach [] X.env))) := by rfl) :
    PE X (.Call (.Attribute o m apos) [] [] pos) (tMeth C m sp dvs E0 ta tNil) := by
  obtain ⟨f, fd, ps, ds, cl, hm, F, hb, hd⟩ := c.ex
  exact pe_gmeth0 (pl := pl) he cl hm F (hr.mono hk) hG hb hd pass0 ht
end
/-! ### name = {k: v for ..} on one line, the name a local -/
section
variable {X : Cx}
theorem ps_setDc {i : Nat} {y : Str} {py : Pos} {kx vx tg iter : Expr} {ifs : List Expr} {scope : Scope} {own : List (Str × Nat)} {pos spos : Pos} {wi : TI} {g : TG} {tt : TT} {tk tv : TE} (hc : X.calm = true) (hN : X.N.Nodup) (hy : X.N[i]? = some y) (hyl : X.env.scope.names.lookup y = some .local)
    (hsw : swapsWith (.DictComp kx vx [⟨tg, iter, ifs, 0⟩] scope pos) (some (.Name y py)) spos.line X.env = pure true) (hi : PI X tg iter wi) (ok : BlkOk X.N X.env.scope scope own)
    (hg : ∀ (s : Shared) (H : Hp) (C : Addr) (cl : List (Str × Addr)) (fp : List Addr), PG (X.blk s H scope (compEnvC scope cl C X.env) fp) tg g) (ht : ∀ (s : Shared) (H : Hp) (C : Addr) (cl : List (Str × Addr)) (fp : List Addr), PTs (X.blk s H scope (compEnvC scope cl C X.env) fp) ifs tt)
    (hk : ∀ (s : Shared) (H : Hp) (C : Addr) (cl : List (Str × Addr)) (fp : List Addr), PE (X.blk s H scope (compEnvC scope cl C X.env) fp) kx tk)
    (he : ∀ (s : Shared) (H : Hp) (C : Addr) (cl : List (Str × Addr)) (fp : List Addr), PE (X.blk s H scope (compEnvC scope cl C X.env) fp) vx tv) (hs : ∀ x, foldedSetIterable iter X.env x = pure x := by intro _; rfl) :
    PS X (.Assign [.Name y py] (.DictComp kx vx [⟨tg, iter, ifs, 0⟩] scope pos) spos) (tAsg (tDc wi g tt tk tv (own.map (·.2))) (gName i)) := by
  refine ⟨fun pins s σ H D I h => ?_⟩
  rw [exec_Assign_Name_used _ _ _ _ hsw]
  refine wpAny_bind (wpAny_standAt (wpAny_bind ?_))
  show wpAny _ X.A (do let _ ← comprehension (.DictComp kx vx [⟨tg, iter, ifs, 0⟩] scope pos) scope X.env (firstIterPos [⟨tg, iter, ifs, 0⟩] pos) newDict false (eval iter X.env) (some (assign (.Name y py) X.env))) _ _ s
  have h : tDc wi g tt tk tv (own.map (·.2)) σ H (fun x H1 => gName i x σ H1 D.nx) := h
  refine wpAny_bind (thn (dc_core (Qf := fun _ s' => SP X pins D .next s') hc hN I hi ok hg ht hk he hs h fun L C s' m H' I' q hn f => ?_) fun _ s' hq => wpAny_pure (wpAny_pure hq))
  show wpAny _ _ (assign (.Name y py) X.env (.ref L)) _ _ _
  refine wpAny_assign_Name (store_ok2 (v := V.ref L) I' hN hy (.inl hyl) rfl (fun s2 I2 ⟨a, sb, ha⟩ => ?_) (.inr hyl))
  obtain ⟨f0, f1, f2, f3, f4, f5⟩ := f
  have haC : C ≠ a := by
    rcases ha with z | z
    · rw [z]; exact f1
    · exact fun e => f4 y a z e.symm
  refine ⟨m, hn.sameBut sb haC, fun h3 sb3 => ?_⟩
  exact ⟨_, H', I2.turned (t' := s2.toks) (fun b o hb e => (sb3.2 b hb).trans e) f0 f1 f3 f4 f5, q⟩
theorem sw_trueD {kx vx : Expr} {gs : List Comprehension} {scope : Scope} {pos py : Pos} {y : Str} {l : Nat} {env : Env} (hk : env.scope.kind = .function) (hy : env.scope.names.lookup y = some .local) (hl : (py.line == pos.line) = true)
    (ha : (scope.names.any fun (n, k) => n == y && (k == .local || k == .cell)) = false) : swapsWith (.DictComp kx vx gs scope pos) (some (.Name y py)) l env = pure true := by
  have ky : env.kindOf y = some .local := hy
  have hb : env.blockKind = .function := by unfold Env.blockKind; rw [hk]; rfl
  unfold swapsWith
  simp only [hb, ky, ha, Expr.pos, hl]
  rfl
end
/-! ### never reached -/
def tNev : TE := fun _ _ _ => False
theorem pe_never {X : Cx} {e : Expr} : PE X e tNev := ⟨fun _ _ _ _ _ _ h => h.elim⟩
def gNev : TG := fun _ _ _ _ => False
theorem pg_never {X : Cx} {e : Expr} : PG X e gNev := ⟨fun _ _ _ _ _ _ _ _ _ h => h.elim⟩
def tNevT : TT := fun _ _ _ => False
theorem pts_never {X : Cx} {es : List Expr} : PTs X es tNevT := ⟨fun _ _ _ _ _ _ h => h.elim⟩
/-- nothing is walked: an empty list or tuple -/
theorem dc_it {J : It} {n : Nat} {G : Hp → Prop} {Y : Nat → Hp → V → Hp → Prop} (w : Walk J n G Y) {g : TG} {tt : TT} {tk tv : TE} {vs : List Nat} {σ : L2.St} {H1 : Hp} {D : Addr} {Qd : Hp → Prop} (Pv : Nat → Hp → Prop) (h0 : Pv 0 (upd H1 D (.dK []))) (hG : ∀ i H, i ≤ n → Pv i H → G H)
    (hs : ∀ i x H H', i < n → Pv i H → Y i H x H' → g x (wipe σ vs) H' fun σ2 H2 => wipe σ2 vs = wipe σ vs ∧ tt σ2 H2 fun b H3 =>
      if b = true then tk σ2 H3 fun y H4 => tv σ2 H4 fun z H5 => ∃ kvs k, y = kV k ∧ H5 D = some (.dK kvs) ∧ kvs.length < sizeLine ∧ Pv (i + 1) (upd H5 D (.dK (putK kvs k z))) else Pv (i + 1) H3) (hd : ∀ H, Pv n H → Qd H) :
    ∃ W : Nat → Nat → Hp → Prop, (∃ m, W 0 m (upd H1 D (.dK []))) ∧ ∀ i m H, W i m H →
      (J.stop i H ∧ Qd H) ∨ (J.go i H ∧ ∃ Nx : Hp → Prop, (∀ H', Nx H' → ∃ m', m' < m ∧ W (i + 1) m' H') ∧ ∀ x H', J.yld i H x H' → g x (wipe σ vs) H' fun σ2 H2 => wipe σ2 vs = wipe σ vs ∧ tt σ2 H2 fun b H3 =>
        if b = true then tk σ2 H3 fun y H4 => tv σ2 H4 fun z H5 => ∃ kvs k, y = kV k ∧ H5 D = some (.dK kvs) ∧ kvs.length < sizeLine ∧ Nx (upd H5 D (.dK (putK kvs k z))) else Nx H3) := by
  refine ⟨fun i m H => m = n - i ∧ i ≤ n ∧ Pv i H, ⟨n, by simp, Nat.zero_le _, h0⟩, ?_⟩
  rintro i m H ⟨rfl, hi, p⟩
  have q := hG i H hi p
  by_cases hlt : i < n
  · refine .inr ⟨w.goes i H hlt q, Pv (i + 1), fun H' p' => ⟨n - (i + 1), by omega, rfl, hlt, p'⟩, fun x H' y => hs i x H H' hlt p (w.yields i H x H' hlt q y)⟩
  · have e : i = n := by omega
    subst e
    exact .inl ⟨w.stops H q, hd H p⟩
end Tp
namespace Tp
open PySem PySem.Spec PyProof.Rows L2
/-- a while that does not begin -/
theorem while_no {c : TT} {tb : TS} {D : Ends} {σ : L2.St} {H : Hp} (hc : ∀ Q : Bool → Hp → Prop, Q false H → c σ H Q) (hd : D.nx σ H) : tWhile c tb D σ H :=
  ⟨fun m σ' H' => m = 0 ∧ σ' = σ ∧ H' = H, ⟨0, rfl, rfl, rfl⟩, fun m σ' H' e => by
    obtain ⟨rfl, rfl, rfl⟩ := e
    exact hc _ hd⟩
end Tp
namespace Tp
open PySem PySem.Spec PyProof.Rows L2
/-- a def with defaults, its promise where the guards are known -/
theorem FunDG.ok {P : Program} {w : World} {K : PySem.W.Frag} {mg : Str → Option Value} {base : Heap} {x qual : Str} {params : Arguments} {body : List Stmt} {scope : Scope} {dvs : List V} {kws : List (Str × V)} {f : Addr} {fd : FuncData} {N ps : List Str} {k : Nat} {sp : Sp}
    (F : FunD K x qual params body scope dvs kws f fd) (S : FnScope N ps scope) (len : ∀ vs H Q E, sp vs H Q E → vs.length = ps.length)
    (hb : ∀ (cdv : Value) (B : Around) (out : List Env) (s : Shared) (H : Hp) (vs : List V) (Q : VK) (E : XK),
      Room k (B.deeper (envOfC qual scope s.heap.objs.size f cdv)) → (B.deeper (envOfC qual scope s.heap.objs.size f cdv)).guards = some [] → sp vs H Q E →
      ∃ t, PSs (cxOf CX0 P w K mg base N qual scope f cdv B out s H E).nox body t ∧ t { nx := fun _ H' => Q .non H', rt := Q } (start N vs) H) :
    FnG P w K mg base CX0 (k + 1) f fd ps sp := by
  obtain ⟨oc, od, dV, kV, doc, pm, an, cdv, ct, osl, rfl, lk, hcd, _, _⟩ := F.ex
  refine fnG_of lk hcd S len fun B out s H vs Q E hr hg hsp => ?_
  obtain ⟨t, h, q⟩ := hb cdv B out s H vs Q E hr hg hsp
  exact ⟨t, h.nox, q⟩
end Tp
namespace Tp
open PySem PySem.Spec PyProof.Rows L2
/-- a + b, the sum handed on as a letter -/
def rAddL : R2 := fun x y H Q => ∃ i j : Int, x = .int i ∧ y = .int j ∧ ∀ z : Int, z = i + j → Q (.int z) H
theorem op_addL {X : Cx} : OpR X (binaryOp .Add) rAddL := by
  intro pins s σ H x y v u Q I rx ry h
  obtain ⟨i, j, e1, e2, q⟩ := h
  exact op_add pins s σ H x y v u Q I rx ry ⟨i, j, e1, e2, q _ rfl⟩
def rSubL : R2 := fun x y H Q => ∃ i j : Int, x = .int i ∧ y = .int j ∧ ∀ z : Int, z = i - j → Q (.int z) H
theorem op_subL {X : Cx} : OpR X (binaryOp .Sub) rSubL := by
  intro pins s σ H x y v u Q I rx ry h
  obtain ⟨i, j, e1, e2, q⟩ := h
  exact op_sub pins s σ H x y v u Q I rx ry ⟨i, j, e1, e2, q _ rfl⟩
end Tp
set_option Elab.async false
set_option linter.all false
set_option maxRecDepth 100000
set_option maxHeartbeats 8000000
/-! the head of a law by facts: what is read off the written part, and how it is told -/
namespace Tp
open PySem PySem.Spec PyProof.Rows L2
def dfn (x : Str) (st : Stmt) (dfl : List He.Dv := []) (kwd : List (Str × He.Dv) := []) : He.DefD := ⟨(x, none), x, x, defArgs st, defBody st, defScope st, dfl, kwd⟩
def dmt (c m q : Str) (st : Stmt) (dfl : List He.Dv := []) (kwd : List (Str × He.Dv) := []) : He.DefD := ⟨(c, some m), m, q, defArgs st, defBody st, defScope st, dfl, kwd⟩
theorem fun_of {K : PySem.W.Frag} {x qual : Str} {st : Stmt} {f : Addr} {fd : FuncData} (F : FunD K x qual (defArgs st) (defBody st) (defScope st) [] [] f fd) : Fun K x qual st f fd := by
  obtain ⟨oc, od, dV, kV, doc, pm, an, cdv, ct, osl, e, lk, hcd, hD, _⟩ := F.ex
  rcases hD with ⟨_, e2⟩ | ⟨z, _⟩
  · subst e2
    exact ⟨⟨oc, od, kV, doc, pm, an, cdv, ct, osl, e, lk, hcd⟩, F.kp⟩
  · exact absurd rfl z
theorem kb_of {K : PySem.W.Frag} {x q : Str} {st : Stmt} {f : Addr} {fd : FuncData} {ps ks : List Str} {n : Nat} {g : List Value → List Value → List Value} {gV : List V → List V → List V} (G : Fun K x q st f fd)
    (h : ∀ (kV doc pm : Value) (an : Option Addr) (cdv ct : Value) (us ws : List Value), us.length = n → ws.length = ks.length → bindArgs (PySem.W.fnOf x q (defArgs st) (defBody st) (defScope st) .none kV doc pm an cdv ct) ⟨us, ks.zip ws⟩ = pure (ps.zip (g us ws)))
    (rel : ∀ {vs : List V} {us : List Value} {zs : List V} {ws : List Value}, Vals vs us → Vals zs ws → Vals (gV vs zs) (g us ws)) : KBn K fd ps n ks g gV := by
  obtain ⟨oc, od, kV, doc, pm, an, cdv, ct, osl, rfl, lk, hcd⟩ := G.ex
  exact ⟨fun s us ws _ l1 l2 => .of_eq (h kV doc pm an cdv ct us ws l1 l2), rel⟩
/-- the goal that such a head leaves -/
theorem walkGE {l : PySem.W.OpenLaw} {n k : Nat} {q : Program} {loose : List Str} {XP : (Str → Option Value) → Heap → Prop} {YP : World → Heap → Prop} {d : DefRec} {x : Str}
    (hn : l.most = some n) (hn2 : n ≤ sizeLine) (hdf : d.params.defaults = []) (hr : Room k callerA)
    (F : ∀ (w : World) (mg : Str → Option Value) (fa : Addr) (h : Heap), YP w h → h.Ns mainGlobals mg → mg d.name = some (.ref fa) →
      ∃ (K : PySem.W.Frag) (fd : FuncData) (sp : Sp), K.In h ∧ (∀ (s : Shared) (u : Value), BindsTo s fd ⟨[u], []⟩ [(x, u)]) ∧ (∀ base : Heap, K.In base → base.Ns mainGlobals mg → FnG l.prog w K mg base CX0 k fa fd [x] sp) ∧
        ∀ (H : Hp) (a : Addr) (ns : List Int), ns.length ≤ n → Only H → SqL K H a (ns.map V.int) → sp [.ref a] H (fun v _ => v = .bl true) E0) :
    PySem.W.WalkO q loose XP YP l.row.toRowW d [] (fun f vs => PySem.call f vs) := by
  refine Att.attach_call hn hdf fun w s0 s1 mg mb fa o pm cd doc a vs ns G Y ho hd hcd hmg hobj hints hlen hg => ?_
  obtain ⟨K, fd, sp, KX, hb, hF, hsp⟩ := F w mg fa _ Y G.T.g hmg
  exact law_callG KX G.T.g G.T.b G.T.builtins G.T.nolimit hg hobj hints (Nat.le_trans hlen hn2) hr hF hb fun H hO hS => hsp H a ns hlen hO hS
/-! ### facts by one Bool -/
def emB (K : PySem.W.Frag) (a : Addr) : Bool := match K.lookup a with
  | some ⟨.type t, _, .seq its _, _⟩ => decide (t = "tuple") && decide (its = #[])
  | _ => false
theorem emB_ok {K : PySem.W.Frag} {a : Addr} (h : emB K a = true) : ∃ (o : Obj) (n : Nat), K.lookup a = some o ∧ o.cls = .type "tuple" ∧ o.data = .seq #[] n := by
  unfold emB at h
  split at h
  · rename_i t od its n sl e
    rw [Bool.and_eq_true, decide_eq_true_eq, decide_eq_true_eq] at h
    obtain ⟨rfl, rfl⟩ := h
    exact ⟨_, n, e, rfl, rfl⟩
  · cases h
def smB (K : PySem.W.Frag) : Bool := match K.lookup sysModules with
  | some ⟨.type t, _, _, _⟩ => decide (t = "dict")
  | _ => false
theorem smB_ok {K : PySem.W.Frag} (h : smB K = true) : Sm K := by
  unfold smB at h
  split at h
  · rename_i t od dt sl e
    rw [decide_eq_true_eq] at h
    subst h
    exact ⟨_, e, rfl⟩
  · cases h
/-- what all instances and exceptions share -/
def glB (K : PySem.W.Frag) : Bool := He.eqO (PySem.W.specialIn K (.builtin "object.__class__") "__get__") (some (some (.builtin "getset_descriptor.__get__"))) && decide (PySem.W.takesIn K (.builtin "object.__class__") = some true)
def insB (K : PySem.W.Frag) (C : Addr) : Bool := He.eqO (PySem.W.findIn K (.ref C) "__class__") (some (some (.builtin "object.__class__"))) && (decide (PySem.W.mroIn K C (.type "object") = some true) && tys6.all fun u => decide (PySem.W.subIn K (.ref C) (.type u) = some false))
theorem kit_sub {K : PySem.W.Frag} {C : Addr} {u : String} {b : Bool} (hu : u ∈ tys6) (h : PySem.W.subIn K (.ref C) (.type u) = some b) : PySem.W.kitOne K (.ref C) (.type u) = some b := by
  have km : ∀ u ∈ tys6, PySem.W.kitMeta u = true := by decide +kernel
  unfold PySem.W.kitOne
  rw [if_neg (show ¬ (Value.ref C == Value.type u) = true from fun z => by cases z)]
  show (if PySem.W.kitMeta u = true then PySem.W.subIn K (.ref C) (.type u) else none) = some b
  rw [if_pos (km u hu)]
  exact h
theorem insB_ok {K : PySem.W.Frag} {C : Addr} (g : glB K = true) (c : Cls K C) (h : insB K C = true) : InsK K C := by
  unfold insB at h
  unfold glB at g
  simp only [Bool.and_eq_true, decide_eq_true_eq, List.all_eq_true] at g h
  exact ⟨c, He.eqO_ok h.1, He.eqO_ok g.1, g.2, h.2.1, fun u hu => kit_sub hu (h.2.2 u hu)⟩
/-! ### exceptions -/
def classB (K : PySem.W.Frag) (C : Addr) (tl : List Value) (newId : String) : Bool := match K.lookup C with
  | some ⟨.type t, _, .cls cd, sl⟩ => decide (t = "type") && (cd.hasDict && (!cd.hasDel && (decide (cd.mro = .ref C :: tl) && (match sl.toList with
    | [_, _, _, _, some (.builtin n), _] => decide (n = newId)
    | _ => false))))
  | _ => false
/-- how a class is written -/
def Lin (K : PySem.W.Frag) (C : Addr) (tl : List Value) (newId : String) : Prop := ∃ (nm qn : Str) (N : Addr) (bs : List Value) (sn : List Str) (sub : List Value) (ab : Bool) (col : Option Bool) (dd : Option Addr) (k0 k1 k2 k3 k5 : Option Value),
  K.lookup C = some (excClassObj nm qn C N bs tl true sn sub ab col dd k0 k1 k2 k3 k5 newId)
theorem classB_ok {K : PySem.W.Frag} {C : Addr} {tl : List Value} {newId : String} (h : classB K C tl newId = true) : Lin K C tl newId := by
  unfold classB at h
  split at h
  · rename_i t dd cd sl ho
    simp only [Bool.and_eq_true, decide_eq_true_eq, Bool.not_eq_true'] at h
    obtain ⟨rfl, h1, h2, h3, h4⟩ := h
    split at h4
    · rename_i k0 k1 k2 k3 n k5 hs
      have en := of_decide_eq_true h4
      obtain ⟨nm, bs, mro, ns, qn, hd, sn, sub, ab, col, del⟩ := cd
      dsimp only at h1 h2 h3
      subst h1 h2 h3
      have hsl : sl = #[k0, k1, k2, k3, some (.builtin n), k5] := by
        obtain ⟨l⟩ := sl
        simp only at hs
        rw [hs]
      subst hsl
      exact ⟨nm, qn, ns, bs, sn, sub, ab, col, dd, k0, k1, k2, k3, k5, by rw [ho, en]⟩
    · cases h4
  · cases h
section
variable {K : PySem.W.Frag} {C Bc : Addr} {tl line : List Value} {newId : String}
theorem Lin.cls (h : Lin K C tl newId) : ∃ cd, PySem.W.clsIn K C = some cd ∧ cd.mro = .ref C :: tl ∧ cd.hasDict = true ∧ PySem.W.typeIn K (.ref C) = some (.type "type") := by
  obtain ⟨nm, qn, N, bs, sn, sub, ab, col, dd, k0, k1, k2, k3, k5, h⟩ := h
  refine ⟨_, (by unfold PySem.W.clsIn; rw [h]), rfl, rfl, ?_⟩
  show (K.lookup C).map (·.cls) = _
  rw [h]
  rfl
theorem Lin.own (h : Lin K C tl newId) (t : Value) {b : Bool} (e : (Value.ref C :: tl).contains t = b) : PySem.W.subIn K (.ref C) t = some b := by
  obtain ⟨cd, hc, hm, _⟩ := h.cls
  show PySem.W.mroIn K C t = some b
  unfold PySem.W.mroIn
  rw [hc, Option.bind_some, hm, e]
  rfl
theorem Lin.two (h : Lin K C tl newId) (ht : PySem.W.excTail line tl = true) : PySem.W.excInitIn K C line newId = true ∧ PySem.W.excOver K C line = true := by
  constructor
  · obtain ⟨nm, qn, N, bs, sn, sub, ab, col, dd, k0, k1, k2, k3, k5, h⟩ := h
    unfold PySem.W.excInitIn
    rw [h]
    simp [ht]
  · obtain ⟨cd, hc, hm, _⟩ := h.cls
    unfold PySem.W.excOver
    rw [hc, Option.any_some]
    simp only [hm]
    simp [ht]
/-- the three lines behind the package's bases -/
def lnN (i : Nat) : List Value := if i = 0 then valLine else if i = 1 then keyLine else lookLine
def nwN (i : Nat) : String := if i = 0 then "ValueError.__new__" else "LookupError.__new__"
theorem ln_ref (i : Nat) (a : Addr) (r : List Value) : lnN i ≠ .ref a :: r := fun z => by
  unfold lnN at z
  split at z
  · cases z
  · split at z <;> cases z
theorem ln_tail (i : Nat) : PySem.W.excTail (lnN i) (.ref Bc :: lnN i) = true := by
  show PySem.W.excTail (lnN i) (lnN i) = true
  unfold lnN
  split
  · decide +kernel
  · split <;> decide +kernel
theorem ln_base (i : Nat) : BaseX (nwN i) (lnN i) := by
  unfold nwN lnN
  split
  · exact baseV
  · split
    · exact baseK
    · exact baseL
/-- all that is asked of class C below Bc, kind i, the fields fs -/
def excB (K : PySem.W.Frag) (C Bc : Addr) (i : Nat) (fs : List Str) (fI : Addr) : Bool := classB K C (.ref Bc :: lnN i) (nwN i) && (He.eqO (PySem.W.findIn K (.ref C) "__setattr__") (some (some (.builtin "object.__setattr__"))) &&
  (He.eqO (PySem.W.findIn K (.ref C) "__getattribute__") (some (some (.builtin "BaseException.__getattribute__"))) && (He.eqO (PySem.W.findIn K (.ref C) "__getattr__") (some none) && (PySem.W.keepIn K (.ref C) &&
  (He.eqO (PySem.W.findIn K (.ref C) "__class__") (some (some (.builtin "object.__class__"))) && (He.eqO (PySem.W.findIn K (.ref C) "__init__") (some (some (.ref fI))) && (decide (PySem.W.typeIn K (.ref fI) = some (.type "function")) && fs.all fun f => He.eqO (PySem.W.findIn K (.ref C) f) (some none))))))))
/-- what is told of it -/
structure ExcK (K : PySem.W.Frag) (C Bc : Addr) (i : Nat) (fs : List Str) (fI : Addr) : Prop where
  ex : ExK K C
  no : ∀ f ∈ fs, PySem.W.findIn K (.ref C) f = some none
  ini : PySem.W.findIn K (.ref C) "__init__" = some (some (.ref fI))
  fn : PySem.W.typeIn K (.ref fI) = some (.type "function")
  lin : Lin K C (.ref Bc :: lnN i) (nwN i)
theorem ln_no (i : Nat) (C Bc : Addr) : ∀ u ∈ tys6, (Value.ref C :: Value.ref Bc :: lnN i).contains (.type u) = false := by
  have a1 : ∀ u ∈ tys6, ∀ l ∈ [valLine, keyLine, lookLine], l.contains (.type u) = false := by decide +kernel
  intro u hu
  have e1 : (Value.type u == Value.ref C) = false := rfl
  have e2 : (Value.type u == Value.ref Bc) = false := rfl
  rw [List.contains_cons, e1, Bool.false_or, List.contains_cons, e2, Bool.false_or]
  refine a1 u hu _ ?_
  unfold lnN
  split
  · simp
  · split <;> simp
theorem ExcK.kit {i : Nat} {fs : List Str} {fI : Addr} (h : ExcK K C Bc i fs fI) : ∀ u ∈ tys6, PySem.W.kitOne K (.ref C) (.type u) = some false := fun u hu => kit_sub hu (h.lin.own _ (ln_no i C Bc u hu))
theorem excB_ok {i : Nat} {fs : List Str} {fI : Addr} (g : glB K = true) (h : excB K C Bc i fs fI = true) : ExcK K C Bc i fs fI := by
  unfold excB at h
  unfold glB at g
  simp only [Bool.and_eq_true, decide_eq_true_eq, List.all_eq_true] at g h
  obtain ⟨h1, sa, ga, gg, kc, ha, hi, hf, hfs⟩ := h
  have L := classB_ok h1
  obtain ⟨cd, hc, hm, hd, hty⟩ := L.cls
  have lb : ∀ l ∈ [valLine, keyLine, lookLine], l.contains (.type "BaseException") = true ∧ l.contains (.type "object") = true := by decide +kernel
  have hl : lnN i ∈ [valLine, keyLine, lookLine] := by
    unfold lnN
    split
    · simp
    · split <;> simp
  have up : ∀ t, (lnN i).contains (.type t) = true → (Value.ref C :: Value.ref Bc :: lnN i).contains (.type t) = true := fun t e => by
    rw [List.contains_cons, List.contains_cons, e]
    simp
  refine ⟨⟨⟨_, _, ln_base i, L.two (ln_tail i)⟩, He.eqO_ok sa, He.eqO_ok ga, He.eqO_ok gg, L.own _ (up _ (lb _ hl).1), hty, ?_, kc, He.eqO_ok ha, He.eqO_ok g.1, g.2, L.own _ (up _ (lb _ hl).2)⟩, fun f hf => He.eqO_ok (hfs f hf), He.eqO_ok hi, hf, L⟩
  unfold PySem.W.hasDictIn
  rw [hc, Option.any_some]
  exact hd
end
/-! ### the run's hook -/
/-- the addresses that are looked at: the module's names, their classes' bodies, what stands in them, code, defaults, the table of modules -/
def refsR (o : Obj) : List Addr := match o.data with
  | .cls cd => [cd.ns]
  | .func fd => He.refV fd.code ++ (He.refV fd.defaults ++ He.refV fd.kwdefaults)
  | .seq its _ => its.toList.flatMap He.refV
  | _ => []
def dictR (o : Obj) : List Addr := match o.data with
  | .dict es _ => es.toList.flatMap fun e => He.refV e.val
  | _ => []
def viaR (g : Addr → Option Obj) (f : Obj → List Addr) (as : List Addr) : List Addr := as.flatMap fun a => match g a with
  | some o => f o
  | none => []
def asR (g : Addr → Option Obj) : List Addr :=
  let l1 := viaR g dictR [mainGlobals]
  let l2 := viaR g refsR l1
  let l3 := viaR g dictR l2
  let l4 := viaR g refsR l2
  let l5 := viaR g refsR l3
  sysModules :: mainGlobals :: (l1 ++ (l2 ++ (l3 ++ (l4 ++ (l5 ++ viaR g refsR l5)))))
abbrev AlR : Type := He.AlD × Bool
def obsR (fa : List He.Fa) (fn : List He.DefD) (ex : PySem.W.Frag → Bool) (g : Addr → Option Obj) : AlR := (He.obsD fa fn (He.frG g (asR g)), ex (He.frG g (asR g)))
def hookR (fa : List He.Fa) (fn : List He.DefD) (ex : PySem.W.Frag → Bool) : PySem.W.Hook where
  α := AlR
  obs := fun s => obsR fa fn ex s.heap.get?
  val := fun _ => (He.valD fn, true)
  says := fun _ h => ∃ K : PySem.W.Frag, K.In h ∧ He.SaysD fa fn K ∧ ex K = true
  of := fun _ s e => ⟨_, He.frG_in, congrArg (fun z : AlR => z.1) e, congrArg (fun z : AlR => z.2) e⟩
  keeps := fun _ _ _ ⟨K, hK, c⟩ k => ⟨K, PySem.W.Frag.In.keeps hK k, c⟩
theorem obsR_eq {fa : List He.Fa} {fn : List He.DefD} {ex : PySem.W.Frag → Bool} {g : Addr → Option Obj} {s : Shared} (h : ∀ a, g a = s.heap.get? a) : obsR fa fn ex g = (hookR fa fn ex).obs s := by
  have e : g = s.heap.get? := funext h
  rw [e] <;> rfl
end Tp
set_option Elab.async false
set_option linter.all false
set_option maxRecDepth 100000
set_option maxHeartbeats 4000000
/-! len(o), o[k], x in o, o == x, o != x by an own class's own methods, whose promises know the guards -/
namespace Tp
open PySem PySem.Spec PyProof.Rows L2
section
variable {X : Cx} {pins : List (Addr × Obj)} {σ : L2.St} {H : Hp} {s : Shared} {j k : Nat} {f C a dx : Addr} {fd : FuncData} {ps : List Str} {ds : List Value} {dvs : List V} {sp : Sp} {fs : List (Str × V)}
theorem run_at {A : Around} {Q : VK} {us : List Value} {vs : List V} (F : FnG X.prog X.w X.K X.mg X.base CX0 k f fd ps sp) (hr : Room k A) (hG : A.guards = some []) (hf : A.frames = X.A.frames) (hb : Binds X.K fd ps ds) (hd : Vals dvs ds)
    (I : Inv X pins σ H s) (r : Vals vs us) (h : sp (vs ++ dvs) H Q E0) : wpAny (model X.prog X.w) A (call (.ref f) us) (EP X pins σ Q) X.xe s := by
  have r2 : Vals (vs ++ dvs) (us ++ ds) := r.append hd
  have hl : (us ++ ds).length = ps.length := by rw [← r2.length]; exact F.len _ _ _ _ h
  have e0 : Env0 X.prog X.w X.K X.mg X.base A X.stack s H := by
    have e := I.env0
    exact ⟨by rw [hf]; exact e.frames, e.mod, e.bs, e.bsz, e.funs, e.frf, e.hok, e.bare⟩
  refine wpAny_call (codeAny_mono (F.run A X.stack s H ⟨us, []⟩ (us ++ ds) (vs ++ dvs) Q E0 hr hG e0 (hb s us I.kIn hl) r2 h) fun r s' hq => ?_)
  cases r with
  | error e => exact (show False from hq).elim
  | ok fl =>
    cases fl with
    | ret u => exact I.after hq
    | next => exact False.elim hq
    | brk => exact False.elim hq
    | cont => exact False.elim hq
theorem ins_at (I : Inv X pins σ H s) (e : H a = some (.ins C dx fs)) : ∃ ox od, PySem.W.InstAt s.heap a ox C od := by
  obtain ⟨mA, J, _⟩ := ins_get I.hok e
  obtain ⟨od, J, _⟩ := J.look
  exact ⟨_, _, J⟩
/-- len(o) -/
def rLenO (C : Addr) (sp : Sp) : List V → Hp → VK → Prop := fun xs H Q => ∃ a dx fs, xs = [.ref a] ∧ H a = some (.ins C dx fs) ∧ sp [.ref a] H (fun v H' => ∃ n : Nat, v = .int n ∧ n ≤ sizeLine ∧ Q v H') E0
theorem call_lenO (c : Ct X.prog X.w X.K X.mg X.base j C "__len__" [] sp) (hr : Room (j + 1) X.A) (hG : X.A.guards = some []) : CallR X (.builtin "len") (rLenO C sp) := by
  intro pins s σ H xs us Q I r h
  obtain ⟨a, dx, fs, rfl, ha, q⟩ := h
  obtain ⟨u, rfl, r1⟩ := vals1 r
  cases (show u = Value.ref a from r1)
  obtain ⟨f, fd, ps, ds, cl, hm, F, hb, hd⟩ := c.ex
  cases hd
  obtain ⟨ox, od, J⟩ := ins_at I ha
  obtain ⟨m, hF⟩ := I.fr
  refine PySem.W.len_K hF I.ok.mod.kin J hm.at_ hm.fn (wpAny_mono (run_at (A := X.A.in1) (us := [.ref a]) (vs := [.ref a]) F hr.in1 hG rfl hb .nil I (.cons rfl .nil) q) (fun u s' hv => ?_) fun _ _ x => x)
  obtain ⟨v, H', I', rv, n, rfl, hn, q'⟩ := hv
  obtain ⟨t, rfl⟩ := rv
  refine ⟨⟨by omega, by rw [PySem.sizeLine_eq] at hn; omega⟩, .int n, H', I'.tok _, ⟨_, rfl⟩, q'⟩
/-- x in o -/
def rInO (C : Addr) (sp : Sp) (no : Bool) : R2 := fun x y H Q => ∃ a dx fs, y = .ref a ∧ H a = some (.ins C dx fs) ∧ sp [.ref a, x] H (fun v H' => ∃ b, v = .bl b ∧ Q (.bl (b != no)) H') E0
theorem op_inO (c : Ct X.prog X.w X.K X.mg X.base j C "__contains__" [] sp) (hr : Room j X.A) (hG : X.A.guards = some []) : OpR X (compareOp .In) (rInO C sp false) := by
  intro pins s σ H x y v u Q I rx ry h
  obtain ⟨a, dx, fs, rfl, ha, q⟩ := h
  cases (show u = Value.ref a from ry)
  obtain ⟨f, fd, ps, ds, cl, hm, F, hb, hd⟩ := c.ex
  cases hd
  obtain ⟨ox, od, J⟩ := ins_at I ha
  obtain ⟨m, hF⟩ := I.fr
  refine PySem.W.in_K hF I.ok.mod.kin J hm.at_ hm.fn (wpAny_mono (run_at (A := X.A) (us := [.ref a, v]) (vs := [.ref a, x]) F hr hG rfl hb .nil I (.cons rfl (.cons rx .nil)) q) (fun u s' hv => ?_) fun _ _ x => x)
  obtain ⟨w, H', I', rv, b, rfl, q'⟩ := hv
  cases (show u = Value.bool b from rv)
  rw [Bool.bne_false] at q'
  exact wpAny_truthy_bool ⟨.bl b, H', I', rfl, q'⟩
theorem op_notInO (c : Ct X.prog X.w X.K X.mg X.base j C "__contains__" [] sp) (hr : Room j X.A) (hG : X.A.guards = some []) : OpR X (compareOp .NotIn) (rInO C sp true) := by
  intro pins s σ H x y v u Q I rx ry h
  obtain ⟨a, dx, fs, rfl, ha, q⟩ := h
  cases (show u = Value.ref a from ry)
  obtain ⟨f, fd, ps, ds, cl, hm, F, hb, hd⟩ := c.ex
  cases hd
  obtain ⟨ox, od, J⟩ := ins_at I ha
  obtain ⟨m, hF⟩ := I.fr
  refine PySem.W.notIn_K hF I.ok.mod.kin J hm.at_ hm.fn (wpAny_mono (run_at (A := X.A) (us := [.ref a, v]) (vs := [.ref a, x]) F hr hG rfl hb .nil I (.cons rfl (.cons rx .nil)) q) (fun u s' hv => ?_) fun _ _ x => x)
  obtain ⟨w, H', I', rv, b, rfl, q'⟩ := hv
  cases (show u = Value.bool b from rv)
  rw [Bool.bne_true] at q'
  exact wpAny_truthy_bool ⟨.bl (!b), H', I', rfl, q'⟩
/-- o[k] -/
def tGetO (C : Addr) (sp : Sp) (E : XK) (to ti : TE) : TE := fun σ H Q => to σ H fun y H1 => ti σ H1 fun x H2 => ∃ a dx fs, y = .ref a ∧ H2 a = some (.ins C dx fs) ∧ sp [.ref a, x] H2 Q E
theorem pe_getO {o i : Expr} {pos : Pos} {to ti : TE} (c : Ct X.prog X.w X.K X.mg X.base j C "__getitem__" [] sp) (hfn : ∀ f, PySem.W.isFn X.K (.ref f) = true → PySem.W.fnIn X.K f = true) (hr : Room (j + 1) X.A) (hG : X.A.guards = some []) (ho : PE X o to) (hi : PE X i ti)
    (hsl : ∀ (a : Addr) (v : Value), subscripted i true (.ref a) v = runValue (.builtin "lifetime.subscript" ⟨[.ref a, v], []⟩) := by (intro _ _; with_unfolding_all rfl)) : PE X (.Subscript o i pos) (tGetO C sp E0 to ti) := by
  refine ⟨fun pins s σ H Q I h => ?_⟩
  refine Subscript_ (thn (ho.run pins s σ H _ I h) fun u s1 ⟨y, H1, I1, r1, q1⟩ => thn (hi.run pins s1 σ H1 _ I1 q1) fun v s2 ⟨x, H2, I2, r2, a, dx, fs, ey, ha, q2⟩ => ?_)
  subst ey
  cases (show u = Value.ref a from r1)
  obtain ⟨f, fd, ps, ds, cl, hm, F, hb, hd⟩ := c.ex
  cases hd
  obtain ⟨ox, od, J⟩ := ins_at I2 ha
  obtain ⟨m, hF⟩ := I2.fr
  exact PySem.W.sub_K hF I2.ok.mod.kin J hm.at_ (hfn _ hm.fn) hm.fn (run_at (A := X.A.in1) (us := [.ref a, v]) (vs := [.ref a, x]) F hr.in1 hG rfl hb .nil I2 (.cons rfl (.cons r2 .nil)) q2) (hsl _ _)
/-- o == x -/
def rEqO (K : PySem.W.Frag) (C : Addr) (sp : Sp) (no : Bool) : R2 := fun x y H Q => ∃ a dx fs, x = .ref a ∧ H a = some (.ins C dx fs) ∧ ((∃ b dy gs, y = .ref b ∧ H b = some (.ins C dy gs)) ∨ ∃ t, TyX K H y t ∧ PySem.W.subIn K t (.ref C) = some false) ∧
  sp [.ref a, y] H (fun v H' => ∃ b, v = .bl b ∧ Q (.bl (b != no)) H') E0
theorem ty_own {x : V} {u : Value} (I : Inv X pins σ H s) (rx : RelV x u) (h : (∃ b dy gs, x = .ref b ∧ H b = some (.ins C dy gs)) ∨ ∃ t, TyX X.K H x t ∧ PySem.W.subIn X.K t (.ref C) = some false) : ∃ tb, PySem.W.Looks (model X.prog X.w) s.heap (typeOf u) tb ∧ PySem.W.notFirst X.K C tb = true := by
  rcases h with ⟨b, dy, gs, rfl, hb⟩ | ⟨t, ty, ht⟩
  · cases (show u = Value.ref b from rx)
    obtain ⟨ox, od, J⟩ := ins_at I hb
    exact ⟨_, J.type, by simp [PySem.W.notFirst]⟩
  · obtain ⟨P, Z, hp, _⟩ := kit_of I rx ty
    refine ⟨t, Z.ty _ _ I.kIn hp, ?_⟩
    unfold PySem.W.notFirst
    rw [ht]
    simp
theorem op_eqO (c : Ct X.prog X.w X.K X.mg X.base j C "__eq__" [] sp) (hr : Room j X.A) (hG : X.A.guards = some []) : OpR X (compareOp .Eq) (rEqO X.K C sp false) := by
  intro pins s σ H x y v u Q I rx ry h
  obtain ⟨a, dx, fs, rfl, ha, hy, q⟩ := h
  cases (show v = Value.ref a from rx)
  obtain ⟨f, fd, ps, ds, cl, hm, F, hb, hd⟩ := c.ex
  cases hd
  obtain ⟨ox, od, J⟩ := ins_at I ha
  obtain ⟨m, hF⟩ := I.fr
  obtain ⟨tb, L1, L2⟩ := ty_own I ry hy
  show wpAny (model X.prog X.w) X.A (richCompare .Eq (.ref a) u) (EP X pins σ Q) X.xe s
  refine PySem.W.cmp_K (op := .Eq) hr.units0 hF I.ok.mod.kin J L1 L2 hm.at_ hm.fn (wpAny_mono (run_at (A := X.A) (us := [.ref a, u]) (vs := [.ref a, y]) F hr hG rfl hb .nil I (.cons rfl (.cons ry .nil)) q) (fun r s' hv => ?_) fun _ _ x => x)
  obtain ⟨w, H', I', rv, b, rfl, q'⟩ := hv
  cases (show r = Value.bool b from rv)
  rw [Bool.bne_false] at q'
  exact ⟨.bl b, H', I', rfl, q'⟩
end
section
open PySem.W PySem.Calls
variable {prog : Program} {w : World} {A : Around} {E : Value → Shared → Prop} {s : Shared} {K : Frag} {x C L f : Addr} {h₀ : Heap} {m : Str → Option Value} {ox : Obj} {od : Option Obj} {b tb : Value}
theorem ifBound_B {M : Model} {name : Str} {i : String} {args : List Value} {Q : Option Value → Shared → Prop} (X : K.In s.heap) (I : InstAt s.heap x ox C od) (hs : findIn K (.ref C) name = some (some (.builtin i))) (hbd : bindSpecial (.builtin i) (.ref x) = pure (.builtin i, [.ref x]))
    (h : wpAny M A (call (.builtin i) (.ref x :: args)) (fun v => Q (some v)) E s) : wpAny M A (callSpecialIfBound? (.ref x) name args) Q E s := by
  simp only [callSpecialIfBound?, bindSpecialIfBound?]
  refine wpAny_holding (wpAny_bind (wpAny_bind (wpAny_bind (I.type.here ((looks_findIn X hs).here ?_)))))
  simp only [hbd]
  refine wpAny_bind (wpAny_askSetting (wpAny_ite ?_))
  have fin : wpAny M A (call (.builtin i) ([.ref x] ++ args) >>= fun v => pure (some v)) Q E s := wpAny_bind (wpAny_mono h (fun v s' h' => wpAny_pure h') fun _ _ h' => h')
  split
  · exact wpAny_bind (wpAny_pure (wpAny_pure (by exact fin)))
  · exact wpAny_tryCatch (wpAny_bind (wpAny_pure (wpAny_pure (by exact fin))))
theorem ne_K {Q : Value → Shared → Prop} (hu : A.units + 1 < cLine) (F : Fr h₀ L s.heap m) (X₀ : K.In h₀) (I : InstAt s.heap x ox C od) (hb : Looks (model prog w) s.heap (typeOf b) tb) (hn : notFirst K C tb = true)
    (hne : findIn K (.ref C) "__ne__" = some (some (.builtin "object.__ne__"))) (hob : subIn K (.ref C) (.type "object") = some true) (hs : findIn K (.ref C) "__eq__" = some (some (.ref f))) (hf : isFn K (.ref f) = true)
    (h : wpAny (model prog w) A.in1 (call (.ref f) [.ref x, b]) (fun v s' => ∃ r, v = .bool r ∧ Q (.bool (!r)) s') E s) : wpAny (model prog w) A (richCompare .NotEq (.ref x) b) Q E s := by
  have X := X₀.keeps F.keep
  have one : wpAny (model prog w) A (tryCompare (.ref x) "__ne__" b) (fun r s' => ∃ v, r = some v ∧ Q v s') E s := by
    unfold tryCompare
    refine wpAny_bind (ifBound_B X I hne (PySem.F.cmp_object.ne.bind _) (wpAny_call (codeAny_call_builtin PySem.F.cmp_object.ne.plain PySem.F.cmpEntry_ne (PySem.W.check_slot PySem.F.cmpKind_ne PySem.F.cmpSplit_ne (I.type.andThen (looks_subIn X hob)) (PySem.F.cmpArgs_ne _ _) ?_))))
    unfold Builtin.«object.__ne__»
    repeat (first | with_reducible refine wpAny_cRoomFor hu ?_ | (with_reducible refine ifBound_K X I hs hf ?_; refine wpAny_mono h (fun v s' hv => ?_) (fun _ _ e => e); obtain ⟨r, rfl, q⟩ := hv; refine wpAny_bind (wpAny_truthy_bool ?_)) | wp_step)
    exact ⟨_, rfl, q⟩
  unfold richCompare
  simp only [oneThing_ref]
  refine wpAny_holding (wpAny_bind (wpAny_cRoomFor (by omega) ?_))
  refine wpAny_bind (I.type.here (wpAny_bind (hb.here ?_)))
  split
  · rename_i q
    have e : subIn K tb (.ref C) = some false := by
      rcases Bool.or_eq_true_iff.mp hn with e | e
      · rw [beq_iff_eq.mp e] at q; simp at q
      · exact beq_iff_eq.mp e
    refine wpAny_bind ((looks_subIn X e).here ?_)
    simp only [Bool.false_eq_true, if_false]
    refine wpAny_bind (wpAny_mono one (fun r s' z => ?_) fun _ _ e => e)
    obtain ⟨v, rfl, hq⟩ := z
    exact wpAny_pure hq
  · refine wpAny_bind (wpAny_pure ?_)
    simp only [Bool.false_eq_true, if_false]
    refine wpAny_bind (wpAny_mono one (fun r s' z => ?_) fun _ _ e => e)
    obtain ⟨v, rfl, hq⟩ := z
    exact wpAny_pure hq
end
section
variable {X : Cx} {pins : List (Addr × Obj)} {σ : L2.St} {H : Hp} {s : Shared} {j k : Nat} {C : Addr} {sp : Sp}
theorem op_neO (c : Ct X.prog X.w X.K X.mg X.base j C "__eq__" [] sp) (hne : PySem.W.findIn X.K (.ref C) "__ne__" = some (some (.builtin "object.__ne__"))) (hob : PySem.W.subIn X.K (.ref C) (.type "object") = some true) (hr : Room (j + 1) X.A) (hG : X.A.guards = some []) : OpR X (compareOp .NotEq) (rEqO X.K C sp true) := by
  intro pins s σ H x y v u Q I rx ry h
  obtain ⟨a, dx, fs, rfl, ha, hy, q⟩ := h
  cases (show v = Value.ref a from rx)
  obtain ⟨f, fd, ps, ds, cl, hm, F, hb, hd⟩ := c.ex
  cases hd
  obtain ⟨ox, od, J⟩ := ins_at I ha
  obtain ⟨m, hF⟩ := I.fr
  obtain ⟨tb, L1, L2⟩ := ty_own I ry hy
  show wpAny (model X.prog X.w) X.A (richCompare .NotEq (.ref a) u) (EP X pins σ Q) X.xe s
  refine ne_K (by have := hr.un; omega) hF I.ok.mod.kin J L1 L2 hne hob hm.at_ hm.fn (wpAny_mono (run_at (A := X.A.in1) (us := [.ref a, u]) (vs := [.ref a, y]) F hr.in1 hG rfl hb .nil I (.cons rfl (.cons ry .nil)) q) (fun r s' hv => ?_) fun _ _ x => x)
  obtain ⟨w, H', I', rv, b, rfl, q'⟩ := hv
  cases (show r = Value.bool b from rv)
  rw [Bool.bne_true] at q'
  exact ⟨b, rfl, .bl (!b), H', I', rfl, q'⟩
end
end Tp
set_option Elab.async false
set_option linter.all false
set_option maxRecDepth 100000
set_option maxHeartbeats 4000000
/-! try with several clauses, each of which may name the exception; the field of a caught one -/
namespace Tp
open PySem PySem.Spec PyProof.Rows L2
/-- a clause: its class, the slot of its name (none: no name), what its suite wishes -/
abbrev Cla : Type := Value × Option Nat × (Addr → Value → Option Addr → TS)
def offSlot (j : Option Nat) (D : Ends) : Ends := match j with
  | none => D
  | some i => { nx := fun σ H => D.nx (σ.set i none) H, rt := D.rt, bk := fun σ H => D.bk (σ.set i none) H, ct := fun σ H => D.ct (σ.set i none) H }
def onSlot (j : Option Nat) (a : Addr) (σ : L2.St) : L2.St := match j with
  | none => σ
  | some i => σ.set i (some (.ref a))
/-- what an exception of the body must meet: the first clause that takes it, or the way out -/
def wCla (K : PySem.W.Frag) (out : WX) (D : Ends) : List Cla → WX
  | [] => out
  | (c, j, t) :: more => fun cls d σ H => ∃ b, PySem.W.exmOne K cls c = some b ∧ (b = true → ∀ a, H a = none → t a cls d (offSlot j D) (onSlot j a σ) H) ∧ (b = false → wCla K out D more cls d σ H)
inductive ClaOk (X : Cx) : List ExceptHandler → List Cla → Prop
  | nil : ClaOk X [] []
  | bare {x : Str} {c : Value} {t : Addr → Value → Option Addr → TS} {b : Stmt} {bs : List Stmt} {p q : Pos} {hs : List ExceptHandler} {l : List Cla} (hc : Names X x c)
      (hb : ∀ (a : Addr) (oe : Obj) (cls : Value) (d : Option Addr) (pn : List (Addr × Obj)), Zc cls d oe → (∃ vs, oe.data = .fields vs) → PSs (X.suite a ((a, oe) :: pn)) (b :: bs) (t a cls d)) (more : ClaOk X hs l) :
      ClaOk X (.ExceptHandler (some (.Name x p)) none (b :: bs) q :: hs) ((c, none, t) :: l)
  | named {x n : Str} {i : Nat} {c : Value} {t : Addr → Value → Option Addr → TS} {b : Stmt} {bs : List Stmt} {p q : Pos} {hs : List ExceptHandler} {l : List Cla} (hc : Names X x c) (hi : X.N[i]? = some n) (hn : X.env.kindOf n = some .local)
      (hb : ∀ (a : Addr) (oe : Obj) (cls : Value) (d : Option Addr) (pn : List (Addr × Obj)), Zc cls d oe → (∃ vs, oe.data = .fields vs) → PSs (X.suite a ((a, oe) :: pn)) (b :: bs) (t a cls d)) (more : ClaOk X hs l) :
      ClaOk X (.ExceptHandler (some (.Name x p)) (some n) (b :: bs) q :: hs) ((c, some i, t) :: l)
section
variable {X : Cx} {D : Ends} {out : WX} {pins : List (Addr × Obj)} {σ : L2.St} {H : Hp} {sI s : Shared} {B : Heap} {a : Addr} {cls : Value} {d : Option Addr}
/-- the clauses, asked one after the other of an exception that lies noted on the ground -/
theorem run_cla (stk : X.stack = X.env :: X.outer) (loc : X.env.frame = some X.env.locals) (nd : X.N.Nodup) (tk : Takes X out) (ok : X.Ok) (J : Inv X pins σ H sI) (gB : ∀ b o, sI.heap.get? b = some o → b ∉ frs X.stack → B.get? b = some o) (up : sI.heap.UpToSlots s.heap)
    (fly : HandSPX.FlyingZ B (X.env :: X.outer) a (Zc cls d) s.heap) (na : H a = none) (os : s.os = sI.os) (bare : AllBare s.gens) :
    ∀ {hds : List ExceptHandler} {l : List Cla}, ClaOk X hds l → wCla X.K out D l cls d σ H → wpAny (model X.prog X.w) X.A (handleBy (.ref a) X.env hds) (SP X pins D) X.xe s := by
  have away : ∀ {h : Heap}, HandSPX.FlyingZ B (X.env :: X.outer) a (Zc cls d) h → a ∉ frs (X.env :: X.outer) := fun {h} f m => by
    obtain ⟨o1, w1, p1, _, p2⟩ := f.there
    obtain ⟨_, o2, p3, p4⟩ := f.2.2.1.mem m
    cases p1.symm.trans p3
    exact p4 _ p2
  have out1 := away fly
  have neL : a ≠ X.env.locals := fun z => out1 (List.mem_filterMap.mpr ⟨X.env, List.mem_cons_self, by rw [loc, z]⟩)
  have neF : a ∉ X.fs := fun m => by
    obtain ⟨e, he, q⟩ := List.mem_filterMap.mp m
    exact out1 (List.mem_filterMap.mpr ⟨e, List.mem_cons_of_mem _ he, q⟩)
  have here : Inv X pins σ H s := J.landed gB fly.1 up os bare
  obtain ⟨oe, ws, ho, hz, hd⟩ := fly.there
  have inS := here.suite ho hd na neL neF
  have kind : PySem.W.Looks (model X.prog X.w) s.heap (typeOf (.ref a)) cls := fun A' Q' E' s' k q => wpAny_typeOf_ref (k _ _ ho) (by rw [hz.1]; exact q)
  -- the class of a clause is read
  have read : ∀ {x : Str} {p : Pos} {c : Value} {Q' : Value → Shared → Prop} {E' : Value → Shared → Prop}, Names X x c → Q' c s → wpAny (model X.prog X.w) (X.A.mark (some (.ref a))) (eval (.Name x p) X.env) Q' E' s := fun {x p c Q' E'} hc q => by
    obtain ⟨g1, g2, g3⟩ := hc
    rcases g3 with g3 | ⟨g3, g4, g5⟩
    · exact ld_glob (X := X.suite a ((a, oe) :: (X.pn ++ pins))) inS g1 g3 q g2
    · exact ld_blt (X := X.suite a ((a, oe) :: (X.pn ++ pins))) inS g1 g3 g4 q g5 g2
  -- a suite is entered
  have enter : ∀ {h2 : Heap}, HandSPX.FlyingZ B (X.env :: X.outer) a (Zc cls d) h2 → s.heap.UpToSlots h2 → ∃ o2, Zc cls d o2 ∧ (∃ vs, o2.data = .fields vs) ∧ Inv (X.suite a ((a, o2) :: (X.pn ++ pins))) [] σ H { s with heap := h2 } := fun {h2} f2 u2 => by
    obtain ⟨o2, w2, p1, p2, p3⟩ := f2.there
    have J2 : Inv X pins σ H { s with heap := h2 } := J.landed gB f2.1 (up.trans u2) os bare
    exact ⟨o2, p2, ⟨_, p3⟩, J2.suite p1 p3 na neL neF⟩
  intro hds l hk
  induction hk with
  | nil =>
    intro hw
    refine wpAny_handleBy_nil ?_
    obtain ⟨_, _, _, o1, w1, T, _, _, p1, _, p2, p3, _⟩ := id fly
    unfold PySem.passOn
    refine wpAny_bind (wpAny_field p1 p2 p3 ?_)
    rw [if_neg (show ¬ ((Value.ref T == Value.none) = true) from by simp)]
    have last : wpAny (model X.prog X.w) X.A (setFlight (.ref a) X.env.frame) (fun _ s' => wpAny (model X.prog X.w) X.A (throw (.ref a) : Sem Flow) (SP X pins D) X.xe s') X.xe s := by
      rw [loc]
      refine HandSPX.setFlight_upZ fly fun h2 f2 u2 => wpAny_throw (tk _ _ ⟨a, B, sI, pins, σ, H, cls, d, rfl, J, gB, up.trans u2, .inr (.inr ?_), na, os, bare, hw⟩)
      rw [stk]
      exact f2
    first
      | exact wpAny_bind last
      | exact wpAny_bind (wpAny_pure (wpAny_bind last))
  | bare hc hb more ih =>
    rintro ⟨b, e1, yes, no⟩
    refine wpAny_handleBy_cons (codeAny_handlers_test ?_) (fun z => by cases z)
    refine read hc ((PySem.W.exm_one (M := model X.prog X.w) here.kIn kind e1).here ?_)
    cases b with
    | false => exact ih (no rfl)
    | true =>
      refine codeAny_handlers_suite (HandSPX.lands_againZ fly fun h2 f2 u2 => ?_)
      obtain ⟨o2, z2, dd2, I2⟩ := enter f2 u2
      refine wpAny_mono ((hb a o2 cls d (X.pn ++ pins) z2 dd2).run [] _ _ H _ I2 (yes rfl a na)) (fun f s' q => ?_) fun _ _ z => False.elim z
      cases f with
      | next =>
        obtain ⟨σ', H', I', q⟩ := q
        exact ⟨σ', H', I'.unsuite ok, q⟩
      | brk =>
        obtain ⟨σ', H', I', q⟩ := q
        exact ⟨σ', H', I'.unsuite ok, q⟩
      | cont =>
        obtain ⟨σ', H', I', q⟩ := q
        exact ⟨σ', H', I'.unsuite ok, q⟩
      | ret u =>
        obtain ⟨v, σ', H', I', r, q⟩ := q
        exact ⟨v, σ', H', I'.unsuite ok, r, q⟩
  | @named x n i c t b0 bs p q0 hs l hc hi hn hb more ih =>
    rintro ⟨b, e1, yes, no⟩
    refine wpAny_handleBy_cons (codeAny_handlers_test ?_) (fun z => by cases z)
    refine read hc ((PySem.W.exm_one (M := model X.prog X.w) here.kIn kind e1).here ?_)
    cases b with
    | false => exact ih (no rfl)
    | true =>
      refine codeAny_handlers_suite_as (HandSPX.lands_againZ fly fun h2 f2 u2 => ?_)
      obtain ⟨o2, z2, dd2, I2⟩ := enter f2 u2
      refine store_ok (X := X.suite a ((a, o2) :: (X.pn ++ pins))) (v := .ref a) I2 nd hi (.inl hn) rfl (fun s3 I3 => ?_) (.inr hn)
      refine wpAny_mono ((hb a o2 cls d (X.pn ++ pins) z2 dd2).run [] s3 _ H _ I3 (yes rfl a na)) (fun f s' q => ?_) fun _ _ z => False.elim z
      have gone : ∀ {σ' : L2.St} {H' : Hp} {Q' : Shared → Prop}, Inv (X.suite a ((a, o2) :: (X.pn ++ pins))) [] σ' H' s' → (∀ s4, Inv X pins (σ'.set i none) H' s4 → Q' s4) →
          wpAny (model X.prog X.w) X.A (do bindName X.env n .none; unbindBehindTheSuite X.env n q0) (fun _ s4 => Q' s4) X.xe s' := fun {σ' H' Q'} I' k => gone_ok (I'.unsuite ok) nd hi hn k
      cases f with
      | next =>
        obtain ⟨σ', H', I', q⟩ := q
        exact gone I' fun s4 I4 => ⟨_, _, I4, q⟩
      | brk =>
        obtain ⟨σ', H', I', q⟩ := q
        exact gone I' fun s4 I4 => ⟨_, _, I4, q⟩
      | cont =>
        obtain ⟨σ', H', I', q⟩ := q
        exact gone I' fun s4 I4 => ⟨_, _, I4, q⟩
      | ret u =>
        obtain ⟨v, σ', H', I', r, q⟩ := q
        exact gone I' fun s4 I4 => ⟨_, _, _, I4, r, q⟩
end
section
variable {X : Cx} {body : List Stmt} {h0 : ExceptHandler} {hds : List ExceptHandler} {l : List Cla} {pos : Pos} {tb : WX → TS} {out : WX}
/-- try: body, with such clauses -/
theorem ps_try_cla (stk : X.stack = X.env :: X.outer) (loc : X.env.frame = some X.env.locals) (nd : X.N.Nodup) (tk : Takes X out)
    (hb : ∀ (W : WX) (pn : List (Addr × Obj)) (xe : Value → Shared → Prop), Takes (X.tr pn xe) W → PassesOwn (model X.prog X.w) X.A X.env xe → PSs (X.tr pn xe) body (tb W))
    (hk : ClaOk X (h0 :: hds) l) : PS X (.Try body (h0 :: hds) [] [] pos) (fun D σ H => tb (wCla X.K out D l) D σ H) := by
  refine ⟨fun pins s σ H D I h => wpAny_Try_except ?_⟩
  have ok := I.ok
  have fr : X.A.frames = some (X.env :: X.outer) := ok.frames.trans (congrArg some stk)
  have run := (hb (wCla X.K out D l) (X.pn ++ pins) (fun e s1 => wpAny (model X.prog X.w) X.A (noteFrame e X.env) (fun _ s2 => wpAny (model X.prog X.w) X.A (setFlight e none)
    (fun _ s3 => wpAny (model X.prog X.w) X.A (handleBy e X.env (h0 :: hds)) (SP X pins D) X.xe s3) X.xe s2) X.xe s1) (fun u s' x => ?_) PassesOwn.looking).run [] s σ H D (I.toTry _) h
  · refine wpAny_mono run (fun f s1 q => ?_) fun _ _ q => q
    cases f with
    | next =>
      obtain ⟨σ', H', J, q⟩ := q
      exact wpAny_execs_nil ⟨σ', H', J.ofTry ok, q⟩
    | brk =>
      obtain ⟨σ', H', J, q⟩ := q
      exact ⟨σ', H', J.ofTry ok, q⟩
    | cont =>
      obtain ⟨σ', H', J, q⟩ := q
      exact ⟨σ', H', J.ofTry ok, q⟩
    | ret u =>
      obtain ⟨v, σ', H', J, r, q⟩ := q
      exact ⟨v, σ', H', J.ofTry ok, r, q⟩
  · obtain ⟨a, B, sI, pins', σ', H', cls, d, rfl, J', gB, up, sky, na, os, bare, hw⟩ := x
    have J : Inv X pins σ' H' sI := J'.ofTry ok
    have sky' : Sky B (X.env :: X.outer) a (Zc cls d) X.env.locals s'.heap := stk ▸ sky
    show wpAny (model X.prog X.w) X.A (noteFrame (.ref a) X.env) _ _ _
    exact Sky.land Zc.steady fr loc sky' fun h3 f3 u3 => run_cla (s := { s' with heap := h3 }) stk loc nd tk ok J gB (up.trans u3) f3 na os bare hk hw
/-- e.f of a caught exception that was raised by pmk_x: its dict lies at d -/
def tXh (a : Addr) (cls : Value) (d : Option Addr) (f : Str) (te : TE) : TE := fun σ H Q => te σ H fun x H1 => x = .ref a ∧ ∃ (C dd : Addr) (fs : List (Str × V)) (v : V), cls = .ref C ∧ d = some dd ∧ H1 dd = some (exd dd fs) ∧ fs.lookup f = some v ∧ Q v H1
theorem pe_xh {a C : Addr} {oe : Obj} {cls : Value} {d : Option Addr} {pn : List (Addr × Obj)} {e : Expr} {te : TE} {f : Str} (hT : ∀ C, cls = .ref C → ExK X.K C ∧ PySem.W.findIn X.K (.ref C) f = some none)
    (hz : Zc cls d oe) (hf : ∃ vs, oe.data = .fields vs) (he : PE (X.suite a ((a, oe) :: pn)) e te) (hb : attributeBase e f X.env (eval e X.env) = eval e X.env := by rfl) :
    PE (X.suite a ((a, oe) :: pn)) (.Attribute e f pos) (tXh a cls d f te) := by
  refine ⟨fun pins s σ H Q I h => attr_of hb (thn (he.run pins s σ H _ I h) fun u s1 hh => ?_)⟩
  obtain ⟨x, H1, I1, rx, rfl, C, dd, fs, v, ec, ed, ea, l, q⟩ := hh
  cases (show u = Value.ref a from rx)
  obtain ⟨T, hno⟩ := hT C ec
  obtain ⟨ha, _⟩ := I1.pin (a, oe) (List.mem_append_left _ List.mem_cons_self)
  obtain ⟨ws, hd⟩ := hf
  obtain ⟨mA, hns, rel⟩ := exd_at I1.hok ea
  obtain ⟨od, ho, hl⟩ := lookIn_ns hns
  obtain ⟨w', hw, rw'⟩ := RelO.some_of (v := v) (o := mA f) (by rw [← l]; exact rel f)
  have J : PySem.W.InstAt s1.heap a oe C (some od) := ⟨ha, hz.1.trans ec, by unfold PySem.W.notCls; rw [hd] <;> rfl, by rw [hz.2, ed]; exact ho⟩
  exact HandSPX.exc_get I1.kIn J T.ga T.gg T.exC (PySem.W.findObj_own T.hdC hno rfl (by rw [hl, hw])) (handed_of rw') ⟨v, H1, I1.tok _, rw', q⟩
end
end Tp
set_option Elab.async false
set_option linter.all false
set_option maxRecDepth 100000
set_option maxHeartbeats 4000000
/-! defs whose promises know the guards and that may raise: their bodies, their calls (what is raised is wished for at the caller's slots) -/
namespace Tp
open PySem PySem.Spec PyProof.Rows L2
section
variable {P : Program} {w : World} {K : PySem.W.Frag} {mg : Str → Option Value} {base : Heap} {k : Nat} {f : Addr} {fd : FuncData} {N ps : List Str} {sp : Sp}
theorem FunG.okX {x qual : Str} {st : Stmt} (F : Fun K x qual st f fd) (S : FnScope N ps (defScope st)) (len : ∀ vs H Q E, sp vs H Q E → vs.length = ps.length)
    (hb : ∀ (cdv : Value) (B : Around) (out : List Env) (s : Shared) (H : Hp) (vs : List V) (Q : VK) (E : XK),
      Room k (B.deeper (envOfC qual (defScope st) s.heap.objs.size f cdv)) → (B.deeper (envOfC qual (defScope st) s.heap.objs.size f cdv)).guards = some [] → sp vs H Q E →
      ∃ t, PSs (cxOf (L2.CX P w) P w K mg base N qual (defScope st) f cdv B out s H E) (defBody st) t ∧ t { nx := fun _ H' => Q .non H', rt := Q } (start N vs) H) :
    FnG P w K mg base (L2.CX P w) (k + 1) f fd ps sp := by
  obtain ⟨oc, od, kV, doc, pm, an, cdv, ct, osl, rfl, lk, hcd⟩ := F.ex
  exact fnG_of lk hcd S len fun B out s H vs Q E hr hg hsp => hb cdv B out s H vs Q E hr hg hsp
theorem FunDG.okX {x qual : Str} {params : Arguments} {body : List Stmt} {scope : Scope} {dvs : List V} {kws : List (Str × V)}
    (F : FunD K x qual params body scope dvs kws f fd) (S : FnScope N ps scope) (len : ∀ vs H Q E, sp vs H Q E → vs.length = ps.length)
    (hb : ∀ (cdv : Value) (B : Around) (out : List Env) (s : Shared) (H : Hp) (vs : List V) (Q : VK) (E : XK),
      Room k (B.deeper (envOfC qual scope s.heap.objs.size f cdv)) → (B.deeper (envOfC qual scope s.heap.objs.size f cdv)).guards = some [] → sp vs H Q E →
      ∃ t, PSs (cxOf (L2.CX P w) P w K mg base N qual scope f cdv B out s H E) body t ∧ t { nx := fun _ H' => Q .non H', rt := Q } (start N vs) H) :
    FnG P w K mg base (L2.CX P w) (k + 1) f fd ps sp := by
  obtain ⟨oc, od, dV, kV, doc, pm, an, cdv, ct, osl, rfl, lk, hcd, _, _⟩ := F.ex
  exact fnG_of lk hcd S len fun B out s H vs Q E hr hg hsp => hb cdv B out s H vs Q E hr hg hsp
end
/-! within a comprehension: the written part by its own letter -/
theorem ix_listK {X : Cx} {K : PySem.W.Frag} (h : X.K = K) : IxR X (rIxL K) := by
  subst h
  exact ix_list
theorem ix_tupK {X : Cx} {K : PySem.W.Frag} (h : X.K = K) : IxR X (rIxT K) := by
  subst h
  exact ix_tup
theorem pe_fldK {X : Cx} {K : PySem.W.Frag} {e : Expr} {f : Str} {pos : Pos} {ta : TE} (h : X.K = K) (he : PE X e ta) (hb : attributeBase e f X.env (eval e X.env) = eval e X.env) : PE X (.Attribute e f pos) (tFld K ta f) := by
  subst h
  exact pe_fld he hb
theorem hu65 {k : Nat} {A : Around} (hr : Room k A) : A.units + 65 < cLine := by
  have := hr.un
  omega
/-- what a caller knows of a method that may raise; of a def; of a class -/
structure Ctr (P : Program) (w : World) (K : PySem.W.Frag) (mg : Str → Option Value) (base : Heap) (k : Nat) (C : Addr) (m : Str) (dvs : List V) (sp : Sp) : Prop where
  ex : ∃ (f : Addr) (fd : FuncData) (ps : List Str) (ds : List Value), Cls K C ∧ Meth K C m f ∧ FnG P w K mg base (L2.CX P w) k f fd ps sp ∧ Binds K fd ps ds ∧ Vals dvs ds
structure Cgr (P : Program) (w : World) (K : PySem.W.Frag) (mg : Str → Option Value) (base : Heap) (k : Nat) (x : Str) (dvs : List V) (sp : Sp) : Prop where
  ex : ∃ (f : Addr) (fd : FuncData) (ps : List Str) (ds : List Value), FnG P w K mg base (L2.CX P w) k f fd ps sp ∧ mg x = some (.ref f) ∧ PySem.W.keepIn K (.ref f) = true ∧ Binds K fd ps ds ∧ Vals dvs ds
structure Cmr (P : Program) (w : World) (K : PySem.W.Frag) (mg : Str → Option Value) (base : Heap) (k : Nat) (x : Str) (C : Addr) (dvs : List V) (sp : Sp) : Prop where
  ex : ∃ (f : Addr) (fd : FuncData) (ps : List Str) (ds : List Value), Mk K C f ∧ FnG P w K mg base (L2.CX P w) k f fd ps sp ∧ mg x = some (.ref C) ∧ Binds K fd ps ds ∧ Vals dvs ds
/-- wished for at the caller's slots -/
def tCallX (sp : Sp) (dvs : List V) (W : WX) (t : TA) : TE := fun σ H Q => t σ H fun vs H1 => sp (vs ++ dvs) H1 Q (WE W σ)
def tMethX (C : Addr) (m : Str) (sp : Sp) (dvs : List V) (W : WX) (ta : TE) (t : TA) : TE := fun σ H Q => ta σ H fun x H1 => ∃ a dx fs, x = .ref a ∧ H1 a = some (.ins C dx fs) ∧ fs.lookup m = none ∧
  t σ H1 fun vs H2 => sp (x :: (vs ++ dvs)) H2 Q (WE W σ)
def tMakeX (C : Addr) (sp : Sp) (dvs : List V) (W : WX) (t : TA) : TE := fun σ H Q => t σ H fun vs H1 => ∀ x dx, H1 x = none → H1 dx = none → dx ≠ x →
  sp (.ref x :: (vs ++ dvs)) (upd (upd H1 dx (.own x)) x (.ins C dx [])) (fun v H2 => v = .non ∧ Q (.ref x) H2) (WE W σ)
def tGetX (C : Addr) (sp : Sp) (W : WX) (to ti : TE) : TE := fun σ H Q => to σ H fun y H1 => ti σ H1 fun x H2 => ∃ a dx fs, y = .ref a ∧ H2 a = some (.ins C dx fs) ∧ sp [.ref a, x] H2 Q (WE W σ)
section
variable {X : Cx} {j k : Nat} {f C : Addr} {fd : FuncData} {ps : List Str} {sp : Sp} {x m : Str} {p pos apos : Pos} {e o i : Expr} {es : List Expr} {ta to ti : TE} {t : TA} {dvs : List V} {ds : List Value} {W : WX}
theorem run_gX {A : Around} {pins : List (Addr × Obj)} {σ : L2.St} {H : Hp} {s : Shared} {Q : VK} {us : List Value} {vs : List V} (F : FnG X.prog X.w X.K X.mg X.base (L2.CX X.prog X.w) k f fd ps sp) (hr : Room k A) (hG : A.guards = some []) (hf : A.frames = X.A.frames) (hb : Binds X.K fd ps ds) (hd : Vals dvs ds)
    (tk : Takes X W) (I : Inv X pins σ H s) (r : Vals vs us) (h : sp (vs ++ dvs) H Q (WE W σ)) : wpAny (model X.prog X.w) A (call (.ref f) us) (EP X pins σ Q) X.xe s := by
  have r2 : Vals (vs ++ dvs) (us ++ ds) := r.append hd
  have hl : (us ++ ds).length = ps.length := by rw [← r2.length]; exact F.len _ _ _ _ h
  have e0 : Env0 X.prog X.w X.K X.mg X.base A X.stack s H := by
    have e := I.env0
    exact ⟨by rw [hf]; exact e.frames, e.mod, e.bs, e.bsz, e.funs, e.frf, e.hok, e.bare⟩
  refine wpAny_call (codeAny_mono (F.run A X.stack s H ⟨us, []⟩ (us ++ ds) (vs ++ dvs) Q (WE W σ) hr hG e0 (hb s us I.kIn hl) r2 h) fun r s' hq => ?_)
  cases r with
  | error e => exact passAt tk σ pins H s e s' I hq
  | ok fl =>
    cases fl with
    | ret u => exact I.after hq
    | next => exact False.elim hq
    | brk => exact False.elim hq
    | cont => exact False.elim hq
theorem run_gmakeX {pins : List (Addr × Obj)} {σ : L2.St} {H : Hp} {s : Shared} {Q : VK} {us : List Value} {vs : List V} (M : Mk X.K C f) (F : FnG X.prog X.w X.K X.mg X.base (L2.CX X.prog X.w) k f fd ps sp) (hr : Room (k + 1) X.A) (hG : X.A.guards = some []) (hb : Binds X.K fd ps ds) (hd : Vals dvs ds)
    (tk : Takes X W) (I : Inv X pins σ H s) (r : Vals vs us)
    (h : ∀ x dx, H x = none → H dx = none → dx ≠ x → sp (.ref x :: (vs ++ dvs)) (upd (upd H dx (.own x)) x (.ins C dx [])) (fun v H2 => v = .non ∧ Q (.ref x) H2) (WE W σ)) :
    wpAny (model X.prog X.w) X.A (call (.ref C) us) (EP X pins σ Q) X.xe s := by
  have hq := h (s.heap.objs.size + 1) s.heap.objs.size (I.hok.fresh (Nat.le_succ _)) (I.hok.fresh (Nat.le_refl _)) (Nat.ne_of_lt (Nat.lt_succ_self _))
  have I2 := Inv.made (C := C) I
  have r2 : Vals (V.ref (s.heap.objs.size + 1) :: (vs ++ dvs)) (Value.ref (s.heap.objs.size + 1) :: (us ++ ds)) := .cons rfl (r.append hd)
  have hl : (Value.ref (s.heap.objs.size + 1) :: us ++ ds).length = ps.length := by
    have e := r2.length
    rw [F.len _ _ _ _ hq] at e
    exact e.symm
  refine wpAny_call (make_map (f := f) I.kIn M.makes M.init (beq_iff_eq.mp M.fn) (codeAny_mono (F.run _ X.stack _ _ ⟨Value.ref (s.heap.objs.size + 1) :: us, []⟩ (Value.ref (s.heap.objs.size + 1) :: (us ++ ds)) _ _ (WE W σ) (hr.make C us []) hG
    (I2.env0.make C us []) (hb _ (Value.ref (s.heap.objs.size + 1) :: us) I2.kIn hl) r2 hq) fun r s' hq' => ?_))
  cases r with
  | error e => exact passAt tk σ pins _ _ e s' I2 hq'
  | ok fl =>
    cases fl with
    | ret u =>
      obtain ⟨v, H', I3, rv, ev, q3⟩ := I2.after hq'
      subst ev
      exact ⟨rv, ⟨V.ref (s.heap.objs.size + 1), H', I3, rfl, q3⟩⟩
    | next => exact False.elim hq'
    | brk => exact False.elim hq'
    | cont => exact False.elim hq'
theorem pe_cgr (c : Cgr X.prog X.w X.K X.mg X.base j x dvs sp) (hr : Room k X.A) (hG : X.A.guards = some []) (hk : j ≤ k) (tk : Takes X W) (hg : Gl X x)
    (ha : PA X (e :: es) t) (hdb : (x == ("__debug__" : Str)) = false := by decide) (he : starEach (e :: es) X.env = (false, eval e X.env) :: starEach es X.env := by rfl) (hpl : (backTo pos (starEach es X.env)).any (·.1) = false := by rfl) :
    PE X (.Call (.Name x p) (e :: es) [] pos) (tCallX sp dvs W t) := by
  obtain ⟨f, fd, ps, ds, F, hm, hkp, hb, hd⟩ := c.ex
  refine ⟨fun pins s σ H Q I h => ?_⟩
  refine wpAny_Call_Name_kw (ld_glob I hg hm ?_ hdb)
  refine PySem.W.callWith_K (h₀ := X.base) I.ok.mod.kin hkp (thn (ha.run pos pins s σ H _ I h) fun us s1 ⟨vs, H1, I1, r, q⟩ => ⟨I1.kIn, ?_⟩) he hpl
  exact run_gX F (hr.mono hk) hG rfl hb hd tk I1 r q
theorem pe_cmr (c : Cmr X.prog X.w X.K X.mg X.base j x C dvs sp) (hr : Room k X.A) (hG : X.A.guards = some []) (hk : j + 1 ≤ k) (tk : Takes X W) (hg : Gl X x)
    (ha : PA X (e :: es) t) (hdb : (x == ("__debug__" : Str)) = false := by decide) (he : starEach (e :: es) X.env = (false, eval e X.env) :: starEach es X.env := by rfl) (hpl : (backTo pos (starEach es X.env)).any (·.1) = false := by rfl) :
    PE X (.Call (.Name x p) (e :: es) [] pos) (tMakeX C sp dvs W t) := by
  obtain ⟨f, fd, ps, ds, M, F, hm, hb, hd⟩ := c.ex
  refine ⟨fun pins s σ H Q I h => ?_⟩
  refine wpAny_Call_Name_kw (ld_glob I hg hm ?_ hdb)
  refine PySem.W.callWith_K (h₀ := X.base) I.ok.mod.kin M.kp (thn (ha.run pos pins s σ H _ I h) fun us s1 ⟨vs, H1, I1, r, q⟩ => ⟨I1.kIn, ?_⟩) he hpl
  exact run_gmakeX M F (hr.mono hk) hG hb hd tk I1 r q
theorem pe_cmr0 (c : Cmr X.prog X.w X.K X.mg X.base j x C dvs sp) (hr : Room k X.A) (hG : X.A.guards = some []) (hk : j + 1 ≤ k) (tk : Takes X W) (hg : Gl X x)
    (hdb : (x == ("__debug__" : Str)) = false := by decide) : PE X (.Call (.Name x p) [] [] pos) (tMakeX C sp dvs W tNil) := by
  obtain ⟨f, fd, ps, ds, M, F, hm, hb, hd⟩ := c.ex
  refine ⟨fun pins s σ H Q I h => ?_⟩
  refine wpAny_Call_Name_kw (ld_glob I hg hm ?_ hdb)
  exact PySem.W.callWith_K0 I.kIn M.kp (run_gmakeX (us := []) M F (hr.mono hk) hG hb hd tk I .nil h)
theorem pe_ctr {pl : Sem Bool} (he : PE X o ta) (c : Ctr X.prog X.w X.K X.mg X.base j C m dvs sp) (hr : Room k X.A) (hG : X.A.guards = some []) (hk : j ≤ k) (tk : Takes X W) (ha : PA X (e :: es) t)
    (hst : starEach (e :: es) X.env = (false, eval e X.env) :: starEach es X.env := by rfl) (hpl : (backTo pos (starEach es X.env)).any (·.1) = false := by rfl)
    (ht : eval (.Call (.Attribute o m apos) (e :: es) [] pos) X.env = (do
      let ov ← eval o X.env
      standAt apos.atName
      let (f, first) ← holding [ov] (getMethod ov m pl)
      callWith pos f first (backTo pos (starEach (e :: es) X.env)) (backToKw pos (keywordEach [] X.env))) := by rfl) :
    PE X (.Call (.Attribute o m apos) (e :: es) [] pos) (tMethX C m sp dvs W ta t) := by
  obtain ⟨f, fd, ps, ds, cl, hm, F, hb, hd⟩ := c.ex
  refine ⟨fun pins s σ H Q I h => ?_⟩
  refine PySem.W.methodCall_KW (pl := pl) (thn (he.run pins s σ H _ I h) fun u s1 ⟨x, H1, I1, rx, a, dx, fs, ex, ea, l, q⟩ => ?_) ht
  subst ex
  obtain rfl : u = Value.ref a := rx
  refine getmeth_ok I1 ea cl hm l ?_
  refine PySem.W.callWith_K (first := [.ref a]) (h₀ := X.base) I.ok.mod.kin hm.kp (thn (ha.run pos pins s1 σ H1 _ I1 q) fun us s2 ⟨vs, H2, I2, r, q2⟩ => ⟨I2.kIn, ?_⟩) hst hpl
  exact run_gX (us := .ref a :: us) (vs := .ref a :: vs) F (hr.mono hk) hG rfl hb hd tk I2 (.cons rfl r) q2
theorem pe_ctr0 {pl : Sem Bool} (he : PE X o ta) (c : Ctr X.prog X.w X.K X.mg X.base j C m dvs sp) (hr : Room k X.A) (hG : X.A.guards = some []) (hk : j ≤ k) (tk : Takes X W)
    (ht : eval (.Call (.Attribute o m apos) [] [] pos) X.env = (do
      let ov ← eval o X.env
      standAt apos.atName
      let (f, first) ← holding [ov] (getMethod ov m pl)
      callWith pos f first (backTo pos (starEach [] X.env)) (backToKw pos (keywordEach [] X.env))) := by rfl) :
    PE X (.Call (.Attribute o m apos) [] [] pos) (tMethX C m sp dvs W ta tNil) := by
  obtain ⟨f, fd, ps, ds, cl, hm, F, hb, hd⟩ := c.ex
  refine ⟨fun pins s σ H Q I h => ?_⟩
  refine PySem.W.methodCall_KW (pl := pl) (thn (he.run pins s σ H _ I h) fun u s1 ⟨x, H1, I1, rx, a, dx, fs, ex, ea, l, q⟩ => ?_) ht
  subst ex
  obtain rfl : u = Value.ref a := rx
  refine getmeth_ok I1 ea cl hm l ?_
  exact PySem.W.callWith_K0 (first := [.ref a]) I1.kIn hm.kp (run_gX (us := [.ref a]) (vs := [.ref a]) F (hr.mono hk) hG rfl hb hd tk I1 (.cons rfl .nil) q)
theorem pe_getX (c : Ctr X.prog X.w X.K X.mg X.base j C "__getitem__" dvs sp) (h0 : dvs = []) (hfn : ∀ f, PySem.W.isFn X.K (.ref f) = true → PySem.W.fnIn X.K f = true) (hr : Room (j + 1) X.A) (hG : X.A.guards = some []) (tk : Takes X W) (ho : PE X o to) (hi : PE X i ti)
    (hsl : ∀ (a : Addr) (v : Value), subscripted i true (.ref a) v = runValue (.builtin "lifetime.subscript" ⟨[.ref a, v], []⟩) := by (intro _ _; with_unfolding_all rfl)) : PE X (.Subscript o i pos) (tGetX C sp W to ti) := by
  subst h0
  refine ⟨fun pins s σ H Q I h => ?_⟩
  refine Subscript_ (thn (ho.run pins s σ H _ I h) fun u s1 ⟨y, H1, I1, r1, q1⟩ => thn (hi.run pins s1 σ H1 _ I1 q1) fun v s2 ⟨x, H2, I2, r2, a, dx, fs, ey, ha, q2⟩ => ?_)
  subst ey
  cases (show u = Value.ref a from r1)
  obtain ⟨f, fd, ps, ds, cl, hm, F, hb, hd⟩ := c.ex
  cases hd
  obtain ⟨ox, od, J⟩ := ins_at I2 ha
  obtain ⟨m, hF⟩ := I2.fr
  exact PySem.W.sub_K hF I2.ok.mod.kin J hm.at_ (hfn _ hm.fn) hm.fn (run_gX (A := X.A.in1) (us := [.ref a, v]) (vs := [.ref a, x]) F hr.in1 hG rfl hb .nil tk I2 (.cons rfl (.cons r2 .nil)) q2) (hsl _ _)
end
end Tp
set_option Elab.async false
set_option linter.all false
set_option maxRecDepth 100000
set_option maxHeartbeats 4000000
/-! the rows of a book as keys of a dict: a text, and an int or a tuple of ints -/
namespace Tp
open PySem
/-- a row: its name, and its turn or the numbers of its arguments -/
abbrev RowK : Type := Str × Sum Int (List Int)
def rowD : RowK → PyData
  | (x, .inl n) => .tuple [.str x, .int n]
  | (x, .inr ns) => .tuple [.str x, .tuple (ns.map PyData.int)]
def IsRow (h : Heap) (k : RowK) (a : Addr) : Prop := Reads h (.ref a) (rowD k) [] ∧ PyData.strOk k.1 = true
theorem can_ints : ∀ ns : List Int, PyData.canLayAll0 (ns.map PyData.int) = true
  | [] => rfl
  | n :: ns => by
    simp only [List.map_cons, PyData.canLayAll0, PyData.canLay0, can_ints ns, Bool.and_self]
theorem can_row (k : RowK) (hk : PyData.strOk k.1 = true) : (rowD k).canLay0 = true := by
  obtain ⟨x, n | ns⟩ := k
  · have hk' : PyData.strOk x = true := hk
    simp [rowD, PyData.canLay0, PyData.canLayAll0, hk']
  · have hk' : PyData.strOk x = true := hk
    simp [rowD, PyData.canLay0, PyData.canLayAll0, can_ints ns, hk']
theorem ints_inj : ∀ {ns ms : List Int}, ns.map PyData.int = ms.map PyData.int → ns = ms
  | [], [], _ => rfl
  | [], _ :: _, e => by cases e
  | _ :: _, [], e => by cases e
  | n :: ns, m :: ms, e => by
    rw [List.map_cons, List.map_cons] at e
    injection e with e1 e2
    injection e1 with e3
    rw [e3, ints_inj e2]
theorem rowD_inj : ∀ {k j : RowK}, rowD k = rowD j → k = j := by
  rintro ⟨x, n | ns⟩ ⟨y, m | ms⟩ e
  · simp only [rowD, PyData.tuple.injEq, List.cons.injEq, PyData.str.injEq, PyData.int.injEq, and_true] at e
    rw [e.1, e.2]
  · simp [rowD] at e
  · simp [rowD] at e
  · simp only [rowD, PyData.tuple.injEq, List.cons.injEq, PyData.str.injEq, and_true] at e
    rw [e.1, ints_inj e.2]
theorem isRow_inj {h : Heap} {a : Addr} {k j : RowK} (hk : IsRow h k a) (hj : IsRow h j a) : k = j := rowD_inj (SeqAt.Reads.unique _ _ _ _ _ (can_row k hk.2) hk.1 hj.1)
theorem eqv_ints : ∀ ns ms : List Int, PyData.eqvAll (ns.map PyData.int) (ms.map PyData.int) = decide (ns = ms)
  | [], [] => rfl
  | [], _ :: _ => rfl
  | _ :: _, [] => rfl
  | n :: ns, m :: ms => by
    rw [List.map_cons, List.map_cons, PyData.eqvAll, PyData.eqv, eqv_ints ns ms, Bool.eq_iff_iff]
    simp
theorem eqv_row (k j : RowK) : PyData.eqv (rowD k) (rowD j) = decide (k = j) := by
  obtain ⟨x, n | ns⟩ := k <;> obtain ⟨y, m | ms⟩ := j <;> rw [Bool.eq_iff_iff] <;> simp [rowD, PyData.eqv, PyData.eqvAll, eqv_ints]
section
variable {prog : Program} {w : World} {A : Around} {E : Value → Shared → Prop} {s : Shared}
theorem row_eq {x y : RowK} {a b : Addr} {Q : Bool → Shared → Prop} (hu : A.units + 64 < cLine) (hx : IsRow s.heap x a) (hy : IsRow s.heap y b) (h : Q (decide (x = y)) s) : wpAny (model prog w) A (eqBool (.ref a) (.ref b)) Q E s := by
  have hd : ∀ k : RowK, (rowD k).depth ≤ 10 := fun k => by
    obtain ⟨x, n | ns⟩ := k
    · simp [rowD, PyData.depth, PyData.depthAll]
    · have : ∀ ns : List Int, PyData.depthAll (ns.map PyData.int) = 0 := fun ns => by
        induction ns with
        | nil => rfl
        | cons n ns ih => simp [PyData.depthAll, PyData.depth, ih]
      simp [rowD, PyData.depth, PyData.depthAll, this]
  refine SeqAt.eqAt_reads (rowD x) (rowD y) A s _ _ [] [] hx.1 hy.1 (can_row x hx.2) (can_row y hy.2) ?_ prog w E Q ?_
  · have h1 := hd x
    have h2 : min (rowD x).depth (rowD y).depth ≤ (rowD x).depth := Nat.min_le_left _ _
    omega
  · rw [eqv_row]
    exact h
theorem ints_any {h h' : Heap} : ∀ (ns : List Int) (vs : List Value) (as : List Addr), ReadsAll h vs (ns.map PyData.int) as → ReadsAll h' vs (ns.map PyData.int) as
  | [], _, _, r => by
    cases r
    exact .nil
  | n :: ns, _, _, r => by
    rw [List.map_cons] at r ⊢
    cases r with
    | cons h1 h2 =>
      cases h1
      exact .cons (.int _ _) (ints_any ns _ _ h2)
/-- a row's own parts -/
theorem row_parts {h : Heap} {k : RowK} {a : Addr} (r : IsRow h k a) : ∃ (o : Obj) (t : Tok) (u : Value) (items : Array Value) (n : Nat), h.get? a = some o ∧ o.cls = .type "tuple" ∧ o.data = .seq items n ∧ items.toList = [.str k.1 t, u] ∧
    ((∃ (i : Int) (t2 : Tok), k.2 = .inl i ∧ u = .int i t2) ∨ ∃ (ns : List Int) (b : Addr) (ob : Obj) (its : Array Value) (m : Nat), k.2 = .inr ns ∧ u = .ref b ∧ h.get? b = some ob ∧ ob.cls = .type "tuple" ∧ ob.data = .seq its m ∧ ReadsAll h its.toList (ns.map PyData.int) []) := by
  obtain ⟨r, _⟩ := r
  obtain ⟨x, i | ns⟩ := k
  · generalize e : rowD (x, .inl i) = d at r
    generalize e0 : ([] : List Addr) = as at r
    cases r with
    | tuple h1 h2 h3 h4 =>
      simp only [rowD, PyData.tuple.injEq] at e
      subst e
      generalize ev : (_ : Array Value).toList = l at h4
      cases h4 with
      | cons g1 g2 =>
        cases g1
        cases g2 with
        | cons g3 g4 =>
          cases g3
          cases g4
          exact ⟨_, _, _, _, _, h1, h2, h3, ev, .inl ⟨i, _, rfl, rfl⟩⟩
    | _ => cases e
  · generalize e : rowD (x, .inr ns) = d at r
    generalize e0 : ([] : List Addr) = as at r
    cases r with
    | tuple h1 h2 h3 h4 =>
      simp only [rowD, PyData.tuple.injEq] at e
      subst e
      generalize ev : (_ : Array Value).toList = l at h4
      cases h4 with
      | cons g1 g2 =>
        cases g1
        cases g2 with
        | cons g3 g4 =>
          cases g4
          cases g3 with
          | tuple k1 k2 k3 k4 =>
            rw [List.nil_append, List.append_nil] at e0
            subst e0
            exact ⟨_, _, _, _, _, h1, h2, h3, ev, .inr ⟨ns, _, _, _, _, rfl, rfl, k1, k2, k3, k4⟩⟩
    | _ => cases e
theorem row_of {h : Heap} {k : RowK} {a : Addr} (hk : PyData.strOk k.1 = true) {o : Obj} {t : Tok} {u : Value} {items : Array Value} {n : Nat} (h1 : h.get? a = some o) (h2 : o.cls = .type "tuple") (h3 : o.data = .seq items n) (h4 : items.toList = [.str k.1 t, u])
    (h5 : (∃ (i : Int) (t2 : Tok), k.2 = .inl i ∧ u = .int i t2) ∨ ∃ (ns : List Int) (b : Addr) (ob : Obj) (its : Array Value) (m : Nat), k.2 = .inr ns ∧ u = .ref b ∧ h.get? b = some ob ∧ ob.cls = .type "tuple" ∧ ob.data = .seq its m ∧ ReadsAll h its.toList (ns.map PyData.int) []) : IsRow h k a := by
  refine ⟨?_, hk⟩
  obtain ⟨x, y⟩ := k
  rcases h5 with ⟨i, t2, e, rfl⟩ | ⟨ns, b, ob, its, m, e, rfl, g1, g2, g3, g4⟩
  · have e' : y = .inl i := e
    subst e'
    exact .tuple (as := []) h1 h2 h3 (by rw [h4]; exact ReadsAll.cons (as := []) (bs := []) (.str x t) (ReadsAll.cons (as := []) (bs := []) (.int i t2) .nil))
  · have e' : y = .inr ns := e
    subst e'
    exact .tuple (as := []) h1 h2 h3 (by rw [h4]; exact ReadsAll.cons (as := []) (bs := []) (.str x t) (ReadsAll.cons (as := []) (bs := []) (.tuple g1 g2 g3 g4) .nil))
theorem row_keeps {h h' : Heap} {k : RowK} {a d : Addr} {o : Obj} {es : Array DictEntry} {ep : Nat} (r : IsRow h k a) (ho : h.get? d = some o) (hd : o.data = .dict es ep) (hs : Heap.SameBut d h h') : IsRow h' k a := by
  have ne : ∀ {b : Addr} {ob : Obj} {its : Array Value} {m : Nat}, h.get? b = some ob → ob.data = .seq its m → b ≠ d := fun {b ob its m} e1 e2 z => by
    rw [z, ho] at e1
    cases e1
    rw [hd] at e2
    cases e2
  obtain ⟨o1, t, u, items, n, h1, h2, h3, h4, h5⟩ := row_parts r
  refine row_of r.2 ((hs.2 a (ne h1 h3)).trans h1) h2 h3 h4 (h5.imp id ?_)
  rintro ⟨ns, b, ob, its, m, e, eu, g1, g2, g3, g4⟩
  exact ⟨ns, b, ob, its, m, e, eu, (hs.2 b (ne g1 g3)).trans g1, g2, g3, ints_any ns _ _ g4⟩
/-- a tuple all of whose items are quiet is so -/
theorem quiet_tup {k : Nat} {a : Addr} {o : Obj} {items : Array Value} {n : Nat} {Q : Bool → Shared → Prop} (ho : s.heap.get? a = some o) (hc : o.cls = .type "tuple") (hd : o.data = .seq items n)
    (hq : ∀ v ∈ items.toList, ∀ (E' : Value → Shared → Prop) (Q' : Bool → Shared → Prop), Q' true s → wpAny (model prog w) A (eqIsQuiet k v) Q' E' s) (h : Q true s) : wpAny (model prog w) A (eqIsQuiet (k + 1) (.ref a)) Q E s := by
  have ty : s.TypeIs (.ref a) "tuple" := ⟨o, ho, hc⟩
  unfold eqIsQuiet
  refine wpAny_bind (wpAny_specialOf ty F.slot_tuple_eq.lookup ?_)
  show wpAny _ _ (isInstance (.ref a) (.type "tuple") >>= fun _ => _) _ _ s
  refine wpAny_bind (wpAny_isInstance ty isSubtype_tuple_tuple ?_)
  simp only [Bool.false_eq_true, Bool.not_true, if_false]
  refine wpAny_bind (wpAny_seqItems ho hd (wpAny_bind ?_))
  show wpAny _ _ (forIn items _ _) _ _ s
  rw [← Array.forIn_toList]
  refine wpAny_forIn_list _ (fun left acc s1 => acc.1 = none ∧ s1 = s ∧ ∀ v ∈ left, v ∈ items.toList) _ ?_ ?_ _ _ ⟨rfl, rfl, fun _ m => m⟩
  · rintro v left acc s1 ⟨e1, e2, hm⟩
    subst e2
    refine wpAny_bind (hq v (hm v List.mem_cons_self) _ _ ?_)
    simp only [Bool.false_eq_true, Bool.not_true, if_false]
    exact wpAny_pure ⟨rfl, rfl, fun u hu => hm u (List.mem_cons_of_mem _ hu)⟩
  · rintro ⟨acc1, acc2⟩ s1 ⟨e1, e2, _⟩
    subst e2
    have e1' : acc1 = none := e1
    subst e1'
    exact wpAny_pure h
theorem ints_items {h : Heap} : ∀ (ns : List Int) (vs : List Value) (as : List Addr), ReadsAll h vs (ns.map PyData.int) as → ItemsAre (intKind prog w) ns vs
  | [], _, _, r => by
    cases r
    exact .nil
  | n :: ns, _, _, r => by
    rw [List.map_cons] at r
    cases r with
    | cons h1 h2 =>
      cases h1
      exact .cons (by simp [intKind, Value.isInt]) (ints_items ns _ _ h2)
theorem row_quiet {k : RowK} {a : Addr} {Q : Bool → Shared → Prop} (r : IsRow s.heap k a) (h : Q true s) : wpAny (model prog w) A (eqIsQuiet 8 (.ref a)) Q E s := by
  obtain ⟨o, t, u, items, n, h1, h2, h3, h4, h5⟩ := row_parts r
  refine quiet_tup h1 h2 h3 (fun v hv E' Q' q => ?_) h
  rw [h4] at hv
  rcases List.mem_cons.mp hv with e | hv
  · rw [e, eqIsQuiet_byValue _ rfl]
    exact wpAny_pure q
  · rw [List.mem_singleton.mp hv]
    rcases h5 with ⟨i, t2, _, eu⟩ | ⟨ns, b, ob, its, m, _, eu, g1, g2, g3, g4⟩
    · rw [eu, eqIsQuiet_byValue _ rfl]
      exact wpAny_pure q
    · rw [eu]
      refine quiet_tup g1 g2 g3 (fun v hv E'' Q'' q' => ?_) q
      have by1 := (ints_items (prog := prog) (w := w) ns _ _ g4).byValue v hv
      rw [eqIsQuiet_byValue _ by1]
      exact wpAny_pure q'
/-- hash of a row -/
def rowH (w : World) : RowK → Int
  | (x, .inl i) => reduceHash (Builtin.Tuple.tupleHashOf [hashStr w x, hashInt i])
  | (x, .inr ns) => reduceHash (Builtin.Tuple.tupleHashOf [hashStr w x, reduceHash (Builtin.Tuple.tupleHashOf (ns.map hashInt))])
def rowN : RowK → Nat
  | (_, .inl _) => 3
  | (_, .inr ns) => 1 + (ns.length + 1) + 1
/-- v's hash is z, found with n new marks, wherever there is room -/
def HashTo (r : Nat) (prog : Program) (w : World) (h : Heap) (v : Value) (z : Int) (n : Nat) : Prop := ∀ (A : Around) (E : Value → Shared → Prop) (s : Shared) (Q : Int → Shared → Prop), A.units + r < cLine → s.heap = h → Q z { s with toks := s.toks + n } → wpAny (model prog w) A (pyHash v) Q E s
inductive AllHash (r : Nat) (prog : Program) (w : World) (h : Heap) : List Value → List Int → Nat → Prop
  | nil : AllHash r prog w h [] [] 0
  | cons {v : Value} {vs : List Value} {z : Int} {zs : List Int} {n m : Nat} : HashTo r prog w h v z n → AllHash r prog w h vs zs m → AllHash r prog w h (v :: vs) (z :: zs) (n + m)
theorem hash_tup {r : Nat} {a : Addr} {o : Obj} {items : Array Value} {n m : Nat} {zs : List Int} {Q : Int → Shared → Prop} (hu : A.units + (r + 3) < cLine) (ho : s.heap.get? a = some o) (hc : o.cls = .type "tuple") (hd : o.data = .seq items n)
    (hz : AllHash r prog w s.heap items.toList zs m) (h : Q (reduceHash (Builtin.Tuple.tupleHashOf zs)) { s with toks := s.toks + (m + 1) }) : wpAny (model prog w) A (pyHash (.ref a)) Q E s := by
  have ty : s.TypeIs (.ref a) "tuple" := ⟨o, ho, hc⟩
  unfold pyHash pyHashByItsType
  refine wpAny_bind (wpAny_cRoomFor_or (.inr (by omega)) (wpAny_bind (wpAny_specialOf ty F.slot_tuple_hash.lookup ?_)))
  show wpAny _ _ (if (some (Value.builtin "tuple.__hash__") == some Value.none) = true then _ else _) _ _ _
  rw [beq_builtin_none, if_neg Bool.false_ne_true]
  refine wpAny_bind (wpAny_specialOf ty F.slot_tuple_hash.lookup ?_)
  show wpAny _ _ (callSpecialIfBoundUnlessNone? (.ref a) "__hash__" _ >>= fun _ => _) _ _ _
  refine wpAny_bind (wpAny_callSpecialIfBoundUnlessNone?_slot ty F.slot_tuple_hash (wpAny_call_entry F.slot_tuple_hash ty F.entry_tuple_hash ?_ (F.args_tuple_hash_1 _)))
  show wpAny _ _ (Builtin.Tuple.tupleItemsOf (.ref a) >>= fun _ => _) _ _ _
  refine wpAny_bind (wpAny_tupleItemsOf ho hd (wpAny_bind ?_))
  rw [← Array.forIn_toList]
  refine wpAny_forIn_list _ (fun left (acc : Array Int) s1 => ∃ (d l : List Int) (i j : Nat), zs = d ++ l ∧ acc.toList = d ∧ i + j = m ∧ AllHash r prog w s.heap left l j ∧ s1 = { s with toks := s.toks + i }) _ ?_ ?_ _ _ ⟨[], zs, 0, m, rfl, rfl, Nat.zero_add m, hz, rfl⟩
  · rintro v left acc s1 ⟨d, l, i, j, e1, e2, e3, hl, rfl⟩
    cases hl with
    | @cons _ _ z zs' n' m' g1 g2 =>
      refine wpAny_bind (g1 _ _ _ _ ?_ rfl ?_)
      · show _ + 1 + r < cLine
        omega
      · have fin : ∃ (d' l' : List Int) (i' j' : Nat), zs = d' ++ l' ∧ (acc.push z).toList = d' ∧ i' + j' = m ∧ AllHash r prog w s.heap left l' j' ∧ ({ s with toks := s.toks + i + n' } : Shared) = { s with toks := s.toks + i' } :=
          ⟨d ++ [z], zs', i + n', m', by rw [e1]; simp, by rw [Array.toList_push, e2], by omega, g2, by rw [Nat.add_assoc]⟩
        first
          | exact wpAny_pure fin
          | exact wpAny_bind (wpAny_pure (wpAny_pure fin))
  · rintro acc s1 ⟨d, l, i, j, e1, e2, e3, hl, rfl⟩
    cases hl
    rw [List.append_nil] at e1
    subst e1
    show wpAny _ _ (retInt (Builtin.Tuple.tupleHashOf acc.toList)) _ _ _
    rw [e2]
    refine wpAny_ret_mkInt ?_
    show wpAny _ _ (if (decide (-(2 : Int) ^ 63 ≤ Builtin.Tuple.tupleHashOf zs) && decide (Builtin.Tuple.tupleHashOf zs < 2 ^ 63)) = true then _ else _) _ _ _
    have em : s.toks + i + 1 = s.toks + (m + 1) := by omega
    unfold reduceHash at h
    split
    · rename_i hr
      rw [if_pos hr] at h
      refine wpAny_pure ?_
      rw [show ({ s with toks := s.toks + i + 1 } : Shared) = { s with toks := s.toks + (m + 1) } from by rw [em]]
      exact h
    · rename_i hr
      rw [if_neg hr] at h
      refine wpAny_bind (wpAny_rule (wpAny_pure ?_))
      rw [show ({ s with toks := s.toks + i + 1 } : Shared) = { s with toks := s.toks + (m + 1) } from by rw [em]]
      exact h
theorem hash_int {r : Nat} {h : Heap} (i : Int) (t : Tok) : HashTo r prog w h (.int i t) (hashInt i) 1 := fun A E s Q _ _ q => (intKind prog w).pyHash (k := i) (by simp [intKind, Value.isInt]) q
theorem hash_str {r : Nat} {h : Heap} (x : Str) (t : Tok) : HashTo r prog w h (.str x t) (hashStr w x) 1 := fun A E s Q _ _ q => (strKind prog w).pyHash (k := x) (by simp [strKind, Value.isStrOf]) q
theorem ints_hash {r : Nat} {h : Heap} : ∀ (ns : List Int) (vs : List Value) (as : List Addr), ReadsAll h vs (ns.map PyData.int) as → AllHash r prog w h vs (ns.map hashInt) ns.length
  | [], _, _, r => by
    cases r
    exact .nil
  | n :: ns, _, _, r => by
    rw [List.map_cons] at r
    cases r with
    | cons h1 h2 =>
      cases h1
      rw [List.length_cons, Nat.add_comm]
      exact .cons (hash_int _ _) (ints_hash ns _ _ h2)
theorem row_hash {k : RowK} {a : Addr} {Q : Int → Shared → Prop} (hu : A.units + 10 < cLine) (r : IsRow s.heap k a) (h : Q (rowH w k) { s with toks := s.toks + rowN k }) : wpAny (model prog w) A (pyHash (.ref a)) Q E s := by
  obtain ⟨o, t, u, items, n, h1, h2, h3, h4, h5⟩ := row_parts r
  obtain ⟨x, y⟩ := k
  rcases h5 with ⟨i, t2, e, rfl⟩ | ⟨ns, b, ob, its, m, e, rfl, g1, g2, g3, g4⟩
  · have e' : y = .inl i := e
    subst e'
    refine hash_tup (r := 5) (m := 2) (by omega) h1 h2 h3 (zs := [hashStr w x, hashInt i]) ?_ h
    rw [h4]
    exact AllHash.cons (hash_str x t) (AllHash.cons (hash_int i t2) .nil)
  · have e' : y = .inr ns := e
    subst e'
    refine hash_tup (r := 5) (m := 1 + (ns.length + 1)) (by omega) h1 h2 h3 (zs := [hashStr w x, reduceHash (Builtin.Tuple.tupleHashOf (ns.map hashInt))]) ?_ h
    rw [h4]
    refine AllHash.cons (hash_str x t) ?_
    have z : AllHash 5 prog w s.heap [Value.ref b] [reduceHash (Builtin.Tuple.tupleHashOf (ns.map hashInt))] ((ns.length + 1) + 0) := .cons (fun A' E' s' Q' hu' hs' q' => ?_) .nil
    · exact z
    · rw [← hs'] at g1 g4
      exact hash_tup (r := 1) (by omega) g1 g2 g3 (ints_hash ns _ _ g4) q'
end
/-- rows as keys -/
def rowKind (prog : Program) (w : World) : HeapKind prog w RowK where
  is := IsRow
  hash := rowH w
  draws := rowN
  room := fun A => A.units + 64 < cLine
  inj := isRow_inj
  keeps := row_keeps
  pyHash := fun hu hk h => row_hash (by omega) hk h
  eqBool := fun hu hx hy h => row_eq hu hx hy h
  quiet := fun hk h => row_quiet hk h
end Tp
set_option Elab.async false
set_option linter.all false
set_option maxRecDepth 100000
set_option maxHeartbeats 4000000
/-! a dict the keys of which are rows of a book -/
namespace Tp
open PySem PySem.Spec PyProof.Rows L2
/-- a tuple is the row k -/
def RowAt (K : PySem.W.Frag) (H : Hp) (k : RowK) (a : Addr) : Prop := PyData.strOk k.1 = true ∧ ((∃ n : Int, k.2 = .inl n ∧ SqT K H a [.str k.1, .int n]) ∨ ∃ (ns : List Int) (b : Addr), k.2 = .inr ns ∧ SqT K H a [.str k.1, .ref b] ∧ SqT K H b (ns.map V.int))
theorem RowAt.mono {K : PySem.W.Frag} {H H' : Hp} {k : RowK} {a : Addr} (ht : ∀ b ys, SqT K H b ys → SqT K H' b ys) (h : RowAt K H k a) : RowAt K H' k a := by
  obtain ⟨h1, h2⟩ := h
  refine ⟨h1, ?_⟩
  rcases h2 with ⟨n, e, h⟩ | ⟨ns, b, e, g1, g2⟩
  · exact .inl ⟨n, e, ht _ _ h⟩
  · exact .inr ⟨ns, b, e, ht _ _ g1, ht _ _ g2⟩
theorem vals_intsR {h : Heap} : ∀ (ns : List Int) (us : List Value), Vals (ns.map V.int) us → ReadsAll h us (ns.map PyData.int) []
  | [], us, r => by
    cases us with
    | nil => exact .nil
    | cons u us => cases r
  | n :: ns, us, r => by
    rw [List.map_cons] at r ⊢
    cases r with
    | cons r1 r2 =>
      obtain ⟨t, rfl⟩ := r1
      exact ReadsAll.cons (as := []) (bs := []) (.int n t) (vals_intsR ns _ r2)
theorem row_is {X : Cx} {pins : List (Addr × Obj)} {σ : L2.St} {s : Shared} {H : Hp} {k : RowK} {a : Addr} (I : Inv X pins σ H s) (r : RowAt X.K H k a) : IsRow s.heap k a := by
  obtain ⟨h0, h1⟩ := r
  rcases h1 with ⟨n, e, ea⟩ | ⟨ns, b, e, ea, eb⟩
  · obtain ⟨its, rv, ⟨o, g1, g2, m, g3⟩, _⟩ := I.tuple ea
    obtain ⟨u1, u2, rfl, ⟨t1, rfl⟩, ⟨t2, rfl⟩⟩ := vals2 rv
    exact row_of h0 g1 g2 g3 (t := t1) (by simp) (.inl ⟨n, t2, e, rfl⟩)
  · obtain ⟨its, rv, ⟨o, g1, g2, m, g3⟩, _⟩ := I.tuple ea
    obtain ⟨jts, rj, ⟨ob, j1, j2, mj, j3⟩, _⟩ := I.tuple eb
    obtain ⟨u1, u2, rfl, ⟨t1, rfl⟩, r2⟩ := vals2 rv
    cases (show u2 = Value.ref b from r2)
    exact row_of h0 g1 g2 g3 (t := t1) (by simp) (.inr ⟨ns, b, ob, jts.toArray, mj, e, rfl, j1, j2, j3, by simpa using vals_intsR ns jts rj⟩)
/-- keys, where they lie, values -/
abbrev RowE : Type := RowK × Addr × V
abbrev KR : List RowE → List (RowK × Addr × Value) → Prop := Paired fun p q => p.1 = q.1 ∧ p.2.1 = q.2.1 ∧ RelV p.2.2 q.2.2
/-- the dict at d -/
def dRow (P : Program) (w : World) (d : Addr) (xs : List RowE) : HO := .ext fun h => xs.length ≤ sizeLine ∧ (d == sysModules) = false ∧ ∃ (ys : List (RowK × Addr × Value)) (o : Obj) (es : Array DictEntry) (ep : Nat), KR xs ys ∧ h.get? d = some o ∧ o.ExactDict ∧ o.data = .dict es ep ∧
  es.toList = ys.map (entryOfKey (rowKind P w)) ∧ (ys.map (·.1)).Nodup
def RowsIn (K : PySem.W.Frag) (H : Hp) (xs : List RowE) : Prop := ∀ x ∈ xs, RowAt K H x.1 x.2.1
def findR (xs : List RowE) (k : RowK) : Option V := (xs.find? fun x => decide (x.1 = k)).map (·.2.2)
section
variable {P : Program} {w : World} {H : Hp} {h : Heap} {d : Addr} {xs : List RowE}
theorem dRow_ok {ys : List (RowK × Addr × Value)} {o : Obj} {es : Array DictEntry} {ep : Nat} (z : xs.length ≤ sizeLine) (hd : (d == sysModules) = false) (r : KR xs ys) (h1 : h.get? d = some o) (h2 : o.ExactDict) (h3 : o.data = .dict es ep) (h4 : es.toList = ys.map (entryOfKey (rowKind P w))) (h5 : (ys.map (·.1)).Nodup) : ObjOk P w H h d (dRow P w d xs) :=
  ⟨⟨z, hd, ys, o, es, ep, r, h1, h2, h3, h4, h5⟩, ⟨o, h1⟩, fun g1 g2 q k => by
    obtain ⟨z, hd, ys, o, es, ep, r, h1, h2⟩ := q
    exact ⟨z, hd, ys, o, es, ep, r, k _ h1, h2⟩⟩
theorem find_rel (k : RowK) : ∀ {xs : List RowE} {ys : List (RowK × Addr × Value)}, KR xs ys → RelO (findR xs k) ((atKey ys k).map (·.2))
  | _, _, .nil => True.intro
  | x :: xs, y :: ys, .cons hq t => by
    have ih := find_rel k t
    unfold findR atKey at ih ⊢
    rw [List.find?_cons, List.find?_cons, hq.1]
    by_cases e : y.1 = k
    · simp only [e, decide_true]
      exact hq.2.2
    · simp only [e, decide_false]
      exact ih
end
section
variable {X : Cx} {pins : List (Addr × Obj)} {σ : L2.St} {H : Hp} {s : Shared} {d a : Addr} {xs : List RowE} {k : RowK} {A : Around} {E : Value → Shared → Prop}
theorem dRow_at (I : Inv X pins σ H s) (e : H d = some (dRow X.prog X.w d xs)) (hr : RowsIn X.K H xs) : xs.length ≤ sizeLine ∧ (d == sysModules) = false ∧ ∃ ys, KR xs ys ∧ s.heap.DictOfH (rowKind X.prog X.w) d ys := by
  have x : ObjOk X.prog X.w H s.heap d (.ext _) := I.hok d _ e
  obtain ⟨z, hd, ys, o, es, ep, r, h1, h2, h3, h4, h5⟩ := x.1
  refine ⟨z, hd, ys, r, o, es, ep, h1, h2, h3, h4, ?_, h5⟩
  have all : ∀ {l : List RowE} {m : List (RowK × Addr × Value)}, KR l m → (∀ x ∈ l, RowAt X.K H x.1 x.2.1) → ∀ y ∈ m, IsRow s.heap y.1 y.2.1 := by
    intro l m q
    induction q with
    | nil => exact fun _ y hy => absurd hy List.not_mem_nil
    | @cons p q ps qs hq t ih =>
      intro hl y hy
      rcases List.mem_cons.mp hy with e | hy
      · have := row_is I (hl p List.mem_cons_self)
        rw [e, ← hq.1, ← hq.2.1]
        exact this
      · exact ih (fun x hx => hl x (List.mem_cons_of_mem _ hx)) y hy
  exact all r hr
theorem rd_in {Q : Value → Shared → Prop} (hu : A.units + 65 < cLine) (I : Inv X pins σ H s) (e : H d = some (dRow X.prog X.w d xs)) (hr : RowsIn X.K H xs) (ek : RowAt X.K H k a) (h : ∀ s', Inv X pins σ H s' → Q (.bool (findR xs k).isSome) s') :
    wpAny (model X.prog X.w) A (compareOp .In (.ref a) (.ref d)) Q E s := by
  obtain ⟨z, hd, ys, rel, dd⟩ := dRow_at I e hr
  refine wpAny_in_heap (knd := rowKind X.prog X.w) (k := k) (show A.units + 1 + 64 < cLine from by omega) (row_is I ek) hd dd ?_
  have q := (find_rel k rel).isSome_eq
  rw [Option.isSome_map] at q
  rw [← q]
  exact h _ (I.tok _)
theorem rd_get {v : V} {Q : Value → Shared → Prop} (hu : A.units + 65 < cLine) (I : Inv X pins σ H s) (e : H d = some (dRow X.prog X.w d xs)) (hr : RowsIn X.K H xs) (ek : RowAt X.K H k a) (l : findR xs k = some v) (h : ∀ w' s', Inv X pins σ H s' → RelV v w' → Q w' s') :
    wpAny (model X.prog X.w) A (getItem (.ref d) (.ref a)) Q E s := by
  obtain ⟨z, hd, ys, rel, dd⟩ := dRow_at I e hr
  obtain ⟨w', hw, rw'⟩ := RelO.some_of (v := v) (o := (atKey ys k).map (·.2)) (by rw [← l]; exact find_rel k rel)
  obtain ⟨p, hp, hp2⟩ := Option.map_eq_some_iff.mp hw
  refine wpAny_getItem_heap (knd := rowKind X.prog X.w) (k := k) (show A.units + 1 + 64 < cLine from by omega) (row_is I ek) dd hp ?_
  rw [hp2]
  exact h w' _ (I.tok _) rw'
/-- a new row -/
theorem rd_put {v : V} {r : Value} {Q : Unit → Shared → Prop} (hu : A.units + 65 < cLine) (I : Inv X pins σ H s) (e : H d = some (dRow X.prog X.w d xs)) (hr : RowsIn X.K H xs) (ek : RowAt X.K H k a) (l : findR xs k = none) (hz : xs.length < sizeLine) (rv : RelV v r)
    (h : ∀ s', Inv X pins σ (upd H d (dRow X.prog X.w d (xs ++ [(k, a, v)]))) s' → Q () s') : wpAny (model X.prog X.w) A (setItem (.ref d) (.ref a) r) Q E s := by
  obtain ⟨z, hd, ys, rel, dd⟩ := dRow_at I e hr
  have hn : atKey ys k = none := Option.map_eq_none_iff.mp (RelO.none_of (by rw [← l]; exact find_rel k rel))
  have hzy : ys.length ≤ sizeLine := by rw [← Paired.length rel]; exact z
  refine wpAny_setItem_heap (knd := rowKind X.prog X.w) (k := k) (hsz := hzy) (show A.units + 1 + 64 < cLine from by omega) (row_is I ek) dd fun h' dd' hs => h _ ?_
  obtain ⟨o, es, ep, h1, h2, h3, h4, _, h5⟩ := dd'
  rw [storedH_new hn] at h4 h5
  exact d_write I (by rw [e]; exact True.intro) hs ⟨o, h1⟩ (dRow_ok (by rw [List.length_append, List.length_singleton]; omega) hd (Paired.snoc rel ⟨rfl, rfl, rv⟩) h1 h2 h3 h4 h5)
end
end Tp
set_option Elab.async false
set_option linter.all false
set_option maxRecDepth 100000
set_option maxHeartbeats 4000000
/-! rules: {}, row in d, row not in d, d[row], d[row] = v -/
namespace Tp
open PySem PySem.Spec PyProof.Rows L2
def tRNew (P : Program) (w : World) : TE := fun _ H Q => ∀ p, H p = none → Q (.ref p) (upd H p (dRow P w p []))
/-- what is asked of the row at a and the dict at d -/
def RowIn (P : Program) (w : World) (K : PySem.W.Frag) (H : Hp) (x y : V) (xs : List RowE) (k : RowK) (a d : Addr) : Prop := x = .ref a ∧ y = .ref d ∧ H d = some (dRow P w d xs) ∧ RowsIn K H xs ∧ RowAt K H k a
def rRIn (P : Program) (w : World) (K : PySem.W.Frag) (no : Bool) : R2 := fun x y H Q => ∃ xs k a d, RowIn P w K H x y xs k a d ∧ Q (.bl ((findR xs k).isSome != no)) H
def tRGet (P : Program) (w : World) (K : PySem.W.Frag) (td ty : TE) : TE := fun σ H Q => td σ H fun y H1 => ty σ H1 fun x H2 => ∃ xs k a d v, RowIn P w K H2 x y xs k a d ∧ findR xs k = some v ∧ Q v H2
def tRPut (P : Program) (w : World) (K : PySem.W.Frag) (td ty tv : TE) : TS := fun D σ H => tv σ H fun v H1 => td σ H1 fun y H2 => ty σ H2 fun x H3 => ∃ xs k a d, RowIn P w K H3 x y xs k a d ∧ findR xs k = none ∧ xs.length < sizeLine ∧ D.nx σ (upd H3 d (dRow P w d (xs ++ [(k, a, v)])))
section
variable {X : Cx} {o i value : Expr} {pos pos' : Pos} {td ty tv : TE}
theorem pe_rnew : PE X (.Dict [] [] pos) (tRNew X.prog X.w) := ⟨fun pins s σ H Q I h =>
  wpAny_Dict_empty ⟨.ref s.heap.objs.size, _, I.laid (a := s.heap.objs.size) (o := dRow X.prog X.w s.heap.objs.size []) (t' := s.toks) (fun _ _ q => Heap.get?_push_of_some _ q) (Nat.le_refl _)
    (dRow_ok (Nat.zero_le _) (beq_eq_false_iff_ne.mpr (Ne.symm (Nat.ne_of_lt I.big))) .nil (Heap.get?_push_size _ rfl) ⟨rfl, rfl, rfl⟩ rfl rfl List.nodup_nil), rfl, h _ (I.hok.fresh (Nat.le_refl _))⟩⟩
theorem op_rin (hu : X.A.units + 65 < cLine) : OpR X (compareOp .In) (rRIn X.prog X.w X.K false) := by
  intro pins s σ H x y u v Q I rx ry h
  obtain ⟨xs, k, a, d, ⟨rfl, rfl, ed, hr, ek⟩, q⟩ := h
  cases (show u = Value.ref a from rx)
  cases (show v = Value.ref d from ry)
  refine rd_in hu I ed hr ek fun s' J => ⟨.bl (findR xs k).isSome, H, J, rfl, ?_⟩
  rwa [Bool.bne_false] at q
theorem op_rnotIn (hu : X.A.units + 65 < cLine) : OpR X (compareOp .NotIn) (rRIn X.prog X.w X.K true) := by
  intro pins s σ H x y u v Q I rx ry h
  obtain ⟨xs, k, a, d, ⟨rfl, rfl, ed, hr, ek⟩, q⟩ := h
  cases (show u = Value.ref a from rx)
  cases (show v = Value.ref d from ry)
  obtain ⟨z, hd, ys, rel, dd⟩ := dRow_at I ed hr
  refine wpAny_notIn_heap (knd := rowKind X.prog X.w) (k := k) (show X.A.units + 1 + 64 < cLine from by omega) (row_is I ek) hd dd ⟨.bl (!(findR xs k).isSome), H, I.tok _, ?_, ?_⟩
  · have e := (find_rel k rel).isSome_eq
    rw [Option.isSome_map] at e
    rw [← e]
    rfl
  · rwa [Bool.bne_true] at q
theorem pe_rget (hu : X.A.units + 65 < cLine) (ho : PE X o td) (hi : PE X i ty) (hs : NoSl i) : PE X (.Subscript o i pos) (tRGet X.prog X.w X.K td ty) := by
  refine ⟨fun pins s σ H Q I h => ?_⟩
  refine subD_of PySem.F.slot_dict_getitem.lookup hs (thn (ho.run pins s σ H _ I h) fun u s1 ⟨y, H1, I1, r1, q1⟩ => thn (hi.run pins s1 σ H1 _ I1 q1) fun v s2 ⟨x, H2, I2, r2, xs, k, a, d, c, ⟨ex, ey, ed, hr, ek⟩, l, q2⟩ => ?_)
  subst ex ey
  cases (show u = Value.ref d from r1)
  cases (show v = Value.ref a from r2)
  obtain ⟨z, hd, ys, rel, dd⟩ := dRow_at I2 ed hr
  exact ⟨dd.typeIs, rd_get hu I2 ed hr ek l fun w' s3 I3 rw' => ⟨c, H2, I3, rw', q2⟩⟩
theorem ps_rput (hu : X.A.units + 65 < cLine) (ho : PE X o td) (hi : PE X i ty) (hv : PE X value tv) (hs : swapsWith value (some (.Subscript o i pos')) pos.line X.env = pure false) :
    PS X (.Assign [.Subscript o i pos'] value pos) (tRPut X.prog X.w X.K td ty tv) := by
  refine ⟨fun pins s σ H D I h => ?_⟩
  refine wpAny_Assign_Subscript (thn (hv.run pins s σ H _ I h) fun r s1 ⟨v, H1, I1, rv, q1⟩ => thn (ho.run pins s1 σ H1 _ I1 q1) fun u s2 ⟨y, H2, I2, r2, q2⟩ => thn (hi.run pins s2 σ H2 _ I2 q2) fun iv s3 ⟨x, H3, I3, r3, xs, k, a, d, ⟨ex, ey, ed, hr, ek⟩, l, hz, q3⟩ => ?_) hs
  subst ex ey
  cases (show u = Value.ref d from r2)
  cases (show iv = Value.ref a from r3)
  exact rd_put hu I3 ed hr ek l hz rv fun s4 I4 => ⟨σ, _, I4, q3⟩
theorem ps_rputK {P : Program} {w : World} {K : PySem.W.Frag} (eP : X.prog = P) (ew : X.w = w) (eK : X.K = K) (hu : X.A.units + 65 < cLine) (ho : PE X o td) (hi : PE X i ty) (hv : PE X value tv) (hs : swapsWith value (some (.Subscript o i pos')) pos.line X.env = pure false) :
    PS X (.Assign [.Subscript o i pos'] value pos) (tRPut P w K td ty tv) := by
  subst eP
  subst ew
  subst eK
  exact ps_rput hu ho hi hv hs
theorem pe_rnewK {P : Program} {w : World} (eP : X.prog = P) (ew : X.w = w) : PE X (.Dict [] [] pos) (tRNew P w) := by
  subst eP
  subst ew
  exact pe_rnew
end
end Tp
set_option Elab.async false
set_option linter.all false
set_option maxRecDepth 100000
set_option maxHeartbeats 4000000
/-! books: the rows, the tables beside them, where they stand; max with a default -/
namespace Tp
open PySem PySem.Spec PyProof.Rows L2
/-! ### max(xs, default=k) -/
def rMaxDef (K : PySem.W.Frag) : List V → List V → Hp → VK → Prop := fun vs zs H Q => ∃ (a : Addr) (ns : List Int) (k : Int), vs = [.ref a] ∧ zs = [.int k] ∧ SqL K H a (ns.map V.int) ∧ ∀ m : Int, (ns = [] ∧ m = k ∨ m ∈ ns ∧ ∀ n ∈ ns, n ≤ m) → Q (.int m) H
open PySem.W (maxOf DatumOrd Datum max_list_datum_default) in
theorem maxOf_is : ∀ (ys : List Int) (y : Int), (maxOf y ys ∈ y :: ys) ∧ ∀ n ∈ y :: ys, n ≤ maxOf y ys
  | [], y => ⟨List.mem_cons_self, fun n hn => by
      have : n = y := by simpa using hn
      rw [this]
      exact Int.le_refl _⟩
  | z :: ys, y => by
    have e : maxOf y (z :: ys) = maxOf (if DatumOrd.lt y z = true then z else y) ys := rfl
    have lt : DatumOrd.lt y z = decide (y < z) := rfl
    rw [e, lt]
    by_cases h : y < z
    · rw [decide_eq_true h, if_pos rfl]
      obtain ⟨h1, h2⟩ := maxOf_is ys z
      refine ⟨List.mem_cons_of_mem _ h1, fun n hn => ?_⟩
      rcases List.mem_cons.mp hn with rfl | hn
      · exact Int.le_trans (Int.le_of_lt h) (h2 z List.mem_cons_self)
      · exact h2 n hn
    · rw [decide_eq_false h, if_neg (by decide)]
      obtain ⟨h1, h2⟩ := maxOf_is ys y
      refine ⟨?_, fun n hn => ?_⟩
      · rcases List.mem_cons.mp h1 with e | e
        · rw [e]
          exact List.mem_cons_self
        · exact List.mem_cons_of_mem _ (List.mem_cons_of_mem _ e)
      · rcases List.mem_cons.mp hn with rfl | hn
        · exact h2 n List.mem_cons_self
        · rcases List.mem_cons.mp hn with rfl | hn
          · exact Int.le_trans (Int.not_lt.mp h) (h2 y List.mem_cons_self)
          · exact h2 n (List.mem_cons_of_mem _ hn)
open PySem.W (Datum) in
theorem ints_hold {h : Heap} : ∀ {its : List Value} {ns : List Int}, Vals (ns.map V.int) its → ReadsAll h its (ns.map Datum.toD) []
  | its, [], r => by
    cases its with
    | nil => exact .nil
    | cons u us => cases r
  | its, n :: ns, r => by
    rw [List.map_cons] at r ⊢
    cases r with
    | cons r1 r2 =>
      obtain ⟨t, rfl⟩ := r1
      exact ReadsAll.cons (as := []) (bs := []) (.int n t) (ints_hold r2)
open PySem.W (maxOf DatumOrd Datum max_list_datum_default) in
theorem cr_maxDef {X : Cx} (hc : X.calm = true) (hu : X.A.units + 64 < cLine) : CallRK X (.builtin "max") [Str.ofString "default"] (rMaxDef X.K) := by
  intro pins s σ H vs zs us ws Q I r rz h
  obtain ⟨a, ns, k, rfl, rfl, hs, q⟩ := h
  obtain ⟨its, rv, hl, _⟩ := I.list hs
  rw [Vals.ref1 r]
  obtain ⟨w1, rfl, t, rfl⟩ := vals1 rz
  refine max_list_datum_default (xs := ns) (I.ok.hd hc) hl.isList ⟨_, ints_hold (by simpa using rv)⟩ ?_ (fun e h' tk hk => ⟨.int k, H, I.kept hk, ⟨_, rfl⟩, q k (.inl ⟨e, rfl⟩)⟩) fun y ys i v h' tk e hi hv hk => ?_
  · show X.A.units + 1 + 0 < cLine
    omega
  · obtain ⟨as, hr⟩ := hv
    have hr : Reads h' v (.int (maxOf y ys)) as := hr
    cases hr
    subst e
    exact ⟨.int _, H, I.kept hk, ⟨_, rfl⟩, q _ (.inr (maxOf_is ys y))⟩
/-! ### the rows of a book, and the tables beside them -/
/-- the numbers of the arguments -/
def argsK : RowK → List Int
  | (_, .inl _) => []
  | (_, .inr ns) => ns
/-- a term as a text, from the texts of its arguments -/
def textK : RowK → List Str → Str
  | (x, .inl n), _ => x ++ "@" ++ toString n
  | (x, .inr []), _ => x
  | (x, .inr (_ :: _)), ts => x ++ "(" ++ Txt.join "," ts ++ ")"
def atL (l : List Int) (i : Int) : Int := l.getD i.toNat 0
def sumAt (l : List Int) (k : RowK) : Int := ((argsK k).map (atL l)).sum
def maxAt (l : List Int) (k : RowK) : Int := ((argsK k).map (atL l)).foldl max 0
def bareK (k : RowK) : Int := ((textK k (List.replicate (argsK k).length ("" : Str))).length : Nat)
def szs : List RowK → List Int := fun rs => rs.foldl (fun l k => l ++ [1 + sumAt l k]) []
def dps : List RowK → List Int := fun rs => rs.foldl (fun l k => l ++ [1 + maxAt l k]) []
def lns : List RowK → List Int := fun rs => rs.foldl (fun l k => l ++ [bareK k + sumAt l k]) []
theorem szs_snoc (rs : List RowK) (k : RowK) : szs (rs ++ [k]) = szs rs ++ [1 + sumAt (szs rs) k] := by unfold szs; rw [List.foldl_append]; rfl
theorem dps_snoc (rs : List RowK) (k : RowK) : dps (rs ++ [k]) = dps rs ++ [1 + maxAt (dps rs) k] := by unfold dps; rw [List.foldl_append]; rfl
theorem lns_snoc (rs : List RowK) (k : RowK) : lns (rs ++ [k]) = lns rs ++ [bareK k + sumAt (lns rs) k] := by unfold lns; rw [List.foldl_append]; rfl
theorem fold_len {g : List Int → RowK → Int} : ∀ (rs : List RowK) (l : List Int), (rs.foldl (fun l k => l ++ [g l k]) l).length = l.length + rs.length
  | [], _ => rfl
  | k :: rs, l => by
    rw [List.foldl_cons, fold_len rs, List.length_append, List.length_singleton, List.length_cons]
    omega
theorem szs_len (rs : List RowK) : (szs rs).length = rs.length := by unfold szs; rw [fold_len (g := fun l k => 1 + sumAt l k)]; simp
theorem dps_len (rs : List RowK) : (dps rs).length = rs.length := by unfold dps; rw [fold_len (g := fun l k => 1 + maxAt l k)]; simp
theorem lns_len (rs : List RowK) : (lns rs).length = rs.length := by unfold lns; rw [fold_len (g := fun l k => bareK k + sumAt l k)]; simp
theorem max_fold : ∀ (ns : List Int) (m b : Int), (∀ n ∈ ns, n ≤ m) → b ≤ m → (m = b ∨ m ∈ ns) → ns.foldl max b = m
  | [], m, b, _, _, h => h.elim (fun e => e.symm) fun z => absurd z List.not_mem_nil
  | n :: ns, m, b, h, hb, hm => by
    have h0 := h n List.mem_cons_self
    refine max_fold ns m (max b n) (fun x hx => h x (List.mem_cons_of_mem _ hx)) (by omega) ?_
    rcases hm with e | e
    · exact .inl (by omega)
    · rcases List.mem_cons.mp e with e | e
      · exact .inl (by omega)
      · exact .inr e
theorem max_is {ns : List Int} {m : Int} (h : ns = [] ∧ m = 0 ∨ m ∈ ns ∧ ∀ n ∈ ns, n ≤ m) (h0 : ∀ n ∈ ns, 0 ≤ n) : m = ns.foldl max 0 := by
  rcases h with ⟨rfl, rfl⟩ | ⟨h1, h2⟩
  · rfl
  · exact (max_fold ns m 0 h2 (h0 m h1) (.inr h1)).symm
theorem fold_ge : ∀ (ns : List Int) (b : Int), b ≤ ns.foldl max b
  | [], b => Int.le_refl b
  | n :: ns, b => by
    have := fold_ge ns (max b n)
    show b ≤ ns.foldl max (max b n)
    omega
theorem fold_pos {g : List Int → RowK → Int} (hg : ∀ l k, 0 ≤ g l k) : ∀ (rs : List RowK) (l : List Int), (∀ x ∈ l, 0 ≤ x) → ∀ x ∈ rs.foldl (fun l k => l ++ [g l k]) l, 0 ≤ x
  | [], _, h => h
  | k :: rs, l, h => fold_pos hg rs _ fun x hx => by
    rcases List.mem_append.mp hx with e | e
    · exact h x e
    · rw [List.mem_singleton.mp e]
      exact hg l k
theorem dps_pos (rs : List RowK) : ∀ x ∈ dps rs, 0 ≤ x := fold_pos (g := fun l k => 1 + maxAt l k) (fun l k => by
  have := fold_ge ((argsK k).map (atL l)) 0
  unfold maxAt
  omega) rs [] fun x hx => absurd hx List.not_mem_nil
theorem atL_pos {l : List Int} (h : ∀ x ∈ l, 0 ≤ x) (i : Int) : 0 ≤ atL l i := by
  unfold atL
  rw [List.getD_eq_getElem?_getD]
  cases e : l[i.toNat]? with
  | none => exact Int.le_refl 0
  | some x => exact h x (List.mem_of_getElem? e)
/-- may the row stand behind n rows? -/
def OkK (n : Nat) (k : RowK) : Prop := nameB (TL.tl k.1) = true ∧ match k.2 with
  | .inl t => 0 ≤ t ∧ t.natAbs.log2 < 1000
  | .inr ns => ns.length ≤ 3 ∧ ∀ i ∈ ns, 0 ≤ i ∧ i < (n : Int)
def OkRows (rs : List RowK) : Prop := ∀ i k, rs[i]? = some k → OkK i k
theorem okRows_nil : OkRows [] := fun i k e => by simp at e
theorem okRows_snoc {rs : List RowK} {k : RowK} (h : OkRows rs) (hk : OkK rs.length k) : OkRows (rs ++ [k]) := fun i j e => by
  rcases Nat.lt_or_ge i rs.length with hi | hi
  · rw [List.getElem?_append_left hi] at e
    exact h i j e
  · rw [List.getElem?_append_right hi] at e
    have h0 : i - rs.length = 0 := by
      rcases Nat.eq_zero_or_pos (i - rs.length) with z | z
      · exact z
      · rw [List.getElem?_eq_none (by rw [List.length_singleton]; omega)] at e
        cases e
    rw [h0] at e
    cases e
    have : i = rs.length := by omega
    rw [this]
    exact hk
theorem name_ok {x : Str} (h : nameB (TL.tl x) = true) : PyData.strOk x = true ∧ x.length ≤ 8 := by
  unfold nameB at h
  simp only [Bool.and_eq_true, decide_eq_true_eq] at h
  obtain ⟨⟨_, h1⟩, _, h2⟩ := h
  refine ⟨?_, by rw [TL.len_tl]; exact h1⟩
  have h3 : ∀ c ∈ TL.tl x, c < 0x110000 := fun c hc => by
    have := (List.all_eq_true.mp h2) c hc
    simp only [lowB, digB, Bool.or_eq_true, decide_eq_true_eq] at this
    omega
  show x.cps.all _ = true
  rw [← Array.all_toList]
  exact List.all_eq_true.mpr fun c hc => decide_eq_true (h3 c hc)
/-- what the dict holds -/
def entR : Nat → List RowK → List Addr → List RowE
  | i, k :: ks, a :: as => (k, a, .int (i : Nat)) :: entR (i + 1) ks as
  | _, _, _ => []
theorem entR_snoc : ∀ (i : Nat) (ks : List RowK) (as : List Addr) (k : RowK) (a : Addr), ks.length = as.length → entR i (ks ++ [k]) (as ++ [a]) = entR i ks as ++ [(k, a, .int ((i + ks.length : Nat)))]
  | i, [], [], k, a, _ => rfl
  | i, x :: ks, y :: as, k, a, h => by
    have ih := entR_snoc (i + 1) ks as k a (by simpa using h)
    show (x, y, V.int (i : Nat)) :: entR (i + 1) (ks ++ [k]) (as ++ [a]) = _
    rw [ih]
    have e : i + 1 + ks.length = i + (x :: ks).length := by rw [List.length_cons]; omega
    rw [e]
    rfl
  | _, [], _ :: _, _, _, h => by cases h
  | _, _ :: _, [], _, _, h => by cases h
theorem entR_len : ∀ (i : Nat) (ks : List RowK) (as : List Addr), ks.length = as.length → (entR i ks as).length = ks.length
  | i, [], [], _ => rfl
  | i, x :: ks, y :: as, h => congrArg Nat.succ (entR_len (i + 1) ks as (by simpa using h))
  | _, [], _ :: _, h => by cases h
  | _, _ :: _, [], h => by cases h
theorem findR_none : ∀ (i : Nat) (ks : List RowK) (as : List Addr) (k : RowK), k ∉ ks → findR (entR i ks as) k = none
  | i, [], _, k, _ => rfl
  | i, x :: ks, [], k, _ => rfl
  | i, x :: ks, y :: as, k, h => by
    have ih := findR_none (i + 1) ks as k fun z => h (List.mem_cons_of_mem _ z)
    unfold findR at ih ⊢
    show (List.find? _ ((x, y, V.int (i : Nat)) :: entR (i + 1) ks as)).map _ = none
    rw [List.find?_cons, show decide (x = k) = false from decide_eq_false fun z => h (by rw [z]; exact List.mem_cons_self)]
    exact ih
theorem findR_some : ∀ (i : Nat) (ks : List RowK) (as : List Addr) (k : RowK) (j : Nat), ks.length = as.length → ks[j]? = some k → (∀ m, m < j → ks[m]? ≠ some k) → findR (entR i ks as) k = some (.int ((i + j : Nat)))
  | i, x :: ks, y :: as, k, 0, hl, e, _ => by
    have e' : x = k := by simpa using e
    unfold findR
    show (List.find? _ ((x, y, V.int (i : Nat)) :: entR (i + 1) ks as)).map _ = _
    rw [List.find?_cons, show decide (x = k) = true from decide_eq_true e']
    rfl
  | i, x :: ks, y :: as, k, j + 1, hl, e, hn => by
    have ih := findR_some (i + 1) ks as k j (by simpa using hl) (by simpa using e) fun m hm => by
      have := hn (m + 1) (by omega)
      simpa using this
    unfold findR at ih ⊢
    show (List.find? _ ((x, y, V.int (i : Nat)) :: entR (i + 1) ks as)).map _ = _
    have hx : x ≠ k := fun z => hn 0 (by omega) (by rw [z]; rfl)
    rw [List.find?_cons, show decide (x = k) = false from decide_eq_false hx]
    have e2 : i + 1 + j = i + (j + 1) := by omega
    rw [← e2]
    exact ih
  | _, [], _, _, _, _, e, _ => by simp at e
  | _, _ :: _, [], _, _, h, _, _ => by cases h
end Tp
set_option Elab.async false
set_option linter.all false
set_option maxRecDepth 100000
set_option maxHeartbeats 4000000
/-! where a book stands, and that it stands on -/
namespace Tp
open PySem PySem.Spec PyProof.Rows L2
def NotTup (H : Hp) (b : Addr) : Prop := ∀ xs, ¬ Rd H b (.tup xs)
/-- all that was tracked is as it was, but at S -/
def Frame (S : List Addr) (H H' : Hp) : Prop := ∀ b o, b ∉ S → H b = some o → H' b = some o
theorem Frame.of {S : List Addr} {H H' : Hp} (s : Same H H') : Frame S H H' := fun b o _ e => s b o e
theorem Frame.tr {S : List Addr} {A B D : Hp} (a : Frame S A B) (b : Frame S B D) : Frame S A D := fun x o h e => b x o h (a x o h e)
theorem Frame.wide {S T : List Addr} {H H' : Hp} (h : Frame S H H') (hs : ∀ b ∈ S, b ∈ T) : Frame T H H' := fun b o hb e => h b o (fun z => hb (hs b z)) e
theorem Frame.put {S : List Addr} {H : Hp} {l : Addr} {o : HO} (h : l ∈ S) : Frame S H (upd H l o) := fun b u hb e => by
  rw [upd_ne fun z => hb (by rw [z]; exact h)]
  exact e
theorem SqT.fr {K : PySem.W.Frag} {S : List Addr} {H H' : Hp} {a : Addr} {xs : List V} (f : Frame S H H') (hS : ∀ b ∈ S, NotTup H b) (h : SqT K H a xs) : SqT K H' a xs := by
  rcases h with h | h
  · have hn : a ∉ S := fun z => hS a z xs h
    rcases h with h | ⟨o, h⟩
    · exact .inl (.inl (f _ _ hn h))
    · exact .inl (.inr ⟨o, f _ _ hn h⟩)
  · exact .inr h
theorem not_lst {H : Hp} {b : Addr} {xs : List V} (h : H b = some (.lst xs)) : NotTup H b := fun ys r => by
  rcases r with r | ⟨o, r⟩
  · rw [h] at r
    cases r
  · rw [h] at r
    cases r
theorem not_ext {H : Hp} {b : Addr} {p : Heap → Prop} (h : H b = some (.ext p)) : NotTup H b := fun ys r => by
  rcases r with r | ⟨o, r⟩
  · rw [h] at r
    cases r
  · rw [h] at r
    cases r
abbrev bkF : List Str := ["_rows", "_numbers", "_sizes", "_depths", "_lengths"]
/-- a book at p; its lists and its dict at fp; its rows -/
structure BookAt (P : Program) (w : World) (K : PySem.W.Frag) (H : Hp) (C p : Addr) (fp : List Addr) (rs : List RowK) : Prop where
  ex : ∃ (dx l1 d l2 l3 l4 : Addr) (as : List Addr) (fs : List (Str × V)), fp = [l1, d, l2, l3, l4] ∧ fp.Nodup ∧ H p = some (.ins C dx fs) ∧
    fs.lookup ("_rows" : Str) = some (.ref l1) ∧ fs.lookup ("_numbers" : Str) = some (.ref d) ∧ fs.lookup ("_sizes" : Str) = some (.ref l2) ∧ fs.lookup ("_depths" : Str) = some (.ref l3) ∧ fs.lookup ("_lengths" : Str) = some (.ref l4) ∧ (∀ m, m ∉ bkF → fs.lookup m = none) ∧
    as.length = rs.length ∧ (∀ (i : Nat) (k : RowK) (a : Addr), rs[i]? = some k → as[i]? = some a → RowAt K H k a) ∧
    H l1 = some (.lst (as.map V.ref)) ∧ H d = some (dRow P w d (entR 0 rs as)) ∧ H l2 = some (.lst ((szs rs).map V.int)) ∧ H l3 = some (.lst ((dps rs).map V.int)) ∧ H l4 = some (.lst ((lns rs).map V.int)) ∧
    rs.Nodup ∧ OkRows rs ∧ rs.length ≤ 5000
section
variable {P : Program} {w : World} {K : PySem.W.Frag} {H H' : Hp} {C p : Addr} {fp : List Addr} {rs : List RowK}
theorem BookAt.notTup (B : BookAt P w K H C p fp rs) : ∀ b ∈ fp, NotTup H b := by
  obtain ⟨dx, l1, d, l2, l3, l4, as, fs, rfl, _, _, _, _, _, _, _, _, _, _, h1, h2, h3, h4, h5, _⟩ := B.ex
  intro b hb
  simp only [List.mem_cons, List.not_mem_nil, or_false] at hb
  rcases hb with rfl | rfl | rfl | rfl | rfl
  · exact not_lst h1
  · exact not_ext h2
  · exact not_lst h3
  · exact not_lst h4
  · exact not_lst h5
theorem BookAt.off (B : BookAt P w K H C p fp rs) : p ∉ fp := by
  obtain ⟨dx, l1, d, l2, l3, l4, as, fs, rfl, _, hp, _, _, _, _, _, _, _, _, h1, h2, h3, h4, h5, _⟩ := B.ex
  intro hb
  simp only [List.mem_cons, List.not_mem_nil, or_false] at hb
  rcases hb with rfl | rfl | rfl | rfl | rfl
  · rw [h1] at hp; cases hp
  · rw [h2] at hp; cases hp
  · rw [h3] at hp; cases hp
  · rw [h4] at hp; cases hp
  · rw [h5] at hp; cases hp
theorem BookAt.fr {S : List Addr} (B : BookAt P w K H C p fp rs) (f : Frame S H H') (hS : ∀ b ∈ S, NotTup H b) (hp : p ∉ S) (hf : ∀ b ∈ fp, b ∉ S) : BookAt P w K H' C p fp rs := by
  obtain ⟨dx, l1, d, l2, l3, l4, as, fs, rfl, nd, h0, a1, a2, a3, a4, a5, a6, b1, b2, h1, h2, h3, h4, h5, b3⟩ := B.ex
  exact ⟨⟨dx, l1, d, l2, l3, l4, as, fs, rfl, nd, f _ _ hp h0, a1, a2, a3, a4, a5, a6, b1, fun i k a e1 e2 => (b2 i k a e1 e2).mono fun b ys => SqT.fr f hS,
    f _ _ (hf _ (by simp)) h1, f _ _ (hf _ (by simp)) h2, f _ _ (hf _ (by simp)) h3, f _ _ (hf _ (by simp)) h4, f _ _ (hf _ (by simp)) h5, b3⟩⟩
theorem BookAt.up (B : BookAt P w K H C p fp rs) (s : Same H H') : BookAt P w K H' C p fp rs :=
  B.fr (S := []) (Frame.of s) (fun _ h => absurd h List.not_mem_nil) List.not_mem_nil fun _ _ => List.not_mem_nil
theorem BookAt.there (B : BookAt P w K H C p fp rs) : ∃ dx fs, H p = some (.ins C dx fs) ∧ ∀ m, m ∉ bkF → fs.lookup m = none := by
  obtain ⟨dx, l1, d, l2, l3, l4, as, fs, rfl, nd, h0, a1, a2, a3, a4, a5, a6, _⟩ := B.ex
  exact ⟨dx, fs, h0, a6⟩
end
/-- the rows with one more, if it is new -/
def hasR (rs : List RowK) (k : RowK) : Bool := rs.any fun j => decide (j = k)
theorem hasR_iff {rs : List RowK} {k : RowK} : hasR rs k = true ↔ k ∈ rs := by
  unfold hasR
  rw [List.any_eq_true]
  exact ⟨fun ⟨j, hj, e⟩ => by rw [← of_decide_eq_true e]; exact hj, fun h => ⟨k, h, decide_eq_true rfl⟩⟩
theorem hasR_not {rs : List RowK} {k : RowK} (h : hasR rs k = false) : k ∉ rs := fun z => by rw [hasR_iff.mpr z] at h; cases h
def addR (rs : List RowK) (k : RowK) : List RowK := if hasR rs k = true then rs else rs ++ [k]
def posR (rs : List RowK) (k : RowK) : Nat := (addR rs k).findIdx fun j => decide (j = k)
theorem posR_old {rs : List RowK} {k : RowK} (h : hasR rs k = true) : addR rs k = rs ∧ rs[posR rs k]? = some k ∧ ∀ m, m < posR rs k → rs[m]? ≠ some k := by
  have e : addR rs k = rs := by unfold addR; rw [if_pos h]
  unfold posR
  rw [e]
  have hl : rs.findIdx (fun j => decide (j = k)) < rs.length := List.findIdx_lt_length_of_exists ⟨k, hasR_iff.mp h, decide_eq_true rfl⟩
  refine ⟨rfl, ?_, fun m hm z => ?_⟩
  · rw [List.getElem?_eq_getElem hl]
    exact congrArg some (of_decide_eq_true (List.findIdx_getElem (p := fun j => decide (j = k)) (w := hl)))
  · have hlt : m < rs.length := by omega
    rw [List.getElem?_eq_getElem hlt] at z
    have z' := Option.some.inj z
    have := List.not_of_lt_findIdx (p := fun j => decide (j = k)) (xs := rs) (i := m) hm
    rw [decide_eq_true z'] at this
    cases this
theorem posR_new {rs : List RowK} {k : RowK} (h : hasR rs k = false) : addR rs k = rs ++ [k] ∧ posR rs k = rs.length := by
  have e : addR rs k = rs ++ [k] := by unfold addR; rw [if_neg (by rw [h]; decide)]
  unfold posR
  rw [e]
  refine ⟨rfl, ?_⟩
  rw [List.findIdx_append, List.findIdx_eq_length_of_false fun x hx => decide_eq_false fun z => hasR_not h (by rw [← z]; exact hx)]
  simp [List.findIdx_cons]
/-- what the written part says of the class -/
structure TxtBk (K : PySem.W.Frag) (C : Addr) : Prop where
  cl : Cls K C
  no : ∀ f ∈ bkF, NoAttr K C f
theorem raise_e {K : PySem.W.Frag} {H0 H1 : Hp} {C : Addr} {n : Str} {ns : List Str} {vs : List V} {Q : XK} (hT : ExK K C) (s : Same H0 H1) (hl : vs.length = (n :: ns).length) (hn : (n :: ns).length ≤ 1000) (q : ∀ H' dd fs, Same H1 H' → H' dd = some (exd dd fs) → Has fs (n :: ns) vs → Q (.ref C) (some dd) H') :
    vs.length = (n :: ns).length ∧ (n :: ns).length ≤ 1000 ∧ ∀ a H', H1 a = none → Same H1 H' → ExI H' a C (n :: ns) vs → ∃ (a' C' : Addr) (d : Option Addr), V.ref a = .ref a' ∧ H' a' = some (exo a' C' d) ∧ Fr0 H0 a' ∧ ExK K C' ∧ Q (.ref C') d (delH H' a') := by
  refine ⟨hl, hn, fun a H' ha sm he => ?_⟩
  obtain ⟨fs, hA, hf⟩ := he
  have fr : Fr0 H0 a := fun o ho => by
    rw [s a o ho] at ha
    cases ha
  rcases hA with ⟨rfl, hA⟩ | ⟨dx, ne, hA, hd⟩
  · match vs, hl with
    | v :: vs, _ => exact absurd (hf 0 n v rfl rfl) (by simp)
  · exact ⟨a, C, some dx, rfl, hA, fr, hT, q _ dx fs (fun b o e => (delH_ne (ne_of_none e ha)).trans (sm b o e)) ((delH_ne ne).trans hd) hf⟩
theorem Vk.int_k {K : PySem.W.Frag} {H : Hp} {i : Int} {k : String} (h : Vk K H (.int i) k) : k = "int" := by
  have e1 : ∀ u ∈ tys6, ansB k u = ansB "int" u := by
    rcases h.kd with ⟨t, ty, e⟩ | ⟨a, D, fs, e1, _⟩
    · have et : t = .type "int" := by
        cases ty with
        | base b => cases b; rfl
      subst et
      intro u hu
      have h1 := e u hu
      have h2 : PySem.W.kitOne K (.type "int") (.type u) = some (ansB "int" u) := kit_ty (of_decide_eq_true (List.all_eq_true.mp (show tys6.all (fun u => decide (kitB "int" u = some (ansB "int" u))) = true by decide +kernel) u hu))
      rw [h1] at h2
      exact Option.some.inj h2
    · cases e1
  have a1 := e1 "int" (by decide)
  have a2 := e1 "bool" (by decide)
  have := ans_int (k := k) (by rw [a1]; decide)
  rw [a2] at this
  have h3 : (k == "int") = true := by rw [← this]; decide
  exact eq_of_beq h3
theorem Vk.str_k {K : PySem.W.Frag} {H : Hp} {z : Str} {k : String} (h : Vk K H (.str z) k) : k = "str" := by
  have e1 : ∀ u ∈ tys6, ansB k u = ansB "str" u := by
    rcases h.kd with ⟨t, ty, e⟩ | ⟨a, D, fs, e1, _⟩
    · have et : t = .type "str" := by
        cases ty with
        | base b => cases b; rfl
      subst et
      intro u hu
      have h1 := e u hu
      have h2 : PySem.W.kitOne K (.type "str") (.type u) = some (ansB "str" u) := kit_ty (of_decide_eq_true (List.all_eq_true.mp (show tys6.all (fun u => decide (kitB "str" u = some (ansB "str" u))) = true by decide +kernel) u hu))
      rw [h1] at h2
      exact Option.some.inj h2
    · cases e1
  have a1 := e1 "str" (by decide)
  rw [ans_str, ans_str] at a1
  exact eq_of_beq (a1.trans rfl)
theorem name_to {K : PySem.W.Frag} {H : Hp} {x : V} {k : String} {Q : VK} {E : XK} (hv : Vk K H x k) (q : ∀ H1, Same H H1 → Q (.bl (nameV x)) H1) : spName K [x] H Q E :=
  ⟨x, k, rfl, hv, fun hk => by
    have e : nameV x = false := by
      cases x with
      | str z => exact absurd hv.str_k hk
      | _ => rfl
    have := q H (Same.refl _)
    rwa [e] at this, fun z hz H1 s1 => by
    subst hz
    exact q H1 s1⟩
/-- the methods that ask for numbers -/
def numV (n : Nat) : V → Bool
  | .int i => decide (0 ≤ i ∧ i < (n : Int))
  | _ => false
def spHas (P : Program) (w : World) (K : PySem.W.Frag) (C : Addr) : Sp := fun vs H Q _ => ∃ (p : Addr) (fp : List Addr) (rs : List RowK) (x : V) (k : String), vs = [.ref p, x] ∧ BookAt P w K H C p fp rs ∧ Vk K H x k ∧ Q (.bl (numV rs.length x)) H
def spHasAll (P : Program) (w : World) (K : PySem.W.Frag) (C : Addr) : Sp := fun vs H Q _ => ∃ (p b : Addr) (fp : List Addr) (rs : List RowK) (ys : List V), vs = [.ref p, .ref b] ∧ BookAt P w K H C p fp rs ∧ SqA K H b ys ∧ ys.length ≤ 5000 ∧ (∀ y ∈ ys, ∃ k, Vk K H y k) ∧ ∀ H', Same H H' → Q (.bl (ys.all (numV rs.length))) H'
/-- raised: a class, a field, its value -/
def Rsd (E : XK) (H : Hp) (C : Addr) (n : Str) (x : V) : Prop := ∀ H' dd fs, Same H H' → H' dd = some (exd dd fs) → fs.lookup n = some x → E (.ref C) (some dd) H'
def spReq (P : Program) (w : World) (K : PySem.W.Frag) (C CU : Addr) : Sp := fun vs H Q E => ∃ (p : Addr) (fp : List Addr) (rs : List RowK) (x : V) (k : String), vs = [.ref p, x] ∧ BookAt P w K H C p fp rs ∧ Vk K H x k ∧ (numV rs.length x = true → Q .non H) ∧ (numV rs.length x = false → Rsd E H CU "number" x)
theorem nd_ne {l : List Addr} {x y : Addr} (h : l.Nodup) (i j : Nat) (e1 : l[i]? = some x) (e2 : l[j]? = some y) (hij : i ≠ j) : x ≠ y := fun z => by
  subst z
  have hi : i < l.length := by
    rcases Nat.lt_or_ge i l.length with h | h
    · exact h
    · rw [List.getElem?_eq_none h] at e1
      cases e1
  exact hij ((List.getElem?_inj hi h).mp (e1.trans e2.symm))
theorem SqT_row {K : PySem.W.Frag} {S : List Addr} {H H' : Hp} {k : RowK} {a : Addr} (h : RowAt K H k a) (f : Frame S H H') (hS : ∀ b ∈ S, NotTup H b) : RowAt K H' k a := h.mono fun _ _ => SqT.fr f hS
theorem rowsIn_of {K : PySem.W.Frag} {H : Hp} : ∀ {i : Nat} {rs : List RowK} {as : List Addr}, as.length = rs.length → (∀ (i : Nat) (k : RowK) (a : Addr), rs[i]? = some k → as[i]? = some a → RowAt K H k a) → RowsIn K H (entR i rs as)
  | i, [], [], _, _ => fun x hx => absurd hx List.not_mem_nil
  | i, k :: rs, a :: as, hl, h => fun x hx => by
    rcases List.mem_cons.mp hx with rfl | hx
    · exact h 0 k a rfl rfl
    · exact rowsIn_of (i := i + 1) (by simpa using hl) (fun j k' a' e1 e2 => h (j + 1) k' a' (by simpa using e1) (by simpa using e2)) x hx
  | _, [], _ :: _, h, _ => by cases h
  | _, _ :: _, [], h, _ => by cases h
theorem atI_at {l : List Int} {i : Int} {n : Nat} (hl : l.length = n) (h0 : 0 ≤ i) (h1 : i < (n : Int)) : atI (l.map V.int) i = some (.int (atL l i)) := by
  have e : i = ((i.toNat : Nat) : Int) := by omega
  have hlt : i.toNat < l.length := by omega
  have h2 : (l.map V.int)[i.toNat]? = some (.int (atL l i)) := by
    unfold atL
    rw [List.getElem?_map, List.getElem?_eq_getElem hlt, List.getD_eq_getElem?_getD, List.getElem?_eq_getElem hlt]
    rfl
  rw [e]
  exact atI_nat (j := i.toNat) (by rw [h2, ← e])
/-- a row is added, unless it is there -/
def spEnt (P : Program) (w : World) (K : PySem.W.Frag) (C : Addr) : Sp := fun vs H Q _ => ∃ (p a : Addr) (fp : List Addr) (rs : List RowK) (k : RowK), vs = [.ref p, .ref a] ∧ BookAt P w K H C p fp rs ∧ RowAt K H k a ∧ OkK rs.length k ∧ rs.length < 5000 ∧
  ∀ H', Frame fp H H' → BookAt P w K H' C p fp (addR rs k) → Q (.int (posR rs k : Nat)) H'
/-- the methods that add -/
def Added (P : Program) (w : World) (K : PySem.W.Frag) (C p : Addr) (fp : List Addr) (rs : List RowK) (H : Hp) (Q : VK) (k : RowK) : Prop := ∀ H', Frame fp H H' → BookAt P w K H' C p fp (addR rs k) → Q (.int (posR rs k : Nat)) H'
def spConst (P : Program) (w : World) (K : PySem.W.Frag) (C CN : Addr) : Sp := fun vs H Q E => ∃ (p : Addr) (fp : List Addr) (rs : List RowK) (x : V) (k : String), vs = [.ref p, x] ∧ BookAt P w K H C p fp rs ∧ rs.length < 5000 ∧ Vk K H x k ∧
  (nameV x = false → Rsd E H CN "value" x) ∧ ∀ z, x = .str z → nameB (TL.tl z) = true → Added P w K C p fp rs H Q (z, .inr [])
def spSample (P : Program) (w : World) (K : PySem.W.Frag) (C CN CT : Addr) : Sp := fun vs H Q E => ∃ (p : Addr) (fp : List Addr) (rs : List RowK) (x y : V) (k ky : String), vs = [.ref p, x, y] ∧ BookAt P w K H C p fp rs ∧ rs.length < 5000 ∧ Vk K H x k ∧ Vk K H y ky ∧
  (nameV x = false → Rsd E H CN "value" x) ∧ ∀ z, x = .str z → nameB (TL.tl z) = true → ((∀ i, y = .int i → ¬ 0 ≤ i) → Rsd E H CT "value" y) ∧ ∀ i, y = .int i → 0 ≤ i → i.natAbs.log2 < 1000 ∧ Added P w K C p fp rs H Q (z, .inl i)
def spApply (P : Program) (w : World) (K : PySem.W.Frag) (C CN CP CU : Addr) : Sp := fun vs H Q E => ∃ (p : Addr) (fp : List Addr) (rs : List RowK) (x y : V) (k ky : String), vs = [.ref p, x, y] ∧ BookAt P w K H C p fp rs ∧ rs.length < 5000 ∧ Vk K H x k ∧ Vk K H y ky ∧
  (nameV x = false → Rsd E H CN "value" x) ∧ ∀ z, x = .str z → nameB (TL.tl z) = true → ((ky == "list" || ky == "tuple") = false → Rsd E H CP "value" y) ∧ ((ky == "list" || ky == "tuple") = true → ∃ (b : Addr) (ys : List V), y = .ref b ∧ SqA K H b ys ∧
    (¬ (1 ≤ ys.length ∧ ys.length ≤ 3) → Rsd E H CP "value" y) ∧ (1 ≤ ys.length ∧ ys.length ≤ 3 → (∀ v ∈ ys, ∃ kv, Vk K H v kv) ∧ (∀ (i : Nat) v, ys[i]? = some v → numV rs.length v = false → (∀ (j : Nat) u, j < i → ys[j]? = some u → numV rs.length u = true) → Rsd E H CU "number" v) ∧
      ∀ ns : List Int, ys = ns.map V.int → (∀ i ∈ ns, 0 ≤ i ∧ i < (rs.length : Int)) → Added P w K C p fp rs H Q (z, .inr ns)))
theorem Rsd.up {E : XK} {H H1 : Hp} {C : Addr} {n : Str} {x : V} (h : Rsd E H C n x) (s : Same H H1) : Rsd E H1 C n x := fun H' dd fs s' he hf => h H' dd fs (Same.tr s s') he hf
theorem numV_ints {n : Nat} : ∀ {ys : List V}, (∀ y ∈ ys, numV n y = true) → ∃ ns : List Int, ys = ns.map V.int ∧ ∀ i ∈ ns, 0 ≤ i ∧ i < (n : Int)
  | [], _ => ⟨[], rfl, fun i hi => absurd hi List.not_mem_nil⟩
  | y :: ys, h => by
    obtain ⟨ns, rfl, h2⟩ := numV_ints fun x hx => h x (List.mem_cons_of_mem _ hx)
    have h0 := h y List.mem_cons_self
    cases y with
    | int i =>
      refine ⟨i :: ns, rfl, fun j hj => ?_⟩
      rcases List.mem_cons.mp hj with rfl | hj
      · exact of_decide_eq_true h0
      · exact h2 j hj
    | _ => cases h0
/-- the small defs -/
def spTurn (K : PySem.W.Frag) : Sp := fun vs H Q _ => ∃ (x : V) (k : String), vs = [x] ∧ Vk K H x k ∧ (k ≠ "int" → Q (.bl false) H) ∧ ∀ i, x = .int i → Q (.bl (decide (0 ≤ i))) H
def spArgs (K : PySem.W.Frag) : Sp := fun vs H Q _ => ∃ (r : Addr) (u v : V) (k : String), vs = [.ref r] ∧ SqA K H r [u, v] ∧ Vk K H v k ∧ ((k == "list" || k == "tuple") = true → ∀ H', Same H H' → Q v H') ∧ ((k == "list" || k == "tuple") = false → ∀ b H', Same H H' → SqT K H' b [] → Q (.ref b) H')
/-- a name, and an int or a list or tuple of ints -/
def PreRow (K : PySem.W.Frag) (H : Hp) (r : Addr) (k : RowK) : Prop := PyData.strOk k.1 = true ∧ k.1.length ≤ 5000 ∧ ((∃ n : Int, k.2 = .inl n ∧ SqA K H r [.str k.1, .int n]) ∨ ∃ (ns : List Int) (b : Addr), k.2 = .inr ns ∧ SqA K H r [.str k.1, .ref b] ∧ SqA K H b (ns.map V.int))
theorem args_row {K : PySem.W.Frag} {H : Hp} {k : RowK} {a : Addr} {Q : VK} {E : XK} (hA : RowAt K H k a) (q : ∀ b H1, Same H H1 → SqT K H1 b ((argsK k).map V.int) → Q (.ref b) H1) : spArgs K [.ref a] H Q E := by
  obtain ⟨x, y⟩ := k
  obtain ⟨_, h⟩ := hA
  rcases h with ⟨n, e, h⟩ | ⟨ns, b, e, h1, h2⟩
  · have e' : y = .inl n := e
    subst e'
    exact ⟨a, _, _, "int", rfl, .inr h, vk_int n, (fun z => absurd z (by decide)), fun _ b H' s hb => q b H' s hb⟩
  · have e' : y = .inr ns := e
    subst e'
    exact ⟨a, _, _, "tuple", rfl, .inr h1, vk_tuple h2, (fun _ H' s => q b H' s (upT s h2)), fun z => absurd z (by decide)⟩
theorem rep_flat (n : Nat) (x : Str) : (List.replicate n [V.str x]).flatten = (List.replicate n x).map V.str := by
  induction n with
  | zero => rfl
  | succ n ih => rw [List.replicate_succ, List.replicate_succ, List.flatten_cons, ih]; rfl
def spKept (K : PySem.W.Frag) : Sp := fun vs H Q _ => ∃ (r : Addr) (k : RowK), vs = [.ref r] ∧ PreRow K H r k ∧ ∀ a H', Same H H' → RowAt K H' k a → Q (.ref a) H'
def spRowText (K : PySem.W.Frag) : Sp := fun vs H Q _ => ∃ (a l : Addr) (k : RowK) (ts : List Str), vs = [.ref a, .ref l] ∧ RowAt K H k a ∧ SqL K H l (ts.map V.str) ∧ k.1.length ≤ 8 ∧ (∀ n, k.2 = .inl n → n.natAbs.log2 < 1000) ∧ ts.length ≤ 3 ∧ (∀ t ∈ ts, t.length ≤ 400) ∧ ∀ H', Same H H' → Q (.str (textK k ts)) H'
theorem lens_le : ∀ ts : List Str, (∀ t ∈ ts, t.length ≤ 400) → (ts.map (fun x => x.length)).sum ≤ ts.length * 400
  | [], _ => Nat.le_refl _
  | t :: ts, h => by
    have ih := lens_le ts fun x hx => h x (List.mem_cons_of_mem _ hx)
    have h0 := h t List.mem_cons_self
    rw [List.map_cons, List.sum_cons, List.length_cons]
    omega
theorem joins_le (ts : List Str) (hl : ts.length ≤ 3) (h : ∀ t ∈ ts, t.length ≤ 400) : (Txt.join ("," : Str) ts).length ≤ 1203 := by
  rw [TL.len_tl, tl_joinT]
  have := joinL_len (TL.tl ",") 400 1 (by decide) (ts.map TL.tl) fun q hq => by
    obtain ⟨t, ht, rfl⟩ := List.mem_map.mp hq
    rw [← TL.len_tl]
    exact h t ht
  rw [List.length_map] at this
  have h2 : ts.length * (400 + 1) ≤ 3 * 401 := Nat.mul_le_mul hl (Nat.le_refl _)
  omega
theorem textK_le {k : RowK} {ts : List Str} (hx : k.1.length ≤ 8) (hn : ∀ n, k.2 = .inl n → n.natAbs.log2 < 1000) (hl : ts.length ≤ 3) (h : ∀ t ∈ ts, t.length ≤ 400) : (textK k ts).length ≤ 3000 := by
  obtain ⟨x, y⟩ := k
  have hx : x.length ≤ 8 := hx
  cases y with
  | inl n =>
    have hi : (Str.ofString (toString n)).length ≤ 1001 := by
      rw [PySem.ofString_length]
      exact int_text_length_le (k := 1000) (by decide) (hn n rfl)
    have ea : (("@" : Str)).length = 1 := rfl
    show (x ++ ("@" : Str) ++ Str.ofString (toString n)).length ≤ _
    rw [Str.length_append, Str.length_append, ea]
    omega
  | inr ns =>
    cases ns with
    | nil => show x.length ≤ _; omega
    | cons n ns =>
      have hj := joins_le ts hl h
      have ea : (("(" : Str)).length = 1 := rfl
      have eb : ((")" : Str)).length = 1 := rfl
      show (x ++ ("(" : Str) ++ Txt.join "," ts ++ (")" : Str)).length ≤ _
      rw [Str.length_append, Str.length_append, Str.length_append, ea, eb]
      omega
def secB (b : PyData) : Bool := match seqD b with
  | some ns => decide (ns.length ≤ 3)
  | none => (match b with
    | .int n => decide (0 ≤ n)
    | _ => false)
def formB (d : PyData) : Bool := match seqD d with
  | some [_, b] => secB b
  | _ => false
def spForm (K : PySem.W.Frag) : Sp := fun vs H Q _ => ∃ x : V, vs = [x] ∧ ((∃ d, Dd K H x d ∧ shortD d = true ∧ ∀ H', Same H H' → Q (.bl (formB d)) H') ∨ (∃ k, Vk K H x k ∧ (k == "list" || k == "tuple") = false ∧ ∀ H', Same H H' → Q (.bl false) H'))
end Tp
set_option Elab.async false
set_option linter.all false
set_option maxRecDepth 100000
set_option maxHeartbeats 4000000
/-! what a book tells: its rows, len, [..], in, ==; rows as data -/
namespace Tp
open PySem PySem.Spec PyProof.Rows L2
/-- what is told of a book -/
def spRows (P : Program) (w : World) (K : PySem.W.Frag) (C : Addr) : Sp := fun vs H Q _ => ∃ (p : Addr) (fp : List Addr) (rs : List RowK), vs = [.ref p] ∧ BookAt P w K H C p fp rs ∧
  ∀ (l : Addr) (H' : Hp) (as : List Addr), H l = none → H' = upd H l (.lst (as.map V.ref)) → as.length = rs.length → (∀ (i : Nat) (k : RowK) (a : Addr), rs[i]? = some k → as[i]? = some a → RowAt K H k a) → Q (.ref l) H'
def spLen (P : Program) (w : World) (K : PySem.W.Frag) (C : Addr) : Sp := fun vs H Q _ => ∃ (p : Addr) (fp : List Addr) (rs : List RowK), vs = [.ref p] ∧ BookAt P w K H C p fp rs ∧ Q (.int (rs.length : Nat)) H
def spItem (P : Program) (w : World) (K : PySem.W.Frag) (C CU : Addr) : Sp := fun vs H Q E => ∃ (p : Addr) (fp : List Addr) (rs : List RowK) (x : V) (k : String), vs = [.ref p, x] ∧ BookAt P w K H C p fp rs ∧ Vk K H x k ∧ (numV rs.length x = false → Rsd E H CU "number" x) ∧
  ∀ (i : Nat) (k : RowK) (a : Addr), x = .int (i : Nat) → rs[i]? = some k → RowAt K H k a → Q (.ref a) H
def strD : PyData → Str
  | .str z => z
  | _ => Str.empty
def intD : PyData → Int
  | .int i => i
  | _ => 0
/-- are the numbers those of rows? -/
def allD (n : Nat) (d : PyData) : Bool := match seqD d with
  | some ns => ns.all (idxD n)
  | none => true
def keyT (d : PyData) : Sum Int (List Int) := match seqD d with
  | some ns => .inr (ns.map intD)
  | none => .inl (intD d)
/-- the row that data is, if it may be one -/
def keyD (n : Nat) (d : PyData) : Option RowK := if formB d = true then (match seqD d with
  | some [a, b] => if (nameD a && allD n b) = true then some (strD a, keyT b) else none
  | _ => none) else none
def memD (rs : List RowK) (d : PyData) : Bool := match keyD rs.length d with
  | some k => hasR rs k
  | none => false
def spCont (P : Program) (w : World) (K : PySem.W.Frag) (C : Addr) : Sp := fun vs H Q _ => ∃ (p : Addr) (fp : List Addr) (rs : List RowK) (x : V), vs = [.ref p, x] ∧ BookAt P w K H C p fp rs ∧
  ((∃ d, Dd K H x d ∧ shortD d = true ∧ ∀ H', Same H H' → Q (.bl (memD rs d)) H') ∨ ∃ k, Vk K H x k ∧ (k == "list" || k == "tuple") = false ∧ ∀ H', Same H H' → Q (.bl false) H')
def spEqB (P : Program) (w : World) (K : PySem.W.Frag) (C : Addr) : Sp := fun vs H Q _ => ∃ (p : Addr) (fp : List Addr) (rs : List RowK) (y : V), vs = [.ref p, y] ∧ BookAt P w K H C p fp rs ∧
  ((∃ q fq qs, y = .ref q ∧ BookAt P w K H C q fq qs ∧ IsR K H y (.ref C) true ∧ Q (.bl (decide (rs = qs))) H) ∨ (IsR K H y (.ref C) false ∧ Q (.bl false) H))
/-! rows as data -/
theorem row_dp {K : PySem.W.Frag} {H : Hp} {k : RowK} {a : Addr} (h : RowAt K H k a) : Dp K H (.ref a) (rowD k) := by
  obtain ⟨x, y⟩ := k
  obtain ⟨_, h⟩ := h
  rcases h with ⟨n, e, h⟩ | ⟨ns, b, e, h1, h2⟩
  · have e' : y = .inl n := e
    subst e'
    exact .tup h (.cons (.str x) (.cons (.int n) .nil))
  · have e' : y = .inr ns := e
    subst e'
    refine .tup h1 (.cons (.str x) (.cons (.tup h2 ?_) .nil))
    have all : ∀ ms : List Int, DpAll K H (ms.map V.int) (ms.map PyData.int) := fun ms => by
      induction ms with
      | nil => exact .nil
      | cons m ms ih => exact .cons (.int m) ih
    exact all ns
theorem rows_dp {K : PySem.W.Frag} {H : Hp} : ∀ {rs : List RowK} {as : List Addr}, as.length = rs.length → (∀ (i : Nat) (k : RowK) (a : Addr), rs[i]? = some k → as[i]? = some a → RowAt K H k a) → DpAll K H (as.map V.ref) (rs.map rowD)
  | [], [], _, _ => .nil
  | k :: rs, a :: as, hl, h => .cons (row_dp (h 0 k a rfl rfl)) (rows_dp (by simpa using hl) fun j k' a' e1 e2 => h (j + 1) k' a' (by simpa using e1) (by simpa using e2))
  | [], _ :: _, h, _ => by cases h
  | _ :: _, [], h, _ => by cases h
theorem rows_eqv : ∀ rs qs : List RowK, PyData.eqvAll (rs.map rowD) (qs.map rowD) = decide (rs = qs)
  | [], [] => rfl
  | [], _ :: _ => rfl
  | _ :: _, [] => rfl
  | r :: rs, q :: qs => by
    rw [List.map_cons, List.map_cons, PyData.eqvAll, eqv_row, rows_eqv rs qs, Bool.eq_iff_iff]
    simp
theorem rowD_depth (k : RowK) : (rowD k).depth ≤ 2 := by
  obtain ⟨x, n | ns⟩ := k
  · simp [rowD, PyData.depth, PyData.depthAll]
  · have : ∀ ns : List Int, PyData.depthAll (ns.map PyData.int) = 0 := fun ns => by
      induction ns with
      | nil => rfl
      | cons n ns ih => simp [PyData.depthAll, PyData.depth, ih]
    simp [rowD, PyData.depth, PyData.depthAll, this]
theorem rows_depth : ∀ rs : List RowK, PyData.depthAll (rs.map rowD) ≤ 2
  | [] => by simp [PyData.depthAll]
  | k :: rs => by
    have h1 := rows_depth rs
    have h2 := rowD_depth k
    simp only [List.map_cons, PyData.depthAll]
    omega
theorem rows_lay : ∀ {rs : List RowK}, (∀ k ∈ rs, PyData.strOk k.1 = true) → PyData.canLayAll0 (rs.map rowD) = true
  | [], _ => by simp [PyData.canLayAll0]
  | k :: rs, h => by
    simp only [List.map_cons, PyData.canLayAll0, can_row k (h k List.mem_cons_self), rows_lay fun x hx => h x (List.mem_cons_of_mem _ hx), Bool.and_self]
theorem rows_shaped {rs : List RowK} (h : ∀ k ∈ rs, PyData.strOk k.1 = true) : SeqAt.shaped (.list (rs.map rowD)) = true := by
  have h2 : PyData.depth (.list (rs.map rowD)) ≤ 64 := by
    have := rows_depth rs
    simp only [PyData.depth]
    omega
  show (PyData.canLay0 (.list (rs.map rowD)) && decide (PyData.depth (.list (rs.map rowD)) ≤ 64)) = true
  rw [Bool.and_eq_true]
  exact ⟨by simp only [PyData.canLay0]; exact rows_lay h, decide_eq_true h2⟩
theorem okRows_str {rs : List RowK} (h : OkRows rs) : ∀ k ∈ rs, PyData.strOk k.1 = true := fun k hk => by
  obtain ⟨i, hi, e⟩ := List.getElem_of_mem hk
  exact (name_ok (h i k (by rw [List.getElem?_eq_getElem hi, e])).1).1
/-! data that has the form of a row -/
theorem form_of {K : PySem.W.Frag} {H : Hp} {x : V} {d : PyData} (hd : Dd K H x d) (hs : shortD d = true) (hf : formB d = true) : ∃ (a : Addr) (v0 v1 : V) (d0 d1 : PyData), x = .ref a ∧ SqA K H a [v0, v1] ∧ Dd K H v0 d0 ∧ Dd K H v1 d1 ∧ seqD d = some [d0, d1] ∧ secB d1 = true ∧ shortD d0 = true ∧ shortD d1 = true := by
  unfold formB at hf
  split at hf
  · rename_i d0 d1 e
    obtain ⟨a, xs, rfl, hA, hall⟩ := dd_seq hd e
    have hsh := short_seq hs e
    cases hall with
    | cons h0 hr =>
      cases hr with
      | cons h1 hn =>
        cases hn
        exact ⟨a, _, _, d0, d1, rfl, hA, h0, h1, e, hf, shortAll_get (i := 0) hsh rfl, shortAll_get (i := 1) hsh rfl⟩
  · cases hf
theorem num_dd {K : PySem.W.Frag} {H : Hp} {v : V} {d : PyData} (n : Nat) (h : Dd K H v d) : numV n v = idxD n d := by
  cases h with
  | int i => exact decide_eq_decide.mpr (by omega)
  | _ => rfl
theorem nums_dd {K : PySem.W.Frag} {H : Hp} (n : Nat) : ∀ {vs : List V} {ds : List PyData}, DdAll K H vs ds → vs.all (numV n) = ds.all (idxD n)
  | _, _, .nil => rfl
  | _, _, .cons h hs => by rw [List.all_cons, List.all_cons, num_dd n h, nums_dd n hs]
theorem vks_dd {K : PySem.W.Frag} {H : Hp} : ∀ {vs : List V} {ds : List PyData}, DdAll K H vs ds → shortAll ds = true → ∀ y ∈ vs, ∃ k, Vk K H y k
  | _, _, .nil, _ => fun y hy => absurd hy List.not_mem_nil
  | _, _, .cons h hs, e => fun y hy => by
    simp only [shortAll, Bool.and_eq_true] at e
    rcases List.mem_cons.mp hy with rfl | hy
    · exact ⟨_, vk_dd h e.1⟩
    · exact vks_dd hs e.2 y hy
theorem args_dd {K : PySem.W.Frag} {H : Hp} {a : Addr} {v0 v1 : V} {d1 : PyData} {n : Nat} {Q : VK} {E : XK} (hA : SqA K H a [v0, v1]) (h1 : Dd K H v1 d1) (hs : secB d1 = true) (hsh : shortD d1 = true)
    (q : ∀ (b : Addr) (ys : List V) (H' : Hp), Same H H' → SqA K H' b ys → ys.length ≤ 3 → (∀ y ∈ ys, ∃ k, Vk K H' y k) → ys.all (numV n) = allD n d1 → Q (.ref b) H') : spArgs K [.ref a] H Q E := by
  refine ⟨a, v0, v1, kindD d1, rfl, hA, vk_dd h1 hsh, fun hk H' s => ?_, fun hk b H' s hb => ?_⟩
  · rw [kind_seq] at hk
    cases e : seqD d1 with
    | none => rw [e] at hk; cases hk
    | some ns =>
      obtain ⟨b, ys, rfl, hB, hall⟩ := dd_seq h1 e
      unfold secB at hs
      rw [e] at hs
      have hs := of_decide_eq_true hs
      refine q b ys H' s (hB.up s) (by rw [hall.len]; exact hs) (fun y hy => ?_) ?_
      · obtain ⟨k, vk⟩ := vks_dd hall (short_seq hsh e) y hy
        exact ⟨k, vk.mono s⟩
      · rw [nums_dd n hall]
        unfold allD
        rw [e]
  · rw [kind_seq] at hk
    cases e : seqD d1 with
    | some ns => rw [e] at hk; cases hk
    | none =>
      refine q b [] H' s (.inr hb) (by show 0 ≤ 3; omega) (fun y hy => absurd hy List.not_mem_nil) ?_
      unfold allD
      rw [e]
      rfl
theorem ints_dd {K : PySem.W.Frag} {H : Hp} {n : Nat} : ∀ {vs : List V} {ds : List PyData}, DdAll K H vs ds → ds.all (idxD n) = true → vs = (ds.map intD).map V.int ∧ ∀ i ∈ ds.map intD, 0 ≤ i ∧ i < (n : Int)
  | _, _, .nil, _ => ⟨rfl, fun i hi => absurd hi List.not_mem_nil⟩
  | v :: vs, d :: ds, .cons h hs, e => by
    rw [List.all_cons, Bool.and_eq_true] at e
    obtain ⟨e1, e2⟩ := ints_dd hs e.2
    have e0 := e.1
    rw [e1]
    cases h with
    | int i =>
      have e0 := of_decide_eq_true e0
      refine ⟨rfl, fun j hj => ?_⟩
      rcases List.mem_cons.mp hj with e | hj
      · have e : j = i := e
        rw [e]
        omega
      · exact e2 j hj
    | _ => cases e0
/-- such data, its name and its numbers right, is a row -/
theorem pre_row {K : PySem.W.Frag} {H : Hp} {a : Addr} {v0 v1 : V} {d0 d1 : PyData} {n : Nat} (hA : SqA K H a [v0, v1]) (h0 : Dd K H v0 d0) (h1 : Dd K H v1 d1) (hs : secB d1 = true) (hn : nameD d0 = true) (hall : allD n d1 = true) :
    PreRow K H a (strD d0, keyT d1) ∧ nameB (TL.tl (strD d0)) = true ∧ ∀ ns, keyT d1 = .inr ns → ns.length ≤ 3 ∧ ∀ i ∈ ns, 0 ≤ i ∧ i < (n : Int) := by
  cases h0 with
  | str z =>
    have hz : nameB (TL.tl z) = true := hn
    obtain ⟨k1, k2⟩ := name_ok hz
    have hz5 : z.length ≤ 5000 := by omega
    cases e : seqD d1 with
    | none =>
      have ek : keyT d1 = .inl (intD d1) := by unfold keyT; rw [e]
      have ei : v1 = .int (intD d1) := by
        unfold secB at hs
        rw [e] at hs
        cases h1 with
        | int i => rfl
        | lst _ _ => cases e
        | tup _ _ => cases e
        | _ => cases hs
      rw [ek]
      subst ei
      exact ⟨⟨k1, hz5, .inl ⟨_, rfl, hA⟩⟩, hz, fun ns e => by cases e⟩
    | some ds =>
      have ek : keyT d1 = .inr (ds.map intD) := by unfold keyT; rw [e]
      obtain ⟨b, ys, rfl, hB, hds⟩ := dd_seq h1 e
      have ha : ds.all (idxD n) = true := by unfold allD at hall; rw [e] at hall; exact hall
      obtain ⟨e1, e2⟩ := ints_dd hds ha
      unfold secB at hs
      rw [e] at hs
      have hs := of_decide_eq_true hs
      rw [ek]
      refine ⟨⟨k1, hz5, .inr ⟨_, b, rfl, hA, e1 ▸ hB⟩⟩, hz, fun ns e => ?_⟩
      cases e
      exact ⟨by rw [List.length_map]; exact hs, e2⟩
  | _ => cases hn
theorem key_some {n : Nat} {d d0 d1 : PyData} (hf : formB d = true) (e : seqD d = some [d0, d1]) : keyD n d = if (nameD d0 && allD n d1) = true then some (strD d0, keyT d1) else none := by
  unfold keyD
  rw [if_pos hf, e]
theorem find_has {rs : List RowK} {as : List Addr} (h : as.length = rs.length) (k : RowK) : (findR (entR 0 rs as) k).isSome = hasR rs k := by
  cases hk : hasR rs k with
  | true =>
    obtain ⟨_, e2, e3⟩ := posR_old hk
    rw [findR_some 0 rs as k (posR rs k) h.symm e2 e3]
    rfl
  | false =>
    rw [findR_none 0 rs as k (hasR_not hk)]
    rfl
end Tp
set_option Elab.async false
set_option linter.all false
set_option maxRecDepth 100000
set_option maxHeartbeats 4000000
/-! books that are made of rows -/
namespace Tp
open PySem PySem.Spec PyProof.Rows L2
/-- what becomes of an item of the list that a book is made of -/
inductive TakeR where
  | row
  | name
  | ok (k : RowK)
def takeD (rs : List RowK) (d : PyData) : TakeR := if formB d = true then (match seqD d with
  | some [a, b] => if nameD a = true then (if (!allD rs.length b || hasR rs (strD a, keyT b)) = true then .row else .ok (strD a, keyT b)) else .name
  | _ => .row) else .row
def spTakeB (P : Program) (w : World) (K : PySem.W.Frag) (C CR CN : Addr) : Sp := fun vs H Q E => ∃ (p : Addr) (fp : List Addr) (rs : List RowK) (x : V) (d : PyData), vs = [.ref p, x] ∧ BookAt P w K H C p fp rs ∧ rs.length < 5000 ∧ Dd K H x d ∧ shortD d = true ∧
  (takeD rs d = .row → Rsd E H CR "value" x) ∧ (takeD rs d = .name → ∃ a v0 v1, x = .ref a ∧ SqA K H a [v0, v1] ∧ Rsd E H CN "value" v0) ∧
  ∀ k, takeD rs d = .ok k → (∀ n, k.2 = .inl n → n.natAbs.log2 < 1000) ∧ ∀ H', Frame fp H H' → BookAt P w K H' C p fp (rs ++ [k]) → Q .non H'
theorem take_form {rs : List RowK} {d d0 d1 : PyData} (hf : formB d = true) (e : seqD d = some [d0, d1]) : takeD rs d = if nameD d0 = true then (if (!allD rs.length d1 || hasR rs (strD d0, keyT d1)) = true then .row else .ok (strD d0, keyT d1)) else .name := by
  unfold takeD
  rw [if_pos hf, e]
theorem take_no {rs : List RowK} {d : PyData} (hf : formB d = false) : takeD rs d = .row := by
  unfold takeD
  rw [if_neg (by rw [hf]; decide)]
/-- the way of a whole list: the rows, or the first item that is refused -/
def buildR : List RowK → List PyData → Sum (Nat × Bool) (List RowK)
  | rs, [] => .inr rs
  | rs, d :: ds => match takeD rs d with
    | .row => .inl (0, false)
    | .name => .inl (0, true)
    | .ok k => match buildR (rs ++ [k]) ds with
      | .inl (i, b) => .inl (i + 1, b)
      | .inr qs => .inr qs
/-- raised, all but p as it was -/
def RsdK (E : XK) (H : Hp) (p : Addr) (C : Addr) (n : Str) (x : V) : Prop := ∀ H' dd fs, Keep p H H' → H' dd = some (exd dd fs) → fs.lookup n = some x → E (.ref C) (some dd) H'
def spInitB (P : Program) (w : World) (K : PySem.W.Frag) (C CP CR CN : Addr) : Sp := fun vs H Q E => ∃ (p dx : Addr) (x : V), vs = [.ref p, x] ∧ H p = some (.ins C dx []) ∧
  ((∃ k, Vk K (rs p p H) x k ∧ (k == "list" || k == "tuple") = false ∧ RsdK E H p CP "value" x) ∨
   ∃ (b : Addr) (ys : List V) (ds : List PyData), x = .ref b ∧ SqA K (rs p p H) b ys ∧ DdAll K (rs p p H) ys ds ∧ shortAll ds = true ∧ ds.length < 5000 ∧ (∀ m qs, buildR [] (ds.take m) = .inr qs → ∀ k ∈ qs, ∀ n, k.2 = .inl n → n.natAbs.log2 < 1000) ∧
    (∀ i, buildR [] ds = .inl (i, false) → ∃ y, ys[i]? = some y ∧ RsdK E H p CR "value" y) ∧
    (∀ i, buildR [] ds = .inl (i, true) → ∃ a v0 v1, ys[i]? = some (.ref a) ∧ SqA K (rs p p H) a [v0, v1] ∧ RsdK E H p CN "value" v0) ∧
    ∀ qs, buildR [] ds = .inr qs → ∀ H' fp, Keep p H H' → (∀ b ∈ fp, H b = none) → BookAt P w K H' C p fp qs → Q .non H')
theorem build_snoc : ∀ (ds : List PyData) (d : PyData) (r0 : List RowK), buildR r0 (ds ++ [d]) = match buildR r0 ds with
    | .inl e => .inl e
    | .inr qs => match takeD qs d with
      | .row => .inl (ds.length, false)
      | .name => .inl (ds.length, true)
      | .ok k => .inr (qs ++ [k])
  | [], d, r0 => by
    show buildR r0 [d] = _
    unfold buildR
    cases e : takeD r0 d <;> simp [buildR, e]
  | x :: ds, d, r0 => by
    rw [List.cons_append]
    unfold buildR
    cases e : takeD r0 x with
    | row => rfl
    | name => rfl
    | ok k =>
      have ih := build_snoc ds d (r0 ++ [k])
      dsimp only
      rw [ih]
      cases e2 : buildR (r0 ++ [k]) ds with
      | inl z => rfl
      | inr qs =>
        dsimp only
        cases takeD qs d <;> rfl
/-- once refused, refused -/
theorem build_stop : ∀ (ds es : List PyData) (r0 : List RowK) (i : Nat) (b : Bool), buildR r0 ds = .inl (i, b) → buildR r0 (ds ++ es) = .inl (i, b)
  | [], es, r0, i, b, h => by cases h
  | x :: ds, es, r0, i, b, h => by
    rw [List.cons_append]
    unfold buildR at h ⊢
    cases e : takeD r0 x with
    | row => rw [e] at h; exact h
    | name => rw [e] at h; exact h
    | ok k =>
      rw [e] at h
      cases e2 : buildR (r0 ++ [k]) ds with
      | inr qs =>
        have h : (match buildR (r0 ++ [k]) ds with | .inl (i, b) => (.inl (i + 1, b) : Sum (Nat × Bool) (List RowK)) | .inr qs => .inr qs) = .inl (i, b) := h
        rw [e2] at h
        cases h
      | inl z =>
        obtain ⟨j, c⟩ := z
        have h : (match buildR (r0 ++ [k]) ds with | .inl (i, b) => (.inl (i + 1, b) : Sum (Nat × Bool) (List RowK)) | .inr qs => .inr qs) = .inl (i, b) := h
        rw [e2] at h
        have := build_stop ds es (r0 ++ [k]) j c e2
        show (match buildR (r0 ++ [k]) (ds ++ es) with | .inl (i, b) => (.inl (i + 1, b) : Sum (Nat × Bool) (List RowK)) | .inr qs => .inr qs) = .inl (i, b)
        rw [this]
        exact h
def spCopied (P : Program) (w : World) (K : PySem.W.Frag) (C : Addr) : Sp := fun vs H Q _ => ∃ (p : Addr) (fp : List Addr) (rs : List RowK), vs = [.ref p] ∧ BookAt P w K H C p fp rs ∧ rs.length < 5000 ∧ ∀ q H' fq, Same H H' → H q = none → (∀ b ∈ fq, H b = none) → BookAt P w K H' C q fq rs → Q (.ref q) H'
theorem sec_pos {d : PyData} {n : Int} (h : secB d = true) (e : keyT d = .inl n) : 0 ≤ n := by
  unfold secB at h
  unfold keyT at e
  cases e1 : seqD d with
  | some ns =>
    rw [e1] at e
    cases e
  | none =>
    rw [e1] at e h
    cases e
    cases d with
    | int i => exact of_decide_eq_true h
    | _ => cases h
theorem raise_g {K : PySem.W.Frag} {H0 H1 : Hp} {C : Addr} {n : Str} {ns : List Str} {vs : List V} {Q : XK} (hT : ExK K C) (g : ∀ a, H1 a = none → H0 a = none) (hl : vs.length = (n :: ns).length) (hn : (n :: ns).length ≤ 1000) (q : ∀ H' dd fs, Same H1 H' → H' dd = some (exd dd fs) → Has fs (n :: ns) vs → Q (.ref C) (some dd) H') :
    vs.length = (n :: ns).length ∧ (n :: ns).length ≤ 1000 ∧ ∀ a H', H1 a = none → Same H1 H' → ExI H' a C (n :: ns) vs → ∃ (a' C' : Addr) (d : Option Addr), V.ref a = .ref a' ∧ H' a' = some (exo a' C' d) ∧ Fr0 H0 a' ∧ ExK K C' ∧ Q (.ref C') d (delH H' a') := by
  refine ⟨hl, hn, fun a H' ha sm he => ?_⟩
  obtain ⟨fs, hA, hf⟩ := he
  have fr : Fr0 H0 a := fr0_none (g a ha)
  rcases hA with ⟨rfl, hA⟩ | ⟨dx, ne, hA, hd⟩
  · match vs, hl with
    | v :: vs, _ => exact absurd (hf 0 n v rfl rfl) (by simp)
  · exact ⟨a, C, some dx, rfl, hA, fr, hT, q _ dx fs (fun b o e => (delH_ne (ne_of_none e ha)).trans (sm b o e)) ((delH_ne ne).trans hd) hf⟩
theorem seq_itK {K : PySem.W.Frag} {H0 H : Hp} {a : Addr} {xs : List V} {R : It → Hp → Prop} (h : SqA K H0 a xs) (s : Same H0 H) (hR : ∀ (J : It) (S : Hp → Prop), Walk J xs.length S (YAt xs) → (∀ G, Same H0 G → S G) → R J H) : SeqR K a H R := by
  rcases h with h | h
  · exact .inl ⟨⟨xs, upL s h⟩, hR _ _ walk_list fun G k => upL k h⟩
  · exact .inr ⟨⟨xs, upT s h⟩, hR _ _ walk_tup fun G k => upT k h⟩
theorem build_len : ∀ (ds : List PyData) (r0 qs : List RowK), buildR r0 ds = .inr qs → qs.length ≤ r0.length + ds.length
  | [], r0, qs, h => by
    cases h
    exact Nat.le_refl _
  | d :: ds, r0, qs, h => by
    unfold buildR at h
    cases e : takeD r0 d with
    | row => rw [e] at h; cases h
    | name => rw [e] at h; cases h
    | ok k =>
      rw [e] at h
      dsimp only at h
      cases e2 : buildR (r0 ++ [k]) ds with
      | inl z => rw [e2] at h; cases h
      | inr ps =>
        rw [e2] at h
        cases h
        have := build_len ds (r0 ++ [k]) qs e2
        rw [List.length_append, List.length_singleton] at this
        rw [List.length_cons]
        omega
theorem keep_fr {p : Addr} {fp : List Addr} {H G G' : Hp} (k : Keep p H G) (f : Frame fp G G') (h : ∀ b ∈ fp, H b = none) : Keep p H G' := fun b o hb e => f b o (fun z => by rw [h b z] at e; cases e) (k b o hb e)
theorem build_at {ds : List PyData} {qs : List RowK} {i : Nat} {d : PyData} (h : buildR [] (ds.take i) = .inr qs) (e : ds[i]? = some d) :
    (takeD qs d = .row → buildR [] ds = .inl (i, false)) ∧ (takeD qs d = .name → buildR [] ds = .inl (i, true)) ∧ ∀ k, takeD qs d = .ok k → buildR [] (ds.take (i + 1)) = .inr (qs ++ [k]) := by
  have hi : i < ds.length := by
    rcases Nat.lt_or_ge i ds.length with h | h
    · exact h
    · rw [List.getElem?_eq_none h] at e
      cases e
  have e1 : ds.take (i + 1) = ds.take i ++ [d] := by rw [List.take_add_one, e]; rfl
  have e2 : ds = ds.take (i + 1) ++ ds.drop (i + 1) := (List.take_append_drop _ _).symm
  have e3 := build_snoc (ds.take i) d []
  rw [h, ← e1] at e3
  dsimp only at e3
  have el : (ds.take i).length = i := by rw [List.length_take]; omega
  rw [el] at e3
  refine ⟨fun z => ?_, fun z => ?_, fun k z => ?_⟩
  · rw [z] at e3
    rw [e2]
    exact build_stop _ _ _ _ _ e3
  · rw [z] at e3
    rw [e2]
    exact build_stop _ _ _ _ _ e3
  · rw [z] at e3
    exact e3
/-! rows of a book as data of which a book is made -/
theorem row_dd {K : PySem.W.Frag} {H : Hp} {k : RowK} {a : Addr} (h : RowAt K H k a) : Dd K H (.ref a) (rowD k) := by
  obtain ⟨x, y⟩ := k
  obtain ⟨_, h⟩ := h
  rcases h with ⟨n, e, h⟩ | ⟨ns, b, e, h1, h2⟩
  · have e' : y = .inl n := e
    subst e'
    exact .tup h (.cons (.str x) (.cons (.int n) .nil))
  · have e' : y = .inr ns := e
    subst e'
    refine .tup h1 (.cons (.str x) (.cons (.tup h2 ?_) .nil))
    have all : ∀ ms : List Int, DdAll K H (ms.map V.int) (ms.map PyData.int) := fun ms => by
      induction ms with
      | nil => exact .nil
      | cons m ms ih => exact .cons (.int m) ih
    exact all ns
theorem rows_dd {K : PySem.W.Frag} {H : Hp} : ∀ {rs : List RowK} {as : List Addr}, as.length = rs.length → (∀ (i : Nat) (k : RowK) (a : Addr), rs[i]? = some k → as[i]? = some a → RowAt K H k a) → DdAll K H (as.map V.ref) (rs.map rowD)
  | [], [], _, _ => .nil
  | k :: rs, a :: as, hl, h => .cons (row_dd (h 0 k a rfl rfl)) (rows_dd (by simpa using hl) fun j k' a' e1 e2 => h (j + 1) k' a' (by simpa using e1) (by simpa using e2))
  | [], _ :: _, h, _ => by cases h
  | _ :: _, [], h, _ => by cases h
theorem short_ints : ∀ ns : List Int, shortAll (ns.map PyData.int) = true
  | [] => rfl
  | n :: ns => by simp only [List.map_cons, shortAll, shortD, short_ints ns, Bool.and_self]
theorem short_row {n : Nat} {k : RowK} (h : OkK n k) : shortD (rowD k) = true := by
  obtain ⟨x, y⟩ := k
  have h5 : x.length ≤ 5000 := by
    have : x.length ≤ 8 := (name_ok h.1).2
    omega
  cases y with
  | inl t => simp [rowD, shortD, shortAll, h5]
  | inr ns => simp [rowD, shortD, shortAll, h5, short_ints ns]
theorem short_rows : ∀ {rs : List RowK}, (∀ k ∈ rs, ∃ n, OkK n k) → shortAll (rs.map rowD) = true
  | [], _ => rfl
  | k :: rs, h => by
    obtain ⟨n, hk⟩ := h k List.mem_cons_self
    simp only [List.map_cons, shortAll, short_row hk, short_rows fun x hx => h x (List.mem_cons_of_mem _ hx), Bool.and_self]
theorem int_back (ns : List Int) : (ns.map PyData.int).map intD = ns := by
  rw [List.map_map]
  exact List.map_id'' (fun _ => rfl) ns
theorem take_row {rs : List RowK} {k : RowK} (h : OkK rs.length k) (hn : k ∉ rs) : takeD rs (rowD k) = .ok k := by
  obtain ⟨x, y⟩ := k
  have hx : nameB (TL.tl x) = true := h.1
  have h2 := h.2
  have hh : hasR rs (x, y) = false := by
    cases e : hasR rs (x, y) with
    | false => rfl
    | true => exact absurd (hasR_iff.mp e) hn
  cases y with
  | inl t =>
    have f : formB (rowD (x, .inl t)) = true := by
      show secB (.int t) = true
      unfold secB
      exact decide_eq_true h2.1
    rw [take_form f (d0 := .str x) (d1 := .int t) rfl]
    have e1 : nameD (.str x) = true := hx
    have e2 : allD rs.length (.int t) = true := rfl
    have e3 : (strD (.str x), keyT (.int t)) = (x, Sum.inl t) := rfl
    rw [e1, e2, e3, hh]
    rfl
  | inr ns =>
    have hl : ns.length ≤ 3 := h2.1
    have f : formB (rowD (x, .inr ns)) = true := by
      show secB (.tuple (ns.map PyData.int)) = true
      unfold secB
      exact decide_eq_true (by rw [List.length_map]; exact hl)
    rw [take_form f (d0 := .str x) (d1 := .tuple (ns.map PyData.int)) rfl]
    have e1 : nameD (.str x) = true := hx
    have e2 : allD rs.length (.tuple (ns.map PyData.int)) = true := by
      show (ns.map PyData.int).all (idxD rs.length) = true
      rw [List.all_map]
      refine List.all_eq_true.mpr fun i hi => decide_eq_true ?_
      have := h2.2 i hi
      omega
    have e3 : (strD (.str x), keyT (.tuple (ns.map PyData.int))) = (x, Sum.inr ns) := by
      show (x, Sum.inr ((ns.map PyData.int).map intD)) = _
      rw [int_back]
    rw [e1, e2, e3, hh]
    rfl
theorem build_rows : ∀ (ks rs : List RowK), OkRows (rs ++ ks) → (rs ++ ks).Nodup → buildR rs (ks.map rowD) = .inr (rs ++ ks)
  | [], rs, _, _ => by rw [List.append_nil]; rfl
  | k :: ks, rs, ho, hn => by
    have hk : OkK rs.length k := ho rs.length k (by simp)
    have hnk : k ∉ rs := fun z => by
      have := (List.nodup_append.mp hn).2.2 k z k List.mem_cons_self
      exact this rfl
    have e : rs ++ k :: ks = (rs ++ [k]) ++ ks := by simp
    rw [List.map_cons]
    unfold buildR
    rw [take_row hk hnk]
    dsimp only
    rw [build_rows ks (rs ++ [k]) (e ▸ ho) (e ▸ hn), ← e]
end Tp
set_option Elab.async false
set_option linter.all false
set_option maxRecDepth 100000
set_option maxHeartbeats 0
namespace T56
open PySem PySem.Spec PyProof.Rows L2 Tp
def nbB (K : PySem.W.Frag) (C CN : Addr) : Bool := ((["NoneType", "int", "str", "list", "dict", "tuple"] : List String).all fun u => decide (PySem.W.kitOne K (.type u) (.ref C) = some false)) && (decide (PySem.W.kitOne K (.ref CN) (.ref C) = some false) && (decide (PySem.W.kitOne K (.ref CN) (.ref CN) = some true) && decide (PySem.W.kitOne K (.ref C) (.ref C) = some true)))
def xeB (K : PySem.W.Frag) (CB CU : Addr) : Bool := decide (PySem.W.exmOne K (.ref CB) (.ref CB) = some true) && (decide (PySem.W.exmOne K (.ref CU) (.ref CB) = some false) && decide (PySem.W.exmOne K (.ref CU) (.ref CU) = some true))
def fnL : List He.DefD := [dfn "_law_cell" (top 74),
  dfn "_law_box" (top 75),
  dfn "_law_take" (top 76),
  dfn "_law_label" (top 77),
  dfn "_law_rows" (top 78),
  dfn "_law_parts" (top 79),
  dfn "_law_other_rows" (top 80),
  dfn "_law_carried" (top 81),
  dfn "_law_slots" (top 82),
  dfn "_law_asked" (top 83),
  dfn "_law_told" (top 84),
  dfn "_law_pairs_right" (top 85),
  dfn "_law_refusals_right" (top 86),
  dfn "_law_is" (top 87),
  dfn "law" (top 88),
  dfn "is_whole" (top 28),
  dfn "is_integer" (top 27),
  dfn "is_list" (top 30),
  dfn "is_name" (top 29),
  dfn "_is_turn" (top 41),
  dfn "arguments_of" (top 34),
  dfn "moved_row" (top 35),
  dfn "_has_row_form" (top 42),
  dfn "_kept_row" (top 43),
  dfn "_row_text" (top 44),
  dfn "_first_unlike" (top 45),
  dfn "same_term" (top 39),
  dfn "_require_term" (top 40),
  dfn "joined_edges" (top 50),
  dfn "all_starts" (top 51),
  dfn "_direct_sources" (top 53),
  dfn "_spread" (top 57),
  dfn "working_order" (top 52),
  dfn "ring_without_delay" (top 54),
  dfn "ends_of_ways" (top 55),
  dfn "beginnings_of_ways" (top 56),
  dfn "_check_inputs" (top 60),
  dfn "_check_gates" (top 62),
  dfn "check_terms" (top 63),
  dfn "_check_edges" (top 65),
  dfn "_check_ways" (top 67),
  dfn "_kept_edges" (top 70),
  dfn "_given_edges" (top 71),
  dfn "check_parts" (top 59),
  dmt "Book" "_has" "Book._has" (inClass (top 38) 2),
  dmt "Book" "_has_all" "Book._has_all" (inClass (top 38) 3),
  dmt "Book" "_require" "Book._require" (inClass (top 38) 4),
  dmt "Book" "_entered" "Book._entered" (inClass (top 38) 5),
  dmt "Book" "rows" "Book.rows" (inClass (top 38) 9),
  dmt "Book" "__len__" "Book.__len__" (inClass (top 38) 10),
  dmt "Book" "_take" "Book._take" (inClass (top 38) 1),
  dmt "Book" "parts" "Book.parts" (inClass (top 38) 16),
  dmt "Book" "carry" "Book.carry" (inClass (top 38) 22),
  dmt "Book" "differ" "Book.differ" (inClass (top 38) 23),
  dmt "Book" "_compared" "Book._compared" (inClass (top 38) 24),
  dmt "Book" "__init__" "Book.__init__" (inClass (top 38) 0) [.adr (He.dflAt ("Book", some "__init__") 0)],
  dmt "TermTable" "__init__" "TermTable.__init__" (inClass (top 33) 0),
  dmt "TermTable" "enter_terms" "TermTable.enter_terms" (inClass (top 33) 3),
  dmt "TermTable" "used" "TermTable.used" (inClass (top 33) 4),
  dmt "Net" "__init__" "Net.__init__" (inClass (top 69) 0) [.adr (He.dflAt ("Net", some "__init__") 0)],
  dmt "Net" "terms" "Net.terms" (inClass (top 69) 1),
  dmt "Net" "inputs" "Net.inputs" (inClass (top 69) 2),
  dmt "Net" "outs" "Net.outs" (inClass (top 69) 6),
  dmt "Net" "rows" "Net.rows" (inClass (top 69) 7),
  dmt "Net" "__eq__" "Net.__eq__" (inClass (top 69) 18),
  dmt "InvalidBook" "__init__" "InvalidBook.__init__" (inClass (top 13) 0),
  dmt "UnknownTerm" "__init__" "UnknownTerm.__init__" (inClass (top 19) 0),
  dmt "InvalidPart" "__init__" "InvalidPart.__init__" (inClass (top 5) 0),
  dmt "InvalidName" "__init__" "InvalidName.__init__" (inClass (top 6) 0),
  dmt "InvalidRow" "__init__" "InvalidRow.__init__" (inClass (top 8) 0)]
def fa0 : List He.Fa := [.free "isinstance", .free "int", .free "bool", .free "str", .free "list", .free "tuple", .free "len", .free "all", .free "enumerate", .str "LETTERS" "abcdefghijklmnopqrstuvwxyz", .str "DIGITS" "0123456789", .int "LONGEST_NAME" 8, .int "MOST_ARGUMENTS" 3, .free "range", .free "max", .free "min", .free "repr", .free "set", .free "sorted", .free "sum", .cls "Book", .noat "Book" "_rows", .noat "Book" "_numbers", .noat "Book" "_sizes", .noat "Book" "_depths", .noat "Book" "_lengths", .cls "Net", .noat "Net" "_terms", .noat "Net" "_inputs", .noat "Net" "_names"]
def fa1 : List He.Fa := [.noat "Net" "_symbols", .noat "Net" "_edges", .noat "Net" "_outs", .glo "InvalidBook", .glo "UnknownTerm", .glo "InvalidPart", .glo "InvalidName", .glo "InvalidRow", .glo "is_whole", .glo "is_integer", .glo "is_list", .glo "is_name", .glo "_is_turn", .glo "arguments_of", .glo "moved_row", .glo "_has_row_form", .glo "_kept_row", .glo "_row_text", .glo "_first_unlike", .meth "Book" "_has", .meth "Book" "_has_all", .meth "Book" "_require", .meth "Book" "_entered", .meth "Book" "rows", .meth "Book" "__len__", .meth "Book" "_take", .meth "Book" "parts", .glo "Book", .meth "Book" "carry", .meth "Book" "_compared"]
def fa2 : List He.Fa := [.meth "Book" "differ", .glo "_require_term", .glo "same_term", .mkr "Book", .glo "joined_edges", .glo "all_starts", .glo "_direct_sources", .glo "_spread", .glo "working_order", .glo "ring_without_delay", .glo "ends_of_ways", .glo "beginnings_of_ways", .glo "_check_inputs", .glo "_check_gates", .glo "check_terms", .glo "_check_edges", .glo "_check_ways", .glo "_kept_edges", .glo "_given_edges", .glo "check_parts", .cls "TermTable", .noat "TermTable" "_listed", .noat "TermTable" "_places", .mkr "TermTable", .glo "TermTable", .meth "TermTable" "enter_terms", .meth "TermTable" "used", .mkr "Net", .glo "Net", .meth "Net" "terms"]
def fa3 : List He.Fa := [.meth "Net" "inputs", .meth "Net" "outs", .meth "Net" "rows", .meth "Net" "__eq__", .glo "_law_cell", .glo "_law_box", .glo "_law_take", .glo "_law_label", .glo "_law_rows", .glo "_law_parts", .glo "_law_other_rows", .glo "_law_carried", .glo "_law_slots", .glo "_law_asked", .glo "_law_told", .glo "_law_is", .glo "_law_pairs_right", .glo "_law_refusals_right", .glo "law"]
def faL : List He.Fa := fa0 ++ (fa1 ++ (fa2 ++ (fa3)))
def exB (K : PySem.W.Frag) : Bool := (glB K) && ((emB K (He.dflAt ("Book", some "__init__") 0 K)) && ((emB K (He.dflAt ("Net", some "__init__") 0 K)) && ((insB K (He.ga K "Book")) && ((insB K (He.ga K "Net")) && ((nbB K (He.ga K "Book") (He.ga K "Net")) && ((excB K (He.ga K "InvalidBook") (He.ga K "NetError") 0 ["value"] (He.fAd K ("InvalidBook", some "__init__"))) && ((excB K (He.ga K "UnknownTerm") (He.ga K "MissingError") 1 ["number"] (He.fAd K ("UnknownTerm", some "__init__"))) && ((excB K (He.ga K "InvalidPart") (He.ga K "NetError") 0 ["value"] (He.fAd K ("InvalidPart", some "__init__"))) && ((excB K (He.ga K "InvalidName") (He.ga K "NetError") 0 ["value"] (He.fAd K ("InvalidName", some "__init__"))) && ((excB K (He.ga K "InvalidRow") (He.ga K "NetError") 0 ["value"] (He.fAd K ("InvalidRow", some "__init__"))) && ((xeB K (He.ga K "InvalidBook") (He.ga K "UnknownTerm")))))))))))))
abbrev R : PySem.W.OpenRow := PySem.W.OpenLaw.row PySem.Challenge.rw_toldpast_k56_terms_of_two_books
def lo0 : List PySem.Str := ["_wall", "NetError", "MissingError", "StateError", "InvalidPart", "InvalidName", "Duplicate", "InvalidRow", "InvalidEdge", "Ring", "Dry", "Idle", "InvalidBook", "InvalidTurn", "InvalidString", "UnknownSource", "UnknownGate", "UnknownEdge", "UnknownTerm", "TooLong", "LETTERS", "DIGITS", "LONGEST_NAME", "MOST_DIGITS", "MOST_ARGUMENTS", "is_integer", "is_whole", "is_name", "is_list", "parse_integer"]
def lo1 : List PySem.Str := ["TermTable", "arguments_of", "moved_row", "LONGEST_TEXT", "Book", "same_term", "_require_term", "_is_turn", "_has_row_form", "_kept_row", "_row_text", "_first_unlike", "read_book", "_read_leaf", "_tokens", "joined_edges", "all_starts", "working_order", "_direct_sources", "ring_without_delay", "ends_of_ways", "beginnings_of_ways", "_spread", "check_parts", "_check_inputs", "_take_name", "_check_gates", "check_terms", "_are_indices", "_check_edges"]
def lo2 : List PySem.Str := ["_check_edge", "_check_ways", "Net", "_kept_edges", "_given_edges", "require_gate", "_law_cell", "_law_box", "_law_take", "_law_label", "_law_rows", "_law_parts", "_law_other_rows", "_law_carried", "_law_slots", "_law_asked", "_law_told", "_law_pairs_right", "_law_refusals_right", "_law_is"]
abbrev hk : PySem.W.Hook := Tp.hookR faL fnL exB
def ob (s : PySem.W.SharedT) : Tp.AlR := Tp.obsR faL fnL exB (HandSHeadRun.getT s)
theorem ob_eq (s : PySem.W.SharedT) : ob s = hk.obs s.abs := Tp.obsR_eq (HandSHeadRun.getT_eq s)
theorem run (w : World) : HandSHeadRun.RunEq R (PySem.W.view R.prog [88]) hk ob 20000 (T56.lo0 ++ (T56.lo1 ++ (T56.lo2))) w := by
  intro os
  kernel_rfl
end T56
set_option Elab.async false
set_option linter.all false
set_option maxRecDepth 100000
set_option maxHeartbeats 4000000
/-! the heap without the addresses of a predicate: data that lies apart from all that is changed -/
namespace Tp
open PySem PySem.Spec PyProof.Rows L2
open Classical in
/-- all that is tracked but where S -/
noncomputable def ms (S : Addr → Prop) (G : Hp) : Hp := fun b => if S b then none else G b
section
variable {S S' : Addr → Prop} {p a : Addr} {H G G' : Hp} {o : HO}
theorem ms_some {b : Addr} {u : HO} (e : ms S G b = some u) : ¬ S b ∧ G b = some u := by
  unfold ms at e
  split at e
  · cases e
  · rename_i h
    exact ⟨h, e⟩
theorem ms_at (h : ¬ S a) (e : G a = some o) : ms S G a = some o := by
  unfold ms
  rw [if_neg h]
  exact e
theorem ms_same : Same (ms S G) G := fun b u e => (ms_some e).2
theorem ms_of (h : ∀ b u, ¬ S b → G b = some u → G' b = some u) : Same (ms S G) (ms S G') := fun b u e => ms_at (ms_some e).1 (h b u (ms_some e).1 (ms_some e).2)
theorem ms_up (s : Same G G') : Same (ms S G) (ms S G') := ms_of fun b u _ e => s b u e
theorem ms_keep (hp : S p) (k : Keep p G G') : Same (ms S G) (ms S G') := ms_of fun b u h e => k b u (fun z => h (z ▸ hp)) e
theorem ms_fr {l : List Addr} (hl : ∀ b ∈ l, S b) (k : ∀ b o, b ∉ l → G b = some o → G' b = some o) : Same (ms S G) (ms S G') := ms_of fun b u h e => k b u (fun z => h (hl b z)) e
theorem ms_more (h : ∀ b, S' b → S b) : Same (ms S G) (ms S' G) := fun b u e => ms_at (fun z => (ms_some e).1 (h b z)) (ms_some e).2
theorem ms_put (h : S a) : ms S (upd G a o) = ms S G := by
  funext b
  unfold ms
  split
  · rfl
  · rename_i z
    exact upd_ne fun e => z (e ▸ h)
/-- one more address that is not there -/
theorem ms_to (h : G a = none) : Same (ms S G) (ms (fun b => S b ∨ b = a) G) := fun b u e => ms_at (fun z => z.elim (ms_some e).1 fun z => by have := (ms_some e).2; rw [z, h] at this; cases this) (ms_some e).2
/-- the addresses are all in use -/
def Sub (S : Addr → Prop) (H : Hp) : Prop := ∀ b, S b → H b ≠ none
theorem Sub.up (h : Sub S H) (s : Same H G) : Sub S G := fun b z => by
  obtain ⟨o, e⟩ := Option.ne_none_iff_exists'.mp (h b z)
  rw [s b o e]
  exact nofun
theorem Sub.keep {n : Nat} (h : Sub S H) (hb : BoxAt G p n) (k : Keep p H G) : Sub S G := fun b z => by
  by_cases e : b = p
  · obtain ⟨_, _, _, e1, _⟩ := hb
    rw [e, e1]
    exact nofun
  · obtain ⟨o, e1⟩ := Option.ne_none_iff_exists'.mp (h b z)
    rw [k b o e e1]
    exact nofun
theorem Sub.out (h : Sub S H) (e : H a = none) : ¬ S a := fun z => h a z e
theorem Sub.new {n : Nat} (h : Sub S H) (hb : BoxAt G p n) (k : Keep p H G) (e : G a = none) : ¬ S a := (h.keep hb k).out e
end
end Tp
set_option Elab.async false
set_option linter.all false
set_option maxRecDepth 100000
set_option maxHeartbeats 4000000
/-! == of whole numbers, texts and tuples of them with any data, dicts too -/
namespace PySem.SeqAt
open PySem.MeetsSeq
theorem dec_int {es : Array DictEntry} {n : Nat} {dd : Option Addr} {sl : Array (Option Value)} {e : Addr} {i : Int} {tk : Tok} :
    Meets (Builtin.«int.__eq__» ⟨[.int i tk, .ref e], []⟩) (fun _ Z w0 => w0.heap.get? e = some { cls := .type "dict", dict := dd, data := .dict es n, slots := sl } ∧ Z (.ok (.ret .notImplemented)) w0) :=
  .of_wp fun pr wd ar Z w0 q0 => by
    obtain ⟨a1, a2, a3, a4, a5⟩ := w0
    obtain ⟨q1, qz⟩ := q0
    skip
    wp_walk using wpAny_loadPart' q1, wpAny_load q1
    exact ⟨_, rfl, qz⟩
theorem dec_str {es : Array DictEntry} {n : Nat} {dd : Option Addr} {sl : Array (Option Value)} {e : Addr} {i : Str} {tk : Tok} :
    Meets (Builtin.«str.__eq__» ⟨[.str i tk, .ref e], []⟩) (fun _ Z w0 => w0.heap.get? e = some { cls := .type "dict", dict := dd, data := .dict es n, slots := sl } ∧ Z (.ok (.ret .notImplemented)) w0) :=
  .of_wp fun pr wd ar Z w0 q0 => by
    obtain ⟨a1, a2, a3, a4, a5⟩ := w0
    obtain ⟨q1, qz⟩ := q0
    skip
    wp_walk using wpAny_loadPart' q1, wpAny_load q1
    exact ⟨_, rfl, qz⟩
theorem dec_tup {es : Array DictEntry} {its : Array Value} {n m : Nat} {dd de : Option Addr} {sl su : Array (Option Value)} {e r : Addr} :
    Meets (Builtin.«tuple.__eq__» ⟨[.ref r, .ref e], []⟩) (fun _ Z w0 => w0.heap.get? r = some { cls := .type "tuple", dict := de, data := .seq its m, slots := su } ∧ w0.heap.get? e = some { cls := .type "dict", dict := dd, data := .dict es n, slots := sl } ∧ Z (.ok (.ret .notImplemented)) w0) :=
  .of_wp fun pr wd ar Z w0 q0 => by
    obtain ⟨a1, a2, a3, a4, a5⟩ := w0
    obtain ⟨q1, q2, qz⟩ := q0
    have f0 := F.sub_dict_tuple
    wp_walk using wpAny_loadPart' q1, wpAny_loadPart' q2
    exact ⟨_, rfl, qz⟩
theorem dec_dint {es : Array DictEntry} {n : Nat} {dd : Option Addr} {sl : Array (Option Value)} {e : Addr} {i : Int} {tk : Tok} :
    Meets (Builtin.«dict.__eq__» ⟨[.ref e, .int i tk], []⟩) (fun _ Z w0 => w0.heap.get? e = some { cls := .type "dict", dict := dd, data := .dict es n, slots := sl } ∧ Z (.ok (.ret .notImplemented)) w0) :=
  .of_wp fun pr wd ar Z w0 q0 => by
    obtain ⟨a1, a2, a3, a4, a5⟩ := w0
    obtain ⟨q1, qz⟩ := q0
    have f0 := F.sub_int_dict
    wp_walk using wpAny_loadPart' q1
    exact ⟨_, rfl, qz⟩
theorem dec_dstr {es : Array DictEntry} {n : Nat} {dd : Option Addr} {sl : Array (Option Value)} {e : Addr} {i : Str} {tk : Tok} :
    Meets (Builtin.«dict.__eq__» ⟨[.ref e, .str i tk], []⟩) (fun _ Z w0 => w0.heap.get? e = some { cls := .type "dict", dict := dd, data := .dict es n, slots := sl } ∧ Z (.ok (.ret .notImplemented)) w0) :=
  .of_wp fun pr wd ar Z w0 q0 => by
    obtain ⟨a1, a2, a3, a4, a5⟩ := w0
    obtain ⟨q1, qz⟩ := q0
    have f0 := F.sub_str_dict
    wp_walk using wpAny_loadPart' q1
    exact ⟨_, rfl, qz⟩
theorem dec_dtup {es : Array DictEntry} {its : Array Value} {n m : Nat} {dd de : Option Addr} {sl su : Array (Option Value)} {e r : Addr} :
    Meets (Builtin.«dict.__eq__» ⟨[.ref e, .ref r], []⟩) (fun _ Z w0 => w0.heap.get? r = some { cls := .type "tuple", dict := de, data := .seq its m, slots := su } ∧ w0.heap.get? e = some { cls := .type "dict", dict := dd, data := .dict es n, slots := sl } ∧ Z (.ok (.ret .notImplemented)) w0) :=
  .of_wp fun pr wd ar Z w0 q0 => by
    obtain ⟨a1, a2, a3, a4, a5⟩ := w0
    obtain ⟨q1, q2, qz⟩ := q0
    have f0 := F.sub_tuple_dict
    wp_walk using wpAny_loadPart' q1, wpAny_loadPart' q2
    exact ⟨_, rfl, qz⟩
/-- a dict at an address -/
def DicH (h : Heap) (e : Addr) : Prop := ∃ (o : Obj) (es : Array DictEntry) (n : Nat), h.get? e = some o ∧ o.cls = .type "dict" ∧ o.data = .dict es n
section
variable {A : Around} {s : Shared}
theorem of_rcI {i : Int} {tk : Tok} {e : Addr} (h : RcAt A s (.int i tk) (.ref e) false) : EqAt A s (.int i tk) (.ref e) false := fun pr wd ex z hz => by
  unfold eqBool
  exact wpAny_holding (wpAny_ite_split (fun y => absurd (eq_of_beq y) nofun) fun _ => wpAny_bind (h pr wd ex _ (wpAny_truthy_bool hz)))
theorem of_rcS {i : Str} {tk : Tok} {e : Addr} (h : RcAt A s (.str i tk) (.ref e) false) : EqAt A s (.str i tk) (.ref e) false := fun pr wd ex z hz => by
  unfold eqBool
  exact wpAny_holding (wpAny_ite_split (fun y => absurd (eq_of_beq y) nofun) fun _ => wpAny_bind (h pr wd ex _ (wpAny_truthy_bool hz)))
theorem eq_int_dic {i : Int} {tk : Tok} {e : Addr} (h : DicH s.heap e) (hu : A.units < cLine) : EqAt A s (.int i tk) (.ref e) false := by
  obtain ⟨⟨c, dd, dt, sl⟩, es, n, he, h1, h2⟩ := h
  simp only at h1 h2
  subst h1 h2
  refine of_rcI fun pr wd ex z hz => rc_eq_decline_or (k := false) (typeIs_int s i tk) ⟨_, he, rfl⟩ (by decide) F.sub_dict_int F.slot_int_eq F.slot_dict_eq_refl (fun _ y => ?_) (fun _ y => ?_) (fun _ y => wpAny_of_eq rfl y) (.inr hu) hz
  · exact call_meets F.slot_int_eq (typeIs_int s i tk) F.entry_int_eq (F.args_int_eq_2 _ _) dec_int ⟨he, y⟩
  · exact call_meets F.slot_dict_eq_refl ⟨_, he, rfl⟩ F.entry_dict_eq (F.args_dict_eq_2 _ _) dec_dint ⟨he, y⟩
theorem eq_str_dic {i : Str} {tk : Tok} {e : Addr} (h : DicH s.heap e) (hu : A.units < cLine) : EqAt A s (.str i tk) (.ref e) false := by
  obtain ⟨⟨c, dd, dt, sl⟩, es, n, he, h1, h2⟩ := h
  simp only at h1 h2
  subst h1 h2
  refine of_rcS fun pr wd ex z hz => rc_eq_decline_or (k := false) (typeIs_str s i tk) ⟨_, he, rfl⟩ (by decide) F.sub_dict_str F.slot_str_eq F.slot_dict_eq_refl (fun _ y => ?_) (fun _ y => ?_) (fun _ y => wpAny_of_eq rfl y) (.inr hu) hz
  · exact call_meets F.slot_str_eq (typeIs_str s i tk) F.entry_str_eq (F.args_str_eq_2 _ _) dec_str ⟨he, y⟩
  · exact call_meets F.slot_dict_eq_refl ⟨_, he, rfl⟩ F.entry_dict_eq (F.args_dict_eq_2 _ _) dec_dstr ⟨he, y⟩
theorem eq_tup_dic {r e : Addr} {its : Array Value} (t : s.heap.IsTuple r its) (h : DicH s.heap e) (hu : A.units < cLine) : EqAt A s (.ref r) (.ref e) false := by
  obtain ⟨⟨c, dd, dt, sl⟩, es, n, he, h1, h2⟩ := h
  obtain ⟨⟨c2, de, dt2, su⟩, hr, h3, m, h4⟩ := t
  simp only at h1 h2 h3 h4
  subst h1 h2 h3 h4
  have ne : r ≠ e := fun z => by
    rw [z, he] at hr
    exact absurd (congrArg Obj.cls (Option.some.inj hr)) (by simp)
  refine EqAt.of_refs ne fun pr wd ex z hz => rc_eq_decline_or (k := false) ⟨_, hr, rfl⟩ ⟨_, he, rfl⟩ (by decide) F.sub_dict_tuple F.slot_tuple_eq F.slot_dict_eq_refl (fun _ y => ?_) (fun _ y => ?_) (fun _ y => wpAny_isSame_ref_other' ne hr he (by simp) y) (.inr hu) hz
  · exact call_meets F.slot_tuple_eq ⟨_, hr, rfl⟩ F.entry_tuple_eq (F.args_tuple_eq_2 _ _) dec_tup ⟨hr, he, y⟩
  · exact call_meets F.slot_dict_eq_refl ⟨_, he, rfl⟩ F.entry_dict_eq (F.args_dict_eq_2 _ _) dec_dtup ⟨hr, he, y⟩
end
mutual
/-- whole numbers, texts, tuples of such -/
def leftD : PyData → Bool
  | .int _ => true
  | .str _ => true
  | .tuple xs => leftAll xs
  | .none => false
  | .bool _ => false
  | .list _ => false
  | .dict _ => false
def leftAll : List PyData → Bool
  | [] => true
  | x :: xs => leftD x && leftAll xs
end
mutual
theorem left_plain : ∀ d, leftD d = true → d.plain = true
  | .int _, _ => rfl
  | .str _, _ => rfl
  | .tuple xs, h => left_plainAll xs h
  | .none, h => nomatch h
  | .bool _, h => nomatch h
  | .list _, h => nomatch h
  | .dict _, h => nomatch h
theorem left_plainAll : ∀ xs, leftAll xs = true → PyData.plainAll xs = true
  | [], _ => rfl
  | x :: xs, h => by
    have h' : leftD x = true ∧ leftAll xs = true := by simpa [leftAll] using h
    simp only [PyData.plainAll, left_plain x h'.1, left_plainAll xs h'.2, Bool.and_self]
end
mutual
theorem eq_left : ∀ (da db : PyData) (A : Around) (s : Shared) (a b : Value) (as bs : List Addr), Reads s.heap a da as → Reads s.heap b db bs → leftD da = true → A.units + min da.depth db.depth < cLine → EqAt A s a b (PyData.eqv da db)
  | .int i, _, A, s, _, _, _, _, ra, rb, _, hu => by
    cases ra
    cases rb with
    | none => exact .int_none i _
    | bool y => exact .int_bool i _ y
    | int y u => exact .int_int i _ y u
    | str y u => exact .int_str i _ y u
    | list k1 k2 k3 _ => exact .int_list i _ ⟨_, k1, k2, _, k3⟩ (room_here hu)
    | tuple k1 k2 k3 _ => exact .int_tuple i _ ⟨_, k1, k2, _, k3⟩ (room_here hu)
    | dict k1 k2 k3 _ _ => exact eq_int_dic ⟨_, _, _, k1, k2, k3⟩ (room_here hu)
  | .str z, _, A, s, _, _, _, _, ra, rb, _, hu => by
    cases ra
    cases rb with
    | none => exact .str_none z _
    | bool y => exact .str_bool z _ y
    | int y u => exact .str_int z _ y u
    | str y u => exact .str_str z _ y u
    | list k1 k2 k3 _ => exact .str_list z _ ⟨_, k1, k2, _, k3⟩ (room_here hu)
    | tuple k1 k2 k3 _ => exact .str_tuple z _ ⟨_, k1, k2, _, k3⟩ (room_here hu)
    | dict k1 k2 k3 _ _ => exact eq_str_dic ⟨_, _, _, k1, k2, k3⟩ (room_here hu)
  | .tuple xs, db, A, s, _, _, _, _, ra, rb, ha, hu => by
    cases ra with
    | @tuple r o vs n _ ar g1 g2 g3 g4 =>
      have hr : s.heap.IsTuple r vs := ⟨_, g1, g2, _, g3⟩
      cases rb with
      | none => exact .tuple_none hr (room_here hu)
      | bool y => exact .tuple_bool y hr (room_here hu)
      | int y u => exact .tuple_int y u hr (room_here hu)
      | str y u => exact .tuple_str y u hr (room_here hu)
      | list k1 k2 k3 _ => exact .tuple_list hr ⟨_, k1, k2, _, k3⟩ (room_here hu)
      | dict k1 k2 k3 _ _ => exact eq_tup_dic hr ⟨_, _, _, k1, k2, k3⟩ (room_here hu)
      | @tuple q o' ws n' ys br k1 k2 k3 k4 =>
        have hq : s.heap.IsTuple q ws := ⟨_, k1, k2, _, k3⟩
        have z1 := ReadsAll.length _ _ _ g4
        have z2 := ReadsAll.length _ _ _ k4
        rw [Array.length_toList] at z1 z2
        show EqAt A s (.ref r) (.ref q) (PyData.eqvAll xs ys)
        by_cases e : r = q
        · subst e
          have e2 := plain_unique (.tuple xs) (.tuple ys) (.ref r) _ _ (left_plain _ ha) (.tuple g1 g2 g3 g4) (.tuple k1 k2 k3 k4)
          cases e2
          rw [eqvAll_refl_plain xs (left_plainAll xs ha)]
          exact EqAt.same _
        · have z3 := (eqvAll_eq xs ys).symm
          rw [z3, ← z1, ← z2]
          refine EqAt.of_refs e (RcAt.tuples hr hq (room_here hu) fun j h1 h2 => ?_)
          have := eq_leftAll xs ys A.in1 s vs.toList ws.toList _ _ g4 k4 ha (room_in hu) j (by rw [Array.length_toList]; exact h1) (by rw [Array.length_toList]; exact h2)
          rw [Array.getElem_toList, Array.getElem_toList] at this
          exact this
  | .none, _, _, _, _, _, _, _, _, _, h, _ => nomatch h
  | .bool _, _, _, _, _, _, _, _, _, _, h, _ => nomatch h
  | .list _, _, _, _, _, _, _, _, _, _, h, _ => nomatch h
  | .dict _, _, _, _, _, _, _, _, _, _, h, _ => nomatch h
theorem eq_leftAll : ∀ (xs ys : List PyData) (A : Around) (s : Shared) (vs ws : List Value) (as bs : List Addr), ReadsAll s.heap vs xs as → ReadsAll s.heap ws ys bs → leftAll xs = true → A.units + min (PyData.depthAll xs) (PyData.depthAll ys) < cLine → ∀ j (h1 : j < vs.length) (h2 : j < ws.length), EqAt A s vs[j] ws[j] (pairEq xs ys j)
  | [], _, _, _, _, _, _, _, ra, _, _, _, _, h1, _ => by
    cases ra
    cases h1
  | _ :: _, [], _, _, _, _, _, _, _, rb, _, _, _, _, h2 => by
    cases rb
    cases h2
  | x :: xs, y :: ys, A, s, _, _, _, _, ra, rb, ha, hu, j, h1, h2 => by
    have ha' : leftD x = true ∧ leftAll xs = true := by simpa [leftAll] using ha
    cases ra with
    | cons r rs =>
      cases rb with
      | cons q qs =>
        match j with
        | 0 => exact eq_left x y A s _ _ _ _ r q ha'.1 (room_head hu)
        | j + 1 => exact eq_leftAll xs ys A s _ _ _ _ rs qs ha'.2 (room_tail hu) j (Nat.lt_of_succ_lt_succ h1) (Nat.lt_of_succ_lt_succ h2)
end
end PySem.SeqAt
set_option Elab.async false
set_option linter.all false
set_option maxRecDepth 100000
set_option maxHeartbeats 4000000
/-! operators of an own class between two of its instances, its negative, its abs; a starred dict in a display; dicts of ints compared -/
namespace Tp
open PySem PySem.Spec PyProof.Rows L2
section
open PySem.W PySem.Calls
variable {prog : Program} {w : World} {A : Around} {E : Value → Shared → Prop} {s : Shared} {K : Frag} {x C L f : Addr} {h₀ : Heap} {m : Str → Option Value} {ox : Obj} {od : Option Obj} {b : Value}
theorem binC {op : Operator} {Q : Value → Shared → Prop} (F : Fr h₀ L s.heap m) (X₀ : K.In h₀) (I : InstAt s.heap x ox C od) (hb : Looks (model prog w) s.heap (typeOf b) (.ref C)) (hc : selfFirst K C = true)
    (hs : findIn K (.ref C) (PySem.dunder op.info.2) = some (some (.ref f))) (hf : isFn K (.ref f) = true)
    (h : wpAny (model prog w) A (call (.ref f) [.ref x, b]) (PySem.W.CmpBack Q) E s) : wpAny (model prog w) A (binaryOp op (.ref x) b) Q E s := by
  have X := X₀.keeps F.keep
  obtain ⟨cd, rest, hcd, hm⟩ := ksp_first hc
  rcases hi : op.info with ⟨sym, nm'⟩
  rw [hi] at hs
  dsimp only at hs
  have one := ksp_try X I hs hf h
  obtain ⟨hh, g, d, tt, os⟩ := s
  have L1 : Looks (model prog w) hh (typeOf (.ref x)) (.ref C) := I.type
  have L2 : Looks (model prog w) hh (typeOf b) (.ref C) := hb
  have L3 : Looks (model prog w) hh (fillsNumberSlot (.ref C) nm') true := fills_K X hcd hm hs
  simp only [binaryOp, hi]
  refine wpAny_holding (wpAny_bind ?_)
  unfold binaryOp1
  refine wpAny_bind (L1.at (wpAny_bind (L2.at (wpAny_bind (L3.at ?_)))))
  simp only [beq_self_eq_true, if_true]
  ksp_lk
  refine wpAny_mono one (fun r s' hr' => ?_) fun _ _ e => e
  obtain ⟨v, rfl, hq⟩ := hr'
  ksp_lk
  exact hq
theorem abs_K {Q : Value → Shared → Prop} (F : Fr h₀ L s.heap m) (X₀ : K.In h₀) (I : InstAt s.heap x ox C od) (hs : findIn K (.ref C) "__abs__" = some (some (.ref f))) (hf : isFn K (.ref f) = true)
    (h : wpAny (model prog w) A.in1 (call (.ref f) [.ref x]) Q E s) : wpAny (model prog w) A (call (.builtin "abs") [.ref x]) Q E s := by
  refine Calls.call_function_entry PyProof.Rows.kind_abs PyProof.Rows.plain_abs PyProof.Rows.entry_abs (PyProof.Rows.args_abs _) ?_
  unfold Builtin.«abs»
  refine wpAny_bind (m := oneArg "abs" _) (wpAny_pure ?_)
  refine wpAny_bind (m := callSpecial? (.ref x) (Str.ofString "__abs__")) (special_fn (X₀.keeps F.keep) I hs (beq_iff_eq.mp hf) (wpAny_mono h (fun r s' hr => ?_) fun _ _ y => y))
  exact wpAny_pure ⟨_, rfl, hr⟩
end
section
variable {X : Cx} {pins : List (Addr × Obj)} {σ : L2.St} {H : Hp} {s : Shared} {j k : Nat} {C : Addr} {sp : Sp}
/-- o op o' -/
def rBinO (C : Addr) (sp : Sp) : R2 := fun x y H Q => ∃ a dx fs b dy gs, x = .ref a ∧ H a = some (.ins C dx fs) ∧ y = .ref b ∧ H b = some (.ins C dy gs) ∧ sp [.ref a, .ref b] H (fun v H' => (∃ p, v = .ref p) ∧ Q v H') E0
theorem op_binO {op : Operator} {n : Str} (c : Ct X.prog X.w X.K X.mg X.base j C n [] sp) (hsf : PySem.W.selfFirst X.K C = true) (hn : PySem.dunder op.info.2 = n) (hr : Room j X.A) (hG : X.A.guards = some []) : OpR X (binaryOp op) (rBinO C sp) := by
  subst hn
  intro pins s σ H x y v u Q I rx ry h
  obtain ⟨a, dx, fs, b, dy, gs, rfl, ha, rfl, hb0, q⟩ := h
  cases (show v = Value.ref a from rx)
  cases (show u = Value.ref b from ry)
  obtain ⟨f, fd, ps, ds, cl, hm, F, hb, hd⟩ := c.ex
  cases hd
  obtain ⟨ox, od, J⟩ := ins_at I ha
  obtain ⟨oy, oe, J2⟩ := ins_at I hb0
  obtain ⟨m, hF⟩ := I.fr
  refine binC hF I.ok.mod.kin J J2.type hsf hm.at_ hm.fn (wpAny_mono (run_at (A := X.A) (us := [.ref a, .ref b]) (vs := [.ref a, .ref b]) F hr hG rfl hb .nil I (.cons rfl (.cons rfl .nil)) q) (fun r s' hv => ?_) fun _ _ x => x)
  obtain ⟨v, H', I', rv, ⟨p, rfl⟩, q'⟩ := hv
  cases (show r = Value.ref p from rv)
  exact ⟨.ref p, H', I', rfl, q'⟩
/-- -o -/
def rNegO (C : Addr) (sp : Sp) : V → Hp → VK → Prop := fun x H Q => ∃ a dx fs, x = .ref a ∧ H a = some (.ins C dx fs) ∧ sp [.ref a] H Q E0
theorem un_negO (c : Ct X.prog X.w X.K X.mg X.base j C "__neg__" [] sp) (hr : Room j X.A) (hG : X.A.guards = some []) : UnR X (unaryOp .USub) (rNegO C sp) := by
  intro pins s σ H x v Q I rx h
  obtain ⟨a, dx, fs, rfl, ha, q⟩ := h
  cases (show v = Value.ref a from rx)
  obtain ⟨f, fd, ps, ds, cl, hm, F, hb, hd⟩ := c.ex
  cases hd
  obtain ⟨ox, od, J⟩ := ins_at I ha
  obtain ⟨m, hF⟩ := I.fr
  exact PySem.W.ksp_neg hF I.ok.mod.kin J hm.at_ hm.fn (run_at (A := X.A) (us := [.ref a]) (vs := [.ref a]) F hr hG rfl hb .nil I (.cons rfl .nil) q)
/-- abs(o) -/
def rAbsO (C : Addr) (sp : Sp) : List V → Hp → VK → Prop := fun xs H Q => ∃ a dx fs, xs = [.ref a] ∧ H a = some (.ins C dx fs) ∧ sp [.ref a] H Q E0
theorem call_absO (c : Ct X.prog X.w X.K X.mg X.base j C "__abs__" [] sp) (hr : Room (j + 1) X.A) (hG : X.A.guards = some []) : CallR X (.builtin "abs") (rAbsO C sp) := by
  intro pins s σ H xs us Q I r h
  obtain ⟨a, dx, fs, rfl, ha, q⟩ := h
  obtain ⟨u, rfl, r1⟩ := vals1 r
  cases (show u = Value.ref a from r1)
  obtain ⟨f, fd, ps, ds, cl, hm, F, hb, hd⟩ := c.ex
  cases hd
  obtain ⟨ox, od, J⟩ := ins_at I ha
  obtain ⟨m, hF⟩ := I.fr
  exact abs_K hF I.ok.mod.kin J hm.at_ hm.fn (run_at (A := X.A.in1) (us := [.ref a]) (vs := [.ref a]) F hr.in1 hG rfl hb .nil I (.cons rfl .nil) q)
end
/-! ### *d in a display -/
def tStarD (te : TE) (t : TA) : TA := fun σ H Q => te σ H fun x H1 => ∃ d kvs, x = V.ref d ∧ Rd H1 d (.dK kvs) ∧ t σ H1 fun ys H2 => Q ((kvs.map fun kv => kV kv.1) ++ ys) H2
section
variable {X : Cx} {pins : List (Addr × Obj)} {σ : L2.St} {H : Hp} {s : Shared}
theorem star_dict {d : Addr} {kvs : List (Key × V)} {E : Value → Shared → Prop} {Q : List Value → Shared → Prop} (hc : X.calm = true) (I : Inv X pins σ H s) (h : Rd H d (.dK kvs)) (hQ : ∀ us s', Inv X pins σ H s' → Vals (kvs.map fun kv => kV kv.1) us → Q us s') : PySem.W.StarOf (model X.prog X.w) X.A E (.ref d) Q s := by
  obtain ⟨z, lo, vs, rel, dd⟩ := dk_rd I.hok h
  obtain ⟨ep, hat⟩ := dd.dictAt
  have ek : (kvs.map fun kv => kV kv.1) = vs.map fun p => kV p.1 := by
    have e := congrArg (List.map kV) rel.keys
    rw [List.map_map, List.map_map] at e
    exact e
  have z' : wpAny (model X.prog X.w) X.A (collect (.ref d)) Q E s := by
    refine PySem.W.kdu_collect (PySem.W.kdl_dict (knd := mixKind X.prog X.w) (kvs := vs) (ep := ep) lo) (I.ok.hd hc) hat (by rw [← rel.length]; exact z) fun h' tk acc hk hacc => ?_
    have hv : Vals (vs.map fun p => kV p.1) acc.toList := keys_at (by rw [Array.length_toList]; exact hacc.1) fun j v e => hacc.2 j v (by rw [← Array.getElem?_toList]; exact e)
    exact hQ _ _ (I.kept hk) (by rw [ek]; exact hv)
  unfold PySem.W.StarOf notIterableAtAll
  exact wpAny_bind (wpAny_specialOf dd.typeIs F.slot_dict_iter.lookup (wpAny_pure ⟨rfl, z'⟩))
theorem pa_starD {e : Expr} {es : List Expr} {te : TE} {t : TA} {p : Pos} (hc : X.calm = true) (he : PE X e te) (hr : PA X es t) (hs : starEach (.Starred e p :: es) X.env = (true, eval e X.env) :: starEach es X.env := by rfl) : PA X (.Starred e p :: es) (tStarD te t) := by
  refine ⟨fun pos pins s σ H Q I h => ?_⟩
  refine PySem.W.items_star (thn (he.run pins s σ H _ I h) fun v s1 ⟨y, H1, I1, ry, a, kvs, ey, hx, q⟩ => ?_) hs
  subst ey
  obtain rfl : v = Value.ref a := ry
  refine star_dict hc I1 hx fun us s2 I2 rv => ?_
  exact thn (hr.run pos pins s2 σ H1 _ I2 q) fun ws s3 ⟨vs, H3, I3, r3, q3⟩ => ⟨_ ++ vs, H3, I3, rv.append r3, q3⟩
end
/-! ### dicts of texts and ints -/
def kvI (p : Str × Int) : Key × V := (Sum.inr p.1, V.int p.2)
def lk (ls : List (Str × Int)) (n : Str) : Option Int := (ls.find? fun p => decide (p.1 = n)).map (·.2)
theorem lk_nil {n : Str} : lk [] n = none := rfl
theorem lk_cons {p : Str × Int} {ls : List (Str × Int)} {n : Str} : lk (p :: ls) n = if p.1 = n then some p.2 else lk ls n := by
  unfold lk
  rw [List.find?_cons]
  by_cases h : p.1 = n
  · rw [if_pos h, decide_eq_true h]
    rfl
  · rw [if_neg h, decide_eq_false h]
theorem valV_kvI {ls : List (Str × Int)} {n : Str} : valV (ls.map kvI) (Sum.inr n : Key) = (lk ls n).map V.int := by
  induction ls with
  | nil => rfl
  | cons p ls ih =>
    rw [lk_cons, List.map_cons]
    by_cases h : p.1 = n
    · rw [if_pos h, ← h]
      exact valV_pos (p := kvI p) rfl
    · rw [if_neg h, valV_neg (p := kvI p) (fun z => h (Sum.inr.inj z)), ih]
def eqI (as bs : List (Str × Int)) : Bool := as.length == bs.length && as.all fun p => decide (lk bs p.1 = some p.2)
theorem hits_int {A : Around} {s : Shared} {bs : List (Str × Int)} {vb : List (Key × Value)} (rb : KV (bs.map kvI) vb) : ∀ {as : List (Str × Int)} {va : List (Key × Value)}, KV (as.map kvI) va →
    PySem.W.KeqHits A s vb va (as.all fun p => decide (lk bs p.1 = some p.2))
  | [], va, ra => by
    cases ra
    exact .nil
  | p :: as, va, ra => by
    cases ra with
    | cons h t =>
      rename_i q qs
      obtain ⟨h1, t0, h2⟩ := h
      obtain ⟨k, v⟩ := q
      have h1' : (Sum.inr p.1 : Key) = k := h1
      have h2' : v = Value.int p.2 t0 := h2
      subst h1' h2'
      have rr : RelO (valV (bs.map kvI) (Sum.inr p.1 : Key)) (valueAt vb (Sum.inr p.1 : Key)) := rb.val _
      rw [valV_kvI] at rr
      rw [List.all_cons]
      cases e : lk bs p.1 with
      | none =>
        rw [e] at rr
        have hn : valueAt vb (Sum.inr p.1 : Key) = none := by
          cases e2 : valueAt vb (Sum.inr p.1 : Key) with
          | none => rfl
          | some y => rw [e2] at rr; exact (show False from rr).elim
        rw [decide_eq_false (by intro z; cases z), Bool.false_and]
        exact .miss hn
      | some i =>
        rw [e] at rr
        obtain ⟨y, hy, t1, ry⟩ := rr.some_of
        have ry' : y = Value.int i t1 := ry
        subst ry'
        have e3 : decide (some i = some p.2) = (p.2 == i) := by
          by_cases z : p.2 = i
          · rw [z]; simp
          · rw [decide_eq_false (fun w => z (Option.some.inj w).symm)]
            exact (beq_eq_false_iff_ne.mpr z).symm
        rw [e3]
        exact .hit hy (SeqAt.EqAt.int_int p.2 t0 i t1) (hits_int rb t)
section
variable {X : Cx}
def rEqDI (no : Bool) : R2 := fun x y H Q => ∃ a b as bs, x = .ref a ∧ y = .ref b ∧ H a = some (.dK (as.map kvI)) ∧ H b = some (.dK (bs.map kvI)) ∧ Q (.bl (eqI as bs != no)) H
theorem op_eqDI (hu : X.A.units < cLine) : OpR X (compareOp .Eq) (rEqDI false) := by
  intro pins s σ H x y v u Q I rx ry h
  obtain ⟨a, b, as, bs, rfl, rfl, ea, eb, q⟩ := h
  obtain rfl : v = Value.ref a := rx
  obtain rfl : u = Value.ref b := ry
  obtain ⟨_, ya, va, ra, da⟩ := (show ObjOk X.prog X.w H s.heap a (.dK (as.map kvI)) from I.hok a _ ea)
  obtain ⟨_, yb, vb, rb, db⟩ := (show ObjOk X.prog X.w H s.heap b (.dK (bs.map kvI)) from I.hok b _ eb)
  have la : va.length = as.length := by rw [← ra.length, List.length_map]
  have lb : vb.length = bs.length := by rw [← rb.length, List.length_map]
  rw [Bool.bne_false] at q
  exact PySem.W.keq_eq (knd := mixKind X.prog X.w) ya yb da db hu (fun _ => hits_int rb ra) (fin_bl I q (by rw [la, lb]; rfl))
theorem op_neDI (hu : X.A.units < cLine) : OpR X (compareOp .NotEq) (rEqDI true) := by
  intro pins s σ H x y v u Q I rx ry h
  obtain ⟨a, b, as, bs, rfl, rfl, ea, eb, q⟩ := h
  obtain rfl : v = Value.ref a := rx
  obtain rfl : u = Value.ref b := ry
  obtain ⟨_, ya, va, ra, da⟩ := (show ObjOk X.prog X.w H s.heap a (.dK (as.map kvI)) from I.hok a _ ea)
  obtain ⟨_, yb, vb, rb, db⟩ := (show ObjOk X.prog X.w H s.heap b (.dK (bs.map kvI)) from I.hok b _ eb)
  have la : va.length = as.length := by rw [← ra.length, List.length_map]
  have lb : vb.length = bs.length := by rw [← rb.length, List.length_map]
  rw [Bool.bne_true] at q
  exact PySem.W.keq_ne (knd := mixKind X.prog X.w) ya yb da db hu (fun _ => hits_int rb ra) (fin_bl I q (by rw [la, lb]; rfl))
end
end Tp
set_option Elab.async false
set_option linter.all false
set_option maxRecDepth 100000
set_option maxHeartbeats 4000000
/-! o[k] by the own method, with a fact about that one method -/
namespace Tp
open PySem PySem.Spec PyProof.Rows L2
section
variable {X : Cx} {j : Nat} {C : Addr} {sp : Sp} {o i : Expr} {pos : Pos} {to ti : TE} {W : WX}
theorem pe_getL (c : Ctr X.prog X.w X.K X.mg X.base j C "__getitem__" [] sp) (hfn : ∀ f, PySem.W.findIn X.K (.ref C) "__getitem__" = some (some (.ref f)) → PySem.W.fnIn X.K f = true) (hr : Room (j + 1) X.A) (hG : X.A.guards = some []) (tk : Takes X W) (ho : PE X o to) (hi : PE X i ti)
    (hsl : ∀ (a : Addr) (v : Value), subscripted i true (.ref a) v = runValue (.builtin "lifetime.subscript" ⟨[.ref a, v], []⟩) := by (intro _ _; with_unfolding_all rfl)) : PE X (.Subscript o i pos) (tGetX C sp W to ti) := by
  refine ⟨fun pins s σ H Q I h => ?_⟩
  refine Subscript_ (thn (ho.run pins s σ H _ I h) fun u s1 ⟨y, H1, I1, r1, q1⟩ => thn (hi.run pins s1 σ H1 _ I1 q1) fun v s2 ⟨x, H2, I2, r2, a, dx, fs, ey, ha, q2⟩ => ?_)
  subst ey
  cases (show u = Value.ref a from r1)
  obtain ⟨f, fd, ps, ds, cl, hm, F, hb, hd⟩ := c.ex
  cases hd
  obtain ⟨ox, od, J⟩ := ins_at I2 ha
  obtain ⟨m, hF⟩ := I2.fr
  exact PySem.W.sub_K hF I2.ok.mod.kin J hm.at_ (hfn _ hm.at_) hm.fn (run_gX (A := X.A.in1) (us := [.ref a, v]) (vs := [.ref a, x]) F hr.in1 hG rfl hb .nil tk I2 (.cons rfl (.cons r2 .nil)) q2) (hsl _ _)
end
end Tp
set_option Elab.async false
set_option linter.all false
set_option maxRecDepth 100000
set_option maxHeartbeats 4000000
/-! what laws over books share: rows drawn and made, lists of rows, books made of rows -/
namespace Tp
open PySem PySem.Spec PyProof.Rows L2
section
variable {P : Program} {w : World} {K : PySem.W.Frag} {mg : Str → Option Value} {base : Heap}
theorem step {p l : Addr} {n : Nat} {H G : Hp} {o : HO} (hb : BoxAt G p n) (k : Keep p H G) (e : G l = none) : BoxAt (upd G l o) p n ∧ Keep p H (upd G l o) ∧ Same G (upd G l o) ∧ l ≠ p ∧ upd G l o l = some o := ⟨hb.new e, k.trans (Keep.new e), Same.put e, (hb.ne e).symm, upd_same⟩
theorem tz_nil : Tz 0 ("" : Str) := ⟨by decide +kernel, fun c hc => by rw [show TL.tl ("" : Str) = [] from by decide +kernel] at hc; exact absurd hc List.not_mem_nil⟩
def rLenK (K : PySem.W.Frag) : List V → Hp → VK → Prop := fun xs H Q => ∃ x n, xs = [x] ∧ LenV K x H n ∧ Q (.int (n : Nat)) H
theorem call_lenK {X : Cx} {K : PySem.W.Frag} (h : X.K = K) : CallR X (.builtin "len") (rLenK K) := by
  subst h
  exact call_len
theorem small_log {m : Int} (h0 : 0 ≤ m) (h : m ≤ 100000) : m.natAbs.log2 < 1000 := by
  have := Nat.log2_le_self m.natAbs
  by_cases z : m.natAbs = 0
  · rw [z]; decide
  · exact Nat.lt_of_lt_of_le ((Nat.log2_lt z).mpr (show m.natAbs < 2 ^ 20 by omega)) (by decide)
theorem ixT {K : PySem.W.Frag} {H : Hp} {a : Addr} {xs : List V} {i : Int} {v : V} {Q : VK} (h : SqT K H a xs) (e : atI xs i = some v) (q : Q v H) : rIxT K (.ref a) (.int i) H Q := ⟨a, xs, i, v, rfl, rfl, h, e, q⟩
theorem name_sm {z : Str} (h : nameB (TL.tl z) = true) : shortD (.str z) = true ∧ smD (.str z) = true := by
  refine ⟨?_, ?_⟩
  · simp only [shortD]
    exact decide_eq_true (Nat.le_trans (name_ok h).2 (by decide))
  · unfold nameB at h
    simp only [Bool.and_eq_true, decide_eq_true_eq] at h
    obtain ⟨_, _, h2⟩ := h
    simp only [smD]
    refine List.all_eq_true.mpr fun c hc => decide_eq_true ?_
    have := (List.all_eq_true.mp h2) c hc
    simp only [lowB, digB, Bool.or_eq_true, decide_eq_true_eq] at this
    omega
theorem short_all : ∀ {ds : List PyData}, (∀ d ∈ ds, shortD d = true) → shortAll ds = true
  | [], _ => rfl
  | d :: ds, h => by
    simp only [shortAll, Bool.and_eq_true]
    exact ⟨h d List.mem_cons_self, short_all fun x hx => h x (List.mem_cons_of_mem _ hx)⟩
theorem dd_tup {H : Hp} {x : V} {ds : List PyData} (h : Dd K H x (.tuple ds)) : ∃ t ys, x = .ref t ∧ SqT K H t ys ∧ DdAll K H ys ds := by
  cases h with
  | tup hs ha => exact ⟨_, _, rfl, hs, ha⟩
theorem dd_cons {H : Hp} {ys : List V} {d : PyData} {ds : List PyData} (h : DdAll K H ys (d :: ds)) : ∃ v vs, ys = v :: vs ∧ Dd K H v d ∧ DdAll K H vs ds := by
  cases h with
  | cons a b => exact ⟨_, _, rfl, a, b⟩
theorem dd_nil {H : Hp} {ys : List V} (h : DdAll K H ys []) : ys = [] := by
  cases h
  rfl
theorem dd_str {H : Hp} {x : V} {z : Str} (h : Dd K H x (.str z)) : x = .str z := by
  cases h
  rfl
theorem rs_new {H : Hp} {p dr : Addr} {o o2 : HO} (h1 : H p = none) (h2 : H dr = none) : Same H (rs p p (upd (upd H dr o2) p o)) := fun b u e => by
  have n1 : b ≠ p := ne_of_none e h1
  have n2 : b ≠ dr := ne_of_none e h2
  exact rs_at n1 n1 ((upd_ne n1).trans ((upd_ne n2).trans e))
theorem same_new {H G : Hp} {p dr : Addr} {o o2 : HO} (h1 : H p = none) (h2 : H dr = none) (k : Keep p (upd (upd H dr o2) p o) G) : Same H G := fun b u e => by
  have n1 : b ≠ p := ne_of_none e h1
  have n2 : b ≠ dr := ne_of_none e h2
  exact k b u n1 ((upd_ne n1).trans ((upd_ne n2).trans e))
/-- where the way of a list ends -/
theorem build_end : ∀ (ds : List PyData) (r0 : List RowK) (i : Nat) (b : Bool), buildR r0 ds = .inl (i, b) → ∃ d qs, ds[i]? = some d ∧ buildR r0 (ds.take i) = .inr qs ∧ (b = true → takeD qs d = .name) ∧ (b = false → takeD qs d = .row)
  | [], r0, i, b, h => by simp [buildR] at h
  | d :: ds, r0, i, b, h => by
    simp only [buildR] at h
    cases ht : takeD r0 d with
    | row =>
      rw [ht] at h
      cases h
      exact ⟨d, r0, rfl, rfl, (fun z => nomatch z), fun _ => ht⟩
    | name =>
      rw [ht] at h
      cases h
      exact ⟨d, r0, rfl, rfl, (fun _ => ht), fun z => nomatch z⟩
    | ok k =>
      rw [ht] at h
      dsimp only at h
      cases hb : buildR (r0 ++ [k]) ds with
      | inr qs => rw [hb] at h; cases h
      | inl q =>
        obtain ⟨j, b2⟩ := q
        rw [hb] at h
        cases h
        obtain ⟨d2, qs, h1, h2, h3⟩ := build_end ds (r0 ++ [k]) j _ hb
        refine ⟨d2, qs, h1, ?_, h3⟩
        rw [List.take_succ_cons]
        simp only [buildR]
        rw [ht]
        dsimp only
        rw [h2]
theorem take_name {rs : List RowK} {d : PyData} (h : takeD rs d = .name) : ∃ d0 d1, seqD d = some [d0, d1] := by
  cases hf : formB d with
  | false => rw [take_no hf] at h; cases h
  | true =>
    unfold formB at hf
    split at hf
    · rename_i d0 d1 e
      exact ⟨_, _, e⟩
    · cases hf
theorem row_shaped {k : RowK} (h : PyData.strOk k.1 = true) : SeqAt.shaped (rowD k) = true := by
  unfold SeqAt.shaped
  rw [Bool.and_eq_true]
  refine ⟨?_, decide_eq_true (Nat.le_trans (rowD_depth k) (by decide))⟩
  have := rows_lay (rs := [k]) fun j hj => by rw [List.mem_singleton.mp hj]; exact h
  simp only [List.map_cons, List.map_nil, PyData.canLayAll0, Bool.and_true] at this
  exact this
theorem rows_any (qs : List RowK) (k : RowK) : (qs.map rowD).any (fun z => PyData.eqv z (rowD k)) = hasR qs k := by
  unfold hasR
  rw [List.any_map]
  congr 1
  funext q
  exact eqv_row q k
theorem op_eqDK {X : Cx} {K : PySem.W.Frag} (h : X.K = K) (hu : X.A.units + 64 < cLine) : OpR X (compareOp .Eq) (rEqD K) := h ▸ op_eqD hu
/-- what stands in the second place of a row -/
def RestAt (K : PySem.W.Frag) (H : Hp) (x : V) (k : RowK) : Prop := (∃ n, x = .int n ∧ k.2 = .inl n) ∨ ∃ b ns, x = .ref b ∧ SqT K H b (ns.map V.int) ∧ k.2 = .inr ns
theorem RestAt.up {H H' : Hp} {x : V} {k : RowK} (s : Same H H') (h : RestAt K H x k) : RestAt K H' x k := h.elim .inl fun ⟨b, ns, e, h, e2⟩ => .inr ⟨b, ns, e, upT s h, e2⟩
theorem BookAt.ok {P : Program} {w : World} {H : Hp} {C p : Addr} {fp : List Addr} {rs : List RowK} (B : BookAt P w K H C p fp rs) : rs.Nodup ∧ OkRows rs ∧ rs.length ≤ 5000 := by
  obtain ⟨dx, l1, d, l2, l3, l4, as, fs, rfl, nd, h0, a1, a2, a3, a4, a5, a6, b1, b2, h1, h2, h3, h4, h5, b3, b4, b5⟩ := B.ex
  exact ⟨b3, b4, b5⟩
theorem in_book {P : Program} {w : World} {H : Hp} {C p : Addr} {fp : List Addr} {rs : List RowK} {x : V} {d : PyData} {no : Bool} {Q : VK} (hB : BookAt P w K H C p fp rs) (hd : Dd K H x d) (hs : shortD d = true) (q : ∀ H', Same H H' → Q (.bl (memD rs d != no)) H') : rInO C (spCont P w K C) no x (.ref p) H Q := by
  obtain ⟨dx, gs, h0, _⟩ := hB.there
  exact ⟨p, dx, gs, rfl, h0, p, fp, rs, x, rfl, hB, .inl ⟨d, hd, hs, fun H' s => ⟨_, rfl, q H' s⟩⟩⟩
theorem dd_ints' {H : Hp} : ∀ ns : List Int, DdAll K H (ns.map V.int) (ns.map PyData.int)
  | [] => .nil
  | n :: ns => .cons (.int n) (dd_ints' ns)
section
variable {X : Cx}
open PySem.SeqAt in
theorem leftAll_mem {h : Heap} : ∀ {ds : List PyData} {vs : List Value} {as : List Addr} {z : Value} {dy : PyData} {bs : List Addr}, SeqAt.leftAll ds = true → ReadsAll h vs ds as → z ∈ vs → Reads h z dy bs → dy.canLay0 = true → SeqAt.leftD dy = true
  | [], _, _, _, _, _, _, r, hz, _, _ => by
    cases r
    cases hz
  | d :: ds, _, _, _, _, _, hl, r, hz, ry, hc => by
    have h' : leftD d = true ∧ leftAll ds = true := by simpa [leftAll] using hl
    cases r with
    | cons r rs =>
      rcases List.mem_cons.mp hz with e | e
      · subst e
        rw [← plain_unique d _ _ _ _ (left_plain d h'.1) r ry]
        exact h'.1
      · exact leftAll_mem h'.2 rs e ry hc
/-- x not in a list of rows, x any data -/
def rNotInL (K : PySem.W.Frag) : R2 := fun x y H Q => ∃ d ds, Dd K H x d ∧ Dp K H y (.list ds) ∧ SeqAt.leftAll ds = true ∧ PyData.canLayAll0 ds = true ∧ PyData.depthAll ds ≤ 8 ∧ Q (.bl (!ds.any fun z => PyData.eqv z d)) H
open PySem.SeqAt in
theorem op_notInL {K : PySem.W.Frag} (S : Sm K) (eK : X.K = K) (hu : X.A.units + 65 < cLine) : OpR X (compareOp .NotIn) (rNotInL K) := by
  subst eK
  intro pins s σ H x y v u Q I rx ry h
  obtain ⟨d, ds, hd, he, hl, hc, hdp, q⟩ := h
  obtain ⟨as, r1, _⟩ := Dd.reads I S d x v hd rx
  obtain ⟨bs, r2⟩ := Dp.reads I (.list ds) y u he ry
  cases r2 with
  | @list a o vs n _ cs h1 h2 h3 h4 =>
    refine notIn_listAt (fun z => PyData.eqv (readOf s.heap z) d) ⟨_, h1, h2, _, h3⟩ (fun z hz => ?_) ?_
    · obtain ⟨dy, es, ry, hcy, hle⟩ := readsAll_mem ds _ _ hc h4 z (by simpa using hz)
      rw [readOf_eq hcy ry]
      refine eq_left dy d _ s z v _ _ ry r1 (leftAll_mem hl h4 (by simpa using hz) ry hcy) ?_
      have e1 : min dy.depth d.depth ≤ 8 := Nat.le_trans (Nat.min_le_left _ _) (Nat.le_trans hle hdp)
      show X.A.units + 1 + min dy.depth d.depth < cLine
      omega
    · rw [any_by_data h4 hc]
      exact ⟨.bl _, H, I, rfl, q⟩
end
/-- a list of rows -/
def RowsL (K : PySem.W.Frag) (H : Hp) (l : Addr) (rs : List RowK) : Prop := ∃ as : List Addr, SqL K H l (as.map V.ref) ∧ as.length = rs.length ∧ ∀ (i : Nat) (k : RowK) (a : Addr), rs[i]? = some k → as[i]? = some a → RowAt K H k a
theorem RowsL.up {H H' : Hp} {l : Addr} {rs : List RowK} (s : Same H H') (h : RowsL K H l rs) : RowsL K H' l rs := by
  obtain ⟨as, h1, h2, h3⟩ := h
  exact ⟨as, upL s h1, h2, fun i k a e1 e2 => (h3 i k a e1 e2).mono fun _ _ => upT s⟩
/-- as many rows as the law makes -/
def SmR (rs : List RowK) : Prop := rs.length ≤ 60 ∧ ∀ k ∈ rs, ∀ n : Int, k.2 = .inl n → n.natAbs < 2 ^ 100
theorem name_tz {z : Str} (h : nameB (TL.tl z) = true) : Tz 8 z := ⟨by have := (name_ok h).2; rw [TL.len_tl] at this; exact this, fun c hc => smD_str (name_sm h).2 c hc⟩
theorem row_nice {n : Nat} {k : RowK} (h : OkK n k) (hn : n ≤ 5000) (hs : ∀ t : Int, k.2 = .inl t → t.natAbs < 2 ^ 100) : Nice 120 2 (rowD k) := by
  obtain ⟨z, r⟩ := k
  have hz : Nice 8 0 (.str z) := nice_str (name_tz h.1)
  cases r with
  | inl t =>
    exact ((NiceAll.cons hz (NiceAll.cons (nice_small (hs t rfl) (by decide)) niceAll_nil)).tuple).mono (by decide) (by decide)
  | inr ns =>
    have hl : ns.length ≤ 3 := h.2.1
    have ha : Nice (ns.length * 15) 1 (.tuple (ns.map PyData.int)) := by
      have := (niceAll_of (n := 14) (k := 0) (ds := ns.map PyData.int) fun d hd => by
        obtain ⟨i, hi, rfl⟩ := List.mem_map.mp hd
        have h2 := h.2.2 i hi
        exact (nice_small (k := 14) (by omega) (by decide)).mono (by decide) (by decide)).tuple
      rw [List.length_map] at this
      exact this.mono (by omega) (by decide)
    exact ((NiceAll.cons hz (NiceAll.cons ha niceAll_nil)).tuple).mono (by omega) (by decide)
theorem rows_nice {rs : List RowK} (h : OkRows rs) (hs : SmR rs) : Nice 8000 4 (.list (rs.map rowD)) := by
  have := (niceAll_of (n := 120) (k := 2) (ds := rs.map rowD) fun d hd => by
    obtain ⟨k, hk, rfl⟩ := List.mem_map.mp hd
    obtain ⟨i, hi⟩ := List.mem_iff_getElem?.mp hk
    have := (List.getElem?_eq_some_iff.mp hi).1
    have := hs.1
    exact row_nice (h i k hi) (by omega) (hs.2 k hk)).list
  refine this.mono ?_ (by decide)
  rw [List.length_map]
  have := hs.1
  omega
theorem row_two {H : Hp} {k : RowK} {a : Addr} (h : RowAt K H k a) : ∃ v1 d1, SqT K H a [.str k.1, v1] ∧ RestAt K H v1 k ∧ Dd K H v1 d1 ∧ rowD k = .tuple [.str k.1, d1] ∧ ((∃ n, k.2 = .inl n ∧ d1 = .int n) ∨ ∃ ns, k.2 = .inr ns ∧ d1 = .tuple (ns.map PyData.int)) := by
  obtain ⟨z, r⟩ := k
  obtain ⟨h0, ⟨n, e, h1⟩ | ⟨ns, b, e, h1, h2⟩⟩ := h
  · dsimp only at e
    subst e
    exact ⟨_, .int n, h1, .inl ⟨n, rfl, rfl⟩, .int n, rfl, .inl ⟨n, rfl, rfl⟩⟩
  · dsimp only at e
    subst e
    exact ⟨_, .tuple (ns.map PyData.int), h1, .inr ⟨b, ns, rfl, h2, rfl⟩, .tup h2 (dd_ints' ns), rfl, .inr ⟨ns, rfl, rfl⟩⟩
theorem rows_left : ∀ rs : List RowK, SeqAt.leftAll (rs.map rowD) = true
  | [] => rfl
  | (z, .inl n) :: rs => by
    simp only [List.map_cons, SeqAt.leftAll, rows_left rs, Bool.and_true]
    rfl
  | (z, .inr ns) :: rs => by
    have h : ∀ ns : List Int, SeqAt.leftAll (ns.map PyData.int) = true := fun ns => by
      induction ns with
      | nil => rfl
      | cons n ns ih => simp only [List.map_cons, SeqAt.leftAll, SeqAt.leftD, ih, Bool.and_self]
    simp only [List.map_cons, SeqAt.leftAll, rows_left rs, Bool.and_true]
    simp only [rowD, SeqAt.leftD, SeqAt.leftAll, h ns, Bool.and_self]
theorem BookAt.dom (B : BookAt P w K H C p fp rb) : ∀ b ∈ fp, H b ≠ none := by
  obtain ⟨dx, l1, d, l2, l3, l4, as, fs, rfl, nd, h0, a1, a2, a3, a4, a5, a6, b1, b2, h1, h2, h3, h4, h5, b3, b4, b5⟩ := B.ex
  intro b hb
  simp only [List.mem_cons, List.not_mem_nil, or_false] at hb
  rcases hb with rfl | rfl | rfl | rfl | rfl
  · rw [h1]; exact nofun
  · rw [h2]; exact nofun
  · rw [h3]; exact nofun
  · rw [h4]; exact nofun
  · rw [h5]; exact nofun
theorem box_nt (h : BoxAt H p0 n) : NotTup H p0 := by
  obtain ⟨a, b, c, h1, _⟩ := h
  exact not_lst h1
/-- the numbers of turns that the law draws -/
def SmT (rs : List RowK) : Prop := ∀ k ∈ rs, ∀ n : Int, k.2 = .inl n → n.natAbs < 2 ^ 100
theorem rows_snoc {H : Hp} {rs : List RowK} {as : List Addr} {k : RowK} {r : Addr} (hal : as.length = rs.length) (hrw : ∀ (i : Nat) (k : RowK) (a : Addr), rs[i]? = some k → as[i]? = some a → RowAt K H k a) (hr : RowAt K H k r) : ∀ (i : Nat) (k' : RowK) (a : Addr), (rs ++ [k])[i]? = some k' → (as ++ [r])[i]? = some a → RowAt K H k' a := fun m k' b h1 h2 => by
  rcases Nat.lt_or_ge m rs.length with h | h
  · rw [List.getElem?_append_left h] at h1
    rw [List.getElem?_append_left (by omega)] at h2
    exact hrw m k' b h1 h2
  · rw [List.getElem?_append_right h] at h1
    rw [List.getElem?_append_right (by omega)] at h2
    have e0 : m - rs.length = 0 := by
      by_cases w : m - rs.length = 0
      · exact w
      · rw [List.getElem?_eq_none (by simp; omega)] at h1
        cases h1
    rw [e0] at h1
    rw [show m - as.length = 0 by omega] at h2
    cases h1
    cases h2
    exact hr
theorem addR_twice (rs : List RowK) (k : RowK) : addR (addR rs k) k = addR rs k ∧ posR (addR rs k) k = posR rs k := by
  have h : hasR (addR rs k) k = true := by
    cases hh : hasR rs k with
    | true => rw [(posR_old hh).1]; exact hh
    | false =>
      rw [(posR_new hh).1]
      exact hasR_iff.mpr (List.mem_append_right _ List.mem_cons_self)
  have h2 : addR (addR rs k) k = addR rs k := (posR_old h).1
  exact ⟨h2, by unfold posR; rw [h2]⟩
theorem addR_len (rs : List RowK) (k : RowK) : rs.length ≤ (addR rs k).length ∧ (addR rs k).length ≤ rs.length + 1 := by
  cases hh : hasR rs k with
  | true => rw [(posR_old hh).1]; omega
  | false => rw [(posR_new hh).1, List.length_append]; exact ⟨Nat.le_add_right _ _, Nat.le_refl _⟩
theorem posR_at (rs : List RowK) (k : RowK) : (addR rs k)[posR rs k]? = some k ∧ ∀ m, m < posR rs k → (addR rs k)[m]? ≠ some k := by
  cases hh : hasR rs k with
  | true =>
    obtain ⟨h1, h2, h3⟩ := posR_old hh
    rw [h1]
    exact ⟨h2, h3⟩
  | false =>
    obtain ⟨h1, h2⟩ := posR_new hh
    rw [h1, h2]
    refine ⟨by rw [List.getElem?_append_right (Nat.le_refl _), Nat.sub_self]; rfl, fun m hm e => ?_⟩
    rw [List.getElem?_append_left hm] at e
    exact hasR_not hh (List.mem_of_getElem? e)
theorem posR_le (rs : List RowK) (k : RowK) : posR rs k ≤ rs.length := by
  have h := (List.getElem?_eq_some_iff.mp (posR_at rs k).1).1
  have := (addR_len rs k).2
  omega
/-- what is known of the class of books -/
structure TxtC (K : PySem.W.Frag) (C : Addr) : Prop where
  ik : InsK K C
  self : PySem.W.kitOne K (.ref C) (.ref C) = some true
theorem isR_book {H : Hp} {C p : Addr} {fp : List Addr} {rs : List RowK} (TC : TxtC K C) (hB : BookAt P w K H C p fp rs) : IsR K H (.ref p) (.ref C) true := by
  obtain ⟨dx, fs, h1, _⟩ := hB.there
  exact .inl ⟨_, .base (.ins h1 TC.ik.cl TC.ik.ha TC.ik.hn TC.ik.ht TC.ik.hm), TC.self⟩
theorem eq_to {H : Hp} {C p q : Addr} {fp fq : List Addr} {rs qs : List RowK} {no : Bool} {Q : VK} (TC : TxtC K C) (hB : BookAt P w K H C p fp rs) (hC : BookAt P w K H C q fq qs) (h : Q (.bl (decide (rs = qs) != no)) H) : rEqO K C (spEqB P w K C) no (.ref p) (.ref q) H Q := by
  obtain ⟨dx, fs, h1, _⟩ := hB.there
  obtain ⟨dy, gs, h2, _⟩ := hC.there
  exact ⟨p, dx, fs, rfl, h1, .inl ⟨q, dy, gs, rfl, h2⟩, p, fp, rs, .ref q, rfl, hB, .inl ⟨q, fq, qs, rfl, hC, isR_book TC hC, _, rfl, h⟩⟩
theorem rowsL_app {H : Hp} {rs ks : List RowK} {as bs : List Addr} {m : Addr} (hal : as.length = rs.length) (hrw : ∀ (i : Nat) (k : RowK) (a : Addr), rs[i]? = some k → as[i]? = some a → RowAt K H k a) (hbr : ∀ (i : Nat) (k : RowK) (a : Addr), ks[i]? = some k → bs[i]? = some a → RowAt K H k a) (hbl : bs.length = ks.length) (hm : SqL K H m (as.map V.ref ++ bs.map V.ref)) : RowsL K H m (rs ++ ks) := by
  refine ⟨as ++ bs, by rw [List.map_append]; exact hm, by rw [List.length_append, List.length_append, hal, hbl], fun i k a h1 h2 => ?_⟩
  rcases Nat.lt_or_ge i rs.length with h | h
  · rw [List.getElem?_append_left h] at h1
    rw [List.getElem?_append_left (by omega)] at h2
    exact hrw i k a h1 h2
  · rw [List.getElem?_append_right h] at h1
    rw [List.getElem?_append_right (by omega)] at h2
    rw [hal] at h2
    exact hbr _ k a h1 h2
theorem one_row {H : Hp} {k : RowK} {r : Addr} (h : RowAt K H k r) : ∀ (i : Nat) (j : RowK) (a : Addr), [k][i]? = some j → [r][i]? = some a → RowAt K H j a := fun i j a h1 h2 => by
  match i, h1, h2 with
  | 0, h1, h2 => cases h1; cases h2; exact h
theorem two_rows {H : Hp} {k k' : RowK} {r r' : Addr} (h : RowAt K H k r) (h' : RowAt K H k' r') : ∀ (i : Nat) (j : RowK) (a : Addr), [k, k'][i]? = some j → [r, r'][i]? = some a → RowAt K H j a := fun i j a h1 h2 => by
  match i, h1, h2 with
  | 0, h1, h2 => cases h1; cases h2; exact h
  | 1, h1, h2 => cases h1; cases h2; exact h'
theorem small_log100 {n : Int} (h : n.natAbs < 2 ^ 100) : n.natAbs.log2 < 1000 := by
  by_cases z : n.natAbs = 0
  · rw [z]
    decide
  · exact Nat.lt_of_lt_of_le ((Nat.log2_lt z).mpr h) (by decide)
theorem map_ref_inj : ∀ {as bs : List Addr}, as.map V.ref = bs.map V.ref → as = bs
  | [], [], _ => rfl
  | [], _ :: _, h => by cases h
  | _ :: _, [], h => by cases h
  | a :: as, b :: bs, h => by
    rw [List.map_cons, List.map_cons, List.cons.injEq] at h
    rw [map_ref_inj h.2]
    cases h.1
    rfl
/-- a book is made of rows of a book -/
theorem init_rows {H : Hp} {C CP CR CN b x dx : Addr} {as : List Addr} {rr : List RowK} {Q : VK} {E : XK} (hA : SqA K H b (as.map V.ref)) (hal : as.length = rr.length) (hrw : ∀ (i : Nat) (k : RowK) (a : Addr), rr[i]? = some k → as[i]? = some a → RowAt K H k a) (hok : OkRows rr) (hnd : rr.Nodup) (hlt : rr.length < 5000) (hx : H x = none) (hdx : H dx = none) (ne : x ≠ dx)
    (q : ∀ H' fq, Same H H' → (∀ b ∈ fq, H b = none) → BookAt P w K H' C x fq rr → Q .non H') : spInitB P w K C CP CR CN (.ref x :: ([.ref b] ++ [])) (upd (upd H dx (.own x)) x (.ins C dx [])) Q E := by
  have rn : Same H (rs x x (upd (upd H dx (.own x)) x (.ins C dx []))) := rs_new hx hdx
  have hb := build_rows rr [] hok hnd
  have okk : ∀ k ∈ rr, ∃ n, OkK n k := fun k hk => by
    obtain ⟨i, hi⟩ := List.mem_iff_getElem?.mp hk
    exact ⟨i, hok i k hi⟩
  refine ⟨x, dx, .ref b, rfl, upd_same, .inr ⟨b, _, _, rfl, hA.up rn, (Tp.rows_dd hal hrw).mono rn, short_rows okk, by rw [List.length_map]; exact hlt, fun m qs hq k hk n e => ?_, fun i e => ?_, fun i e => ?_, fun qs e H' fq kH hfq hBq => ?_⟩⟩
  · have hm := build_rows (rr.take m) [] (fun i k e => hok i k (by
      rw [List.nil_append, List.getElem?_take] at e
      split at e
      · exact e
      · cases e)) (by rw [List.nil_append]; exact hnd.sublist (List.take_sublist _ _))
    rw [List.map_take] at hm
    rw [hm] at hq
    cases hq
    obtain ⟨j, hj⟩ := okk k (List.mem_of_mem_take hk)
    have h2 := hj.2
    rw [e] at h2
    exact h2.2
  · rw [hb] at e
    cases e
  · rw [hb] at e
    cases e
  · rw [hb] at e
    cases e
    refine q H' fq (same_new hx hdx kH) (fun b hb => ?_) hBq
    cases e : H b with
    | none => rfl
    | some o =>
      have := hfq b hb
      rw [upd_ne (ne_of_none e hx), upd_ne (ne_of_none e hdx), e] at this
      cases this
theorem SqT_ms {H : Hp} {S : Addr → Prop} {a : Addr} {xs : List V} (hS : ∀ b, S b → NotTup H b) (h : SqT K H a xs) : SqT K (ms S H) a xs := by
  rcases h with h | h
  · rcases h with h | h
    · exact .inl (.inl (ms_at (fun z => hS a z xs (.inl h)) h))
    · obtain ⟨o, h⟩ := h
      exact .inl (.inr ⟨o, ms_at (fun z => hS a z xs (.inr ⟨o, h⟩)) h⟩)
  · exact .inr h
theorem row_ms {H : Hp} {S : Addr → Prop} {k : RowK} {a : Addr} (hS : ∀ b, S b → NotTup H b) (h : RowAt K H k a) : RowAt K (ms S H) k a := h.mono fun _ _ => SqT_ms hS
theorem both_of {B G : Prop} (hB : B) (h : B → G) : G := h hB
theorem upd_upd {H : Hp} {a : Addr} {o u : HO} : upd (upd H a o) a u = upd H a u := by
  funext b
  by_cases e : b = a
  · subst e
    rw [upd_same, upd_same]
  · rw [upd_ne e, upd_ne e, upd_ne e]
abbrev let1 : Str := "abcdefghijklmnopqrstuvwxyz0123456789"
theorem tz_let1 : Tz 36 let1 := ⟨by decide +kernel, by decide +kernel⟩
theorem let1_sm : ∀ c ∈ TL.tl let1, (lowB c || digB c) = true := by decide +kernel
theorem let1_low : ∀ j < 26, ((TL.tl let1)[j]?.any lowB) = true := by decide +kernel
theorem name_of {x : Nat} {ys : List Str} (hx : lowB x = true) (hl : ys.length ≤ 7) (hy : ∀ y ∈ ys, ∃ c, y = (⟨#[c]⟩ : Str) ∧ (lowB c || digB c) = true) : nameB (TL.tl ((⟨#[x]⟩ : Str) ++ Txt.join "" ys)) = true := by
  have e0 : TL.tl ("" : Str) = [] := by decide +kernel
  rw [TL.tl_append, tl_joinT, e0]
  have e1 : TL.tl (⟨#[x]⟩ : Str) = [x] := rfl
  rw [e1]
  have hj := joinL_len [] 1 0 (Nat.le_refl _) (ys.map TL.tl) fun q hq => by
    obtain ⟨y, hy', rfl⟩ := List.mem_map.mp hq
    obtain ⟨c, rfl, _⟩ := hy y hy'
    exact Nat.le_refl 1
  rw [List.length_map] at hj
  unfold nameB
  show (decide (1 ≤ (x :: TL.joinL [] (ys.map TL.tl)).length ∧ (x :: TL.joinL [] (ys.map TL.tl)).length ≤ 8) && (lowB x && ((lowB x || digB x) && (TL.joinL [] (ys.map TL.tl)).all fun c => lowB c || digB c))) = true
  have hall : ((TL.joinL [] (ys.map TL.tl)).all fun c => lowB c || digB c) = true := List.all_eq_true.mpr fun c hc => by
    rcases joinL_mem hc with z | ⟨q, hq, z⟩
    · exact absurd z List.not_mem_nil
    · obtain ⟨y, hy', rfl⟩ := List.mem_map.mp hq
      obtain ⟨d, rfl, hd⟩ := hy y hy'
      have : c = d := by simpa using (show c ∈ [d] from z)
      rw [this]
      exact hd
  rw [hx, hall, decide_eq_true (by rw [List.length_cons]; omega)]
  rfl
/-- a drawn name -/
def spLab : Sp := fun vs H Q _ => ∃ (p : Addr) (n : Nat), vs = [.ref p] ∧ BoxAt H p n ∧ n ≤ 100000 ∧ ∀ z H', nameB (TL.tl z) = true → BoxAt H' p (n + 20) → Keep p H H' → Q (.str z) H'
end
end Tp
set_option Elab.async false
set_option linter.all false
set_option maxRecDepth 100000
set_option maxHeartbeats 4000000
namespace T56
open PySem PySem.Spec PyProof.Rows L2 Tp

/-- the built-ins and constants that the checks name -/
structure TxtV (mg : Str → Option Value) : Prop where
  isinstance : mg "isinstance" = none
  int : mg "int" = none
  bool : mg "bool" = none
  str : mg "str" = none
  list : mg "list" = none
  tuple : mg "tuple" = none
  len : mg "len" = none
  all : mg "all" = none
  enumerate : mg "enumerate" = none
  letters : ∃ u, mg "LETTERS" = some u ∧ RelV (.str "abcdefghijklmnopqrstuvwxyz") u
  digits : ∃ u, mg "DIGITS" = some u ∧ RelV (.str "0123456789") u
  longest : ∃ u, mg "LONGEST_NAME" = some u ∧ RelV (.int 8) u
  most : ∃ u, mg "MOST_ARGUMENTS" = some u ∧ RelV (.int 3) u

section
variable {P : Program} {w : World} {K : PySem.W.Frag} {mg : Str → Option Value} {base : Heap} {f : Addr} {fd : FuncData}

abbrev sVw : Stmt := top 28
abbrev nVw : List Str := ["value"]
theorem scVw : FnScope nVw ["value"] (defScope sVw) := ⟨rfl, rfl, rfl, by decide +kernel, rfl, by decide +kernel, by decide +kernel⟩

theorem ok_whole (F : Fun K "is_whole" "is_whole" sVw f fd) (T : TxtV mg) : FnG P w K mg base CX0 1 f fd ["value"] (spWhole K) := by
  refine FunG.ok F scVw (fun vs H Q E h => ?_) (fun cdv B out s H vs Q E hr hG h => ?_)
  · obtain ⟨x, k, rfl, _⟩ := h
    rfl
  · obtain ⟨x, k, rfl, v, q⟩ := h
    refine ⟨_, (pss_one (ps_ret (pe_and (pe_callB call_isd (by rfl) T.isinstance (by decide +kernel) (pa_cons (pv 0) (pa_cons (pe_bltn (by rfl) T.int (by decide +kernel) (show RelV (.ty "int") _ from rfl)) pa_nil))) (pe_one (pe_not (pe_callB call_isd (by rfl) T.isinstance (by decide +kernel) (pa_cons (pv 0) (pa_cons (pe_bltn (by rfl) T.bool (by decide +kernel) (show RelV (.ty "bool") _ from rfl)) pa_nil)))))))), ?_⟩
    refine ⟨_, rfl, _, _, _, _, rfl, .ty _, v.kd.is "int" (by decide), _, rfl, ?_⟩
    refine ite2 (fun h1 => ?_) (fun h1 => ?_)
    · refine ⟨_, rfl, _, _, _, _, rfl, .ty _, v.kd.is "bool" (by decide), _, rfl, ?_⟩
      have e : (!ansB k "bool") = (k == "int") := ans_int h1
      rw [e]
      exact q
    · have e : (k == "int") = false := ans_int0 (Bool.eq_false_iff.mpr h1)
      rw [e] at q
      exact q

abbrev sVi : Stmt := top 27
abbrev nVi : List Str := ["value", "low", "high"]
theorem scVi : FnScope nVi ["value", "low", "high"] (defScope sVi) := ⟨rfl, rfl, rfl, by decide +kernel, rfl, by decide +kernel, by decide +kernel⟩

theorem ok_integer (F : Fun K "is_integer" "is_integer" sVi f fd) (W : Cg P w K mg base 1 "is_whole" (spWhole K)) : FnG P w K mg base CX0 2 f fd ["value", "low", "high"] (spInteger K) := by
  refine FunG.ok F scVi (fun vs H Q E h => ?_) (fun cdv B out s H vs Q E hr hG h => ?_)
  · obtain ⟨x, lo, hi, k, rfl, _⟩ := h
    rfl
  · obtain ⟨x, lo, hi, k, rfl, v, q0, q1⟩ := h
    refine ⟨_, (pss_one (ps_ret (pe_and (pe_g W hr hG (by decide) (by rfl) (pa_cons (pv 0) pa_nil)) (pe_one (pe_chain op_le op_le (pv 1) (pv 0) (pv 2)))))), ?_⟩
    refine ⟨_, rfl, _, k, rfl, v, _, rfl, ?_⟩
    refine ite2 (fun h1 => ?_) (fun h1 => ?_)
    · obtain ⟨i, rfl⟩ := v.i (by simpa using h1)
      refine ⟨_, rfl, _, rfl, _, _, rfl, rfl, _, rfl, ?_⟩
      have q := q1 i rfl
      refine ite2 (fun h2 => ?_) (fun h2 => ?_)
      · refine ⟨_, rfl, _, _, rfl, rfl, ?_⟩
        have e : decide (lo ≤ i ∧ i ≤ hi) = decide (i ≤ hi) := decide_eq_decide.mpr ⟨fun z => z.2, fun z => ⟨of_decide_eq_true h2, z⟩⟩
        rw [e] at q
        exact q
      · have e : decide (lo ≤ i ∧ i ≤ hi) = false := decide_eq_false fun z => h2 (decide_eq_true z.1)
        rw [e] at q
        exact q
    · exact q0 fun e => h1 (by rw [e]; rfl)

abbrev sVl : Stmt := top 30
abbrev nVl : List Str := ["value"]
theorem scVl : FnScope nVl ["value"] (defScope sVl) := ⟨rfl, rfl, rfl, by decide +kernel, rfl, by decide +kernel, by decide +kernel⟩

theorem ok_list (F : Fun K "is_list" "is_list" sVl f fd) (T : TxtV mg) : FnG P w K mg base CX0 1 f fd ["value"] (spList K) := by
  refine FunG.ok F scVl (fun vs H Q E h => ?_) (fun cdv B out s H vs Q E hr hG h => ?_)
  · obtain ⟨x, k, rfl, _⟩ := h
    rfl
  · obtain ⟨x, k, rfl, v, q⟩ := h
    refine ⟨_, (pss_one (ps_ret (pe_callB call_isdT (by rfl) T.isinstance (by decide +kernel) (pa_cons (pv 0) (pa_cons (pe_tup (pa_cons (pe_bltn (by rfl) T.list (by decide +kernel) (show RelV (.ty "list") _ from rfl)) (pa_cons (pe_bltn (by rfl) T.tuple (by decide +kernel) (show RelV (.ty "tuple") _ from rfl)) pa_nil))) pa_nil))))), ?_⟩
    have prs : Paired ClsV [V.ty "list", V.ty "tuple"] [.type "list", .type "tuple"] := .cons (.ty _) (.cons (.ty _) .nil)
    refine ⟨_, rfl, (by show 2 ≤ sizeLine; decide), fun p hp => ⟨_, p, _, _, _, rfl, upd_same, prs, v.kd.lt.mono (Same.put hp), ?_⟩⟩
    rw [ans_lt]
    exact q _ (Same.put hp)

abbrev sVn : Stmt := top 29
abbrev nVn : List Str := ["value", "character"]
theorem scVn : FnScope nVn ["value"] (defScope sVn) := ⟨rfl, rfl, rfl, by decide +kernel, rfl, by decide +kernel, by decide +kernel⟩

theorem ok_name (F : Fun K "is_name" "is_name" sVn f fd) (T : TxtV mg) : FnG P w K mg base CX0 1 f fd ["value"] (spName K) := by
  refine FunG.ok F scVn (fun vs H Q E h => ?_) (fun cdv B out s H vs Q E hr hG h => ?_)
  · obtain ⟨x, k, rfl, _⟩ := h
    rfl
  · obtain ⟨x, k, rfl, v, q0, q1⟩ := h
    refine ⟨_, (pss_cons (ps_if (PW.pt (pw_or (pt_not (pt_val (pe_callB call_isd (by rfl) T.isinstance (by decide +kernel) (pa_cons (pv 0) (pa_cons (pe_bltn (by rfl) T.str (by decide +kernel) (show RelV (.ty "str") _ from rfl)) pa_nil))))) (pw_or1 (pt_not (pt_chain op_le op_le pe_int (pe_callB call_len (by rfl) T.len PySem.boot_len (pa_cons (pv 0) pa_nil)) (gl_c (by rfl) T.longest)))))) (pss_one (ps_ret pe_bl)) pss_nil)
      (pss_one (ps_ret (pe_and (pe_cmpR op_in_sign (pe_ix ix_str (pv 0) pe_int fun _ _ => rfl) (gl_c (by rfl) T.letters) rfl) (pe_one (pe_callB (cr_all rfl) (by rfl) T.all (by decide +kernel) (pa_cons (pe_lc (own := [("character", 1)]) (g := gName 1) (tt := tYes) rfl scVn.nd (pi_str (pv 0)) (blkOk_by (N := nVn) (sc := defScope sVn) (by decide +kernel)) (fun _ _ _ _ _ => pg_name (i := 1) scVn.nd rfl (Or.inl rfl)) (fun _ _ _ _ _ => pts_nil) (fun _ _ _ _ _ => (pe_or (pe_cmpR op_in_sign (pv 1) (gl_c (by rfl) T.letters) rfl) (pe_one (pe_cmpR op_in_sign (pv 1) (gl_c (by rfl) T.digits) rfl))))) pa_nil))))))), ?_⟩
    refine ⟨_, rfl, _, _, _, _, rfl, .ty _, v.kd.is "str" (by decide), _, rfl, ?_⟩
    rw [ans_str]
    cases hk : (k == "str") with
    | false => exact iteT (iteT (q0 fun e => by rw [e] at hk; cases hk))
    | true =>
      obtain ⟨z, rfl, hz⟩ := v.s (by simpa using hk)
      have q := q1 z rfl
      have hzl : z.length = (TL.tl z).length := TL.len_tl z
      refine iteF ⟨_, rfl, _, _, rfl, ⟨by rw [PySem.sizeLine_eq]; omega, rfl⟩, _, _, rfl, rfl, _, rfl, ?_⟩
      have bad : ¬ (1 ≤ (TL.tl z).length ∧ (TL.tl z).length ≤ 8) → Q (.bl false) H := fun hn => by
        have q' := q H (Same.refl _)
        unfold nameB at q'
        rw [decide_eq_false hn] at q'
        exact q'
      refine ite2 (fun h1 => ?_) (fun h1 => ?_)
      · have h1' := of_decide_eq_true h1
        refine ⟨_, _, rfl, rfl, _, rfl, ?_⟩
        by_cases h2 : ((z.length : Nat) : Int) ≤ 8
        · refine if_false_of (by rw [decide_eq_true h2]; rfl) ?_
          have hpos : 0 < (TL.tl z).length := by omega
          have h0 : (TL.tl z)[0]? = some ((TL.tl z)[0]) := List.getElem?_eq_getElem hpos
          have hh : (TL.tl z).head? = some ((TL.tl z)[0]) := by rw [List.head?_eq_getElem?, h0]
          refine ⟨_, rfl, _, _, _, rfl, rfl, by rw [PySem.sizeLine_eq]; omega, atI_nat (j := 0) h0, _, _, rfl, rfl, _, rfl, ?_⟩
          rw [low_mem]
          cases h3 : lowB ((TL.tl z)[0]) with
          | false =>
            refine iteF ?_
            have q' := q H (Same.refl _)
            unfold nameB at q'
            rw [hh, Option.any_some, h3, Bool.false_and, Bool.and_false] at q'
            exact q'
          | true =>
            refine iteT ⟨_, rfl, _, rfl, fun D hD => ?_⟩
            refine lc_it walk_str (fun i G => Same H G ∧ G D = some (.lst ((((TL.tl z).take i).map fun c => lowB c || digB c).map V.bl))) ⟨Same.put hD, upd_same⟩ (fun _ _ _ _ => trivial) ?_ ?_
            · rintro i x G G' hi ⟨sm, hGD⟩ ⟨rfl, c, hc, rfl⟩
              have hi' : i < (TL.tl z).length := by rw [← hzl]; exact hi
              have hc' : (TL.tl z)[i]? = some c := by rw [← hc]; simp
              have fin : ∃ acc, G' D = some (.lst acc) ∧ acc.length < sizeLine ∧ Same H (upd G' D (.lst (acc ++ [V.bl (lowB c || digB c)]))) ∧ (upd G' D (.lst (acc ++ [V.bl (lowB c || digB c)]))) D = some (.lst ((((TL.tl z).take (i + 1)).map fun c => lowB c || digB c).map V.bl)) := by
                refine ⟨_, hGD, ?_, fun b o e => ?_, ?_⟩
                · rw [List.length_map, List.length_map, List.length_take, PySem.sizeLine_eq]
                  omega
                · rw [upd_ne (ne_of_none e hD)]
                  exact sm b o e
                · rw [upd_same, List.take_add_one, hc']
                  simp
              refine ⟨rfl, _, rfl, c, _, rfl, rfl, _, rfl, ?_⟩
              rw [low_mem]
              cases h4 : lowB c with
              | true =>
                refine iteT ?_
                rw [h4, Bool.true_or] at fin
                exact fin
              | false =>
                refine iteF ⟨_, rfl, c, _, rfl, rfl, ?_⟩
                rw [dig_mem']
                rw [h4, Bool.false_or] at fin
                exact fin
            · rintro G ⟨sm, hGD⟩
              have ez : (TL.tl z).take z.cps.size = TL.tl z := List.take_of_length_le (by rw [← hzl]; exact Nat.le_refl _)
              rw [ez] at hGD
              refine ⟨D, _, rfl, SqL.of hGD, ?_⟩
              have q' := q G sm
              unfold nameB at q'
              rw [hh, Option.any_some, h3, Bool.true_and, decide_eq_true (show 1 ≤ (TL.tl z).length ∧ (TL.tl z).length ≤ 8 from ⟨by omega, by omega⟩), Bool.true_and] at q'
              rw [List.all_map]
              exact q'
        · refine if_true_of (by rw [decide_eq_false h2]; rfl) ?_
          exact bad (by omega)
      · refine ⟨_, rfl, ?_⟩
        exact bad (by have h1' : ¬ (1 : Int) ≤ ((z.length : Nat) : Int) := fun e => h1 (decide_eq_true e); omega)

end
end T56
set_option Elab.async false
set_option linter.all false
set_option maxRecDepth 100000
set_option maxHeartbeats 4000000
namespace T56
open PySem PySem.Spec PyProof.Rows L2 Tp
section
variable {P : Program} {w : World} {K : PySem.W.Frag} {mg : Str → Option Value} {base : Heap} {f : Addr} {fd : FuncData}

abbrev sBit : Stmt := top 41
abbrev nBit : List Str := ["value"]
theorem scBit : FnScope nBit ["value"] (defScope sBit) := ⟨rfl, rfl, rfl, by decide +kernel, rfl, by decide +kernel, by decide +kernel⟩

theorem ok_turn (F : Fun K "_is_turn" "_is_turn" sBit f fd) (W : Cg P w K mg base 1 "is_whole" (spWhole K)) : FnG P w K mg base CX0 2 f fd ["value"] (spTurn K) := by
  refine FunG.ok F scBit (fun vs H Q E h => ?_) (fun cdv B out s H vs Q E hr hG h => ?_)
  · obtain ⟨x, k, rfl, _⟩ := h
    rfl
  · obtain ⟨x, k, rfl, v, q0, q1⟩ := h
    refine ⟨_, (pss_one (ps_ret (pe_and (pe_g W hr hG (by decide) (by rfl) (pa_cons (pv 0) pa_nil)) (pe_one (pe_cmpR op_ge (pv 0) pe_int (nomark _)))))), ?_⟩
    refine ⟨_, rfl, _, k, rfl, v, _, rfl, ?_⟩
    refine ite2 (fun h1 => ?_) (fun h1 => ?_)
    · obtain ⟨i, rfl⟩ := v.i (by simpa using h1)
      exact ⟨_, rfl, _, _, rfl, rfl, q1 i rfl⟩
    · exact q0 fun e => h1 (by rw [e]; rfl)

abbrev sBao : Stmt := top 34
abbrev nBao : List Str := ["row"]
theorem scBao : FnScope nBao ["row"] (defScope sBao) := ⟨rfl, rfl, rfl, by decide +kernel, rfl, by decide +kernel, by decide +kernel⟩

theorem ok_args (F : Fun K "arguments_of" "arguments_of" sBao f fd) (L : Cg P w K mg base 1 "is_list" (spList K)) : FnG P w K mg base CX0 2 f fd ["row"] (spArgs K) := by
  refine FunG.ok F scBao (fun vs H Q E h => ?_) (fun cdv B out s H vs Q E hr hG h => ?_)
  · obtain ⟨r, u, v, k, rfl, _⟩ := h
    rfl
  · obtain ⟨r, u, v, k, rfl, hA, hv, q1, q0⟩ := h
    refine ⟨_, (pss_one (ps_ret (pe_ifExp (pt_val (pe_g L hr hG (by decide) (by rfl) (pa_cons (pe_ix (ix_list.or ix_tup) (pv 0) pe_int fun _ _ => rfl) pa_nil))) (pe_ix (ix_list.or ix_tup) (pv 0) pe_int fun _ _ => rfl) (pe_tup pa_nil)))), ?_⟩
    refine ⟨_, rfl, ixA hA (atI_nat (j := 1) rfl) ?_⟩
    refine ⟨v, k, rfl, hv, fun H1 s1 => ⟨_, rfl, ?_⟩⟩
    cases hk : (k == "list" || k == "tuple") with
    | true => exact iteT ⟨_, rfl, ixA (hA.up s1) (atI_nat (j := 1) rfl) (q1 hk _ s1)⟩
    | false => exact iteF ⟨(by show 0 ≤ sizeLine; decide), fun t ht => q0 hk _ _ (Same.tr s1 (Same.put ht)) (SqT.of upd_same)⟩

abbrev sBhf : Stmt := top 42
abbrev nBhf : List Str := ["value"]
theorem scBhf : FnScope nBhf ["value"] (defScope sBhf) := ⟨rfl, rfl, rfl, by decide +kernel, rfl, by decide +kernel, by decide +kernel⟩

theorem ok_form (F : Fun K "_has_row_form" "_has_row_form" sBhf f fd) (T : TxtV mg) (L : Cg P w K mg base 1 "is_list" (spList K)) (U : Cg P w K mg base 2 "_is_turn" (spTurn K)) : FnG P w K mg base CX0 3 f fd ["value"] (spForm K) := by
  refine FunG.ok F scBhf (fun vs H Q E h => ?_) (fun cdv B out s H vs Q E hr hG h => ?_)
  · obtain ⟨x, rfl, _⟩ := h
    rfl
  · obtain ⟨x, rfl, h⟩ := h
    refine ⟨_, (pss_cons (ps_if (PW.pt (pw_or (pt_not (pt_val (pe_g L hr hG (by decide) (by rfl) (pa_cons (pv 0) pa_nil)))) (pw_or1 (pt_cmpR op_ne (pe_callB call_len (by rfl) T.len PySem.boot_len (pa_cons (pv 0) pa_nil)) pe_int (nomark _))))) (pss_one (ps_ret pe_bl)) pss_nil)
      (pss_cons (ps_if (pt_val (pe_g L hr hG (by decide) (by rfl) (pa_cons (pe_ix (ix_list.or ix_tup) (pv 0) pe_int fun _ _ => rfl) pa_nil))) (pss_one (ps_ret (pe_cmpR op_le (pe_callB call_len (by rfl) T.len PySem.boot_len (pa_cons (pe_ix (ix_list.or ix_tup) (pv 0) pe_int fun _ _ => rfl) pa_nil)) (gl_c (by rfl) T.most) (nomark _)))) pss_nil)
      (pss_one (ps_ret (pe_g U hr hG (by decide) (by rfl) (pa_cons (pe_ix (ix_list.or ix_tup) (pv 0) pe_int fun _ _ => rfl) pa_nil)))))), ?_⟩
    rcases h with ⟨d, hd, hs, q⟩ | ⟨k, v, hk, q⟩
    · refine ⟨_, rfl, x, kindD d, rfl, vk_dd hd hs, fun H1 s1 => ⟨_, rfl, ?_⟩⟩
      rw [kind_seq]
      have no : formB d = false → ∀ H', Same H H' → Q (.bl false) H' := fun e H' s => by
        have q' := q H' s
        rwa [e] at q'
      cases hq : seqD d with
      | none => exact iteT (iteT (no (by unfold formB; rw [hq]) _ s1))
      | some ds =>
        obtain ⟨a, xs, rfl, hA, hall⟩ := dd_seq hd hq
        have hlen := hall.len
        have hsh := short_seq hs hq
        refine iteF ⟨_, rfl, _, _, rfl, lenA (hA.up s1), rfl, _, rfl, ?_⟩
        by_cases h2 : ds.length = 2
        · obtain ⟨d0, d1, rfl⟩ : ∃ d0 d1, ds = [d0, d1] := by
            match ds, h2 with
            | [a, b], _ => exact ⟨a, b, rfl⟩
          obtain ⟨v1, hv1, hd1⟩ := hall.at (i := 1) rfl
          have sh1 : shortD d1 = true := shortAll_get (i := 1) hsh rfl
          refine if_false_of (ne_dec2 (by rw [hlen]; rfl)) ?_
          have er : formB d = secB d1 := by unfold formB; rw [hq]
          unfold secB at er
          refine ⟨_, rfl, ixA (hA.up s1) (atI_nat (j := 1) hv1) ?_⟩
          refine ⟨v1, kindD d1, rfl, vk_dd (hd1.mono s1) sh1, fun H3 s3 => ⟨_, rfl, ?_⟩⟩
          have s13 := Same.tr s1 s3
          rw [kind_seq]
          cases hq1 : seqD d1 with
          | none =>
            rw [hq1] at er
            refine iteF ⟨_, rfl, ixA (hA.up s13) (atI_nat (j := 1) hv1) ?_⟩
            refine ⟨v1, kindD d1, rfl, vk_dd (hd1.mono s13) sh1, fun e => ?_, fun i e => ?_⟩
            · refine no ?_ _ s13
              rw [er]
              cases d1 <;> first | rfl | exact absurd rfl e
            · subst e
              cases hd1
              have q' := q _ s13
              rw [er] at q'
              exact q'
          | some ns =>
            rw [hq1] at er
            obtain ⟨a1, ys, rfl, hA1, hall1⟩ := dd_seq hd1 hq1
            have hlen1 := hall1.len
            refine iteT ⟨_, rfl, ixA (hA.up s13) (atI_nat (j := 1) hv1) ⟨_, _, rfl, lenA (hA1.up s13), _, _, rfl, rfl, ?_⟩⟩
            have q' := q _ s13
            rw [er] at q'
            have e3 : decide (((ys.length : Nat) : Int) ≤ 3) = decide (ns.length ≤ 3) := decide_eq_decide.mpr (by rw [hlen1]; omega)
            have q2 : Q (.bl (decide (ns.length ≤ 3))) H3 := q'
            rw [← e3] at q2
            exact q2
        · refine if_true_of (ne_dec1 (by omega)) ?_
          refine no ?_ _ s1
          unfold formB
          rw [hq]
          match ds, h2 with
          | [], _ => rfl
          | [_], _ => rfl
          | [_, _], h2 => exact absurd rfl h2
          | _ :: _ :: _ :: _, _ => rfl
    · refine ⟨_, rfl, x, k, rfl, v, fun H1 s1 => ⟨_, rfl, ?_⟩⟩
      rw [hk]
      exact iteT (iteT (q _ s1))

abbrev sBkr : Stmt := top 43
abbrev nBkr : List Str := ["row", "last"]
theorem scBkr : FnScope nBkr ["row"] (defScope sBkr) := ⟨rfl, rfl, rfl, by decide +kernel, rfl, by decide +kernel, by decide +kernel⟩

theorem ok_kept (F : Fun K "_kept_row" "_kept_row" sBkr f fd) (T : TxtV mg) (L : Cg P w K mg base 1 "is_list" (spList K)) : FnG P w K mg base CX0 2 f fd ["row"] (spKept K) := by
  refine FunG.ok F scBkr (fun vs H Q E h => ?_) (fun cdv B out s H vs Q E hr hG h => ?_)
  · obtain ⟨r, k, rfl, _⟩ := h
    rfl
  · obtain ⟨r, ⟨x, y⟩, rfl, ⟨h0, hx, hp⟩, q⟩ := h
    refine ⟨_, (pss_cons (ps_set (i := 1) scBkr.nd rfl (.inl rfl) (pe_ifExp (pt_val (pe_g L hr hG (by decide) (by rfl) (pa_cons (pe_ix (ix_list.or ix_tup) (pv 0) pe_int fun _ _ => rfl) pa_nil))) (pe_callTy call_tuple_of (by rfl) T.tuple (by decide +kernel) (pa_cons (pe_ix (ix_list.or ix_tup) (pv 0) pe_int fun _ _ => rfl) pa_nil)) (pe_ix (ix_list.or ix_tup) (pv 0) pe_int fun _ _ => rfl)))
      (pss_one (ps_ret (pe_tup (pa_cons (pe_ix (ix_list.or ix_tup) (pv 0) pe_int fun _ _ => rfl) (pa_cons (pv 1) pa_nil)))))), ?_⟩
    rcases hp with ⟨n, e, hA⟩ | ⟨ns, b, e, hA, hB⟩
    · have e' : y = .inl n := e
      subst e'
      refine ⟨_, rfl, ixA hA (atI_nat (j := 1) rfl) ?_⟩
      refine ⟨.int n, "int", rfl, vk_int n, fun H1 s1 => ⟨_, rfl, iteF ?_⟩⟩
      refine ⟨_, rfl, ixA (hA.up s1) (atI_nat (j := 1) rfl) ?_⟩
      refine ⟨_, rfl, ixA (hA.up s1) (atI_nat (j := 0) rfl) ⟨_, rfl, (by show 2 ≤ sizeLine; decide), fun t ht => ?_⟩⟩
      exact q t _ (Same.tr s1 (Same.put ht)) ⟨h0, .inl ⟨n, rfl, SqT.of upd_same⟩⟩
    · have e' : y = .inr ns := e
      subst e'
      obtain ⟨kk, vk, hk⟩ := vk_seqA hB
      refine ⟨_, rfl, ixA hA (atI_nat (j := 1) rfl) ?_⟩
      refine ⟨.ref b, kk, rfl, vk, fun H1 s1 => ⟨_, rfl, ?_⟩⟩
      rw [hk]
      refine iteT ?_
      rcases hB with hB | hB
      · refine ⟨_, rfl, ixA (hA.up s1) (atI_nat (j := 1) rfl) ⟨_, _, rfl, .inl ⟨upL s1 hB, fun l hl => ?_⟩⟩⟩
        have s2 := Same.put (o := .tup (ns.map V.int)) hl
        exact ⟨_, rfl, ixA ((hA.up s1).up s2) (atI_nat (j := 0) rfl) ⟨_, rfl, (by show 2 ≤ sizeLine; decide), fun t ht => q t _ (Same.tr s1 (Same.tr s2 (Same.put ht))) ⟨h0, .inr ⟨ns, l, rfl, SqT.of upd_same, upT (Same.put ht) (SqT.of upd_same)⟩⟩⟩⟩
      · refine ⟨_, rfl, ixA (hA.up s1) (atI_nat (j := 1) rfl) ⟨_, _, rfl, .inr ⟨upT s1 hB, ?_⟩⟩⟩
        exact ⟨_, rfl, ixA (hA.up s1) (atI_nat (j := 0) rfl) ⟨_, rfl, (by show 2 ≤ sizeLine; decide), fun t ht => q t _ (Same.tr s1 (Same.put ht)) ⟨h0, .inr ⟨ns, b, rfl, SqT.of upd_same, upT (Same.put ht) (upT s1 hB)⟩⟩⟩⟩

abbrev sBrt : Stmt := top 44
abbrev nBrt : List Str := ["row", "texts", "name", "last", "inner"]
theorem scBrt : FnScope nBrt ["row", "texts"] (defScope sBrt) := ⟨rfl, rfl, rfl, by decide +kernel, rfl, by decide +kernel, by decide +kernel⟩

theorem ok_rtext (F : Fun K "_row_text" "_row_text" sBrt f fd) (L : Cg P w K mg base 1 "is_list" (spList K)) : FnG P w K mg base CX0 2 f fd ["row", "texts"] (spRowText K) := by
  refine FunG.ok F scBrt (fun vs H Q E h => ?_) (fun cdv B out s H vs Q E hr hG h => ?_)
  · obtain ⟨a, l, k, ts, rfl, _⟩ := h
    rfl
  · obtain ⟨a, l, ⟨x, y⟩, ts, rfl, ⟨h0, hp⟩, hl, hx, hn, ht3, ht, q⟩ := h
    refine ⟨_, (pss_cons (ps_asg (pv 0) (pg_tup rfl (pgs_cons (pg_name (i := 2) scBrt.nd rfl (Or.inl rfl)) (pgs_cons (pg_name (i := 3) scBrt.nd rfl (Or.inl rfl)) pgs_nil))))
      (pss_cons (ps_if (pt_not (pt_val (pe_g L hr hG (by decide) (by rfl) (pa_cons (pv 3) pa_nil)))) (pss_one (ps_ret (pe_joined (.cons (pe_fmt (pv 2)) (.cons pe_str (.cons (pe_fmt (pv 3)) .nil)))))) pss_nil)
      (pss_cons (ps_if (pt_not (pt_truth (pv 3) (by intro _; rfl))) (pss_one (ps_ret (pv 2))) pss_nil)
      (pss_cons (ps_set (i := 4) scBrt.nd rfl (.inl rfl) (pe_join pe_str (pv 1)))
      (pss_one (ps_ret (pe_joined (.cons (pe_fmt (pv 2)) (.cons pe_str (.cons (pe_fmt (pv 4)) (.cons pe_str .nil))))))))))), ?_⟩
    have hx : x.length ≤ 8 := hx
    have e8 := PySem.sizeLine_eq
    rcases hp with ⟨n, e, hA⟩ | ⟨ns, b, e, hA, hB⟩
    · have e' : y = .inl n := e
      subst e'
      have hn := hn n rfl
      have hi : (Str.ofString (toString n)).length ≤ 1001 := by
        rw [PySem.ofString_length]
        exact int_text_length_le (k := 1000) (by decide) hn
      refine ⟨_, rfl, a, _, rfl, hA, rfl, _, _, rfl, _, _, rfl, ?_⟩
      refine ⟨rfl, _, rfl, .int n, "int", rfl, vk_int n, fun H1 s1 => ⟨_, rfl, iteT ?_⟩⟩
      have l1 : (Str.empty ++ x).length ≤ sizeLine := by rw [Str.length_append]; show 0 + x.length ≤ _; omega
      have ea : (("@" : Str)).length = 1 := rfl
      have l2 : (Str.empty ++ x ++ ("@" : Str)).length ≤ sizeLine := by rw [Str.length_append, Str.length_append, ea]; show 0 + x.length + 1 ≤ _; omega
      have l3 : (Str.empty ++ x ++ ("@" : Str) ++ Str.ofString (toString n)).length ≤ sizeLine := by rw [Str.length_append, Str.length_append, Str.length_append, ea]; show 0 + x.length + 1 + _ ≤ _; omega
      have ex : Str.empty ++ x = x := Str.append_left_empty rfl
      refine ⟨_, rfl, .inl ⟨x, rfl, by omega, ⟨x, rfl, l1, ⟨_, rfl, l2, _, rfl, .inr ⟨n, rfl, by omega, _, rfl, l3, ?_⟩⟩⟩⟩⟩
      rw [ex]
      exact q _ s1
    · have e' : y = .inr ns := e
      subst e'
      refine ⟨_, rfl, a, _, rfl, hA, rfl, _, _, rfl, _, _, rfl, ?_⟩
      refine ⟨rfl, _, rfl, ⟨.ref b, "tuple", rfl, vk_tuple hB, fun H1 s1 => ⟨_, rfl, iteF ?_⟩⟩⟩
      have hB1 := upT s1 hB
      refine ⟨_, rfl, !(ns.map V.int).isEmpty, .inr (.inl ⟨_, hB1, rfl⟩), ?_⟩
      cases ns with
      | nil => exact iteT ⟨_, rfl, q _ s1⟩
      | cons n0 ns =>
        refine iteF ?_
        have hsum := lens_le ts ht
        have h3 : ts.length * 400 ≤ 3 * 400 := Nat.mul_le_mul ht3 (Nat.le_refl _)
        have hj := joins_le ts ht3 ht
        refine ⟨⟨_, rfl⟩, _, rfl, _, _, ts, rfl, rfl, .inl (upL s1 hl), ?_, ?_⟩
        · show _ + ts.length * 1 ≤ _
          omega
        · have l1 : (Str.empty ++ x).length ≤ sizeLine := by rw [Str.length_append]; show 0 + x.length ≤ _; omega
          have ea : (("(" : Str)).length = 1 := rfl
          have eb : ((")" : Str)).length = 1 := rfl
          have l2 : (Str.empty ++ x ++ ("(" : Str)).length ≤ sizeLine := by rw [Str.length_append, Str.length_append, ea]; show 0 + x.length + 1 ≤ _; omega
          have l3 : (Str.empty ++ x ++ ("(" : Str) ++ Txt.join "," ts).length ≤ sizeLine := by rw [Str.length_append, Str.length_append, Str.length_append, ea]; show 0 + x.length + 1 + _ ≤ _; omega
          have l4 : (Str.empty ++ x ++ ("(" : Str) ++ Txt.join "," ts ++ (")" : Str)).length ≤ sizeLine := by rw [Str.length_append, Str.length_append, Str.length_append, Str.length_append, ea, eb]; show 0 + x.length + 1 + _ + 1 ≤ _; omega
          have ex : Str.empty ++ x = x := Str.append_left_empty rfl
          refine ⟨_, rfl, .inl ⟨x, rfl, by omega, ⟨x, rfl, l1, ⟨_, rfl, l2, _, rfl, .inl ⟨_, rfl, by omega, _, rfl, l3, ⟨_, rfl, l4, ?_⟩⟩⟩⟩⟩⟩
          rw [ex]
          exact q _ s1

end
end T56
set_option Elab.async false
set_option linter.all false
set_option maxRecDepth 100000
set_option maxHeartbeats 4000000
namespace T56
open PySem PySem.Spec PyProof.Rows L2 Tp
section
variable {P : Program} {w : World} {K : PySem.W.Frag} {mg : Str → Option Value} {base : Heap} {f : Addr} {fd : FuncData}

abbrev sBha : Stmt := inClass (top 38) 2
abbrev nBha : List Str := ["self", "number"]
theorem scBha : FnScope nBha ["self", "number"] (defScope sBha) := ⟨rfl, rfl, rfl, by decide +kernel, rfl, by decide +kernel, by decide +kernel⟩

theorem ok_has {C : Addr} (F : Fun K "_has" "Book._has" sBha f fd) (T : TxtV mg) (TB : TxtBk K C) (IT : Cg P w K mg base 2 "is_integer" (spInteger K)) : FnG P w K mg base CX0 3 f fd ["self", "number"] (spHas P w K C) := by
  refine FunG.ok F scBha (fun vs H Q E h => ?_) (fun cdv B out s H vs Q E hr hG h => ?_)
  · obtain ⟨p, fp, rs, x, k, rfl, _⟩ := h
    rfl
  · obtain ⟨p, fp, rs, x, k, rfl, hB, hv, q⟩ := h
    obtain ⟨dx, l1, d, l2, l3, l4, as, fs, rfl, nd, h0, a1, a2, a3, a4, a5, a6, b1, b2, h1, h2, h3, h4, h5, b3⟩ := hB.ex
    refine ⟨_, (pss_one (ps_ret (pe_g IT hr hG (by decide) (by rfl) (pa_cons (pv 1) (pa_cons pe_int (pa_cons (pe_op op_sub (pe_callB call_len (by rfl) T.len PySem.boot_len (pa_cons (pe_fld (pv 0) rfl) pa_nil)) pe_int) pa_nil)))))), ?_⟩
    refine ⟨_, rfl, _, rfl, p, C, dx, fs, _, rfl, h0, TB.cl, TB.no _ (by simp), a1, _, _, rfl, .inl ⟨_, SqL.of h1, rfl⟩, _, _, rfl, rfl, ?_⟩
    have e : (((as.map V.ref).length : Nat) : Int) - 1 = (rs.length : Int) - 1 := by rw [List.length_map, b1]
    refine ⟨x, 0, _, k, rfl, hv, fun hk => ?_, fun i hi => ?_⟩
    · have : numV rs.length x = false := by
        cases x <;> first | rfl | exact absurd hv.int_k hk
      rwa [this] at q
    · subst hi
      have e2 : decide (0 ≤ i ∧ i ≤ (((as.map V.ref).length : Nat) : Int) - 1) = decide (0 ≤ i ∧ i < (rs.length : Int)) := decide_eq_decide.mpr (by rw [e]; omega)
      show Q (.bl (decide (0 ≤ i ∧ i ≤ (((as.map V.ref).length : Nat) : Int) - 1))) H
      rw [e2]
      exact q

abbrev sBhl : Stmt := inClass (top 38) 3
abbrev nBhl : List Str := ["self", "numbers", "number"]
theorem scBhl : FnScope nBhl ["self", "numbers"] (defScope sBhl) := ⟨rfl, rfl, rfl, by decide +kernel, rfl, by decide +kernel, by decide +kernel⟩

theorem ok_hasall {C : Addr} (F : Fun K "_has_all" "Book._has_all" sBhl f fd) (T : TxtV mg) (TB : TxtBk K C) (CH : Ct P w K mg base 3 C "_has" [] (spHas P w K C)) : FnG P w K mg base CX0 4 f fd ["self", "numbers"] (spHasAll P w K C) := by
  refine FunG.ok F scBhl (fun vs H Q E h => ?_) (fun cdv B out s H vs Q E hr hG h => ?_)
  · obtain ⟨p, b, fp, rs, ys, rfl, _⟩ := h
    rfl
  · obtain ⟨p, b, fp, rs, ys, rfl, hB, hb, h5, hy, q⟩ := h
    refine ⟨_, (pss_one (ps_ret (pe_callB (cr_all rfl) (by rfl) T.all (by decide +kernel) (pa_cons (pe_lc (own := [("number", 2)]) (g := gName 2) (tt := tYes) rfl scBhl.nd (pi_seq (pv 1)) (blkOk_by (N := nBhl) (sc := defScope sBhl) (by decide +kernel)) (fun _ _ _ _ _ => pg_name (i := 2) scBhl.nd rfl (Or.inl rfl)) (fun _ _ _ _ _ => pts_nil) (fun _ _ _ _ _ => (pe_ct (pv 0) CH hr hG (by decide) (pa_cons (pv 2) pa_nil)))) pa_nil)))), ?_⟩
    refine ⟨_, rfl, b, rfl, seq_it hb fun J wk => fun D hD => ?_⟩
    refine lc_it wk (fun j G => Same H G ∧ G D = some (.lst (((ys.take j).map (numV rs.length)).map V.bl))) ⟨Same.put hD, upd_same⟩ (fun _ _ _ h => h.1) ?_ ?_
    · rintro j x G G' hj ⟨sm, hGD⟩ ⟨rfl, hx⟩
      obtain ⟨k, vk⟩ := hy x (List.mem_of_getElem? hx)
      obtain ⟨dx, fs, h0, a6⟩ := (hB.up sm).there
      refine ⟨rfl, _, rfl, p, dx, fs, rfl, h0, a6 _ (by decide), _, rfl, ?_⟩
      refine ⟨p, fp, rs, x, k, rfl, hB.up sm, vk.mono sm, ⟨_, hGD, ?_, fun b o e => ?_, ?_⟩⟩
      · rw [List.length_map, List.length_map, List.length_take, PySem.sizeLine_eq]
        omega
      · rw [upd_ne (ne_of_none e hD)]
        exact sm b o e
      · rw [upd_same, List.take_add_one, hx]
        simp
    · rintro G ⟨sm, hGD⟩
      rw [List.take_length] at hGD
      refine ⟨D, _, rfl, SqL.of hGD, ?_⟩
      rw [List.all_map]
      exact q _ sm

abbrev sBrq : Stmt := inClass (top 38) 4
abbrev nBrq : List Str := ["self", "number"]
theorem scBrq : FnScope nBrq ["self", "number"] (defScope sBrq) := ⟨rfl, rfl, rfl, by decide +kernel, rfl, by decide +kernel, by decide +kernel⟩

theorem ok_req {C CU : Addr} (F : Fun K "_require" "Book._require" sBrq f fd) (CH : Ct P w K mg base 3 C "_has" [] (spHas P w K C)) (XU : Cx1 P w K mg base "UnknownTerm" CU 1 [] (spI CU ["number"]) (fun vs _ => vs)) : FnG P w K mg base (L2.CX P w) 4 f fd ["self", "number"] (spReq P w K C CU) := by
  have hT : ExK K CU := let ⟨_, _, _, _, h, _⟩ := XU.ex; h
  refine FunG.okX F scBrq (fun vs H Q E h => ?_) (fun cdv B out s H vs Q E hr hG h => ?_)
  · obtain ⟨p, fp, rs, x, k, rfl, _⟩ := h
    rfl
  · obtain ⟨p, fp, rs, x, k, rfl, hB, hv, q1, q0⟩ := h
    obtain ⟨dx, fs, h0, a6⟩ := hB.there
    refine ⟨_, (pss_one (ps_if (pt_not (pt_val (pe_ct (pv 0) CH hr hG (by decide) (pa_cons (pv 1) pa_nil)))) (pss_one (ps_raise rfl (takes_of rfl rfl rfl rfl) (pmk_x rfl (pe_mke (ns := ["number"]) XU (hr.mono (by decide)) (by rfl) (pa_cons (pv 1) pa_nil))))) pss_nil)), ?_⟩
    refine ⟨_, rfl, p, dx, fs, rfl, h0, a6 _ (by decide), _, rfl, ?_⟩
    refine ⟨p, fp, rs, x, k, rfl, hB, hv, ⟨_, rfl, ?_⟩⟩
    cases e : numV rs.length x with
    | true => exact iteF (q1 e)
    | false => exact iteT ⟨_, rfl, raise_e hT (Same.refl _) rfl (by decide) fun H' dd fs s he hf => q0 e H' dd fs s he (hf 0 "number" x rfl rfl)⟩

abbrev sBen : Stmt := inClass (top 38) 5
abbrev nBen : List Str := ["self", "row", "numbers", "bare_text", "size", "depth", "length", "number"]
theorem scBen : FnScope nBen ["self", "row"] (defScope sBen) := ⟨rfl, rfl, rfl, by decide +kernel, rfl, by decide +kernel, by decide +kernel⟩

structure TxtM (mg : Str → Option Value) : Prop where
  sum : mg "sum" = none
  max : mg "max" = none
theorem ok_ent {C : Addr} (F : Fun K "_entered" "Book._entered" sBen f fd) (T : TxtV mg) (M : TxtM mg) (TB : TxtBk K C) (AO : Cg P w K mg base 2 "arguments_of" (spArgs K)) (RT : Cg P w K mg base 2 "_row_text" (spRowText K)) : FnG P w K mg base CX0 3 f fd ["self", "row"] (spEnt P w K C) := by
  refine FunG.ok F scBen (fun vs H Q E h => ?_) (fun cdv B out s H vs Q E hr hG h => ?_)
  · obtain ⟨p, a, fp, rs, k, rfl, _⟩ := h
    rfl
  · obtain ⟨p, a, fp, rs, k, rfl, hB, hA, hok, hlt, q⟩ := h
    obtain ⟨dx, l1, d, l2, l3, l4, as, fs, rfl, nd, h0, a1, a2, a3, a4, a5, a6, b1, b2, h1, h2, h3, h4, h5, b3, b4, b5⟩ := hB.ex
    refine ⟨_, (pss_cons (ps_if (pt_cmpR (op_rin (hu65 hr)) (pv 1) (pe_fld (pv 0) rfl) rfl) (pss_one (ps_ret (pe_rget (hu65 hr) (pe_fld (pv 0) rfl) (pv 1) (fun _ _ => rfl)))) pss_nil)
      (pss_cons (ps_set (i := 2) scBen.nd rfl (.inl rfl) (pe_g AO hr hG (by decide) (by rfl) (pa_cons (pv 1) pa_nil)))
      (pss_cons (ps_set (i := 3) scBen.nd rfl (.inl rfl) (pe_g RT hr hG (by decide) (by rfl) (pa_cons (pv 1) (pa_cons (pe_op op_rep (pe_lst (pa_cons pe_str pa_nil)) (pe_callB call_len (by rfl) T.len PySem.boot_len (pa_cons (pv 2) pa_nil))) pa_nil))))
      (pss_cons (ps_set (i := 4) scBen.nd rfl (.inl rfl) (pe_op op_addL pe_int (pe_callB (cr_sum rfl) (by rfl) M.sum (by decide +kernel) (pa_cons (pe_lc (own := [("number", 7)]) (g := gName 7) (tt := tYes) rfl scBen.nd (pi_seq (pv 2)) (blkOk_by (N := nBen) (sc := defScope sBen) (by decide +kernel)) (fun _ _ _ _ _ => pg_name (i := 7) scBen.nd rfl (Or.inl rfl)) (fun _ _ _ _ _ => pts_nil) (fun _ _ _ _ _ => (pe_ix (ix_listK (K := K) rfl) (pe_fldK (K := K) rfl (pv 0) rfl) (pv 7) fun _ _ => rfl))) pa_nil))))
      (pss_cons (ps_set (i := 5) scBen.nd rfl (.inl rfl) (pe_op op_addL pe_int (pe_callBK (cr_maxDef rfl hr.units) (by rfl) M.max (by decide +kernel) (pa_cons (pe_lc (own := [("number", 7)]) (g := gName 7) (tt := tYes) rfl scBen.nd (pi_seq (pv 2)) (blkOk_by (N := nBen) (sc := defScope sBen) (by decide +kernel)) (fun _ _ _ _ _ => pg_name (i := 7) scBen.nd rfl (Or.inl rfl)) (fun _ _ _ _ _ => pts_nil) (fun _ _ _ _ _ => (pe_ix (ix_listK (K := K) rfl) (pe_fldK (K := K) rfl (pv 0) rfl) (pv 7) fun _ _ => rfl))) pa_nil) (pk_cons pe_int pk_nil))))
      (pss_cons (ps_set (i := 6) scBen.nd rfl (.inl rfl) (pe_op op_addL (pe_callB call_len (by rfl) T.len PySem.boot_len (pa_cons (pv 3) pa_nil)) (pe_callB (cr_sum rfl) (by rfl) M.sum (by decide +kernel) (pa_cons (pe_lc (own := [("number", 7)]) (g := gName 7) (tt := tYes) rfl scBen.nd (pi_seq (pv 2)) (blkOk_by (N := nBen) (sc := defScope sBen) (by decide +kernel)) (fun _ _ _ _ _ => pg_name (i := 7) scBen.nd rfl (Or.inl rfl)) (fun _ _ _ _ _ => pts_nil) (fun _ _ _ _ _ => (pe_ix (ix_listK (K := K) rfl) (pe_fldK (K := K) rfl (pv 0) rfl) (pv 7) fun _ _ => rfl))) pa_nil))))
      (pss_cons (ps_rputK (P := P) (w := w) (K := K) rfl rfl rfl (hu65 hr) (pe_fld (pv 0) rfl) (pv 1) (pe_callB call_len (by rfl) T.len PySem.boot_len (pa_cons (pe_fld (pv 0) rfl) pa_nil)) rfl)
      (pss_cons (ps_expr (pe_bm PySem.F.plainAttrs_list PySem.F.slot_list_append PySem.F.type_list_append mt_append (pe_fld (pv 0) rfl) (pa_cons (pv 1) pa_nil)))
      (pss_cons (ps_expr (pe_bm PySem.F.plainAttrs_list PySem.F.slot_list_append PySem.F.type_list_append mt_append (pe_fld (pv 0) rfl) (pa_cons (pv 4) pa_nil)))
      (pss_cons (ps_expr (pe_bm PySem.F.plainAttrs_list PySem.F.slot_list_append PySem.F.type_list_append mt_append (pe_fld (pv 0) rfl) (pa_cons (pv 5) pa_nil)))
      (pss_cons (ps_expr (pe_bm PySem.F.plainAttrs_list PySem.F.slot_list_append PySem.F.type_list_append mt_append (pe_fld (pv 0) rfl) (pa_cons (pv 6) pa_nil)))
      (pss_one (ps_ret (pe_rget (hu65 hr) (pe_fld (pv 0) rfl) (pv 1) (fun _ _ => rfl))))))))))))))), ?_⟩
    have hin : RowsIn K H (entR 0 rs as) := rowsIn_of b1 b2
    refine ⟨_, rfl, _, rfl, p, C, dx, fs, _, rfl, h0, TB.cl, TB.no _ (by simp), a2, _, k, a, d, ⟨rfl, rfl, h2, hin, hA⟩, _, rfl, ?_⟩
    cases hk : hasR rs k with
    | true =>
      obtain ⟨e1, e2, e3⟩ := posR_old hk
      have hf := findR_some 0 rs as k (posR rs k) b1.symm e2 e3
      rw [Nat.zero_add] at hf
      rw [hf]
      refine iteT ⟨_, rfl, p, C, dx, fs, _, rfl, h0, TB.cl, TB.no _ (by simp), a2, _, rfl, _, k, a, d, _, ⟨rfl, rfl, h2, hin, hA⟩, hf, ?_⟩
      refine q H (fun _ _ _ e => e) ?_
      rw [e1]
      exact hB
    | false =>
      obtain ⟨e1, e2⟩ := posR_new hk
      have hn := findR_none 0 rs as k (hasR_not hk)
      rw [hn]
      refine iteF ?_
      have hlen : (argsK k).length ≤ 3 := by
        obtain ⟨_, hk2⟩ := hok
        obtain ⟨x, y⟩ := k
        cases y with
        | inl n => show 0 ≤ 3; omega
        | inr ns => exact hk2.1
      have hrng : ∀ i ∈ argsK k, 0 ≤ i ∧ i < (rs.length : Int) := by
        obtain ⟨_, hk2⟩ := hok
        obtain ⟨x, y⟩ := k
        cases y with
        | inl n => exact fun i hi => absurd hi List.not_mem_nil
        | inr ns => exact hk2.2
      have hturn : ∀ n, k.2 = .inl n → n.natAbs.log2 < 1000 := fun n e => by
        obtain ⟨_, hk2⟩ := hok
        rw [e] at hk2
        exact hk2.2
      have hnm := (name_ok hok.1).2
      have e8 := PySem.sizeLine_eq
      refine ⟨_, rfl, args_row (E := E0) hA fun b H1 s1 hb1 => ?_⟩
      dsimp only [gName]
      refine ⟨_, rfl, (by show 1 ≤ sizeLine; decide), fun l hl => ?_⟩
      have s2 := Same.put (o := .lst [V.str ("" : Str)]) hl
      have hb2 := upT s2 hb1
      have hl2 : upd H1 l (.lst [V.str ("" : Str)]) l = some (.lst [V.str ("" : Str)]) := upd_same
      generalize upd H1 l (.lst [V.str ("" : Str)]) = H2 at s2 hb2 hl2 ⊢
      refine ⟨_, rfl, _, _, rfl, .inr ⟨_, hb2, rfl⟩, l, _, _, rfl, rfl, hl2, by omega, by rw [List.length_map]; omega, by rw [List.length_map, Int.toNat_natCast]; show 1 * _ ≤ _; omega, fun l' hl' => ?_⟩
      rw [List.length_map, Int.toNat_natCast, rep_flat]
      have s3 := Same.put (o := .lst ((List.replicate (argsK k).length ("" : Str)).map V.str)) hl'
      have hl3 : upd H2 l' (.lst ((List.replicate (argsK k).length ("" : Str)).map V.str)) l' = some (.lst ((List.replicate (argsK k).length ("" : Str)).map V.str)) := upd_same
      generalize upd H2 l' (.lst ((List.replicate (argsK k).length ("" : Str)).map V.str)) = H3 at s3 hl3 ⊢
      have s13 := Same.tr s1 (Same.tr s2 s3)
      refine ⟨a, l', k, _, rfl, hA.mono fun _ _ => upT s13, SqL.of hl3, hnm, hturn, by rw [List.length_replicate]; omega, fun t ht => by rw [List.eq_of_mem_replicate ht]; show 0 ≤ 400; omega, fun H4 s4 => ?_⟩
      have hb4 := upT (Same.tr s2 (Same.tr s3 s4)) hb1
      have s14 := Same.tr s13 s4
      dsimp only [gName]
      refine ⟨_, rfl, b, rfl, seq_it (.inr hb4) fun J wk => fun D hD => ?_⟩
      refine lc_it wk (fun j G => Same H4 G ∧ G D = some (.lst ((((argsK k).take j).map (atL (szs rs))).map V.int))) ⟨Same.put hD, upd_same⟩ (fun _ _ _ h => h.1) ?_ ?_
      · rintro j x G G' hj ⟨sm, hGD⟩ ⟨rfl, hx⟩
        have hj' : j < (argsK k).length := by simpa using hj
        have hx' : (argsK k)[j]? = some ((argsK k)[j]) := List.getElem?_eq_getElem hj'
        rw [List.getElem?_map, hx'] at hx
        cases hx
        obtain ⟨i0, i1⟩ := hrng _ (List.getElem_mem hj')
        have sg := Same.tr s14 sm
        refine ⟨rfl, _, rfl, p, C, dx, fs, _, rfl, sg _ _ h0, TB.cl, TB.no _ (by simp), a3, _, rfl, l2, _, _, .int (atL (szs rs) ((argsK k)[j])), rfl, rfl, SqL.of (sg _ _ h3), atI_at (szs_len rs) i0 i1, ⟨_, hGD, ?_, fun b o e => ?_, ?_⟩⟩
        · rw [List.length_map, List.length_map, List.length_take]
          omega
        · rw [upd_ne (ne_of_none e hD)]
          exact sm b o e
        · rw [upd_same, List.take_add_one, hx', List.map_append, List.map_append]
          rfl
      rintro G1 ⟨sm1, hGD⟩
      rw [List.length_map, List.take_length] at hGD
      have s21 := Same.tr s14 sm1
      have hb21 := upT sm1 hb4
      refine ⟨D, _, rfl, SqL.of hGD, _, _, rfl, rfl, fun z1 hz1 => ?_⟩
      dsimp only [gName]
      refine ⟨_, rfl, b, rfl, seq_it (.inr hb21) fun J wk => fun D hD => ?_⟩
      refine lc_it wk (fun j G => Same G1 G ∧ G D = some (.lst ((((argsK k).take j).map (atL (dps rs))).map V.int))) ⟨Same.put hD, upd_same⟩ (fun _ _ _ h => h.1) ?_ ?_
      · rintro j x G G' hj ⟨sm, hGD⟩ ⟨rfl, hx⟩
        have hj' : j < (argsK k).length := by simpa using hj
        have hx' : (argsK k)[j]? = some ((argsK k)[j]) := List.getElem?_eq_getElem hj'
        rw [List.getElem?_map, hx'] at hx
        cases hx
        obtain ⟨i0, i1⟩ := hrng _ (List.getElem_mem hj')
        have sg := Same.tr s21 sm
        refine ⟨rfl, _, rfl, p, C, dx, fs, _, rfl, sg _ _ h0, TB.cl, TB.no _ (by simp), a4, _, rfl, l3, _, _, .int (atL (dps rs) ((argsK k)[j])), rfl, rfl, SqL.of (sg _ _ h4), atI_at (dps_len rs) i0 i1, ⟨_, hGD, ?_, fun b o e => ?_, ?_⟩⟩
        · rw [List.length_map, List.length_map, List.length_take]
          omega
        · rw [upd_ne (ne_of_none e hD)]
          exact sm b o e
        · rw [upd_same, List.take_add_one, hx', List.map_append, List.map_append]
          rfl
      rintro G2 ⟨sm2, hGD⟩
      rw [List.length_map, List.take_length] at hGD
      have s22 := Same.tr s21 sm2
      have hb22 := upT sm2 hb21
      refine ⟨D, _, 0, rfl, rfl, SqL.of hGD, fun m hm => ⟨_, _, rfl, rfl, fun z2 hz2 => ?_⟩⟩
      dsimp only [gName]
      have htl := textK_le (k := k) (ts := List.replicate (argsK k).length ("" : Str)) hnm hturn (by rw [List.length_replicate]; exact hlen) fun t ht => by rw [List.eq_of_mem_replicate ht]; show 0 ≤ 400; omega
      refine ⟨_, rfl, _, _, rfl, ⟨by omega, rfl⟩, _, rfl, b, rfl, seq_it (.inr hb22) fun J wk => fun D hD => ?_⟩
      refine lc_it wk (fun j G => Same G2 G ∧ G D = some (.lst ((((argsK k).take j).map (atL (lns rs))).map V.int))) ⟨Same.put hD, upd_same⟩ (fun _ _ _ h => h.1) ?_ ?_
      · rintro j x G G' hj ⟨sm, hGD⟩ ⟨rfl, hx⟩
        have hj' : j < (argsK k).length := by simpa using hj
        have hx' : (argsK k)[j]? = some ((argsK k)[j]) := List.getElem?_eq_getElem hj'
        rw [List.getElem?_map, hx'] at hx
        cases hx
        obtain ⟨i0, i1⟩ := hrng _ (List.getElem_mem hj')
        have sg := Same.tr s22 sm
        refine ⟨rfl, _, rfl, p, C, dx, fs, _, rfl, sg _ _ h0, TB.cl, TB.no _ (by simp), a5, _, rfl, l4, _, _, .int (atL (lns rs) ((argsK k)[j])), rfl, rfl, SqL.of (sg _ _ h5), atI_at (lns_len rs) i0 i1, ⟨_, hGD, ?_, fun b o e => ?_, ?_⟩⟩
        · rw [List.length_map, List.length_map, List.length_take]
          omega
        · rw [upd_ne (ne_of_none e hD)]
          exact sm b o e
        · rw [upd_same, List.take_add_one, hx', List.map_append, List.map_append]
          rfl
      rintro G3 ⟨sm3, hGD⟩
      rw [List.length_map, List.take_length] at hGD
      have s23 := Same.tr s22 sm3
      have hb23 := upT sm3 hb22
      refine ⟨D, _, rfl, SqL.of hGD, _, _, rfl, rfl, fun z3 hz3 => ?_⟩
      dsimp only [gName]
      have g0 := s23 _ _ h0
      have t0_l1 := s23 _ _ h1
      have t0_d := s23 _ _ h2
      have t0_l2 := s23 _ _ h3
      have t0_l3 := s23 _ _ h4
      have t0_l4 := s23 _ _ h5
      have gA := hA.mono fun _ _ => upT s23
      have gin : RowsIn K G3 (entR 0 rs as) := rowsIn_of b1 fun i k a e1 e2 => (b2 i k a e1 e2).mono fun _ _ => upT s23
      have hpo := hB.off
      have f0 : Frame [l1, d, l2, l3, l4] H G3 := Frame.of s23
      refine ⟨_, rfl, p, C, dx, fs, _, rfl, g0, TB.cl, TB.no _ (by simp), a1, _, _, rfl, .inl ⟨_, SqL.of t0_l1, rfl⟩, ?_⟩
      refine ⟨_, rfl, p, C, dx, fs, _, rfl, g0, TB.cl, TB.no _ (by simp), a2, _, rfl, _, k, a, d, ⟨rfl, rfl, t0_d, gin, gA⟩, hn, by rw [entR_len 0 rs as b1.symm]; omega, ?_⟩
      have ee := entR_snoc 0 rs as k a b1.symm
      rw [Nat.zero_add] at ee
      rw [List.length_map, b1, ← ee]
      have q1 : Frame [l1, d, l2, l3, l4] G3 (upd G3 d (dRow P w d (entR 0 (rs ++ [k]) (as ++ [a])))) := Frame.put (by simp)
      have t1_d : upd G3 d (dRow P w d (entR 0 (rs ++ [k]) (as ++ [a]))) d = some (dRow P w d (entR 0 (rs ++ [k]) (as ++ [a]))) := upd_same
      have t1_l1 := (show upd G3 d (dRow P w d (entR 0 (rs ++ [k]) (as ++ [a]))) l1 = G3 l1 from upd_ne (nd_ne nd 0 1 rfl rfl (by decide))).trans t0_l1
      have t1_l2 := (show upd G3 d (dRow P w d (entR 0 (rs ++ [k]) (as ++ [a]))) l2 = G3 l2 from upd_ne (nd_ne nd 2 1 rfl rfl (by decide))).trans t0_l2
      have t1_l3 := (show upd G3 d (dRow P w d (entR 0 (rs ++ [k]) (as ++ [a]))) l3 = G3 l3 from upd_ne (nd_ne nd 3 1 rfl rfl (by decide))).trans t0_l3
      have t1_l4 := (show upd G3 d (dRow P w d (entR 0 (rs ++ [k]) (as ++ [a]))) l4 = G3 l4 from upd_ne (nd_ne nd 4 1 rfl rfl (by decide))).trans t0_l4
      generalize upd G3 d (dRow P w d (entR 0 (rs ++ [k]) (as ++ [a]))) = F1 at q1 t1_l1 t1_d t1_l2 t1_l3 t1_l4 ⊢
      have f1 := f0.tr q1
      have p1 := f1 _ _ hpo h0
      refine ⟨_, rfl, p, C, dx, fs, _, rfl, p1, TB.cl, TB.no _ (by simp), a1, .inl ⟨rfl, _, SqL.of t1_l1⟩, _, rfl, l1, _, _, rfl, rfl, t1_l1, ?_, ?_⟩
      · rw [List.length_map]
        omega
      rw [show as.map V.ref ++ [V.ref a] = (as ++ [a]).map V.ref from by rw [List.map_append]; rfl]
      have q2 : Frame [l1, d, l2, l3, l4] F1 (upd F1 l1 (HO.lst ((as ++ [a]).map V.ref))) := Frame.put (by simp)
      have t2_l1 : upd F1 l1 (HO.lst ((as ++ [a]).map V.ref)) l1 = some (HO.lst ((as ++ [a]).map V.ref)) := upd_same
      have t2_d := (show upd F1 l1 (HO.lst ((as ++ [a]).map V.ref)) d = F1 d from upd_ne (nd_ne nd 1 0 rfl rfl (by decide))).trans t1_d
      have t2_l2 := (show upd F1 l1 (HO.lst ((as ++ [a]).map V.ref)) l2 = F1 l2 from upd_ne (nd_ne nd 2 0 rfl rfl (by decide))).trans t1_l2
      have t2_l3 := (show upd F1 l1 (HO.lst ((as ++ [a]).map V.ref)) l3 = F1 l3 from upd_ne (nd_ne nd 3 0 rfl rfl (by decide))).trans t1_l3
      have t2_l4 := (show upd F1 l1 (HO.lst ((as ++ [a]).map V.ref)) l4 = F1 l4 from upd_ne (nd_ne nd 4 0 rfl rfl (by decide))).trans t1_l4
      generalize upd F1 l1 (HO.lst ((as ++ [a]).map V.ref)) = F2 at q2 t2_l1 t2_d t2_l2 t2_l3 t2_l4 ⊢
      have f2 := f1.tr q2
      have p2 := f2 _ _ hpo h0
      refine ⟨_, rfl, p, C, dx, fs, _, rfl, p2, TB.cl, TB.no _ (by simp), a3, .inl ⟨rfl, _, SqL.of t2_l2⟩, _, rfl, l2, _, _, rfl, rfl, t2_l2, ?_, ?_⟩
      · rw [List.length_map, szs_len]
        omega
      rw [show (szs rs).map V.int ++ [V.int z1] = (szs (rs ++ [k])).map V.int from by rw [szs_snoc, List.map_append, hz1]; rfl]
      have q3 : Frame [l1, d, l2, l3, l4] F2 (upd F2 l2 (HO.lst ((szs (rs ++ [k])).map V.int))) := Frame.put (by simp)
      have t3_l2 : upd F2 l2 (HO.lst ((szs (rs ++ [k])).map V.int)) l2 = some (HO.lst ((szs (rs ++ [k])).map V.int)) := upd_same
      have t3_l1 := (show upd F2 l2 (HO.lst ((szs (rs ++ [k])).map V.int)) l1 = F2 l1 from upd_ne (nd_ne nd 0 2 rfl rfl (by decide))).trans t2_l1
      have t3_d := (show upd F2 l2 (HO.lst ((szs (rs ++ [k])).map V.int)) d = F2 d from upd_ne (nd_ne nd 1 2 rfl rfl (by decide))).trans t2_d
      have t3_l3 := (show upd F2 l2 (HO.lst ((szs (rs ++ [k])).map V.int)) l3 = F2 l3 from upd_ne (nd_ne nd 3 2 rfl rfl (by decide))).trans t2_l3
      have t3_l4 := (show upd F2 l2 (HO.lst ((szs (rs ++ [k])).map V.int)) l4 = F2 l4 from upd_ne (nd_ne nd 4 2 rfl rfl (by decide))).trans t2_l4
      generalize upd F2 l2 (HO.lst ((szs (rs ++ [k])).map V.int)) = F3 at q3 t3_l1 t3_d t3_l2 t3_l3 t3_l4 ⊢
      have f3 := f2.tr q3
      have p3 := f3 _ _ hpo h0
      refine ⟨_, rfl, p, C, dx, fs, _, rfl, p3, TB.cl, TB.no _ (by simp), a4, .inl ⟨rfl, _, SqL.of t3_l3⟩, _, rfl, l3, _, _, rfl, rfl, t3_l3, ?_, ?_⟩
      · rw [List.length_map, dps_len]
        omega
      rw [show (dps rs).map V.int ++ [V.int z2] = (dps (rs ++ [k])).map V.int from by rw [dps_snoc, List.map_append, hz2, max_is hm (fun n hn => by obtain ⟨i, _, rfl⟩ := List.mem_map.mp hn; exact atL_pos (dps_pos rs) i)]; rfl]
      have q4 : Frame [l1, d, l2, l3, l4] F3 (upd F3 l3 (HO.lst ((dps (rs ++ [k])).map V.int))) := Frame.put (by simp)
      have t4_l3 : upd F3 l3 (HO.lst ((dps (rs ++ [k])).map V.int)) l3 = some (HO.lst ((dps (rs ++ [k])).map V.int)) := upd_same
      have t4_l1 := (show upd F3 l3 (HO.lst ((dps (rs ++ [k])).map V.int)) l1 = F3 l1 from upd_ne (nd_ne nd 0 3 rfl rfl (by decide))).trans t3_l1
      have t4_d := (show upd F3 l3 (HO.lst ((dps (rs ++ [k])).map V.int)) d = F3 d from upd_ne (nd_ne nd 1 3 rfl rfl (by decide))).trans t3_d
      have t4_l2 := (show upd F3 l3 (HO.lst ((dps (rs ++ [k])).map V.int)) l2 = F3 l2 from upd_ne (nd_ne nd 2 3 rfl rfl (by decide))).trans t3_l2
      have t4_l4 := (show upd F3 l3 (HO.lst ((dps (rs ++ [k])).map V.int)) l4 = F3 l4 from upd_ne (nd_ne nd 4 3 rfl rfl (by decide))).trans t3_l4
      generalize upd F3 l3 (HO.lst ((dps (rs ++ [k])).map V.int)) = F4 at q4 t4_l1 t4_d t4_l2 t4_l3 t4_l4 ⊢
      have f4 := f3.tr q4
      have p4 := f4 _ _ hpo h0
      refine ⟨_, rfl, p, C, dx, fs, _, rfl, p4, TB.cl, TB.no _ (by simp), a5, .inl ⟨rfl, _, SqL.of t4_l4⟩, _, rfl, l4, _, _, rfl, rfl, t4_l4, ?_, ?_⟩
      · rw [List.length_map, lns_len]
        omega
      rw [show (lns rs).map V.int ++ [V.int z3] = (lns (rs ++ [k])).map V.int from by rw [lns_snoc, List.map_append, hz3]; rfl]
      have q5 : Frame [l1, d, l2, l3, l4] F4 (upd F4 l4 (HO.lst ((lns (rs ++ [k])).map V.int))) := Frame.put (by simp)
      have t5_l4 : upd F4 l4 (HO.lst ((lns (rs ++ [k])).map V.int)) l4 = some (HO.lst ((lns (rs ++ [k])).map V.int)) := upd_same
      have t5_l1 := (show upd F4 l4 (HO.lst ((lns (rs ++ [k])).map V.int)) l1 = F4 l1 from upd_ne (nd_ne nd 0 4 rfl rfl (by decide))).trans t4_l1
      have t5_d := (show upd F4 l4 (HO.lst ((lns (rs ++ [k])).map V.int)) d = F4 d from upd_ne (nd_ne nd 1 4 rfl rfl (by decide))).trans t4_d
      have t5_l2 := (show upd F4 l4 (HO.lst ((lns (rs ++ [k])).map V.int)) l2 = F4 l2 from upd_ne (nd_ne nd 2 4 rfl rfl (by decide))).trans t4_l2
      have t5_l3 := (show upd F4 l4 (HO.lst ((lns (rs ++ [k])).map V.int)) l3 = F4 l3 from upd_ne (nd_ne nd 3 4 rfl rfl (by decide))).trans t4_l3
      generalize upd F4 l4 (HO.lst ((lns (rs ++ [k])).map V.int)) = F5 at q5 t5_l1 t5_d t5_l2 t5_l3 t5_l4 ⊢
      have f5 := f4.tr q5
      have p5 := f5 _ _ hpo h0
      have rows5 : ∀ (i : Nat) (k' : RowK) (a' : Addr), (rs ++ [k])[i]? = some k' → (as ++ [a])[i]? = some a' → RowAt K F5 k' a' := fun i k' a' e1 e2 => by
        rcases Nat.lt_or_ge i rs.length with hi | hi
        · rw [List.getElem?_append_left hi] at e1
          rw [List.getElem?_append_left (by omega)] at e2
          exact (b2 i k' a' e1 e2).mono fun _ _ => SqT.fr f5 hB.notTup
        · rw [List.getElem?_append_right hi] at e1
          rw [List.getElem?_append_right (by omega), b1] at e2
          have h0' : i - rs.length = 0 := by
            rcases Nat.eq_zero_or_pos (i - rs.length) with z | z
            · exact z
            · rw [List.getElem?_eq_none (by rw [List.length_singleton]; omega)] at e1
              cases e1
          rw [h0'] at e1 e2
          cases e1
          cases e2
          exact hA.mono fun _ _ => SqT.fr f5 hB.notTup
      have in5 : RowsIn K F5 (entR 0 (rs ++ [k]) (as ++ [a])) := rowsIn_of (by simp [b1]) rows5
      have hf5 := findR_some 0 (rs ++ [k]) (as ++ [a]) k rs.length (by simp [b1]) (by simp) fun m hm z => by
        rw [List.getElem?_append_left hm] at z
        exact hasR_not hk (List.mem_of_getElem? z)
      rw [Nat.zero_add] at hf5
      refine ⟨_, rfl, p, C, dx, fs, _, rfl, p5, TB.cl, TB.no _ (by simp), a2, _, rfl, _, k, a, d, _, ⟨rfl, rfl, t5_d, in5, SqT_row hA f5 hB.notTup⟩, hf5, ?_⟩
      rw [e2, e1] at q
      refine q F5 f5 ⟨⟨dx, l1, d, l2, l3, l4, as ++ [a], fs, rfl, nd, p5, a1, a2, a3, a4, a5, a6, by simp [b1], rows5, t5_l1, t5_d, t5_l2, t5_l3, t5_l4, ?_, okRows_snoc b4 hok, by rw [List.length_append, List.length_singleton]; omega⟩⟩
      rw [List.nodup_append]
      exact ⟨b3, by simp, fun x hx y hy z => by rw [List.mem_singleton.mp hy] at z; exact hasR_not hk (z ▸ hx)⟩

abbrev sBco : Stmt := inClass (top 38) 6
abbrev nBco : List Str := ["self", "symbol"]
theorem scBco : FnScope nBco ["self", "symbol"] (defScope sBco) := ⟨rfl, rfl, rfl, by decide +kernel, rfl, by decide +kernel, by decide +kernel⟩

theorem ok_const {C CN : Addr} (F : Fun K "constant" "Book.constant" sBco f fd) (N : Cg P w K mg base 1 "is_name" (spName K)) (CE : Ct P w K mg base 3 C "_entered" [] (spEnt P w K C)) (XN : Cx1 P w K mg base "InvalidName" CN 1 [] (spI CN ["value"]) (fun vs _ => vs)) : FnG P w K mg base (L2.CX P w) 4 f fd ["self", "symbol"] (spConst P w K C CN) := by
  have hTN : ExK K CN := let ⟨_, _, _, _, h, _⟩ := XN.ex; h
  refine FunG.okX F scBco (fun vs H Q E h => ?_) (fun cdv B out s H vs Q E hr hG h => ?_)
  · obtain ⟨p, fp, rs, x, k, rfl, _⟩ := h
    rfl
  · obtain ⟨p, fp, rs, x, k, rfl, hB, hlt, hv, q0, q1⟩ := h
    refine ⟨_, (pss_cons (ps_if (pt_not (pt_val (pe_g N hr hG (by decide) (by rfl) (pa_cons (pv 1) pa_nil)))) (pss_one (ps_raise rfl (takes_of rfl rfl rfl rfl) (pmk_x rfl (pe_mke (ns := ["value"]) XN (hr.mono (by decide)) (by rfl) (pa_cons (pv 1) pa_nil))))) pss_nil)
      (pss_one (ps_ret (pe_ct (pv 0) CE hr hG (by decide) (pa_cons (pe_tup (pa_cons (pv 1) (pa_cons (pe_tup pa_nil) pa_nil))) pa_nil))))), ?_⟩
    refine ⟨_, rfl, ?_⟩
    dsimp only [tNil]
    refine name_to hv fun H1 s1 => ?_
    refine ⟨_, rfl, ?_⟩
    cases hn : nameV x with
    | false => exact iteT ⟨_, rfl, raise_e hTN s1 rfl (by decide) fun H' dd fs s he hf => q0 hn H' dd fs (Same.tr s1 s) he (hf 0 "value" x rfl rfl)⟩
    | true =>
      cases x with
      | str z =>
        have hz : nameB (TL.tl z) = true := hn
        have q := q1 z rfl hz
        refine iteF ?_
        obtain ⟨dx, fs, h0, a6⟩ := (hB.up s1).there
        refine ⟨_, rfl, p, dx, fs, rfl, h0, a6 _ (by decide), _, rfl, (by show 0 ≤ sizeLine; decide), fun t ht => ⟨(by show 2 ≤ sizeLine; decide), fun t2 ht2 => ?_⟩⟩
        have s2 := Same.put (o := .tup []) ht
        have s3 := Same.put (o := .tup [V.str z, V.ref t]) ht2
        have s := Same.tr s1 (Same.tr s2 s3)
        refine ⟨p, t2, fp, rs, (z, .inr []), rfl, hB.up s, ⟨(name_ok hz).1, .inr ⟨[], t, rfl, SqT.of upd_same, upT s3 (SqT.of upd_same)⟩⟩, ⟨hz, by show 0 ≤ 3; omega, fun i hi => absurd hi List.not_mem_nil⟩, hlt, fun H' f b => ?_⟩
        exact q H' ((Frame.of s).tr f) b
      | _ => cases hn

end
end T56
set_option Elab.async false
set_option linter.all false
set_option maxRecDepth 100000
set_option maxHeartbeats 4000000
namespace T56
open PySem PySem.Spec PyProof.Rows L2 Tp
section
variable {P : Program} {w : World} {K : PySem.W.Frag} {mg : Str → Option Value} {base : Heap} {f : Addr} {fd : FuncData}

abbrev sBsa : Stmt := inClass (top 38) 8
abbrev nBsa : List Str := ["self", "name", "turn"]
theorem scBsa : FnScope nBsa ["self", "name", "turn"] (defScope sBsa) := ⟨rfl, rfl, rfl, by decide +kernel, rfl, by decide +kernel, by decide +kernel⟩

theorem ok_sample {C CN CT : Addr} (F : Fun K "sample" "Book.sample" sBsa f fd) (N : Cg P w K mg base 1 "is_name" (spName K)) (U : Cg P w K mg base 2 "_is_turn" (spTurn K)) (CE : Ct P w K mg base 3 C "_entered" [] (spEnt P w K C)) (XN : Cx1 P w K mg base "InvalidName" CN 1 [] (spI CN ["value"]) (fun vs _ => vs)) (XT : Cx1 P w K mg base "InvalidTurn" CT 1 [] (spI CT ["value"]) (fun vs _ => vs)) : FnG P w K mg base (L2.CX P w) 4 f fd ["self", "name", "turn"] (spSample P w K C CN CT) := by
  have hTN : ExK K CN := let ⟨_, _, _, _, h, _⟩ := XN.ex; h
  have hTT : ExK K CT := let ⟨_, _, _, _, h, _⟩ := XT.ex; h
  refine FunG.okX F scBsa (fun vs H Q E h => ?_) (fun cdv B out s H vs Q E hr hG h => ?_)
  · obtain ⟨p, fp, rs, x, y, k, ky, rfl, _⟩ := h
    rfl
  · obtain ⟨p, fp, rs, x, y, k, ky, rfl, hB, hlt, hv, hy, q0, q1⟩ := h
    refine ⟨_, (pss_cons (ps_if (pt_not (pt_val (pe_g N hr hG (by decide) (by rfl) (pa_cons (pv 1) pa_nil)))) (pss_one (ps_raise rfl (takes_of rfl rfl rfl rfl) (pmk_x rfl (pe_mke (ns := ["value"]) XN (hr.mono (by decide)) (by rfl) (pa_cons (pv 1) pa_nil))))) pss_nil)
      (pss_cons (ps_if (pt_not (pt_val (pe_g U hr hG (by decide) (by rfl) (pa_cons (pv 2) pa_nil)))) (pss_one (ps_raise rfl (takes_of rfl rfl rfl rfl) (pmk_x rfl (pe_mke (ns := ["value"]) XT (hr.mono (by decide)) (by rfl) (pa_cons (pv 2) pa_nil))))) pss_nil)
      (pss_one (ps_ret (pe_ct (pv 0) CE hr hG (by decide) (pa_cons (pe_tup (pa_cons (pv 1) (pa_cons (pv 2) pa_nil))) pa_nil)))))), ?_⟩
    refine ⟨_, rfl, ?_⟩
    dsimp only [tNil]
    refine name_to hv fun H1 s1 => ?_
    refine ⟨_, rfl, ?_⟩
    cases hn : nameV x with
    | false => exact iteT ⟨_, rfl, raise_e hTN s1 rfl (by decide) fun H' dd fs s he hf => q0 hn H' dd fs (Same.tr s1 s) he (hf 0 "value" x rfl rfl)⟩
    | true =>
      cases x with
      | str z =>
        have hz : nameB (TL.tl z) = true := hn
        obtain ⟨r0, r1⟩ := q1 z rfl hz
        refine iteF ?_
        by_cases hg : ∃ i, y = .int i ∧ 0 ≤ i
        · obtain ⟨i, rfl, hi⟩ := hg
          obtain ⟨hi2, q⟩ := r1 i rfl hi
          refine ⟨_, rfl, .int i, ky, rfl, hy.mono s1, fun hk => absurd hy.int_k hk, fun j e => ⟨_, rfl, ?_⟩⟩
          cases e
          rw [decide_eq_true hi]
          refine iteF ?_
          obtain ⟨dx, fs, h0, a6⟩ := (hB.up s1).there
          refine ⟨_, rfl, p, dx, fs, rfl, h0, a6 _ (by decide), _, rfl, _, rfl, (by show 2 ≤ sizeLine; decide), fun t2 ht2 => ?_⟩
          have s := Same.tr s1 (Same.put (o := .tup [V.str z, V.int i]) ht2)
          refine ⟨p, t2, fp, rs, (z, .inl i), rfl, hB.up s, ⟨(name_ok hz).1, .inl ⟨i, rfl, SqT.of upd_same⟩⟩, ⟨hz, hi, hi2⟩, hlt, fun H' f b => ?_⟩
          exact q H' ((Frame.of s).tr f) b
        · have r0' := r0 fun i e hi => hg ⟨i, e, hi⟩
          refine ⟨_, rfl, y, ky, rfl, hy.mono s1, fun hk => ⟨_, rfl, ?_⟩, fun i e => ⟨_, rfl, ?_⟩⟩
          · exact iteT ⟨_, rfl, raise_e hTT s1 rfl (by decide) fun H' dd fs s he hf => r0' H' dd fs (Same.tr s1 s) he (hf 0 "value" y rfl rfl)⟩
          · rw [decide_eq_false fun hi => hg ⟨i, e, hi⟩]
            exact iteT ⟨_, rfl, raise_e hTT s1 rfl (by decide) fun H' dd fs s he hf => r0' H' dd fs (Same.tr s1 s) he (hf 0 "value" y rfl rfl)⟩
      | _ => cases hn

abbrev sBap : Stmt := inClass (top 38) 7
abbrev nBap : List Str := ["self", "symbol", "numbers", "item"]
theorem scBap : FnScope nBap ["self", "symbol", "numbers"] (defScope sBap) := ⟨rfl, rfl, rfl, by decide +kernel, rfl, by decide +kernel, by decide +kernel⟩

theorem ok_apply {C CN CP CU : Addr} (F : Fun K "apply" "Book.apply" sBap f fd) (T : TxtV mg) (N : Cg P w K mg base 1 "is_name" (spName K)) (L : Cg P w K mg base 1 "is_list" (spList K)) (CE : Ct P w K mg base 3 C "_entered" [] (spEnt P w K C)) (CR : Ctr P w K mg base 4 C "_require" [] (spReq P w K C CU)) (XN : Cx1 P w K mg base "InvalidName" CN 1 [] (spI CN ["value"]) (fun vs _ => vs)) (XP : Cx1 P w K mg base "InvalidPart" CP 1 [] (spI CP ["value"]) (fun vs _ => vs)) : FnG P w K mg base (L2.CX P w) 5 f fd ["self", "symbol", "numbers"] (spApply P w K C CN CP CU) := by
  have hTN : ExK K CN := let ⟨_, _, _, _, h, _⟩ := XN.ex; h
  have hTP : ExK K CP := let ⟨_, _, _, _, h, _⟩ := XP.ex; h
  refine FunG.okX F scBap (fun vs H Q E h => ?_) (fun cdv B out s H vs Q E hr hG h => ?_)
  · obtain ⟨p, fp, rs, x, y, k, ky, rfl, _⟩ := h
    rfl
  · obtain ⟨p, fp, rs, x, y, k, ky, rfl, hB, hlt, hv, hy, q0, q1⟩ := h
    refine ⟨_, (pss_cons (ps_if (pt_not (pt_val (pe_g N hr hG (by decide) (by rfl) (pa_cons (pv 1) pa_nil)))) (pss_one (ps_raise rfl (takes_of rfl rfl rfl rfl) (pmk_x rfl (pe_mke (ns := ["value"]) XN (hr.mono (by decide)) (by rfl) (pa_cons (pv 1) pa_nil))))) pss_nil)
      (pss_cons (ps_if (PW.pt (pw_or (pt_not (pt_val (pe_g L hr hG (by decide) (by rfl) (pa_cons (pv 2) pa_nil)))) (pw_or1 (pt_not (pt_chain op_le op_le pe_int (pe_callB call_len (by rfl) T.len PySem.boot_len (pa_cons (pv 2) pa_nil)) (gl_c (by rfl) T.most)))))) (pss_one (ps_raise rfl (takes_of rfl rfl rfl rfl) (pmk_x rfl (pe_mke (ns := ["value"]) XP (hr.mono (by decide)) (by rfl) (pa_cons (pv 2) pa_nil))))) pss_nil)
      (pss_cons (ps_for (passes_of rfl) rfl (pi_seq (pv 2)) (pg_name (i := 3) scBap.nd rfl (Or.inl rfl)) (pss_one (ps_expr (pe_ctr (pv 0) CR hr hG (by decide) (takes_of rfl rfl rfl rfl) (pa_cons (pv 3) pa_nil)))))
      (pss_one (ps_ret (pe_ct (pv 0) CE hr hG (by decide) (pa_cons (pe_tup (pa_cons (pv 1) (pa_cons (pe_callTy call_tuple_of (by rfl) T.tuple (by decide +kernel) (pa_cons (pv 2) pa_nil)) pa_nil))) pa_nil))))))), ?_⟩
    refine ⟨_, rfl, ?_⟩
    dsimp only [tNil]
    refine name_to hv fun H1 s1 => ?_
    refine ⟨_, rfl, ?_⟩
    cases hn : nameV x with
    | false => exact iteT ⟨_, rfl, raise_e hTN s1 rfl (by decide) fun H' dd fs s he hf => q0 hn H' dd fs (Same.tr s1 s) he (hf 0 "value" x rfl rfl)⟩
    | true =>
      cases x with
      | str z =>
        have hz : nameB (TL.tl z) = true := hn
        obtain ⟨r0, r1⟩ := q1 z rfl hz
        refine iteF ?_
        refine ⟨_, rfl, y, ky, rfl, hy.mono s1, fun H2 s2 => ⟨_, rfl, ?_⟩⟩
        have s12 := Same.tr s1 s2
        cases hk : (ky == "list" || ky == "tuple") with
        | false => exact iteT (iteT ⟨_, rfl, raise_e hTP s12 rfl (by decide) fun H' dd fs s he hf => r0 hk H' dd fs (Same.tr s12 s) he (hf 0 "value" y rfl rfl)⟩)
        | true =>
          obtain ⟨b, ys, rfl, hA, r2, r3⟩ := r1 hk
          have hA2 := hA.up s12
          refine iteF ?_
          refine ⟨_, rfl, _, _, rfl, lenA hA2, _, _, rfl, rfl, _, rfl, ?_⟩
          by_cases h1 : 1 ≤ ys.length
          · rw [decide_eq_true (show (1 : Int) ≤ ((ys.length : Nat) : Int) by omega)]
            refine iteT ⟨_, _, rfl, rfl, _, rfl, ?_⟩
            by_cases h3 : ys.length ≤ 3
            · rw [decide_eq_true (show ((ys.length : Nat) : Int) ≤ (3 : Int) by omega)]
              obtain ⟨r4, r5, r6⟩ := r3 ⟨h1, h3⟩
              refine iteF ?_
              refine ⟨_, rfl, b, rfl, seq_it hA2 fun J wk => ?_⟩
              refine for_it wk (fun i σ G => G = H2 ∧ (∀ (j : Nat) u, j < i → ys[j]? = some u → numV rs.length u = true) ∧ ∃ o, σ = [some (.ref p), some (.str z), some (.ref b), o]) ⟨rfl, (fun j u h => absurd h (Nat.not_lt_zero _)), none, rfl⟩ (fun _ _ _ _ h => by rw [h.1]; exact Same.refl _) ?_ ?_
              · rintro i v σ G G' hi ⟨rfl, hok, o, rfl⟩ ⟨rfl, hx⟩
                obtain ⟨kv, vk⟩ := r4 v (List.mem_of_getElem? hx)
                obtain ⟨dx, fs, h0, a6⟩ := (hB.up s12).there
                refine ⟨_, rfl, p, dx, fs, rfl, h0, a6 _ (by decide), _, rfl, ?_⟩
                refine ⟨p, fp, rs, v, kv, rfl, hB.up s12, vk.mono s12, fun e => ⟨rfl, fun j u hj hu => ?_, some v, rfl⟩, fun e => (r5 i v hx e hok).up s12⟩
                rcases Nat.lt_or_ge j i with h | h
                · exact hok j u h hu
                · have : j = i := by omega
                  subst this
                  rw [hx] at hu
                  cases hu
                  exact e
              · rintro σ G ⟨rfl, hok, o, rfl⟩
                obtain ⟨ns, rfl, hns⟩ := numV_ints (n := rs.length) fun u hu => by
                  obtain ⟨j, hj, e⟩ := List.getElem_of_mem hu
                  exact hok j u hj (by rw [List.getElem?_eq_getElem hj, e])
                have q := r6 ns rfl hns
                obtain ⟨dx, fs, h0, a6⟩ := (hB.up s12).there
                refine ⟨_, rfl, p, dx, fs, rfl, h0, a6 _ (by decide), _, rfl, _, rfl, ?_⟩
                have hl3 : ns.length ≤ 3 := by rw [List.length_map] at h3; exact h3
                rcases hA2 with hA2 | hA2
                · refine ⟨_, _, rfl, .inl ⟨hA2, fun l hl => ⟨(by show 2 ≤ sizeLine; decide), fun t2 ht2 => ?_⟩⟩⟩
                  have s2' := Same.put (o := .tup (ns.map V.int)) hl
                  have s3 := Same.put (o := .tup [V.str z, V.ref l]) ht2
                  have s := Same.tr s12 (Same.tr s2' s3)
                  refine ⟨p, t2, fp, rs, (z, .inr ns), rfl, hB.up s, ⟨(name_ok hz).1, .inr ⟨ns, l, rfl, SqT.of upd_same, upT s3 (SqT.of upd_same)⟩⟩, ⟨hz, hl3, hns⟩, hlt, fun H' f b => ?_⟩
                  exact q H' ((Frame.of s).tr f) b
                · refine ⟨_, _, rfl, .inr ⟨hA2, (by show 2 ≤ sizeLine; decide), fun t2 ht2 => ?_⟩⟩
                  have s3 := Same.put (o := .tup [V.str z, V.ref b]) ht2
                  have s := Same.tr s12 s3
                  refine ⟨p, t2, fp, rs, (z, .inr ns), rfl, hB.up s, ⟨(name_ok hz).1, .inr ⟨ns, b, rfl, SqT.of upd_same, upT s3 hA2⟩⟩, ⟨hz, hl3, hns⟩, hlt, fun H' f b => ?_⟩
                  exact q H' ((Frame.of s).tr f) b
            · rw [decide_eq_false (show ¬ ((ys.length : Nat) : Int) ≤ (3 : Int) by omega)]
              exact iteT ⟨_, rfl, raise_e hTP s12 rfl (by decide) fun H' dd fs s he hf => r2 (fun h => h3 h.2) H' dd fs (Same.tr s12 s) he (hf 0 "value" _ rfl rfl)⟩
          · rw [decide_eq_false (show ¬ (1 : Int) ≤ ((ys.length : Nat) : Int) by omega)]
            exact iteF ⟨_, rfl, iteT ⟨_, rfl, raise_e hTP s12 rfl (by decide) fun H' dd fs s he hf => r2 (fun h => h1 h.1) H' dd fs (Same.tr s12 s) he (hf 0 "value" _ rfl rfl)⟩⟩
      | _ => cases hn

end
end T56
set_option Elab.async false
set_option linter.all false
set_option maxRecDepth 100000
set_option maxHeartbeats 4000000
namespace T56
open PySem PySem.Spec PyProof.Rows L2 Tp
section
variable {P : Program} {w : World} {K : PySem.W.Frag} {mg : Str → Option Value} {base : Heap} {f : Addr} {fd : FuncData}

abbrev sBro : Stmt := inClass (top 38) 9
abbrev nBro : List Str := ["self"]
theorem scBro : FnScope nBro ["self"] (defScope sBro) := ⟨rfl, rfl, rfl, by decide +kernel, rfl, by decide +kernel, by decide +kernel⟩

theorem ok_rows {C : Addr} (F : Fun K "rows" "Book.rows" sBro f fd) (T : TxtV mg) (TB : TxtBk K C) : FnG P w K mg base CX0 1 f fd ["self"] (spRows P w K C) := by
  refine FunG.ok F scBro (fun vs H Q E h => ?_) (fun cdv B out s H vs Q E hr hG h => ?_)
  · obtain ⟨p, fp, rs, rfl, _⟩ := h
    rfl
  · obtain ⟨p, fp, rs, rfl, hB, q⟩ := h
    obtain ⟨dx, l1, d, l2, l3, l4, as, fs, rfl, nd, h0, a1, a2, a3, a4, a5, a6, b1, b2, h1, h2, h3, h4, h5, b3, b4, b5⟩ := hB.ex
    refine ⟨_, (pss_one (ps_ret (pe_callTy call_list_of (by rfl) T.list (by decide +kernel) (pa_cons (pe_fld (pv 0) rfl) pa_nil)))), ?_⟩
    exact ⟨_, rfl, p, C, dx, fs, _, rfl, h0, TB.cl, TB.no _ (by simp), a1, l1, _, rfl, .inl (SqL.of h1), fun l hl => q l _ as hl rfl b1 b2⟩

abbrev sBle : Stmt := inClass (top 38) 10
abbrev nBle : List Str := ["self"]
theorem scBle : FnScope nBle ["self"] (defScope sBle) := ⟨rfl, rfl, rfl, by decide +kernel, rfl, by decide +kernel, by decide +kernel⟩

theorem ok_len {C : Addr} (F : Fun K "__len__" "Book.__len__" sBle f fd) (T : TxtV mg) (TB : TxtBk K C) : FnG P w K mg base CX0 1 f fd ["self"] (spLen P w K C) := by
  refine FunG.ok F scBle (fun vs H Q E h => ?_) (fun cdv B out s H vs Q E hr hG h => ?_)
  · obtain ⟨p, fp, rs, rfl, _⟩ := h
    rfl
  · obtain ⟨p, fp, rs, rfl, hB, q⟩ := h
    obtain ⟨dx, l1, d, l2, l3, l4, as, fs, rfl, nd, h0, a1, a2, a3, a4, a5, a6, b1, b2, h1, h2, h3, h4, h5, b3, b4, b5⟩ := hB.ex
    refine ⟨_, (pss_one (ps_ret (pe_callB call_len (by rfl) T.len PySem.boot_len (pa_cons (pe_fld (pv 0) rfl) pa_nil)))), ?_⟩
    refine ⟨_, rfl, p, C, dx, fs, _, rfl, h0, TB.cl, TB.no _ (by simp), a1, _, _, rfl, .inl ⟨_, SqL.of h1, rfl⟩, ?_⟩
    rw [List.length_map, b1]
    exact q

abbrev sBgi : Stmt := inClass (top 38) 11
abbrev nBgi : List Str := ["self", "number"]
theorem scBgi : FnScope nBgi ["self", "number"] (defScope sBgi) := ⟨rfl, rfl, rfl, by decide +kernel, rfl, by decide +kernel, by decide +kernel⟩

theorem ok_item {C CU : Addr} (F : Fun K "__getitem__" "Book.__getitem__" sBgi f fd) (TB : TxtBk K C) (CR : Ctr P w K mg base 4 C "_require" [] (spReq P w K C CU)) : FnG P w K mg base (L2.CX P w) 5 f fd ["self", "number"] (spItem P w K C CU) := by
  refine FunG.okX F scBgi (fun vs H Q E h => ?_) (fun cdv B out s H vs Q E hr hG h => ?_)
  · obtain ⟨p, fp, rs, x, k, rfl, _⟩ := h
    rfl
  · obtain ⟨p, fp, rs, x, k, rfl, hB, hv, q0, q1⟩ := h
    have hB0 := hB
    obtain ⟨dx, l1, d, l2, l3, l4, as, fs, rfl, nd, h0, a1, a2, a3, a4, a5, a6, b1, b2, h1, h2, h3, h4, h5, b3, b4, b5⟩ := hB.ex
    refine ⟨_, (pss_cons (ps_expr (pe_ctr (pv 0) CR hr hG (by decide) (takes_of rfl rfl rfl rfl) (pa_cons (pv 1) pa_nil)))
      (pss_one (ps_ret (pe_ix ix_list (pe_fld (pv 0) rfl) (pv 1) fun _ _ => rfl)))), ?_⟩
    refine ⟨_, rfl, p, dx, fs, rfl, h0, a6 _ (by decide), _, rfl, ?_⟩
    refine ⟨p, _, rs, x, k, rfl, hB0, hv, fun e => ?_, fun e => q0 e⟩
    cases x with
    | int i =>
      obtain ⟨i0, i1⟩ := of_decide_eq_true e
      obtain ⟨n, rfl⟩ : ∃ n : Nat, i = (n : Int) := ⟨i.toNat, by omega⟩
      have hi : n < rs.length := by omega
      have hia : n < as.length := by omega
      refine ⟨_, rfl, p, C, dx, fs, _, rfl, h0, TB.cl, TB.no _ (by simp), a1, _, rfl, l1, _, (n : Int), .ref as[n], rfl, rfl, SqL.of h1, atI_nat (j := n) (by rw [List.getElem?_map, List.getElem?_eq_getElem hia]; rfl), ?_⟩
      exact q1 n rs[n] as[n] rfl (List.getElem?_eq_getElem hi) (b2 _ _ _ (List.getElem?_eq_getElem hi) (List.getElem?_eq_getElem hia))
    | _ => cases e

abbrev sBeq : Stmt := inClass (top 38) 14
abbrev nBeq : List Str := ["self", "other"]
theorem scBeq : FnScope nBeq ["self", "other"] (defScope sBeq) := ⟨rfl, rfl, rfl, by decide +kernel, rfl, by decide +kernel, by decide +kernel⟩

theorem ok_eq {C : Addr} (F : Fun K "__eq__" "Book.__eq__" sBeq f fd) (T : TxtV mg) (TB : TxtBk K C) (hmB : mg "Book" = some (.ref C)) : FnG P w K mg base CX0 1 f fd ["self", "other"] (spEqB P w K C) := by
  refine FunG.ok F scBeq (fun vs H Q E h => ?_) (fun cdv B out s H vs Q E hr hG h => ?_)
  · obtain ⟨p, fp, rs, y, rfl, _⟩ := h
    rfl
  · obtain ⟨p, fp, rs, y, rfl, hB, h⟩ := h
    refine ⟨_, (pss_one (ps_ret (pe_and (pe_callB call_isd (by rfl) T.isinstance (by decide +kernel) (pa_cons (pv 1) (pa_cons (gl_c (v := .ref C) (by rfl) ⟨_, hmB, rfl⟩) pa_nil))) (pe_one (pe_cmpR (op_eqD hr.units) (pe_fld (pv 0) rfl) (pe_fld (pv 1) rfl) (nomark _)))))), ?_⟩
    rcases h with ⟨qa, fq, qs, rfl, hC, hI, q⟩ | ⟨hI, q⟩
    · obtain ⟨dx, l1, d, l2, l3, l4, as, fs, rfl, nd, h0, a1, a2, a3, a4, a5, a6, b1, b2, h1, h2, h3, h4, h5, b3, b4, b5⟩ := hB.ex
      obtain ⟨dx', m1, d', m2, m3, m4, cs, gs, rfl, nd', g0, c1, c2, c3, c4, c5, c6, e1, e2, k1, k2, k3, k4, k5, e3, e4, e5⟩ := hC.ex
      refine ⟨_, rfl, _, _, _, _, rfl, .own _, hI, _, rfl, iteT ?_⟩
      refine ⟨_, rfl, p, C, dx, fs, _, rfl, h0, TB.cl, TB.no _ (by simp), a1, _, rfl, qa, C, dx', gs, _, rfl, g0, TB.cl, TB.no _ (by simp), c1, .list (rs.map rowD), .list (qs.map rowD), .lst (SqL.of h1) (rows_dp b1 b2), .lst (SqL.of k1) (rows_dp e1 e2), rows_shaped (okRows_str b4), rows_shaped (okRows_str e4), ?_⟩
      rw [PyData.eqv, rows_eqv]
      exact q
    · exact ⟨_, rfl, _, _, _, _, rfl, .own _, hI, _, rfl, iteF q⟩

end
end T56
set_option Elab.async false
set_option linter.all false
set_option maxRecDepth 100000
set_option maxHeartbeats 4000000
namespace T56
open PySem PySem.Spec PyProof.Rows L2 Tp
section
variable {P : Program} {w : World} {K : PySem.W.Frag} {mg : Str → Option Value} {base : Heap} {f : Addr} {fd : FuncData}

abbrev sBct : Stmt := inClass (top 38) 13
abbrev nBct : List Str := ["self", "value"]
theorem scBct : FnScope nBct ["self", "value"] (defScope sBct) := ⟨rfl, rfl, rfl, by decide +kernel, rfl, by decide +kernel, by decide +kernel⟩

theorem ok_cont {C : Addr} (F : Fun K "__contains__" "Book.__contains__" sBct f fd) (TB : TxtBk K C) (HF : Cg P w K mg base 3 "_has_row_form" (spForm K)) (N : Cg P w K mg base 1 "is_name" (spName K)) (AO : Cg P w K mg base 2 "arguments_of" (spArgs K)) (KR : Cg P w K mg base 2 "_kept_row" (spKept K)) (CA : Ct P w K mg base 4 C "_has_all" [] (spHasAll P w K C)) : FnG P w K mg base CX0 5 f fd ["self", "value"] (spCont P w K C) := by
  refine FunG.ok F scBct (fun vs H Q E h => ?_) (fun cdv B out s H vs Q E hr hG h => ?_)
  · obtain ⟨p, fp, rs, x, rfl, _⟩ := h
    rfl
  · obtain ⟨p, fp, rs, x, rfl, hB, h⟩ := h
    refine ⟨_, (pss_cons (ps_if (PW.pt (pw_or (pt_not (pt_val (pe_g HF hr hG (by decide) (by rfl) (pa_cons (pv 1) pa_nil)))) (pw_or (pt_not (pt_val (pe_g N hr hG (by decide) (by rfl) (pa_cons (pe_ix (ix_list.or ix_tup) (pv 1) pe_int fun _ _ => rfl) pa_nil)))) (pw_or1 (pt_not (pt_val (pe_ct (pv 0) CA hr hG (by decide) (pa_cons (pe_g AO hr hG (by decide) (by rfl) (pa_cons (pv 1) pa_nil)) pa_nil)))))))) (pss_one (ps_ret pe_bl)) pss_nil)
      (pss_one (ps_ret (pe_cmpR (op_rin (hu65 hr)) (pe_g KR hr hG (by decide) (by rfl) (pa_cons (pv 1) pa_nil)) (pe_fld (pv 0) rfl) rfl)))), ?_⟩
    refine ⟨_, rfl, ?_⟩
    dsimp only [tNil]
    rcases h with ⟨d, hd, hs, q⟩ | ⟨k, v, hk, q⟩
    · have no : memD rs d = false → ∀ H', Same H H' → Q (.bl false) H' := fun e H' s => by
        have q' := q H' s
        rwa [e] at q'
      refine ⟨x, rfl, .inl ⟨d, hd, hs, fun H1 s1 => ⟨_, rfl, ?_⟩⟩⟩
      cases hf : formB d with
      | false => exact iteT (iteT (no (by unfold memD keyD; rw [hf]; rfl) _ s1))
      | true =>
        obtain ⟨a, v0, v1, d0, d1, rfl, hA, h0, h1, e, hsec, sh0, sh1⟩ := form_of hd hs hf
        have ek := key_some (n := rs.length) hf e
        refine iteF ⟨_, rfl, ixA (hA.up s1) (atI_nat (j := 0) rfl) ?_⟩
        dsimp only [tNil]
        refine name_dd (h0.mono s1) sh0 fun H2 s2 => ⟨_, rfl, ?_⟩
        have s12 := Same.tr s1 s2
        cases hn : nameD d0 with
        | false => exact iteT (iteT (no (by unfold memD; rw [ek, hn]; rfl) _ s12))
        | true =>
          refine iteF ?_
          obtain ⟨dx, fs, g0, a6⟩ := (hB.up s12).there
          refine ⟨_, rfl, p, dx, fs, rfl, g0, a6 _ (by decide), _, rfl, ?_⟩
          dsimp only [tNil]
          refine args_dd (n := rs.length) (hA.up s12) (h1.mono s12) hsec sh1 fun b ys H3 s3 hb hl3 hvk hall => ?_
          have s13 := Same.tr s12 s3
          refine ⟨p, b, fp, rs, ys, rfl, hB.up s13, hb, by omega, hvk, fun H4 s4 => ⟨_, rfl, ?_⟩⟩
          have s14 := Same.tr s13 s4
          rw [hall]
          cases hal : allD rs.length d1 with
          | false => exact iteT (no (by unfold memD; rw [ek, hn, hal]; rfl) _ s14)
          | true =>
            obtain ⟨hp, _, _⟩ := pre_row (n := rs.length) (hA.up s14) (h0.mono s14) (h1.mono s14) hsec hn hal
            refine iteF ?_
            refine ⟨_, rfl, a, _, rfl, hp, fun a2 H5 s5 hr5 => ?_⟩
            have s15 := Same.tr s14 s5
            obtain ⟨dx, l1, dd, l2, l3, l4, as, fs, rfl, nd, g0, a1, a2', a3, a4, a5, a6, b1, b2, g1, g2, g3, g4, g5, b3, b4, b5⟩ := (hB.up s15).ex
            refine ⟨_, rfl, p, C, dx, fs, _, rfl, g0, TB.cl, TB.no _ (by simp), a2', _, _, a2, dd, ⟨rfl, rfl, g2, rowsIn_of b1 b2, hr5⟩, ?_⟩
            rw [find_has b1]
            have q' := q H5 s15
            unfold memD at q'
            rw [ek, hn, hal] at q'
            have q2 : Q (.bl (hasR rs (strD d0, keyT d1))) H5 := q'
            rw [← Bool.bne_false (hasR rs (strD d0, keyT d1))] at q2
            exact q2
    · exact ⟨x, rfl, .inr ⟨k, v, hk, fun H1 s1 => ⟨_, rfl, iteT (iteT (q _ s1))⟩⟩⟩

end
end T56
set_option Elab.async false
set_option linter.all false
set_option maxRecDepth 100000
set_option maxHeartbeats 4000000
namespace T56
open PySem PySem.Spec PyProof.Rows L2 Tp
section
variable {P : Program} {w : World} {K : PySem.W.Frag} {mg : Str → Option Value} {base : Heap} {f : Addr} {fd : FuncData}

abbrev sBtk : Stmt := inClass (top 38) 1
abbrev nBtk : List Str := ["self", "item"]
theorem scBtk : FnScope nBtk ["self", "item"] (defScope sBtk) := ⟨rfl, rfl, rfl, by decide +kernel, rfl, by decide +kernel, by decide +kernel⟩

theorem ok_btake {C CR CN : Addr} (F : Fun K "_take" "Book._take" sBtk f fd) (TB : TxtBk K C) (HF : Cg P w K mg base 3 "_has_row_form" (spForm K)) (N : Cg P w K mg base 1 "is_name" (spName K)) (AO : Cg P w K mg base 2 "arguments_of" (spArgs K)) (KR : Cg P w K mg base 2 "_kept_row" (spKept K)) (CA : Ct P w K mg base 4 C "_has_all" [] (spHasAll P w K C)) (CE : Ct P w K mg base 3 C "_entered" [] (spEnt P w K C)) (XR : Cx1 P w K mg base "InvalidRow" CR 1 [] (spI CR ["value"]) (fun vs _ => vs)) (XN : Cx1 P w K mg base "InvalidName" CN 1 [] (spI CN ["value"]) (fun vs _ => vs)) : FnG P w K mg base (L2.CX P w) 5 f fd ["self", "item"] (spTakeB P w K C CR CN) := by
  have hTR : ExK K CR := let ⟨_, _, _, _, h, _⟩ := XR.ex; h
  have hTN : ExK K CN := let ⟨_, _, _, _, h, _⟩ := XN.ex; h
  refine FunG.okX F scBtk (fun vs H Q E h => ?_) (fun cdv B out s H vs Q E hr hG h => ?_)
  · obtain ⟨p, fp, rs, x, d, rfl, _⟩ := h
    rfl
  · obtain ⟨p, fp, rs, x, d, rfl, hB, hlt, hd, hs, q0, q1, q2⟩ := h
    refine ⟨_, (pss_cons (ps_if (pt_not (pt_val (pe_g HF hr hG (by decide) (by rfl) (pa_cons (pv 1) pa_nil)))) (pss_one (ps_raise rfl (takes_of rfl rfl rfl rfl) (pmk_x rfl (pe_mke (ns := ["value"]) XR (hr.mono (by decide)) (by rfl) (pa_cons (pv 1) pa_nil))))) pss_nil)
      (pss_cons (ps_if (pt_not (pt_val (pe_g N hr hG (by decide) (by rfl) (pa_cons (pe_ix (ix_list.or ix_tup) (pv 1) pe_int fun _ _ => rfl) pa_nil)))) (pss_one (ps_raise rfl (takes_of rfl rfl rfl rfl) (pmk_x rfl (pe_mke (ns := ["value"]) XN (hr.mono (by decide)) (by rfl) (pa_cons (pe_ix (ix_list.or ix_tup) (pv 1) pe_int fun _ _ => rfl) pa_nil))))) pss_nil)
      (pss_cons (ps_if (PW.pt (pw_or (pt_not (pt_val (pe_ct (pv 0) CA hr hG (by decide) (pa_cons (pe_g AO hr hG (by decide) (by rfl) (pa_cons (pv 1) pa_nil)) pa_nil)))) (pw_or1 (pt_cmpR (op_rin (hu65 hr)) (pe_g KR hr hG (by decide) (by rfl) (pa_cons (pv 1) pa_nil)) (pe_fld (pv 0) rfl) rfl)))) (pss_one (ps_raise rfl (takes_of rfl rfl rfl rfl) (pmk_x rfl (pe_mke (ns := ["value"]) XR (hr.mono (by decide)) (by rfl) (pa_cons (pv 1) pa_nil))))) pss_nil)
      (pss_one (ps_expr (pe_ct (pv 0) CE hr hG (by decide) (pa_cons (pe_g KR hr hG (by decide) (by rfl) (pa_cons (pv 1) pa_nil)) pa_nil))))))), ?_⟩
    refine ⟨_, rfl, x, rfl, .inl ⟨d, hd, hs, fun H1 s1 => ⟨_, rfl, ?_⟩⟩⟩
    cases hf : formB d with
    | false => exact iteT ⟨_, rfl, raise_e hTR s1 rfl (by decide) fun H' dd fs s he hf' => q0 (take_no hf) H' dd fs (Same.tr s1 s) he (hf' 0 "value" x rfl rfl)⟩
    | true =>
      obtain ⟨a, v0, v1, d0, d1, rfl, hA, h0, h1, e, hsec, sh0, sh1⟩ := form_of hd hs hf
      have ek := take_form (rs := rs) hf e
      refine iteF ?_
      refine ⟨_, rfl, ixA (hA.up s1) (atI_nat (j := 0) rfl) ?_⟩
      dsimp only [tNil]
      refine name_dd (h0.mono s1) sh0 fun H2 s2 => ⟨_, rfl, ?_⟩
      have s12 := Same.tr s1 s2
      cases hn : nameD d0 with
      | false =>
        obtain ⟨a', w0, w1, ea, hA', r⟩ := q1 (by rw [ek, hn]; rfl)
        cases ea
        exact iteT ⟨_, rfl, ixA (hA'.up s12) (atI_nat (j := 0) rfl) (raise_e hTN s12 rfl (by decide) fun H' dd fs s he hf' => r H' dd fs (Same.tr s12 s) he (hf' 0 "value" w0 rfl rfl))⟩
      | true =>
        refine iteF ?_
        obtain ⟨dx, fs, g0, a6⟩ := (hB.up s12).there
        refine ⟨_, rfl, p, dx, fs, rfl, g0, a6 _ (by decide), _, rfl, ?_⟩
        dsimp only [tNil]
        refine args_dd (n := rs.length) (hA.up s12) (h1.mono s12) hsec sh1 fun b ys H3 s3 hb hl3 hvk hall => ?_
        have s13 := Same.tr s12 s3
        refine ⟨p, b, fp, rs, ys, rfl, hB.up s13, hb, by omega, hvk, fun H4 s4 => ⟨_, rfl, ?_⟩⟩
        have s14 := Same.tr s13 s4
        rw [hall]
        cases hal : allD rs.length d1 with
        | false => exact iteT (iteT ⟨_, rfl, raise_e hTR s14 rfl (by decide) fun H' dd fs s he hf' => q0 (by rw [ek, hn, hal]; rfl) H' dd fs (Same.tr s14 s) he (hf' 0 "value" _ rfl rfl)⟩)
        | true =>
          obtain ⟨hp, hz, hns⟩ := pre_row (n := rs.length) (hA.up s14) (h0.mono s14) (h1.mono s14) hsec hn hal
          refine iteF ?_
          refine ⟨_, rfl, a, _, rfl, hp, fun a2 H5 s5 hr5 => ?_⟩
          have s15 := Same.tr s14 s5
          obtain ⟨dx, l1, dd, l2, l3, l4, as, fs, efp, nd, g0, a1, a2', a3, a4, a5, a6, b1, b2, g1, g2, g3, g4, g5, b3, b4, b5⟩ := (hB.up s15).ex
          refine ⟨_, rfl, p, C, dx, fs, _, rfl, g0, TB.cl, TB.no _ (by simp), a2', _, _, a2, dd, ⟨rfl, rfl, g2, rowsIn_of b1 b2, hr5⟩, _, rfl, ?_⟩
          rw [find_has b1, Bool.bne_false]
          cases hk : hasR rs (strD d0, keyT d1) with
          | true => exact iteT ⟨_, rfl, raise_e hTR s15 rfl (by decide) fun H' dd fs s he hf' => q0 (by rw [ek, hn, hal, hk]; rfl) H' dd fs (Same.tr s15 s) he (hf' 0 "value" _ rfl rfl)⟩
          | false =>
            obtain ⟨ht, q⟩ := q2 (strD d0, keyT d1) (by rw [ek, hn, hal, hk]; rfl)
            refine iteF ?_
            refine ⟨_, rfl, p, dx, fs, rfl, g0, a6 _ (by decide), _, rfl, ?_⟩
            obtain ⟨hp5, _, _⟩ := pre_row (n := rs.length) (hA.up s15) (h0.mono s15) (h1.mono s15) hsec hn hal
            refine ⟨a, _, rfl, hp5, fun a3' H6 s6 hr6 => ?_⟩
            have s16 := Same.tr s15 s6
            obtain ⟨e1, e2⟩ := posR_new hk
            refine ⟨p, a3', fp, rs, _, rfl, hB.up s16, hr6, ⟨hz, ?_⟩, hlt, fun H' f b => ?_⟩
            · cases ey : keyT d1 with
              | inl n => 
                have := ht n ey
                exact ⟨sec_pos hsec ey, this⟩
              | inr ns => exact hns ns ey
            · rw [e1] at b
              exact q H' ((Frame.of s16).tr f) b

end
end T56
set_option Elab.async false
set_option linter.all false
set_option maxRecDepth 100000
set_option maxHeartbeats 4000000
namespace T56
open PySem PySem.Spec PyProof.Rows L2 Tp
section
variable {P : Program} {w : World} {K : PySem.W.Frag} {mg : Str → Option Value} {base : Heap} {f : Addr} {fd : FuncData}

abbrev sBni : Stmt := inClass (top 38) 0
abbrev nBni : List Str := ["self", "rows", "item"]
theorem scBni : FnScope nBni ["self", "rows"] (defScope sBni) := ⟨rfl, rfl, rfl, by decide +kernel, rfl, by decide +kernel, by decide +kernel⟩

theorem keep_none {p l : Addr} {H G : Hp} (k : Keep p H G) (e : G l = none) (hp : H p ≠ none → G p ≠ none) : H l = none := by
  cases h : H l with
  | none => rfl
  | some o =>
    by_cases z : l = p
    · subst z
      exact absurd e (hp (by rw [h]; exact fun z => by cases z))
    · rw [k l o z h] at e
      cases e
theorem same_none {l : Addr} {H G : Hp} (k : Same H G) (e : G l = none) : H l = none := by
  cases h : H l with
  | none => rfl
  | some o =>
    rw [k l o h] at e
    cases e
theorem ok_init {C CP CR CN : Addr} {dvs : List V} (F : FunD K "__init__" "Book.__init__" (defArgs sBni) (defBody sBni) (defScope sBni) dvs [] f fd) (TB : TxtBk K C) (L : Cg P w K mg base 1 "is_list" (spList K)) (CK : Ctr P w K mg base 5 C "_take" [] (spTakeB P w K C CR CN)) (XP : Cx1 P w K mg base "InvalidPart" CP 1 [] (spI CP ["value"]) (fun vs _ => vs)) : FnG P w K mg base (L2.CX P w) 6 f fd ["self", "rows"] (spInitB P w K C CP CR CN) := by
  have hTP : ExK K CP := let ⟨_, _, _, _, h, _⟩ := XP.ex; h
  refine FunDG.okX F scBni (fun vs H Q E h => ?_) (fun cdv B out s H vs Q E hr hG h => ?_)
  · obtain ⟨p, dx, x, rfl, _⟩ := h
    rfl
  · obtain ⟨p, dx, x, rfl, hp, h⟩ := h
    refine ⟨_, (pss_cons (ps_fld (pv 0) (pe_lst pa_nil) rfl)
      (pss_cons (ps_fld (pv 0) (pe_rnewK (P := P) (w := w) rfl rfl) rfl)
      (pss_cons (ps_fld (pv 0) (pe_lst pa_nil) rfl)
      (pss_cons (ps_fld (pv 0) (pe_lst pa_nil) rfl)
      (pss_cons (ps_fld (pv 0) (pe_lst pa_nil) rfl)
      (pss_cons (ps_if (pt_not (pt_val (pe_g L hr hG (by decide) (by rfl) (pa_cons (pv 1) pa_nil)))) (pss_one (ps_raise rfl (takes_of rfl rfl rfl rfl) (pmk_x rfl (pe_mke (ns := ["value"]) XP (hr.mono (by decide)) (by rfl) (pa_cons (pv 1) pa_nil))))) pss_nil)
      (pss_one (ps_for (passes_of rfl) rfl (pi_seq (pv 1)) (pg_name (i := 2) scBni.nd rfl (Or.inl rfl)) (pss_one (ps_expr (pe_ctr (pv 0) CK hr hG (by decide) (takes_of rfl rfl rfl rfl) (pa_cons (pv 2) pa_nil)))))))))))), ?_⟩
    have kp0 : Keep p H H := Keep.refl _ _
    obtain ⟨G0, hG0⟩ : ∃ G0, G0 = H := ⟨_, rfl⟩
    have hp0 : G0 p = some (.ins C dx []) := by rw [hG0]; exact hp
    have kp0 : Keep p H G0 := by rw [hG0]; exact Keep.refl _ _
    rw [← hG0]
    obtain ⟨f0, hf0⟩ : ∃ f0 : List (Str × V), f0 = [] := ⟨_, rfl⟩
    rw [← hf0] at hp0
    have z0 : f0.length ≤ 0 := by rw [hf0]; exact Nat.le_refl _
    refine ⟨(by show 0 ≤ sizeLine; decide), fun l1 e1 => ?_⟩
    have fr1 : H l1 = none := keep_none kp0 e1 (fun _ z => by rw [hp0] at z; cases z)
    have np1 : l1 ≠ p := ne_of_none' e1 hp0
    refine ⟨_, rfl, p, C, dx, _, rfl, (upd_ne np1.symm).trans hp0, TB.cl, TB.no _ (by simp), by omega, ?_⟩
    have z1 : (putF "_rows" (.ref l1) f0).length ≤ 1 := by have := L2.length_putF "_rows" (V.ref l1) f0; omega
    have kp1 : Keep p H (upd (upd G0 l1 (HO.lst [])) p (.ins C dx (putF "_rows" (.ref l1) f0))) := kp0.trans ((Keep.new e1).trans Keep.put)
    have hp1 : (upd (upd G0 l1 (HO.lst [])) p (.ins C dx (putF "_rows" (.ref l1) f0))) p = some (.ins C dx (putF "_rows" (.ref l1) f0)) := upd_same
    have t1_1 : (upd (upd G0 l1 (HO.lst [])) p (.ins C dx (putF "_rows" (.ref l1) f0))) l1 = some (HO.lst []) := (upd_ne np1).trans upd_same
    generalize hf1 : putF "_rows" (V.ref l1) f0 = f1 at z1 kp1 hp1 t1_1 ⊢
    generalize upd (upd G0 l1 (HO.lst [])) p (.ins C dx f1) = G1 at kp1 hp1 t1_1 ⊢
    have hf1 := hf1.symm
    refine fun d e2 => ?_
    have fr2 : H d = none := keep_none kp1 e2 (fun _ z => by rw [hp1] at z; cases z)
    have np2 : d ≠ p := ne_of_none' e2 hp1
    refine ⟨_, rfl, p, C, dx, _, rfl, (upd_ne np2.symm).trans hp1, TB.cl, TB.no _ (by simp), by omega, ?_⟩
    have z2 : (putF "_numbers" (.ref d) f1).length ≤ 2 := by have := L2.length_putF "_numbers" (V.ref d) f1; omega
    have kp2 : Keep p H (upd (upd G1 d (dRow P w d [])) p (.ins C dx (putF "_numbers" (.ref d) f1))) := kp1.trans ((Keep.new e2).trans Keep.put)
    have hp2 : (upd (upd G1 d (dRow P w d [])) p (.ins C dx (putF "_numbers" (.ref d) f1))) p = some (.ins C dx (putF "_numbers" (.ref d) f1)) := upd_same
    have t2_2 : (upd (upd G1 d (dRow P w d [])) p (.ins C dx (putF "_numbers" (.ref d) f1))) d = some (dRow P w d []) := (upd_ne np2).trans upd_same
    have t2_1 : (upd (upd G1 d (dRow P w d [])) p (.ins C dx (putF "_numbers" (.ref d) f1))) l1 = some (HO.lst []) := (upd_ne np1).trans ((upd_ne (ne_of_none t1_1 e2)).trans t1_1)
    have d1_2 : l1 ≠ d := ne_of_none t1_1 e2
    generalize hf2 : putF "_numbers" (V.ref d) f1 = f2 at z2 kp2 hp2 t2_1 t2_2 ⊢
    generalize upd (upd G1 d (dRow P w d [])) p (.ins C dx f2) = G2 at kp2 hp2 t2_1 t2_2 ⊢
    have hf2 := hf2.symm
    refine ⟨(by show 0 ≤ sizeLine; decide), fun l2 e3 => ?_⟩
    have fr3 : H l2 = none := keep_none kp2 e3 (fun _ z => by rw [hp2] at z; cases z)
    have np3 : l2 ≠ p := ne_of_none' e3 hp2
    refine ⟨_, rfl, p, C, dx, _, rfl, (upd_ne np3.symm).trans hp2, TB.cl, TB.no _ (by simp), by omega, ?_⟩
    have z3 : (putF "_sizes" (.ref l2) f2).length ≤ 3 := by have := L2.length_putF "_sizes" (V.ref l2) f2; omega
    have kp3 : Keep p H (upd (upd G2 l2 (HO.lst [])) p (.ins C dx (putF "_sizes" (.ref l2) f2))) := kp2.trans ((Keep.new e3).trans Keep.put)
    have hp3 : (upd (upd G2 l2 (HO.lst [])) p (.ins C dx (putF "_sizes" (.ref l2) f2))) p = some (.ins C dx (putF "_sizes" (.ref l2) f2)) := upd_same
    have t3_3 : (upd (upd G2 l2 (HO.lst [])) p (.ins C dx (putF "_sizes" (.ref l2) f2))) l2 = some (HO.lst []) := (upd_ne np3).trans upd_same
    have t3_1 : (upd (upd G2 l2 (HO.lst [])) p (.ins C dx (putF "_sizes" (.ref l2) f2))) l1 = some (HO.lst []) := (upd_ne np1).trans ((upd_ne (ne_of_none t2_1 e3)).trans t2_1)
    have d1_3 : l1 ≠ l2 := ne_of_none t2_1 e3
    have t3_2 : (upd (upd G2 l2 (HO.lst [])) p (.ins C dx (putF "_sizes" (.ref l2) f2))) d = some (dRow P w d []) := (upd_ne np2).trans ((upd_ne (ne_of_none t2_2 e3)).trans t2_2)
    have d2_3 : d ≠ l2 := ne_of_none t2_2 e3
    generalize hf3 : putF "_sizes" (V.ref l2) f2 = f3 at z3 kp3 hp3 t3_1 t3_2 t3_3 ⊢
    generalize upd (upd G2 l2 (HO.lst [])) p (.ins C dx f3) = G3 at kp3 hp3 t3_1 t3_2 t3_3 ⊢
    have hf3 := hf3.symm
    refine ⟨(by show 0 ≤ sizeLine; decide), fun l3 e4 => ?_⟩
    have fr4 : H l3 = none := keep_none kp3 e4 (fun _ z => by rw [hp3] at z; cases z)
    have np4 : l3 ≠ p := ne_of_none' e4 hp3
    refine ⟨_, rfl, p, C, dx, _, rfl, (upd_ne np4.symm).trans hp3, TB.cl, TB.no _ (by simp), by omega, ?_⟩
    have z4 : (putF "_depths" (.ref l3) f3).length ≤ 4 := by have := L2.length_putF "_depths" (V.ref l3) f3; omega
    have kp4 : Keep p H (upd (upd G3 l3 (HO.lst [])) p (.ins C dx (putF "_depths" (.ref l3) f3))) := kp3.trans ((Keep.new e4).trans Keep.put)
    have hp4 : (upd (upd G3 l3 (HO.lst [])) p (.ins C dx (putF "_depths" (.ref l3) f3))) p = some (.ins C dx (putF "_depths" (.ref l3) f3)) := upd_same
    have t4_4 : (upd (upd G3 l3 (HO.lst [])) p (.ins C dx (putF "_depths" (.ref l3) f3))) l3 = some (HO.lst []) := (upd_ne np4).trans upd_same
    have t4_1 : (upd (upd G3 l3 (HO.lst [])) p (.ins C dx (putF "_depths" (.ref l3) f3))) l1 = some (HO.lst []) := (upd_ne np1).trans ((upd_ne (ne_of_none t3_1 e4)).trans t3_1)
    have d1_4 : l1 ≠ l3 := ne_of_none t3_1 e4
    have t4_2 : (upd (upd G3 l3 (HO.lst [])) p (.ins C dx (putF "_depths" (.ref l3) f3))) d = some (dRow P w d []) := (upd_ne np2).trans ((upd_ne (ne_of_none t3_2 e4)).trans t3_2)
    have d2_4 : d ≠ l3 := ne_of_none t3_2 e4
    have t4_3 : (upd (upd G3 l3 (HO.lst [])) p (.ins C dx (putF "_depths" (.ref l3) f3))) l2 = some (HO.lst []) := (upd_ne np3).trans ((upd_ne (ne_of_none t3_3 e4)).trans t3_3)
    have d3_4 : l2 ≠ l3 := ne_of_none t3_3 e4
    generalize hf4 : putF "_depths" (V.ref l3) f3 = f4 at z4 kp4 hp4 t4_1 t4_2 t4_3 t4_4 ⊢
    generalize upd (upd G3 l3 (HO.lst [])) p (.ins C dx f4) = G4 at kp4 hp4 t4_1 t4_2 t4_3 t4_4 ⊢
    have hf4 := hf4.symm
    refine ⟨(by show 0 ≤ sizeLine; decide), fun l4 e5 => ?_⟩
    have fr5 : H l4 = none := keep_none kp4 e5 (fun _ z => by rw [hp4] at z; cases z)
    have np5 : l4 ≠ p := ne_of_none' e5 hp4
    refine ⟨_, rfl, p, C, dx, _, rfl, (upd_ne np5.symm).trans hp4, TB.cl, TB.no _ (by simp), by omega, ?_⟩
    have z5 : (putF "_lengths" (.ref l4) f4).length ≤ 5 := by have := L2.length_putF "_lengths" (V.ref l4) f4; omega
    have kp5 : Keep p H (upd (upd G4 l4 (HO.lst [])) p (.ins C dx (putF "_lengths" (.ref l4) f4))) := kp4.trans ((Keep.new e5).trans Keep.put)
    have hp5 : (upd (upd G4 l4 (HO.lst [])) p (.ins C dx (putF "_lengths" (.ref l4) f4))) p = some (.ins C dx (putF "_lengths" (.ref l4) f4)) := upd_same
    have t5_5 : (upd (upd G4 l4 (HO.lst [])) p (.ins C dx (putF "_lengths" (.ref l4) f4))) l4 = some (HO.lst []) := (upd_ne np5).trans upd_same
    have t5_1 : (upd (upd G4 l4 (HO.lst [])) p (.ins C dx (putF "_lengths" (.ref l4) f4))) l1 = some (HO.lst []) := (upd_ne np1).trans ((upd_ne (ne_of_none t4_1 e5)).trans t4_1)
    have d1_5 : l1 ≠ l4 := ne_of_none t4_1 e5
    have t5_2 : (upd (upd G4 l4 (HO.lst [])) p (.ins C dx (putF "_lengths" (.ref l4) f4))) d = some (dRow P w d []) := (upd_ne np2).trans ((upd_ne (ne_of_none t4_2 e5)).trans t4_2)
    have d2_5 : d ≠ l4 := ne_of_none t4_2 e5
    have t5_3 : (upd (upd G4 l4 (HO.lst [])) p (.ins C dx (putF "_lengths" (.ref l4) f4))) l2 = some (HO.lst []) := (upd_ne np3).trans ((upd_ne (ne_of_none t4_3 e5)).trans t4_3)
    have d3_5 : l2 ≠ l4 := ne_of_none t4_3 e5
    have t5_4 : (upd (upd G4 l4 (HO.lst [])) p (.ins C dx (putF "_lengths" (.ref l4) f4))) l3 = some (HO.lst []) := (upd_ne np4).trans ((upd_ne (ne_of_none t4_4 e5)).trans t4_4)
    have d4_5 : l3 ≠ l4 := ne_of_none t4_4 e5
    generalize hf5 : putF "_lengths" (V.ref l4) f4 = f5 at z5 kp5 hp5 t5_1 t5_2 t5_3 t5_4 t5_5 ⊢
    generalize upd (upd G4 l4 (HO.lst [])) p (.ins C dx f5) = G5 at kp5 hp5 t5_1 t5_2 t5_3 t5_4 t5_5 ⊢
    have hf5 := hf5.symm
    have B0 : BookAt P w K G5 C p [l1, d, l2, l3, l4] [] := by
      refine ⟨⟨dx, l1, d, l2, l3, l4, [], f5, rfl, ?_, hp5, ?_, ?_, ?_, ?_, ?_, ?_, rfl, (fun i k a e => by cases e), t5_1, t5_2, t5_3, t5_4, t5_5, List.nodup_nil, okRows_nil, by show 0 ≤ 5000; omega⟩⟩
      · simp [d1_2, d1_3, d1_4, d1_5, d2_3, d2_4, d2_5, d3_4, d3_5, d4_5]
      iterate 5 (· rw [hf5, hf4, hf3, hf2, hf1, hf0]; rfl)
      · intro m hm
        rw [hf5, hf4, hf3, hf2, hf1, hf0]
        have ne : ∀ n ∈ bkF, m ≠ n := fun n hn z => hm (by rw [z]; exact hn)
        rw [lookup_putF, if_neg (ne _ (by simp)), lookup_putF, if_neg (ne _ (by simp)), lookup_putF, if_neg (ne _ (by simp)), lookup_putF, if_neg (ne _ (by simp)), lookup_putF, if_neg (ne _ (by simp))]
        rfl
    have hfp : ∀ b ∈ [l1, d, l2, l3, l4], H b = none := by
      intro b hb
      simp only [List.mem_cons, List.not_mem_nil, or_false] at hb
      rcases hb with rfl | rfl | rfl | rfl | rfl <;> assumption
    generalize [l1, d, l2, l3, l4] = fp at B0 hfp
    have up5 : Same (rs p p H) G5 := Same.tr (rs_keep1 kp5) rs_same
    have grow : ∀ a, G5 a = none → G0 a = none := fun a ha => by
      rw [hG0]
      exact keep_none kp5 ha (fun _ z => by rw [hp5] at z; cases z)
    rcases h with ⟨k, v, hk, r⟩ | ⟨b, ys, ds, rfl, hA, hall, hsh, hl5, hturn, r0, r1, q⟩
    · refine ⟨_, rfl, x, k, rfl, v.mono up5, fun H6 s6 => ⟨_, rfl, ?_⟩⟩
      rw [hk]
      exact iteT ⟨_, rfl, raise_g hTP (fun a ha => grow a (same_none s6 ha)) rfl (by decide) fun H' dd fs s he hf' => r H' dd fs (kp5.trans (Keep.of (Same.tr s6 s))) he (hf' 0 "value" x rfl rfl)⟩
    · obtain ⟨kk, vk, hkk⟩ := vk_seqA (hA.up up5)
      refine ⟨_, rfl, _, kk, rfl, vk, fun H6 s6 => ⟨_, rfl, ?_⟩⟩
      rw [hkk]
      refine iteF ?_
      have kp6 := kp5.trans (Keep.of (p := p) s6)
      have hlen := hall.len
      have B6 := B0.up s6
      refine ⟨_, rfl, b, rfl, seq_itK hA (Same.tr up5 s6) fun J S wk hS => ?_⟩
      have upK : ∀ G, Keep p H G → Same (rs p p H) G := fun G k => Same.tr (rs_keep1 k) rs_same
      refine for_it wk (fun i σ G => (∃ qs, buildR [] (ds.take i) = .inr qs ∧ BookAt P w K G C p fp qs) ∧ Keep p H G ∧ ∃ o, σ = [some (.ref p), some (.ref b), o]) ⟨⟨[], rfl, B6⟩, kp6, none, rfl⟩ (fun i σ G _ h => hS G (upK G h.2.1)) ?_ ?_
      · rintro i y σ G G' hi ⟨⟨qs, hq, BG⟩, kG, o, rfl⟩ ⟨rfl, hy⟩
        obtain ⟨dn, hdn, hyd⟩ := hall.get hy
        obtain ⟨w1, w2, w3⟩ := build_at hq hdn
        obtain ⟨dx', fs, g0, a6⟩ := BG.there
        have hql := build_len _ _ _ hq
        have htl : (ds.take i).length ≤ i := by rw [List.length_take]; omega
        have h00 : ([] : List RowK).length = 0 := rfl
        refine ⟨_, rfl, p, dx', fs, rfl, g0, a6 _ (by decide), _, rfl, ?_⟩
        refine ⟨p, fp, qs, y, dn, rfl, BG, by omega, hyd.mono (upK _ kG), shortAll_get hsh hdn, fun e => ?_, fun e => ?_, fun k e => ⟨hturn (i + 1) _ (w3 k e) k (by simp), fun H' f B' => ?_⟩⟩
        · obtain ⟨y', hy', r⟩ := r0 i (w1 e)
          rw [hy] at hy'
          cases hy'
          exact fun H' dd fs s he hf => r H' dd fs (kG.trans (Keep.of s)) he hf
        · obtain ⟨a, v0, v1, hy', hA', r⟩ := r1 i (w2 e)
          rw [hy] at hy'
          cases hy'
          exact ⟨a, v0, v1, rfl, hA'.up (upK _ kG), fun H' dd fs s he hf => r H' dd fs (kG.trans (Keep.of s)) he hf⟩
        · exact ⟨⟨_, w3 k e, B'⟩, keep_fr kG f hfp, some y, rfl⟩
      · rintro σ G ⟨⟨qs, hq, BG⟩, kG, o, rfl⟩
        rw [hlen, List.take_length] at hq
        exact q qs hq G fp kG hfp BG

end
end T56
set_option Elab.async false
set_option linter.all false
set_option maxRecDepth 100000
set_option maxHeartbeats 4000000
namespace T56
open PySem PySem.Spec PyProof.Rows L2 Tp
section
variable {P : Program} {w : World} {K : PySem.W.Frag} {mg : Str → Option Value} {base : Heap} {f : Addr} {fd : FuncData}
theorem hu1 {k : Nat} {A : Around} (hr : Room k A) : A.units + 1 < cLine := by
  have := hr.un
  omega
/-- the parts of a term -/
inductive Reach (rs : List RowK) (i : Nat) : Nat → Prop
  | refl : Reach rs i i
  | step {j : Nat} {k : RowK} {m : Nat} (h : Reach rs i j) (hk : rs[j]? = some k) (hm : (m : Int) ∈ argsK k) : Reach rs i m
theorem SqT_ms {H : Hp} {S : Addr → Prop} {a : Addr} {xs : List V} (hS : ∀ b, S b → NotTup H b) (h : SqT K H a xs) : SqT K (ms S H) a xs := by
  rcases h with h | h
  · rcases h with h | h
    · exact .inl (.inl (ms_at (fun z => hS a z xs (.inl h)) h))
    · obtain ⟨o, h⟩ := h
      exact .inl (.inr ⟨o, ms_at (fun z => hS a z xs (.inr ⟨o, h⟩)) h⟩)
  · exact .inr h
theorem sub_leG {α : Type} : ∀ {ks rs : List α}, ks.Nodup → (∀ k ∈ ks, k ∈ rs) → ks.length ≤ rs.length
  | [], _, _, _ => Nat.zero_le _
  | k :: ks, rs, hn, h => by
    obtain ⟨a, b, e⟩ := List.append_of_mem (h k List.mem_cons_self)
    have hk := List.nodup_cons.mp hn
    have := sub_leG (rs := a ++ b) hk.2 fun j hj => by
      have hj2 := h j (List.mem_cons_of_mem _ hj)
      rw [e] at hj2
      rcases List.mem_append.mp hj2 with z | z
      · exact List.mem_append_left _ z
      · rcases List.mem_cons.mp z with z | z
        · exact absurd (z ▸ hj) hk.1
        · exact List.mem_append_right _ z
    rw [e, List.length_append, List.length_cons, List.length_cons]
    rw [List.length_append] at this
    omega
def kvT (keys : List Int) : List (Key × V) := keys.map fun j => (Sum.inl j, V.bl true)
theorem valT : ∀ (keys : List Int) (m : Int), valV (kvT keys) (Sum.inl m) = if m ∈ keys then some (V.bl true) else none
  | [], m => rfl
  | k :: keys, m => by
    have ih := valT keys m
    unfold valV kvT at ih ⊢
    rw [List.map_cons, List.find?_cons]
    by_cases e : k = m
    · subst e
      simp
    · have : (decide ((Sum.inl k : Key) = Sum.inl m)) = false := decide_eq_false fun h => e (Sum.inl.inj h)
      rw [this]
      rw [ih]
      by_cases h : m ∈ keys
      · rw [if_pos h, if_pos (List.mem_cons_of_mem _ h)]
      · rw [if_neg h, if_neg fun h2 => (List.mem_cons.mp h2).elim (fun z => e z.symm) h]
theorem putT {keys : List Int} {m : Int} (h : m ∉ keys) : putK (kvT keys) (Sum.inl m) (V.bl true) = kvT (keys ++ [m]) := by
  unfold putK
  rw [if_neg]
  · unfold kvT
    rw [List.map_append]
    rfl
  · intro e
    obtain ⟨q, hq, e⟩ := List.any_eq_true.mp e
    obtain ⟨j, hj, rfl⟩ := List.mem_map.mp hq
    have := Sum.inl.inj (of_decide_eq_true e)
    exact h (this ▸ hj)
/-- the marked numbers and those that wait -/
structure PSt (rs : List RowK) (i : Nat) (keys ws : List Int) : Prop where
  kn : keys.Nodup
  wn : ws.Nodup
  wk : ∀ j ∈ ws, j ∈ keys
  ik : (i : Int) ∈ keys
  re : ∀ j ∈ keys, ∃ n : Nat, j = n ∧ n < rs.length ∧ Reach rs i n
structure PIn (rs : List RowK) (i n0 : Nat) (k0 : RowK) (M0 j : Nat) (keys ws : List Int) : Prop where
  st : PSt rs i keys ws
  n0k : (n0 : Int) ∈ keys
  n0w : (n0 : Int) ∉ ws
  cl : ∀ (n : Nat) k, (n : Int) ∈ keys → (n : Int) ∉ ws → n ≠ n0 → rs[n]? = some k → ∀ m ∈ argsK k, m ∈ keys
  ar : ∀ t m, t < j → (argsK k0)[t]? = some m → m ∈ keys
  mu : 2 * (rs.length - keys.length) + ws.length ≤ M0
theorem PSt.len {rs : List RowK} {i : Nat} {keys ws : List Int} (h : PSt rs i keys ws) : keys.length ≤ rs.length := by
  have := sub_leG (rs := (List.range rs.length).map fun (n : Nat) => (n : Int)) h.kn fun j hj => by
    obtain ⟨n, e, hn, _⟩ := h.re j hj
    rw [e]
    exact List.mem_map.mpr ⟨n, List.mem_range.mpr hn, rfl⟩
  rw [List.length_map, List.length_range] at this
  exact this
theorem PSt.wlen {rs : List RowK} {i : Nat} {keys ws : List Int} (h : PSt rs i keys ws) : ws.length ≤ keys.length := sub_leG h.wn h.wk
theorem args_ok {rs : List RowK} (hR : OkRows rs) {n : Nat} {k : RowK} (hk : rs[n]? = some k) {m : Int} (hm : m ∈ argsK k) : ∃ t : Nat, m = t ∧ t < n := by
  have := (hR n k hk).2
  obtain ⟨z, r⟩ := k
  cases r with
  | inl t => exact absurd hm List.not_mem_nil
  | inr ns =>
    obtain ⟨h0, h1⟩ := this.2 m hm
    exact ⟨m.toNat, by omega, by omega⟩
theorem nodup_snoc {keys : List Int} {m : Int} (h : keys.Nodup) (hm : m ∉ keys) : (keys ++ [m]).Nodup := by
  rw [List.nodup_append]
  refine ⟨h, List.nodup_cons.mpr ⟨List.not_mem_nil, List.nodup_nil⟩, fun a ha b hb e => ?_⟩
  rw [List.mem_singleton.mp hb] at e
  exact hm (e ▸ ha)
theorem PIn.add {rs : List RowK} (hR : OkRows rs) {i n0 : Nat} {k0 : RowK} {M0 j : Nat} {keys ws : List Int} (h : PIn rs i n0 k0 M0 j keys ws) (hk0 : rs[n0]? = some k0) {m : Int} (hm : (argsK k0)[j]? = some m) : (m ∈ keys → PIn rs i n0 k0 M0 (j + 1) keys ws) ∧ (m ∉ keys → PIn rs i n0 k0 M0 (j + 1) (keys ++ [m]) (ws ++ [m])) := by
  obtain ⟨n0', e0, hn0, hr0⟩ := h.st.re _ h.n0k
  have e0' : n0 = n0' := by omega
  subst e0'
  have arn : ∀ (ks : List Int), (∀ x ∈ keys, x ∈ ks) → m ∈ ks → ∀ t m', t < j + 1 → (argsK k0)[t]? = some m' → m' ∈ ks := fun ks hs hmk t m' ht hm' => by
    rcases Nat.lt_or_ge t j with z | z
    · exact hs _ (h.ar t m' z hm')
    · have e : t = j := by omega
      subst e
      rw [hm] at hm'
      cases hm'
      exact hmk
  refine ⟨fun hmk => ⟨h.st, h.n0k, h.n0w, h.cl, arn keys (fun _ z => z) hmk, h.mu⟩, fun hmk => ?_⟩
  obtain ⟨t, et, ht⟩ := args_ok hR hk0 (List.mem_of_getElem? hm)
  have hmw : m ∉ ws := fun z => hmk (h.st.wk m z)
  have hlen := PSt.len (rs := rs) (i := i) (keys := keys ++ [m]) (ws := ws ++ [m])
  have st' : PSt rs i (keys ++ [m]) (ws ++ [m]) := ⟨nodup_snoc h.st.kn hmk, nodup_snoc h.st.wn hmw, fun x hx => by
      rcases List.mem_append.mp hx with z | z
      · exact List.mem_append_left _ (h.st.wk x z)
      · exact List.mem_append_right _ z, List.mem_append_left _ h.st.ik, fun x hx => by
      rcases List.mem_append.mp hx with z | z
      · exact h.st.re x z
      · rw [List.mem_singleton.mp z]
        exact ⟨t, et, by omega, .step hr0 hk0 (et ▸ List.mem_of_getElem? hm)⟩⟩
  have hl2 := hlen st'
  rw [List.length_append, List.length_singleton] at hl2
  refine ⟨st', List.mem_append_left _ h.n0k, fun z => ?_, fun n k hn hnw hne hk x hx => ?_, arn _ (fun _ z => List.mem_append_left _ z) (List.mem_append_right _ List.mem_cons_self), ?_⟩
  · rcases List.mem_append.mp z with z | z
    · exact h.n0w z
    · exact hmk (List.mem_singleton.mp z ▸ h.n0k)
  · have hnm : (n : Int) ≠ m := fun z => hnw (List.mem_append_right _ (List.mem_singleton.mpr z))
    have hnk : (n : Int) ∈ keys := (List.mem_append.mp hn).elim id fun z => absurd (List.mem_singleton.mp z) hnm
    exact List.mem_append_left _ (h.cl n k hnk (fun z => hnw (List.mem_append_left _ z)) hne hk x hx)
  · have := h.mu
    rw [List.length_append, List.length_append, List.length_singleton]
    omega
def spParts (P : Program) (w : World) (K : PySem.W.Frag) (C CU : Addr) : Sp := fun vs H Q E => ∃ (p : Addr) (fp : List Addr) (rs : List RowK) (x : V) (k : String), vs = [.ref p, x] ∧ BookAt P w K H C p fp rs ∧ rs.length < 64 ∧ Vk K H x k ∧ (numV rs.length x = false → Rsd E H CU "number" x) ∧
  ∀ i : Nat, x = .int (i : Nat) → i < rs.length → ∀ (ys : List Int) (l : Addr) (H' : Hp), Same H H' → H' l = some (.lst (ys.map V.int)) → H l = none → ys.Pairwise (· < ·) → (∀ j : Int, j ∈ ys ↔ ∃ n : Nat, j = n ∧ Reach rs i n) → Q (.ref l) H'

abbrev sPa : Stmt := inClass (top 38) 16
abbrev nPa : List Str := ["self", "number", "found", "waiting", "row", "part"]
theorem scPa : FnScope nPa ["self", "number"] (defScope sPa) := ⟨rfl, rfl, rfl, by decide +kernel, rfl, by decide +kernel, by decide +kernel⟩

theorem ok_parts {C CU : Addr} (F : Fun K "parts" "Book.parts" sPa f fd) (T : TxtV mg) (MS : mg "sorted" = none) (TB : TxtBk K C) (AO : Cg P w K mg base 2 "arguments_of" (spArgs K)) (CR : Ctr P w K mg base 4 C "_require" [] (spReq P w K C CU)) : FnG P w K mg base (L2.CX P w) 5 f fd ["self", "number"] (spParts P w K C CU) := by
  refine FunG.okX F scPa (fun vs H Q E h => ?_) (fun cdv B out s H vs Q E hr hG h => ?_)
  · obtain ⟨p, fp, rs, x, k, rfl, _⟩ := h
    rfl
  · obtain ⟨p, fp, rs, x, k, rfl, hB, hlt, hv, q0, q1⟩ := h
    refine ⟨_, (pss_cons (ps_expr (pe_ctr (pv 0) CR hr hG (by decide) (takes_of rfl rfl rfl rfl) (pa_cons (pv 1) pa_nil)))
      (pss_cons (ps_set (i := 2) scPa.nd rfl (.inl rfl) (pe_disp (pps_cons (pv 1) pe_bl pps_nil) (by rfl) (by rfl) (fun z => by cases z) (by decide)))
      (pss_cons (ps_set (i := 3) scPa.nd rfl (.inl rfl) (pe_lst (pa_cons (pv 1) pa_nil)))
      (pss_cons (ps_while (passes_of rfl) (pt_truth (pv 3) (by intro _; rfl)) (pss_cons (ps_set (i := 4) scPa.nd rfl (.inl rfl) (pe_ix ix_list (pe_fld (pv 0) rfl) (pe_bm0 PySem.F.plainAttrs_list PySem.F.slot_list_pop PySem.F.type_list_pop mt_pop (pv 3)) fun _ _ => rfl))
        (pss_one (ps_for (passes_of rfl) rfl (pi_seq (pe_g AO hr hG (by decide) (by rfl) (pa_cons (pv 4) pa_nil))) (pg_name (i := 5) scPa.nd rfl (Or.inl rfl)) (pss_one (ps_if (pt_cmp (pc_dnotin (hu1 hr) (pv 5) (pv 2))) (pss_cons (ps_dput (hu1 hr) (pv 2) (pv 5) pe_bl rfl)
            (pss_one (ps_expr (pe_bm PySem.F.plainAttrs_list PySem.F.slot_list_append PySem.F.type_list_append mt_append (pv 3) (pa_cons (pv 5) pa_nil))))) pss_nil))))))
      (pss_one (ps_ret (pe_callB (call_sortedDI rfl) (by rfl) MS (by decide +kernel) (pa_cons (pv 2) pa_nil)))))))), ?_⟩
    obtain ⟨hR0⟩ : Nonempty (OkRows rs) := by
      obtain ⟨dx, l1, d, l2, l3, l4, as, fs, rfl, nd, h0, a1, a2, a3, a4, a5, a6, b1, b2, h1, h2, h3, h4, h5, b3, b4, b5⟩ := hB.ex
      exact ⟨b4⟩
    have hR : OkRows rs := hR0
    have hB0 := hB
    obtain ⟨dx, l1, d, l2, l3, l4, as, fs, rfl, nd, h0, a1, a2, a3, a4, a5, a6, b1, b2, h1, h2, h3, h4, h5, b3, b4, b5⟩ := hB.ex
    refine ⟨_, rfl, p, dx, fs, rfl, h0, a6 _ (by decide), _, rfl, ?_⟩
    refine ⟨p, _, rs, x, k, rfl, hB0, hv, fun e => ?_, fun e => q0 e⟩
    cases x with
    | int i =>
      obtain ⟨i0, i1⟩ := of_decide_eq_true e
      obtain ⟨n, rfl⟩ : ∃ n : Nat, i = (n : Int) := ⟨i.toNat, by omega⟩
      have hin : n < rs.length := by omega
      refine fun z hz => ⟨_, rfl, upd_same, [(Sum.inl (n : Int), V.bl true)], rfl, by simp, ?_⟩
      have s1 : Same H (upd (upd H z (.dK [])) z (.dK (mergeK [] [(Sum.inl (n : Int), V.bl true)]))) := fun b o e => (upd_ne (ne_of_none e hz)).trans ((upd_ne (ne_of_none e hz)).trans e)
      have t1 : (upd (upd H z (.dK [])) z (.dK (mergeK [] [(Sum.inl (n : Int), V.bl true)]))) z = some (.dK (kvT [(n : Int)])) := upd_same
      generalize upd (upd H z (.dK [])) z (.dK (mergeK [] [(Sum.inl (n : Int), V.bl true)])) = H1 at s1 t1 ⊢
      dsimp only [gName]
      refine ⟨_, rfl, (by show 1 ≤ sizeLine; decide), fun wl hwl => ?_⟩
      have s2 : Same H1 (upd H1 wl (.lst [V.int (n : Nat)])) := Same.put hwl
      have t2 : (upd H1 wl (.lst [V.int (n : Nat)])) wl = some (.lst ([(n : Int)].map V.int)) := upd_same
      generalize upd H1 wl (.lst [V.int (n : Nat)]) = H2 at s2 t2 ⊢
      dsimp only [gName]
      have hwH : H wl = none := by
        cases e : H wl with
        | none => rfl
        | some o => rw [s1 _ _ e] at hwl; cases hwl
      have nzw : z ≠ wl := ne_of_none t1 hwl
      have ntz : ∀ G, (∃ kvs, G z = some (.dK kvs)) → NotTup G z := fun G ⟨kvs, h⟩ ys r => by
        rcases r with r | ⟨o, r⟩
        · rw [h] at r; cases r
        · rw [h] at r; cases r
      refine ⟨fun m σ G => ∃ keys ws o4 o5, σ = [some (.ref p), some (.int (n : Nat)), some (.ref z), some (.ref wl), o4, o5] ∧ Same H G ∧ G z = some (.dK (kvT keys)) ∧ G wl = some (.lst (ws.map V.int)) ∧ PSt rs n keys ws ∧ (∀ (j : Nat) k, (j : Int) ∈ keys → (j : Int) ∉ ws → rs[j]? = some k → ∀ m ∈ argsK k, m ∈ keys) ∧ m = 2 * (rs.length - keys.length) + ws.length,
        ⟨_, [(n : Int)], [(n : Int)], _, _, rfl, Same.tr s1 s2, s2 _ _ t1, t2, ⟨List.nodup_cons.mpr ⟨List.not_mem_nil, List.nodup_nil⟩, List.nodup_cons.mpr ⟨List.not_mem_nil, List.nodup_nil⟩, fun j hj => hj, List.mem_cons_self, fun j hj => ⟨n, List.mem_singleton.mp hj, hin, .refl⟩⟩, fun j k hj hw => absurd hj hw, rfl⟩, ?_⟩
      rintro m σ G ⟨keys, ws, o4, o5, rfl, sG, gz, gw, st, cl, rfl⟩
      rcases List.eq_nil_or_concat ws with rfl | ⟨ws', y, rfl⟩
      · refine ⟨_, rfl, false, .inl ⟨_, SqL.of gw, rfl⟩, iteF ?_⟩
        have hkl := st.len
        refine ⟨_, rfl, z, kvT keys, keys, rfl, .inl gz, (by unfold kvT; rw [List.map_map]; rfl), by omega, fun ys l5 hp hs hl5 => ?_⟩
        have s5 := Same.put (o := .lst (ys.map V.int)) hl5
        refine q1 n rfl hin ys l5 _ (Same.tr sG s5) upd_same ?_ ?_ fun j => ?_
        · cases e : H l5 with
          | none => rfl
          | some o => rw [sG _ _ e] at hl5; cases hl5
        · have hyn : ys.Nodup := hp.nodup_iff.mpr st.kn
          refine (List.Pairwise.and hs hyn).imp fun h => ?_
          have := h.2
          have := h.1
          omega
        · rw [hp.mem_iff]
          refine ⟨fun h => ?_, fun ⟨t, e, h⟩ => ?_⟩
          · obtain ⟨t, e, _, hr⟩ := st.re j h
            exact ⟨t, e, hr⟩
          · subst e
            clear hs hp
            induction h with
            | refl => exact st.ik
            | @step j' k' m' h hk hm ih => exact cl j' k' (ih ⟨j', rfl, h⟩) List.not_mem_nil hk _ hm
      · rw [List.concat_eq_append] at gw st cl
        obtain ⟨Nx, hNx⟩ : ∃ Nx : L2.St → Hp → Prop, Nx = fun σ' G' => ∃ keys2 ws2 o4 o5, σ' = [some (V.ref p), some (V.int (n : Nat)), some (V.ref z), some (V.ref wl), o4, o5] ∧ Same H G' ∧ G' z = some (.dK (kvT keys2)) ∧ G' wl = some (.lst (ws2.map V.int)) ∧ PSt rs n keys2 ws2 ∧ (∀ (j : Nat) k, (j : Int) ∈ keys2 → (j : Int) ∉ ws2 → rs[j]? = some k → ∀ m ∈ argsK k, m ∈ keys2) ∧ 2 * (rs.length - keys2.length) + ws2.length ≤ 2 * (rs.length - keys.length) + ws'.length := ⟨_, rfl⟩
        refine ⟨_, rfl, true, .inl ⟨_, SqL.of gw, by rw [List.map_append]; cases ws' <;> rfl⟩, iteT ⟨Nx, fun σ' G' hN => ?_, ?_⟩⟩
        · rw [hNx] at hN
          obtain ⟨keys2, ws2, o4, o5, e1, e2, e3, e4, e5, e6, e7⟩ := hN
          exact ⟨_, by rw [List.concat_eq_append, List.length_append, List.length_singleton]; omega, keys2, ws2, o4, o5, e1, e2, e3, e4, e5, e6, rfl⟩
        obtain ⟨t, et, htl, htr⟩ := st.re y (st.wk y (List.mem_append_right _ List.mem_cons_self))
        subst et
        obtain ⟨k0, hk0⟩ : ∃ k0, rs[t]? = some k0 := ⟨_, List.getElem?_eq_getElem htl⟩
        obtain ⟨a0, ha0⟩ : ∃ a0, as[t]? = some a0 := ⟨_, List.getElem?_eq_getElem (show t < as.length by omega)⟩
        have gl1 : G l1 = some (.lst (as.map V.ref)) := sG _ _ h1
        have wl1 : l1 ≠ wl := fun e => by rw [e, hwH] at h1; cases h1
        have hG6 : ∀ b o, H b = some o → (upd G wl (.lst (ws'.map V.int))) b = some o := fun b o e => (upd_ne (ne_of_none e hwH)).trans (sG b o e)
        refine ⟨_, rfl, p, C, dx, fs, _, rfl, sG _ _ h0, TB.cl, TB.no _ (by simp), a1, _, rfl, .inl ⟨rfl, _, SqL.of gw⟩, wl, _, .int (t : Nat), rfl, rfl, gw, (by rw [List.map_append, List.length_append, List.length_map, List.map_cons, List.map_nil, List.length_singleton, Nat.add_sub_cancel, List.getElem?_append_right (by rw [List.length_map]; exact Nat.le_refl _), List.length_map, Nat.sub_self]; rfl), ?_⟩
        rw [List.map_append, List.map_cons, List.map_nil, List.dropLast_concat]
        have s6 : Same H (upd G wl (.lst (ws'.map V.int))) := hG6
        have t6 : (upd G wl (.lst (ws'.map V.int))) wl = some (.lst (ws'.map V.int)) := upd_same
        have z6 : (upd G wl (.lst (ws'.map V.int))) z = some (.dK (kvT keys)) := (upd_ne nzw).trans gz
        generalize upd G wl (.lst (ws'.map V.int)) = G6 at s6 t6 z6 ⊢
        refine ⟨l1, _, _, .ref a0, rfl, rfl, SqL.of (s6 _ _ h1), atI_nat (j := t) (by rw [List.getElem?_map, ha0]; rfl), ?_⟩
        dsimp only [gName]
        have hA : RowAt K G6 k0 a0 := (b2 t k0 a0 hk0 ha0).mono fun _ _ => upT s6
        refine ⟨_, rfl, ?_⟩
        dsimp only [tNil]
        refine args_row hA fun b G7 s7 hb => ?_
        have s67 := Same.tr s6 s7
        have t7 := s7 _ _ t6
        have z7 := s7 _ _ z6
        have hnt : ∀ c, (c = z ∨ c = wl) → NotTup G7 c := fun c hc => by
          rcases hc with rfl | rfl
          · exact ntz _ ⟨_, z7⟩
          · exact not_lst t7
        have wnd := List.nodup_append.mp st.wn
        have twn : (t : Int) ∉ ws' := fun h => wnd.2.2 _ h _ List.mem_cons_self rfl
        have pin0 : PIn rs n t k0 (2 * (rs.length - keys.length) + ws'.length) 0 keys ws' := ⟨⟨st.kn, wnd.1, fun j hj => st.wk j (List.mem_append_left _ hj), st.ik, st.re⟩, st.wk _ (List.mem_append_right _ List.mem_cons_self), twn, fun j k hj hw hne hk => cl j k hj (fun h => by
          rcases List.mem_append.mp h with h | h
          · exact hw h
          · have := List.mem_singleton.mp h
            omega) hk, fun u m hu => absurd hu (Nat.not_lt_zero _), Nat.le_refl _⟩
        refine ⟨b, rfl, seq_itK (H0 := ms (fun c => c = z ∨ c = wl) G7) (.inr (SqT_ms hnt hb)) ms_same fun J Sx wk hS => ?_⟩
        refine for_it (D := { nx := Nx, rt := Q }) wk (fun j σ' M => Same (ms (fun c => c = z ∨ c = wl) G7) M ∧ ∃ keys2 ws2 o5, σ' = [some (.ref p), some (.int (n : Nat)), some (.ref z), some (.ref wl), some (.ref a0), o5] ∧ Same H M ∧ M z = some (.dK (kvT keys2)) ∧ M wl = some (.lst (ws2.map V.int)) ∧ PIn rs n t k0 (2 * (rs.length - keys.length) + ws'.length) j keys2 ws2) ⟨ms_same, keys, ws', _, rfl, s67, z7, t7, pin0⟩ (fun _ _ _ _ h => hS _ h.1) ?_ ?_
        · rintro j v σ' M M' hj ⟨smM, keys2, ws2, o5', rfl, sM, mz, mw, hI⟩ ⟨rfl, hx⟩
          rw [List.getElem?_map] at hx
          obtain ⟨m, hm, rfl⟩ := Option.map_eq_some_iff.mp hx
          obtain ⟨i1', i2'⟩ := hI.add hR hk0 hm
          have hkl2 := hI.st.len
          have hwl2 := hI.st.wlen
          refine ⟨_, rfl, _, rfl, z, _, rfl, .inl ⟨_, Sum.inl m, .inl mz, rfl, rfl⟩, _, rfl, ?_⟩
          rw [valT]
          by_cases hmk : m ∈ keys2
          · rw [if_pos hmk]
            exact iteF ⟨smM, keys2, ws2, _, rfl, sM, mz, mw, i1' hmk⟩
          · rw [if_neg hmk]
            refine iteT ?_
            refine ⟨_, rfl, _, rfl, z, _, rfl, .inl ⟨_, Sum.inl m, mz, rfl, (by unfold kvT; rw [List.length_map, PySem.sizeLine_eq]; omega), rfl⟩, ?_⟩
            rw [putT hmk]
            have mw' : (upd M' z (.dK (kvT (keys2 ++ [m])))) wl = some (.lst (ws2.map V.int)) := (upd_ne nzw.symm).trans mw
            refine ⟨_, rfl, .inl ⟨rfl, _, SqL.of mw'⟩, _, rfl, wl, _, .int m, rfl, rfl, mw', (by rw [List.length_map, PySem.sizeLine_eq]; omega), ?_, keys2 ++ [m], ws2 ++ [m], _, rfl, ?_, ?_, ?_, i2' hmk⟩
            · intro c o e
              obtain ⟨hc, _⟩ := ms_some e
              exact (upd_ne fun h => hc (.inr h)).trans ((upd_ne fun h => hc (.inl h)).trans (smM c o e))
            · exact fun c o e => (upd_ne (ne_of_none e hwH)).trans ((upd_ne (ne_of_none e hz)).trans (sM c o e))
            · exact (upd_ne nzw).trans upd_same
            · rw [upd_same, List.map_append]
              rfl
        · rintro σ' M ⟨smM, keys2, ws2, o5', rfl, sM, mz, mw, hI⟩
          show Nx _ _
          rw [hNx]
          refine ⟨keys2, ws2, _, _, rfl, sM, mz, mw, hI.st, fun j k hj hw hk m hm => ?_, hI.mu⟩
          by_cases e : j = t
          · subst e
            rw [hk0] at hk
            cases hk
            obtain ⟨u, hu, eu⟩ := List.getElem_of_mem hm
            exact hI.ar u m (by rw [List.length_map]; exact hu) (by rw [List.getElem?_eq_getElem hu, eu])
          · exact hI.cl j k hj hw e hk m hm
    | _ => cases e
end
end T56
set_option Elab.async false
set_option linter.all false
set_option maxRecDepth 100000
set_option maxHeartbeats 4000000
namespace T56
open PySem PySem.Spec PyProof.Rows L2 Tp
section
variable {P : Program} {w : World} {K : PySem.W.Frag} {mg : Str → Option Value} {base : Heap} {f : Addr} {fd : FuncData}
/-- a row with its numbers moved -/
def movR (g : Int → Int) (k : RowK) : RowK := (k.1, match k.2 with
  | .inl n => .inl n
  | .inr ns => .inr (ns.map g))
def spMoved (K : PySem.W.Frag) : Sp := fun vs H Q _ => ∃ (a d : Addr) (k : RowK) (g : Int → Int) (kvs : List (Key × V)), vs = [.ref a, .ref d] ∧ RowAt K H k a ∧ H d = some (.dK kvs) ∧ k.1.length ≤ 5000 ∧ (argsK k).length ≤ 3 ∧ (∀ m ∈ argsK k, valV kvs (Sum.inl m) = some (.int (g m))) ∧ ∀ r H', Same H H' → RowAt K H' (movR g k) r → Q (.ref r) H'

abbrev sMv : Stmt := top 35
abbrev nMv : List Str := ["row", "places", "number"]
theorem scMv : FnScope nMv ["row", "places"] (defScope sMv) := ⟨rfl, rfl, rfl, by decide +kernel, rfl, by decide +kernel, by decide +kernel⟩

theorem ok_moved (F : Fun K "moved_row" "moved_row" sMv f fd) (T : TxtV mg) (L : Cg P w K mg base 1 "is_list" (spList K)) : FnG P w K mg base CX0 2 f fd ["row", "places"] (spMoved K) := by
  refine FunG.ok F scMv (fun vs H Q E h => ?_) (fun cdv B out s H vs Q E hr hG h => ?_)
  · obtain ⟨a, d, k, g, kvs, rfl, _⟩ := h
    rfl
  · obtain ⟨a, d, k, g, kvs, rfl, hA, hd, hz, hl3, hg, q⟩ := h
    refine ⟨_, (pss_cons (ps_if (pt_not (pt_val (pe_g L hr hG (by decide) (by rfl) (pa_cons (pe_ix ix_tup (pv 0) pe_int fun _ _ => rfl) pa_nil)))) (pss_one (ps_ret (pv 0))) pss_nil)
      (pss_one (ps_ret (pe_tup (pa_cons (pe_ix ix_tup (pv 0) pe_int fun _ _ => rfl) (pa_cons (pe_callTy call_tuple_of (by rfl) T.tuple (by decide +kernel) (pa_cons (pe_lc (own := [("number", 2)]) (g := gName 2) (tt := tYes) rfl scMv.nd (pi_seq (pe_ix ix_tup (pv 0) pe_int fun _ _ => rfl)) (blkOk_by (N := nMv) (sc := defScope sMv) (by decide +kernel)) (fun _ _ _ _ _ => pg_name (i := 2) scMv.nd rfl (Or.inl rfl)) (fun _ _ _ _ _ => pts_nil) (fun _ _ _ _ _ => (pe_dget (hu1 hr) (pv 1) (pv 2) (fun _ _ => rfl)))) pa_nil)) pa_nil)))))), ?_⟩
    obtain ⟨z, r⟩ := k
    obtain ⟨h0, ⟨n, e, h1⟩ | ⟨ns, b, e, h1, h2⟩⟩ := hA
    · dsimp only at e
      subst e
      refine ⟨_, rfl, a, _, _, _, rfl, rfl, h1, atI_nat (j := 1) rfl, ?_⟩
      dsimp only [tNil]
      refine ⟨.int n, "int", rfl, vk_int n, fun H1 s1 => ⟨_, rfl, ?_⟩⟩
      refine iteT ⟨_, rfl, ?_⟩
      exact q a H1 s1 ⟨h0, .inl ⟨n, rfl, upT s1 h1⟩⟩
    · dsimp only at e
      subst e
      refine ⟨_, rfl, a, _, _, _, rfl, rfl, h1, atI_nat (j := 1) rfl, ?_⟩
      dsimp only [tNil]
      refine ⟨.ref b, "tuple", rfl, vk_tuple h2, fun H1 s1 => ⟨_, rfl, ?_⟩⟩
      refine iteF ?_
      dsimp only [tNext]
      have h11 := upT s1 h1
      have h21 := upT s1 h2
      refine ⟨_, rfl, a, _, _, _, rfl, rfl, h11, atI_nat (j := 0) rfl, ?_⟩
      have hd1 := s1 _ _ hd
      refine ⟨_, rfl, a, _, _, _, rfl, rfl, h11, atI_nat (j := 1) rfl, b, rfl, seq_it (.inr h21) fun J wk => fun D hD => ?_⟩
      refine lc_it wk (fun j G => Same H1 G ∧ G D = some (.lst (((ns.map g).take j).map V.int))) ⟨Same.put hD, upd_same⟩ (fun _ _ _ h => h.1) ?_ ?_
      · rintro j v G G' hj ⟨sG, gD⟩ ⟨rfl, hx⟩
        rw [List.getElem?_map] at hx
        obtain ⟨m, hm, rfl⟩ := Option.map_eq_some_iff.mp hx
        refine ⟨rfl, _, rfl, _, rfl, d, .int (g m), rfl, .inl ⟨kvs, Sum.inl m, .inl (sG _ _ hd1), rfl, (hg m (List.mem_of_getElem? hm)).symm⟩, _, gD, ?_, fun c o e => (upd_ne (ne_of_none e hD)).trans (sG c o e), ?_⟩
        · rw [List.length_map, List.length_take, List.length_map, PySem.sizeLine_eq]
          have : ns.length ≤ 3 := hl3
          omega
        · rw [upd_same, List.take_add_one, List.getElem?_map, hm]
          simp
      · rintro G ⟨sG, gD⟩
        rw [List.length_map, List.take_of_length_le (by rw [List.length_map]; exact Nat.le_refl _)] at gD
        refine ⟨D, _, rfl, .inl ⟨SqL.of gD, fun t et => ⟨(by show 2 ≤ sizeLine; decide), fun r er => ?_⟩⟩⟩
        have s3 := Same.put (o := .tup ((ns.map g).map V.int)) et
        have s4 := Same.put (o := .tup [V.str z, V.ref t]) er
        exact q r _ (Same.tr s1 (Same.tr sG (Same.tr s3 s4))) ⟨h0, .inr ⟨ns.map g, t, rfl, SqT.of upd_same, upT s4 (SqT.of upd_same)⟩⟩
end
end T56
set_option Elab.async false
set_option linter.all false
set_option maxRecDepth 100000
set_option maxHeartbeats 4000000
namespace T56
open PySem PySem.Spec PyProof.Rows L2 Tp
section
variable {P : Program} {w : World} {K : PySem.W.Frag} {mg : Str → Option Value} {base : Heap} {f : Addr} {fd : FuncData}
/-- the first place at which two rows of numbers part -/
def spFirst (K : PySem.W.Frag) : Sp := fun vs H Q _ => ∃ (a b : Addr) (ns ms : List Int) (j : Nat) (x y : Int), vs = [.ref a, .ref b] ∧ SqT K H a (ns.map V.int) ∧ SqT K H b (ms.map V.int) ∧ ns[j]? = some x ∧ ms[j]? = some y ∧ x ≠ y ∧ (∀ t, t < j → ns[t]? = ms[t]?) ∧ j < 100 ∧ Q (.int (j : Nat)) H
/-- the arguments of two rows of one symbol, else nothing twice -/
def compR (k j : RowK) : List Int × List Int := if k.1 = j.1 ∧ (argsK k).length = (argsK j).length then (argsK k, argsK j) else ([], [])
def spCompared (P : Program) (w : World) (K : PySem.W.Frag) (C : Addr) : Sp := fun vs H Q _ => ∃ (p : Addr) (fp : List Addr) (rs : List RowK) (i j : Nat) (k k' : RowK), vs = [.ref p, .int (i : Nat), .int (j : Nat)] ∧ BookAt P w K H C p fp rs ∧ rs[i]? = some k ∧ rs[j]? = some k' ∧
  ∀ t a b H', Same H H' → SqT K H' t [.ref a, .ref b] → SqT K H' a ((compR k k').1.map V.int) → SqT K H' b ((compR k k').2.map V.int) → Q (.ref t) H'

abbrev sFu : Stmt := top 45
abbrev nFu : List Str := ["one", "other", "index"]
theorem scFu : FnScope nFu ["one", "other"] (defScope sFu) := ⟨rfl, rfl, rfl, by decide +kernel, rfl, by decide +kernel, by decide +kernel⟩

theorem ok_first (F : Fun K "_first_unlike" "_first_unlike" sFu f fd) : FnG P w K mg base CX0 1 f fd ["one", "other"] (spFirst K) := by
  refine FunG.ok F scFu (fun vs H Q E h => ?_) (fun cdv B out s H vs Q E hr hG h => ?_)
  · obtain ⟨a, b, ns, ms, j, x, y, rfl, _⟩ := h
    rfl
  · obtain ⟨a, b, ns, ms, j, x, y, rfl, ha, hb, hx, hy, hne, hlt, hj, q⟩ := h
    refine ⟨_, (pss_cons (ps_set (i := 2) scFu.nd rfl (.inl rfl) pe_int)
      (pss_cons (ps_while PassesOwn.never (pt_cmpR op_eq (pe_ix ix_tup (pv 0) (pv 2) fun _ _ => rfl) (pe_ix ix_tup (pv 1) (pv 2) fun _ _ => rfl) (nomark _)) (pss_one (ps_aug (i := 2) scFu.nd rfl (.inl rfl) pe_int ip_add)))
      (pss_one (ps_ret (pv 2))))), ?_⟩
    have at1 : ∀ {xs : List Int} {t : Nat} {v : Int}, xs[t]? = some v → atI (xs.map V.int) (t : Int) = some (V.int v) := fun {xs t v} e => atI_nat (by rw [List.getElem?_map, e]; rfl)
    obtain ⟨Nx, hNx⟩ : ∃ Nx : Nat → L2.St → Hp → Prop, Nx = fun m σ G => G = H ∧ ∃ t : Nat, t ≤ j ∧ m = j - t ∧ σ = [some (V.ref a), some (V.ref b), some (V.int (t : Nat))] := ⟨_, rfl⟩
    dsimp only [gName]
    refine ⟨Nx, ⟨j, by rw [hNx]; exact ⟨rfl, 0, Nat.zero_le _, rfl, rfl⟩⟩, ?_⟩
    intro m σ G hN
    rw [hNx] at hN
    obtain ⟨rfl, t, htj, rfl, rfl⟩ := hN
    rcases Nat.lt_or_ge t j with h | h
    · have e := hlt t h
      have hl := (List.getElem?_eq_some_iff.mp hx).1
      have e1 : ns[t]? = some ns[t] := List.getElem?_eq_getElem (by omega)
      rw [e1] at e
      refine ⟨_, rfl, _, rfl, a, _, _, _, rfl, rfl, ha, at1 e1, _, rfl, _, rfl, b, _, _, _, rfl, rfl, hb, at1 e.symm, rfl, _, rfl, ?_⟩
      rw [decide_eq_true rfl]
      refine iteT ⟨Nx (j - (t + 1)), fun σ' G' hN => ⟨_, by omega, hN⟩, ?_⟩
      refine ⟨_, rfl, t, 1, rfl, rfl, ?_⟩
      show Nx _ _ _
      rw [hNx]
      exact ⟨rfl, t + 1, h, rfl, rfl⟩
    · have e : t = j := by omega
      subst e
      refine ⟨_, rfl, _, rfl, a, _, _, _, rfl, rfl, ha, at1 hx, _, rfl, _, rfl, b, _, _, _, rfl, rfl, hb, at1 hy, rfl, _, rfl, ?_⟩
      rw [decide_eq_false fun e => hne (V.int.inj e)]
      exact iteF ⟨_, rfl, q⟩

abbrev sCm : Stmt := inClass (top 38) 24
abbrev nCm : List Str := ["self", "one", "other", "row", "other_row", "arguments", "others"]
theorem scCm : FnScope nCm ["self", "one", "other"] (defScope sCm) := ⟨rfl, rfl, rfl, by decide +kernel, rfl, by decide +kernel, by decide +kernel⟩

theorem ok_compared {C : Addr} (F : Fun K "_compared" "Book._compared" sCm f fd) (T : TxtV mg) (TB : TxtBk K C) (AO : Cg P w K mg base 2 "arguments_of" (spArgs K)) : FnG P w K mg base CX0 3 f fd ["self", "one", "other"] (spCompared P w K C) := by
  refine FunG.ok F scCm (fun vs H Q E h => ?_) (fun cdv B out s H vs Q E hr hG h => ?_)
  · obtain ⟨p, fp, rs, i, j, k, k', rfl, _⟩ := h
    rfl
  · obtain ⟨p, fp, rs, i, j, k, k', rfl, hB, hk, hk', q⟩ := h
    obtain ⟨dx, l1, d, l2, l3, l4, as, fs, rfl, nd, h0, a1, a2, a3, a4, a5, a6, b1, b2, h1, h2, h3, h4, h5, b3, b4, b5⟩ := hB.ex
    refine ⟨_, (pss_cons (ps_par (i := 3) (j := 4) rfl scCm.nd rfl rfl (by decide) rfl rfl (pa_cons (pe_ix ix_list (pe_fld (pv 0) rfl) (pv 1) fun _ _ => rfl) (pa_cons (pe_ix ix_list (pe_fld (pv 0) rfl) (pv 2) fun _ _ => rfl) pa_nil)) (by rfl))
      (pss_cons (ps_par (i := 5) (j := 6) rfl scCm.nd rfl rfl (by decide) rfl rfl (pa_cons (pe_g AO hr hG (by decide) (by rfl) (pa_cons (pv 3) pa_nil)) (pa_cons (pe_g AO hr hG (by decide) (by rfl) (pa_cons (pv 4) pa_nil)) pa_nil)) (by rfl))
      (pss_cons (ps_if (PW.pt (pw_or (pt_cmpR op_ne (pe_ix ix_tup (pv 3) pe_int fun _ _ => rfl) (pe_ix ix_tup (pv 4) pe_int fun _ _ => rfl) (nomark _)) (pw_or1 (pt_cmpR op_ne (pe_callB call_len (by rfl) T.len PySem.boot_len (pa_cons (pv 5) pa_nil)) (pe_callB call_len (by rfl) T.len PySem.boot_len (pa_cons (pv 6) pa_nil)) (nomark _))))) (pss_one (ps_ret (pe_tup (pa_cons (pe_tup pa_nil) (pa_cons (pe_tup pa_nil) pa_nil))))) pss_nil)
      (pss_one (ps_ret (pe_tup (pa_cons (pv 5) (pa_cons (pv 6) pa_nil)))))))), ?_⟩
    have hi : i < as.length := by
      have := (List.getElem?_eq_some_iff.mp hk).1
      omega
    have hj : j < as.length := by
      have := (List.getElem?_eq_some_iff.mp hk').1
      omega
    obtain ⟨a, ha⟩ : ∃ a, as[i]? = some a := ⟨_, List.getElem?_eq_getElem hi⟩
    obtain ⟨b, hb⟩ : ∃ b, as[j]? = some b := ⟨_, List.getElem?_eq_getElem hj⟩
    have hA := b2 i k a hk ha
    have hA' := b2 j k' b hk' hb
    refine ⟨_, rfl, p, C, dx, fs, _, rfl, h0, TB.cl, TB.no _ (by simp), a1, _, rfl, l1, _, _, .ref a, rfl, rfl, SqL.of h1, atI_nat (j := i) (by rw [List.getElem?_map, ha]; rfl), ?_⟩
    refine ⟨_, rfl, p, C, dx, fs, _, rfl, h0, TB.cl, TB.no _ (by simp), a1, _, rfl, l1, _, _, .ref b, rfl, rfl, SqL.of h1, atI_nat (j := j) (by rw [List.getElem?_map, hb]; rfl), ⟨_, _, rfl, ?_⟩⟩
    refine ⟨_, rfl, ?_⟩
    dsimp only [tNil]
    refine args_row hA fun ta H1 s1 hta => ?_
    refine ⟨_, rfl, ?_⟩
    dsimp only [tNil]
    refine args_row (hA'.mono fun _ _ => upT s1) fun tb H2 s2 htb => ⟨_, _, rfl, ?_⟩
    have s12 := Same.tr s1 s2
    have hta2 := upT s2 hta
    have hnm : ∀ {k : RowK} {a : Addr} {G : Hp}, RowAt K G k a → ∃ v, SqT K G a [.str k.1, v] := fun {k a G} h => by
      obtain ⟨_, ⟨n, _, h⟩ | ⟨ns, c, _, h, _⟩⟩ := h
      · exact ⟨_, h⟩
      · exact ⟨_, h⟩
    obtain ⟨v, hv⟩ := hnm (hA.mono fun _ _ => upT s12)
    obtain ⟨v', hv'⟩ := hnm (hA'.mono fun _ _ => upT s12)
    have no : ¬ (k.1 = k'.1 ∧ (argsK k).length = (argsK k').length) → ∀ (E1 : Addr) (G1 : Hp) (E2 : Addr) (G2 : Hp) (E3 : Addr), G1 = upd H2 E1 (.tup []) → H2 E1 = none → G2 = upd G1 E2 (.tup []) → G1 E2 = none → G2 E3 = none → Q (.ref E3) (upd G2 E3 (.tup [V.ref E1, V.ref E2])) := fun hne E1 G1 E2 G2 E3 e1 n1 e2 n2 n3 => by
      subst e1 e2
      have w1 := Same.put (o := .tup []) n1
      have w2 := Same.put (o := .tup []) n2
      have w3 := Same.put (o := .tup [V.ref E1, V.ref E2]) n3
      have ec : compR k k' = ([], []) := if_neg hne
      refine q E3 E1 E2 _ (Same.tr s12 (Same.tr w1 (Same.tr w2 w3))) (SqT.of upd_same) ?_ ?_
      · rw [ec]
        exact upT (Same.tr w2 w3) (SqT.of upd_same)
      · rw [ec]
        exact upT w3 (SqT.of upd_same)
    refine ⟨_, rfl, a, _, _, _, rfl, rfl, hv, atI_nat (j := 0) rfl, _, rfl, b, _, _, _, rfl, rfl, hv', atI_nat (j := 0) rfl, rfl, _, rfl, ?_⟩
    by_cases he : k.1 = k'.1
    · rw [he, decide_eq_true rfl]
      refine iteF ⟨_, rfl, _, _, rfl, .inr ⟨_, hta2, rfl⟩, _, rfl, _, _, rfl, .inr ⟨_, htb, rfl⟩, rfl, _, rfl, ?_⟩
      rw [List.length_map, List.length_map]
      by_cases hl : (argsK k).length = (argsK k').length
      · rw [hl, decide_eq_true rfl]
        refine iteF ?_
        dsimp only [tNext]
        refine ⟨_, rfl, _, rfl, (by show 2 ≤ sizeLine; decide), fun t ht => ?_⟩
        have w := Same.put (o := .tup [V.ref ta, V.ref tb]) ht
        have ec : compR k k' = (argsK k, argsK k') := if_pos ⟨he, hl⟩
        refine q t ta tb _ (Same.tr s12 w) (SqT.of upd_same) ?_ ?_
        · rw [ec]
          exact upT w hta2
        · rw [ec]
          exact upT w htb
      · rw [decide_eq_false (p := V.int ((argsK k).length : Nat) = V.int ((argsK k').length : Nat)) fun e => hl (by have := V.int.inj e; omega)]
        refine iteT ⟨(by show 0 ≤ sizeLine; decide), fun E1 n1 => ⟨(by show 0 ≤ sizeLine; decide), fun E2 n2 => ⟨(by show 2 ≤ sizeLine; decide), fun E3 n3 => ?_⟩⟩⟩
        exact no (fun h => hl h.2) E1 _ E2 _ E3 rfl n1 rfl n2 n3
    · rw [decide_eq_false fun e => he (V.str.inj e)]
      refine iteT (iteT ⟨(by show 0 ≤ sizeLine; decide), fun E1 n1 => ⟨(by show 0 ≤ sizeLine; decide), fun E2 n2 => ⟨(by show 2 ≤ sizeLine; decide), fun E3 n3 => ?_⟩⟩⟩)
      exact no (fun h => he h.1) E1 _ E2 _ E3 rfl n1 rfl n2 n3
end
end T56
set_option Elab.async false
set_option linter.all false
set_option maxRecDepth 100000
set_option maxHeartbeats 4000000
namespace T56
open PySem PySem.Spec PyProof.Rows L2 Tp
section
variable {P : Program} {w : World} {K : PySem.W.Frag} {mg : Str → Option Value} {base : Heap} {f : Addr} {fd : FuncData}
/-- the first place at which two rows of numbers part -/
def firstD : List Int → List Int → Option Nat
  | x :: xs, y :: ys => if x = y then (firstD xs ys).map (· + 1) else some 0
  | _, _ => none
theorem firstD_some : ∀ {xs ys : List Int} {t : Nat}, firstD xs ys = some t → ∃ x y, xs[t]? = some x ∧ ys[t]? = some y ∧ x ≠ y ∧ ∀ u, u < t → xs[u]? = ys[u]?
  | x :: xs, y :: ys, t, h => by
    unfold firstD at h
    by_cases e : x = y
    · rw [if_pos e] at h
      obtain ⟨u, hu, rfl⟩ := Option.map_eq_some_iff.mp h
      obtain ⟨a, b, h1, h2, h3, h4⟩ := firstD_some hu
      refine ⟨a, b, h1, h2, h3, fun v hv => ?_⟩
      match v with
      | 0 => show some x = some y; rw [e]
      | v + 1 => exact h4 v (by omega)
    · rw [if_neg e] at h
      cases h
      exact ⟨x, y, rfl, rfl, e, fun u hu => absurd hu (Nat.not_lt_zero _)⟩
  | [], _, t, h => by unfold firstD at h; cases h
  | _ :: _, [], t, h => by unfold firstD at h; cases h
theorem firstD_none : ∀ {xs ys : List Int}, xs.length = ys.length → firstD xs ys = none → xs = ys
  | [], [], _, _ => rfl
  | [], _ :: _, h, _ => by cases h
  | _ :: _, [], h, _ => by cases h
  | x :: xs, y :: ys, h, e => by
    unfold firstD at e
    by_cases e2 : x = y
    · rw [if_pos e2] at e
      rw [e2, firstD_none (by simpa using h) (Option.map_eq_none_iff.mp e)]
    · rw [if_neg e2] at e
      cases e
/-- the way to the place where two terms part -/
def slotsF (rs : List RowK) : Nat → Nat → Nat → List Int
  | 0, _, _ => []
  | n + 1, i, j => match rs[i]?, rs[j]? with
    | some k, some k' => (match firstD (compR k k').1 (compR k k').2 with
      | some t => (t : Int) :: slotsF rs n (((compR k k').1.getD t 0).toNat) (((compR k k').2.getD t 0).toNat)
      | none => [])
    | _, _ => []
/-- two rows of a book: where they part, if they have one symbol and arguments -/
theorem comp_ne {rs : List RowK} (hR : OkRows rs) (hnd : rs.Nodup) {i j : Nat} {k k' : RowK} (hi : rs[i]? = some k) (hj : rs[j]? = some k') (hne : i ≠ j) (h0 : (compR k k').1 ≠ []) : ∃ t x y, firstD (compR k k').1 (compR k k').2 = some t ∧ (compR k k').1[t]? = some ((x : Nat) : Int) ∧ (compR k k').2[t]? = some ((y : Nat) : Int) ∧ x < i ∧ y < j ∧ x ≠ y ∧ t < 3 := by
  unfold compR at h0 ⊢
  by_cases hc : k.1 = k'.1 ∧ (argsK k).length = (argsK k').length
  · rw [if_pos hc] at h0 ⊢
    cases e : firstD (argsK k) (argsK k') with
    | none =>
      exfalso
      have ea := firstD_none hc.2 e
      have hkk : k = k' := by
        obtain ⟨z, r⟩ := k
        obtain ⟨z', r'⟩ := k'
        cases r with
        | inl a => exact absurd rfl h0
        | inr ns =>
          cases r' with
          | inl b => exact absurd ea h0
          | inr ms =>
            have h1 : z = z' := hc.1
            have h2 : ns = ms := ea
            rw [h1, h2]
      have hil := (List.getElem?_eq_some_iff.mp hi)
      have hjl := (List.getElem?_eq_some_iff.mp hj)
      obtain ⟨h1, h2⟩ := hil
      obtain ⟨h3, h4⟩ := hjl
      have hp := List.pairwise_iff_getElem.mp hnd
      rcases Nat.lt_trichotomy i j with h | h | h
      · exact hp i j h1 h3 h (h2.trans (hkk.trans h4.symm))
      · exact hne h
      · exact hp j i h3 h1 h (h4.trans (hkk.symm.trans h2.symm))
    | some t =>
      obtain ⟨x, y, h1, h2, h3, _⟩ := firstD_some e
      obtain ⟨a, ea, ha⟩ := args_ok hR hi (List.mem_of_getElem? h1)
      obtain ⟨b, eb, hb⟩ := args_ok hR hj (List.mem_of_getElem? h2)
      have hl : (argsK k).length ≤ 3 := by
        have := (hR i k hi).2
        obtain ⟨z, r⟩ := k
        cases r with
        | inl a => exact Nat.zero_le _
        | inr ns => exact this.1
      have := (List.getElem?_eq_some_iff.mp h1).1
      exact ⟨t, a, b, rfl, by rw [h1, ea], by rw [h2, eb], ha, hb, fun z => h3 (by rw [ea, eb, z]), by omega⟩
  · rw [if_neg hc] at h0
    exact absurd rfl h0
theorem slots_fuel {rs : List RowK} (hR : OkRows rs) (hnd : rs.Nodup) : ∀ (n m i j : Nat) (k k' : RowK), rs[i]? = some k → rs[j]? = some k' → i ≠ j → i < n → i < m → slotsF rs n i j = slotsF rs m i j
  | 0, _, _, _, _, _, _, _, _, h, _ => absurd h (Nat.not_lt_zero _)
  | _, 0, _, _, _, _, _, _, _, _, h => absurd h (Nat.not_lt_zero _)
  | n + 1, m + 1, i, j, k, k', hi, hj, hne, hn, hm => by
    unfold slotsF
    rw [hi, hj]
    dsimp only
    by_cases h0 : (compR k k').1 = []
    · rw [h0]
      cases (compR k k').2 <;> rfl
    · obtain ⟨t, x, y, e1, e2, e3, hx, hy, hxy, _⟩ := comp_ne hR hnd hi hj hne h0
      rw [e1]
      dsimp only
      have d1 : (compR k k').1.getD t 0 = (x : Int) := by rw [List.getD_eq_getElem?_getD, e2]; rfl
      have d2 : (compR k k').2.getD t 0 = (y : Int) := by rw [List.getD_eq_getElem?_getD, e3]; rfl
      rw [d1, d2, Int.toNat_natCast, Int.toNat_natCast]
      have hil := (List.getElem?_eq_some_iff.mp hi).1
      have hjl := (List.getElem?_eq_some_iff.mp hj).1
      obtain ⟨k2, hk2⟩ : ∃ k2, rs[x]? = some k2 := ⟨_, List.getElem?_eq_getElem (by omega)⟩
      obtain ⟨k3, hk3⟩ : ∃ k3, rs[y]? = some k3 := ⟨_, List.getElem?_eq_getElem (by omega)⟩
      rw [slots_fuel hR hnd n m x y k2 k3 hk2 hk3 hxy (by omega) (by omega)]
def spDiffer (P : Program) (w : World) (K : PySem.W.Frag) (C CU : Addr) : Sp := fun vs H Q E => ∃ (p : Addr) (fp : List Addr) (rs : List RowK) (x y : V) (kx ky : String), vs = [.ref p, x, y] ∧ BookAt P w K H C p fp rs ∧ Vk K H x kx ∧ Vk K H y ky ∧ (numV rs.length x = false → Rsd E H CU "number" x) ∧ (numV rs.length x = true → numV rs.length y = false → Rsd E H CU "number" y) ∧
  ∀ i j : Nat, x = .int (i : Nat) → y = .int (j : Nat) → i < rs.length → j < rs.length → (i = j → Q .non H) ∧ (i ≠ j → ∀ l H', Same H H' → H l = none → H' l = some (.lst ((slotsF rs (i + 1) i j).map V.int)) → Q (.ref l) H')

abbrev sDf : Stmt := inClass (top 38) 23
abbrev nDf : List Str := ["self", "one", "other", "slots", "arguments", "others", "slot"]
theorem scDf : FnScope nDf ["self", "one", "other"] (defScope sDf) := ⟨rfl, rfl, rfl, by decide +kernel, rfl, by decide +kernel, by decide +kernel⟩

theorem ok_differ {C CU : Addr} (F : Fun K "differ" "Book.differ" sDf f fd) (TB : TxtBk K C) (FU : Cg P w K mg base 1 "_first_unlike" (spFirst K)) (CM : Ct P w K mg base 3 C "_compared" [] (spCompared P w K C)) (CR : Ctr P w K mg base 4 C "_require" [] (spReq P w K C CU)) : FnG P w K mg base (L2.CX P w) 5 f fd ["self", "one", "other"] (spDiffer P w K C CU) := by
  refine FunG.okX F scDf (fun vs H Q E h => ?_) (fun cdv B out s H vs Q E hr hG h => ?_)
  · obtain ⟨p, fp, rs, x, y, kx, ky, rfl, _⟩ := h
    rfl
  · obtain ⟨p, fp, rs, x, y, kx, ky, rfl, hB, hvx, hvy, q0, q1, q2⟩ := h
    refine ⟨_, (pss_cons (ps_expr (pe_ctr (pv 0) CR hr hG (by decide) (takes_of rfl rfl rfl rfl) (pa_cons (pv 1) pa_nil)))
      (pss_cons (ps_expr (pe_ctr (pv 0) CR hr hG (by decide) (takes_of rfl rfl rfl rfl) (pa_cons (pv 2) pa_nil)))
      (pss_cons (ps_if (pt_cmpR op_eq (pv 1) (pv 2) (nomark _)) (pss_one (ps_ret pe_non)) pss_nil)
      (pss_cons (ps_set (i := 3) scDf.nd rfl (.inl rfl) (pe_lst pa_nil))
      (pss_cons (ps_asg (pe_ct (pv 0) CM hr hG (by decide) (pa_cons (pv 1) (pa_cons (pv 2) pa_nil))) (pg_tup rfl (pgs_cons (pg_name (i := 4) scDf.nd rfl (Or.inl rfl)) (pgs_cons (pg_name (i := 5) scDf.nd rfl (Or.inl rfl)) pgs_nil))))
      (pss_cons (ps_while (passes_of rfl) (pt_truth (pv 4) (by intro _; rfl)) (pss_cons (ps_set (i := 6) scDf.nd rfl (.inl rfl) (pe_g FU hr hG (by decide) (by rfl) (pa_cons (pv 4) (pa_cons (pv 5) pa_nil))))
        (pss_cons (ps_expr (pe_bm PySem.F.plainAttrs_list PySem.F.slot_list_append PySem.F.type_list_append mt_append (pv 3) (pa_cons (pv 6) pa_nil)))
        (pss_one (ps_asg (pe_ct (pv 0) CM hr hG (by decide) (pa_cons (pe_ix ix_tup (pv 4) (pv 6) fun _ _ => rfl) (pa_cons (pe_ix ix_tup (pv 5) (pv 6) fun _ _ => rfl) pa_nil))) (pg_tup rfl (pgs_cons (pg_name (i := 4) scDf.nd rfl (Or.inl rfl)) (pgs_cons (pg_name (i := 5) scDf.nd rfl (Or.inl rfl)) pgs_nil))))))))
      (pss_one (ps_ret (pv 3))))))))), ?_⟩
    obtain ⟨dx, gs, g0, a6⟩ := hB.there
    have hRn : OkRows rs ∧ rs.Nodup := by
      obtain ⟨dx, l1, d, l2, l3, l4, as, fs, rfl, nd, h0, a1, a2, a3, a4, a5, a6, b1, b2, h1, h2, h3, h4, h5, b3, b4, b5⟩ := hB.ex
      exact ⟨b4, b3⟩
    obtain ⟨hR, hnd⟩ := hRn
    refine ⟨_, rfl, p, dx, gs, rfl, g0, a6 _ (by decide), _, rfl, ?_⟩
    refine ⟨p, fp, rs, x, kx, rfl, hB, hvx, fun ex => ?_, fun e => q0 e⟩
    refine ⟨_, rfl, p, dx, gs, rfl, g0, a6 _ (by decide), _, rfl, ?_⟩
    refine ⟨p, fp, rs, y, ky, rfl, hB, hvy, fun ey => ?_, fun e => q1 ex e⟩
    have num : ∀ {v : V}, numV rs.length v = true → ∃ n : Nat, v = .int (n : Nat) ∧ n < rs.length := fun {v} e => by
      cases v with
      | int i =>
        obtain ⟨i0, i1⟩ := of_decide_eq_true e
        exact ⟨i.toNat, by rw [show ((i.toNat : Nat) : Int) = i by omega], by omega⟩
      | _ => cases e
    obtain ⟨i, rfl, hi⟩ := num ex
    obtain ⟨j, rfl, hj⟩ := num ey
    obtain ⟨r1, r2⟩ := q2 i j rfl rfl hi hj
    refine ⟨_, rfl, _, rfl, rfl, _, rfl, ?_⟩
    by_cases hij : i = j
    · rw [decide_eq_true (show V.int (i : Nat) = V.int (j : Nat) by rw [hij])]
      exact iteT (r1 hij)
    · rw [decide_eq_false (fun e => hij (by have := V.int.inj e; omega))]
      refine iteF ?_
      dsimp only [tNext]
      refine ⟨(by show 0 ≤ sizeLine; decide), fun l hl => ?_⟩
      have s1 : Same H (upd H l (.lst [])) := Same.put hl
      have t1 : (upd H l (.lst [])) l = some (.lst []) := upd_same
      generalize upd H l (.lst []) = H1 at s1 t1 ⊢
      dsimp only [gName]
      have hB1 := hB.up s1
      obtain ⟨dx, gs, g0, a6⟩ := hB1.there
      obtain ⟨k, hk⟩ : ∃ k, rs[i]? = some k := ⟨_, List.getElem?_eq_getElem hi⟩
      obtain ⟨k', hk'⟩ : ∃ k', rs[j]? = some k' := ⟨_, List.getElem?_eq_getElem hj⟩
      refine ⟨_, rfl, p, dx, gs, rfl, g0, a6 _ (by decide), _, rfl, _, rfl, ?_⟩
      dsimp only [tNil]
      refine ⟨p, fp, rs, i, j, k, k', rfl, hB1, hk, hk', fun t a b H2 s2 ht ha hb => ?_⟩
      have sH2 := Same.tr s1 s2
      have hlH : ∀ G, Same H1 G → G l = some (.lst []) := fun G sg => sg _ _ t1
      refine ⟨t, _, rfl, ht, rfl, _, _, rfl, _, _, rfl, rfl, ?_⟩
      obtain ⟨Nx, hNx⟩ : ∃ Nx : Nat → L2.St → Hp → Prop, Nx = fun m σ G => ∃ (i' j' : Nat) (kk kk' : RowK) (a b : Addr) (acc : List Int) (o6 : Option V), σ = [some (V.ref p), some (V.int (i : Nat)), some (V.int (j : Nat)), some (V.ref l), some (V.ref a), some (V.ref b), o6] ∧ (∀ c o, H c = some o → G c = some o) ∧ G l = some (.lst (acc.map V.int)) ∧ rs[i']? = some kk ∧ rs[j']? = some kk' ∧ i' ≠ j' ∧ SqT K G a ((compR kk kk').1.map V.int) ∧ SqT K G b ((compR kk kk').2.map V.int) ∧ acc ++ slotsF rs (i' + 1) i' j' = slotsF rs (i + 1) i j ∧ acc.length + i' ≤ i ∧ m = i' := ⟨_, rfl⟩
      refine ⟨Nx, ⟨i, by rw [hNx]; exact ⟨i, j, k, k', a, b, [], none, rfl, sH2, hlH _ s2, hk, hk', hij, ha, hb, rfl, by simp, rfl⟩⟩, ?_⟩
      intro m σ G hN
      rw [hNx] at hN
      obtain ⟨i', j', kk, kk', a', b', acc, o6, rfl, sG, gl, hi', hj', hne, ga, gb, hacc, hal, rfl⟩ := hN
      cases hc : (compR kk kk').1 with
      | nil =>
        rw [hc] at ga
        refine ⟨_, rfl, false, .inr (.inl ⟨_, ga, rfl⟩), iteF ?_⟩
        refine ⟨_, rfl, r2 hij l G sG hl ?_⟩
        rw [gl]
        have : slotsF rs (m + 1) m j' = [] := by
          unfold slotsF
          rw [hi', hj']
          dsimp only
          rw [hc]
          cases (compR kk kk').2 <;> rfl
        rw [this, List.append_nil] at hacc
        rw [hacc]
      | cons x0 xs0 =>
        have h0 : (compR kk kk').1 ≠ [] := by rw [hc]; exact nofun
        obtain ⟨u, x, y, e1, e2, e3, hx, hy, hxy, hu3⟩ := comp_ne hR hnd hi' hj' hne h0
        refine ⟨_, rfl, true, .inr (.inl ⟨_, ga, by rw [hc]; rfl⟩), iteT ?_⟩
        refine ⟨Nx x, fun σ' G' hN => ⟨x, hx, hN⟩, ?_⟩
        obtain ⟨v1, v2, f1, f2, f3, f4⟩ := firstD_some e1
        have hgl : acc.length ≤ 5000 := by
          have := (List.getElem?_eq_some_iff.mp hk).1
          have hb5 : rs.length ≤ 5000 := by
            obtain ⟨dx, l1, d, l2, l3, l4, as, fs, rfl, nd, h0, a1, a2, a3, a4, a5, a6, b1, b2, h1, h2, h3, h4, h5, b3, b4, b5⟩ := hB.ex
            exact b5
          omega
        refine ⟨_, rfl, _, rfl, ?_⟩
        dsimp only [tNil]
        refine ⟨a', b', _, _, u, v1, v2, rfl, ga, gb, f1, f2, f3, f4, by omega, ?_⟩
        dsimp only [gName]
        refine ⟨_, rfl, .inl ⟨rfl, _, SqL.of gl⟩, _, rfl, l, _, .int (u : Nat), rfl, rfl, gl, (by rw [List.length_map, PySem.sizeLine_eq]; omega), ?_⟩
        have s5 : ∀ c o, H c = some o → (upd G l (.lst (acc.map V.int ++ [V.int (u : Nat)]))) c = some o := fun c o e => (upd_ne (ne_of_none e hl)).trans (sG c o e)
        have t5 : (upd G l (.lst (acc.map V.int ++ [V.int (u : Nat)]))) l = some (.lst ((acc ++ [(u : Int)]).map V.int)) := by rw [upd_same, List.map_append]; rfl
        have fr5 : Frame [l] G (upd G l (.lst (acc.map V.int ++ [V.int (u : Nat)]))) := Frame.put (by simp)
        have nt5 : ∀ b ∈ [l], NotTup G b := fun b hb => by rw [List.mem_singleton.mp hb]; exact not_lst gl
        have ga5 := SqT.fr fr5 nt5 ga
        have gb5 := SqT.fr fr5 nt5 gb
        generalize upd G l (.lst (acc.map V.int ++ [V.int (u : Nat)])) = G5 at s5 t5 ga5 gb5 ⊢
        have at1 : ∀ {xs : List Int} {t : Nat} {v : Int}, xs[t]? = some v → atI (xs.map V.int) (t : Int) = some (V.int v) := fun {xs t v} e => atI_nat (by rw [List.getElem?_map, e]; rfl)
        have hB5 := hB.up s5
        obtain ⟨dx, gs, g0, a6⟩ := hB5.there
        refine ⟨_, rfl, p, dx, gs, rfl, g0, a6 _ (by decide), _, rfl, _, rfl, a', _, _, _, rfl, rfl, ga5, at1 e2, _, rfl, _, rfl, b', _, _, _, rfl, rfl, gb5, at1 e3, ?_⟩
        dsimp only [tNil]
        have hxl := (List.getElem?_eq_some_iff.mp hi').1
        have hyl := (List.getElem?_eq_some_iff.mp hj').1
        obtain ⟨k2, hk2⟩ : ∃ k2, rs[x]? = some k2 := ⟨_, List.getElem?_eq_getElem (by omega)⟩
        obtain ⟨k3, hk3⟩ : ∃ k3, rs[y]? = some k3 := ⟨_, List.getElem?_eq_getElem (by omega)⟩
        refine ⟨p, fp, rs, x, y, k2, k3, rfl, hB5, hk2, hk3, fun t7 a7 b7 H7 s7 ht7 ha7 hb7 => ?_⟩
        refine ⟨t7, _, rfl, ht7, rfl, _, _, rfl, _, _, rfl, rfl, ?_⟩
        show Nx _ _ _
        rw [hNx]
        refine ⟨x, y, k2, k3, a7, b7, acc ++ [(u : Int)], _, rfl, Same.tr s5 s7, s7 _ _ t5, hk2, hk3, hxy, ha7, hb7, ?_, ?_, rfl⟩
        · rw [← hacc, List.append_assoc]
          congr 1
          conv => rhs; unfold slotsF
          rw [hi', hj']
          dsimp only
          rw [e1]
          dsimp only
          have d1 : (compR kk kk').1.getD u 0 = (x : Int) := by rw [List.getD_eq_getElem?_getD, e2]; rfl
          have d2 : (compR kk kk').2.getD u 0 = (y : Int) := by rw [List.getD_eq_getElem?_getD, e3]; rfl
          rw [d1, d2, Int.toNat_natCast, Int.toNat_natCast]
          rw [slots_fuel hR hnd (x + 1) m x y k2 k3 hk2 hk3 hxy (by omega) hx]
          rfl
        · rw [List.length_append, List.length_singleton]
          omega
end
end T56
set_option Elab.async false
set_option linter.all false
set_option maxRecDepth 100000
set_option maxHeartbeats 4000000
namespace T56
open PySem PySem.Spec PyProof.Rows L2 Tp
section
variable {P : Program} {w : World} {K : PySem.W.Frag} {mg : Str → Option Value} {base : Heap} {f : Addr} {fd : FuncData}
/-- a book with a row of that number, or what is raised -/
def spReqT (P : Program) (w : World) (K : PySem.W.Frag) (C CB CU : Addr) : Sp := fun vs H Q E => ∃ (x y : V), vs = [x, y] ∧
  ((IsR K H x (.ref C) false ∧ Rsd E H CB "value" x) ∨ ∃ (p : Addr) (fp : List Addr) (rs : List RowK) (k : String), x = .ref p ∧ IsR K H x (.ref C) true ∧ BookAt P w K H C p fp rs ∧ Vk K H y k ∧ (numV rs.length y = true → Q .non H) ∧ (numV rs.length y = false → Rsd E H CU "number" y))

abbrev sRt : Stmt := top 40
abbrev nRt : List Str := ["book", "number"]
theorem scRt : FnScope nRt ["book", "number"] (defScope sRt) := ⟨rfl, rfl, rfl, by decide +kernel, rfl, by decide +kernel, by decide +kernel⟩

theorem ok_reqterm {C CB CU : Addr} (F : Fun K "_require_term" "_require_term" sRt f fd) (T : TxtV mg) (hmB : mg "Book" = some (.ref C)) (CR : Ctr P w K mg base 4 C "_require" [] (spReq P w K C CU)) (XB : Cx1 P w K mg base "InvalidBook" CB 1 [] (spI CB ["value"]) (fun vs _ => vs)) : FnG P w K mg base (L2.CX P w) 5 f fd ["book", "number"] (spReqT P w K C CB CU) := by
  have hTB : ExK K CB := XB.ex.choose_spec.choose_spec.choose_spec.choose_spec.1
  refine FunG.okX F scRt (fun vs H Q E h => ?_) (fun cdv B out s H vs Q E hr hG h => ?_)
  · obtain ⟨x, y, rfl, _⟩ := h
    rfl
  · obtain ⟨x, y, rfl, h⟩ := h
    refine ⟨_, (pss_cons (ps_if (pt_not (pt_val (pe_callB call_isd (by rfl) T.isinstance (by decide +kernel) (pa_cons (pv 0) (pa_cons (gl_c (v := .ref C) (by rfl) ⟨_, hmB, rfl⟩) pa_nil))))) (pss_one (ps_raise rfl (takes_of rfl rfl rfl rfl) (pmk_x rfl (pe_mke (ns := ["value"]) XB (hr.mono (by decide)) (by rfl) (pa_cons (pv 0) pa_nil))))) pss_nil)
      (pss_one (ps_expr (pe_ctr (pv 0) CR hr hG (by decide) (takes_of rfl rfl rfl rfl) (pa_cons (pv 1) pa_nil))))), ?_⟩
    rcases h with ⟨hx, q⟩ | ⟨p, fp, rs, k, rfl, hx, hB, hv, q1, q2⟩
    · refine ⟨_, rfl, _, _, _, _, rfl, .own _, hx, _, rfl, ?_⟩
      exact iteT ⟨_, rfl, raise_e hTB (Same.refl _) rfl (by decide) fun H' dd fs s he hf => q H' dd fs s he (hf 0 "value" x rfl rfl)⟩
    · refine ⟨_, rfl, _, _, _, _, rfl, .own _, hx, _, rfl, ?_⟩
      refine iteF ?_
      dsimp only [tNext]
      obtain ⟨dx, gs, g0, a6⟩ := hB.there
      refine ⟨_, rfl, p, dx, gs, rfl, g0, a6 _ (by decide), _, rfl, ?_⟩
      exact ⟨p, fp, rs, y, k, rfl, hB, hv, q1, q2⟩
end
end T56
set_option Elab.async false
set_option linter.all false
set_option maxRecDepth 100000
set_option maxHeartbeats 4000000
namespace T56
open PySem PySem.Spec PyProof.Rows L2 Tp
section
variable {P : Program} {w : World} {K : PySem.W.Frag} {mg : Str → Option Value} {base : Heap} {f : Addr} {fd : FuncData}
def lookM (m : List (Int × Int)) (j : Int) : Int := ((m.find? fun q => decide (q.1 = j)).map (·.2)).getD 0
def kvM (m : List (Int × Int)) : List (Key × V) := m.map fun q => (Sum.inl q.1, V.int q.2)
theorem valM : ∀ (m : List (Int × Int)) (j : Int), j ∈ m.map (·.1) → valV (kvM m) (Sum.inl j) = some (.int (lookM m j))
  | [], j, h => absurd h List.not_mem_nil
  | (a, b) :: m, j, h => by
    have ih := valM m j
    unfold valV kvM lookM at ih ⊢
    rw [List.map_cons, List.find?_cons, List.find?_cons]
    by_cases e : a = j
    · subst e
      simp
    · have e1 : (decide ((Sum.inl a : Key) = Sum.inl j)) = false := decide_eq_false fun h => e (Sum.inl.inj h)
      have e2 : decide (a = j) = false := decide_eq_false e
      dsimp only
      rw [e1, e2]
      rcases List.mem_cons.mp h with z | z
      · exact absurd z.symm e
      · exact ih z
theorem putM {m : List (Int × Int)} {j v : Int} (h : j ∉ m.map (·.1)) : putK (kvM m) (Sum.inl j) (V.int v) = kvM (m ++ [(j, v)]) := by
  unfold putK
  rw [if_neg]
  · unfold kvM
    rw [List.map_append]
    rfl
  · intro e
    obtain ⟨q, hq, e⟩ := List.any_eq_true.mp e
    obtain ⟨j', hj, rfl⟩ := List.mem_map.mp hq
    have := Sum.inl.inj (of_decide_eq_true e)
    exact h (this ▸ List.mem_map.mpr ⟨j', hj, rfl⟩)
/-- the places of a term's parts among other rows; none if one has no place -/
def sameF (rs qs : List RowK) : List Int → List (Int × Int) → Option (List (Int × Int))
  | [], m => some m
  | part :: ps, m => match rs[part.toNat]? with
    | some k => if hasR qs (movR (lookM m) k) = true then sameF rs qs ps (m ++ [(part, ((posR qs (movR (lookM m) k) : Nat) : Int))]) else none
    | none => some m
def sameB (rs qs : List RowK) (ys : List Int) (i j : Nat) : Bool := match sameF rs qs ys [] with
  | none => false
  | some m => decide (lookM m i = j)
def PartsOf (rs : List RowK) (i : Nat) (ys : List Int) : Prop := ys.Pairwise (· < ·) ∧ ∀ j : Int, j ∈ ys ↔ ∃ n : Nat, j = n ∧ Reach rs i n
theorem reach_lt {rs : List RowK} (hR : OkRows rs) {i n : Nat} (h : Reach rs i n) : n ≤ i := by
  induction h with
  | refl => exact Nat.le_refl _
  | step h hk hm ih =>
    obtain ⟨t, e, ht⟩ := args_ok hR hk hm
    omega
/-- the arguments of a part stand ahead of it -/
theorem args_before {rs : List RowK} (hR : OkRows rs) {i : Nat} {ys : List Int} (h : PartsOf rs i ys) {t n : Nat} {k : RowK} (ht : ys[t]? = some (n : Int)) (hk : rs[n]? = some k) {m : Int} (hm : m ∈ argsK k) : m ∈ ys.take t := by
  obtain ⟨a, ea, hlt⟩ := args_ok hR hk hm
  obtain ⟨n', e, hr⟩ := (h.2 _).mp (List.mem_of_getElem? ht)
  have e' : n = n' := by omega
  subst e'
  have hmy : m ∈ ys := (h.2 m).mpr ⟨a, ea, .step hr hk (ea ▸ hm)⟩
  obtain ⟨u, hu, eu⟩ := List.getElem_of_mem hmy
  have htl := (List.getElem?_eq_some_iff.mp ht)
  obtain ⟨h1, h2⟩ := htl
  have hp := List.pairwise_iff_getElem.mp h.1
  have hut : u < t := by
    rcases Nat.lt_trichotomy u t with z | z | z
    · exact z
    · subst z
      omega
    · have := hp t u h1 hu z
      omega
  exact List.mem_iff_getElem?.mpr ⟨u, by rw [List.getElem?_take, if_pos hut, List.getElem?_eq_getElem hu, eu]⟩
def spSame (P : Program) (w : World) (K : PySem.W.Frag) (C CB CU : Addr) : Sp := fun vs H Q E => ∃ (x nx y ny : V), vs = [x, nx, y, ny] ∧
  ((IsR K H x (.ref C) false ∧ Rsd E H CB "value" x) ∨ ∃ (p : Addr) (fp : List Addr) (rs : List RowK) (kx : String), x = .ref p ∧ IsR K H x (.ref C) true ∧ BookAt P w K H C p fp rs ∧ Vk K H nx kx ∧ (numV rs.length nx = false → Rsd E H CU "number" nx) ∧
    (numV rs.length nx = true → (IsR K H y (.ref C) false ∧ Rsd E H CB "value" y) ∨ ∃ (q : Addr) (fq : List Addr) (qs : List RowK) (ky : String), y = .ref q ∧ IsR K H y (.ref C) true ∧ BookAt P w K H C q fq qs ∧ Vk K H ny ky ∧ (numV qs.length ny = false → Rsd E H CU "number" ny) ∧ rs.length < 64 ∧
      ∀ i j : Nat, nx = .int (i : Nat) → ny = .int (j : Nat) → i < rs.length → j < qs.length → ∀ ys H', PartsOf rs i ys → Same H H' → Q (.bl (sameB rs qs ys i j)) H'))

abbrev sSm : Stmt := top 39
abbrev nSm : List Str := ["book", "number", "other", "other_number", "places", "part", "row"]
theorem scSm : FnScope nSm ["book", "number", "other", "other_number"] (defScope sSm) := ⟨rfl, rfl, rfl, by decide +kernel, rfl, by decide +kernel, by decide +kernel⟩

theorem hu65 {k : Nat} {A : Around} (hr : Room k A) : A.units + 65 < cLine := by
  have := hr.un
  omega
theorem ok_same {C CB CU : Addr} (F : Fun K "same_term" "same_term" sSm f fd) (TB : TxtBk K C) (RT : Cgr P w K mg base 5 "_require_term" [] (spReqT P w K C CB CU)) (MV : Cg P w K mg base 2 "moved_row" (spMoved K)) (PA : Ctr P w K mg base 5 C "parts" [] (spParts P w K C CU)) : FnG P w K mg base (L2.CX P w) 6 f fd ["book", "number", "other", "other_number"] (spSame P w K C CB CU) := by
  refine FunG.okX F scSm (fun vs H Q E h => ?_) (fun cdv B out s H vs Q E hr hG h => ?_)
  · obtain ⟨x, nx, y, ny, rfl, _⟩ := h
    rfl
  · obtain ⟨x, nx, y, ny, rfl, h⟩ := h
    refine ⟨_, (pss_cons (ps_expr (pe_cgr RT hr hG (by decide) (takes_of rfl rfl rfl rfl) (by rfl) (pa_cons (pv 0) (pa_cons (pv 1) pa_nil))))
      (pss_cons (ps_expr (pe_cgr RT hr hG (by decide) (takes_of rfl rfl rfl rfl) (by rfl) (pa_cons (pv 2) (pa_cons (pv 3) pa_nil))))
      (pss_cons (ps_set (i := 4) scSm.nd rfl (.inl rfl) pe_dnewK)
      (pss_cons (ps_for (passes_of rfl) rfl (pi_list (pe_ctr (pv 0) PA hr hG (by decide) (takes_of rfl rfl rfl rfl) (pa_cons (pv 1) pa_nil))) (pg_name (i := 5) scSm.nd rfl (Or.inl rfl)) (pss_cons (ps_set (i := 6) scSm.nd rfl (.inl rfl) (pe_g MV hr hG (by decide) (by rfl) (pa_cons (pe_ix ix_list (pe_fld (pv 0) rfl) (pv 5) fun _ _ => rfl) (pa_cons (pv 4) pa_nil))))
        (pss_cons (ps_if (pt_cmpR (op_rnotIn (hu65 hr)) (pv 6) (pe_fld (pv 2) rfl) rfl) (pss_one (ps_ret pe_bl)) pss_nil)
        (pss_one (ps_dput (hu1 hr) (pv 4) (pv 5) (pe_rget (hu65 hr) (pe_fld (pv 2) rfl) (pv 6) (fun _ _ => rfl)) rfl)))))
      (pss_one (ps_ret (pe_cmpR op_eq (pe_dget (hu1 hr) (pv 4) (pv 1) (fun _ _ => rfl)) (pv 3) (nomark _)))))))), ?_⟩
    rcases h with h | ⟨p, fp, rs, kx, rfl, hx, hB, hv, q1, q2⟩
    · exact ⟨_, rfl, _, rfl, x, nx, rfl, .inl h⟩
    refine ⟨_, rfl, _, rfl, _, nx, rfl, .inr ⟨p, fp, rs, kx, rfl, hx, hB, hv, fun e1 => ?_, q1⟩⟩
    rcases q2 e1 with h | ⟨q, fq, qs, ky, rfl, hy, hC, hw, r1, hlt, r2⟩
    · exact ⟨_, rfl, _, rfl, y, ny, rfl, .inl h⟩
    refine ⟨_, rfl, _, rfl, _, ny, rfl, .inr ⟨q, fq, qs, ky, rfl, hy, hC, hw, fun e2 => ?_, r1⟩⟩
    obtain ⟨i, rfl, hi⟩ : ∃ i : Nat, nx = .int (i : Nat) ∧ i < rs.length := by
      cases nx with
      | int a =>
        obtain ⟨a0, a1⟩ := of_decide_eq_true e1
        exact ⟨a.toNat, by rw [Int.toNat_of_nonneg a0], by omega⟩
      | _ => cases e1
    obtain ⟨j, rfl, hj⟩ : ∃ j : Nat, ny = .int (j : Nat) ∧ j < qs.length := by
      cases ny with
      | int a =>
        obtain ⟨a0, a1⟩ := of_decide_eq_true e2
        exact ⟨a.toNat, by rw [Int.toNat_of_nonneg a0], by omega⟩
      | _ => cases e2
    have r3 := r2 i j rfl rfl hi hj
    clear r2 q1 r1 q2
    obtain ⟨hR0⟩ : Nonempty (OkRows rs) := by
      obtain ⟨dx, l1, d, l2, l3, l4, as, fs, _, nd, h0, a1, a2, a3, a4, a5, a6, b1, b2, h1, h2, h3, h4, h5, b3, b4, b5⟩ := hB.ex
      exact ⟨b4⟩
    have hR : OkRows rs := hR0
    refine fun z hz => ?_
    have s1 : Same H (upd H z (.dK [])) := Same.put hz
    have t1 : (upd H z (.dK [])) z = some (.dK (kvM [])) := upd_same
    generalize upd H z (.dK []) = H1 at s1 t1 ⊢
    dsimp only [gName]
    have hB1 := hB.up s1
    obtain ⟨dx, gs, g0, a6⟩ := hB1.there
    refine ⟨_, rfl, p, dx, gs, rfl, g0, a6 _ (by decide), _, rfl, ?_⟩
    refine ⟨p, fp, rs, _, "int", rfl, hB1, hlt, vk_int _, fun e => absurd e1 (by rw [e]; decide), fun i' ei hi' ys l H2 s2 hl hln pw hre => ?_⟩
    have ei' : i = i' := by
      have := V.int.inj ei
      omega
    subst ei'
    have hP : PartsOf rs i ys := ⟨pw, hre⟩
    have t2 := s2 _ _ t1
    have s12 := Same.tr s1 s2
    have hzl : z ≠ l := ne_of_none t1 hln
    have hlH : H l = none := by
      cases e : H l with
      | none => rfl
      | some o => rw [s1 _ _ e] at hln; cases hln
    refine ⟨l, rfl, ⟨_, SqL.of hl⟩, ?_⟩
    refine for_list (xs := ys.map V.int) (fun t σ' M => Same H M ∧ M l = some (.lst (ys.map V.int)) ∧ ∃ m o5 o6, σ' = [some (.ref p), some (.int (i : Nat)), some (.ref q), some (.int (j : Nat)), some (.ref z), o5, o6] ∧ M z = some (.dK (kvM m)) ∧ m.map (·.1) = ys.take t ∧ sameF rs qs (ys.drop t) m = sameF rs qs ys [])
      ⟨s12, hl, [], _, _, rfl, t2, rfl, rfl⟩ (fun _ _ _ _ h => SqL.of h.2.1) ?_ ?_
    · rintro t v σ' M hx ⟨sM, ml, m, o5, o6, rfl, mz, mk, hF⟩
      rw [List.getElem?_map] at hx
      obtain ⟨part, hp, rfl⟩ := Option.map_eq_some_iff.mp hx
      obtain ⟨n, rfl, hr⟩ := (hre part).mp (List.mem_of_getElem? hp)
      have hni := reach_lt hR hr
      have hnl : n < rs.length := by omega
      obtain ⟨k, hk⟩ : ∃ k, rs[n]? = some k := ⟨_, List.getElem?_eq_getElem hnl⟩
      have hBM := hB.up sM
      have hCM := hC.up sM
      obtain ⟨dx1, l1, d, l2, l3, l4, as, fs, _, nd, h0, a1, a2, a3, a4, a5, a6', b1, b2, h1, h2, h3, h4, h5, b3, b4, b5⟩ := hBM.ex
      obtain ⟨a0, ha0⟩ : ∃ a0, as[n]? = some a0 := ⟨_, List.getElem?_eq_getElem (show n < as.length by omega)⟩
      have hA := b2 n k a0 hk ha0
      have hok := hR n k hk
      obtain ⟨k1, k2⟩ := name_ok hok.1
      have hl3 : (argsK k).length ≤ 3 := by
        have := hok.2
        obtain ⟨z, r⟩ := k
        cases r with
        | inl a => exact Nat.zero_le _
        | inr ns => exact this.1
      have hfst : ∀ x ∈ argsK k, valV (kvM m) (Sum.inl x) = some (.int (lookM m x)) := fun x hx => valM m x (by rw [mk]; exact args_before hR hP hp hk hx)
      refine ⟨_, rfl, p, C, dx1, fs, _, rfl, h0, TB.cl, TB.no _ (by simp), a1, _, rfl, l1, _, _, .ref a0, rfl, rfl, SqL.of h1, atI_nat (j := n) (by rw [List.getElem?_map, ha0]; rfl), ?_⟩
      obtain ⟨hit, eit⟩ := List.getElem?_eq_some_iff.mp hp
      have hdr : ys.drop t = (n : Int) :: ys.drop (t + 1) := by rw [List.drop_eq_getElem_cons hit, eit]
      rw [hdr] at hF
      have hnt : (n : Int) ∉ m.map (·.1) := fun h => by
        rw [mk] at h
        obtain ⟨u, hu, eu⟩ := List.getElem_of_mem h
        rw [List.length_take] at hu
        rw [List.getElem_take] at eu
        have := List.pairwise_iff_getElem.mp pw u t (by omega) hit (by omega)
        omega
      have hml : m.length ≤ rs.length := by
        have e : m.length = (m.map (·.1)).length := by rw [List.length_map]
        rw [e, mk]
        have h1 : (ys.take t).length ≤ ys.length := by rw [List.length_take]; omega
        have h2 : ys.Nodup := pw.imp fun h => by omega
        have h3 : ys.length ≤ rs.length := by
          have hs : ys ⊆ (List.range rs.length).map fun n : Nat => (n : Int) := fun y hy => by
            obtain ⟨n, rfl, h⟩ := (hre y).mp hy
            have := reach_lt hR h
            exact List.mem_map.mpr ⟨n, List.mem_range.mpr (by omega), rfl⟩
          have := sub_leG h2 fun y hy => hs hy
          rwa [List.length_map, List.length_range] at this
        omega
      refine ⟨_, rfl, ?_⟩
      refine ⟨a0, z, k, lookM m, kvM m, rfl, hA, mz, by omega, hl3, hfst, fun r G sG hr' => ?_⟩
      dsimp only [gName]
      have hCG := hCM.up sG
      have mzG := sG _ _ mz
      obtain ⟨dx2, c1, c, c2, c3, c4, cs, hs, _, cnd, g0, f1, f2, f3, f4, f5, f6, u1, u2, w1, w2, w3, w4, w5, u3, u4, u5⟩ := hCG.ex
      have hin : RowsIn K G (entR 0 qs cs) := rowsIn_of u1 u2
      have hRI : RowIn P w K G (.ref r) (.ref c) (entR 0 qs cs) (movR (lookM m) k) r c := ⟨rfl, rfl, w2, hin, hr'⟩
      refine ⟨_, rfl, _, rfl, q, C, dx2, hs, _, rfl, g0, TB.cl, TB.no _ (by simp), f2, _, _, _, _, hRI, ?_⟩
      rw [find_has u1]
      have sFe : sameF rs qs ((n : Int) :: ys.drop (t + 1)) m = if hasR qs (movR (lookM m) k) = true then sameF rs qs (ys.drop (t + 1)) (m ++ [((n : Int), ((posR qs (movR (lookM m) k) : Nat) : Int))]) else none := by
        show (match rs[((n : Int)).toNat]? with | some k => _ | none => _) = _
        rw [Int.toNat_natCast, hk]
      rw [sFe] at hF
      by_cases hh : hasR qs (movR (lookM m) k) = true
      · rw [if_pos hh] at hF
        rw [hh]
        refine ⟨_, rfl, iteF ?_⟩
        dsimp only [tNext]
        obtain ⟨o1, o2, o3⟩ := posR_old hh
        have hfd := findR_some 0 qs cs _ _ u1.symm o2 o3
        rw [Nat.zero_add] at hfd
        refine ⟨_, rfl, q, C, dx2, hs, _, rfl, g0, TB.cl, TB.no _ (by simp), f2, _, rfl, _, _, _, _, _, hRI, hfd, ?_⟩
        refine ⟨_, rfl, _, rfl, z, _, rfl, .inl ⟨_, Sum.inl (n : Int), mzG, rfl, (by unfold kvM; rw [List.length_map, PySem.sizeLine_eq]; omega), rfl⟩, ?_⟩
        rw [putM hnt]
        refine ⟨fun c o e => (upd_ne (ne_of_none e hz)).trans (Same.tr sM sG c o e), (upd_ne hzl.symm).trans (sG _ _ ml), _, _, _, rfl, upd_same, ?_, hF⟩
        rw [List.map_append, mk, List.take_add_one, hp]
        rfl
      · rw [if_neg hh] at hF
        have hh' : hasR qs (movR (lookM m) k) = false := by
          cases e : hasR qs (movR (lookM m) k) with
          | true => exact absurd e hh
          | false => rfl
        rw [hh']
        refine ⟨_, rfl, iteT ?_⟩
        have := r3 ys G hP (Same.tr sM sG)
        rw [show sameB rs qs ys i j = false from by unfold sameB; rw [← hF]] at this
        exact this
    · rintro σ' M ⟨sM, ml, m, o5, o6, rfl, mz, mk, hF⟩
      rw [List.length_map] at mk hF
      rw [List.drop_length] at hF
      rw [List.take_length] at mk
      have hmi : (i : Int) ∈ m.map (·.1) := by
        rw [mk]
        exact (hre _).mpr ⟨i, rfl, .refl⟩
      have hb : sameB rs qs ys i j = decide (lookM m i = j) := by
        unfold sameB
        rw [← hF]
        rfl
      have := r3 ys M hP sM
      rw [hb] at this
      refine ⟨_, rfl, _, rfl, z, _, rfl, .inl ⟨_, Sum.inl (i : Int), .inl mz, rfl, (valM m _ hmi).symm⟩, ?_⟩
      refine ⟨_, rfl, rfl, ?_⟩
      rw [dec_int]
      rwa [show (lookM m i == (j : Int)) = decide (lookM m i = j) from rfl]
end
end T56
set_option Elab.async false
set_option linter.all false
set_option maxRecDepth 100000
set_option maxHeartbeats 4000000
namespace T56
open PySem PySem.Spec PyProof.Rows L2 Tp
section
variable {P : Program} {w : World} {K : PySem.W.Frag} {mg : Str → Option Value} {base : Heap} {f : Addr} {fd : FuncData}
/-- the rows once the parts are carried, and where each went -/
def carF (rs : List RowK) : List Int → List RowK → List (Int × Int) → List RowK × List (Int × Int)
  | [], qs, m => (qs, m)
  | part :: ps, qs, m => match rs[part.toNat]? with
    | some k => carF rs ps (addR qs (movR (lookM m) k)) (m ++ [(part, ((posR qs (movR (lookM m) k) : Nat) : Int))])
    | none => (qs, m)
def spCarry (P : Program) (w : World) (K : PySem.W.Frag) (C CB CU : Addr) : Sp := fun vs H Q E => ∃ (q : Addr) (x nx : V), vs = [.ref q, x, nx] ∧
  ((IsR K H x (.ref C) false ∧ Rsd E H CB "value" x) ∨ ∃ (p : Addr) (fp fq : List Addr) (rs qs : List RowK) (kx : String), x = .ref p ∧ IsR K H x (.ref C) true ∧ BookAt P w K H C p fp rs ∧ BookAt P w K H C q fq qs ∧ Vk K H nx kx ∧ (numV rs.length nx = false → Rsd E H CU "number" nx) ∧ rs.length < 64 ∧ qs.length + rs.length < 5000 ∧
    ((p ∉ fq ∧ ∀ b ∈ fp, b ∉ fq) ∨ (p = q ∧ fp = fq ∧ rs = qs)) ∧
      ∀ i : Nat, nx = .int (i : Nat) → i < rs.length → ∀ ys H', PartsOf rs i ys → Frame fq H H' → BookAt P w K H' C q fq (carF rs ys qs []).1 → Q (.int (lookM (carF rs ys qs []).2 i)) H')

abbrev sCa : Stmt := inClass (top 38) 22
abbrev nCa : List Str := ["self", "other", "number", "parts", "places", "part"]
theorem scCa : FnScope nCa ["self", "other", "number"] (defScope sCa) := ⟨rfl, rfl, rfl, by decide +kernel, rfl, by decide +kernel, by decide +kernel⟩

theorem lookM_mem {m : List (Int × Int)} {x : Int} (h : x ∈ m.map (·.1)) : ∃ e ∈ m, e.1 = x ∧ lookM m x = e.2 := by
  unfold lookM
  cases e : m.find? (fun q => decide (q.1 = x)) with
  | none =>
    obtain ⟨e', he, rfl⟩ := List.mem_map.mp h
    have := List.find?_eq_none.mp e e' he
    simp at this
  | some a => exact ⟨a, List.mem_of_find?_eq_some e, by simpa using List.find?_some e, rfl⟩
theorem movR_ok {g : Int → Int} {k : RowK} {n m : Nat} (h : OkK n k) (hg : ∀ x ∈ argsK k, 0 ≤ g x ∧ g x < (m : Int)) : OkK m (movR g k) := by
  obtain ⟨z, r⟩ := k
  cases r with
  | inl t => exact ⟨h.1, h.2⟩
  | inr ns =>
    refine ⟨h.1, by show (ns.map g).length ≤ 3; rw [List.length_map]; exact h.2.1, fun i hi => ?_⟩
    obtain ⟨x, hx, rfl⟩ := List.mem_map.mp hi
    exact hg x hx
theorem movR_id {g : Int → Int} {k : RowK} (hg : ∀ x ∈ argsK k, g x = x) : movR g k = k := by
  obtain ⟨z, r⟩ := k
  cases r with
  | inl t => rfl
  | inr ns =>
    have e : ns.map g = ns := by
      have := List.map_congr_left (f := g) (g := id) (l := ns) hg
      rw [this, List.map_id]
    show (z, Sum.inr (ns.map g)) = (z, Sum.inr ns)
    rw [e]
theorem posR_lt (rs : List RowK) (k : RowK) : posR rs k < (addR rs k).length := by
  cases e : hasR rs k with
  | true =>
    obtain ⟨h1, h2, _⟩ := posR_old e
    rw [h1]
    exact (List.getElem?_eq_some_iff.mp h2).1
  | false =>
    obtain ⟨h1, h2⟩ := posR_new e
    rw [h1, h2, List.length_append, List.length_singleton]
    omega
theorem posR_at {rs : List RowK} {k : RowK} {n : Nat} (hn : rs.Nodup) (h : rs[n]? = some k) : addR rs k = rs ∧ posR rs k = n := by
  have e : hasR rs k = true := hasR_iff.mpr (List.mem_of_getElem? h)
  obtain ⟨h1, h2, _⟩ := posR_old e
  refine ⟨h1, ?_⟩
  exact (List.getElem?_inj (List.getElem?_eq_some_iff.mp h2).1 hn).mp (h2.trans h.symm)
theorem addR_len' (rs : List RowK) (k : RowK) : rs.length ≤ (addR rs k).length ∧ (addR rs k).length ≤ rs.length + 1 := by
  unfold addR
  split
  · exact ⟨Nat.le_refl _, Nat.le_succ _⟩
  · rw [List.length_append, List.length_singleton]
    exact ⟨Nat.le_succ _, Nat.le_refl _⟩
theorem bk_some {H : Hp} {C p : Addr} {fp : List Addr} {rs : List RowK} {w : World} (B : BookAt P w K H C p fp rs) {z : Addr} (hz : H z = none) : z ∉ fp := by
  obtain ⟨dx, l1, d, l2, l3, l4, as, fs, rfl, nd, h0, a1, a2, a3, a4, a5, a6, b1, b2, h1, h2, h3, h4, h5, b3, b4, b5⟩ := B.ex
  intro h
  simp only [List.mem_cons, List.not_mem_nil, or_false] at h
  rcases h with rfl | rfl | rfl | rfl | rfl
  · rw [h1] at hz; cases hz
  · rw [h2] at hz; cases hz
  · rw [h3] at hz; cases hz
  · rw [h4] at hz; cases hz
  · rw [h5] at hz; cases hz

theorem ok_carry {C CB CU : Addr} (F : Fun K "carry" "Book.carry" sCa f fd) (T : TxtV mg) (hmB : mg "Book" = some (.ref C)) (TB : TxtBk K C) (MV : Cg P w K mg base 2 "moved_row" (spMoved K)) (PA : Ctr P w K mg base 5 C "parts" [] (spParts P w K C CU)) (CE : Ct P w K mg base 3 C "_entered" [] (spEnt P w K C)) (XB : Cx1 P w K mg base "InvalidBook" CB 1 [] (spI CB ["value"]) (fun vs _ => vs)) : FnG P w K mg base (L2.CX P w) 6 f fd ["self", "other", "number"] (spCarry P w K C CB CU) := by
  have hTB : ExK K CB := XB.ex.choose_spec.choose_spec.choose_spec.choose_spec.1
  refine FunG.okX F scCa (fun vs H Q E h => ?_) (fun cdv B out s H vs Q E hr hG h => ?_)
  · obtain ⟨q, x, nx, rfl, _⟩ := h
    rfl
  · obtain ⟨q, x, nx, rfl, h⟩ := h
    refine ⟨_, (pss_cons (ps_if (pt_not (pt_val (pe_callB call_isd (by rfl) T.isinstance (by decide +kernel) (pa_cons (pv 1) (pa_cons (gl_c (v := .ref C) (by rfl) ⟨_, hmB, rfl⟩) pa_nil))))) (pss_one ((ps_raise rfl (takes_of rfl rfl rfl rfl) (pmk_x rfl (pe_mke (ns := ["value"]) XB (hr.mono (by decide)) (by rfl) (pa_cons (pv 1) pa_nil)))))) pss_nil)
      (pss_cons (ps_set (i := 3) scCa.nd rfl (.inl rfl) (pe_ctr (pv 1) PA hr hG (by decide) (takes_of rfl rfl rfl rfl) (pa_cons (pv 2) pa_nil)))
      (pss_cons (ps_set (i := 4) scCa.nd rfl (.inl rfl) pe_dnewK)
      (pss_cons (ps_for (passes_of rfl) rfl (pi_list (pv 3)) (pg_name (i := 5) scCa.nd rfl (Or.inl rfl)) (pss_one (ps_dput (hu1 hr) (pv 4) (pv 5) (pe_ct (pv 0) CE hr hG (by decide) (pa_cons (pe_g MV hr hG (by decide) (by rfl) (pa_cons (pe_ix ix_list (pe_fld (pv 1) rfl) (pv 5) fun _ _ => rfl) (pa_cons (pv 4) pa_nil))) pa_nil)) rfl)))
      (pss_one (ps_ret (pe_dget (hu1 hr) (pv 4) (pv 2) (fun _ _ => rfl)))))))), ?_⟩
    rcases h with ⟨hx, e⟩ | ⟨p, fp, fq, rs, qs, kx, rfl, hx, hB, hC, hv, q1, hlt, hsz, hAB, q2⟩
    · refine ⟨_, rfl, _, _, _, _, rfl, .own _, hx, _, rfl, ?_⟩
      exact iteT ⟨_, rfl, raise_e hTB (Same.refl _) rfl (by decide) fun H' dd fs s he hf => e H' dd fs s he (hf 0 "value" x rfl rfl)⟩
    refine ⟨_, rfl, _, _, _, _, rfl, .own _, hx, _, rfl, ?_⟩
    refine iteF ?_
    dsimp only [tNext]
    obtain ⟨dx, gs, g0, a6⟩ := hB.there
    refine ⟨_, rfl, p, dx, gs, rfl, g0, a6 _ (by decide), _, rfl, ?_⟩
    refine ⟨p, fp, rs, _, kx, rfl, hB, hlt, hv, q1, fun i ei hi ys l H1 s1 hl hln pw hre => ?_⟩
    subst ei
    have hP : PartsOf rs i ys := ⟨pw, hre⟩
    have q3 := fun H' => q2 i rfl hi ys H' hP
    clear q2 q1
    obtain ⟨hR0⟩ : Nonempty (OkRows rs ∧ rs.Nodup) := by
      obtain ⟨dx, l1, d, l2, l3, l4, as, fs, _, nd, h0, a1, a2, a3, a4, a5, a6, b1, b2, h1, h2, h3, h4, h5, b3, b4, b5⟩ := hB.ex
      exact ⟨b4, b3⟩
    have hR : OkRows rs := hR0.1
    dsimp only [gName]
    refine fun z hz1 => ?_
    have hz : H z = none := by
      cases e : H z with
      | none => rfl
      | some o => rw [s1 _ _ e] at hz1; cases hz1
    have hlq : l ∉ fq := bk_some hC hln
    have hzq : z ∉ fq := bk_some hC hz
    have hlz : l ≠ z := ne_of_none hl hz1
    have s2 : Same H1 (upd H1 z (.dK [])) := Same.put hz1
    have t2 : (upd H1 z (.dK [])) z = some (.dK (kvM [])) := upd_same
    have hl2 := s2 _ _ hl
    generalize upd H1 z (.dK []) = H2 at s2 t2 hl2 ⊢
    have s12 := Same.tr s1 s2
    dsimp only [gName]
    refine ⟨_, rfl, l, rfl, ⟨_, SqL.of hl2⟩, ?_⟩
    refine for_list (xs := ys.map V.int) (fun t σ' M => Tp.Frame fq H M ∧ M l = some (.lst (ys.map V.int)) ∧ ∃ m cur o5, σ' = [some (.ref q), some (.ref p), some (.int (i : Nat)), some (.ref l), some (.ref z), o5] ∧ M z = some (.dK (kvM m)) ∧ m.map (·.1) = ys.take t ∧ carF rs (ys.drop t) cur m = carF rs ys qs [] ∧ BookAt P w K M C q fq cur ∧ BookAt P w K M C p fp rs ∧ (∀ e ∈ m, 0 ≤ e.2 ∧ e.2 < (cur.length : Int)) ∧ cur.length ≤ qs.length + m.length ∧ (p = q → cur = rs ∧ ∀ e ∈ m, e.1 = e.2))
      ⟨Frame.of s12, hl2, [], qs, _, rfl, t2, rfl, rfl, hC.up s12, hB.up s12, fun e he => absurd he List.not_mem_nil, Nat.le_refl _, fun e => ⟨?_, fun e he => absurd he List.not_mem_nil⟩⟩ (fun _ _ _ _ h => SqL.of h.2.1) ?_ ?_
    · rcases hAB with ⟨h1, h2⟩ | ⟨h1, h2, h3⟩
      · obtain ⟨dx', l1, d, l2, l3, l4, as, fs, ef, nd, h0, a1, _⟩ := hB.ex
        obtain ⟨dx2, m1, d', m2, m3, m4, cs, hs, eq, cnd, h0', f1, _⟩ := hC.ex
        rw [e, h0'] at h0
        have e1 := congrArg (fun o => o) h0
        simp only [Option.some.injEq, HO.ins.injEq] at e1
        obtain ⟨_, _, rfl⟩ := e1
        rw [f1] at a1
        have e2 : m1 = l1 := V.ref.inj (Option.some.inj a1)
        subst e2
        exact absurd (show m1 ∈ fq by rw [eq]; exact List.mem_cons_self) (h2 _ (by rw [ef]; exact List.mem_cons_self))
      · exact h3.symm
    · rintro t v σ' M hx ⟨fM, ml, m, cur, o5, rfl, mz, mk, hF, hCM, hBM, hbd, hle, hsf⟩
      rw [List.getElem?_map] at hx
      obtain ⟨part, hp, rfl⟩ := Option.map_eq_some_iff.mp hx
      obtain ⟨n, rfl, hr'⟩ := (hre part).mp (List.mem_of_getElem? hp)
      have hni := reach_lt hR hr'
      have hnl : n < rs.length := by omega
      obtain ⟨k, hk⟩ : ∃ k, rs[n]? = some k := ⟨_, List.getElem?_eq_getElem hnl⟩
      have hBM0 := hBM
      obtain ⟨dx1, l1, d, l2, l3, l4, as, fs, ef, nd, h0, a1, a2, a3, a4, a5, a6', b1, b2, h1, h2, h3, h4, h5, b3, b4, b5⟩ := hBM.ex
      obtain ⟨a0, ha0⟩ : ∃ a0, as[n]? = some a0 := ⟨_, List.getElem?_eq_getElem (show n < as.length by omega)⟩
      have hA := b2 n k a0 hk ha0
      have hok := hR n k hk
      obtain ⟨k1, k2⟩ := name_ok hok.1
      have hl3 : (argsK k).length ≤ 3 := by
        have := hok.2
        obtain ⟨z, r⟩ := k
        cases r with
        | inl a => exact Nat.zero_le _
        | inr ns => exact this.1
      have hkey : ∀ x ∈ argsK k, x ∈ m.map (·.1) := fun x hx => by rw [mk]; exact args_before hR hP hp hk hx
      have hfst : ∀ x ∈ argsK k, valV (kvM m) (Sum.inl x) = some (.int (lookM m x)) := fun x hx => valM m x (hkey x hx)
      obtain ⟨hit, eit⟩ := List.getElem?_eq_some_iff.mp hp
      have hdr : ys.drop t = (n : Int) :: ys.drop (t + 1) := by rw [List.drop_eq_getElem_cons hit, eit]
      rw [hdr] at hF
      have hnt : (n : Int) ∉ m.map (·.1) := fun h => by
        rw [mk] at h
        obtain ⟨u, hu, eu⟩ := List.getElem_of_mem h
        rw [List.length_take] at hu
        rw [List.getElem_take] at eu
        have := List.pairwise_iff_getElem.mp pw u t (by omega) hit (by omega)
        omega
      have hml : m.length < rs.length := by
        have e : m.length = (m.map (·.1)).length := by rw [List.length_map]
        have h1 : (ys.take t).length = t := by rw [List.length_take]; omega
        rw [e, mk, h1]
        have h2 : ys.Nodup := pw.imp fun h => by omega
        have h3 : ys.length ≤ rs.length := by
          have hs : ∀ y ∈ ys, y ∈ (List.range rs.length).map fun n : Nat => (n : Int) := fun y hy => by
            obtain ⟨n, rfl, h⟩ := (hre y).mp hy
            have := reach_lt hR h
            exact List.mem_map.mpr ⟨n, List.mem_range.mpr (by omega), rfl⟩
          have := sub_leG h2 hs
          rwa [List.length_map, List.length_range] at this
        omega
      obtain ⟨dx2, fs2, g2, a62⟩ := hCM.there
      refine ⟨_, rfl, q, dx2, fs2, rfl, g2, a62 _ (by decide), ?_⟩
      refine ⟨_, rfl, p, C, dx1, fs, _, rfl, h0, TB.cl, TB.no _ (by simp), a1, _, rfl, l1, _, _, .ref a0, rfl, rfl, SqL.of h1, atI_nat (j := n) (by rw [List.getElem?_map, ha0]; rfl), ?_⟩
      refine ⟨_, rfl, ?_⟩
      refine ⟨a0, z, k, lookM m, kvM m, rfl, hA, mz, by omega, hl3, hfst, fun r G sG hrow => ?_⟩
      dsimp only [tNil]
      have hCG := hCM.up sG
      have hBG := hBM0.up sG
      have hokr : OkK cur.length (movR (lookM m) k) := movR_ok hok fun x hx => by
        obtain ⟨e, he, _, e2⟩ := lookM_mem (hkey x hx)
        rw [e2]
        exact hbd e he
      refine ⟨q, r, fq, cur, movR (lookM m) k, rfl, hCG, hrow, hokr, by omega, fun G2 fG hB2 => ?_⟩
      have sFe : carF rs ((n : Int) :: ys.drop (t + 1)) cur m = carF rs (ys.drop (t + 1)) (addR cur (movR (lookM m) k)) (m ++ [((n : Int), ((posR cur (movR (lookM m) k) : Nat) : Int))]) := by
        show (match rs[((n : Int)).toNat]? with | some k => _ | none => _) = _
        rw [Int.toNat_natCast, hk]
      rw [sFe] at hF
      have hmov : p = q → movR (lookM m) k = k := fun e => movR_id fun x hx => by
        obtain ⟨e', he, e1, e2⟩ := lookM_mem (hkey x hx)
        rw [e2, ← (hsf e).2 e' he, e1]
      have hat : p = q → addR cur (movR (lookM m) k) = rs ∧ posR cur (movR (lookM m) k) = n := fun e => by
        rw [hmov e, (hsf e).1]
        exact posR_at hR0.2 hk
      have hBk : BookAt P w K G2 C p fp rs := by
        rcases hAB with ⟨x1, x2⟩ | ⟨x1, x2, x3⟩
        · exact hBG.fr fG hCG.notTup x1 x2
        · have := (hat x1).1
          rw [this] at hB2
          rw [x1, x2]
          exact hB2
      have mzG := fG _ _ hzq (sG _ _ mz)
      have mlG := fG _ _ hlq (sG _ _ ml)
      have hal := addR_len' cur (movR (lookM m) k)
      have hpl := posR_lt cur (movR (lookM m) k)
      refine ⟨_, rfl, _, rfl, z, _, rfl, .inl ⟨_, Sum.inl (n : Int), mzG, rfl, (by unfold kvM; rw [List.length_map, PySem.sizeLine_eq]; omega), rfl⟩, ?_⟩
      rw [putM hnt]
      have fz : Tp.Frame [z] G2 (upd G2 z (.dK (kvM (m ++ [((n : Int), ((posR cur (movR (lookM m) k) : Nat) : Int))])))) := Frame.put (by simp)
      have nz : ∀ b ∈ [z], NotTup G2 b := fun b hb => by
        rw [List.mem_singleton.mp hb]
        intro ys r
        rcases r with r | ⟨o, r⟩
        · rw [mzG] at r; cases r
        · rw [mzG] at r; cases r
      have zne : ∀ {b : Addr} {o : HO}, H b = some o → b ≠ z := fun e h => by rw [h, hz] at e; cases e
      obtain ⟨dp, gp, hp0, _⟩ := hB.there
      obtain ⟨dq, gq, hq0, _⟩ := hC.there
      have zfp : z ∉ fp := bk_some hB hz
      refine ⟨fun b o hb e => ?_, (upd_ne hlz).trans mlG, _, _, _, rfl, upd_same, ?_, hF, ?_, ?_, fun e he => ?_, ?_, fun e => ⟨(hat e).1, fun e' he => ?_⟩⟩
      · exact (upd_ne (zne e)).trans (fG b o hb (sG _ _ (fM b o hb e)))
      · rw [List.map_append, mk, List.take_add_one, hp]
        rfl
      · exact hB2.fr fz nz (fun h => zne hq0 (List.mem_singleton.mp h)) fun b hb h => hzq (by rw [← List.mem_singleton.mp h]; exact hb)
      · exact hBk.fr fz nz (fun h => zne hp0 (List.mem_singleton.mp h)) fun b hb h => zfp (by rw [← List.mem_singleton.mp h]; exact hb)
      · rcases List.mem_append.mp he with h | h
        · have := hbd e h
          omega
        · rw [List.mem_singleton.mp h]
          dsimp only
          omega
      · rw [List.length_append, List.length_singleton]
        omega
      · rcases List.mem_append.mp he with h | h
        · exact (hsf e).2 e' h
        · rw [List.mem_singleton.mp h]
          dsimp only
          rw [(hat e).2]
    · rintro σ' M ⟨fM, ml, m, cur, o5, rfl, mz, mk, hF, hCM, hBM, hbd, hle, hsf⟩
      rw [List.length_map] at mk hF
      rw [List.drop_length] at hF
      rw [List.take_length] at mk
      have hmi : (i : Int) ∈ m.map (·.1) := by
        rw [mk]
        exact (hre _).mpr ⟨i, rfl, .refl⟩
      have hF' : carF rs ys qs [] = (cur, m) := hF.symm
      rw [hF'] at q3
      refine ⟨_, rfl, _, rfl, z, _, rfl, .inl ⟨_, Sum.inl (i : Int), .inl mz, rfl, (valM m _ hmi).symm⟩, ?_⟩
      exact q3 M fM hCM
end
end T56
set_option Elab.async false
set_option linter.all false
set_option maxRecDepth 100000
set_option maxHeartbeats 4000000
namespace T56
open PySem PySem.Spec PyProof.Rows L2 Tp
/-! the law's side: what same_term tells is where carry would put the term -/
theorem same_some {rs qs : List RowK} : ∀ {ps : List Int} {m m' : List (Int × Int)}, (∀ p ∈ ps, p.toNat < rs.length) → sameF rs qs ps m = some m' → carF rs ps qs m = (qs, m')
  | [], m, m', _, h => by
    cases h
    rfl
  | part :: ps, m, m', hp, h => by
    obtain ⟨k, hk⟩ : ∃ k, rs[part.toNat]? = some k := ⟨_, List.getElem?_eq_getElem (hp part List.mem_cons_self)⟩
    have e1 : sameF rs qs (part :: ps) m = if hasR qs (movR (lookM m) k) = true then sameF rs qs ps (m ++ [(part, ((posR qs (movR (lookM m) k) : Nat) : Int))]) else none := by
      show (match rs[part.toNat]? with | some k => _ | none => _) = _
      rw [hk]
    have e2 : carF rs (part :: ps) qs m = carF rs ps (addR qs (movR (lookM m) k)) (m ++ [(part, ((posR qs (movR (lookM m) k) : Nat) : Int))]) := by
      show (match rs[part.toNat]? with | some k => _ | none => _) = _
      rw [hk]
    rw [e1] at h
    by_cases hh : hasR qs (movR (lookM m) k) = true
    · rw [if_pos hh] at h
      rw [e2, (posR_old hh).1]
      exact same_some (fun p hp' => hp p (List.mem_cons_of_mem _ hp')) h
    · rw [if_neg hh] at h
      cases h
/-- carried into its own book, a term keeps its number -/
theorem carF_self {rs : List RowK} (hn : rs.Nodup) (hR : OkRows rs) : ∀ {ps : List Int} {m : List (Int × Int)}, (∀ e ∈ m, e.1 = e.2) → (∀ p ∈ ps, 0 ≤ p ∧ p.toNat < rs.length) → (∀ (t : Nat) (n : Nat) k, ps[t]? = some (n : Int) → rs[n]? = some k → ∀ x ∈ argsK k, x ∈ m.map (·.1) ∨ x ∈ ps.take t) → carF rs ps rs m = (rs, m ++ ps.map fun p => (p, p))
  | [], m, _, _, _ => by
    show (rs, m) = _
    rw [List.map_nil, List.append_nil]
  | part :: ps, m, hm, hp, ha => by
    obtain ⟨p0, p1⟩ := hp part List.mem_cons_self
    obtain ⟨n, rfl⟩ : ∃ n : Nat, part = (n : Int) := ⟨part.toNat, by omega⟩
    rw [Int.toNat_natCast] at p1
    obtain ⟨k, hk⟩ : ∃ k, rs[n]? = some k := ⟨_, List.getElem?_eq_getElem p1⟩
    have e2 : carF rs ((n : Int) :: ps) rs m = carF rs ps (addR rs (movR (lookM m) k)) (m ++ [((n : Int), ((posR rs (movR (lookM m) k) : Nat) : Int))]) := by
      show (match rs[((n : Int)).toNat]? with | some k => _ | none => _) = _
      rw [Int.toNat_natCast, hk]
    have hmov : movR (lookM m) k = k := movR_id fun x hx => by
      rcases ha 0 n k rfl hk x hx with h | h
      · obtain ⟨e', he, e1, e2⟩ := lookM_mem h
        rw [e2, ← hm e' he, e1]
      · exact absurd h List.not_mem_nil
    obtain ⟨h1, h2⟩ := posR_at hn hk
    rw [e2, hmov, h1, h2, carF_self hn hR (fun e he => ?_) (fun p hp' => hp p (List.mem_cons_of_mem _ hp')) (fun t n' k' h3 h4 x hx => ?_), List.map_cons, List.append_assoc]
    · rfl
    · rcases List.mem_append.mp he with h | h
      · exact hm e h
      · rw [List.mem_singleton.mp h]
    · rcases ha (t + 1) n' k' h3 h4 x hx with h | h
      · exact .inl (by rw [List.map_append]; exact List.mem_append_left _ h)
      · rw [List.take_succ_cons] at h
        rcases List.mem_cons.mp h with h | h
        · exact .inl (by rw [List.map_append]; exact List.mem_append_right _ (by rw [h]; exact List.mem_cons_self))
        · exact .inr h
theorem lookM_app {m e : List (Int × Int)} {x : Int} (h : x ∈ m.map (·.1)) : lookM (m ++ e) x = lookM m x := by
  unfold lookM
  rw [List.find?_append]
  cases e' : m.find? (fun q => decide (q.1 = x)) with
  | none =>
    obtain ⟨e'', he, rfl⟩ := List.mem_map.mp h
    have := List.find?_eq_none.mp e' e'' he
    simp at this
  | some a => rfl
theorem lookM_new {m e : List (Int × Int)} {x v : Int} (h : x ∉ m.map (·.1)) : lookM (m ++ [(x, v)] ++ e) x = v := by
  unfold lookM
  have e' : m.find? (fun q => decide (q.1 = x)) = none := List.find?_eq_none.mpr fun q hq z => h (List.mem_map.mpr ⟨q, hq, of_decide_eq_true z⟩)
  rw [List.append_assoc, List.find?_append, e', Option.none_or, List.singleton_append, List.find?_cons]
  have : decide ((x, v).1 = x) = true := decide_eq_true rfl
  rw [this]
  rfl
theorem movR_congr {g g' : Int → Int} {k : RowK} (hg : ∀ x ∈ argsK k, g x = g' x) : movR g k = movR g' k := by
  obtain ⟨z, r⟩ := k
  cases r with
  | inl t => rfl
  | inr ns =>
    show (z, Sum.inr (ns.map g)) = (z, Sum.inr (ns.map g'))
    have e : ns.map g = ns.map g' := List.map_congr_left hg
    rw [e]
theorem addR_ext (rs : List RowK) (k : RowK) : ∃ e, addR rs k = rs ++ e := by
  unfold addR
  split
  · exact ⟨[], (List.append_nil _).symm⟩
  · exact ⟨[k], rfl⟩
theorem addR_at (rs : List RowK) (k : RowK) : (addR rs k)[posR rs k]? = some k := by
  cases e : hasR rs k with
  | true =>
    obtain ⟨h1, h2, _⟩ := posR_old e
    rw [h1]
    exact h2
  | false =>
    obtain ⟨h1, h2⟩ := posR_new e
    rw [h1, h2, List.getElem?_append_right (Nat.le_refl _), Nat.sub_self]
    rfl
/-- where each part went: its row, its numbers moved, stands there -/
theorem carF_spec {rs : List RowK} : ∀ {ps : List Int} {cur : List RowK} {m : List (Int × Int)}, (∀ p ∈ ps, 0 ≤ p ∧ p.toNat < rs.length ∧ p ∉ m.map (·.1)) → ps.Nodup → (∀ (t : Nat) (n : Nat) k, ps[t]? = some (n : Int) → rs[n]? = some k → ∀ x ∈ argsK k, x ∈ m.map (·.1) ∨ x ∈ ps.take t) →
    (∃ e, (carF rs ps cur m).2 = m ++ e ∧ e.map (·.1) = ps) ∧ (∃ e, (carF rs ps cur m).1 = cur ++ e) ∧ ∀ (n : Nat) k, (n : Int) ∈ ps → rs[n]? = some k → ∃ b : Nat, lookM (carF rs ps cur m).2 n = b ∧ (carF rs ps cur m).1[b]? = some (movR (lookM (carF rs ps cur m).2) k)
  | [], cur, m, _, _, _ => ⟨⟨[], (List.append_nil _).symm, rfl⟩, ⟨[], (List.append_nil _).symm⟩, fun n k h => absurd h List.not_mem_nil⟩
  | part :: ps, cur, m, hp, hn, ha => by
    obtain ⟨p0, p1, p2⟩ := hp part List.mem_cons_self
    obtain ⟨n, rfl⟩ : ∃ n : Nat, part = (n : Int) := ⟨part.toNat, by omega⟩
    rw [Int.toNat_natCast] at p1
    obtain ⟨hn1, hn2⟩ := List.nodup_cons.mp hn
    obtain ⟨k, hk⟩ : ∃ k, rs[n]? = some k := ⟨_, List.getElem?_eq_getElem p1⟩
    have e2 : carF rs ((n : Int) :: ps) cur m = carF rs ps (addR cur (movR (lookM m) k)) (m ++ [((n : Int), ((posR cur (movR (lookM m) k) : Nat) : Int))]) := by
      show (match rs[((n : Int)).toNat]? with | some k => _ | none => _) = _
      rw [Int.toNat_natCast, hk]
    obtain ⟨⟨e, he, hek⟩, ⟨c, hc⟩, hs⟩ := carF_spec (rs := rs) (ps := ps) (cur := addR cur (movR (lookM m) k)) (m := m ++ [((n : Int), ((posR cur (movR (lookM m) k) : Nat) : Int))])
      (fun p hp' => ⟨(hp p (List.mem_cons_of_mem _ hp')).1, (hp p (List.mem_cons_of_mem _ hp')).2.1, fun h => by
        rw [List.map_append] at h
        rcases List.mem_append.mp h with h | h
        · exact (hp p (List.mem_cons_of_mem _ hp')).2.2 h
        · have e : p = (n : Int) := List.mem_singleton.mp h
          rw [e] at hp'
          exact hn1 hp'⟩) hn2 (fun t n' k' h3 h4 x hx => by
        rcases ha (t + 1) n' k' h3 h4 x hx with h | h
        · exact .inl (by rw [List.map_append]; exact List.mem_append_left _ h)
        · rw [List.take_succ_cons] at h
          rcases List.mem_cons.mp h with h | h
          · exact .inl (by rw [List.map_append]; exact List.mem_append_right _ (by rw [h]; exact List.mem_cons_self))
          · exact .inr h)
    rw [e2]
    obtain ⟨a, ea⟩ := addR_ext cur (movR (lookM m) k)
    refine ⟨⟨((n : Int), ((posR cur (movR (lookM m) k) : Nat) : Int)) :: e, by rw [he, List.append_assoc]; rfl, by rw [List.map_cons, hek]⟩, ⟨a ++ c, by rw [hc, ea, List.append_assoc]⟩, fun n' k' h1 h2 => ?_⟩
    by_cases hne : n' = n
    · subst hne
      rw [hk] at h2
      cases h2
      refine ⟨posR cur (movR (lookM m) k), by rw [he]; exact lookM_new p2, ?_⟩
      have hm : movR (lookM (carF rs ps (addR cur (movR (lookM m) k)) (m ++ [((n' : Int), ((posR cur (movR (lookM m) k) : Nat) : Int))])).2) k = movR (lookM m) k := movR_congr fun x hx => by
        rcases ha 0 n' k rfl hk x hx with h | h
        · rw [he, List.append_assoc]
          exact lookM_app h
        · exact absurd h List.not_mem_nil
      rw [hm, hc, List.getElem?_append_left (posR_lt _ _)]
      exact addR_at _ _
    · rcases List.mem_cons.mp h1 with h | h
      · exact absurd (by omega) hne
      · exact hs n' k' h h2
end T56
set_option Elab.async false
set_option linter.all false
set_option maxRecDepth 100000
set_option maxHeartbeats 4000000
namespace T56
open PySem PySem.Spec PyProof.Rows L2 Tp
/-- a part that the other book lacks gets a new number -/
theorem sameF_none {rs qs : List RowK} : ∀ {ps : List Int} {m : List (Int × Int)}, (∀ p ∈ ps, 0 ≤ p ∧ p.toNat < rs.length ∧ p ∉ m.map (·.1)) → ps.Nodup → (∀ (t : Nat) (n : Nat) k, ps[t]? = some (n : Int) → rs[n]? = some k → ∀ x ∈ argsK k, x ∈ m.map (·.1) ∨ x ∈ ps.take t) → sameF rs qs ps m = none → ∃ n : Nat, (n : Int) ∈ ps ∧ lookM (carF rs ps qs m).2 n = (qs.length : Int)
  | [], m, _, _, _, h => by cases h
  | part :: ps, m, hp, hn, ha, h => by
    obtain ⟨p0, p1, p2⟩ := hp part List.mem_cons_self
    obtain ⟨n, rfl⟩ : ∃ n : Nat, part = (n : Int) := ⟨part.toNat, by omega⟩
    rw [Int.toNat_natCast] at p1
    obtain ⟨hn1, hn2⟩ := List.nodup_cons.mp hn
    obtain ⟨k, hk⟩ : ∃ k, rs[n]? = some k := ⟨_, List.getElem?_eq_getElem p1⟩
    have e1 : sameF rs qs ((n : Int) :: ps) m = if hasR qs (movR (lookM m) k) = true then sameF rs qs ps (m ++ [((n : Int), ((posR qs (movR (lookM m) k) : Nat) : Int))]) else none := by
      show (match rs[((n : Int)).toNat]? with | some k => _ | none => _) = _
      rw [Int.toNat_natCast, hk]
    have e2 : carF rs ((n : Int) :: ps) qs m = carF rs ps (addR qs (movR (lookM m) k)) (m ++ [((n : Int), ((posR qs (movR (lookM m) k) : Nat) : Int))]) := by
      show (match rs[((n : Int)).toNat]? with | some k => _ | none => _) = _
      rw [Int.toNat_natCast, hk]
    have hp' : ∀ p ∈ ps, 0 ≤ p ∧ p.toNat < rs.length ∧ p ∉ (m ++ [((n : Int), ((posR qs (movR (lookM m) k) : Nat) : Int))]).map (·.1) := fun p hp' => ⟨(hp p (List.mem_cons_of_mem _ hp')).1, (hp p (List.mem_cons_of_mem _ hp')).2.1, fun h => by
      rw [List.map_append] at h
      rcases List.mem_append.mp h with h | h
      · exact (hp p (List.mem_cons_of_mem _ hp')).2.2 h
      · have e : p = (n : Int) := List.mem_singleton.mp h
        rw [e] at hp'
        exact hn1 hp'⟩
    have ha' : ∀ (t : Nat) (n' : Nat) k', ps[t]? = some (n' : Int) → rs[n']? = some k' → ∀ x ∈ argsK k', x ∈ (m ++ [((n : Int), ((posR qs (movR (lookM m) k) : Nat) : Int))]).map (·.1) ∨ x ∈ ps.take t := fun t n' k' h3 h4 x hx => by
      rcases ha (t + 1) n' k' h3 h4 x hx with h | h
      · exact .inl (by rw [List.map_append]; exact List.mem_append_left _ h)
      · rw [List.take_succ_cons] at h
        rcases List.mem_cons.mp h with h | h
        · exact .inl (by rw [List.map_append]; exact List.mem_append_right _ (by rw [h]; exact List.mem_cons_self))
        · exact .inr h
    rw [e1] at h
    rw [e2]
    by_cases hh : hasR qs (movR (lookM m) k) = true
    · rw [if_pos hh] at h
      rw [(posR_old hh).1]
      obtain ⟨n', h1, h2⟩ := sameF_none hp' hn2 ha' h
      exact ⟨n', List.mem_cons_of_mem _ h1, h2⟩
    · have hh' : hasR qs (movR (lookM m) k) = false := by
        cases e : hasR qs (movR (lookM m) k) with
        | true => exact absurd e hh
        | false => rfl
      obtain ⟨⟨e, he, _⟩, _, _⟩ := carF_spec (cur := addR qs (movR (lookM m) k)) hp' hn2 ha'
      refine ⟨n, List.mem_cons_self, ?_⟩
      rw [he, lookM_new p2, (posR_new hh').2]
/-- what same_term tells is where carry would put the term -/
theorem same_carried {rs qs : List RowK} (hR : OkRows rs) (hQ : OkRows qs) {i j : Nat} {ys : List Int} (hP : PartsOf rs i ys) (hi : i < rs.length) (hj : j < qs.length) : sameB rs qs ys i j = decide (lookM (carF rs ys qs []).2 i = j) := by
  have hb : ∀ p ∈ ys, 0 ≤ p ∧ p.toNat < rs.length ∧ p ∉ ([] : List (Int × Int)).map (·.1) := fun p hp => by
    obtain ⟨n, rfl, h⟩ := (hP.2 p).mp hp
    have := reach_lt hR h
    exact ⟨by omega, by omega, List.not_mem_nil⟩
  have hn : ys.Nodup := hP.1.imp fun h => by omega
  have ha : ∀ (t : Nat) (n : Nat) k, ys[t]? = some (n : Int) → rs[n]? = some k → ∀ x ∈ argsK k, x ∈ ([] : List (Int × Int)).map (·.1) ∨ x ∈ ys.take t := fun t n k h1 h2 x hx => .inr (args_before hR hP h1 h2 hx)
  unfold sameB
  cases e : sameF rs qs ys [] with
  | some m =>
    rw [same_some (fun p hp => (hb p hp).2.1) e]
  | none =>
    obtain ⟨n, h1, h2⟩ := sameF_none hb hn ha e
    obtain ⟨_, ⟨c, hc⟩, hs⟩ := carF_spec (cur := qs) hb hn ha
    have up : ∀ {a : Nat}, Reach rs i a → (qs.length : Int) ≤ lookM (carF rs ys qs []).2 a → (qs.length : Int) ≤ lookM (carF rs ys qs []).2 i := by
      intro a h
      induction h with
      | refl => exact fun h => h
      | @step j' k' m' h hk hm ih =>
        intro hge
        refine ih ?_
        obtain ⟨b, h3, h4⟩ := hs j' k' ((hP.2 _).mpr ⟨j', rfl, h⟩) hk
        rw [h3]
        rcases Nat.lt_or_ge b qs.length with hlt | hge2
        · rw [hc, List.getElem?_append_left hlt] at h4
          have hmm : lookM (carF rs ys qs []).2 m' ∈ argsK (movR (lookM (carF rs ys qs []).2) k') := by
            obtain ⟨z, r⟩ := k'
            cases r with
            | inl t => exact absurd hm List.not_mem_nil
            | inr ns => exact List.mem_map.mpr ⟨_, hm, rfl⟩
          obtain ⟨u, hu, hub⟩ := args_ok hQ h4 hmm
          omega
        · omega
    obtain ⟨n', e', hr⟩ := (hP.2 _).mp h1
    have en : n = n' := by omega
    subst en
    have := up hr (by omega)
    exact (decide_eq_false (by omega)).symm
end T56
set_option Elab.async false
set_option linter.all false
set_option maxRecDepth 100000
set_option maxHeartbeats 4000000
namespace T56
open PySem PySem.Spec PyProof.Rows L2 Tp
/-- the head of the list of the slots at which two rows differ -/
theorem firstD_filter {xs ys : List Int} (h : xs.length = ys.length) : ((List.range xs.length).filter fun t => decide (xs[t]? ≠ ys[t]?)).head? = firstD xs ys := by
  rw [List.head?_filter]
  cases e : firstD xs ys with
  | some t =>
    obtain ⟨x, y, h1, h2, h3, h4⟩ := firstD_some e
    refine List.find?_range_eq_some.mpr ⟨decide_eq_true ?_, List.mem_range.mpr (List.getElem?_eq_some_iff.mp h1).1, fun j hj => ?_⟩
    · rw [h1, h2]
      exact fun e => h3 (Option.some.inj e)
    · rw [h4 j hj]
      simp
  | none =>
    have e2 := firstD_none h e
    subst e2
    refine List.find?_range_eq_none.mpr fun j hj => ?_
    simp
/-- carried into its own book, a term has its own number -/
theorem carried_self {rs : List RowK} (hn : rs.Nodup) (hR : OkRows rs) {i : Nat} {ys : List Int} (hP : PartsOf rs i ys) (hi : i < rs.length) : (carF rs ys rs []).1 = rs ∧ lookM (carF rs ys rs []).2 i = i := by
  have h := carF_self hn hR (ps := ys) (m := []) (fun e he => absurd he List.not_mem_nil) (fun p hp => by
    obtain ⟨n, rfl, h⟩ := (hP.2 p).mp hp
    have := reach_lt hR h
    exact ⟨by omega, by omega⟩) (fun t n k h1 h2 x hx => .inr (args_before hR hP h1 h2 hx))
  rw [h]
  refine ⟨rfl, ?_⟩
  have hm : (i : Int) ∈ (([] : List (Int × Int)) ++ ys.map fun p => (p, p)).map (·.1) := by
    rw [List.nil_append, List.map_map]
    exact List.mem_map.mpr ⟨_, (hP.2 _).mpr ⟨i, rfl, .refl⟩, rfl⟩
  obtain ⟨e, he, e1, e2⟩ := lookM_mem hm
  rw [List.nil_append] at he
  obtain ⟨p, _, rfl⟩ := List.mem_map.mp he
  dsimp only at e1 e2
  rw [e2, e1]
end T56
set_option Elab.async false
set_option linter.all false
set_option maxRecDepth 100000
set_option maxHeartbeats 4000000
namespace T56
open PySem PySem.Spec PyProof.Rows L2 Tp
/-- the numbers wanted, once the rows below n were asked from the last to the first -/
def wantL (rs : List RowK) : Nat → List Int → List Int
  | 0, ws => ws
  | n + 1, ws => wantL rs n (match rs[n]? with
    | some k => if (n : Int) ∈ ws then ws ++ (argsK k).filter fun x => decide (x ∉ ws) else ws
    | none => ws)
theorem wantL_ok {rs : List RowK} (hR : OkRows rs) {i : Nat} : ∀ {n : Nat} {ws : List Int}, n ≤ rs.length → (i : Int) ∈ ws → (∀ x ∈ ws, ∃ t : Nat, x = t ∧ Reach rs i t) → (∀ (t : Nat) k, n ≤ t → (t : Int) ∈ ws → rs[t]? = some k → ∀ x ∈ argsK k, x ∈ ws) → ∀ x, x ∈ wantL rs n ws ↔ ∃ t : Nat, x = t ∧ Reach rs i t
  | 0, ws, _, hi, hr, hc, x => by
    refine ⟨hr x, fun ⟨t, e, h⟩ => ?_⟩
    subst e
    show (t : Int) ∈ ws
    induction h with
    | refl => exact hi
    | @step j k m h hk hm ih => exact hc j k (Nat.zero_le _) (ih ⟨j, rfl, h⟩) hk _ hm
  | n + 1, ws, hn, hi, hr, hc, x => by
    obtain ⟨k, hk⟩ : ∃ k, rs[n]? = some k := ⟨_, List.getElem?_eq_getElem hn⟩
    have e : wantL rs (n + 1) ws = wantL rs n (if (n : Int) ∈ ws then ws ++ (argsK k).filter fun x => decide (x ∉ ws) else ws) := by
      show wantL rs n (match rs[n]? with | some k => _ | none => _) = _
      rw [hk]
    rw [e]
    by_cases hw : (n : Int) ∈ ws
    · rw [if_pos hw]
      have hsub : ∀ y ∈ argsK k, y ∈ ws ++ (argsK k).filter fun x => decide (x ∉ ws) := fun y hy => by
        by_cases h : y ∈ ws
        · exact List.mem_append_left _ h
        · exact List.mem_append_right _ (List.mem_filter.mpr ⟨hy, decide_eq_true h⟩)
      refine wantL_ok hR (by omega) (List.mem_append_left _ hi) (fun y hy => ?_) (fun t k' ht hty hk' y hy => ?_) x
      · rcases List.mem_append.mp hy with h | h
        · exact hr y h
        · obtain ⟨h, _⟩ := List.mem_filter.mp h
          obtain ⟨u, hu, _⟩ := args_ok hR hk h
          obtain ⟨n', e', hrn⟩ := hr _ hw
          have en : n = n' := by omega
          subst en
          exact ⟨u, hu, .step hrn hk (hu ▸ h)⟩
      · by_cases htn : t = n
        · subst htn
          rw [hk] at hk'
          cases hk'
          exact hsub y hy
        · rcases List.mem_append.mp hty with h | h
          · exact List.mem_append_left _ (hc t k' (by omega) h hk' y hy)
          · obtain ⟨h, _⟩ := List.mem_filter.mp h
            obtain ⟨u, hu, hlt⟩ := args_ok hR hk h
            omega
    · rw [if_neg hw]
      refine wantL_ok hR (by omega) hi hr (fun t k' ht hty hk' => ?_) x
      by_cases htn : t = n
      · subst htn
        exact absurd hty hw
      · exact hc t k' (by omega) hty hk'
/-- the law's list of wanted numbers holds a term's parts -/
theorem wantL_parts {rs : List RowK} (hR : OkRows rs) {i : Nat} (hi : i < rs.length) (x : Int) : x ∈ wantL rs (i + 1) [(i : Int)] ↔ ∃ t : Nat, x = t ∧ Reach rs i t :=
  wantL_ok hR hi List.mem_cons_self (fun y hy => ⟨i, List.mem_singleton.mp hy, .refl⟩) (fun t k ht hty => by
    have := List.mem_singleton.mp hty
    omega) x
end T56
set_option Elab.async false
set_option linter.all false
set_option maxRecDepth 100000
set_option maxHeartbeats 4000000
namespace T56
open PySem PySem.Spec PyProof.Rows L2 Tp
/-- two terms of two lists of rows that are the same tree -/
inductive Alike (rs qs : List RowK) : Nat → Nat → Prop
  | num {i j : Nat} {z : Str} {n : Int} (h1 : rs[i]? = some (z, .inl n)) (h2 : qs[j]? = some (z, .inl n)) : Alike rs qs i j
  | app {i j : Nat} {z : Str} {ns ms : List Int} (h1 : rs[i]? = some (z, .inr ns)) (h2 : qs[j]? = some (z, .inr ms)) (hl : ns.length = ms.length) (h : ∀ (t a b : Nat), ns[t]? = some (a : Int) → ms[t]? = some (b : Int) → Alike rs qs a b) : Alike rs qs i j
theorem Alike.symm {rs qs : List RowK} {i j : Nat} (h : Alike rs qs i j) : Alike qs rs j i := by
  induction h with
  | num h1 h2 => exact .num h2 h1
  | app h1 h2 hl _ ih => exact .app h2 h1 hl.symm fun t a b e1 e2 => ih t b a e2 e1
theorem addR_nodup {rs : List RowK} (h : rs.Nodup) (k : RowK) : (addR rs k).Nodup := by
  cases e : hasR rs k with
  | true => rw [(posR_old e).1]; exact h
  | false =>
    rw [(posR_new e).1, List.nodup_append]
    refine ⟨h, List.nodup_cons.mpr ⟨List.not_mem_nil, List.nodup_nil⟩, fun a ha b hb e' => hasR_not e ?_⟩
    rw [← List.mem_singleton.mp hb, ← e']
    exact ha
theorem carF_nodup {rs : List RowK} : ∀ {ps : List Int} {cur : List RowK} {m : List (Int × Int)}, cur.Nodup → (carF rs ps cur m).1.Nodup
  | [], _, _, h => h
  | part :: ps, cur, m, h => by
    cases hk : rs[part.toNat]? with
    | none =>
      have e : carF rs (part :: ps) cur m = (cur, m) := by
        show (match rs[part.toNat]? with | some k => _ | none => _) = _
        rw [hk]
      rw [e]
      exact h
    | some k =>
      have e : carF rs (part :: ps) cur m = carF rs ps (addR cur (movR (lookM m) k)) (m ++ [(part, ((posR cur (movR (lookM m) k) : Nat) : Int))]) := by
        show (match rs[part.toNat]? with | some k => _ | none => _) = _
        rw [hk]
      rw [e]
      exact carF_nodup (addR_nodup h _)
/-- a term is carried to the term that is the same tree -/
theorem carried_alike {rs qs : List RowK} (hR : OkRows rs) (hQ : OkRows qs) (hn : qs.Nodup) {i : Nat} {ys : List Int} (hP : PartsOf rs i ys) (hi : i < rs.length) {a : Nat} (ha : Reach rs i a) {j : Nat} (hj : j < qs.length) : lookM (carF rs ys qs []).2 a = (j : Int) ↔ Alike rs qs a j := by
  have hb : ∀ p ∈ ys, 0 ≤ p ∧ p.toNat < rs.length ∧ p ∉ ([] : List (Int × Int)).map (·.1) := fun p hp => by
    obtain ⟨n, rfl, h⟩ := (hP.2 p).mp hp
    have := reach_lt hR h
    exact ⟨by omega, by omega, List.not_mem_nil⟩
  have hyn : ys.Nodup := hP.1.imp fun h => by omega
  have hab : ∀ (t : Nat) (n : Nat) k, ys[t]? = some (n : Int) → rs[n]? = some k → ∀ x ∈ argsK k, x ∈ ([] : List (Int × Int)).map (·.1) ∨ x ∈ ys.take t := fun t n k h1 h2 x hx => .inr (args_before hR hP h1 h2 hx)
  obtain ⟨_, ⟨c, hc⟩, hs⟩ := carF_spec (cur := qs) hb hyn hab
  have hcn : (carF rs ys qs []).1.Nodup := carF_nodup hn
  have spec : ∀ {a : Nat}, Reach rs i a → ∀ k, rs[a]? = some k → ∃ b : Nat, lookM (carF rs ys qs []).2 a = b ∧ (carF rs ys qs []).1[b]? = some (movR (lookM (carF rs ys qs []).2) k) := fun h k hk => hs _ k ((hP.2 _).mpr ⟨_, rfl, h⟩) hk
  generalize (carF rs ys qs []).2 = F at spec ⊢
  generalize (carF rs ys qs []).1 = cur at spec hc hcn
  constructor
  · induction a using Nat.strongRecOn generalizing j with
    | ind a ih =>
      intro e
      have hal := reach_lt hR ha
      obtain ⟨k, hk⟩ : ∃ k, rs[a]? = some k := ⟨_, List.getElem?_eq_getElem (by omega)⟩
      obtain ⟨b, h1, h2⟩ := spec ha k hk
      have hbj : b = j := by omega
      subst hbj
      rw [hc, List.getElem?_append_left hj] at h2
      obtain ⟨z, r⟩ := k
      cases r with
      | inl n => exact .num hk h2
      | inr ns =>
        refine .app hk h2 (by rw [List.length_map]) fun t x y e1 e2 => ?_
        rw [List.getElem?_map, e1] at e2
        have e3 : lookM F x = (y : Int) := Option.some.inj e2
        have hxm : (x : Int) ∈ argsK ((z, .inr ns) : RowK) := List.mem_of_getElem? e1
        obtain ⟨u, hu, hlt⟩ := args_ok hR hk hxm
        have hyq : (y : Int) ∈ argsK (movR (lookM F) ((z, .inr ns) : RowK)) := List.mem_map.mpr ⟨_, hxm, e3⟩
        obtain ⟨v, hv, hlt2⟩ := args_ok hQ h2 hyq
        exact ih x (by omega) (.step ha hk hxm) (by omega) e3
  · intro h
    induction h with
    | @num a j z n h1 h2 =>
      obtain ⟨b, e1, e2⟩ := spec ha _ h1
      rw [e1]
      have e3 : cur[j]? = some (z, .inl n) := by rw [hc, List.getElem?_append_left hj]; exact h2
      have := (List.getElem?_inj (List.getElem?_eq_some_iff.mp e3).1 hcn).mp (e3.trans e2.symm)
      omega
    | @app a j z ns ms h1 h2 hl h ih =>
      obtain ⟨b, e1, e2⟩ := spec ha _ h1
      rw [e1]
      have em : ns.map (lookM F) = ms := by
        refine List.ext_getElem? fun t => ?_
        rw [List.getElem?_map]
        rcases Nat.lt_or_ge t ns.length with ht | ht
        · have hx : ns[t] ∈ argsK ((z, .inr ns) : RowK) := List.getElem_mem ht
          have hy : ms[t]'(by omega) ∈ argsK ((z, .inr ms) : RowK) := List.getElem_mem _
          obtain ⟨x, ex, hxl⟩ := args_ok hR h1 hx
          obtain ⟨y, ey, hyl⟩ := args_ok hQ h2 hy
          have q1 : ns[t]? = some (x : Int) := by rw [List.getElem?_eq_getElem ht, ex]
          have q2 : ms[t]? = some (y : Int) := by rw [List.getElem?_eq_getElem (by omega), ey]
          rw [q1, q2]
          exact congrArg some (ih t x y q1 q2 (.step ha h1 (ex ▸ hx)) (by omega))
        · rw [List.getElem?_eq_none ht, List.getElem?_eq_none (by omega)]
          rfl
      have e3 : cur[j]? = some (z, .inr ms) := by rw [hc, List.getElem?_append_left hj]; exact h2
      have e4 : cur[b]? = some (z, .inr ms) := by
        rw [e2]
        show some (z, Sum.inr (ns.map (lookM F))) = _
        rw [em]
      have := (List.getElem?_inj (List.getElem?_eq_some_iff.mp e3).1 hcn).mp (e3.trans e4.symm)
      omega
end T56
set_option Elab.async false
set_option linter.all false
set_option maxRecDepth 100000
set_option maxHeartbeats 4000000
namespace T56
open PySem PySem.Spec PyProof.Rows L2 Tp
/-- asked either way round, same_term tells the same -/
theorem same_comm {rs qs : List RowK} (hR : OkRows rs) (hQ : OkRows qs) (hn : rs.Nodup) (hm : qs.Nodup) {i j : Nat} {ys zs : List Int} (hP : PartsOf rs i ys) (hZ : PartsOf qs j zs) (hi : i < rs.length) (hj : j < qs.length) : sameB rs qs ys i j = sameB qs rs zs j i := by
  rw [same_carried hR hQ hP hi hj, same_carried hQ hR hZ hj hi]
  refine decide_eq_decide.mpr ?_
  rw [carried_alike hR hQ hm hP hi .refl hj, carried_alike hQ hR hn hZ hj .refl hi]
  exact ⟨Alike.symm, Alike.symm⟩
/-- in one book two numbers are the same term if they are one number -/
theorem same_self {rs : List RowK} (hR : OkRows rs) (hn : rs.Nodup) {i j : Nat} {ys : List Int} (hP : PartsOf rs i ys) (hi : i < rs.length) (hj : j < rs.length) : sameB rs rs ys i j = decide (i = j) := by
  rw [same_carried hR hR hP hi hj, (carried_self hn hR hP hi).2]
  refine decide_eq_decide.mpr ?_
  omega
end T56
set_option Elab.async false
set_option linter.all false
set_option maxRecDepth 100000
set_option maxHeartbeats 4000000
namespace T56
open PySem PySem.Spec PyProof.Rows L2 Tp
section
variable {P : Program} {w : World} {K : PySem.W.Frag} {mg : Str → Option Value} {base : Heap} {f : Addr} {fd : FuncData}

structure TxtL (mg : Str → Option Value) : Prop where
  range : mg "range" = none
  len : mg "len" = none
  max : mg "max" = none
  min : mg "min" = none
  isinstance : mg "isinstance" = none
  int : mg "int" = none
  bool : mg "bool" = none
  list : mg "list" = none
  tuple : mg "tuple" = none
  repr : mg "repr" = none
  set : mg "set" = none
  sorted : mg "sorted" = none
/-- a list of rows that may grow -/
def RowsM (K : PySem.W.Frag) (H : Hp) (l : Addr) (rs : List RowK) : Prop := ∃ as : List Addr, H l = some (.lst (as.map V.ref)) ∧ as.length = rs.length ∧ ∀ (i : Nat) (k : RowK) (a : Addr), rs[i]? = some k → as[i]? = some a → RowAt K H k a
theorem RowsM.fr {S : List Addr} {H H' : Hp} {l : Addr} {rs : List RowK} (h : RowsM K H l rs) (f : Frame S H H') (hS : ∀ b ∈ S, NotTup H b) (hl : l ∉ S) : RowsM K H' l rs := by
  obtain ⟨as, h1, h2, h3⟩ := h
  exact ⟨as, f _ _ hl h1, h2, fun i k a e1 e2 => SqT_row (h3 i k a e1 e2) f hS⟩
theorem RowsM.up {H H' : Hp} {l : Addr} {rs : List RowK} (s : Same H H') (h : RowsM K H l rs) : RowsM K H' l rs := h.fr (S := []) (Frame.of s) (fun _ h => absurd h List.not_mem_nil) List.not_mem_nil
theorem RowsM.keep {H H' : Hp} {p l : Addr} {n : Nat} {rs : List RowK} (hb : BoxAt H p n) (s : Keep p H H') (hl : l ≠ p) (h : RowsM K H l rs) : RowsM K H' l rs :=
  h.fr (S := [p]) (fun b o h1 h2 => s b o (fun z => h1 (by rw [z]; exact List.mem_cons_self)) h2) (fun b hb' => by rw [List.mem_singleton.mp hb']; exact box_nt hb) (fun z => hl (List.mem_singleton.mp z))
theorem RowsM.L {H : Hp} {l : Addr} {rs : List RowK} (h : RowsM K H l rs) : RowsL K H l rs := let ⟨as, h1, h2, h3⟩ := h; ⟨as, SqL.of h1, h2, h3⟩
theorem RowsM.nt {H : Hp} {l : Addr} {rs : List RowK} (h : RowsM K H l rs) : NotTup H l := let ⟨_, h1, _⟩ := h; not_lst h1
theorem RowsM.dom {H : Hp} {l : Addr} {rs : List RowK} (h : RowsM K H l rs) : H l ≠ none := let ⟨_, h1, _⟩ := h; fun z => by rw [h1] at z; cases z
theorem RowsM.snoc {H : Hp} {l : Addr} {as : List Addr} {rs : List RowK} {k : RowK} {r : Addr} (h1 : H l = some (.lst (as.map V.ref))) (h2 : as.length = rs.length) (h3 : ∀ (i : Nat) (k : RowK) (a : Addr), rs[i]? = some k → as[i]? = some a → RowAt K H k a) (hr : RowAt K H k r) : RowsM K (upd H l (.lst (as.map V.ref ++ [V.ref r]))) l (rs ++ [k]) := by
  have f : Frame [l] H (upd H l (.lst (as.map V.ref ++ [V.ref r]))) := Frame.put (by simp)
  have nt : ∀ b ∈ [l], NotTup H b := fun b hb => by rw [List.mem_singleton.mp hb]; exact not_lst h1
  exact ⟨as ++ [r], by rw [upd_same, List.map_append]; rfl, by rw [List.length_append, List.length_append, h2]; rfl, fun i k' a e1 e2 => SqT_row (rows_snoc h2 h3 hr i k' a e1 e2) f nt⟩
/-- the drawn rows of a book -/
def spRowsD (K : PySem.W.Frag) : Sp := fun vs H Q _ => ∃ (p : Addr) (n : Nat) (m : Int), vs = [.ref p, .int m, .bl true] ∧ BoxAt H p n ∧ n ≤ 20000 ∧ 1 ≤ m ∧ m ≤ 30 ∧ ∀ l H' rs, Keep p H H' → BoxAt H' p (n + 3000) → H l = none → RowsM K H' l rs → OkRows rs → rs.Nodup → 1 ≤ rs.length → (rs.length : Int) ≤ m → Q (.ref l) H'

abbrev sLb : Stmt := top 77
abbrev nLb : List Str := ["_law_box_here", "_law_signs", "_law_k"]
theorem scLb : FnScope nLb ["_law_box_here"] (defScope sLb) := ⟨rfl, rfl, rfl, by decide +kernel, rfl, by decide +kernel, by decide +kernel⟩

theorem ok_Lb (F : Fun K "_law_label" "_law_label" sLb f fd) (T : TxtL mg) (C : Cg P w K mg base 1 "_law_take" spTake) : FnG P w K mg base CX0 2 f fd ["_law_box_here"] spLab := by
  refine FunG.ok F scLb (fun vs H Q E h => ?_) (fun cdv B out s H vs Q E hr hG h => ?_)
  · obtain ⟨p, n, rfl, _⟩ := h
    rfl
  · obtain ⟨p, n, rfl, hb, hn, q⟩ := h
    refine ⟨_, (pss_cons (ps_set (i := 1) scLb.nd rfl (.inr rfl) pe_str)
      (pss_cons (ps_if (pt_cmpR op_gt (pe_g C hr hG (by decide) (by rfl) (pa_cons (pv 0) (pa_cons pe_int pa_nil))) pe_int (nomark _)) (pss_one (ps_ret (pe_ix ix_list (pe_lst (pa_cons pe_str (pa_cons pe_str (pa_cons pe_str (pa_cons pe_str (pa_cons pe_str (pa_cons pe_str pa_nil))))))) (pe_g C hr hG (by decide) (by rfl) (pa_cons (pv 0) (pa_cons pe_int pa_nil))) fun _ _ => rfl))) pss_nil)
      (pss_one (ps_ret (pe_op op_add_str (pe_ix ix_str (pv 1) (pe_g C hr hG (by decide) (by rfl) (pa_cons (pv 0) (pa_cons pe_int pa_nil))) fun _ _ => rfl) (pe_join pe_str (pe_lc (own := [("_law_k", 2)]) (g := gName 2) (tt := tYes) rfl scLb.nd (pi_range1 (by rfl) T.range (pa_cons (pe_g C hr hG (by decide) (by rfl) (pa_cons (pv 0) (pa_cons pe_int pa_nil))) pa_nil)) (blkOk_by (N := nLb) (sc := defScope sLb) (by decide +kernel)) (fun _ _ _ _ _ => pg_name (i := 2) scLb.nd rfl (Or.inl rfl)) (fun _ _ _ _ _ => pts_nil) (fun _ _ _ _ _ => (pe_ix ix_str (pv 1) (pe_g C hr hG (by decide) (by rfl) (pa_cons (pv 0) (pa_cons pe_int pa_nil))) fun _ _ => rfl))))))))), ?_⟩
    have l1 : (TL.tl let1).length = 36 := by decide +kernel
    refine ⟨_, rfl, p, 3, n, rfl, hb, by decide, by decide, by omega, fun d H1 a1 b1 hb1 k1 => ⟨_, _, rfl, rfl, _, rfl, ?_⟩⟩
    have kp1 : Keep p H H1 := keep_of k1
    refine ite2 (fun h1 => ?_) (fun h1 => ?_)
    · refine ⟨(by show 6 ≤ sizeLine; decide), fun l hl => ?_⟩
      have hbl := hb1.new (o := .lst [V.str "f", V.str "g", V.str "a", V.str "b", V.str "x", V.str "f1"]) hl
      have npl : l ≠ p := (hb1.ne hl).symm
      have hll : upd H1 l (.lst [V.str "f", V.str "g", V.str "a", V.str "b", V.str "x", V.str "f1"]) l = some (.lst [V.str "f", V.str "g", V.str "a", V.str "b", V.str "x", V.str "f1"]) := upd_same
      have kl : Keep p H (upd H1 l (.lst [V.str "f", V.str "g", V.str "a", V.str "b", V.str "x", V.str "f1"])) := kp1.trans (Keep.new hl)
      generalize upd H1 l (.lst [V.str "f", V.str "g", V.str "a", V.str "b", V.str "x", V.str "f1"]) = G at hbl hll kl ⊢
      refine ⟨_, rfl, p, 6, n + 1, rfl, hbl, by decide, by decide, by omega, fun d2 H2 a2 b2 hb2 k2 => ?_⟩
      obtain ⟨j, rfl⟩ : ∃ j : Nat, d2 = (j : Int) := ⟨d2.toNat, by omega⟩
      have hj : j < 6 := by omega
      have hl2 : H2 l = some (.lst (([("f" : Str), "g", "a", "b", "x", "f1"] : List Str).map V.str)) := by rw [k2 l npl]; exact hll
      obtain ⟨z, hz, hn⟩ : ∃ z : Str, ([("f" : Str), "g", "a", "b", "x", "f1"] : List Str)[j]? = some z ∧ nameB (TL.tl z) = true := by
        match j, hj with
        | 0, _ => exact ⟨_, rfl, by decide +kernel⟩
        | 1, _ => exact ⟨_, rfl, by decide +kernel⟩
        | 2, _ => exact ⟨_, rfl, by decide +kernel⟩
        | 3, _ => exact ⟨_, rfl, by decide +kernel⟩
        | 4, _ => exact ⟨_, rfl, by decide +kernel⟩
        | 5, _ => exact ⟨_, rfl, by decide +kernel⟩
      exact ⟨l, _, _, .str z, rfl, rfl, SqL.of hl2, atI_nat (j := j) (by rw [List.getElem?_map, hz]; rfl), q z H2 hn (hb2.mono (by omega)) (kl.trans (keep_of k2))⟩
    · dsimp only [tNext]
      refine ⟨_, rfl, _, rfl, p, 26, n + 1, rfl, hb1, by decide, by decide, by omega, fun d2 H2 a2 b2 hb2 k2 => ?_⟩
      have kp2 : Keep p H H2 := kp1.trans (keep_of k2)
      obtain ⟨j, rfl⟩ : ∃ j : Nat, d2 = (j : Int) := ⟨d2.toNat, by omega⟩
      obtain ⟨x, hx, hlow⟩ : ∃ x, (TL.tl let1)[j]? = some x ∧ lowB x = true := by
        have := let1_low j (by omega)
        cases e : (TL.tl let1)[j]? with
        | none => rw [e] at this; cases this
        | some x => rw [e] at this; exact ⟨x, rfl, this⟩
      have e8 := PySem.sizeLine_eq
      refine ⟨_, _, x, rfl, rfl, by decide +kernel, atI_nat hx, ?_⟩
      refine ⟨⟨_, rfl⟩, _, rfl, p, 8, n + 2, rfl, hb2, by decide, by decide, by omega, fun d3 H3 a3 b3 hb3 k3 => ?_⟩
      have kp3 : Keep p H H3 := kp2.trans (keep_of k3)
      refine ⟨_, rfl, by omega, by omega, fun D hD => ?_⟩
      have npD : D ≠ p := (hb3.ne hD).symm
      refine lc_range (lo := 0) (n := d3.toNat) (fun j M => BoxAt M p (n + 3 + j) ∧ Keep2 p D H3 M ∧ ∃ ys : List Str, M D = some (.lst (ys.map V.str)) ∧ ys.length = j ∧ ∀ y ∈ ys, ∃ c, y = (⟨#[c]⟩ : Str) ∧ (lowB c || digB c) = true)
        ⟨hb3.new hD, Keep2.of (Keep.new hD), [], upd_same, rfl, fun y hy => absurd hy List.not_mem_nil⟩ ?_ ?_
      · rintro j M hj ⟨mb, mk, ys, mD, ml, mt⟩
        refine ⟨rfl, _, rfl, _, rfl, p, 36, n + 3 + j, rfl, mb, by decide, by decide, by omega, fun d4 M1 r1 r2 mb1 mk1 => ?_⟩
        obtain ⟨c, hc, ac⟩ := atI_in (xs := TL.tl let1) r1 (by rw [l1]; exact r2)
        have mD1 : M1 D = some (.lst (ys.map V.str)) := by rw [mk1 D npD]; exact mD
        refine ⟨_, _, _, rfl, rfl, by decide +kernel, ac, ys.map V.str, mD1, ?_, (mb1.mono (by omega)).put npD, (mk.next (keep_of mk1)).put, ys ++ [⟨#[c]⟩], ?_, ?_, ?_⟩
        · rw [List.length_map, ml]
          omega
        · rw [upd_same, List.map_append]
          rfl
        · rw [List.length_append, ml]
          rfl
        · intro y hy
          rcases List.mem_append.mp hy with z | z
          · exact mt y z
          · exact ⟨c, List.mem_singleton.mp z, let1_sm c hc⟩
      · rintro M ⟨mb, mk, ys, mD, ml, mt⟩
        have nm := name_of (x := x) hlow (by omega) mt
        have kpM : Keep p H M := kp3.trans (mk.fin hD)
        have ones : ∀ y ∈ ys, Tz 1 y := fun y hy => by
          obtain ⟨c, rfl, hc⟩ := mt y hy
          refine Tz.one ?_
          simp only [lowB, digB, Bool.or_eq_true, decide_eq_true_eq] at hc
          omega
        have sm := sum_le ones
        have nl := (name_ok nm).2
        rw [Str.length_append] at nl
        have z0 : ("" : Str).length = 0 := by decide +kernel
        refine ⟨_, D, ys, rfl, rfl, .inl (SqL.of mD), by rw [z0]; omega, _, _, rfl, rfl, by omega, ?_⟩
        exact q _ M nm (mb.mono (by omega)) kpM

abbrev sRw : Stmt := top 78
abbrev nRw : List Str := ["_law_box_here", "_law_most", "_law_samples", "_law_found", "_law_k", "_law_name", "_law_way", "_law_row", "_law_j"]
theorem scRw : FnScope nRw ["_law_box_here", "_law_most", "_law_samples"] (defScope sRw) := ⟨rfl, rfl, rfl, by decide +kernel, rfl, by decide +kernel, by decide +kernel⟩

theorem ok_Rw (F : Fun K "_law_rows" "_law_rows" sRw f fd) (T : TxtL mg) (C : Cg P w K mg base 1 "_law_take" spTake) (LB : Cg P w K mg base 2 "_law_label" spLab) : FnG P w K mg base CX0 3 f fd ["_law_box_here", "_law_most", "_law_samples"] (spRowsD K) := by
  refine FunG.ok F scRw (fun vs H Q E h => ?_) (fun cdv B out s H vs Q E hr hG h => ?_)
  · obtain ⟨p, n, m, rfl, _⟩ := h
    rfl
  · obtain ⟨p, n, m, rfl, hb, hn, hm1, hm2, q⟩ := h
    refine ⟨_, (pss_cons (ps_set (i := 3) scRw.nd rfl (.inr rfl) (pe_lst pa_nil))
      (pss_cons (ps_for PassesOwn.never rfl (pi_range1 (by rfl) T.range (pa_cons (pe_op op_add pe_int (pe_g C hr hG (by decide) (by rfl) (pa_cons (pv 0) (pa_cons (pv 1) pa_nil)))) pa_nil)) (pg_name (i := 4) scRw.nd rfl (Or.inl rfl)) (pss_cons (ps_par (i := 5) (j := 6) rfl scRw.nd rfl rfl (by decide) rfl rfl (pa_cons (pe_g LB hr hG (by decide) (by rfl) (pa_cons (pv 0) pa_nil)) (pa_cons (pe_g C hr hG (by decide) (by rfl) (pa_cons (pv 0) (pa_cons pe_int pa_nil))) pa_nil)) (by rfl))
        (pss_cons (ps_set (i := 7) scRw.nd rfl (.inl rfl) (pe_tup (pa_cons (pv 5) (pa_cons (pe_tup pa_nil) pa_nil))))
        (C8.pss_cut (ps_if (PW.pt (pw_and (pt_cmpR op_lt (pv 6) pe_int (nomark _)) (pw_and1 (pt_val (pv 2))))) (pss_one (ps_set (i := 7) scRw.nd rfl (.inl rfl) (pe_tup (pa_cons (pe_ix ix_list (pe_lst (pa_cons pe_str (pa_cons pe_str (pa_cons (pv 5) pa_nil)))) (pe_g C hr hG (by decide) (by rfl) (pa_cons (pv 0) (pa_cons pe_int pa_nil))) fun _ _ => rfl) (pa_cons (pe_g C hr hG (by decide) (by rfl) (pa_cons (pv 0) (pa_cons pe_int pa_nil))) pa_nil))))) (pss_one (ps_if (PW.pt (pw_and (pt_cmpR op_lt (pv 6) pe_int (nomark _)) (pw_and1 (pt_cmpR (op_neD hr.units) (pv 3) (pe_lst pa_nil) (nomark _))))) (pss_one (ps_set (i := 7) scRw.nd rfl (.inl rfl) (pe_tup (pa_cons (pv 5) (pa_cons (pe_callTy call_tuple_of (by rfl) T.tuple (by decide +kernel) (pa_cons (pe_lc (own := [("_law_j", 8)]) (g := gName 8) (tt := tYes) rfl scRw.nd (pi_range1 (by rfl) T.range (pa_cons (pe_op op_add pe_int (pe_g C hr hG (by decide) (by rfl) (pa_cons (pv 0) (pa_cons pe_int pa_nil)))) pa_nil)) (blkOk_by (N := nRw) (sc := defScope sRw) (by decide +kernel)) (fun _ _ _ _ _ => pg_name (i := 8) scRw.nd rfl (Or.inl rfl)) (fun _ _ _ _ _ => pts_nil) (fun _ _ _ _ _ => (pe_g C hr hG (by decide) (by rfl) (pa_cons (pv 0) (pa_cons (pe_callB (call_lenK (K := K) rfl) (by rfl) T.len PySem.boot_len (pa_cons (pv 3) pa_nil)) pa_nil))))) pa_nil)) pa_nil))))) pss_nil)))
        (pss_one (ps_if (pt_cmpR (op_notInD (hu65 hr)) (pv 7) (pv 3) rfl) (pss_one (ps_expr (pe_bm PySem.F.plainAttrs_list PySem.F.slot_list_append PySem.F.type_list_append mt_append (pv 3) (pa_cons (pv 7) pa_nil)))) pss_nil))))))
      (pss_one (ps_ret (pv 3))))), ?_⟩
    refine ⟨(by show 0 ≤ sizeLine; decide), fun D hD => ?_⟩
    have b0 := hb.new (o := .lst []) hD
    have npD : D ≠ p := (hb.ne hD).symm
    refine ⟨_, rfl, _, rfl, p, m, n, rfl, b0, by omega, small_log (by omega) (by omega), by omega, fun d0 H0 a0 c0 hb0 k0 => ?_⟩
    refine ⟨_, _, rfl, rfl, ⟨_, rfl, by omega, by omega, ?_⟩⟩
    have t0 : H0 D = some (.lst []) := (k0 D npD).trans upd_same
    have kp0 : Keep p H H0 := (Keep.new hD).trans (keep_of k0)
    refine for_range (lo := 0) (n := (1 + d0).toNat) (fun i σ G => ∃ o4 o5 o6 o7, σ = [some (.ref p), some (.int m), some (.bl true), some (.ref D), o4, o5, o6, o7, none] ∧ BoxAt G p (n + 1 + 60 * i) ∧ Keep2 p D H G ∧ ∃ rs, RowsM K G D rs ∧ OkRows rs ∧ rs.Nodup ∧ rs.length ≤ i ∧ (1 ≤ i → 1 ≤ rs.length))
      ⟨_, _, _, _, rfl, hb0, Keep2.of kp0, [], ⟨[], t0, rfl, fun i k a e => by simp at e⟩, okRows_nil, List.nodup_nil, Nat.le_refl _, fun e => absurd e (by decide)⟩ ?_ ?_
    · rintro i σ G hi ⟨o4, o5, o6, o7, rfl, gb, gk, rs, gM, gR, gN, gl, g1⟩
      have hi30 : i < 40 := by omega
      dsimp only [gName]
      refine ⟨_, rfl, p, _, rfl, gb, by omega, fun z H1 hz b1 k1 => ?_⟩
      dsimp only [tNil]
      refine ⟨_, rfl, p, 8, _, rfl, b1, by decide, by decide, by omega, fun d2 H2 a2 c2 b2 k2 => ?_⟩
      refine ⟨_, _, rfl, ?_⟩
      have kp2 : Keep p G H2 := k1.trans (keep_of k2)
      refine ⟨_, rfl, (by show 0 ≤ sizeLine; decide), fun t0 e0 => ⟨(by show 2 ≤ sizeLine; decide), fun t1 e1 => ?_⟩⟩
      obtain ⟨b3, kp3, s3, n3, h3⟩ := step (o := .tup []) b2 kp2 e0
      generalize upd H2 t0 (.tup []) = H3 at b3 kp3 s3 h3 e1 ⊢
      obtain ⟨b4, kp4, s4, n4, h4⟩ := step (o := .tup [V.str z, V.ref t0]) b3 kp3 e1
      have h34 := s4 _ _ h3
      generalize upd H3 t1 (.tup [V.str z, V.ref t0]) = H4 at b4 kp4 s4 h4 h34 ⊢
      have zok := (name_ok hz).1
      refine ⟨fun σ' M => ∃ r k, σ' = [some (.ref p), some (.int m), some (.bl true), some (.ref D), some (.int (0 + (i : Int))), some (.str z), some (.int d2), some (.ref r), none] ∧ BoxAt M p (n + 1 + 60 * i + 55) ∧ Keep2 p D H M ∧ RowsM K M D rs ∧ RowAt K M k r ∧ OkK rs.length k, ?_, ?_⟩
      · have gM4 : RowsM K H4 D rs := gM.keep gb kp4 npD
        have gk4 : Keep2 p D H H4 := gk.next kp4
        refine ⟨_, rfl, _, _, rfl, rfl, _, rfl, ?_⟩
        refine ite2 (fun w1 => ?_) (fun w1 => ?_)
        · refine ⟨_, rfl, _, rfl, iteT ?_⟩
          refine ⟨_, rfl, (by show 3 ≤ sizeLine; decide), fun l1 el1 => ?_⟩
          obtain ⟨b5, kp5, s5, n5, h5⟩ := step (o := .lst [V.str "x", V.str "y", V.str z]) b4 kp4 el1
          have gM5 := gM4.up s5
          generalize upd H4 l1 (.lst [V.str "x", V.str "y", V.str z]) = H5 at b5 kp5 s5 h5 gM5 ⊢
          refine ⟨_, rfl, p, 3, _, rfl, b5, by decide, by decide, by omega, fun d6 H6 a6 c6 b6 k6 => ?_⟩
          have h6 : H6 l1 = some (.lst ([("x" : Str), "y", z].map V.str)) := (k6 l1 n5).trans h5
          obtain ⟨y, hy, hny⟩ : ∃ y : Str, ([("x" : Str), "y", z] : List Str)[d6.toNat]? = some y ∧ nameB (TL.tl y) = true := by
            obtain ⟨j, rfl⟩ : ∃ j : Nat, d6 = (j : Int) := ⟨d6.toNat, by omega⟩
            rw [Int.toNat_natCast]
            match j, (show j < 3 by omega) with
            | 0, _ => exact ⟨_, rfl, by decide +kernel⟩
            | 1, _ => exact ⟨_, rfl, by decide +kernel⟩
            | 2, _ => exact ⟨_, rfl, hz⟩
          have ed6 : d6 = ((d6.toNat : Nat) : Int) := by omega
          refine ⟨l1, _, _, .str y, rfl, rfl, SqL.of h6, (by rw [ed6]; exact atI_nat (by rw [List.getElem?_map, hy]; rfl)), ?_⟩
          refine ⟨_, rfl, p, 5, _, rfl, b6, by decide, by decide, by omega, fun d7 H7 a7 c7 b7 k7 => ⟨(by show 2 ≤ sizeLine; decide), fun r er => ?_⟩⟩
          have kp7 : Keep p G H7 := (kp5.trans (keep_of k6)).trans (keep_of k7)
          obtain ⟨b8, kp8, s8, n8, h8⟩ := step (o := .tup [V.str y, V.int d7]) b7 kp7 er
          exact ⟨r, (y, .inl d7), rfl, b8.mono (by omega), gk.next kp8, gM.keep gb kp8 npD, ⟨(name_ok hny).1, .inl ⟨d7, rfl, SqT.of h8⟩⟩, ⟨hny, a7, small_log a7 (by omega)⟩⟩
        · dsimp only
          refine ⟨_, rfl, _, _, rfl, rfl, _, rfl, ?_⟩
          refine ite2 (fun w2 => ?_) (fun w2 => ?_)
          · obtain ⟨as, hl, hal, hrw⟩ := gM4
            refine ⟨_, rfl, (by show 0 ≤ sizeLine; decide), fun l1 el1 => ?_⟩
            obtain ⟨b5, kp5, s5, n5, h5⟩ := step (o := .lst []) b4 kp4 el1
            have hl5 := s5 _ _ hl
            generalize upd H4 l1 (.lst []) = H5 at b5 kp5 s5 h5 hl5 ⊢
            refine ⟨.list (rs.map rowD), .list [], .lst (SqL.of hl5) (rows_dp hal fun i k a x y => (hrw i k a x y).mono fun _ _ => upT s5), .lst (SqL.of h5) .nil, rows_shaped (okRows_str gR), rfl, _, rfl, ?_⟩
            rw [eqv_nil]
            have rm : ∀ (N : Hp), Keep p H5 N → RowsM K N D rs := fun N kN => (RowsM.keep gb kp4 npD gM).up s5 |>.keep b5 kN npD
            refine ite2 (fun w3 => ?_) (fun w3 => ?_)
            · have hpos : 0 < rs.length := by
                cases rs with
                | nil => exact absurd w3 (by decide)
                | cons k0 rs0 => exact Nat.succ_pos _
              refine ⟨_, rfl, _, rfl, p, 3, _, rfl, b5, by decide, by decide, by omega, fun d6 H6 a6 c6 b6 k6 => ⟨_, _, rfl, rfl, ⟨_, rfl, by omega, by omega, fun C hC => ?_⟩⟩⟩
              have kp6 : Keep p G H6 := kp5.trans (keep_of k6)
              have npC : C ≠ p := (b6.ne hC).symm
              have mM6 : RowsM K H6 D rs := rm H6 (keep_of k6)
              obtain ⟨as6, hl6, hal6, _⟩ := mM6
              have nCD : D ≠ C := ne_of_none hl6 hC
              refine lc_range (lo := 0) (n := (1 + d6).toNat) (fun j M => BoxAt M p (n + 1 + 60 * i + 23 + j) ∧ Keep2 p C H6 M ∧ ∃ ns : List Int, M C = some (.lst (ns.map V.int)) ∧ ns.length = j ∧ ∀ x ∈ ns, 0 ≤ x ∧ x < (rs.length : Int)) ⟨(b6.new hC).mono (by omega), Keep2.of (Keep.new hC), [], upd_same, rfl, fun x hx => absurd hx List.not_mem_nil⟩ ?_ ?_
              · rintro j M hj ⟨mb, mk, ns, mC, ml, mt⟩
                have mD : M D = some (.lst (as6.map V.ref)) := mk D _ npD nCD hl6
                refine ⟨rfl, _, rfl, _, rfl, _, _, rfl, .inl ⟨_, SqL.of mD, rfl⟩, p, _, _, rfl, mb, ?_⟩
                rw [List.length_map, hal6]
                refine ⟨by omega, small_log (by omega) (by omega), by omega, fun d7 M1 r1 r2 mb1 mk1 => ?_⟩
                have mC1 : M1 C = some (.lst (ns.map V.int)) := by rw [mk1 C npC]; exact mC
                refine ⟨ns.map V.int, mC1, (by rw [List.length_map, ml, PySem.sizeLine_eq]; omega), (mb1.mono (by omega)).put npC, (mk.next (keep_of mk1)).put, ns ++ [d7], (by rw [upd_same, List.map_append]; rfl), (by rw [List.length_append, ml]; rfl), fun x hx => ?_⟩
                rcases List.mem_append.mp hx with w | w
                · exact mt x w
                · rw [List.mem_singleton.mp w]
                  exact ⟨r1, r2⟩
              · rintro M ⟨mb, mk, ns, mC, ml, mt⟩
                have kpM : Keep p H6 M := mk.fin hC
                refine ⟨_, _, rfl, .inl ⟨SqL.of mC, fun tp etp => ?_⟩⟩
                obtain ⟨b7, kp7, s7, n7, h7⟩ := step (o := .tup (ns.map V.int)) mb kpM etp
                generalize upd M tp (.tup (ns.map V.int)) = M7 at b7 kp7 s7 h7 ⊢
                refine ⟨(by show 2 ≤ sizeLine; decide), fun r er => ?_⟩
                obtain ⟨b8, kp8, s8, n8, h8⟩ := step (o := .tup [V.str z, V.ref tp]) b7 kp7 er
                have kG := kp6.trans kp8
                exact ⟨r, (z, .inr ns), rfl, b8.mono (by omega), gk.next kG, gM.keep gb kG npD, ⟨zok, .inr ⟨ns, tp, rfl, SqT.of h8, SqT.of (s8 _ _ h7)⟩⟩, ⟨hz, by omega, mt⟩⟩
            · exact ⟨t1, (z, .inr []), rfl, b5.mono (by omega), gk.next kp5, gM.keep gb kp5 npD, ⟨zok, .inr ⟨[], t0, rfl, SqT.of (s5 _ _ h4), SqT.of (s5 _ _ h34)⟩⟩, ⟨hz, Nat.zero_le _, fun x hx => absurd hx List.not_mem_nil⟩⟩
          · exact ⟨t1, (z, .inr []), rfl, b4.mono (by omega), gk4, gM4, ⟨zok, .inr ⟨[], t0, rfl, SqT.of h4, SqT.of h34⟩⟩, ⟨hz, Nat.zero_le _, fun x hx => absurd hx List.not_mem_nil⟩⟩
      · rintro σ' M ⟨r, k, rfl, mb, mk, mM, mr, mok⟩
        obtain ⟨as, hl, hal, hrw⟩ := mM
        have hstr := okRows_str gR
        refine ⟨_, rfl, _, rfl, rowD k, rs.map rowD, row_dp mr, .lst (SqL.of hl) (rows_dp hal hrw), row_shaped mr.1, rows_shaped hstr, _, rfl, ?_⟩
        rw [rows_any]
        cases hh : hasR rs k with
        | true =>
          refine iteF ⟨_, _, _, _, rfl, mb.mono (by omega), mk, rs, ⟨as, hl, hal, hrw⟩, gR, gN, by omega, fun _ => ?_⟩
          have := hasR_iff.mp hh
          exact List.length_pos_of_mem this
        | false =>
          refine iteT ⟨_, rfl, .inl ⟨rfl, _, SqL.of hl⟩, _, rfl, D, _, _, rfl, rfl, hl, (by rw [List.length_map, PySem.sizeLine_eq]; omega), ?_⟩
          refine ⟨_, _, _, _, rfl, (mb.put npD).mono (by omega), mk.put, rs ++ [k], RowsM.snoc hl hal hrw mr, okRows_snoc gR mok, ?_, by rw [List.length_append, List.length_singleton]; omega, fun _ => by rw [List.length_append, List.length_singleton]; omega⟩
          have := addR_nodup gN k
          rwa [(posR_new hh).1] at this
    · rintro σ G ⟨o4, o5, o6, o7, rfl, gb, gk, rs, gM, gR, gN, gl, g1⟩
      exact ⟨_, rfl, q D G rs (gk.fin hD) (gb.mono (by omega)) hD gM gR gN (g1 (by omega)) (by omega)⟩

end
end T56
set_option Elab.async false
set_option linter.all false
set_option maxRecDepth 100000
set_option maxHeartbeats 4000000
namespace T56
open PySem PySem.Spec PyProof.Rows L2 Tp
/-! how many terms two books have between them -/
theorem snocRec {α : Type} {M : List α → Prop} (h0 : M []) (h1 : ∀ l x, M l → M (l ++ [x])) (l : List α) : M l := by
  have : ∀ r : List α, M r.reverse := fun r => by
    induction r with
    | nil => exact h0
    | cons x r ih => rw [List.reverse_cons]; exact h1 _ _ ih
  have q := this l.reverse
  rwa [List.reverse_reverse] at q
/-- a term as a tree -/
inductive Tr
  | s (x : Str) (t : Int)
  | f (x : Str) (as : List Tr)
instance : Inhabited Tr := ⟨.s "" 0⟩
def mkT (l : List Tr) (k : RowK) : Tr := match k.2 with
  | .inl t => .s k.1 t
  | .inr ns => .f k.1 (ns.map fun i => l.getD i.toNat default)
def trs (rs : List RowK) : List Tr := rs.foldl (fun l k => l ++ [mkT l k]) []
theorem trs_snoc (rs : List RowK) (k : RowK) : trs (rs ++ [k]) = trs rs ++ [mkT (trs rs) k] := by unfold trs; rw [List.foldl_append]; rfl
theorem trs_len (rs : List RowK) : (trs rs).length = rs.length := by
  refine snocRec (M := fun rs => (trs rs).length = rs.length) rfl (fun rs k ih => ?_) rs
  rw [trs_snoc, List.length_append, List.length_append, ih]; rfl
theorem mkT_app {l e : List Tr} {k : RowK} {n : Nat} (h : OkK n k) (hl : n ≤ l.length) : mkT (l ++ e) k = mkT l k := by
  obtain ⟨z, r⟩ := k
  cases r with
  | inl t => rfl
  | inr ns =>
    show Tr.f z _ = Tr.f z _
    congr 1
    refine List.map_congr_left fun i hi => ?_
    have := h.2.2 i hi
    rw [List.getD_eq_getElem?_getD, List.getD_eq_getElem?_getD, List.getElem?_append_left (by omega)]
theorem okRows_pre {rs : List RowK} {k : RowK} (h : OkRows (rs ++ [k])) : OkRows rs ∧ OkK rs.length k := by
  refine ⟨fun i j e => ?_, ?_⟩
  · have hi := (List.getElem?_eq_some_iff.mp e).1
    exact h i j (by rw [List.getElem?_append_left hi]; exact e)
  · exact h rs.length k (by rw [List.getElem?_append_right (Nat.le_refl _), Nat.sub_self]; rfl)
theorem trs_at' (rs : List RowK) : OkRows rs → ∀ {n : Nat} {k : RowK}, rs[n]? = some k → (trs rs)[n]? = some (mkT (trs rs) k) := by
  refine snocRec (M := fun rs => OkRows rs → ∀ {n : Nat} {k : RowK}, rs[n]? = some k → (trs rs)[n]? = some (mkT (trs rs) k)) (fun _ n k h => by simp at h) (fun rs j ih hR n k h => ?_) rs
  · obtain ⟨h1, h2⟩ := okRows_pre hR
    have hl := trs_len rs
    rw [trs_snoc]
    rcases Nat.lt_or_ge n rs.length with hn | hn
    · rw [List.getElem?_append_left hn] at h
      rw [List.getElem?_append_left (by omega), ih h1 h, mkT_app (h1 n k h) (by omega)]
    · rw [List.getElem?_append_right hn] at h
      have e0 : n - rs.length = 0 := by
        rcases Nat.eq_zero_or_pos (n - rs.length) with z | z
        · exact z
        · rw [List.getElem?_eq_none (by rw [List.length_singleton]; omega)] at h
          cases h
      rw [e0] at h
      cases h
      rw [List.getElem?_append_right (by omega), show n - (trs rs).length = 0 by omega, mkT_app h2 (by omega)]
      rfl
theorem trs_at {rs : List RowK} (hR : OkRows rs) {n : Nat} {k : RowK} (h : rs[n]? = some k) : (trs rs)[n]? = some (mkT (trs rs) k) := trs_at' rs hR h
theorem mkT_inj {l : List Tr} (hl : l.Nodup) {k j : RowK} {n : Nat} (h1 : OkK n k) (h2 : OkK n j) (hn : n ≤ l.length) (e : mkT l k = mkT l j) : k = j := by
  obtain ⟨z, r⟩ := k
  obtain ⟨y, t⟩ := j
  cases r with
  | inl a =>
    cases t with
    | inl b =>
      have e : Tr.s z a = Tr.s y b := e
      cases e
      rfl
    | inr b => have e : Tr.s z a = Tr.f y _ := e; cases e
  | inr a =>
    cases t with
    | inl b => have e : Tr.f z _ = Tr.s y b := e; cases e
    | inr b =>
      have e5 : Tr.f z (a.map fun i => l.getD i.toNat default) = Tr.f y (b.map fun i => l.getD i.toNat default) := e
      rw [Tr.f.injEq] at e5
      obtain ⟨rfl, e6⟩ := e5
      have ab : a = b := by
        refine List.ext_getElem? fun i => ?_
        have e2 : (a.map fun i => l.getD i.toNat default)[i]? = (b.map fun i => l.getD i.toNat default)[i]? := by rw [e6]
        rw [List.getElem?_map, List.getElem?_map] at e2
        cases ha : a[i]? with
        | none =>
          rw [ha] at e2
          cases hb : b[i]? with
          | none => rfl
          | some y => rw [hb] at e2; cases e2
        | some x =>
          rw [ha] at e2
          cases hb : b[i]? with
          | none => rw [hb] at e2; cases e2
          | some y =>
            rw [hb] at e2
            have bx := h1.2.2 x (List.mem_of_getElem? ha)
            have bY := h2.2.2 y (List.mem_of_getElem? hb)
            have e3 : l.getD x.toNat default = l.getD y.toNat default := Option.some.inj e2
            have lx : x.toNat < l.length := by omega
            have ly : y.toNat < l.length := by omega
            rw [List.getD_eq_getElem?_getD, List.getD_eq_getElem?_getD, List.getElem?_eq_getElem lx, List.getElem?_eq_getElem ly] at e3
            have : x.toNat = y.toNat := (List.getElem_inj hl).mp e3
            congr 1
            omega
      rw [ab]
theorem trs_nodup {rs : List RowK} : OkRows rs → rs.Nodup → (trs rs).Nodup := by
  refine snocRec (M := fun rs => OkRows rs → rs.Nodup → (trs rs).Nodup) (fun _ _ => List.nodup_nil) (fun rs j ih hR hn => ?_) rs
  · obtain ⟨h1, h2⟩ := okRows_pre hR
    obtain ⟨n1, _, n3⟩ := List.nodup_append.mp hn
    have hl := trs_len rs
    have ihn := ih h1 n1
    rw [trs_snoc, List.nodup_append]
    refine ⟨ihn, List.nodup_cons.mpr ⟨List.not_mem_nil, List.nodup_nil⟩, fun a ha b hb e => ?_⟩
    rw [List.mem_singleton.mp hb] at e
    obtain ⟨n, hnl, rfl⟩ := List.getElem_of_mem ha
    have hnr : n < rs.length := by omega
    have e2 := trs_at h1 (List.getElem?_eq_getElem hnr)
    rw [List.getElem?_eq_getElem hnl] at e2
    have e3 : mkT (trs rs) rs[n] = mkT (trs rs) j := (Option.some.inj e2).symm.trans e
    have hk := h1 n _ (List.getElem?_eq_getElem hnr)
    have hk' : OkK rs.length rs[n] := by
      refine ⟨hk.1, ?_⟩
      have := hk.2
      generalize rs[n] = k at this
      obtain ⟨z, r⟩ := k
      cases r with
      | inl t => exact this
      | inr ns => exact ⟨this.1, fun i hi => ⟨(this.2 i hi).1, by have := (this.2 i hi).2; omega⟩⟩
    exact n3 _ (List.getElem_mem hnr) _ List.mem_cons_self (mkT_inj ihn hk' h2 (by omega) e3)
theorem carF_okT {rs : List RowK} (hR : OkRows rs) : ∀ {ps : List Int} {cur : List RowK} {m : List (Int × Int)}, OkRows cur → (∀ p ∈ ps, 0 ≤ p ∧ p.toNat < rs.length) → (∀ (t n : Nat) k, ps[t]? = some (n : Int) → rs[n]? = some k → ∀ x ∈ argsK k, x ∈ m.map (·.1) ∨ x ∈ ps.take t) → (∀ e ∈ m, ∃ a b : Nat, e = ((a : Int), (b : Int)) ∧ b < cur.length ∧ ∃ u, (trs cur)[b]? = some u ∧ (trs rs)[a]? = some u) →
    OkRows (carF rs ps cur m).1 ∧ ∀ u ∈ trs (carF rs ps cur m).1, u ∈ trs cur ∨ u ∈ trs rs
  | [], cur, m, hC, _, _, _ => ⟨hC, fun u hu => .inl hu⟩
  | part :: ps, cur, m, hC, hp, ha, hm => by
    obtain ⟨p0, p1⟩ := hp part List.mem_cons_self
    obtain ⟨n, rfl⟩ : ∃ n : Nat, part = (n : Int) := ⟨part.toNat, by omega⟩
    rw [Int.toNat_natCast] at p1
    obtain ⟨k, hk⟩ : ∃ k, rs[n]? = some k := ⟨_, List.getElem?_eq_getElem p1⟩
    have e : carF rs ((n : Int) :: ps) cur m = carF rs ps (addR cur (movR (lookM m) k)) (m ++ [((n : Int), ((posR cur (movR (lookM m) k) : Nat) : Int))]) := by
      show (match rs[((n : Int)).toNat]? with | some k => _ | none => _) = _
      rw [Int.toNat_natCast, hk]
    rw [e]
    have hin : ∀ x ∈ argsK k, x ∈ m.map (·.1) := fun x hx => by
      rcases ha 0 n k rfl hk x hx with z | z
      · exact z
      · rw [List.take_zero] at z; exact absurd z List.not_mem_nil
    have hok : OkK cur.length (movR (lookM m) k) := movR_ok (hR n k hk) fun x hx => by
      obtain ⟨q, hq, _, e2⟩ := lookM_mem (hin x hx)
      obtain ⟨a, b, eq, hb, _⟩ := hm q hq
      rw [e2, eq]
      dsimp only
      omega
    have hl := trs_len cur
    have hlr := trs_len rs
    have tr : mkT (trs cur) (movR (lookM m) k) = mkT (trs rs) k := by
      obtain ⟨z, r⟩ := k
      cases r with
      | inl t => rfl
      | inr ns =>
        show Tr.f z ((ns.map (lookM m)).map fun i => (trs cur).getD i.toNat default) = Tr.f z (ns.map fun i => (trs rs).getD i.toNat default)
        rw [List.map_map]
        congr 1
        refine List.map_congr_left fun x hx => ?_
        obtain ⟨q, hq, e1, e2⟩ := lookM_mem (hin x hx)
        obtain ⟨a, b, eq, hb, u, u1, u2⟩ := hm q hq
        subst eq
        dsimp only at e1 e2
        show (trs cur).getD (lookM m x).toNat default = (trs rs).getD x.toNat default
        rw [e2, ← e1, Int.toNat_natCast, Int.toNat_natCast, List.getD_eq_getElem?_getD, List.getD_eq_getElem?_getD, u1, u2]
    have hat := trs_at hR hk
    have okA : OkRows (addR cur (movR (lookM m) k)) := by
      cases h : hasR cur (movR (lookM m) k) with
      | true => rw [(posR_old h).1]; exact hC
      | false => rw [(posR_new h).1]; exact okRows_snoc hC hok
    have inA : ∀ u ∈ trs (addR cur (movR (lookM m) k)), u ∈ trs cur ∨ u ∈ trs rs := fun u hu => by
      cases h : hasR cur (movR (lookM m) k) with
      | true => rw [(posR_old h).1] at hu; exact .inl hu
      | false =>
        rw [(posR_new h).1, trs_snoc] at hu
        rcases List.mem_append.mp hu with z | z
        · exact .inl z
        · rw [List.mem_singleton.mp z, tr]
          exact .inr (List.mem_of_getElem? hat)
    have pre : ∃ x, trs (addR cur (movR (lookM m) k)) = trs cur ++ x := by
      cases h : hasR cur (movR (lookM m) k) with
      | true => rw [(posR_old h).1]; exact ⟨[], (List.append_nil _).symm⟩
      | false => rw [(posR_new h).1, trs_snoc]; exact ⟨_, rfl⟩
    have atp : (trs (addR cur (movR (lookM m) k)))[posR cur (movR (lookM m) k)]? = some (mkT (trs rs) k) := by
      rw [trs_at okA (addR_at cur (movR (lookM m) k))]
      obtain ⟨x, ex⟩ := pre
      rw [ex, mkT_app hok (by omega), tr]
    obtain ⟨r1, r2⟩ := carF_okT hR (ps := ps) (cur := addR cur (movR (lookM m) k)) (m := m ++ [((n : Int), ((posR cur (movR (lookM m) k) : Nat) : Int))]) okA (fun p h => hp p (List.mem_cons_of_mem _ h)) (fun t n' k' e1 e2 x hx => by
      rcases ha (t + 1) n' k' e1 e2 x hx with z | z
      · exact .inl (by rw [List.map_append]; exact List.mem_append_left _ z)
      · rw [List.take_succ_cons] at z
        rcases List.mem_cons.mp z with z | z
        · exact .inl (by rw [List.map_append, z]; exact List.mem_append_right _ List.mem_cons_self)
        · exact .inr z) (fun q hq => by
      rcases List.mem_append.mp hq with z | z
      · obtain ⟨a, b, eq, hb, u, u1, u2⟩ := hm q z
        obtain ⟨x, ex⟩ := pre
        have h1 := (addR_len' cur (movR (lookM m) k)).1
        exact ⟨a, b, eq, by omega, u, by rw [ex, List.getElem?_append_left (by omega)]; exact u1, u2⟩
      · rw [List.mem_singleton.mp z]
        exact ⟨n, _, rfl, posR_lt _ _, _, atp, hat⟩)
    refine ⟨r1, fun u hu => ?_⟩
    rcases r2 u hu with z | z
    · exact inA u z
    · exact .inr z
/-- the terms of what is carried are those of both -/
theorem carried_trs {rs qs : List RowK} (hR : OkRows rs) (hQ : OkRows qs) {i : Nat} {ys : List Int} (hP : PartsOf rs i ys) (hi : i < rs.length) : OkRows (carF rs ys qs []).1 ∧ ∀ u ∈ trs (carF rs ys qs []).1, u ∈ trs qs ∨ u ∈ trs rs :=
  carF_okT hR hQ (fun p hp => by
    obtain ⟨n, rfl, h⟩ := (hP.2 p).mp hp
    have := reach_lt hR h
    exact ⟨by omega, by omega⟩) (fun t n k h1 h2 x hx => .inr (args_before hR hP h1 h2 hx)) fun e he => absurd he List.not_mem_nil
theorem trs_few {rs : List RowK} {U : List Tr} (hR : OkRows rs) (hn : rs.Nodup) (h : ∀ u ∈ trs rs, u ∈ U) : rs.length ≤ U.length := by
  have := sub_leG (trs_nodup hR hn) h
  rwa [trs_len] at this
end T56
set_option Elab.async false
set_option linter.all false
set_option maxRecDepth 100000
/-! set(l) of a list of whole numbers, so that sorted can take it -/
namespace Tp
open PySem PySem.Spec PyProof.Rows L2
/-- the set that set() starts with -/
abbrev emO (w : World) : Obj := { cls := .type "set", dict := none, data := .set #[] 0 (.fresh 0 0 (!w.params.followText "set-order")) }
section
variable {P : Program} {w : World} {A : Around} {E : Value → Shared → Prop} {s : Shared}
/-- what the walk over the list leaves -/
def SetDone (w : World) (s : Shared) (ns : List Int) (h' : Heap) (c : Nat) : Prop := SetR w h' s.heap.objs.size (fun j => decide (j ∈ ns)) c ∧ c ≤ ns.length ∧ ∀ b o, s.heap.get? b = some o → h'.get? b = some o
set_option maxHeartbeats 3200000 in
theorem set_of_list {l : Addr} {its : Array Value} (ns : List Int) {Q : Value → Shared → Prop} (hd : A.handled = none) (hl : s.heap.IsList l its) (hv : IntsAre its.toList ns) (room : ns.length + 1 < scanBound)
    (q : ∀ h' tk c, SetDone w s ns h' c → Q (.ref s.heap.objs.size) { s with heap := h', toks := tk }) :
    wpAny (model P w) A (call (.type "set") [.ref l]) Q E s := by
  have many : its.size = ns.length := by
    have := IntsAre.length hv
    rwa [Array.length_toList] at this
  obtain ⟨cc, rest, line⟩ := F.called_set.mro
  have mk := F.called_set.made
  have self := F.called_set.sub
  refine wpAny_call (codeAny_of_tree ?_)
  show wpAny _ _ (callAny (.type "set") _) _ _ _
  refine wpAny_pure ⟨Code.quiet_builtin _ (by decide +kernel), codeAny_builtin F.entry_type_call ?_⟩
  rw [Around.under_plain (weight_type_call_type "set" [.ref l] []) rfl]
  have n1 := F.called_set.notType
  have n2 := F.called_set.canCreate
  have n3 := F.typeCall_set_1 (.ref l)
  repeat (any_goals (first | assumption | wp_step))
  refine codeAny_mono (code_set_led1 (.ref l) (E := E) (Q₁ := fun x t => x = .ref s.heap.objs.size ∧ t = { s with heap := s.heap.push (emO w) }) ⟨rfl, rfl⟩) fun r t ht => ?_
  rcases r with e | fl
  · exact ht
  cases fl with
  | ret x =>
    obtain ⟨rfl, rfl⟩ := ht
    have new : (s.heap.push (emO w)).get? s.heap.objs.size = some (emO w) := Heap.get?_push_size _ rfl
    have isT : Shared.TypeIs { s with heap := s.heap.push (emO w) } (.ref s.heap.objs.size) "set" := ⟨_, new, rfl⟩
    have i1 := F.called_set.init.lookup
    have i2 := F.called_set.init.bind (.ref s.heap.objs.size)
    repeat (any_goals (first | assumption | wp_step))
    refine codeAny_mono (codeAny_call_builtin (R := wants (fun r t => r = .none ∧ ∃ h' tk c, t = { s with heap := h', toks := tk } ∧ SetDone w s ns h' c) E) F.called_set.init.plain F.entry_set_init (check_set_init_1 isT ?_)) fun r t ht => ?_
    · obtain ⟨⟨c0, d0, x0, z0⟩, at0, ec, n0, ed⟩ := hl
      simp only at ec ed
      subst ec
      subst ed
      have at1 := Heap.get?_push_of_some (emO w) at0
      have u1 := F.sub_list_set
      have u2 := F.sub_list_frozenset
      have u3 : (Value.type "list" == Value.type "dict") = false := by decide
      have lst1 : (s.heap.push (emO w)).IsList l its := ⟨_, at1, rfl, n0, rfl⟩
      unfold Builtin.«set.__init__» noKeywords Builtin.Frozenset.updateFrom
      generalize hPI : pyIter = PI
      wp_walk
      subst hPI
      refine wpAny_pyIter_list lst1 ?_
      refine wpAny_bind (wpAny_runValue ?_)
      have below : l < s.heap.objs.size := Heap.lt_size at0
      have hd3 : A.in1.in1.in1.handled = none := by simp [hd]
      have off : l ≠ (s.heap.push (emO w)).objs.size := by
        rw [Heap.size_push]
        exact Nat.ne_of_lt (Nat.lt_succ_of_lt below)
      have off2 : s.heap.objs.size ∉ [(s.heap.push (emO w)).objs.size, l] := by
        rw [Heap.size_push]
        intro z
        rcases List.mem_cons.mp z with z | z
        · exact Nat.ne_of_lt (Nat.lt_succ_self _) z
        · exact Nat.ne_of_gt below (List.mem_singleton.mp z)
      have vals : ∀ (i : Nat) (v : Value), its[i]? = some v → ∃ k t, ns[i]? = some k ∧ v = .int k t := fun i v hi => by
        have lt : i < ns.length := many ▸ (Array.getElem?_eq_some_iff.mp hi).1
        obtain ⟨t, e⟩ := IntsAre.int_at hv i v (by rwa [Array.getElem?_toList])
        refine ⟨ns[i], t, List.getElem?_eq_getElem lt, e.trans ?_⟩
        rw [List.getD_eq_getElem?_getD, List.getElem?_eq_getElem lt] <;> rfl
      refine set_update_ints ((Walks.list hd3 _ l off its).toS) s.heap.objs.size off2 ns many room vals its.size 0 _ (by omega) (Nat.zero_le _) ⟨⟨_, Heap.get?_push_size _ rfl, rfl, rfl⟩, lst1.push _⟩ ⟨0, Nat.le_refl 0, setR_new_at (Heap.get?_push_of_some _ new)⟩ ?_
      intro t c mv hc R
      obtain ⟨h', g', d', tk', os'⟩ := t
      cases (show g' = s.gens from mv.gens)
      cases (show d' = s.drawn from mv.drawn)
      cases (show os' = s.os from mv.os)
      show wpAny _ _ _ _ _ _
      refine wpAny_pure ?_
      show wpAny _ _ (ret Value.none) _ _ _
      refine wpAny_pure ⟨rfl, h', tk', c, rfl, R, by omega, fun b o e => mv.heap b o (fun z => ?_) (Heap.get?_push_of_some _ (Heap.get?_push_of_some _ e))⟩
      have lt := Heap.lt_size e
      rcases List.mem_cons.mp z with z | z
      · exact Nat.ne_of_lt lt z
      · rw [List.mem_singleton.mp z, Heap.size_push] at lt
        exact Nat.lt_asymm lt (Nat.lt_succ_self _)
    · rcases r with e | fl
      · exact ht
      cases fl with
      | ret r =>
        obtain ⟨rfl, h', tk, c, rfl, dn⟩ := ht
        repeat (any_goals (first | assumption | wp_step))
        exact q _ _ _ dn
      | _ => exact ht.elim
  | _ => exact ht.elim
end
section
variable {X : Cx}
theorem sub_count {α : Type} : ∀ {xs ys : List α}, xs.Nodup → (∀ x ∈ xs, x ∈ ys) → xs.length ≤ ys.length
  | [], _, _, _ => Nat.zero_le _
  | x :: xs, ys, hn, h => by
    obtain ⟨a, b, e⟩ := List.append_of_mem (h x List.mem_cons_self)
    obtain ⟨n1, n2⟩ := List.nodup_cons.mp hn
    have := sub_count (ys := a ++ b) n2 fun j hj => by
      have hm := h j (List.mem_cons_of_mem _ hj)
      rw [e] at hm
      simp only [List.mem_append, List.mem_cons] at hm ⊢
      rcases hm with z | rfl | z
      · exact .inl z
      · exact absurd hj n1
      · exact .inr z
    rw [e, List.length_append, List.length_cons, List.length_cons]
    rw [List.length_append] at this
    omega
/-- no more members than there are -/
theorem set_few {w : World} {h : Heap} {a : Addr} {ns m : List Int} {c : Nat} (R : SetR w h a (fun j => decide (j ∈ ns)) c) (hm : ∀ k ∈ ns, k ∈ m) : c ≤ m.length := by
  obtain ⟨o, es, ep, t, _, _, _, _, nd, mem, _, _, hc, _⟩ := R
  have := sub_count nd fun k hk => hm k (of_decide_eq_true ((mem k).mpr hk))
  rw [List.length_map, Array.length_toList] at this
  omega
/-- set(l), l a list of whole numbers, then for sorted -/
def rSetOfL (K : PySem.W.Frag) (w : World) : List V → Hp → VK → Prop := fun xs H Q => ∃ (l : Addr) (ns : List Int), xs = [.ref l] ∧ SqL K H l (ns.map V.int) ∧ ns.length ≤ 1000 ∧ ∀ a c, H a = none → (∀ m : List Int, (∀ k ∈ ns, k ∈ m) → c ≤ m.length) → Q (.ref a) (upd H a (SetO w a (fun j => decide (j ∈ ns)) c))
theorem cr_setOfL (hc : X.calm = true) : CallR X (.type "set") (rSetOfL X.K X.w) := by
  intro pins s σ H xs us Q I r h
  obtain ⟨l, ns, rfl, hl, hn, q⟩ := h
  rw [Vals.ref1 r]
  obtain ⟨its, rv, pl, hz⟩ := I.list hl
  have hi : IntsAre its.toArray.toList ns := ints_of_vals rv
  refine set_of_list (w := X.w) ns (I.ok.hd hc) pl.isList hi (by unfold scanBound; omega) fun h' tk c d => ?_
  exact ⟨.ref s.heap.objs.size, _, I.laid (t' := tk) d.2.2 (Nat.le_refl _) (setO_new d.1), rfl, q _ c (I.hok.fresh (Nat.le_refl _)) fun m hm => set_few d.1 hm⟩
end
end Tp
set_option Elab.async false
set_option linter.all false
set_option maxRecDepth 100000
set_option maxHeartbeats 4000000
namespace T56
open PySem PySem.Spec PyProof.Rows L2 Tp
section
variable {P : Program} {w : World} {K : PySem.W.Frag} {mg : Str → Option Value} {base : Heap} {f : Addr} {fd : FuncData}

theorem op_notInK {X : Cx} {K : PySem.W.Frag} (h : X.K = K) : OpR X (compareOp .NotIn) (rIn K true) := h ▸ op_notIn_seq
theorem in_ints (x : Int) (ns : List Int) : inV (.int x) (ns.map V.int) = decide (x ∈ ns) := by
  induction ns with
  | nil => rfl
  | cons n ns ih =>
    show (_ || inV (.int x) (ns.map V.int)) = _
    rw [ih, Bool.eq_iff_iff]
    show (((n == x) || decide (x ∈ ns)) = true) ↔ _
    rw [Bool.or_eq_true, beq_iff_eq, decide_eq_true_eq, decide_eq_true_eq, List.mem_cons]
    exact ⟨fun h => h.elim (fun e => .inl e.symm) .inr, fun h => h.elim (fun e => .inl e.symm) .inr⟩
theorem flat_ints (ns : List Int) : (ns.map V.int).all flatV = true := List.all_eq_true.mpr fun v hv => by
  obtain ⟨n, _, rfl⟩ := List.mem_map.mp hv
  rfl
/-- the numbers of a term's parts, by the law's own walk -/
def spPartsL (K : PySem.W.Frag) : Sp := fun vs H Q _ => ∃ (l : Addr) (rs : List RowK) (i : Nat), vs = [.ref l, .int (i : Nat)] ∧ RowsL K H l rs ∧ OkRows rs ∧ i < rs.length ∧ rs.length < 64 ∧ ∀ a ys H', Same H H' → H a = none → H' a = some (.lst (ys.map V.int)) → PartsOf rs i ys → Q (.ref a) H'
theorem row_at {H : Hp} {l : Addr} {rs : List RowK} (h : RowsL K H l rs) {n : Nat} {k : RowK} (hk : rs[n]? = some k) : ∃ (as : List Addr) (a : Addr), SqL K H l (as.map V.ref) ∧ as[n]? = some a ∧ RowAt K H k a := by
  obtain ⟨as, h1, h2, h3⟩ := h
  have hn := (List.getElem?_eq_some_iff.mp hk).1
  have : as[n]? = some (as[n]'(by omega)) := List.getElem?_eq_getElem (by omega)
  exact ⟨as, _, h1, this, h3 n k _ hk this⟩

abbrev sPl : Stmt := top 79
abbrev nPl : List Str := ["_law_rows_here", "_law_number", "_law_wanted", "_law_at", "_law_one"]
theorem scPl : FnScope nPl ["_law_rows_here", "_law_number"] (defScope sPl) := ⟨rfl, rfl, rfl, by decide +kernel, rfl, by decide +kernel, by decide +kernel⟩

theorem ok_Pl (F : Fun K "_law_parts" "_law_parts" sPl f fd) (T : TxtL mg) : FnG P w K mg base CX0 1 f fd ["_law_rows_here", "_law_number"] (spPartsL K) := by
  refine FunG.ok F scPl (fun vs H Q E h => ?_) (fun cdv B out s H vs Q E hr hG h => ?_)
  · obtain ⟨l, rs, i, rfl, _⟩ := h
    rfl
  · obtain ⟨l, rs, i, rfl, hL, hR, hi, h64, q⟩ := h
    refine ⟨_, (pss_cons (ps_set (i := 2) scPl.nd rfl (.inr rfl) (pe_lst (pa_cons (pv 1) pa_nil)))
      (pss_cons (ps_for PassesOwn.never rfl (pi_range3 (by rfl) T.range (pa_cons (pv 1) (pa_cons (pe_op op_sub pe_int pe_int) (pa_cons (pe_op op_sub pe_int pe_int) pa_nil)))) (pg_name (i := 3) scPl.nd rfl (Or.inl rfl)) (pss_one (ps_if (PW.pt (pw_and (pt_cmpR op_in_seq (pv 3) (pv 2) rfl) (pw_and1 (pt_val (pe_callB call_isd (by rfl) T.isinstance (by decide +kernel) (pa_cons (pe_ix ix_tup (pe_ix ix_list (pv 0) (pv 3) fun _ _ => rfl) pe_int fun _ _ => rfl) (pa_cons (pe_bltn (by rfl) T.tuple (by decide +kernel) (show RelV (.ty "tuple") _ from rfl)) pa_nil))))))) (pss_one (ps_expr (pe_bm PySem.F.plainAttrs_list PySem.F.slot_list_extend PySem.F.type_list_extend mt_extend (pv 2) (pa_cons (pe_lc (own := [("_law_one", 4)]) (g := gName 4) rfl scPl.nd (pi_tup (pe_ix ix_tup (pe_ix ix_list (pv 0) (pv 3) fun _ _ => rfl) pe_int fun _ _ => rfl)) (blkOk_by (N := nPl) (sc := defScope sPl) (by decide +kernel)) (fun _ _ _ _ _ => pg_name (i := 4) scPl.nd rfl (Or.inl rfl)) (fun _ _ _ _ _ => (pts_one (pt_cmpR (op_notInK (K := K) rfl) (pv 4) (pv 2) rfl))) (fun _ _ _ _ _ => (pv 4))) pa_nil)))) pss_nil)))
      (pss_one (ps_ret (pe_callB (cr_sortedSet rfl) (by rfl) T.sorted (by decide +kernel) (pa_cons (pe_callTy (cr_setOfL rfl) (by rfl) T.set (by decide +kernel) (pa_cons (pv 2) pa_nil)) pa_nil)))))), ?_⟩
    refine ⟨_, rfl, (by show 1 ≤ sizeLine; decide), fun wl hwl => ?_⟩
    have s1 : Same H (upd H wl (.lst [V.int (i : Nat)])) := Same.put hwl
    have t1 : (upd H wl (.lst [V.int (i : Nat)])) wl = some (.lst ([(i : Int)].map V.int)) := upd_same
    generalize upd H wl (.lst [V.int (i : Nat)]) = H1 at s1 t1 ⊢
    dsimp only [gName]
    have r3 : RgC (i : Int) (0 - 1) (0 - 1) (i + 1) := by
      have := RgC.neg (i := (i : Int)) (j := 0 - 1) (by omega) (by omega) (by decide) (by decide)
      rwa [show ((i : Int) - (0 - 1)).toNat = i + 1 by omega] at this
    refine ⟨_, rfl, _, _, rfl, rfl, _, _, rfl, rfl, _, _, _, i + 1, rfl, r3, ?_⟩
    refine for_it walk_rangeC (fun t σ G => ∃ o3 ws, σ = [some (.ref l), some (.int (i : Nat)), some (.ref wl), o3, none] ∧ Same H G ∧ G wl = some (.lst (ws.map V.int)) ∧ wantL rs (i + 1 - t) ws = wantL rs (i + 1) [(i : Int)] ∧ (∀ x ∈ ws, 0 ≤ x ∧ x < (rs.length : Int)) ∧ ws.length ≤ 1 + 3 * t)
      ⟨_, [(i : Int)], rfl, s1, t1, rfl, fun x hx => by rw [List.mem_singleton.mp hx]; omega, Nat.le_refl 1⟩ (fun _ _ _ _ _ => trivial) ?_ ?_
    · rintro t x σ G0 G ht ⟨o3, ws, rfl, sG, gw, hw, hb, hlen⟩ ⟨rfl, hx⟩
      obtain ⟨n, hn⟩ : ∃ n : Nat, n = i - t := ⟨_, rfl⟩
      have ex : x = .int (n : Nat) := by
        rw [hx]
        have e0 : (i : Int) + (t : Nat) * (0 - 1) = (n : Nat) := by omega
        exact congrArg V.int e0
      subst ex
      have hnl : n < rs.length := by omega
      obtain ⟨k, hk⟩ : ∃ k, rs[n]? = some k := ⟨_, List.getElem?_eq_getElem hnl⟩
      have ew : wantL rs (n + 1) ws = wantL rs n (if (n : Int) ∈ ws then ws ++ (argsK k).filter fun x => decide (x ∉ ws) else ws) := by
        show wantL rs n (match rs[n]? with | some k => _ | none => _) = _
        rw [hk]
      rw [show i + 1 - t = n + 1 by omega, ew] at hw
      have en : i + 1 - (t + 1) = n := by omega
      dsimp only [gName]
      refine ⟨_, rfl, _, rfl, wl, ws.map V.int, rfl, .inl (SqL.of gw), rfl, flat_ints ws, _, rfl, ?_⟩
      refine ite2 (fun h1 => ?_) (fun h1 => ?_)
      · have h1 : inV (.int (n : Nat)) (ws.map V.int) = true := h1
        rw [in_ints, decide_eq_true_eq] at h1
        rw [if_pos h1] at hw
        obtain ⟨as, a, hS, ha, hA⟩ := row_at (hL.up sG) hk
        have hok := hR n k hk
        obtain ⟨z, r⟩ := k
        obtain ⟨hz, ⟨m, e, hT⟩ | ⟨ns, b, e, hT, hbT⟩⟩ := hA
        · dsimp only at e
          subst e
          refine ⟨_, rfl, _, rfl, l, _, _, .ref a, rfl, rfl, hS, atI_nat (j := n) (by rw [List.getElem?_map, ha]; rfl), a, _, _, .int m, rfl, rfl, hT, atI_nat (j := 1) rfl, _, _, _, _, rfl, .ty _, (vk_int m).kd.is "tuple" (by decide), _, rfl, ?_⟩
          refine iteF ⟨_, ws, rfl, sG, gw, ?_, hb, by omega⟩
          rw [en, ← hw]
          show wantL rs n ws = wantL rs n (ws ++ [])
          rw [List.append_nil]
        · dsimp only at e
          subst e
          have h3 : ns.length ≤ 3 := hok.2.1
          refine ⟨_, rfl, _, rfl, l, _, _, .ref a, rfl, rfl, hS, atI_nat (j := n) (by rw [List.getElem?_map, ha]; rfl), a, _, _, .ref b, rfl, rfl, hT, atI_nat (j := 1) rfl, _, _, _, _, rfl, .ty _, (vk_tuple hbT).kd.is "tuple" (by decide), _, rfl, ?_⟩
          refine iteT ⟨_, rfl, .inl ⟨rfl, _, SqL.of gw⟩, ?_⟩
          refine ⟨_, rfl, _, rfl, l, _, _, .ref a, rfl, rfl, hS, atI_nat (j := n) (by rw [List.getElem?_map, ha]; rfl), a, _, _, .ref b, rfl, rfl, hT, atI_nat (j := 1) rfl, b, rfl, ⟨_, hbT⟩, fun D hD => ?_⟩
          have nwD : wl ≠ D := ne_of_none gw hD
          refine lc_it (walk_tup (xs := ns.map V.int)) (fun j M => Same G M ∧ M D = some (.lst (((ns.take j).filter fun x => decide (x ∉ ws)).map V.int))) ⟨Same.put hD, upd_same⟩ (fun _ _ _ h => upT h.1 hbT) ?_ ?_
          · rintro j v M0 M hj ⟨sM, mD⟩ ⟨rfl, hv⟩
            rw [List.getElem?_map] at hv
            obtain ⟨y, hy, rfl⟩ := Option.map_eq_some_iff.mp hv
            refine ⟨rfl, _, rfl, _, rfl, wl, ws.map V.int, rfl, .inl (SqL.of (sM _ _ gw)), rfl, flat_ints ws, _, rfl, ?_⟩
            have et : (ns.take (j + 1)).filter (fun x => decide (x ∉ ws)) = (ns.take j).filter (fun x => decide (x ∉ ws)) ++ (if y ∈ ws then [] else [y]) := by
              rw [List.take_add_one, hy, List.filter_append]
              by_cases hh : y ∈ ws
              · rw [if_pos hh]
                simp [hh]
              · rw [if_neg hh]
                simp [hh]
            refine ite2 (fun h2 => ?_) (fun h2 => ?_)
            · have h2 : (!inV (.int y) (ws.map V.int)) = true := h2
              rw [in_ints] at h2
              have h2' : y ∉ ws := by simpa using h2
              refine ⟨_, rfl, _, mD, ?_, fun c o e => (upd_ne (ne_of_none e hD)).trans (sM c o e), ?_⟩
              · have := List.length_filter_le (fun x => decide (x ∉ ws)) (ns.take j)
                rw [List.length_map, PySem.sizeLine_eq]
                rw [List.length_take] at this
                omega
              · rw [upd_same, et, if_neg h2', List.map_append]
                rfl
            · have h2 : ¬ (!inV (.int y) (ws.map V.int)) = true := h2
              rw [in_ints] at h2
              have h2' : y ∈ ws := by simpa using h2
              refine ⟨sM, ?_⟩
              rw [et, if_pos h2', List.append_nil]
              exact mD
          · rintro M ⟨sM, mD⟩
            rw [List.length_map, List.take_length] at mD
            have hfl := List.length_filter_le (fun x => decide (x ∉ ws)) ns
            refine ⟨wl, D, _, _, rfl, rfl, sM _ _ gw, mD, (by rw [List.length_map, List.length_map, PySem.sizeLine_eq]; omega), ?_⟩
            have hwH : H wl = none := hwl
            refine ⟨_, ws ++ ns.filter (fun x => decide (x ∉ ws)), rfl, fun c o e => (upd_ne (ne_of_none e hwl)).trans (sM _ _ (sG c o e)), ?_, ?_, fun x hx => ?_, ?_⟩
            · rw [upd_same, List.map_append]
            · rw [en]
              exact hw
            · rcases List.mem_append.mp hx with h | h
              · exact hb x h
              · have := hok.2.2 x (List.mem_filter.mp h).1
                omega
            · rw [List.length_append]
              omega
      · have h1 : ¬ inV (.int (n : Nat)) (ws.map V.int) = true := h1
        rw [in_ints, decide_eq_true_eq] at h1
        rw [if_neg h1] at hw
        refine iteF ⟨_, ws, rfl, sG, gw, by rw [en]; exact hw, hb, by omega⟩
    · rintro σ G ⟨o3, ws, rfl, sG, gw, hw, hb, hlen⟩
      rw [Nat.sub_self] at hw
      have hw : ws = wantL rs (i + 1) [(i : Int)] := hw
      refine ⟨_, rfl, wl, ws, rfl, SqL.of gw, by omega, fun a c ha hc => ?_⟩
      have sa : Same G (upd G a (SetO w a (fun j => decide (j ∈ ws)) c)) := Same.put ha
      have c64 : c < 64 := by
        have := hc ((List.range rs.length).map fun n : Nat => (n : Int)) fun x hx => by
          have := hb x hx
          exact List.mem_map.mpr ⟨x.toNat, List.mem_range.mpr (by omega), by omega⟩
        rw [List.length_map, List.length_range] at this
        omega
      refine ⟨a, _, c, rfl, upd_same, c64, fun ns p hs hm hl hp => ?_⟩
      have hpG : H p = none := same_none (Same.tr sG sa) hp
      refine q p ns _ (Same.tr (Same.tr sG sa) (Same.put hp)) hpG upd_same ⟨hs, fun j => ?_⟩
      rw [hm j, decide_eq_true_eq, hw]
      exact wantL_parts hR hi j

end
end T56
set_option Elab.async false
set_option linter.all false
set_option maxRecDepth 100000
set_option maxHeartbeats 4000000
namespace T56
open PySem PySem.Spec PyProof.Rows L2 Tp
section
variable {P : Program} {w : World} {K : PySem.W.Frag} {mg : Str → Option Value} {base : Heap} {f : Addr} {fd : FuncData}

theorem row_rest {H : Hp} {k : RowK} {x : V} {a : Addr} (hz : PyData.strOk k.1 = true) (h : RestAt K H x k) (ha : SqT K H a [.str k.1, x]) : RowAt K H k a := by
  rcases h with ⟨n, rfl, e⟩ | ⟨b, ns, rfl, hb, e⟩
  · exact ⟨hz, .inl ⟨n, e, ha⟩⟩
  · exact ⟨hz, .inr ⟨ns, b, e, ha, hb⟩⟩
/-- the rows once a term is carried, by the law's own walk -/
def spCarL (K : PySem.W.Frag) : Sp := fun vs H Q _ => ∃ (l lo : Addr) (rs qs : List RowK) (j : Nat), vs = [.ref l, .ref lo, .int (j : Nat)] ∧ RowsL K H l rs ∧ RowsL K H lo qs ∧ OkRows rs ∧ OkRows qs ∧ j < qs.length ∧ qs.length < 64 ∧ rs.length ≤ 1000 ∧
  ∀ t D ys H', PartsOf qs j ys → Same H H' → H D = none → RowsM K H' D (carF qs ys rs []).1 → SqT K H' t [.ref D, .int (lookM (carF qs ys rs []).2 j)] → Q (.ref t) H'

abbrev sCl : Stmt := top 81
abbrev nCl : List Str := ["_law_rows_here", "_law_other", "_law_number", "_law_found", "_law_places", "_law_part", "_law_name", "_law_rest", "_law_one"]
theorem scCl : FnScope nCl ["_law_rows_here", "_law_other", "_law_number"] (defScope sCl) := ⟨rfl, rfl, rfl, by decide +kernel, rfl, by decide +kernel, by decide +kernel⟩

theorem ok_Cl (F : Fun K "_law_carried" "_law_carried" sCl f fd) (T : TxtL mg) (PL : Cg P w K mg base 1 "_law_parts" (spPartsL K)) : FnG P w K mg base CX0 2 f fd ["_law_rows_here", "_law_other", "_law_number"] (spCarL K) := by
  refine FunG.ok F scCl (fun vs H Q E h => ?_) (fun cdv B out s H vs Q E hr hG h => ?_)
  · obtain ⟨l, lo, rs, qs, j, rfl, _⟩ := h
    rfl
  · obtain ⟨l, lo, rs, qs, j, rfl, hL, hLo, hR, hQ, hj, h64, h1k, q⟩ := h
    refine ⟨_, (pss_cons (ps_asg (pe_tup (pa_cons (pe_callTy call_list_of (by rfl) T.list (by decide +kernel) (pa_cons (pv 0) pa_nil)) (pa_cons pe_dnewK pa_nil))) (pg_tup rfl (pgs_cons (pg_name (i := 3) scCl.nd rfl (Or.inl rfl)) (pgs_cons (pg_name (i := 4) scCl.nd rfl (Or.inr rfl)) pgs_nil))))
      (pss_cons (ps_for PassesOwn.never rfl (pi_list (pe_g PL hr hG (by decide) (by rfl) (pa_cons (pv 1) (pa_cons (pv 2) pa_nil)))) (pg_name (i := 5) scCl.nd rfl (Or.inl rfl)) (pss_cons (ps_asg (pe_ix ix_list (pv 1) (pv 5) fun _ _ => rfl) (pg_tup rfl (pgs_cons (pg_name (i := 6) scCl.nd rfl (Or.inl rfl)) (pgs_cons (pg_name (i := 7) scCl.nd rfl (Or.inl rfl)) pgs_nil))))
        (C8.pss_cut (ps_if (pt_val (pe_callB call_isd (by rfl) T.isinstance (by decide +kernel) (pa_cons (pv 7) (pa_cons (pe_bltn (by rfl) T.tuple (by decide +kernel) (show RelV (.ty "tuple") _ from rfl)) pa_nil)))) (pss_one (ps_set (i := 7) scCl.nd rfl (.inl rfl) (pe_callTy call_tuple_of (by rfl) T.tuple (by decide +kernel) (pa_cons (pe_lc (own := [("_law_one", 8)]) (g := gName 8) (tt := tYes) rfl scCl.nd (pi_tup (pv 7)) (blkOk_by (N := nCl) (sc := defScope sCl) (by decide +kernel)) (fun _ _ _ _ _ => pg_name (i := 8) scCl.nd rfl (Or.inl rfl)) (fun _ _ _ _ _ => pts_nil) (fun _ _ _ _ _ => (pe_dget (hu1 hr) (pv 4) (pv 8) (fun _ _ => rfl)))) pa_nil)))) pss_nil)
        (C8.pss_cut (ps_if (pt_cmpR (op_notInD (hu65 hr)) (pe_tup (pa_cons (pv 6) (pa_cons (pv 7) pa_nil))) (pv 3) rfl) (pss_one (ps_expr (pe_bm PySem.F.plainAttrs_list PySem.F.slot_list_append PySem.F.type_list_append mt_append (pv 3) (pa_cons (pe_tup (pa_cons (pv 6) (pa_cons (pv 7) pa_nil))) pa_nil)))) pss_nil)
        (pss_one (ps_dput (hu1 hr) (pv 4) (pv 5) (pe_bm PySem.F.plainAttrs_list PySem.F.slot_list_index PySem.F.type_list_index (mt_indexD (hu65 hr)) (pv 3) (pa_cons (pe_tup (pa_cons (pv 6) (pa_cons (pv 7) pa_nil))) pa_nil)) rfl))))))
      (pss_one (ps_ret (pe_tup (pa_cons (pv 3) (pa_cons (pe_dget (hu1 hr) (pv 4) (pv 2) (fun _ _ => rfl)) pa_nil))))))), ?_⟩
    obtain ⟨as, hS, hal, hrw⟩ := hL
    refine ⟨_, rfl, l, _, rfl, .inl hS, fun D hD => ?_⟩
    have s1 : Same H (upd H D (.lst (as.map V.ref))) := Same.put hD
    have t1 : (upd H D (.lst (as.map V.ref))) D = some (.lst (as.map V.ref)) := upd_same
    generalize upd H D (.lst (as.map V.ref)) = H1 at s1 t1 ⊢
    refine fun z hz => ?_
    have s2 : Same H1 (upd H1 z (.dK [])) := Same.put hz
    have t2 : (upd H1 z (.dK [])) z = some (.dK (kvM [])) := upd_same
    have hzH : H z = none := same_none s1 hz
    have nDz : D ≠ z := ne_of_none t1 hz
    generalize upd H1 z (.dK []) = H2 at s2 t2 ⊢
    refine ⟨(by show 2 ≤ sizeLine; decide), fun t0 et0 => ?_⟩
    have s3 : Same H2 (upd H2 t0 (.tup [V.ref D, V.ref z])) := Same.put et0
    have t3 : (upd H2 t0 (.tup [V.ref D, V.ref z])) t0 = some (.tup [V.ref D, V.ref z]) := upd_same
    generalize upd H2 t0 (.tup [V.ref D, V.ref z]) = H3 at s3 t3 ⊢
    refine ⟨t0, _, rfl, SqT.of t3, rfl, _, _, rfl, _, _, rfl, rfl, ?_⟩
    have s123 := Same.tr s1 (Same.tr s2 s3)
    refine ⟨_, rfl, _, rfl, lo, qs, j, rfl, hLo.up s123, hQ, hj, h64, fun y ys H4 s4 hy t4 hP => ⟨y, rfl, ⟨_, SqL.of t4⟩, ?_⟩⟩
    have d3 := s3 _ _ (s2 _ _ t1)
    have z3 := s3 _ _ t2
    have nDy : D ≠ y := ne_of_none d3 hy
    have nzy : z ≠ y := ne_of_none z3 hy
    have s14 := Same.tr s123 s4
    have hyl : ys.length ≤ 64 := by
      have h2 : ys.Nodup := hP.1.imp fun h => by omega
      have hs : ∀ x ∈ ys, x ∈ (List.range qs.length).map fun n : Nat => (n : Int) := fun x hx => by
        obtain ⟨n, rfl, h⟩ := (hP.2 x).mp hx
        have := reach_lt hQ h
        exact List.mem_map.mpr ⟨n, List.mem_range.mpr (by omega), rfl⟩
      have := sub_leG h2 hs
      rw [List.length_map, List.length_range] at this
      omega
    refine for_list (xs := ys.map V.int) (fun t σ G => ∃ cur m o5 o6 o7, σ = [some (.ref l), some (.ref lo), some (.int (j : Nat)), some (.ref D), some (.ref z), o5, o6, o7, none] ∧ Same H G ∧ RowsM K G D cur ∧ G z = some (.dK (kvM m)) ∧ G y = some (.lst (ys.map V.int)) ∧ m.map (·.1) = ys.take t ∧ carF qs (ys.drop t) cur m = carF qs ys rs [] ∧ OkRows cur ∧ (∀ e ∈ m, 0 ≤ e.2 ∧ e.2 < (cur.length : Int)) ∧ cur.length ≤ rs.length + t)
      ⟨rs, [], _, _, _, rfl, s14, ⟨as, s4 _ _ d3, hal, fun i k a e1 e2 => (hrw i k a e1 e2).mono fun _ _ => upT s14⟩, s4 _ _ z3, t4, rfl, rfl, hR, (fun e he => absurd he List.not_mem_nil), Nat.le_refl _⟩ (fun _ _ _ _ h => SqL.of (let ⟨_, _, _, _, _, _, _, _, _, hy, _⟩ := h; hy)) ?_ ?_
    · rintro t v σ G hx ⟨cur, m, o5, o6, o7, rfl, sG, gM, gz, gy, mk, hF, hC, hbd, hle⟩
      rw [List.getElem?_map] at hx
      obtain ⟨part, hp, rfl⟩ := Option.map_eq_some_iff.mp hx
      obtain ⟨n, rfl, hr'⟩ := (hP.2 part).mp (List.mem_of_getElem? hp)
      have hni := reach_lt hQ hr'
      have hnl : n < qs.length := by omega
      obtain ⟨k, hk⟩ : ∃ k, qs[n]? = some k := ⟨_, List.getElem?_eq_getElem hnl⟩
      obtain ⟨hit, eit⟩ := List.getElem?_eq_some_iff.mp hp
      have hdr : ys.drop t = (n : Int) :: ys.drop (t + 1) := by rw [List.drop_eq_getElem_cons hit, eit]
      rw [hdr] at hF
      have sFe : carF qs ((n : Int) :: ys.drop (t + 1)) cur m = carF qs (ys.drop (t + 1)) (addR cur (movR (lookM m) k)) (m ++ [((n : Int), ((posR cur (movR (lookM m) k) : Nat) : Int))]) := by
        show (match qs[((n : Int)).toNat]? with | some k => _ | none => _) = _
        rw [Int.toNat_natCast, hk]
      rw [sFe] at hF
      have hnt : (n : Int) ∉ m.map (·.1) := fun h => by
        rw [mk] at h
        obtain ⟨u, hu, eu⟩ := List.getElem_of_mem h
        rw [List.length_take] at hu
        rw [List.getElem_take] at eu
        have := List.pairwise_iff_getElem.mp hP.1 u t (by omega) hit (by omega)
        omega
      have hml : m.length ≤ 64 := by
        have e : m.length = (m.map (·.1)).length := by rw [List.length_map]
        rw [e, mk, List.length_take]
        omega
      have hkey : ∀ x ∈ argsK k, x ∈ m.map (·.1) := fun x hx => by rw [mk]; exact args_before hQ hP hp hk hx
      have hfst : ∀ x ∈ argsK k, valV (kvM m) (Sum.inl x) = some (.int (lookM m x)) := fun x hx => valM m x (hkey x hx)
      have hok := hQ n k hk
      have hokr : OkK cur.length (movR (lookM m) k) := movR_ok hok fun x hx => by
        obtain ⟨e, he, _, e2⟩ := lookM_mem (hkey x hx)
        rw [e2]
        exact hbd e he
      obtain ⟨bs, a0, hSo, ha0, hA⟩ := row_at (hLo.up sG) hk
      obtain ⟨r0, d0, hT, hRA, _, _, _⟩ := row_two hA
      dsimp only [gName]
      refine ⟨_, rfl, _, rfl, lo, _, _, .ref a0, rfl, rfl, hSo, atI_nat (j := n) (by rw [List.getElem?_map, ha0]; rfl), a0, _, rfl, hT, rfl, _, _, rfl, _, _, rfl, rfl, ?_⟩
      have nm := name_ok hok.1
      refine ⟨fun σ' M => ∃ r1, σ' = [some (.ref l), some (.ref lo), some (.int (j : Nat)), some (.ref D), some (.ref z), some (.int (n : Nat)), some (.str k.1), some r1, none] ∧ Same G M ∧ RestAt K M r1 (movR (lookM m) k), ?_, ?_⟩
      · rcases hRA with ⟨u, rfl, e⟩ | ⟨b, ns, rfl, hb, e⟩
        · refine ⟨_, rfl, _, _, _, _, rfl, .ty _, (vk_int u).kd.is "tuple" (by decide), _, rfl, ?_⟩
          exact iteF ⟨_, rfl, Same.refl _, .inl ⟨u, rfl, by unfold movR; rw [e]⟩⟩
        · refine ⟨_, rfl, _, _, _, _, rfl, .ty _, (vk_tuple hb).kd.is "tuple" (by decide), _, rfl, ?_⟩
          have ea : argsK k = ns := by unfold argsK; obtain ⟨z0, r⟩ := k; dsimp only at e; subst e; rfl
          have h3 : ns.length ≤ 3 := by
            obtain ⟨z0, r⟩ := k
            dsimp only at e
            subst e
            exact hok.2.1
          refine iteT ⟨_, rfl, b, rfl, ⟨_, hb⟩, fun C hC => ?_⟩
          refine lc_it (walk_tup (xs := ns.map V.int)) (fun i M => Same G M ∧ M C = some (.lst (((ns.take i).map (lookM m)).map V.int))) ⟨Same.put hC, upd_same⟩ (fun _ _ _ h => upT h.1 hb) ?_ ?_
          · rintro i v M0 M hi ⟨sM, mC⟩ ⟨rfl, hv⟩
            rw [List.getElem?_map] at hv
            obtain ⟨x, hx, rfl⟩ := Option.map_eq_some_iff.mp hv
            have hxm : x ∈ argsK k := by rw [ea]; exact List.mem_of_getElem? hx
            refine ⟨rfl, _, rfl, _, rfl, z, _, rfl, .inl ⟨_, Sum.inl x, .inl (sM _ _ gz), rfl, (hfst x hxm).symm⟩, _, mC, ?_, fun c o e => (upd_ne (ne_of_none e hC)).trans (sM c o e), ?_⟩
            · rw [List.length_map, List.length_map, List.length_take, PySem.sizeLine_eq]
              omega
            · rw [upd_same, List.take_add_one, hx, List.map_append, List.map_append]
              rfl
          · rintro M ⟨sM, mC⟩
            rw [List.length_map, List.take_length] at mC
            refine ⟨C, _, rfl, .inl ⟨SqL.of mC, fun tp etp => ?_⟩⟩
            refine ⟨_, rfl, Same.tr sM (Same.put etp), .inr ⟨tp, ns.map (lookM m), rfl, SqT.of upd_same, by unfold movR; rw [e]⟩⟩
      · rintro σ' M ⟨r1, rfl, sM, hr1⟩
        obtain ⟨k', hk'⟩ : ∃ k', k' = movR (lookM m) k := ⟨_, rfl⟩
        have e1 : k'.1 = k.1 := by rw [hk']; rfl
        rw [← hk'] at hr1 hokr hF
        rw [← e1]
        have nm' : PyData.strOk k'.1 = true := by rw [e1]; exact nm.1
        have mM := gM.up sM
        refine ⟨fun σ' N => σ' = [some (.ref l), some (.ref lo), some (.int (j : Nat)), some (.ref D), some (.ref z), some (.int (n : Nat)), some (.str k'.1), some r1, none] ∧ Same H N ∧ RowsM K N D (addR cur k') ∧ N z = some (.dK (kvM m)) ∧ N y = some (.lst (ys.map V.int)) ∧ RestAt K N r1 k', ?_, ?_⟩
        · refine ⟨_, rfl, _, rfl, (by show 2 ≤ sizeLine; decide), fun r er => ?_⟩
          have s5 : Same M (upd M r (.tup [V.str k'.1, r1])) := Same.put er
          have t5 : (upd M r (.tup [V.str k'.1, r1])) r = some (.tup [V.str k'.1, r1]) := upd_same
          generalize upd M r (.tup [V.str k'.1, r1]) = M5 at s5 t5 ⊢
          have hrow : RowAt K M5 k' r := row_rest nm' (hr1.up s5) (SqT.of t5)
          obtain ⟨bs, hl, hbl, hbr⟩ := mM.up s5
          refine ⟨_, rfl, rowD k', cur.map rowD, row_dp hrow, .lst (SqL.of hl) (rows_dp hbl hbr), row_shaped nm', rows_shaped (okRows_str hC), _, rfl, ?_⟩
          rw [rows_any]
          have sH := Same.tr sG (Same.tr sM s5)
          have z5 := s5 _ _ (sM _ _ gz)
          have y5 := s5 _ _ (sM _ _ gy)
          cases hh : hasR cur k' with
          | true =>
            refine iteF ⟨rfl, sH, ?_, z5, y5, hr1.up s5⟩
            rw [(posR_old hh).1]
            exact ⟨bs, hl, hbl, hbr⟩
          | false =>
            refine iteT ⟨_, rfl, .inl ⟨rfl, _, SqL.of hl⟩, _, rfl, _, rfl, (by show 2 ≤ sizeLine; decide), fun r2 er2 => ?_⟩
            have s6 : Same M5 (upd M5 r2 (.tup [V.str k'.1, r1])) := Same.put er2
            have t6 : (upd M5 r2 (.tup [V.str k'.1, r1])) r2 = some (.tup [V.str k'.1, r1]) := upd_same
            generalize upd M5 r2 (.tup [V.str k'.1, r1]) = M6 at s6 t6 ⊢
            have hrow2 : RowAt K M6 k' r2 := row_rest nm' ((hr1.up s5).up s6) (SqT.of t6)
            have hl6 := s6 _ _ hl
            refine ⟨D, _, _, rfl, rfl, hl6, (by rw [List.length_map, PySem.sizeLine_eq]; omega), rfl, fun c o e => (upd_ne (ne_of_none e hD)).trans (s6 _ _ (sH c o e)), ?_, (upd_ne nDz.symm).trans (s6 _ _ z5), (upd_ne nDy.symm).trans (s6 _ _ y5), ?_⟩
            · rw [(posR_new hh).1]
              exact RowsM.snoc hl6 hbl (fun i k a e1 e2 => (hbr i k a e1 e2).mono fun _ _ => upT s6) hrow2
            · rcases (hr1.up s5).up s6 with ⟨u, e2, e3⟩ | ⟨b, ns, e2, hb, e3⟩
              · exact .inl ⟨u, e2, e3⟩
              · exact .inr ⟨b, ns, e2, SqT.fr (S := [D]) (Frame.put (by simp)) (fun b hb => by rw [List.mem_singleton.mp hb]; exact not_lst hl6) hb, e3⟩
        · rintro σ' N ⟨rfl, sN, nM, nz, ny, nr⟩
          obtain ⟨bs, hl, hbl, hbr⟩ := nM
          have okA : OkRows (addR cur k') := by
            cases h : hasR cur k' with
            | true => rw [(posR_old h).1]; exact hC
            | false => rw [(posR_new h).1]; exact okRows_snoc hC hokr
          obtain ⟨pa, pb⟩ := Tp.posR_at cur k'
          have hal := addR_len' cur k'
          have hpl := posR_lt cur k'
          refine ⟨_, rfl, .inl ⟨rfl, _, SqL.of hl⟩, _, rfl, _, rfl, (by show 2 ≤ sizeLine; decide), fun r er => ?_⟩
          have s5 : Same N (upd N r (.tup [V.str k'.1, r1])) := Same.put er
          have t5 : (upd N r (.tup [V.str k'.1, r1])) r = some (.tup [V.str k'.1, r1]) := upd_same
          generalize upd N r (.tup [V.str k'.1, r1]) = N5 at s5 t5 ⊢
          have hrow : RowAt K N5 k' r := row_rest nm' (nr.up s5) (SqT.of t5)
          have hl5 := s5 _ _ hl
          have hbr5 : ∀ (i : Nat) (k : RowK) (a : Addr), (addR cur k')[i]? = some k → bs[i]? = some a → RowAt K N5 k a := fun i k a e1 e2 => (hbr i k a e1 e2).mono fun _ _ => upT s5
          refine ⟨D, .ref r, rowD k', (addR cur k').map rowD, posR cur k', rowD k', rfl, rfl, .lst (SqL.of hl5) (rows_dp hbl hbr5), row_dp hrow, rows_shaped (okRows_str okA), row_shaped nm', (by rw [List.getElem?_map, pa]; rfl), ((eqv_row k' k').trans (decide_eq_true rfl)), fun i x hi hx => ?_, ?_⟩
          · rw [List.getElem?_map] at hx
            obtain ⟨kz, hkz, rfl⟩ := Option.map_eq_some_iff.mp hx
            rw [eqv_row]
            exact decide_eq_false fun e => pb i hi (by rw [hkz, e])
          · refine ⟨_, rfl, _, rfl, z, _, rfl, .inl ⟨_, Sum.inl (n : Int), s5 _ _ nz, rfl, (by unfold kvM; rw [List.length_map, PySem.sizeLine_eq]; omega), rfl⟩, ?_⟩
            rw [putM hnt]
            have nz5 := s5 _ _ nz
            have fz : Tp.Frame [z] N5 (upd N5 z (.dK (kvM (m ++ [((n : Int), ((posR cur k' : Nat) : Int))])))) := Frame.put (by simp)
            have ntz : ∀ b ∈ [z], NotTup N5 b := fun b hb => by
              rw [List.mem_singleton.mp hb]
              intro xs r
              rcases r with r | ⟨o, r⟩
              · rw [nz5] at r; cases r
              · rw [nz5] at r; cases r
            have hM5 : RowsM K N5 D (addR cur k') := ⟨bs, hl5, hbl, hbr5⟩
            refine ⟨addR cur k', _, _, _, _, rfl, fun c o e => (upd_ne (ne_of_none e hzH)).trans (s5 _ _ (sN c o e)), hM5.fr fz ntz (fun h => nDz (List.mem_singleton.mp h)), upd_same, (upd_ne nzy.symm).trans (s5 _ _ ny), ?_, hF, okA, fun e he => ?_, by omega⟩
            · rw [List.map_append, mk, List.take_add_one, hp]
              rfl
            · rcases List.mem_append.mp he with h | h
              · have := hbd e h
                omega
              · rw [List.mem_singleton.mp h]
                dsimp only
                omega
    · rintro σ G ⟨cur, m, o5, o6, o7, rfl, sG, gM, gz, gy, mk, hF, hC, hbd, hle⟩
      rw [List.length_map] at mk hF
      rw [List.drop_length] at hF
      rw [List.take_length] at mk
      have hmi : (j : Int) ∈ m.map (·.1) := by
        rw [mk]
        exact (hP.2 _).mpr ⟨j, rfl, .refl⟩
      have hF : (cur, m) = carF qs ys rs [] := hF
      refine ⟨_, rfl, _, rfl, _, rfl, z, _, rfl, .inl ⟨_, Sum.inl (j : Int), .inl gz, rfl, (valM m _ hmi).symm⟩, (by show 2 ≤ sizeLine; decide), fun tt ett => ?_⟩
      have s5 : Same G (upd G tt (.tup [V.ref D, V.int (lookM m j)])) := Same.put ett
      refine q tt D ys _ hP (Same.tr sG s5) hD ?_ ?_
      · rw [← hF]
        exact gM.up s5
      · rw [← hF]
        exact SqT.of upd_same

end
end T56
set_option Elab.async false
set_option linter.all false
set_option maxRecDepth 100000
set_option maxHeartbeats 4000000
namespace T56
open PySem PySem.Spec PyProof.Rows L2 Tp
section
variable {P : Program} {w : World} {K : PySem.W.Frag} {mg : Str → Option Value} {base : Heap} {f : Addr} {fd : FuncData}

theorem dp_ints {H : Hp} : ∀ ns : List Int, DpAll K H (ns.map V.int) (ns.map PyData.int)
  | [] => .nil
  | n :: ns => .cons (.int n) (dp_ints ns)
theorem lay_ints : ∀ ns : List Int, PyData.canLayAll0 (ns.map PyData.int) = true ∧ PyData.depthAll (ns.map PyData.int) = 0
  | [] => ⟨rfl, rfl⟩
  | n :: ns => by
    obtain ⟨h1, h2⟩ := lay_ints ns
    simp [PyData.canLayAll0, PyData.canLay0, PyData.depthAll, PyData.depth, h1, h2]
theorem shaped_ints (ns : List Int) : SeqAt.shaped (.list (ns.map PyData.int)) = true := by
  obtain ⟨h1, h2⟩ := lay_ints ns
  unfold SeqAt.shaped
  rw [Bool.and_eq_true]
  exact ⟨by simp only [PyData.canLay0]; exact h1, decide_eq_true (by simp only [PyData.depth, h2]; decide)⟩
theorem valM_none {m : List (Int × Int)} {j : Int} (h : valV (kvM m) (Sum.inl j) = none) : j ∉ m.map (·.1) := fun z => by
  rw [valM m j z] at h
  cases h
theorem valM_some {m : List (Int × Int)} {j : Int} (h : (valV (kvM m) (Sum.inl j)).isSome = true) : j ∈ m.map (·.1) := by
  by_cases z : j ∈ m.map (·.1)
  · exact z
  · exfalso
    have e : valV (kvM m) (Sum.inl j) = none := by
      unfold valV kvM
      rw [Option.map_eq_none_iff, List.find?_eq_none]
      intro q hq
      obtain ⟨e, he, rfl⟩ := List.mem_map.mp hq
      intro w
      have := Sum.inl.inj (of_decide_eq_true w)
      exact z (List.mem_map.mpr ⟨e, he, this⟩)
    rw [e] at h
    cases h
theorem _root_.Tp.RestAt.keep {H H' : Hp} {p : Addr} {n : Nat} {x : V} {k : RowK} (hb : BoxAt H p n) (s : Keep p H H') (h : RestAt K H x k) : RestAt K H' x k := by
  rcases h with ⟨u, e2, e3⟩ | ⟨b, ns, e2, hb2, e3⟩
  · exact .inl ⟨u, e2, e3⟩
  · exact .inr ⟨b, ns, e2, SqT.fr (S := [p]) (fun b o h1 h2 => s b o (fun z => h1 (by rw [z]; exact List.mem_cons_self)) h2) (fun b hb3 => by rw [List.mem_singleton.mp hb3]; exact box_nt hb) hb2, e3⟩
/-- while the other rows are made -/
structure OSt (K : PySem.W.Frag) (H G : Hp) (p D z : Addr) (n : Nat) (rs cur : List RowK) (m : List (Int × Int)) : Prop where
  bx : BoxAt G p n
  kp : Keep p H G
  ro : RowsM K G D cur
  dz : G z = some (.dK (kvM m))
  ok : OkRows cur
  nd : cur.Nodup
  kn : (m.map (·.1)).Nodup
  mb : ∀ e ∈ m, (0 ≤ e.1 ∧ e.1 < (rs.length : Int)) ∧ 0 ≤ e.2 ∧ e.2 < (cur.length : Int)
  le : cur.length ≤ m.length
theorem OSt.few {H G : Hp} {p D z : Addr} {n : Nat} {rs cur : List RowK} {m : List (Int × Int)} (h : OSt K H G p D z n rs cur m) : m.length ≤ rs.length := by
  have := sub_leG h.kn (rs := (List.range rs.length).map fun n : Nat => (n : Int)) fun x hx => by
    obtain ⟨e, he, rfl⟩ := List.mem_map.mp hx
    have := (h.mb e he).1
    exact List.mem_map.mpr ⟨e.1.toNat, List.mem_range.mpr (by omega), by omega⟩
  rwa [List.length_map, List.length_map, List.length_range] at this
theorem OSt.keep {H G G' : Hp} {p D z : Addr} {n n' : Nat} {rs cur : List RowK} {m : List (Int × Int)} (h : OSt K H G p D z n rs cur m) (k : Keep p G G') (hb : BoxAt G' p n') (hD : D ≠ p) (hz : z ≠ p) : OSt K H G' p D z n' rs cur m :=
  ⟨hb, h.kp.trans k, h.ro.keep h.bx k hD, k _ _ hz h.dz, h.ok, h.nd, h.kn, h.mb, h.le⟩
theorem OSt.more {H G : Hp} {p D z : Addr} {n n' : Nat} {rs cur : List RowK} {m : List (Int × Int)} (h : OSt K H G p D z n rs cur m) (e : n ≤ n') : OSt K H G p D z n' rs cur m :=
  ⟨h.bx.mono e, h.kp, h.ro, h.dz, h.ok, h.nd, h.kn, h.mb, h.le⟩
theorem OSt.same {H G G' : Hp} {p D z : Addr} {n : Nat} {rs cur : List RowK} {m : List (Int × Int)} (h : OSt K H G p D z n rs cur m) (s : Same G G') : OSt K H G' p D z n rs cur m :=
  ⟨h.bx.keep s, h.kp.trans (.of s), h.ro.up s, s _ _ h.dz, h.ok, h.nd, h.kn, h.mb, h.le⟩
def spOtherD (K : PySem.W.Frag) : Sp := fun vs H Q _ => ∃ (p l : Addr) (n : Nat) (rs : List RowK), vs = [.ref p, .ref l] ∧ BoxAt H p n ∧ n ≤ 30000 ∧ l ≠ p ∧ RowsM K H l rs ∧ OkRows rs ∧ 1 ≤ rs.length ∧ rs.length ≤ 30 ∧
  ∀ D H' qs, Keep p H H' → BoxAt H' p (n + 5000) → H D = none → RowsM K H' D qs → OkRows qs → qs.Nodup → 1 ≤ qs.length → qs.length ≤ rs.length → Q (.ref D) H'

abbrev sOl : Stmt := top 80
abbrev nOl : List Str := ["_law_box_here", "_law_rows_here", "_law_found", "_law_places", "_law_turn", "_law_at", "_law_name", "_law_rest", "_law_one"]
theorem scOl : FnScope nOl ["_law_box_here", "_law_rows_here"] (defScope sOl) := ⟨rfl, rfl, rfl, by decide +kernel, rfl, by decide +kernel, by decide +kernel⟩

theorem ok_Ol (F : Fun K "_law_other_rows" "_law_other_rows" sOl f fd) (T : TxtL mg) (C : Cg P w K mg base 1 "_law_take" spTake) (LB : Cg P w K mg base 2 "_law_label" spLab) : FnG P w K mg base CX0 3 f fd ["_law_box_here", "_law_rows_here"] (spOtherD K) := by
  refine FunG.ok F scOl (fun vs H Q E h => ?_) (fun cdv B out s H vs Q E hr hG h => ?_)
  · obtain ⟨p, l, n, rs, rfl, _⟩ := h
    rfl
  · obtain ⟨p, l, n, rs, rfl, hb, hn, hlp, hL, hR, h1, h30, q⟩ := h
    refine ⟨_, (pss_cons (ps_asg (pe_tup (pa_cons (pe_lst pa_nil) (pa_cons pe_dnewK pa_nil))) (pg_tup rfl (pgs_cons (pg_name (i := 2) scOl.nd rfl (Or.inl rfl)) (pgs_cons (pg_name (i := 3) scOl.nd rfl (Or.inr rfl)) pgs_nil))))
      (pss_cons (ps_for PassesOwn.never rfl (pi_range1 (by rfl) T.range (pa_cons pe_int pa_nil)) (pg_name (i := 4) scOl.nd rfl (Or.inl rfl)) (pss_one (ps_for PassesOwn.never rfl (pi_range1 (by rfl) T.range (pa_cons (pe_callB call_len (by rfl) T.len PySem.boot_len (pa_cons (pv 1) pa_nil)) pa_nil)) (pg_name (i := 5) scOl.nd rfl (Or.inl rfl)) (pss_cons (ps_if (PW.pt (pw_or (pt_cmp (pc_din (hu1 hr) (pv 5) (pv 3))) (pw_or1 (PW.pt (pw_and (pt_cmpR op_eq (pe_g C hr hG (by decide) (by rfl) (pa_cons (pv 0) (pa_cons pe_int pa_nil))) pe_int (nomark _)) (pw_and1 (pt_cmpR op_eq (pv 4) pe_int (nomark _)))))))) (pss_one (ps_continue)) pss_nil)
          (pss_cons (ps_asg (pe_ix ix_list (pv 1) (pv 5) fun _ _ => rfl) (pg_tup rfl (pgs_cons (pg_name (i := 6) scOl.nd rfl (Or.inl rfl)) (pgs_cons (pg_name (i := 7) scOl.nd rfl (Or.inl rfl)) pgs_nil))))
          (C8.pss_cut (ps_if (pt_val (pe_callB call_isd (by rfl) T.isinstance (by decide +kernel) (pa_cons (pv 7) (pa_cons (pe_bltn (by rfl) T.tuple (by decide +kernel) (show RelV (.ty "tuple") _ from rfl)) pa_nil)))) (pss_cons (ps_if (pt_cmpR (op_neD hr.units) (pe_lc (own := [("_law_one", 8)]) (g := gName 8) rfl scOl.nd (pi_tup (pv 7)) (blkOk_by (N := nOl) (sc := defScope sOl) (by decide +kernel)) (fun _ _ _ _ _ => pg_name (i := 8) scOl.nd rfl (Or.inl rfl)) (fun _ _ _ _ _ => (pts_one (pt_cmp (pc_dnotin (hu1 hr) (pv 8) (pv 3))))) (fun _ _ _ _ _ => (pv 8))) (pe_lst pa_nil) (nomark _)) (pss_one (ps_continue)) pss_nil)
            (pss_one (ps_set (i := 7) scOl.nd rfl (.inl rfl) (pe_callTy call_tuple_of (by rfl) T.tuple (by decide +kernel) (pa_cons (pe_lc (own := [("_law_one", 8)]) (g := gName 8) (tt := tYes) rfl scOl.nd (pi_tup (pv 7)) (blkOk_by (N := nOl) (sc := defScope sOl) (by decide +kernel)) (fun _ _ _ _ _ => pg_name (i := 8) scOl.nd rfl (Or.inl rfl)) (fun _ _ _ _ _ => pts_nil) (fun _ _ _ _ _ => (pe_dget (hu1 hr) (pv 3) (pv 8) (fun _ _ => rfl)))) pa_nil))))) pss_nil)
          (C8.pss_cut (ps_if (pt_cmpR op_eq (pe_g C hr hG (by decide) (by rfl) (pa_cons (pv 0) (pa_cons pe_int pa_nil))) pe_int (nomark _)) (pss_one (ps_set (i := 6) scOl.nd rfl (.inl rfl) (pe_g LB hr hG (by decide) (by rfl) (pa_cons (pv 0) pa_nil)))) pss_nil)
          (C8.pss_cut (ps_if (pt_cmpR (op_notInD (hu65 hr)) (pe_tup (pa_cons (pv 6) (pa_cons (pv 7) pa_nil))) (pv 2) rfl) (pss_one (ps_expr (pe_bm PySem.F.plainAttrs_list PySem.F.slot_list_append PySem.F.type_list_append mt_append (pv 2) (pa_cons (pe_tup (pa_cons (pv 6) (pa_cons (pv 7) pa_nil))) pa_nil)))) pss_nil)
          (pss_one (ps_dput (hu1 hr) (pv 3) (pv 5) (pe_bm PySem.F.plainAttrs_list PySem.F.slot_list_index PySem.F.type_list_index (mt_indexD (hu65 hr)) (pv 2) (pa_cons (pe_tup (pa_cons (pv 6) (pa_cons (pv 7) pa_nil))) pa_nil)) rfl))))))))))
      (pss_one (ps_ret (pe_ifExp (pt_cmpR (op_neD hr.units) (pv 2) (pe_lst pa_nil) (nomark _)) (pv 2) (pe_lst (pa_cons (pe_tup (pa_cons pe_str (pa_cons (pe_tup pa_nil) pa_nil))) pa_nil))))))), ?_⟩
    refine ⟨(by show 0 ≤ sizeLine; decide), fun D hD => ?_⟩
    obtain ⟨b1, kp1, s1, npD, t1⟩ := step (o := .lst []) hb (Keep.refl p H) hD
    generalize upd H D (.lst []) = H1 at b1 kp1 s1 t1 ⊢
    refine fun z hz => ?_
    have hzH : H z = none := same_none s1 hz
    have nDz : D ≠ z := ne_of_none t1 hz
    obtain ⟨b2, kp2, s2, npz, t2⟩ := step (o := .dK []) b1 kp1 hz
    have d2 := s2 _ _ t1
    generalize upd H1 z (.dK []) = H2 at b2 kp2 s2 t2 d2 ⊢
    refine ⟨(by show 2 ≤ sizeLine; decide), fun t0 et0 => ?_⟩
    obtain ⟨b3, kp3, s3, _, t3⟩ := step (o := .tup [V.ref D, V.ref z]) b2 kp2 et0
    have d3 := s3 _ _ d2
    have z3 := s3 _ _ t2
    generalize upd H2 t0 (.tup [V.ref D, V.ref z]) = H3 at b3 kp3 s3 t3 d3 z3 ⊢
    refine ⟨t0, _, rfl, SqT.of t3, rfl, _, _, rfl, _, _, rfl, rfl, ?_⟩
    refine ⟨_, rfl, by decide, by decide, ?_⟩
    refine for_range (lo := 0) (n := 2) (fun t σ G => ∃ o4 o5 o6 o7 cur m, σ = [some (.ref p), some (.ref l), some (.ref D), some (.ref z), o4, o5, o6, o7, none] ∧ OSt K H G p D z (n + 1500 * t) rs cur m) ⟨_, _, _, _, [], [], rfl, ⟨b3.mono (by omega), kp3, ⟨[], d3, rfl, fun i k a e => by simp at e⟩, z3, okRows_nil, List.nodup_nil, List.nodup_nil, (fun e he => absurd he List.not_mem_nil), Nat.le_refl _⟩⟩ ?_ ?_
    · rintro t σ G ht ⟨o4, o5, o6, o7, cur, m, rfl, st⟩
      obtain ⟨as0, hS0, hal0, _⟩ := hL.keep hb st.kp hlp
      dsimp only [gName]
      refine ⟨_, rfl, _, _, rfl, .inl ⟨_, SqL.of hS0, rfl⟩, _, rfl, (by rw [List.length_map]; omega), (by rw [List.length_map]; omega), ?_⟩
      rw [List.length_map, hal0, Int.toNat_natCast]
      refine for_range (lo := 0) (n := rs.length) (fun i σ G => ∃ o5 o6 o7 cur m, σ = [some (.ref p), some (.ref l), some (.ref D), some (.ref z), some (.int (0 + (t : Int))), o5, o6, o7, none] ∧ OSt K H G p D z (n + 1500 * t + 30 * i) rs cur m) ⟨_, _, _, cur, m, rfl, st⟩ ?_ ?_
      · rintro i σ G hi ⟨o5, o6, o7, cur, m, rfl, st⟩
        dsimp only [gName]
        rw [Int.zero_add, Int.zero_add]
        have ht2 : t < 2 := ht
        have few := st.few
        have bxl : (n + 1500 * t + 30 * i) ≤ 40000 := by omega
        refine ⟨_, rfl, _, rfl, z, valV (kvM m) (Sum.inl (i : Int)), rfl, .inl ⟨_, Sum.inl (i : Int), .inl st.dz, rfl, rfl⟩, _, rfl, ?_⟩
        refine ite2 (fun h => ?_) (fun h => ?_)
        · exact iteT ⟨_, _, _, cur, m, rfl, st.more (by omega)⟩
        have hni : (i : Int) ∉ m.map (·.1) := by
          refine valM_none ?_
          cases e : valV (kvM m) (Sum.inl (i : Int)) with
          | none => rfl
          | some v => exact absurd (by show (valV (kvM m) (Sum.inl (i : Int))).isSome = true; rw [e]; rfl) h
        refine ⟨_, rfl, p, 3, _, rfl, st.bx, by decide, by decide, by omega, fun e1 G1 a1 c1 b1 k1 => ⟨rfl, _, rfl, ?_⟩⟩
        have st1 := st.keep (keep_of k1) b1 npD npz
        apply both_of
        case h =>
          intro B
          refine ite2 (fun h2 => ?_) (fun _ => B)
          refine ⟨_, rfl, rfl, _, rfl, ?_⟩
          refine ite2 (fun h3 => ?_) (fun _ => B)
          exact ⟨_, _, _, cur, m, rfl, st1.more (by omega)⟩
        case hB =>
          dsimp only [tNext]
          have hL1 : RowsM K G1 l rs := hL.keep hb st1.kp hlp
          obtain ⟨k, hk⟩ : ∃ k, rs[i]? = some k := ⟨_, List.getElem?_eq_getElem hi⟩
          have hok := hR i k hk
          obtain ⟨bs, a0, hSo, ha0, hA⟩ := row_at hL1.L hk
          obtain ⟨r0, d0, hT, hRA, _, _, _⟩ := row_two hA
          refine ⟨_, rfl, _, rfl, l, _, _, .ref a0, rfl, rfl, hSo, atI_nat (j := i) (by rw [List.getElem?_map, ha0]; rfl), a0, _, rfl, hT, rfl, _, _, rfl, _, _, rfl, rfl, ?_⟩
          have nm := name_ok hok.1
          refine ⟨fun σ' M => ∃ r1 k1, σ' = [some (.ref p), some (.ref l), some (.ref D), some (.ref z), some (.int (t : Int)), some (.int (i : Int)), some (.str k.1), some r1, none] ∧ OSt K H M p D z (n + 1500 * t + 30 * i + 1) rs cur m ∧ RestAt K M r1 k1 ∧ k1.1 = k.1 ∧ OkK cur.length k1, ?_, ?_⟩
          · rcases hRA with ⟨u, rfl, e⟩ | ⟨b, ns, rfl, hb', e⟩
            · refine ⟨_, rfl, _, _, _, _, rfl, .ty _, (vk_int u).kd.is "tuple" (by decide), _, rfl, ?_⟩
              refine iteF ⟨_, (k.1, .inl u), rfl, st1, .inl ⟨u, rfl, rfl⟩, rfl, hok.1, ?_⟩
              have := hok.2
              rw [e] at this
              exact this
            · refine ⟨_, rfl, _, _, _, _, rfl, .ty _, (vk_tuple hb').kd.is "tuple" (by decide), _, rfl, ?_⟩
              have h3 : ns.length ≤ 3 := by
                have := hok.2
                rw [e] at this
                exact this.1
              refine iteT ⟨_, rfl, b, rfl, ⟨_, hb'⟩, fun C hC => ?_⟩
              refine lc_it (walk_tup (xs := ns.map V.int)) (fun i M => Same G1 M ∧ M C = some (.lst (((ns.take i).filter fun x => decide (x ∉ m.map (·.1))).map V.int))) ⟨Same.put hC, upd_same⟩ (fun _ _ _ h => upT h.1 hb') ?_ ?_
              · rintro j v M0 M hj ⟨sM, mC⟩ ⟨rfl, hv⟩
                rw [List.getElem?_map] at hv
                obtain ⟨y, hy, rfl⟩ := Option.map_eq_some_iff.mp hv
                refine ⟨rfl, _, rfl, _, rfl, z, valV (kvM m) (Sum.inl y), rfl, .inl ⟨_, Sum.inl y, .inl (sM _ _ st1.dz), rfl, rfl⟩, _, rfl, ?_⟩
                have et : (ns.take (j + 1)).filter (fun x => decide (x ∉ m.map (·.1))) = (ns.take j).filter (fun x => decide (x ∉ m.map (·.1))) ++ (if y ∈ m.map (·.1) then [] else [y]) := by
                  rw [List.take_add_one, hy, List.filter_append]
                  by_cases hh : y ∈ m.map (·.1)
                  · rw [if_pos hh]
                    simp [hh]
                  · rw [if_neg hh]
                    simp [hh]
                by_cases hy2 : y ∈ m.map (·.1)
                · rw [valM m y hy2]
                  refine iteF ⟨sM, ?_⟩
                  rw [et, if_pos hy2, List.append_nil]
                  exact mC
                · have ev : valV (kvM m) (Sum.inl y) = none := by
                    cases e5 : valV (kvM m) (Sum.inl y) with
                    | none => rfl
                    | some v => exact absurd (valM_some (by rw [e5]; rfl)) hy2
                  rw [ev]
                  refine iteT ⟨_, rfl, _, mC, ?_, fun c o e => (upd_ne (ne_of_none e hC)).trans (sM c o e), ?_⟩
                  · have := List.length_filter_le (fun x => decide (x ∉ m.map (·.1))) (ns.take j)
                    rw [List.length_map, PySem.sizeLine_eq]
                    rw [List.length_take] at this
                    omega
                  · rw [upd_same, et, if_neg hy2, List.map_append]
                    rfl
              · rintro M ⟨sM, mC⟩
                rw [List.length_map, List.take_length] at mC
                refine ⟨(by show 0 ≤ sizeLine; decide), fun E2 hE2 => ?_⟩
                have s2 : Same M (upd M E2 (.lst [])) := Same.put hE2
                have t2 : (upd M E2 (.lst [])) E2 = some (.lst []) := upd_same
                generalize upd M E2 (.lst []) = M2 at s2 t2 ⊢
                have st2 := st1.same (Same.tr sM s2)
                refine ⟨.list ((ns.filter fun x => decide (x ∉ m.map (·.1))).map PyData.int), .list [], .lst (SqL.of (s2 _ _ mC)) (dp_ints _), .lst (SqL.of t2) .nil, shaped_ints _, rfl, _, rfl, ?_⟩
                rw [eqv_nil]
                refine ite2 (fun h4 => ?_) (fun h4 => ?_)
                · exact ⟨_, _, _, cur, m, rfl, st2.more (by omega)⟩
                have hin : ∀ x ∈ ns, x ∈ m.map (·.1) := fun x hx => by
                  by_cases z0 : x ∈ m.map (·.1)
                  · exact z0
                  · refine absurd ?_ h4
                    have : x ∈ ns.filter fun x => decide (x ∉ m.map (·.1)) := List.mem_filter.mpr ⟨hx, decide_eq_true z0⟩
                    cases e6 : ns.filter fun x => decide (x ∉ m.map (·.1)) with
                    | nil => rw [e6] at this; exact absurd this List.not_mem_nil
                    | cons a as => rfl
                have hb2 := upT (Same.tr sM s2) hb'
                refine ⟨_, rfl, b, rfl, ⟨_, hb2⟩, fun C2 hC2 => ?_⟩
                refine lc_it (walk_tup (xs := ns.map V.int)) (fun i N => Same M2 N ∧ N C2 = some (.lst (((ns.take i).map (lookM m)).map V.int))) ⟨Same.put hC2, upd_same⟩ (fun _ _ _ h => upT h.1 hb2) ?_ ?_
                · rintro j v N0 N hj ⟨sN, nC⟩ ⟨rfl, hv⟩
                  rw [List.getElem?_map] at hv
                  obtain ⟨x, hx, rfl⟩ := Option.map_eq_some_iff.mp hv
                  refine ⟨rfl, _, rfl, _, rfl, z, _, rfl, .inl ⟨_, Sum.inl x, .inl (sN _ _ st2.dz), rfl, (valM m x (hin x (List.mem_of_getElem? hx))).symm⟩, _, nC, ?_, fun c o e => (upd_ne (ne_of_none e hC2)).trans (sN c o e), ?_⟩
                  · rw [List.length_map, List.length_map, List.length_take, PySem.sizeLine_eq]
                    omega
                  · rw [upd_same, List.take_add_one, hx, List.map_append, List.map_append]
                    rfl
                · rintro N ⟨sN, nC⟩
                  rw [List.length_map, List.take_length] at nC
                  refine ⟨C2, _, rfl, .inl ⟨SqL.of nC, fun tp etp => ?_⟩⟩
                  refine ⟨_, (k.1, .inr (ns.map (lookM m))), rfl, st2.same (Same.tr sN (Same.put etp)), .inr ⟨tp, ns.map (lookM m), rfl, SqT.of upd_same, rfl⟩, rfl, hok.1, by show (ns.map (lookM m)).length ≤ 3; rw [List.length_map]; exact h3, fun y hy => ?_⟩
                  obtain ⟨x, hx, rfl⟩ := List.mem_map.mp hy
                  obtain ⟨e7, he, _, e8⟩ := lookM_mem (hin x hx)
                  rw [e8]
                  exact (st.mb e7 he).2
          · rintro σ' M ⟨r1, k1, rfl, stM, hr1, e1, ok1⟩
            rw [← e1]
            clear hok nm hA hT hRA hk hSo ha0
            refine ⟨fun σ' N => ∃ k', σ' = [some (.ref p), some (.ref l), some (.ref D), some (.ref z), some (.int (t : Int)), some (.int (i : Int)), some (.str k'.1), some r1, none] ∧ OSt K H N p D z (n + 1500 * t + 30 * i + 25) rs cur m ∧ RestAt K N r1 k' ∧ OkK cur.length k', ?_, ?_⟩
            · refine ⟨_, rfl, p, 6, _, rfl, stM.bx, by decide, by decide, by omega, fun d5 M5 a5 c5 b5 k5 => ⟨rfl, _, rfl, ?_⟩⟩
              have st5 := stM.keep (keep_of k5) b5 npD npz
              have hr5 := hr1.keep stM.bx (keep_of k5)
              refine ite2 (fun _ => ?_) (fun _ => ?_)
              · refine ⟨_, rfl, p, _, rfl, b5, by omega, fun y M6 hy b6 k6 => ?_⟩
                have hr6 := hr5.keep b5 k6
                refine ⟨(y, k1.2), rfl, (st5.keep k6 b6 npD npz).more (by omega), ?_, hy, ok1.2⟩
                exact hr6
              · exact ⟨k1, rfl, st5.more (by omega), hr5, ok1⟩
            · rintro σ' N ⟨k', rfl, stN, hrN, okN⟩
              have nm' : PyData.strOk k'.1 = true := (name_ok okN.1).1
              refine ⟨fun σ' M => σ' = [some (.ref p), some (.ref l), some (.ref D), some (.ref z), some (.int (t : Int)), some (.int (i : Int)), some (.str k'.1), some r1, none] ∧ BoxAt M p (n + 1500 * t + 30 * i + 25) ∧ Keep p H M ∧ RowsM K M D (addR cur k') ∧ M z = some (.dK (kvM m)) ∧ RestAt K M r1 k', ?_, ?_⟩
              · refine ⟨_, rfl, _, rfl, (by show 2 ≤ sizeLine; decide), fun r er => ?_⟩
                have s5 : Same N (upd N r (.tup [V.str k'.1, r1])) := Same.put er
                have t5 : (upd N r (.tup [V.str k'.1, r1])) r = some (.tup [V.str k'.1, r1]) := upd_same
                generalize upd N r (.tup [V.str k'.1, r1]) = M5 at s5 t5 ⊢
                have st5 := stN.same s5
                have hrow : RowAt K M5 k' r := row_rest nm' (hrN.up s5) (SqT.of t5)
                obtain ⟨bs, hl, hbl, hbr⟩ := st5.ro
                refine ⟨_, rfl, rowD k', cur.map rowD, row_dp hrow, .lst (SqL.of hl) (rows_dp hbl hbr), row_shaped nm', rows_shaped (okRows_str st5.ok), _, rfl, ?_⟩
                rw [rows_any]
                cases hh : hasR cur k' with
                | true =>
                  refine iteF ⟨rfl, st5.bx, st5.kp, ?_, st5.dz, hrN.up s5⟩
                  rw [(posR_old hh).1]
                  exact st5.ro
                | false =>
                  refine iteT ⟨_, rfl, .inl ⟨rfl, _, SqL.of hl⟩, _, rfl, _, rfl, (by show 2 ≤ sizeLine; decide), fun r2 er2 => ?_⟩
                  have s6 : Same M5 (upd M5 r2 (.tup [V.str k'.1, r1])) := Same.put er2
                  have t6 : (upd M5 r2 (.tup [V.str k'.1, r1])) r2 = some (.tup [V.str k'.1, r1]) := upd_same
                  generalize upd M5 r2 (.tup [V.str k'.1, r1]) = M6 at s6 t6 ⊢
                  have st6 := st5.same s6
                  have hrow2 : RowAt K M6 k' r2 := row_rest nm' ((hrN.up s5).up s6) (SqT.of t6)
                  have hl6 := s6 _ _ hl
                  refine ⟨D, _, _, rfl, rfl, hl6, (by rw [List.length_map, PySem.sizeLine_eq]; have := st5.le; omega), rfl, st6.bx.put npD, fun c o hc e => (upd_ne (ne_of_none e hD)).trans (st6.kp c o hc e), ?_, (upd_ne nDz.symm).trans st6.dz, ?_⟩
                  · rw [(posR_new hh).1]
                    exact RowsM.snoc hl6 hbl (fun i k a e1 e2 => (hbr i k a e1 e2).mono fun _ _ => upT s6) hrow2
                  · rcases (hrN.up s5).up s6 with ⟨u, e2, e3⟩ | ⟨b, ns, e2, hb, e3⟩
                    · exact .inl ⟨u, e2, e3⟩
                    · exact .inr ⟨b, ns, e2, SqT.fr (S := [D]) (Frame.put (by simp)) (fun b hb => by rw [List.mem_singleton.mp hb]; exact not_lst hl6) hb, e3⟩
              · rintro σ' M ⟨rfl, mb, mk, mM, mz, mr⟩
                obtain ⟨bs, hl, hbl, hbr⟩ := mM
                have okA : OkRows (addR cur k') := by
                  cases h : hasR cur k' with
                  | true => rw [(posR_old h).1]; exact stN.ok
                  | false => rw [(posR_new h).1]; exact okRows_snoc stN.ok okN
                obtain ⟨pa, pb⟩ := Tp.posR_at cur k'
                have hal := addR_len' cur k'
                have hpl := posR_lt cur k'
                refine ⟨_, rfl, .inl ⟨rfl, _, SqL.of hl⟩, _, rfl, _, rfl, (by show 2 ≤ sizeLine; decide), fun r er => ?_⟩
                have s5 : Same M (upd M r (.tup [V.str k'.1, r1])) := Same.put er
                have t5 : (upd M r (.tup [V.str k'.1, r1])) r = some (.tup [V.str k'.1, r1]) := upd_same
                generalize upd M r (.tup [V.str k'.1, r1]) = N5 at s5 t5 ⊢
                have hrow : RowAt K N5 k' r := row_rest nm' (mr.up s5) (SqT.of t5)
                have hl5 := s5 _ _ hl
                have hbr5 : ∀ (i : Nat) (k : RowK) (a : Addr), (addR cur k')[i]? = some k → bs[i]? = some a → RowAt K N5 k a := fun i k a e1 e2 => (hbr i k a e1 e2).mono fun _ _ => upT s5
                refine ⟨D, .ref r, rowD k', (addR cur k').map rowD, posR cur k', rowD k', rfl, rfl, .lst (SqL.of hl5) (rows_dp hbl hbr5), row_dp hrow, rows_shaped (okRows_str okA), row_shaped nm', (by rw [List.getElem?_map, pa]; rfl), ((eqv_row k' k').trans (decide_eq_true rfl)), fun i x hi hx => ?_, ?_⟩
                · rw [List.getElem?_map] at hx
                  obtain ⟨kz, hkz, rfl⟩ := Option.map_eq_some_iff.mp hx
                  rw [eqv_row]
                  exact decide_eq_false fun e => pb i hi (by rw [hkz, e])
                · have nz5 := s5 _ _ mz
                  refine ⟨_, rfl, _, rfl, z, _, rfl, .inl ⟨_, Sum.inl (i : Int), nz5, rfl, (by unfold kvM; rw [List.length_map, PySem.sizeLine_eq]; omega), rfl⟩, ?_⟩
                  rw [putM hni]
                  have fz : Tp.Frame [z] N5 (upd N5 z (.dK (kvM (m ++ [((i : Int), ((posR cur k' : Nat) : Int))])))) := Frame.put (by simp)
                  have ntz : ∀ b ∈ [z], NotTup N5 b := fun b hb => by
                    rw [List.mem_singleton.mp hb]
                    intro xs r
                    rcases r with r | ⟨o, r⟩
                    · rw [nz5] at r; cases r
                    · rw [nz5] at r; cases r
                  have hM5 : RowsM K N5 D (addR cur k') := ⟨bs, hl5, hbl, hbr5⟩
                  refine ⟨_, _, _, addR cur k', m ++ [((i : Int), ((posR cur k' : Nat) : Int))], rfl, ⟨(mb.keep s5).put npz |>.mono (by omega), fun c o hc e => (upd_ne (ne_of_none e hzH)).trans (s5 _ _ (mk c o hc e)), hM5.fr fz ntz (fun h => nDz (List.mem_singleton.mp h)), upd_same, okA, addR_nodup stN.nd k', ?_, fun e he => ?_, ?_⟩⟩
                  · rw [List.map_append]
                    exact nodup_snoc stN.kn hni
                  · rcases List.mem_append.mp he with h | h
                    · have := stN.mb e h
                      refine ⟨this.1, this.2.1, by have := this.2.2; omega⟩
                    · rw [List.mem_singleton.mp h]
                      dsimp only
                      refine ⟨⟨by omega, by omega⟩, by omega, by omega⟩
                  · rw [List.length_append, List.length_singleton]
                    have := stN.le
                    omega
      · rintro σ G ⟨o5, o6, o7, cur, m, rfl, st⟩
        exact ⟨_, _, _, _, cur, m, rfl, st.more (by omega)⟩
    · rintro σ G ⟨o4, o5, o6, o7, cur, m, rfl, st⟩
      have few := st.few
      have hle := st.le
      obtain ⟨bs, hl, hbl, hbr⟩ := st.ro
      refine ⟨_, rfl, (by show 0 ≤ sizeLine; decide), fun E2 hE2 => ?_⟩
      have s2 : Same G (upd G E2 (.lst [])) := Same.put hE2
      have t2 : (upd G E2 (.lst [])) E2 = some (.lst []) := upd_same
      generalize upd G E2 (.lst []) = G2 at s2 t2 ⊢
      have st2 := st.same s2
      refine ⟨.list (cur.map rowD), .list [], .lst (SqL.of (s2 _ _ hl)) (rows_dp hbl fun i k a x y => (hbr i k a x y).mono fun _ _ => upT s2), .lst (SqL.of t2) .nil, rows_shaped (okRows_str st.ok), rfl, _, rfl, ?_⟩
      rw [eqv_nil]
      refine ite2 (fun h4 => ?_) (fun h4 => ?_)
      · refine ⟨_, rfl, q D G2 cur st2.kp (st2.bx.mono (by omega)) hD st2.ro st2.ok st2.nd ?_ (by omega)⟩
        cases cur with
        | nil => exact absurd h4 (by decide)
        | cons a as => exact Nat.succ_pos _
      · refine ⟨(by show 0 ≤ sizeLine; decide), fun t1 et1 => ⟨(by show 2 ≤ sizeLine; decide), fun t4 et4 => ⟨(by show 1 ≤ sizeLine; decide), fun L eL => ?_⟩⟩⟩
        obtain ⟨b5, kp5, s5, n5, h5⟩ := step (o := .tup []) st2.bx st2.kp et1
        generalize upd G2 t1 (.tup []) = G5 at b5 kp5 s5 h5 et4 eL ⊢
        obtain ⟨b6, kp6, s6, n6, h6⟩ := step (o := .tup [V.str "zz", V.ref t1]) b5 kp5 et4
        have h56 := s6 _ _ h5
        generalize upd G5 t4 (.tup [V.str "zz", V.ref t1]) = G6 at b6 kp6 s6 h6 h56 eL ⊢
        obtain ⟨b7, kp7, s7, n7, h7⟩ := step (o := .lst [V.ref t4]) b6 kp6 eL
        have hLH : H L = none := by
          cases e : H L with
          | none => rfl
          | some o =>
            rw [kp6 L o n7 e] at eL
            cases eL
        refine q L _ [("zz", .inr [])] kp7 (b7.mono (by omega)) hLH ⟨[t4], h7, rfl, one_row ⟨by decide +kernel, .inr ⟨[], t1, rfl, SqT.of (s7 _ _ h6), SqT.of (s7 _ _ h56)⟩⟩⟩ ?_ (List.nodup_cons.mpr ⟨List.not_mem_nil, List.nodup_nil⟩) (by decide) (by omega)
        exact okRows_snoc (rs := []) okRows_nil ⟨by decide +kernel, Nat.zero_le _, fun x hx => absurd hx List.not_mem_nil⟩

end
end T56
set_option Elab.async false
set_option linter.all false
set_option maxRecDepth 100000
set_option maxHeartbeats 4000000
namespace T56
open PySem PySem.Spec PyProof.Rows L2 Tp
section
variable {P : Program} {w : World} {K : PySem.W.Frag} {mg : Str → Option Value} {base : Heap} {f : Addr} {fd : FuncData}

/-- the way to where two terms part, by the law's own walk -/
def spSlotsL (K : PySem.W.Frag) : Sp := fun vs H Q _ => ∃ (l : Addr) (rs : List RowK) (i j : Nat), vs = [.ref l, .int (i : Nat), .int (j : Nat)] ∧ RowsL K H l rs ∧ OkRows rs ∧ rs.Nodup ∧ i < rs.length ∧ j < rs.length ∧ rs.length ≤ 1000 ∧ (i = j → Q .non H) ∧ (i ≠ j → ∀ D H', Same H H' → H D = none → H' D = some (.lst ((slotsF rs (i + 1) i j).map V.int)) → Q (.ref D) H')
theorem slots_nil {rs : List RowK} {n i j : Nat} {k k' : RowK} (hi : rs[i]? = some k) (hj : rs[j]? = some k') (h : compR k k' = ([], [])) : slotsF rs (n + 1) i j = [] := by
  unfold slotsF
  rw [hi, hj]
  dsimp only
  rw [h]
  rfl
theorem slots_cons {rs : List RowK} (hR : OkRows rs) (hnd : rs.Nodup) {i j t x y : Nat} {k k' : RowK} (hi : rs[i]? = some k) (hj : rs[j]? = some k') (h : firstD (compR k k').1 (compR k k').2 = some t) (h1 : (compR k k').1[t]? = some (x : Int)) (h2 : (compR k k').2[t]? = some (y : Int)) (hx : x < i) (hy : y < j) (hxy : x ≠ y) : slotsF rs (i + 1) i j = (t : Int) :: slotsF rs (x + 1) x y := by
  have hil := (List.getElem?_eq_some_iff.mp hi).1
  have hjl := (List.getElem?_eq_some_iff.mp hj).1
  obtain ⟨k2, hk2⟩ : ∃ k2, rs[x]? = some k2 := ⟨_, List.getElem?_eq_getElem (by omega)⟩
  obtain ⟨k3, hk3⟩ : ∃ k3, rs[y]? = some k3 := ⟨_, List.getElem?_eq_getElem (by omega)⟩
  rw [slots_fuel hR hnd (x + 1) i x y k2 k3 hk2 hk3 hxy (by omega) (by omega)]
  show (match rs[i]?, rs[j]? with | some k, some k' => _ | _, _ => _) = _
  rw [hi, hj]
  dsimp only
  rw [h]
  dsimp only
  rw [List.getD_eq_getElem?_getD, List.getD_eq_getElem?_getD, h1, h2]
  rfl
theorem filter_snoc (f : Nat → Bool) (n : Nat) : (List.range (n + 1)).filter f = (List.range n).filter f ++ (if f n = true then [n] else []) := by
  rw [List.range_succ, List.filter_append]
  congr 1
  cases h : f n <;> simp [h]

abbrev sSl : Stmt := top 82
abbrev nSl : List Str := ["_law_rows_here", "_law_one", "_law_two", "_law_slots_here", "_law_lap", "_law_left", "_law_right", "_law_slot", "_law_at"]
theorem scSl : FnScope nSl ["_law_rows_here", "_law_one", "_law_two"] (defScope sSl) := ⟨rfl, rfl, rfl, by decide +kernel, rfl, by decide +kernel, by decide +kernel⟩

theorem ok_Sl (F : Fun K "_law_slots" "_law_slots" sSl f fd) (T : TxtL mg) : FnG P w K mg base CX0 1 f fd ["_law_rows_here", "_law_one", "_law_two"] (spSlotsL K) := by
  refine FunG.ok F scSl (fun vs H Q E h => ?_) (fun cdv B out s H vs Q E hr hG h => ?_)
  · obtain ⟨l, rs, i, j, rfl, _⟩ := h
    rfl
  · obtain ⟨l, rs, i, j, rfl, hL, hR, hnd, hi, hj, h1k, q0, q1⟩ := h
    refine ⟨_, (pss_cons (ps_if (pt_cmpR op_eq (pv 1) (pv 2) (nomark _)) (pss_one (ps_ret pe_non)) pss_nil)
      (pss_cons (ps_set (i := 3) scSl.nd rfl (.inl rfl) (pe_lst pa_nil))
      (pss_cons (ps_for PassesOwn.never rfl (pi_range1 (by rfl) T.range (pa_cons (pe_op op_add (pe_callB call_len (by rfl) T.len PySem.boot_len (pa_cons (pv 0) pa_nil)) pe_int) pa_nil)) (pg_name (i := 4) scSl.nd rfl (Or.inl rfl)) (pss_cons (ps_asg (pe_tup (pa_cons (pe_ix ix_list (pv 0) (pv 1) fun _ _ => rfl) (pa_cons (pe_ix ix_list (pv 0) (pv 2) fun _ _ => rfl) pa_nil))) (pg_tup rfl (pgs_cons (pg_name (i := 5) scSl.nd rfl (Or.inr rfl)) (pgs_cons (pg_name (i := 6) scSl.nd rfl (Or.inr rfl)) pgs_nil))))
        (pss_cons (ps_if (PW.pt (pw_or (pt_cmpR op_ne (pe_ix ix_tup (pv 5) pe_int fun _ _ => rfl) (pe_ix ix_tup (pv 6) pe_int fun _ _ => rfl) (nomark _)) (pw_or (pt_val (pe_callB call_isd (by rfl) T.isinstance (by decide +kernel) (pa_cons (pe_ix ix_tup (pv 5) pe_int fun _ _ => rfl) (pa_cons (pe_bltn (by rfl) T.int (by decide +kernel) (show RelV (.ty "int") _ from rfl)) pa_nil)))) (pw_or1 (pt_val (pe_callB call_isd (by rfl) T.isinstance (by decide +kernel) (pa_cons (pe_ix ix_tup (pv 6) pe_int fun _ _ => rfl) (pa_cons (pe_bltn (by rfl) T.int (by decide +kernel) (show RelV (.ty "int") _ from rfl)) pa_nil)))))))) (pss_one (ps_ret (pv 3))) pss_nil)
        (pss_cons (ps_if (pt_cmpR op_ne (pe_callB call_len (by rfl) T.len PySem.boot_len (pa_cons (pe_ix ix_tup (pv 5) pe_int fun _ _ => rfl) pa_nil)) (pe_callB call_len (by rfl) T.len PySem.boot_len (pa_cons (pe_ix ix_tup (pv 6) pe_int fun _ _ => rfl) pa_nil)) (nomark _)) (pss_one (ps_ret (pv 3))) pss_nil)
        (pss_cons (ps_set (i := 7) scSl.nd rfl (.inl rfl) (pe_ix ix_list (pe_lc (own := [("_law_at", 8)]) (g := gName 8) rfl scSl.nd (pi_range1 (by rfl) T.range (pa_cons (pe_callB call_len (by rfl) T.len PySem.boot_len (pa_cons (pe_ix ix_tup (pv 5) pe_int fun _ _ => rfl) pa_nil)) pa_nil)) (blkOk_by (N := nSl) (sc := defScope sSl) (by decide +kernel)) (fun _ _ _ _ _ => pg_name (i := 8) scSl.nd rfl (Or.inl rfl)) (fun _ _ _ _ _ => (pts_one (pt_cmpR op_ne (pe_ix (ix_tupK (K := K) rfl) (pe_ix (ix_tupK (K := K) rfl) (pv 5) pe_int fun _ _ => rfl) (pv 8) fun _ _ => rfl) (pe_ix (ix_tupK (K := K) rfl) (pe_ix (ix_tupK (K := K) rfl) (pv 6) pe_int fun _ _ => rfl) (pv 8) fun _ _ => rfl) (nomark _)))) (fun _ _ _ _ _ => (pv 8))) pe_int fun _ _ => rfl))
        (pss_cons (ps_expr (pe_bm PySem.F.plainAttrs_list PySem.F.slot_list_append PySem.F.type_list_append mt_append (pv 3) (pa_cons (pv 7) pa_nil)))
        (pss_one (ps_par (i := 1) (j := 2) rfl scSl.nd rfl rfl (by decide) rfl rfl (pa_cons (pe_ix ix_tup (pe_ix ix_tup (pv 5) pe_int fun _ _ => rfl) (pv 7) fun _ _ => rfl) (pa_cons (pe_ix ix_tup (pe_ix ix_tup (pv 6) pe_int fun _ _ => rfl) (pv 7) fun _ _ => rfl) pa_nil)) (by rfl)))))))))
      (pss_one (ps_ret (pv 3)))))), ?_⟩
    refine ⟨_, rfl, _, rfl, rfl, _, rfl, ?_⟩
    refine ite2 (fun h0 => ?_) (fun h0 => ?_)
    · have e : i = j := by
        have := V.int.inj (of_decide_eq_true h0)
        omega
      exact q0 e
    have hne : i ≠ j := fun e => h0 (by rw [e]; exact decide_eq_true rfl)
    have q2 := q1 hne
    clear q0 q1 h0
    dsimp only [tNext]
    refine ⟨(by show 0 ≤ sizeLine; decide), fun D hD => ?_⟩
    have s1 : Same H (upd H D (.lst [])) := Same.put hD
    have t1 : (upd H D (.lst [])) D = some (.lst []) := upd_same
    generalize upd H D (.lst []) = H1 at s1 t1 ⊢
    obtain ⟨as0, hS0, hal0, _⟩ := hL.up s1
    refine ⟨_, rfl, _, _, rfl, .inl ⟨_, hS0, rfl⟩, _, _, rfl, rfl, _, rfl, (by rw [List.length_map]; omega), (by rw [List.length_map]; omega), ?_⟩
    rw [List.length_map, hal0]
    refine for_range (lo := 0) (n := (((rs.length : Nat) : Int) + 1).toNat) (fun t σ G => ∃ (a b : Nat) (o4 o5 o6 o7 : Option V) (acc : List Int), σ = [some (.ref l), some (.int (a : Nat)), some (.int (b : Nat)), some (.ref D), o4, o5, o6, o7, none] ∧ Same H G ∧ G D = some (.lst (acc.map V.int)) ∧ a ≠ b ∧ b < rs.length ∧ a + t ≤ i ∧ slotsF rs (i + 1) i j = acc ++ slotsF rs (a + 1) a b ∧ acc.length ≤ t)
      ⟨i, j, _, _, _, _, [], rfl, s1, t1, hne, hj, Nat.le_refl _, rfl, Nat.le_refl _⟩ ?_ ?_
    · rintro t σ G ht ⟨a, b, o4, o5, o6, o7, acc, rfl, sG, gD, hab, hb, hat, hF, hac⟩
      have ha : a < rs.length := by omega
      obtain ⟨k, hk⟩ : ∃ k, rs[a]? = some k := ⟨_, List.getElem?_eq_getElem ha⟩
      obtain ⟨k', hk'⟩ : ∃ k', rs[b]? = some k' := ⟨_, List.getElem?_eq_getElem hb⟩
      have hok := hR a k hk
      have hok' := hR b k' hk'
      obtain ⟨as, a1, hS, ha1, hA⟩ := row_at (hL.up sG) hk
      obtain ⟨bs, b1, hS', hb1, hB⟩ := row_at (hL.up sG) hk'
      dsimp only [gName]
      refine ⟨_, rfl, _, rfl, l, _, _, .ref a1, rfl, rfl, hS, atI_nat (j := a) (by rw [List.getElem?_map, ha1]; rfl), _, rfl, _, rfl, l, _, _, .ref b1, rfl, rfl, hS', atI_nat (j := b) (by rw [List.getElem?_map, hb1]; rfl), (by show 2 ≤ sizeLine; decide), fun tt ett => ?_⟩
      have s2 : Same G (upd G tt (.tup [V.ref a1, V.ref b1])) := Same.put ett
      have t2 : (upd G tt (.tup [V.ref a1, V.ref b1])) tt = some (.tup [V.ref a1, V.ref b1]) := upd_same
      generalize upd G tt (.tup [V.ref a1, V.ref b1]) = G2 at s2 t2 ⊢
      have sH := Same.tr sG s2
      have gD2 := s2 _ _ gD
      obtain ⟨v1, d1, hT1, hRA, _⟩ := row_two (hA.mono fun _ _ => upT s2)
      obtain ⟨v2, d2, hT2, hRB, _⟩ := row_two (hB.mono fun _ _ => upT s2)
      refine ⟨tt, _, rfl, SqT.of t2, rfl, _, _, rfl, _, _, rfl, rfl, ?_⟩
      have ret : compR k k' = ([], []) → Q (.ref D) G2 := fun e => q2 D G2 sH hD (by rw [hF, slots_nil hk hk' e, List.append_nil]; exact gD2)
      refine ⟨_, rfl, a1, _, _, _, rfl, rfl, hT1, atI_nat (j := 0) rfl, _, rfl, b1, _, _, _, rfl, rfl, hT2, atI_nat (j := 0) rfl, rfl, _, rfl, ?_⟩
      refine ite2 (fun h1 => ?_) (fun h1 => ?_)
      · refine iteT ⟨_, rfl, ret ?_⟩
        unfold compR
        rw [if_neg]
        rintro ⟨e, _⟩
        have h1 : (!decide (V.str k.1 = V.str k'.1)) = true := h1
        rw [e, decide_eq_true rfl] at h1
        cases h1
      have hname : k.1 = k'.1 := by
        by_cases e : k.1 = k'.1
        · exact e
        · exact absurd (show (!decide (V.str k.1 = V.str k'.1)) = true by rw [decide_eq_false fun z => e (V.str.inj z)]; rfl) h1
      have noargs : argsK k = [] ∨ argsK k' = [] → compR k k' = ([], []) := fun h => by
        unfold compR
        split
        · rename_i hh
          rcases h with h | h
          · rw [h] at hh ⊢
            have := List.length_eq_zero_iff.mp hh.2.symm
            rw [this]
          · rw [h] at hh ⊢
            have := List.length_eq_zero_iff.mp hh.2
            rw [this]
        · rfl
      rcases hRA with ⟨u, rfl, e⟩ | ⟨b2, ns, rfl, hbT, e⟩
      · refine ⟨_, rfl, a1, _, _, .int u, rfl, rfl, hT1, atI_nat (j := 1) rfl, _, _, _, _, rfl, .ty _, (vk_int u).kd.is "int" (by decide), _, rfl, ?_⟩
        refine iteT (iteT ⟨_, rfl, ret (noargs (.inl ?_))⟩)
        obtain ⟨z0, r⟩ := k
        dsimp only at e
        subst e
        rfl
      refine ⟨_, rfl, a1, _, _, .ref b2, rfl, rfl, hT1, atI_nat (j := 1) rfl, _, _, _, _, rfl, .ty _, (vk_tuple hbT).kd.is "int" (by decide), _, rfl, ?_⟩
      refine iteF ?_
      rcases hRB with ⟨u, rfl, e'⟩ | ⟨b3, ms, rfl, hbT', e'⟩
      · refine ⟨_, rfl, b1, _, _, .int u, rfl, rfl, hT2, atI_nat (j := 1) rfl, _, _, _, _, rfl, .ty _, (vk_int u).kd.is "int" (by decide), _, rfl, ?_⟩
        refine iteT ⟨_, rfl, ret (noargs (.inr ?_))⟩
        obtain ⟨z0, r⟩ := k'
        dsimp only at e'
        subst e'
        rfl
      refine ⟨_, rfl, b1, _, _, .ref b3, rfl, rfl, hT2, atI_nat (j := 1) rfl, _, _, _, _, rfl, .ty _, (vk_tuple hbT').kd.is "int" (by decide), _, rfl, ?_⟩
      refine iteF ?_
      dsimp only [tNext]
      have ea : argsK k = ns := by
        obtain ⟨z0, r⟩ := k
        dsimp only at e
        subst e
        rfl
      have ea' : argsK k' = ms := by
        obtain ⟨z0, r⟩ := k'
        dsimp only at e'
        subst e'
        rfl
      have h3 : ns.length ≤ 3 := by
        have := hok.2
        rw [e] at this
        exact this.1
      refine ⟨_, rfl, a1, _, _, .ref b2, rfl, rfl, hT1, atI_nat (j := 1) rfl, _, _, rfl, .inr ⟨_, hbT, rfl⟩, _, rfl, b1, _, _, .ref b3, rfl, rfl, hT2, atI_nat (j := 1) rfl, _, _, rfl, .inr ⟨_, hbT', rfl⟩, rfl, _, rfl, ?_⟩
      rw [List.length_map, List.length_map]
      refine ite2 (fun h4 => ?_) (fun h4 => ?_)
      · refine ⟨_, rfl, ret ?_⟩
        unfold compR
        rw [if_neg]
        rintro ⟨_, e5⟩
        rw [ea, ea'] at e5
        have h4 : (!decide (V.int (ns.length : Nat) = V.int (ms.length : Nat))) = true := h4
        rw [e5, decide_eq_true rfl] at h4
        cases h4
      have hlen : ns.length = ms.length := by
        by_cases e5 : ns.length = ms.length
        · exact e5
        · exact absurd (show (!decide (V.int (ns.length : Nat) = V.int (ms.length : Nat))) = true by rw [decide_eq_false fun z => e5 (by have := V.int.inj z; omega)]; rfl) h4
      have hcomp : compR k k' = (ns, ms) := by
        unfold compR
        rw [if_pos ⟨hname, by rw [ea, ea']; exact hlen⟩, ea, ea']
      have hns : ns ≠ [] := fun e5 => by
        refine hab ?_
        have e6 : ms = [] := List.length_eq_zero_iff.mp (by rw [← hlen, e5]; rfl)
        have ek : k = k' := Prod.ext hname (by rw [e, e', e5, e6])
        rw [← ek] at hk'
        exact (List.getElem?_inj ha hnd).mp (hk.trans hk'.symm)
      obtain ⟨u, x, y, f1, f2, f3, f4, f5, f6, f7⟩ := comp_ne hR hnd hk hk' hab (by rw [hcomp]; exact hns)
      have hsl := slots_cons hR hnd hk hk' f1 f2 f3 f4 f5 f6
      rw [hcomp] at f1 f2 f3
      dsimp only at f1 f2 f3
      dsimp only [tNext]
      refine ⟨_, rfl, a1, _, _, .ref b2, rfl, rfl, hT1, atI_nat (j := 1) rfl, _, _, rfl, .inr ⟨_, hbT, rfl⟩, _, rfl, (by rw [List.length_map]; omega), (by rw [List.length_map]; omega), ?_⟩
      rw [List.length_map, Int.toNat_natCast]
      refine fun C hC => ?_
      refine lc_range (lo := 0) (n := ns.length) (fun v M => Same G2 M ∧ M C = some (.lst (((List.range v).filter fun t => decide (ns[t]? ≠ ms[t]?)).map fun n : Nat => V.int (n : Int)))) ⟨Same.put hC, upd_same⟩ ?_ ?_
      · rintro v M hv ⟨sM, mC⟩
        rw [Int.zero_add]
        obtain ⟨xv, hxv⟩ : ∃ z, ns[v]? = some z := ⟨_, List.getElem?_eq_getElem hv⟩
        obtain ⟨yv, hyv⟩ : ∃ z, ms[v]? = some z := ⟨_, List.getElem?_eq_getElem (by omega)⟩
        refine ⟨rfl, _, rfl, a1, _, _, .ref b2, rfl, rfl, upT sM hT1, atI_nat (j := 1) rfl, _, rfl, b2, _, _, .int xv, rfl, rfl, upT sM hbT, atI_nat (j := v) (by rw [List.getElem?_map, hxv]; rfl), _, rfl, b1, _, _, .ref b3, rfl, rfl, upT sM hT2, atI_nat (j := 1) rfl, _, rfl, b3, _, _, .int yv, rfl, rfl, upT sM hbT', atI_nat (j := v) (by rw [List.getElem?_map, hyv]; rfl), rfl, _, rfl, ?_⟩
        rw [filter_snoc]
        by_cases hxy : xv = yv
        · subst hxy
          rw [decide_eq_true rfl]
          refine iteF ⟨sM, ?_⟩
          rw [if_neg (by rw [hxv, hyv]; simp), List.append_nil]
          exact mC
        · rw [decide_eq_false fun z => hxy (V.int.inj z)]
          refine iteT ⟨_, rfl, _, mC, ?_, fun c o e => (upd_ne (ne_of_none e hC)).trans (sM c o e), ?_⟩
          · have := List.length_filter_le (fun t => decide (ns[t]? ≠ ms[t]?)) (List.range v)
            rw [List.length_range] at this
            rw [List.length_map, PySem.sizeLine_eq]
            omega
          · rw [upd_same, if_pos (by rw [hxv, hyv]; exact decide_eq_true fun z => hxy (Option.some.inj z)), List.map_append]
            rfl
      · rintro M ⟨sM, mC⟩
        have hh := firstD_filter hlen
        rw [f1] at hh
        obtain ⟨rest, hrest⟩ : ∃ rest, (List.range ns.length).filter (fun t => decide (ns[t]? ≠ ms[t]?)) = u :: rest := by
          cases e7 : (List.range ns.length).filter (fun t => decide (ns[t]? ≠ ms[t]?)) with
          | nil => rw [e7] at hh; cases hh
          | cons u' rest => rw [e7] at hh; cases hh; exact ⟨rest, rfl⟩
        rw [hrest] at mC
        refine ⟨C, _, _, .int (u : Nat), rfl, rfl, SqL.of mC, atI_nat (j := 0) rfl, ?_⟩
        have gDM := sM _ _ gD2
        dsimp only [gName]
        refine ⟨_, rfl, .inl ⟨rfl, _, SqL.of gDM⟩, _, rfl, D, _, _, rfl, rfl, gDM, (by rw [List.length_map, PySem.sizeLine_eq]; omega), ?_⟩
        have nt : ∀ b ∈ [D], NotTup M b := fun b hb => by rw [List.mem_singleton.mp hb]; exact not_lst gDM
        have up : ∀ {q : Addr} {xs : List V}, SqT K G2 q xs → SqT K (upd M D (.lst (acc.map V.int ++ [V.int (u : Nat)]))) q xs := fun h => SqT.fr (S := [D]) (Frame.put (by simp)) nt (upT sM h)
        refine ⟨_, rfl, a1, _, _, .ref b2, rfl, rfl, up hT1, atI_nat (j := 1) rfl, _, rfl, b2, _, _, .int (x : Nat), rfl, rfl, up hbT, atI_nat (j := u) (by rw [List.getElem?_map, f2]; rfl), _, rfl, b1, _, _, .ref b3, rfl, rfl, up hT2, atI_nat (j := 1) rfl, _, rfl, b3, _, _, .int (y : Nat), rfl, rfl, up hbT', atI_nat (j := u) (by rw [List.getElem?_map, f3]; rfl), _, _, rfl, ?_⟩
        refine ⟨x, y, _, _, _, _, acc ++ [(u : Int)], rfl, fun c o e => (upd_ne (ne_of_none e hD)).trans (sM _ _ (sH c o e)), ?_, f6, by omega, by omega, ?_, ?_⟩
        · rw [upd_same, List.map_append]
          rfl
        · rw [hF, hsl, List.append_assoc]
          rfl
        · rw [List.length_append, List.length_singleton]
          omega
    · rintro σ G ⟨a, b, o4, o5, o6, o7, acc, rfl, sG, gD, hab, hb, hat, hF, hac⟩
      exfalso
      omega

end
end T56
set_option Elab.async false
set_option linter.all false
set_option maxRecDepth 100000
set_option maxHeartbeats 4000000
namespace T56
open PySem PySem.Spec PyProof.Rows L2 Tp
structure TxtN (mg : Str → Option Value) : Prop where
  list : mg "list" = none
  len : mg "len" = none
  enumerate : mg "enumerate" = none
section
variable {P : Program} {w : World} {K : PySem.W.Frag} {mg : Str → Option Value} {base : Heap} {f : Addr} {fd : FuncData}

/-- all these are empty lists or tuples -/
def Emp (K : PySem.W.Frag) (H : Hp) (x : V) : Prop := ∃ a, x = .ref a ∧ SqA K H a []
theorem Emp.up {K : PySem.W.Frag} {H H' : Hp} {x : V} (k : Same H H') (h : Emp K H x) : Emp K H' x := let ⟨a, e, q⟩ := h; ⟨a, e, q.up k⟩
theorem emp_of {K : PySem.W.Frag} {H : Hp} {a : Addr} (h : H a = some (.lst [])) : Emp K H (.ref a) := ⟨a, rfl, .inl (SqL.of h)⟩
/-- a walk of nothing -/
theorem emp_it {K : PySem.W.Frag} {H : Hp} {x : V} {R : It → Hp → Prop} (h : Emp K H x) (hR : ∀ J, Walk J 0 (fun G => Same H G) (YAt []) → R J H) : ∃ a, x = .ref a ∧ SeqR K a H R := by
  obtain ⟨a, rfl, q⟩ := h
  exact ⟨a, rfl, seq_it q hR⟩
theorem for_no {J : It} {G : Hp → Prop} {Y : Nat → Hp → V → Hp → Prop} (w : Walk J 0 G Y) {g : TG} {tb : TS} {D : Ends} {σ : L2.St} {H : Hp} (hG : G H) (hd : D.nx σ H) :
    ∃ W : Nat → Nat → L2.St → Hp → Prop, (∃ m, W 0 m σ H) ∧ ∀ i m σ H, W i m σ H →
      (J.stop i H ∧ D.nx σ H) ∨ (J.go i H ∧ ∃ N : L2.St → Hp → Prop, (∀ σ' H', N σ' H' → ∃ m', m' < m ∧ W (i + 1) m' σ' H') ∧ ∀ x H', J.yld i H x H' → g x σ H' fun σ2 H2 => tb { D with nx := N, ct := N, bk := D.nx } σ2 H2) :=
  for_it w (fun _ σ' H' => σ' = σ ∧ H' = H) ⟨rfl, rfl⟩ (fun _ _ _ _ e => by rw [e.2]; exact hG) (fun i x σ H H' hi => absurd hi (Nat.not_lt_zero _)) fun σ' H' e => by rw [e.1, e.2]; exact hd
theorem lc_no {J : It} {G : Hp → Prop} {Y : Nat → Hp → V → Hp → Prop} (w : Walk J 0 G Y) {g : TG} {tt : TT} {te : TE} {vs : List Nat} {σ : L2.St} {H1 : Hp} {D : Addr} {Qd : Hp → Prop} (hG : G (upd H1 D (.lst []))) (hd : Qd (upd H1 D (.lst []))) :
    ∃ W : Nat → Nat → Hp → Prop, (∃ m, W 0 m (upd H1 D (.lst []))) ∧ ∀ i m H, W i m H →
      (J.stop i H ∧ Qd H) ∨ (J.go i H ∧ ∃ Nx : Hp → Prop, (∀ H', Nx H' → ∃ m', m' < m ∧ W (i + 1) m' H') ∧ ∀ x H', J.yld i H x H' → g x (wipe σ vs) H' fun σ2 H2 => wipe σ2 vs = wipe σ vs ∧ tt σ2 H2 fun b H3 =>
        if b = true then te σ2 H3 fun y H4 => ∃ acc, H4 D = some (.lst acc) ∧ acc.length < sizeLine ∧ Nx (upd H4 D (.lst (acc ++ [y]))) else Nx H3) :=
  lc_it w (fun _ G' => G' = upd H1 D (.lst [])) rfl (fun _ _ _ e => by rw [e]; exact hG) (fun i x H H' hi => absurd hi (Nat.not_lt_zero _)) fun H e => by rw [e]; exact hd
theorem dc_no {J : It} {G : Hp → Prop} {Y : Nat → Hp → V → Hp → Prop} (w : Walk J 0 G Y) {g : TG} {tt : TT} {tk tv : TE} {vs : List Nat} {σ : L2.St} {H1 : Hp} {D : Addr} {Qd : Hp → Prop} (hG : G (upd H1 D (.dK []))) (hd : Qd (upd H1 D (.dK []))) :
    ∃ W : Nat → Nat → Hp → Prop, (∃ m, W 0 m (upd H1 D (.dK []))) ∧ ∀ i m H, W i m H →
      (J.stop i H ∧ Qd H) ∨ (J.go i H ∧ ∃ Nx : Hp → Prop, (∀ H', Nx H' → ∃ m', m' < m ∧ W (i + 1) m' H') ∧ ∀ x H', J.yld i H x H' → g x (wipe σ vs) H' fun σ2 H2 => wipe σ2 vs = wipe σ vs ∧ tt σ2 H2 fun b H3 =>
        if b = true then tk σ2 H3 fun y H4 => tv σ2 H4 fun z H5 => ∃ kvs k, y = kV k ∧ H5 D = some (.dK kvs) ∧ kvs.length < sizeLine ∧ Nx (upd H5 D (.dK (putK kvs k z))) else Nx H3) :=
  dc_it w (fun _ G' => G' = upd H1 D (.dK [])) rfl (fun _ _ _ e => by rw [e]; exact hG) (fun i x H H' hi => absurd hi (Nat.not_lt_zero _)) fun H e => by rw [e]; exact hd
def muN : L2.St → Hp → Nat := fun σ _ => match σ[4]? with
  | some (some (V.int n)) => (-n).toNat
  | _ => 0
/-- two empty ones are given, an empty list is handed back -/
def spE2L (K : PySem.W.Frag) : Sp := fun vs H Q _ => ∃ x y : V, vs = [x, y] ∧ Emp K H x ∧ Emp K H y ∧ ∀ a H', Same H H' → H' a = some (.lst []) → Q (.ref a) H'
/-- .. an empty dict -/
def spE2D (K : PySem.W.Frag) : Sp := fun vs H Q _ => ∃ x y : V, vs = [x, y] ∧ Emp K H x ∧ Emp K H y ∧ ∀ a H', Same H H' → H' a = some (.dK []) → Q (.ref a) H'
def spE1L (K : PySem.W.Frag) : Sp := fun vs H Q _ => ∃ x : V, vs = [x] ∧ Emp K H x ∧ ∀ a H', Same H H' → H' a = some (.lst []) → Q (.ref a) H'
def spE1D (K : PySem.W.Frag) : Sp := fun vs H Q _ => ∃ x : V, vs = [x] ∧ Emp K H x ∧ ∀ a H', Same H H' → H' a = some (.dK []) → Q (.ref a) H'
/-- .. and something beside, an empty list comes back -/
def spEXL (K : PySem.W.Frag) : Sp := fun vs H Q _ => ∃ x y : V, vs = [x, y] ∧ Emp K H x ∧ ∀ a H', Same H H' → H' a = some (.lst []) → Q (.ref a) H'
def spEXD (K : PySem.W.Frag) : Sp := fun vs H Q _ => ∃ x y : V, vs = [x, y] ∧ Emp K H x ∧ ∀ a H', Same H H' → H' a = some (.dK []) → Q (.ref a) H'
/-- nothing comes back, nothing is changed -/
def spEXN (K : PySem.W.Frag) : Sp := fun vs H Q _ => ∃ x y : V, vs = [x, y] ∧ Emp K H x ∧ Q .non H
def spE1N (K : PySem.W.Frag) : Sp := fun vs H Q _ => ∃ x : V, vs = [x] ∧ Emp K H x ∧ Q .non H
def spE2X2N (K : PySem.W.Frag) : Sp := fun vs H Q _ => ∃ x y z u : V, vs = [x, y, z, u] ∧ Emp K H x ∧ Emp K H y ∧ Q .non H
def spE3N (K : PySem.W.Frag) : Sp := fun vs H Q _ => ∃ x y z : V, vs = [x, y, z] ∧ Emp K H x ∧ Emp K H y ∧ Emp K H z ∧ ∀ H', Same H H' → Q .non H'
def spE4N (K : PySem.W.Frag) : Sp := fun vs H Q _ => ∃ x y z u : V, vs = [x, y, z, u] ∧ Emp K H x ∧ Emp K H y ∧ Emp K H z ∧ Emp K H u ∧ ∀ H', Same H H' → Q .non H'

abbrev sJe : Stmt := top 50
abbrev nJe : List Str := ["gates", "outs", "found", "_", "edges"]
theorem scJe : FnScope nJe ["gates", "outs"] (defScope sJe) := ⟨rfl, rfl, rfl, by decide +kernel, rfl, by decide +kernel, by decide +kernel⟩

theorem ok_Je (F : Fun K "joined_edges" "joined_edges" sJe f fd) (T : TxtN mg) : FnG P w K mg base CX0 1 f fd ["gates", "outs"] (spE2L K) := by
  refine FunG.ok F scJe (fun vs H Q E h => ?_) (fun cdv B out s H vs Q E hr hG h => ?_)
  · obtain ⟨x, y, rfl, _⟩ := h
    rfl
  · obtain ⟨x, y, rfl, hx, hy, q⟩ := h
    refine ⟨_, (pss_cons (ps_set (i := 2) scJe.nd rfl (.inl rfl) (pe_lst pa_nil))
      (pss_cons (ps_for PassesOwn.never rfl (pi_seq (pv 0)) (pg_tup rfl (pgs_cons (pg_name (i := 3) scJe.nd rfl (Or.inl rfl)) (pgs_cons (pg_name (i := 3) scJe.nd rfl (Or.inl rfl)) (pgs_cons (pg_name (i := 4) scJe.nd rfl (Or.inl rfl)) pgs_nil)))) pss_never)
      (pss_one (ps_ret (pe_op op_cat (pv 2) (pe_callTy call_list_of (by rfl) T.list (by decide +kernel) (pa_cons (pv 1) pa_nil))))))), ?_⟩
    obtain ⟨a, rfl, ha⟩ := hx
    obtain ⟨b, rfl, hb⟩ := hy
    refine ⟨by show 0 ≤ sizeLine; decide, fun l hl => ?_⟩
    have k1 : Same H (upd H l (.lst [])) := Same.put hl
    refine ⟨_, rfl, a, rfl, seq_it (ha.up k1) fun J wk => for_no wk (Same.refl _) ?_⟩
    refine ⟨_, rfl, _, rfl, b, [], rfl, hb.up k1, fun m hm => ?_⟩
    have k2 := Same.tr k1 (Same.put (o := .lst []) hm)
    refine ⟨l, m, [], [], rfl, rfl, (upd_ne (ne_of_none upd_same hm)).trans upd_same, upd_same, by show 0 ≤ sizeLine; decide, fun p hp => ?_⟩
    exact q p _ (Same.tr k2 (Same.put hp)) upd_same

abbrev sAs : Stmt := top 51
abbrev nAs : List Str := ["gates", "outs", "found", "_", "starts"]
theorem scAs : FnScope nAs ["gates", "outs"] (defScope sAs) := ⟨rfl, rfl, rfl, by decide +kernel, rfl, by decide +kernel, by decide +kernel⟩

theorem ok_As (F : Fun K "all_starts" "all_starts" sAs f fd) (CJ : Cg P w K mg base 1 "joined_edges" (spE2L K)) : FnG P w K mg base CX0 2 f fd ["gates", "outs"] (spE2L K) := by
  refine FunG.ok F scAs (fun vs H Q E h => ?_) (fun cdv B out s H vs Q E hr hG h => ?_)
  · obtain ⟨x, y, rfl, _⟩ := h
    rfl
  · obtain ⟨x, y, rfl, hx, hy, q⟩ := h
    refine ⟨_, (pss_cons (ps_set (i := 2) scAs.nd rfl (.inl rfl) (pe_lst pa_nil))
      (pss_cons (ps_for PassesOwn.never rfl (pi_list (pe_g CJ hr hG (by decide) (by rfl) (pa_cons (pv 0) (pa_cons (pv 1) pa_nil)))) (pg_tup rfl (pgs_cons (pg_name (i := 3) scAs.nd rfl (Or.inl rfl)) (pgs_cons (pg_name (i := 4) scAs.nd rfl (Or.inl rfl)) pgs_nil))) pss_never)
      (pss_one (ps_ret (pv 2))))), ?_⟩
    refine ⟨by show 0 ≤ sizeLine; decide, fun l hl => ?_⟩
    have k1 : Same H (upd H l (.lst [])) := Same.put hl
    have h1 : (upd H l (.lst [])) l = some (.lst []) := upd_same
    refine ⟨_, rfl, _, rfl, x, y, rfl, hx.up k1, hy.up k1, fun j H2 k2 h2 => ?_⟩
    refine ⟨j, rfl, ⟨[], SqL.of h2⟩, for_no (walk_list (xs := [])) (SqL.of h2) ?_⟩
    exact ⟨_, rfl, q l _ (Same.tr k1 k2) (k2 _ _ h1)⟩

abbrev sDs : Stmt := top 53
abbrev nDs : List Str := ["gates", "name", "_", "names", "found", "edges", "source", "starts"]
theorem scDs : FnScope nDs ["gates"] (defScope sDs) := ⟨rfl, rfl, rfl, by decide +kernel, rfl, by decide +kernel, by decide +kernel⟩

theorem ok_Ds (F : Fun K "_direct_sources" "_direct_sources" sDs f fd) : FnG P w K mg base CX0 1 f fd ["gates"] (spE1D K) := by
  refine FunG.ok F scDs (fun vs H Q E h => ?_) (fun cdv B out s H vs Q E hr hG h => ?_)
  · obtain ⟨x, rfl, _⟩ := h
    rfl
  · obtain ⟨x, rfl, hx, q⟩ := h
    refine ⟨_, (pss_cons (ps_set (i := 3) scDs.nd rfl (.inr rfl) (pe_dc (own := [("name", 1), ("_", 2)]) (g := gNev) (tt := tNevT) (tk := tNev) (tv := tNev) rfl scDs.nd (pi_seq (pv 0)) (blkOk_by (N := nDs) (sc := defScope sDs) (by decide +kernel)) (fun _ _ _ _ _ => pg_never) (fun _ _ _ _ _ => pts_never) (fun _ _ _ _ _ => pe_never) (fun _ _ _ _ _ => pe_never)))
      (pss_cons (ps_set (i := 4) scDs.nd rfl (.inl rfl) pe_dnewK)
      (pss_cons (ps_for PassesOwn.never rfl (pi_seq (pv 0)) (pg_tup rfl (pgs_cons (pg_name (i := 1) scDs.nd rfl (Or.inl rfl)) (pgs_cons (pg_name (i := 2) scDs.nd rfl (Or.inl rfl)) (pgs_cons (pg_name (i := 5) scDs.nd rfl (Or.inl rfl)) pgs_nil)))) pss_never)
      (pss_one (ps_ret (pv 4)))))), ?_⟩
    obtain ⟨a, rfl, ha⟩ := hx
    refine ⟨_, rfl, a, rfl, seq_it ha fun J wk => fun D hD => dc_no wk (Same.put hD) ?_⟩
    have k1 : Same H (upd H D (.dK [])) := Same.put hD
    refine fun e he => ?_
    have k2 := Same.tr k1 (Same.put (o := .dK []) he)
    refine ⟨_, rfl, a, rfl, seq_it (ha.up k2) fun J wk => for_no wk (Same.refl _) ?_⟩
    exact ⟨_, rfl, q e _ k2 upd_same⟩

abbrev sSp : Stmt := top 57
abbrev nSp : List Str := ["names", "following", "name", "found", "waiting", "other"]
theorem scSp : FnScope nSp ["names", "following"] (defScope sSp) := ⟨rfl, rfl, rfl, by decide +kernel, rfl, by decide +kernel, by decide +kernel⟩

theorem ok_Sp (F : Fun K "_spread" "_spread" sSp f fd) (T : TxtN mg) : FnG P w K mg base CX0 1 f fd ["names", "following"] (spEXD K) := by
  refine FunG.ok F scSp (fun vs H Q E h => ?_) (fun cdv B out s H vs Q E hr hG h => ?_)
  · obtain ⟨x, y, rfl, _⟩ := h
    rfl
  · obtain ⟨x, y, rfl, hx, q⟩ := h
    refine ⟨_, (pss_cons (ps_setDc (i := 3) (own := [("name", 2)]) (g := gNev) (tt := tNevT) (tk := tNev) (tv := tNev) rfl scSp.nd rfl rfl (sw_trueD rfl rfl rfl (by decide +kernel)) (pi_seq (pv 0)) (blkOk_by (N := nSp) (sc := defScope sSp) (by decide +kernel)) (fun _ _ _ _ _ => pg_never) (fun _ _ _ _ _ => pts_never) (fun _ _ _ _ _ => pe_never) (fun _ _ _ _ _ => pe_never))
      (pss_cons (ps_set (i := 4) scSp.nd rfl (.inl rfl) (pe_callTy (call_list_dK rfl) (by rfl) T.list (by decide +kernel) (pa_cons (pv 3) pa_nil)))
      (pss_cons (ps_while PassesOwn.never (pt_truth (pv 4) (by intro _; rfl)) pss_never)
      (pss_one (ps_ret (pv 3)))))), ?_⟩
    obtain ⟨a, rfl, ha⟩ := hx
    refine ⟨_, rfl, a, rfl, seq_it ha fun J wk => fun D hD => dc_no wk (Same.put hD) ?_⟩
    have k1 : Same H (upd H D (.dK [])) := Same.put hD
    have h1 : (upd H D (.dK [])) D = some (.dK []) := upd_same
    refine ⟨_, rfl, D, [], rfl, h1, fun e he => ?_⟩
    have k2 : Same (upd H D (.dK [])) (upd (upd H D (.dK [])) e (.lst [])) := Same.put he
    dsimp only [gName, tSeq]
    refine while_no (fun Q h => ⟨_, rfl, false, .inl ⟨[], SqL.of upd_same, rfl⟩, h⟩) ?_
    exact ⟨_, rfl, q D _ (Same.tr k1 k2) (k2 _ _ h1)⟩

abbrev sWo : Stmt := top 52
abbrev nWo : List Str := ["gates", "direct", "placed", "waiting", "many", "name", "source"]
theorem scWo : FnScope nWo ["gates"] (defScope sWo) := ⟨rfl, rfl, rfl, by decide +kernel, rfl, by decide +kernel, by decide +kernel⟩

theorem ok_Wo (F : Fun K "working_order" "working_order" sWo f fd) (T : TxtN mg) (CD : Cg P w K mg base 1 "_direct_sources" (spE1D K)) : FnG P w K mg base CX0 2 f fd ["gates"] (spE1L K) := by
  refine FunG.ok F scWo (fun vs H Q E h => ?_) (fun cdv B out s H vs Q E hr hG h => ?_)
  · obtain ⟨x, rfl, _⟩ := h
    rfl
  · obtain ⟨x, rfl, hx, q⟩ := h
    refine ⟨_, (pss_cons (ps_set (i := 1) scWo.nd rfl (.inl rfl) (pe_g CD hr hG (by decide) (by rfl) (pa_cons (pv 0) pa_nil)))
      (pss_cons (ps_set (i := 2) scWo.nd rfl (.inr rfl) pe_dnewK)
      (pss_cons (ps_set (i := 3) scWo.nd rfl (.inl rfl) (pe_callTy (call_list_dK rfl) (by rfl) T.list (by decide +kernel) (pa_cons (pv 1) pa_nil)))
      (pss_cons (ps_set (i := 4) scWo.nd rfl (.inl rfl) (pe_un un_neg pe_int))
      (pss_cons (ps_while PassesOwn.never (pt_cmpR op_gt (pe_callB call_lenD (by rfl) T.len PySem.boot_len (pa_cons (pv 2) pa_nil)) (pv 4) (nomark _)) (pss_cons (ps_set (i := 4) scWo.nd rfl (.inl rfl) (pe_callB call_lenD (by rfl) T.len PySem.boot_len (pa_cons (pv 2) pa_nil)))
        (pss_cons (ps_for PassesOwn.never rfl (pi_list (pv 3)) (pg_name (i := 5) scWo.nd rfl (Or.inl rfl)) pss_never)
        (pss_one (ps_setLc (i := 3) (own := [("name", 5)]) (g := gNev) (tt := tNevT) (te := tNev) rfl scWo.nd rfl rfl (sw_true rfl rfl rfl (by decide +kernel)) (pi_list (pv 3)) (blkOk_by (N := nWo) (sc := defScope sWo) (by decide +kernel)) (fun _ _ _ _ _ => pg_never) (fun _ _ _ _ _ => pts_never) (fun _ _ _ _ _ => pe_never))))))
      (pss_one (ps_ret (pe_callTy (call_list_dK rfl) (by rfl) T.list (by decide +kernel) (pa_cons (pv 2) pa_nil))))))))), ?_⟩
    refine ⟨_, rfl, x, rfl, hx, fun d H1 k1 h1 => ?_⟩
    refine fun e he => ?_
    have k2 : Same H1 (upd H1 e (.dK [])) := Same.put he
    have e2 : (upd H1 e (.dK [])) e = some (.dK []) := upd_same
    have d2 := k2 _ _ h1
    generalize upd H1 e (.dK []) = H2 at k2 e2 d2 ⊢
    refine ⟨_, rfl, d, [], rfl, d2, fun v hv => ?_⟩
    have k3 : Same H2 (upd H2 v (.lst (([] : List (Key × V)).map fun kv => kV kv.1))) := Same.put hv
    have v3 : (upd H2 v (.lst (([] : List (Key × V)).map fun kv => kV kv.1))) v = some (.lst []) := upd_same
    have e3 := k3 _ _ e2
    generalize upd H2 v (.lst (([] : List (Key × V)).map fun kv => kV kv.1)) = H3 at k3 v3 e3 ⊢
    refine ⟨_, rfl, ?_⟩
    have kk := Same.tr k1 (Same.tr k2 k3)
    refine while_by (fun σ G => Same H3 G ∧ ∃ (n : Int) (u : Addr), (n = -1 ∨ n = 0) ∧ G u = some (.lst []) ∧ σ = [some x, some (.ref d), some (.ref e), some (.ref u), some (.int n), none, none]) muN ⟨Same.refl _, -1, v, .inl rfl, v3, rfl⟩ ?_ (fun σ H Q Q' hq ⟨v, e1, a, kvs, e2, e3, v', e4, i, j, e5, e6, b, e7, q⟩ => ⟨v, e1, a, kvs, e2, e3, v', e4, i, j, e5, e6, b, e7, hq _ _ q⟩)
    rintro σ G ⟨kG, n, u, hn, hu, rfl⟩
    refine ⟨_, rfl, e, [], rfl, kG _ _ e3, _, rfl, _, _, rfl, rfl, _, rfl, ?_⟩
    rcases hn with rfl | rfl
    · refine iteT ⟨_, rfl, e, [], rfl, kG _ _ e3, ?_⟩
      refine ⟨_, rfl, u, rfl, ⟨[], SqL.of hu⟩, for_no (walk_list (xs := [])) (SqL.of hu) ?_⟩
      refine ⟨_, rfl, u, rfl, ⟨[], SqL.of hu⟩, fun D hD => lc_no (walk_list (xs := [])) (SqL.of (Same.put hD _ _ hu)) ?_⟩
      refine ⟨⟨Same.tr kG (Same.put hD), 0, D, .inr rfl, upd_same, rfl⟩, by show (-(0 : Int)).toNat < (-(-1 : Int)).toNat; decide⟩
    · refine iteF ⟨_, rfl, e, [], rfl, kG _ _ e3, fun p hp => ?_⟩
      exact q p _ (Same.tr kk (Same.tr kG (Same.put hp))) upd_same

abbrev sRg : Stmt := top 54
abbrev nRg : List Str := ["gates", "name", "working", "stuck", "direct", "walk", "sources", "_", "source"]
theorem scRg : FnScope nRg ["gates"] (defScope sRg) := ⟨rfl, rfl, rfl, by decide +kernel, rfl, by decide +kernel, by decide +kernel⟩

theorem ok_Rg (F : Fun K "ring_without_delay" "ring_without_delay" sRg f fd) (CW : Cg P w K mg base 2 "working_order" (spE1L K)) : FnG P w K mg base CX0 3 f fd ["gates"] (spE1L K) := by
  refine FunG.ok F scRg (fun vs H Q E h => ?_) (fun cdv B out s H vs Q E hr hG h => ?_)
  · obtain ⟨x, rfl, _⟩ := h
    rfl
  · obtain ⟨x, rfl, hx, q⟩ := h
    refine ⟨_, (pss_cons (ps_set (i := 2) scRg.nd rfl (.inr rfl) (pe_dc (own := [("name", 1)]) (g := gNev) (tt := tNevT) (tk := tNev) (tv := tNev) rfl scRg.nd (pi_list (pe_g CW hr hG (by decide) (by rfl) (pa_cons (pv 0) pa_nil))) (blkOk_by (N := nRg) (sc := defScope sRg) (by decide +kernel)) (fun _ _ _ _ _ => pg_never) (fun _ _ _ _ _ => pts_never) (fun _ _ _ _ _ => pe_never) (fun _ _ _ _ _ => pe_never)))
      (pss_cons (ps_setLc (i := 3) (own := [("name", 1), ("_", 7)]) (g := gNev) (tt := tNevT) (te := tNev) rfl scRg.nd rfl rfl (sw_true rfl rfl rfl (by decide +kernel)) (pi_seq (pv 0)) (blkOk_by (N := nRg) (sc := defScope sRg) (by decide +kernel)) (fun _ _ _ _ _ => pg_never) (fun _ _ _ _ _ => pts_never) (fun _ _ _ _ _ => pe_never))
      (pss_cons (ps_if (pt_not (pt_truth (pv 3) (by intro _; rfl))) (pss_one (ps_ret (pe_lst pa_nil))) pss_nil)
      pss_never))), ?_⟩
    refine ⟨_, rfl, x, rfl, hx, fun d H1 k1 h1 => ?_⟩
    refine ⟨d, rfl, ⟨[], SqL.of h1⟩, fun D hD => dc_no (walk_list (xs := [])) (SqL.of (Same.put hD _ _ h1)) ?_⟩
    have k2 := Same.tr k1 (Same.put (o := .dK []) hD)
    obtain ⟨a, rfl, ha⟩ := hx
    refine ⟨_, rfl, a, rfl, seq_it (ha.up k2) fun J wk => fun e he => lc_no wk (Same.put he) ?_⟩
    have k3 := Same.tr k2 (Same.put (o := .lst []) he)
    refine ⟨_, rfl, false, .inl ⟨[], SqL.of upd_same, rfl⟩, iteT ?_⟩
    exact ⟨by show 0 ≤ sizeLine; decide, fun p hp => q p _ (Same.tr k3 (Same.put hp)) upd_same⟩

abbrev sEw : Stmt := top 55
abbrev nEw : List Str := ["inputs", "gates", "readers", "name", "_", "edges", "source"]
theorem scEw : FnScope nEw ["inputs", "gates"] (defScope sEw) := ⟨rfl, rfl, rfl, by decide +kernel, rfl, by decide +kernel, by decide +kernel⟩

theorem ok_Ew (F : Fun K "ends_of_ways" "ends_of_ways" sEw f fd) (CS : Cg P w K mg base 1 "_spread" (spEXD K)) : FnG P w K mg base CX0 2 f fd ["inputs", "gates"] (spE2D K) := by
  refine FunG.ok F scEw (fun vs H Q E h => ?_) (fun cdv B out s H vs Q E hr hG h => ?_)
  · obtain ⟨x, y, rfl, _⟩ := h
    rfl
  · obtain ⟨x, y, rfl, hx, hy, q⟩ := h
    refine ⟨_, (pss_cons (ps_set (i := 2) scEw.nd rfl (.inl rfl) pe_dnewK)
      (pss_cons (ps_for PassesOwn.never rfl (pi_seq (pv 1)) (pg_tup rfl (pgs_cons (pg_name (i := 3) scEw.nd rfl (Or.inl rfl)) (pgs_cons (pg_name (i := 4) scEw.nd rfl (Or.inl rfl)) (pgs_cons (pg_name (i := 5) scEw.nd rfl (Or.inl rfl)) pgs_nil)))) pss_never)
      (pss_one (ps_ret (pe_g CS hr hG (by decide) (by rfl) (pa_cons (pv 0) (pa_cons (pv 2) pa_nil))))))), ?_⟩
    refine fun e he => ?_
    have k1 : Same H (upd H e (.dK [])) := Same.put he
    obtain ⟨b, rfl, hb⟩ := hy
    refine ⟨_, rfl, b, rfl, seq_it (hb.up k1) fun J wk => for_no wk (Same.refl _) ?_⟩
    exact ⟨_, rfl, _, rfl, x, _, rfl, hx.up k1, fun a H' k2 h2 => q a H' (Same.tr k1 k2) h2⟩

abbrev sBw : Stmt := top 56
abbrev nBw : List Str := ["gates", "outs", "sources", "name", "_", "edges", "source"]
theorem scBw : FnScope nBw ["gates", "outs"] (defScope sBw) := ⟨rfl, rfl, rfl, by decide +kernel, rfl, by decide +kernel, by decide +kernel⟩

theorem ok_Bw (F : Fun K "beginnings_of_ways" "beginnings_of_ways" sBw f fd) (CS : Cg P w K mg base 1 "_spread" (spEXD K)) : FnG P w K mg base CX0 2 f fd ["gates", "outs"] (spE2D K) := by
  refine FunG.ok F scBw (fun vs H Q E h => ?_) (fun cdv B out s H vs Q E hr hG h => ?_)
  · obtain ⟨x, y, rfl, _⟩ := h
    rfl
  · obtain ⟨x, y, rfl, hx, hy, q⟩ := h
    refine ⟨_, (pss_cons (ps_set (i := 2) scBw.nd rfl (.inl rfl) pe_dnewK)
      (pss_cons (ps_for PassesOwn.never rfl (pi_seq (pv 0)) (pg_tup rfl (pgs_cons (pg_name (i := 3) scBw.nd rfl (Or.inl rfl)) (pgs_cons (pg_name (i := 4) scBw.nd rfl (Or.inl rfl)) (pgs_cons (pg_name (i := 5) scBw.nd rfl (Or.inl rfl)) pgs_nil)))) pss_never)
      (pss_one (ps_ret (pe_g CS hr hG (by decide) (by rfl) (pa_cons (pe_lc (own := [("source", 6), ("_", 4)]) (g := gNev) (tt := tNevT) (te := tNev) rfl scBw.nd (pi_seq (pv 1)) (blkOk_by (N := nBw) (sc := defScope sBw) (by decide +kernel)) (fun _ _ _ _ _ => pg_never) (fun _ _ _ _ _ => pts_never) (fun _ _ _ _ _ => pe_never)) (pa_cons (pv 2) pa_nil))))))), ?_⟩
    refine fun e he => ?_
    have k1 : Same H (upd H e (.dK [])) := Same.put he
    obtain ⟨a, rfl, ha⟩ := hx
    obtain ⟨b, rfl, hb⟩ := hy
    refine ⟨_, rfl, a, rfl, seq_it (ha.up k1) fun J wk => for_no wk (Same.refl _) ?_⟩
    refine ⟨_, rfl, b, rfl, seq_it (hb.up k1) fun J wk => fun D hD => lc_no wk (Same.put hD) ?_⟩
    have k2 := Same.tr k1 (Same.put (o := .lst []) hD)
    exact ⟨_, rfl, _, _, rfl, emp_of upd_same, fun a H' k3 h3 => q a H' (Same.tr k2 k3) h3⟩

abbrev sCi : Stmt := top 60
abbrev nCi : List Str := ["inputs", "names", "item"]
theorem scCi : FnScope nCi ["inputs", "names"] (defScope sCi) := ⟨rfl, rfl, rfl, by decide +kernel, rfl, by decide +kernel, by decide +kernel⟩

theorem ok_Ci (F : Fun K "_check_inputs" "_check_inputs" sCi f fd) : FnG P w K mg base CX0 1 f fd ["inputs", "names"] (spEXN K) := by
  refine FunG.ok F scCi (fun vs H Q E h => ?_) (fun cdv B out s H vs Q E hr hG h => ?_)
  · obtain ⟨x, y, rfl, _⟩ := h
    rfl
  · obtain ⟨x, y, rfl, ⟨a, rfl, ha⟩, q⟩ := h
    refine ⟨_, (pss_one (ps_for PassesOwn.never rfl (pi_seq (pv 0)) (pg_name (i := 2) scCi.nd rfl (Or.inl rfl)) pss_never)), ?_⟩
    exact ⟨_, rfl, a, rfl, seq_it ha fun J wk => for_no wk (Same.refl _) q⟩

abbrev sCgt : Stmt := top 62
abbrev nCgt : List Str := ["gates", "names", "item", "name", "symbol", "edges"]
theorem scCgt : FnScope nCgt ["gates", "names"] (defScope sCgt) := ⟨rfl, rfl, rfl, by decide +kernel, rfl, by decide +kernel, by decide +kernel⟩

theorem ok_Cgt (F : Fun K "_check_gates" "_check_gates" sCgt f fd) : FnG P w K mg base CX0 1 f fd ["gates", "names"] (spEXN K) := by
  refine FunG.ok F scCgt (fun vs H Q E h => ?_) (fun cdv B out s H vs Q E hr hG h => ?_)
  · obtain ⟨x, y, rfl, _⟩ := h
    rfl
  · obtain ⟨x, y, rfl, ⟨a, rfl, ha⟩, q⟩ := h
    refine ⟨_, (pss_one (ps_for PassesOwn.never rfl (pi_seq (pv 0)) (pg_name (i := 2) scCgt.nd rfl (Or.inl rfl)) pss_never)), ?_⟩
    exact ⟨_, rfl, a, rfl, seq_it ha fun J wk => for_no wk (Same.refl _) q⟩

abbrev sCtm : Stmt := top 63
abbrev nCtm : List Str := ["terms", "index", "item"]
theorem scCtm : FnScope nCtm ["terms"] (defScope sCtm) := ⟨rfl, rfl, rfl, by decide +kernel, rfl, by decide +kernel, by decide +kernel⟩

theorem ok_Ctm (F : Fun K "check_terms" "check_terms" sCtm f fd) (T : TxtN mg) : FnG P w K mg base CX0 1 f fd ["terms"] (spE1N K) := by
  refine FunG.ok F scCtm (fun vs H Q E h => ?_) (fun cdv B out s H vs Q E hr hG h => ?_)
  · obtain ⟨x, rfl, _⟩ := h
    rfl
  · obtain ⟨x, rfl, ⟨a, rfl, ha⟩, q⟩ := h
    refine ⟨_, (pss_one (ps_for PassesOwn.never rfl (pi_enumS (by rfl) T.enumerate (pa_cons (pv 0) pa_nil)) (pg_tup rfl (pgs_cons (pg_name (i := 1) scCtm.nd rfl (Or.inl rfl)) (pgs_cons (pg_name (i := 2) scCtm.nd rfl (Or.inl rfl)) pgs_nil))) pss_never)), ?_⟩
    exact ⟨_, rfl, a, rfl, enum_it ha fun J wk => for_no wk (Same.refl _) q⟩

abbrev sCed : Stmt := top 65
abbrev nCed : List Str := ["gates", "outs", "names", "count", "_", "edges", "item"]
theorem scCed : FnScope nCed ["gates", "outs", "names", "count"] (defScope sCed) := ⟨rfl, rfl, rfl, by decide +kernel, rfl, by decide +kernel, by decide +kernel⟩

theorem ok_Ced (F : Fun K "_check_edges" "_check_edges" sCed f fd) : FnG P w K mg base CX0 1 f fd ["gates", "outs", "names", "count"] (spE2X2N K) := by
  refine FunG.ok F scCed (fun vs H Q E h => ?_) (fun cdv B out s H vs Q E hr hG h => ?_)
  · obtain ⟨x, y, z, u, rfl, _⟩ := h
    rfl
  · obtain ⟨x, y, z, u, rfl, ⟨a, rfl, ha⟩, ⟨b, rfl, hb⟩, q⟩ := h
    refine ⟨_, (pss_cons (ps_for PassesOwn.never rfl (pi_seq (pv 0)) (pg_tup rfl (pgs_cons (pg_name (i := 4) scCed.nd rfl (Or.inl rfl)) (pgs_cons (pg_name (i := 4) scCed.nd rfl (Or.inl rfl)) (pgs_cons (pg_name (i := 5) scCed.nd rfl (Or.inl rfl)) pgs_nil)))) pss_never)
      (pss_one (ps_for PassesOwn.never rfl (pi_seq (pv 1)) (pg_name (i := 6) scCed.nd rfl (Or.inl rfl)) pss_never))), ?_⟩
    refine ⟨_, rfl, a, rfl, seq_it ha fun J wk => for_no wk (Same.refl _) ?_⟩
    exact ⟨_, rfl, b, rfl, seq_it hb fun J wk => for_no wk (Same.refl _) q⟩

abbrev sCwy : Stmt := top 67
abbrev nCwy : List Str := ["inputs", "gates", "outs", "ring", "reached", "name", "_", "leading"]
theorem scCwy : FnScope nCwy ["inputs", "gates", "outs"] (defScope sCwy) := ⟨rfl, rfl, rfl, by decide +kernel, rfl, by decide +kernel, by decide +kernel⟩

theorem ok_Cwy (F : Fun K "_check_ways" "_check_ways" sCwy f fd) (CR : Cg P w K mg base 3 "ring_without_delay" (spE1L K)) (CE : Cg P w K mg base 2 "ends_of_ways" (spE2D K)) (CB : Cg P w K mg base 2 "beginnings_of_ways" (spE2D K)) : FnG P w K mg base CX0 4 f fd ["inputs", "gates", "outs"] (spE3N K) := by
  refine FunG.ok F scCwy (fun vs H Q E h => ?_) (fun cdv B out s H vs Q E hr hG h => ?_)
  · obtain ⟨x, y, z, rfl, _⟩ := h
    rfl
  · obtain ⟨x, y, z, rfl, hx, hy, hz, q⟩ := h
    refine ⟨_, (pss_cons (ps_set (i := 3) scCwy.nd rfl (.inl rfl) (pe_g CR hr hG (by decide) (by rfl) (pa_cons (pv 1) pa_nil)))
      (pss_cons (ps_if (pt_truth (pv 3) (by intro _; rfl)) (pss_one (ps_never)) pss_nil)
      (pss_cons (ps_set (i := 4) scCwy.nd rfl (.inl rfl) (pe_g CE hr hG (by decide) (by rfl) (pa_cons (pv 0) (pa_cons (pv 1) pa_nil))))
      (pss_cons (ps_for PassesOwn.never rfl (pi_seq (pv 1)) (pg_tup rfl (pgs_cons (pg_name (i := 5) scCwy.nd rfl (Or.inl rfl)) (pgs_cons (pg_name (i := 6) scCwy.nd rfl (Or.inl rfl)) (pgs_cons (pg_name (i := 6) scCwy.nd rfl (Or.inl rfl)) pgs_nil)))) pss_never)
      (pss_cons (ps_set (i := 7) scCwy.nd rfl (.inl rfl) (pe_g CB hr hG (by decide) (by rfl) (pa_cons (pv 1) (pa_cons (pv 2) pa_nil))))
      (pss_one (ps_for PassesOwn.never rfl (pi_seq (pv 1)) (pg_tup rfl (pgs_cons (pg_name (i := 5) scCwy.nd rfl (Or.inl rfl)) (pgs_cons (pg_name (i := 6) scCwy.nd rfl (Or.inl rfl)) (pgs_cons (pg_name (i := 6) scCwy.nd rfl (Or.inl rfl)) pgs_nil)))) pss_never))))))), ?_⟩
    refine ⟨_, rfl, y, rfl, hy, fun r H1 k1 h1 => ?_⟩
    refine ⟨_, rfl, false, .inl ⟨[], SqL.of h1, rfl⟩, iteF ?_⟩
    refine ⟨_, rfl, _, rfl, x, y, rfl, hx.up k1, hy.up k1, fun d H2 k2 h2 => ?_⟩
    have k12 := Same.tr k1 k2
    obtain ⟨b, rfl, hb⟩ := hy
    refine ⟨_, rfl, b, rfl, seq_it (hb.up k12) fun J wk => for_no wk (Same.refl _) ?_⟩
    refine ⟨_, rfl, _, rfl, _, z, rfl, ⟨b, rfl, hb.up k12⟩, hz.up k12, fun e H3 k3 h3 => ?_⟩
    have k13 := Same.tr k12 k3
    exact ⟨_, rfl, b, rfl, seq_it (hb.up k13) fun J wk => for_no wk (Same.refl _) (q _ k13)⟩

/-- the classes' facts -/
structure TxtT (K : PySem.W.Frag) (C : Addr) : Prop where
  cl : Cls K C
  n1 : NoAttr K C "_listed"
  n2 : NoAttr K C "_places"
/-- TermTable() -/
def spTt (C : Addr) : Sp := fun vs H Q _ => ∃ p dx, vs = [.ref p] ∧ H p = some (.ins C dx []) ∧ ∀ H' u v, H' p = some (.ins C dx [("_listed", u), ("_places", v)]) → Keep p H H' → Q .non H'
def spTe (K : PySem.W.Frag) : Sp := fun vs H Q _ => ∃ x y : V, vs = [x, y] ∧ Emp K H y ∧ ∀ a H', Same H H' → H' a = some (.lst []) → Q (.ref a) H'
/-- used: a pair of an empty list and an empty dict -/
def spTu (K : PySem.W.Frag) : Sp := fun vs H Q _ => ∃ x y : V, vs = [x, y] ∧ Emp K H y ∧ ∀ a l d H', Same H H' → H' a = some (.tup [.ref l, .ref d]) → H' l = some (.lst []) → H' d = some (.dK []) → Q (.ref a) H'
/-- a new instance of no or any fields -/
def spNw (C : Addr) (n : Nat) (P : Hp → List V → Prop) : Sp := fun vs H Q _ => ∃ p dx us, vs = .ref p :: us ∧ us.length = n ∧ H p = some (.ins C dx []) ∧ P H us ∧ ∀ H' fs, H' p = some (.ins C dx fs) → Keep p H H' → Q .non H'

abbrev sTti : Stmt := inClass (top 33) 0
abbrev nTti : List Str := ["self"]
theorem scTti : FnScope nTti ["self"] (defScope sTti) := ⟨rfl, rfl, rfl, by decide +kernel, rfl, by decide +kernel, by decide +kernel⟩

theorem ok_Tti {C : Addr} (F : Fun K "__init__" "TermTable.__init__" sTti f fd) (T : TxtT K C) : FnG P w K mg base CX0 1 f fd ["self"] (spTt C) := by
  refine FunG.ok F scTti (fun vs H Q E h => ?_) (fun cdv B out s H vs Q E hr hG h => ?_)
  · obtain ⟨p, dx, rfl, _⟩ := h
    rfl
  · obtain ⟨p, dx, rfl, hp, q⟩ := h
    refine ⟨_, (pss_cons (ps_fld (pv 0) (pe_lst pa_nil) rfl)
      (pss_one (ps_fld (pv 0) pe_dnewK rfl))), ?_⟩
    refine ⟨by show 0 ≤ sizeLine; decide, fun l hl => ?_⟩
    refine ⟨_, rfl, p, C, dx, _, rfl, (upd_ne (ne_of_none hp hl)).trans hp, T.cl, T.n1, by show 0 < 1000; decide, ?_⟩
    have k1 : Keep p H (upd (upd H l (.lst [])) p (.ins C dx (putF "_listed" (.ref l) []))) := (Keep.new hl).trans Keep.put
    have h1 : (upd (upd H l (.lst [])) p (.ins C dx (putF "_listed" (.ref l) []))) p = some (.ins C dx (putF "_listed" (.ref l) [])) := upd_same
    generalize upd (upd H l (.lst [])) p (.ins C dx (putF "_listed" (.ref l) [])) = H1 at k1 h1 ⊢
    refine fun d hd => ?_
    refine ⟨_, rfl, p, C, dx, _, rfl, (upd_ne (ne_of_none h1 hd)).trans h1, T.cl, T.n2, by show 1 < 1000; decide, ?_⟩
    exact q _ (.ref l) (.ref d) upd_same (k1.trans ((Keep.new hd).trans Keep.put))

abbrev sTte : Stmt := inClass (top 33) 3
abbrev nTte : List Str := ["self", "terms", "numbers", "symbol", "arguments", "index"]
theorem scTte : FnScope nTte ["self", "terms"] (defScope sTte) := ⟨rfl, rfl, rfl, by decide +kernel, rfl, by decide +kernel, by decide +kernel⟩

theorem ok_Tte {C : Addr} (F : Fun K "enter_terms" "TermTable.enter_terms" sTte f fd) : FnG P w K mg base CX0 1 f fd ["self", "terms"] (spTe K) := by
  refine FunG.ok F scTte (fun vs H Q E h => ?_) (fun cdv B out s H vs Q E hr hG h => ?_)
  · obtain ⟨x, y, rfl, _⟩ := h
    rfl
  · obtain ⟨x, y, rfl, ⟨a, rfl, ha⟩, q⟩ := h
    refine ⟨_, (pss_cons (ps_set (i := 2) scTte.nd rfl (.inr rfl) (pe_lst pa_nil))
      (pss_cons (ps_for PassesOwn.never rfl (pi_seq (pv 1)) (pg_tup rfl (pgs_cons (pg_name (i := 3) scTte.nd rfl (Or.inl rfl)) (pgs_cons (pg_name (i := 4) scTte.nd rfl (Or.inl rfl)) pgs_nil))) pss_never)
      (pss_one (ps_ret (pv 2))))), ?_⟩
    refine ⟨by show 0 ≤ sizeLine; decide, fun l hl => ?_⟩
    refine ⟨_, rfl, a, rfl, seq_it (ha.up (Same.put hl)) fun J wk => for_no wk (Same.refl _) ?_⟩
    exact ⟨_, rfl, q l _ (Same.put hl) upd_same⟩

abbrev sTtu : Stmt := inClass (top 33) 4
abbrev nTtu : List Str := ["self", "numbers", "kept", "places", "number", "waiting", "row", "missing", "part"]
theorem scTtu : FnScope nTtu ["self", "numbers"] (defScope sTtu) := ⟨rfl, rfl, rfl, by decide +kernel, rfl, by decide +kernel, by decide +kernel⟩

theorem ok_Ttu {C : Addr} (F : Fun K "used" "TermTable.used" sTtu f fd) : FnG P w K mg base CX0 1 f fd ["self", "numbers"] (spTu K) := by
  refine FunG.ok F scTtu (fun vs H Q E h => ?_) (fun cdv B out s H vs Q E hr hG h => ?_)
  · obtain ⟨x, y, rfl, _⟩ := h
    rfl
  · obtain ⟨x, y, rfl, ⟨a, rfl, ha⟩, q⟩ := h
    refine ⟨_, (pss_cons (ps_set (i := 2) scTtu.nd rfl (.inl rfl) (pe_lst pa_nil))
      (pss_cons (ps_set (i := 3) scTtu.nd rfl (.inr rfl) pe_dnewK)
      (pss_cons (ps_for PassesOwn.never rfl (pi_seq (pv 1)) (pg_name (i := 4) scTtu.nd rfl (Or.inl rfl)) pss_never)
      (pss_one (ps_ret (pe_tup (pa_cons (pv 2) (pa_cons (pv 3) pa_nil)))))))), ?_⟩
    refine ⟨by show 0 ≤ sizeLine; decide, fun l hl => fun d hd => ?_⟩
    have k1 : Same H (upd H l (.lst [])) := Same.put hl
    have k2 : Same (upd H l (.lst [])) (upd (upd H l (.lst [])) d (.dK [])) := Same.put hd
    have k12 := Same.tr k1 k2
    refine ⟨_, rfl, a, rfl, seq_it (ha.up k12) fun J wk => for_no wk (Same.refl _) ?_⟩
    refine ⟨_, rfl, _, rfl, (by show 2 ≤ sizeLine; decide), fun t ht => ?_⟩
    have k3 : Same (upd (upd H l (.lst [])) d (.dK [])) (upd (upd (upd H l (.lst [])) d (.dK [])) t (.tup [.ref l, .ref d])) := Same.put ht
    exact q t l d _ (Same.tr k12 k3) upd_same (k3 _ _ (k2 _ _ upd_same)) (k3 _ _ upd_same)

abbrev sKe : Stmt := top 70
abbrev nKe : List Str := ["edges", "moved", "source", "start", "starts"]
theorem scKe : FnScope nKe ["edges", "moved"] (defScope sKe) := ⟨rfl, rfl, rfl, by decide +kernel, rfl, by decide +kernel, by decide +kernel⟩

theorem ok_Ke (F : Fun K "_kept_edges" "_kept_edges" sKe f fd) : FnG P w K mg base CX0 1 f fd ["edges", "moved"] (spEXL K) := by
  refine FunG.ok F scKe (fun vs H Q E h => ?_) (fun cdv B out s H vs Q E hr hG h => ?_)
  · obtain ⟨x, y, rfl, _⟩ := h
    rfl
  · obtain ⟨x, y, rfl, ⟨a, rfl, ha⟩, q⟩ := h
    refine ⟨_, (pss_one (ps_ret (pe_lc (own := [("source", 2), ("starts", 4)]) (g := gNev) (tt := tNevT) (te := tNev) rfl scKe.nd (pi_seq (pv 0)) (blkOk_by (N := nKe) (sc := defScope sKe) (by decide +kernel)) (fun _ _ _ _ _ => pg_never) (fun _ _ _ _ _ => pts_never) (fun _ _ _ _ _ => pe_never)))), ?_⟩
    exact ⟨_, rfl, a, rfl, seq_it ha fun J wk => fun D hD => lc_no wk (Same.put hD) (q D _ (Same.put hD) upd_same)⟩

abbrev sCp : Stmt := top 59
abbrev nCp : List Str := ["inputs", "gates", "outs", "terms", "argument", "names"]
theorem scCp : FnScope nCp ["inputs", "gates", "outs", "terms"] (defScope sCp) := ⟨rfl, rfl, rfl, by decide +kernel, rfl, by decide +kernel, by decide +kernel⟩

theorem ok_Cp (F : Fun K "check_parts" "check_parts" sCp f fd) (CL : Cg P w K mg base 1 "is_list" (spList K)) (C1 : Cg P w K mg base 1 "_check_inputs" (spEXN K)) (C2 : Cg P w K mg base 1 "_check_gates" (spEXN K)) (C3 : Cg P w K mg base 1 "check_terms" (spE1N K)) (C4 : Cg P w K mg base 1 "_check_edges" (spE2X2N K)) (C5 : Cg P w K mg base 4 "_check_ways" (spE3N K)) (T : TxtN mg) : FnG P w K mg base CX0 5 f fd ["inputs", "gates", "outs", "terms"] (spE4N K) := by
  refine FunG.ok F scCp (fun vs H Q E h => ?_) (fun cdv B out s H vs Q E hr hG h => ?_)
  · obtain ⟨x, y, z, u, rfl, _⟩ := h
    rfl
  · obtain ⟨x, y, z, u, rfl, hx, hy, hz, hu, q⟩ := h
    refine ⟨_, (pss_cons (ps_for PassesOwn.never rfl (pi_tup (pe_tup (pa_cons (pv 0) (pa_cons (pv 1) (pa_cons (pv 2) (pa_cons (pv 3) pa_nil)))))) (pg_name (i := 4) scCp.nd rfl (Or.inl rfl)) (pss_one (ps_if (pt_not (pt_val (pe_g CL hr hG (by decide) (by rfl) (pa_cons (pv 4) pa_nil)))) (pss_one (ps_never)) pss_nil)))
      (pss_cons (ps_set (i := 5) scCp.nd rfl (.inl rfl) pe_dnewK)
      (pss_cons (ps_expr (pe_g C1 hr hG (by decide) (by rfl) (pa_cons (pv 0) (pa_cons (pv 5) pa_nil))))
      (pss_cons (ps_expr (pe_g C2 hr hG (by decide) (by rfl) (pa_cons (pv 1) (pa_cons (pv 5) pa_nil))))
      (pss_cons (ps_expr (pe_g C3 hr hG (by decide) (by rfl) (pa_cons (pv 3) pa_nil)))
      (pss_cons (ps_expr (pe_g C4 hr hG (by decide) (by rfl) (pa_cons (pv 1) (pa_cons (pv 2) (pa_cons (pv 5) (pa_cons (pe_callB call_len (by rfl) T.len PySem.boot_len (pa_cons (pv 3) pa_nil)) pa_nil))))))
      (pss_one (ps_expr (pe_g C5 hr hG (by decide) (by rfl) (pa_cons (pv 0) (pa_cons (pv 1) (pa_cons (pv 2) pa_nil)))))))))))), ?_⟩
    refine ⟨_, rfl, _, rfl, _, rfl, _, rfl, (by show 4 ≤ sizeLine; decide), fun t ht => ?_⟩
    have k1 : Same H (upd H t (.tup [x, y, z, u])) := Same.put ht
    have t1 : (upd H t (.tup [x, y, z, u])) t = some (.tup [x, y, z, u]) := upd_same
    generalize upd H t (.tup [x, y, z, u]) = H1 at k1 t1 ⊢
    refine ⟨t, rfl, ⟨_, SqT.of t1⟩, for_it (walk_tup (xs := [x, y, z, u])) (fun _ σ G => Same H1 G ∧ ∃ o4 o5, σ = [some x, some y, some z, some u, o4, o5]) ⟨Same.refl _, none, none, rfl⟩ (fun i σ G _ h => SqT.of (h.1 _ _ t1)) ?_ ?_⟩
    · rintro i v σ G G' hi ⟨kG, o4, o5, rfl⟩ ⟨rfl, hv⟩
      have hm : Emp K H v := by
        match i, hv with
        | 0, hv => cases hv; exact hx
        | 1, hv => cases hv; exact hy
        | 2, hv => cases hv; exact hz
        | 3, hv => cases hv; exact hu
      obtain ⟨a, rfl, ha⟩ := hm.up (Same.tr k1 kG)
      obtain ⟨k, vk, hk⟩ := vk_seqA ha
      refine ⟨_, rfl, _, k, rfl, vk, fun H2 k2 => ⟨_, rfl, ?_⟩⟩
      rw [hk]
      exact iteF ⟨Same.tr kG k2, _, _, rfl⟩
    · rintro σ G ⟨kG, o4, o5, rfl⟩
      have kk := Same.tr k1 kG
      refine fun d hd => ?_
      have k2 := Same.tr kk (Same.put (o := .dK []) hd)
      refine ⟨_, rfl, _, rfl, x, _, rfl, hx.up k2, ?_⟩
      refine ⟨_, rfl, _, rfl, y, _, rfl, hy.up k2, ?_⟩
      refine ⟨_, rfl, u, rfl, hu.up k2, ?_⟩
      obtain ⟨ua, rfl, hua⟩ := hu
      refine ⟨_, rfl, _, rfl, _, rfl, _, rfl, _, _, rfl, lenA (hua.up k2), y, z, _, _, rfl, hy.up k2, hz.up k2, ?_⟩
      exact ⟨_, rfl, _, rfl, _, rfl, x, y, z, rfl, hx.up k2, hy.up k2, hz.up k2, fun H3 k3 => q _ (Same.tr k2 k3)⟩

theorem SqA.kp {K : PySem.W.Frag} {p C dx a : Addr} {H H' : Hp} {xs : List V} {fs : List (Str × V)} (k : Keep p H H') (hp : H p = some (.ins C dx fs)) (h : SqA K H a xs) : SqA K H' a xs := by
  have ne : ∀ {o : HO}, H a = some o → (∀ C dx fs, o ≠ .ins C dx fs) → a ≠ p := fun {o} e hn z => by
    rw [z, hp] at e
    exact hn _ _ _ (Option.some.inj e).symm
  rcases h with h | h
  · rcases h with (h | ⟨o, h⟩) | h
    · exact .inl (.inl (.inl (k _ _ (ne h (fun _ _ _ z => by cases z)) h)))
    · exact .inl (.inl (.inr ⟨o, k _ _ (ne h (fun _ _ _ z => by cases z)) h⟩))
    · exact .inl (.inr h)
  · rcases h with (h | ⟨o, h⟩) | h
    · exact .inr (.inl (.inl (k _ _ (ne h (fun _ _ _ z => by cases z)) h)))
    · exact .inr (.inl (.inr ⟨o, k _ _ (ne h (fun _ _ _ z => by cases z)) h⟩))
    · exact .inr (.inr h)
theorem Emp.kp {K : PySem.W.Frag} {p C dx : Addr} {H H' : Hp} {x : V} {fs : List (Str × V)} (k : Keep p H H') (hp : H p = some (.ins C dx fs)) (h : Emp K H x) : Emp K H' x := let ⟨a, e, q⟩ := h; ⟨a, e, SqA.kp k hp q⟩
structure TxtNt (K : PySem.W.Frag) (C : Addr) : Prop where
  cl : Cls K C
  no : ∀ f ∈ (["_terms", "_inputs", "_names", "_symbols", "_edges", "_outs"] : List Str), NoAttr K C f
abbrev ntF : List Str := ["_terms", "_inputs", "_names", "_symbols", "_edges", "_outs"]
/-- a network without anything -/
def NetAt (H : Hp) (C p : Addr) : Prop := ∃ (dx l1 l2 l3 l6 : Addr) (fs : List (Str × V)), H p = some (.ins C dx fs) ∧ fs.lookup ("_terms" : Str) = some (.ref l1) ∧ fs.lookup ("_inputs" : Str) = some (.ref l2) ∧ fs.lookup ("_names" : Str) = some (.ref l3) ∧ fs.lookup ("_outs" : Str) = some (.ref l6) ∧ (∀ m, m ∉ ntF → fs.lookup m = none) ∧ H l1 = some (.lst []) ∧ H l2 = some (.lst []) ∧ H l3 = some (.lst []) ∧ H l6 = some (.lst [])
theorem NetAt.up {H H' : Hp} {C p : Addr} (s : Same H H') (h : NetAt H C p) : NetAt H' C p := by
  obtain ⟨dx, l1, l2, l3, l6, fs, h0, a1, a2, a3, a4, a5, b1, b2, b3, b4⟩ := h
  exact ⟨dx, l1, l2, l3, l6, fs, s _ _ h0, a1, a2, a3, a4, a5, s _ _ b1, s _ _ b2, s _ _ b3, s _ _ b4⟩
/-- Net(x, y, z, t) of empty ones -/
def spNt (K : PySem.W.Frag) (C : Addr) : Sp := fun vs H Q _ => ∃ p dx x y z u, vs = [.ref p, x, y, z, u] ∧ H p = some (.ins C dx []) ∧ Emp K H x ∧ Emp K H y ∧ Emp K H z ∧ Emp K H u ∧ ∀ H', NetAt H' C p → Keep p H H' → Q .non H'

abbrev sNi : Stmt := inClass (top 69) 0
abbrev nNi : List Str := ["self", "inputs", "gates", "outs", "terms", "table", "numbers", "starts", "kept", "places", "moved", "start", "name", "_", "symbol", "edges"]
theorem scNi : FnScope nNi ["self", "inputs", "gates", "outs", "terms"] (defScope sNi) := ⟨rfl, rfl, rfl, by decide +kernel, rfl, by decide +kernel, by decide +kernel⟩

theorem ok_Ni {C : Addr} {dvs : List V} (F : FunD K "__init__" "Net.__init__" (defArgs sNi) (defBody sNi) (defScope sNi) dvs [] f fd) {CT : Addr} (T : TxtNt K C) (TN : TxtN mg) (CP : Cg P w K mg base 5 "check_parts" (spE4N K)) (CM : Cm P w K mg base 1 "TermTable" CT [] (spTt CT)) (CE : Ct P w K mg base 1 CT "enter_terms" [] (spTe K)) (CU : Ct P w K mg base 1 CT "used" [] (spTu K)) (CA : Cg P w K mg base 2 "all_starts" (spE2L K)) (CK : Cg P w K mg base 1 "_kept_edges" (spEXL K)) : FnG P w K mg base CX0 6 f fd ["self", "inputs", "gates", "outs", "terms"] (spNt K C) := by
  refine FunDG.ok F scNi (fun vs H Q E h => ?_) (fun cdv B out s H vs Q E hr hG h => ?_)
  · obtain ⟨p, dx, x, y, z, u, rfl, _⟩ := h
    rfl
  · obtain ⟨p, dx, x, y, z, u, rfl, hp, hx, hy, hz, hu, q⟩ := h
    refine ⟨_, (pss_cons (ps_expr (pe_g CP hr hG (by decide) (by rfl) (pa_cons (pv 1) (pa_cons (pv 2) (pa_cons (pv 3) (pa_cons (pv 4) pa_nil))))))
      (pss_cons (ps_set (i := 5) scNi.nd rfl (.inl rfl) (pe_cm0 CM hr hG (by decide) (by rfl)))
      (pss_cons (ps_set (i := 6) scNi.nd rfl (.inr rfl) (pe_ct (pv 5) CE hr hG (by decide) (pa_cons (pv 4) pa_nil)))
      (pss_cons (ps_set (i := 7) scNi.nd rfl (.inl rfl) (pe_g CA hr hG (by decide) (by rfl) (pa_cons (pv 2) (pa_cons (pv 3) pa_nil))))
      (pss_cons (ps_asg (pe_ct (pv 5) CU hr hG (by decide) (pa_cons (pe_lc (own := [("start", 11)]) (g := gNev) (tt := tNevT) (te := tNev) rfl scNi.nd (pi_list (pv 7)) (blkOk_by (N := nNi) (sc := defScope sNi) (by decide +kernel)) (fun _ _ _ _ _ => pg_never) (fun _ _ _ _ _ => pts_never) (fun _ _ _ _ _ => pe_never)) pa_nil)) (pg_tup rfl (pgs_cons (pg_name (i := 8) scNi.nd rfl (Or.inl rfl)) (pgs_cons (pg_name (i := 9) scNi.nd rfl (Or.inr rfl)) pgs_nil))))
      (pss_cons (ps_set (i := 10) scNi.nd rfl (.inr rfl) (pe_dc (own := [("start", 11)]) (g := gNev) (tt := tNevT) (tk := tNev) (tv := tNev) rfl scNi.nd (pi_list (pv 7)) (blkOk_by (N := nNi) (sc := defScope sNi) (by decide +kernel)) (fun _ _ _ _ _ => pg_never) (fun _ _ _ _ _ => pts_never) (fun _ _ _ _ _ => pe_never) (fun _ _ _ _ _ => pe_never)))
      (pss_cons (ps_fld (pv 0) (pv 8) rfl)
      (pss_cons (ps_fld (pv 0) (pe_callTy call_list_of (by rfl) TN.list (by decide +kernel) (pa_cons (pv 1) pa_nil)) rfl)
      (pss_cons (ps_fld (pv 0) (pe_lc (own := [("name", 12), ("_", 13)]) (g := gNev) (tt := tNevT) (te := tNev) rfl scNi.nd (pi_seq (pv 2)) (blkOk_by (N := nNi) (sc := defScope sNi) (by decide +kernel)) (fun _ _ _ _ _ => pg_never) (fun _ _ _ _ _ => pts_never) (fun _ _ _ _ _ => pe_never)) rfl)
      (pss_cons (ps_fld (pv 0) (pe_dc (own := [("name", 12), ("symbol", 14), ("_", 13)]) (g := gNev) (tt := tNevT) (tk := tNev) (tv := tNev) rfl scNi.nd (pi_seq (pv 2)) (blkOk_by (N := nNi) (sc := defScope sNi) (by decide +kernel)) (fun _ _ _ _ _ => pg_never) (fun _ _ _ _ _ => pts_never) (fun _ _ _ _ _ => pe_never) (fun _ _ _ _ _ => pe_never)) rfl)
      (pss_cons (ps_fld (pv 0) (pe_dc (own := [("name", 12), ("_", 13), ("edges", 15)]) (g := gNev) (tt := tNevT) (tk := tNev) (tv := tNev) rfl scNi.nd (pi_seq (pv 2)) (blkOk_by (N := nNi) (sc := defScope sNi) (by decide +kernel)) (fun _ _ _ _ _ => pg_never) (fun _ _ _ _ _ => pts_never) (fun _ _ _ _ _ => pe_never) (fun _ _ _ _ _ => pe_never)) rfl)
      (pss_one (ps_fld (pv 0) (pe_g CK hr hG (by decide) (by rfl) (pa_cons (pv 3) (pa_cons (pv 10) pa_nil))) rfl))))))))))))), ?_⟩
    have nf : ∀ f ∈ (["_terms", "_inputs", "_names", "_symbols", "_edges", "_outs"] : List Str), NoAttr K C f := T.no
    refine ⟨_, rfl, _, rfl, _, rfl, _, rfl, x, y, z, u, rfl, hx, hy, hz, hu, fun H1 k1 => ?_⟩
    refine fun pt dt nb ndx nex => ⟨pt, dt, rfl, upd_same, fun H2 ta tb h2 kb => ⟨rfl, ?_⟩⟩
    have k2 : Same H1 H2 := Same.made nb ndx (fun b o e hb => kb b o hb e)
    have k12 := Same.tr k1 k2
    refine ⟨_, rfl, pt, dt, _, rfl, h2, rfl, _, rfl, _, _, rfl, hu.up k12, fun nl H3 k3 h3 => ?_⟩
    have k13 := Same.tr k12 k3
    refine ⟨_, rfl, _, rfl, y, z, rfl, hy.up k13, hz.up k13, fun sl H4 k4 h4 => ?_⟩
    have k14 := Same.tr k13 k4
    refine ⟨_, rfl, pt, dt, _, rfl, k4 _ _ (k3 _ _ h2), rfl, _, rfl, sl, rfl, ⟨[], SqL.of h4⟩, fun D hD => lc_no (walk_list (xs := [])) (SqL.of (Same.put hD _ _ h4)) ?_⟩
    have k5 : Same H4 (upd H4 D (.lst [])) := Same.put hD
    refine ⟨_, _, rfl, emp_of upd_same, fun t l d H6 k6 t6 l6 d6 => ?_⟩
    have k46 := Same.tr k5 k6
    have k16 := Same.tr k14 k46
    refine ⟨t, _, rfl, SqT.of t6, rfl, _, _, rfl, _, _, rfl, rfl, ?_⟩
    have h6 := k46 _ _ h4
    refine ⟨_, rfl, sl, rfl, ⟨[], SqL.of h6⟩, fun D2 hD2 => dc_no (walk_list (xs := [])) (SqL.of (Same.put hD2 _ _ h6)) ?_⟩
    have k7 : Same H6 (upd H6 D2 (.dK [])) := Same.put hD2
    have k17 := Same.tr k16 k7
    have hp7 := k17 _ _ hp
    have kp : Keep p H (upd H6 D2 (.dK [])) := Keep.of k17
    have nA : l ≠ p := fun z => by rw [z, k16 _ _ hp] at l6; cases l6
    have lA7 := k7 _ _ l6
    generalize upd H6 D2 (.dK []) = G at k7 k17 hp7 kp lA7 ⊢
    -- the fields
    refine ⟨_, rfl, _, rfl, p, C, dx, _, rfl, hp7, T.cl, nf _ (by simp), by show 0 < 1000; decide, ?_⟩
    have kp1 : Keep p H (upd G p (.ins C dx (putF "_terms" (.ref l) []))) := kp.trans Keep.put
    have hp1 : (upd G p (.ins C dx (putF "_terms" (.ref l) []))) p = some (.ins C dx (putF "_terms" (.ref l) [])) := upd_same
    have lA1 : (upd G p (.ins C dx (putF "_terms" (.ref l) []))) l = some (.lst []) := (upd_ne nA).trans lA7
    have z1 := L2.length_putF "_terms" (V.ref l) []
    generalize hf1 : putF "_terms" (V.ref l) [] = f1 at kp1 hp1 lA1 z1 ⊢
    generalize upd G p (.ins C dx f1) = G1 at kp1 hp1 lA1 ⊢
    obtain ⟨xa, rfl, hxa⟩ := hx
    obtain ⟨ya, rfl, hya⟩ := hy
    obtain ⟨za, rfl, hza⟩ := hz
    refine ⟨_, rfl, xa, [], rfl, SqA.kp kp1 hp hxa, fun l2 e2 => ?_⟩
    have n2 : l2 ≠ p := ne_of_none' e2 hp1
    refine ⟨_, rfl, p, C, dx, _, rfl, (upd_ne (ne_of_none hp1 e2)).trans hp1, T.cl, nf _ (by simp), by simp at z1; omega, ?_⟩
    have kp2 : Keep p H (upd (upd G1 l2 (.lst [])) p (.ins C dx (putF "_inputs" (.ref l2) f1))) := kp1.trans ((Keep.new e2).trans Keep.put)
    have hp2 : (upd (upd G1 l2 (.lst [])) p (.ins C dx (putF "_inputs" (.ref l2) f1))) p = some (.ins C dx (putF "_inputs" (.ref l2) f1)) := upd_same
    have lA2 : (upd (upd G1 l2 (.lst [])) p (.ins C dx (putF "_inputs" (.ref l2) f1))) l = some (.lst []) := (upd_ne nA).trans ((upd_ne (ne_of_none lA1 e2)).trans lA1)
    have lB2 : (upd (upd G1 l2 (.lst [])) p (.ins C dx (putF "_inputs" (.ref l2) f1))) l2 = some (.lst []) := (upd_ne n2).trans upd_same
    have z2 := L2.length_putF "_inputs" (V.ref l2) f1
    generalize hf2 : putF "_inputs" (V.ref l2) f1 = f2 at kp2 hp2 lA2 lB2 z2 ⊢
    generalize upd (upd G1 l2 (.lst [])) p (.ins C dx f2) = G2 at kp2 hp2 lA2 lB2 ⊢
    have gy2 := SqA.kp kp2 hp hya
    refine ⟨_, rfl, ya, rfl, seq_it gy2 fun J wk => fun l3 e3 => lc_no wk (Same.put e3) ?_⟩
    have n3 : l3 ≠ p := ne_of_none' e3 hp2
    refine ⟨_, rfl, p, C, dx, _, rfl, (upd_ne (ne_of_none hp2 e3)).trans hp2, T.cl, nf _ (by simp), by simp at z1; omega, ?_⟩
    have kp3 : Keep p H (upd (upd G2 l3 (.lst [])) p (.ins C dx (putF "_names" (.ref l3) f2))) := kp2.trans ((Keep.new e3).trans Keep.put)
    have hp3 : (upd (upd G2 l3 (.lst [])) p (.ins C dx (putF "_names" (.ref l3) f2))) p = some (.ins C dx (putF "_names" (.ref l3) f2)) := upd_same
    have lA3 : (upd (upd G2 l3 (.lst [])) p (.ins C dx (putF "_names" (.ref l3) f2))) l = some (.lst []) := (upd_ne nA).trans ((upd_ne (ne_of_none lA2 e3)).trans lA2)
    have lB3 : (upd (upd G2 l3 (.lst [])) p (.ins C dx (putF "_names" (.ref l3) f2))) l2 = some (.lst []) := (upd_ne n2).trans ((upd_ne (ne_of_none lB2 e3)).trans lB2)
    have lC3 : (upd (upd G2 l3 (.lst [])) p (.ins C dx (putF "_names" (.ref l3) f2))) l3 = some (.lst []) := (upd_ne n3).trans upd_same
    have z3 := L2.length_putF "_names" (V.ref l3) f2
    generalize hf3 : putF "_names" (V.ref l3) f2 = f3 at kp3 hp3 lA3 lB3 lC3 z3 ⊢
    generalize upd (upd G2 l3 (.lst [])) p (.ins C dx f3) = G3 at kp3 hp3 lA3 lB3 lC3 ⊢
    have gy3 := SqA.kp kp3 hp hya
    refine ⟨_, rfl, ya, rfl, seq_it gy3 fun J wk => fun l4 e4 => dc_no wk (Same.put e4) ?_⟩
    refine ⟨_, rfl, p, C, dx, _, rfl, (upd_ne (ne_of_none hp3 e4)).trans hp3, T.cl, nf _ (by simp), by simp at z1; omega, ?_⟩
    have kp4 : Keep p H (upd (upd G3 l4 (.dK [])) p (.ins C dx (putF "_symbols" (.ref l4) f3))) := kp3.trans ((Keep.new e4).trans Keep.put)
    have hp4 : (upd (upd G3 l4 (.dK [])) p (.ins C dx (putF "_symbols" (.ref l4) f3))) p = some (.ins C dx (putF "_symbols" (.ref l4) f3)) := upd_same
    have lA4 : (upd (upd G3 l4 (.dK [])) p (.ins C dx (putF "_symbols" (.ref l4) f3))) l = some (.lst []) := (upd_ne nA).trans ((upd_ne (ne_of_none lA3 e4)).trans lA3)
    have lB4 : (upd (upd G3 l4 (.dK [])) p (.ins C dx (putF "_symbols" (.ref l4) f3))) l2 = some (.lst []) := (upd_ne n2).trans ((upd_ne (ne_of_none lB3 e4)).trans lB3)
    have lC4 : (upd (upd G3 l4 (.dK [])) p (.ins C dx (putF "_symbols" (.ref l4) f3))) l3 = some (.lst []) := (upd_ne n3).trans ((upd_ne (ne_of_none lC3 e4)).trans lC3)
    have z4 := L2.length_putF "_symbols" (V.ref l4) f3
    generalize hf4 : putF "_symbols" (V.ref l4) f3 = f4 at kp4 hp4 lA4 lB4 lC4 z4 ⊢
    generalize upd (upd G3 l4 (.dK [])) p (.ins C dx f4) = G4 at kp4 hp4 lA4 lB4 lC4 ⊢
    have gy4 := SqA.kp kp4 hp hya
    refine ⟨_, rfl, ya, rfl, seq_it gy4 fun J wk => fun l5 e5 => dc_no wk (Same.put e5) ?_⟩
    refine ⟨_, rfl, p, C, dx, _, rfl, (upd_ne (ne_of_none hp4 e5)).trans hp4, T.cl, nf _ (by simp), by simp at z1; omega, ?_⟩
    have kp5 : Keep p H (upd (upd G4 l5 (.dK [])) p (.ins C dx (putF "_edges" (.ref l5) f4))) := kp4.trans ((Keep.new e5).trans Keep.put)
    have hp5 : (upd (upd G4 l5 (.dK [])) p (.ins C dx (putF "_edges" (.ref l5) f4))) p = some (.ins C dx (putF "_edges" (.ref l5) f4)) := upd_same
    have lA5 : (upd (upd G4 l5 (.dK [])) p (.ins C dx (putF "_edges" (.ref l5) f4))) l = some (.lst []) := (upd_ne nA).trans ((upd_ne (ne_of_none lA4 e5)).trans lA4)
    have lB5 : (upd (upd G4 l5 (.dK [])) p (.ins C dx (putF "_edges" (.ref l5) f4))) l2 = some (.lst []) := (upd_ne n2).trans ((upd_ne (ne_of_none lB4 e5)).trans lB4)
    have lC5 : (upd (upd G4 l5 (.dK [])) p (.ins C dx (putF "_edges" (.ref l5) f4))) l3 = some (.lst []) := (upd_ne n3).trans ((upd_ne (ne_of_none lC4 e5)).trans lC4)
    have z5 := L2.length_putF "_edges" (V.ref l5) f4
    generalize hf5 : putF "_edges" (V.ref l5) f4 = f5 at kp5 hp5 lA5 lB5 lC5 z5 ⊢
    generalize upd (upd G4 l5 (.dK [])) p (.ins C dx f5) = G5 at kp5 hp5 lA5 lB5 lC5 ⊢
    refine ⟨_, rfl, _, rfl, _, _, rfl, ⟨za, rfl, SqA.kp kp5 hp hza⟩, fun m6 G6 k6' e6 => ?_⟩
    have n6 : m6 ≠ p := fun z => by rw [z, k6' _ _ hp5] at e6; cases e6
    refine ⟨_, rfl, p, C, dx, _, rfl, k6' _ _ hp5, T.cl, nf _ (by simp), by simp at z1; omega, ?_⟩
    refine q _ ⟨dx, l, l2, l3, m6, _, upd_same, ?_, ?_, ?_, ?_, ?_, (upd_ne nA).trans (k6' _ _ lA5), (upd_ne n2).trans (k6' _ _ lB5), (upd_ne n3).trans (k6' _ _ lC5), (upd_ne n6).trans e6⟩ (kp5.trans ((Keep.of k6').trans Keep.put))
    iterate 4 (· rw [← hf5, ← hf4, ← hf3, ← hf2, ← hf1]; rfl)
    · intro m hm
      rw [← hf5, ← hf4, ← hf3, ← hf2, ← hf1]
      have ne : ∀ n ∈ ntF, m ≠ n := fun n hn z => hm (by rw [z]; exact hn)
      rw [lookup_putF, if_neg (ne _ (by simp)), lookup_putF, if_neg (ne _ (by simp)), lookup_putF, if_neg (ne _ (by simp)), lookup_putF, if_neg (ne _ (by simp)), lookup_putF, if_neg (ne _ (by simp)), lookup_putF, if_neg (ne _ (by simp))]
      rfl

end
end T56
set_option Elab.async false
set_option linter.all false
set_option maxRecDepth 100000
set_option maxHeartbeats 4000000
namespace T56
open PySem PySem.Spec PyProof.Rows L2 Tp
section
variable {P : Program} {w : World} {K : PySem.W.Frag} {mg : Str → Option Value} {base : Heap} {f : Addr} {fd : FuncData}

def spNL (C : Addr) : Sp := fun vs H Q _ => ∃ p, vs = [.ref p] ∧ NetAt H C p ∧ ∀ l H', Same H H' → H' l = some (.lst []) → Q (.ref l) H'
def spGE (K : PySem.W.Frag) : Sp := fun vs H Q _ => ∃ x, vs = [x] ∧ Emp K H x ∧ ∀ l H', Same H H' → H' l = some (.lst []) → Q (.ref l) H'
/-- what rows() of a network without anything tells -/
def NoRows (K : PySem.W.Frag) (H : Hp) (t : Addr) : Prop := ∃ a b c d, SqT K H t [.ref a, .ref b, .ref c, .ref d] ∧ H a = some (.lst []) ∧ H b = some (.lst []) ∧ H c = some (.lst []) ∧ H d = some (.lst [])
theorem NoRows.up {H H' : Hp} {t : Addr} (s : Same H H') (h : NoRows K H t) : NoRows K H' t := let ⟨a, b, c, d, h1, h2, h3, h4, h5⟩ := h; ⟨a, b, c, d, upT s h1, s _ _ h2, s _ _ h3, s _ _ h4, s _ _ h5⟩
theorem NoRows.dp {H : Hp} {t : Addr} (h : NoRows K H t) : Dp K H (.ref t) (.tuple [.list [], .list [], .list [], .list []]) := let ⟨a, b, c, d, h1, h2, h3, h4, h5⟩ := h; .tup h1 (.cons (.lst (SqL.of h2) .nil) (.cons (.lst (SqL.of h3) .nil) (.cons (.lst (SqL.of h4) .nil) (.cons (.lst (SqL.of h5) .nil) .nil))))
def spNR (K : PySem.W.Frag) (C : Addr) : Sp := fun vs H Q _ => ∃ p, vs = [.ref p] ∧ NetAt H C p ∧ ∀ t H', Same H H' → NoRows K H' t → Q (.ref t) H'
def spNE (K : PySem.W.Frag) (C : Addr) : Sp := fun vs H Q _ => ∃ p, vs = [.ref p, .ref p] ∧ NetAt H C p ∧ IsR K H (.ref p) (.ref C) true ∧ ∀ H', Same H H' → Q (.bl true) H'

abbrev sNte : Stmt := inClass (top 69) 1
abbrev nNte : List Str := ["self"]
theorem scNte : FnScope nNte ["self"] (defScope sNte) := ⟨rfl, rfl, rfl, by decide +kernel, rfl, by decide +kernel, by decide +kernel⟩

theorem ok_Nte (F : Fun K "terms" "Net.terms" sNte f fd) {C : Addr} (TN : TxtNt K C) (mL : mg "list" = none) : FnG P w K mg base CX0 1 f fd ["self"] (spNL C) := by
  refine FunG.ok F scNte (fun vs H Q E h => ?_) (fun cdv B out s H vs Q E hr hG h => ?_)
  · obtain ⟨p, rfl, _⟩ := h
    rfl
  · obtain ⟨p, rfl, hN, q⟩ := h
    obtain ⟨dx, l1, l2, l3, l6, fs, h0, a1, a2, a3, a4, a5, b1, b2, b3, b4⟩ := hN
    refine ⟨_, (pss_one (ps_ret (pe_callTy call_list_of (by rfl) mL (by decide +kernel) (pa_cons (pe_fld (pv 0) rfl) pa_nil)))), ?_⟩
    exact ⟨_, rfl, p, C, dx, fs, _, rfl, h0, TN.cl, TN.no _ (by simp), a1, l1, _, rfl, .inl (SqL.of b1), fun l hl => q l _ (Same.put hl) upd_same⟩

abbrev sNin : Stmt := inClass (top 69) 2
abbrev nNin : List Str := ["self"]
theorem scNin : FnScope nNin ["self"] (defScope sNin) := ⟨rfl, rfl, rfl, by decide +kernel, rfl, by decide +kernel, by decide +kernel⟩

theorem ok_Nin (F : Fun K "inputs" "Net.inputs" sNin f fd) {C : Addr} (TN : TxtNt K C) (mL : mg "list" = none) : FnG P w K mg base CX0 1 f fd ["self"] (spNL C) := by
  refine FunG.ok F scNin (fun vs H Q E h => ?_) (fun cdv B out s H vs Q E hr hG h => ?_)
  · obtain ⟨p, rfl, _⟩ := h
    rfl
  · obtain ⟨p, rfl, hN, q⟩ := h
    obtain ⟨dx, l1, l2, l3, l6, fs, h0, a1, a2, a3, a4, a5, b1, b2, b3, b4⟩ := hN
    refine ⟨_, (pss_one (ps_ret (pe_callTy call_list_of (by rfl) mL (by decide +kernel) (pa_cons (pe_fld (pv 0) rfl) pa_nil)))), ?_⟩
    exact ⟨_, rfl, p, C, dx, fs, _, rfl, h0, TN.cl, TN.no _ (by simp), a2, l2, _, rfl, .inl (SqL.of b2), fun l hl => q l _ (Same.put hl) upd_same⟩

abbrev sNge : Stmt := top 71
abbrev nNge : List Str := ["edges", "source", "starts"]
theorem scNge : FnScope nNge ["edges"] (defScope sNge) := ⟨rfl, rfl, rfl, by decide +kernel, rfl, by decide +kernel, by decide +kernel⟩

theorem ok_Nge (F : Fun K "_given_edges" "_given_edges" sNge f fd) : FnG P w K mg base CX0 1 f fd ["edges"] (spGE K) := by
  refine FunG.ok F scNge (fun vs H Q E h => ?_) (fun cdv B out s H vs Q E hr hG h => ?_)
  · obtain ⟨x, rfl, _⟩ := h
    rfl
  · obtain ⟨x, rfl, hx, q⟩ := h
    refine ⟨_, (pss_one (ps_ret (pe_lc (own := [("source", 1), ("starts", 2)]) (g := gNev) (tt := tNevT) (te := tNev) rfl scNge.nd (pi_seq (pv 0)) (blkOk_by (N := nNge) (sc := defScope sNge) (by decide +kernel)) (fun _ _ _ _ _ => pg_never) (fun _ _ _ _ _ => pts_never) (fun _ _ _ _ _ => pe_never)))), ?_⟩
    refine ⟨_, rfl, emp_it hx fun J wk => fun D hD => lc_no wk (Same.put hD) ?_⟩
    exact q D _ (Same.put hD) upd_same

abbrev sNou : Stmt := inClass (top 69) 6
abbrev nNou : List Str := ["self"]
theorem scNou : FnScope nNou ["self"] (defScope sNou) := ⟨rfl, rfl, rfl, by decide +kernel, rfl, by decide +kernel, by decide +kernel⟩

theorem ok_Nou (F : Fun K "outs" "Net.outs" sNou f fd) {C : Addr} (TN : TxtNt K C) (GE : Cg P w K mg base 1 "_given_edges" (spGE K)) : FnG P w K mg base CX0 2 f fd ["self"] (spNL C) := by
  refine FunG.ok F scNou (fun vs H Q E h => ?_) (fun cdv B out s H vs Q E hr hG h => ?_)
  · obtain ⟨p, rfl, _⟩ := h
    rfl
  · obtain ⟨p, rfl, hN, q⟩ := h
    obtain ⟨dx, l1, l2, l3, l6, fs, h0, a1, a2, a3, a4, a5, b1, b2, b3, b4⟩ := hN
    refine ⟨_, (pss_one (ps_ret (pe_g GE hr hG (by decide) (by rfl) (pa_cons (pe_fld (pv 0) rfl) pa_nil)))), ?_⟩
    exact ⟨_, rfl, p, C, dx, fs, _, rfl, h0, TN.cl, TN.no _ (by simp), a4, _, rfl, emp_of b4, fun l H' s hl => q l H' s hl⟩

abbrev sNro : Stmt := inClass (top 69) 7
abbrev nNro : List Str := ["self", "gates", "name"]
theorem scNro : FnScope nNro ["self"] (defScope sNro) := ⟨rfl, rfl, rfl, by decide +kernel, rfl, by decide +kernel, by decide +kernel⟩

theorem ok_Nro (F : Fun K "rows" "Net.rows" sNro f fd) {C : Addr} (TN : TxtNt K C) (CI : Ct P w K mg base 1 C "inputs" [] (spNL C)) (CO : Ct P w K mg base 2 C "outs" [] (spNL C)) (CT : Ct P w K mg base 1 C "terms" [] (spNL C)) : FnG P w K mg base CX0 3 f fd ["self"] (spNR K C) := by
  refine FunG.ok F scNro (fun vs H Q E h => ?_) (fun cdv B out s H vs Q E hr hG h => ?_)
  · obtain ⟨p, rfl, _⟩ := h
    rfl
  · obtain ⟨p, rfl, hN0, q⟩ := h
    have hN := hN0
    obtain ⟨dx, l1, l2, l3, l6, fs, h0, a1, a2, a3, a4, a5, b1, b2, b3, b4⟩ := hN
    refine ⟨_, (pss_cons (ps_setLc (i := 1) (own := [("name", 2)]) (g := gNev) (tt := tNevT) (te := tNev) rfl scNro.nd rfl rfl (sw_true rfl rfl rfl (by decide +kernel)) (pi_list (pe_fld (pv 0) rfl)) (blkOk_by (N := nNro) (sc := defScope sNro) (by decide +kernel)) (fun _ _ _ _ _ => pg_never) (fun _ _ _ _ _ => pts_never) (fun _ _ _ _ _ => pe_never))
      (pss_one (ps_ret (pe_tup (pa_cons (pe_ct0 (pv 0) CI hr hG (by decide)) (pa_cons (pv 1) (pa_cons (pe_ct0 (pv 0) CO hr hG (by decide)) (pa_cons (pe_ct0 (pv 0) CT hr hG (by decide)) pa_nil)))))))), ?_⟩
    refine ⟨_, rfl, p, C, dx, fs, _, rfl, h0, TN.cl, TN.no _ (by simp), a3, l3, rfl, ⟨_, SqL.of b3⟩, fun D hD => lc_no (walk_list (xs := [])) (SqL.of (Same.put hD _ _ b3)) ?_⟩
    have s1 : Same H (upd H D (.lst [])) := Same.put hD
    have t1 : (upd H D (.lst [])) D = some (.lst []) := upd_same
    generalize upd H D (.lst []) = H1 at s1 t1 ⊢
    refine ⟨_, rfl, p, dx, fs, rfl, s1 _ _ h0, a5 _ (by decide), p, rfl, hN0.up s1, fun x1 H2 s2 t2 => ?_⟩
    have s12 := Same.tr s1 s2
    refine ⟨_, rfl, _, rfl, p, dx, fs, rfl, s12 _ _ h0, a5 _ (by decide), p, rfl, hN0.up s12, fun x2 H3 s3 t3 => ?_⟩
    have s13 := Same.tr s12 s3
    refine ⟨_, rfl, p, dx, fs, rfl, s13 _ _ h0, a5 _ (by decide), p, rfl, hN0.up s13, fun x3 H4 s4 t4 => ⟨(by show 4 ≤ sizeLine; decide), fun t ht => ?_⟩⟩
    have s5 := Same.put (o := .tup [V.ref x1, V.ref D, V.ref x2, V.ref x3]) ht
    exact q t _ (Same.tr s13 (Same.tr s4 s5)) ⟨x1, D, x2, x3, SqT.of upd_same, s5 _ _ (s4 _ _ (s3 _ _ t2)), s5 _ _ (s4 _ _ (s3 _ _ (s2 _ _ t1))), s5 _ _ (s4 _ _ t3), s5 _ _ t4⟩

abbrev sNeq : Stmt := inClass (top 69) 18
abbrev nNeq : List Str := ["self", "other"]
theorem scNeq : FnScope nNeq ["self", "other"] (defScope sNeq) := ⟨rfl, rfl, rfl, by decide +kernel, rfl, by decide +kernel, by decide +kernel⟩

theorem ok_Neq (F : Fun K "__eq__" "Net.__eq__" sNeq f fd) {C : Addr} (mI : mg "isinstance" = none) (mN : mg "Net" = some (.ref C)) (CR : Ct P w K mg base 3 C "rows" [] (spNR K C)) : FnG P w K mg base CX0 4 f fd ["self", "other"] (spNE K C) := by
  refine FunG.ok F scNeq (fun vs H Q E h => ?_) (fun cdv B out s H vs Q E hr hG h => ?_)
  · obtain ⟨p, rfl, _⟩ := h
    rfl
  · obtain ⟨p, rfl, hN0, hI, q⟩ := h
    have hN := hN0
    obtain ⟨dx, l1, l2, l3, l6, fs, h0, a1, a2, a3, a4, a5, b1, b2, b3, b4⟩ := hN
    refine ⟨_, (pss_one (ps_ret (pe_and (pe_callB call_isd (by rfl) mI (by decide +kernel) (pa_cons (pv 1) (pa_cons (gl_c (v := .ref C) (by rfl) ⟨_, mN, rfl⟩) pa_nil))) (pe_one (pe_cmpR (op_eqD hr.units) (pe_ct0 (pv 0) CR hr hG (by decide)) (pe_ct0 (pv 1) CR hr hG (by decide)) (nomark _)))))), ?_⟩
    refine ⟨_, rfl, _, _, _, _, rfl, .own _, hI, _, rfl, iteT ?_⟩
    refine ⟨_, rfl, p, dx, fs, rfl, h0, a5 _ (by decide), p, rfl, hN0, fun t1 H1 s1 h1 => ?_⟩
    refine ⟨_, rfl, p, dx, fs, rfl, s1 _ _ h0, a5 _ (by decide), p, rfl, hN0.up s1, fun t2 H2 s2 h2 => ?_⟩
    exact ⟨_, _, (h1.up s2).dp, h2.dp, rfl, rfl, q H2 (Same.tr s1 s2)⟩

end
end T56
set_option Elab.async false
set_option linter.all false
set_option maxRecDepth 100000
set_option maxHeartbeats 4000000
/-! a field of a caught exception, in a suite of a try with several clauses -/
namespace Tp
open PySem PySem.Spec PyProof.Rows L2
section
variable {X : Cx} {pos : Pos}
def tXh2 (K : PySem.W.Frag) (a : Addr) (cls : Value) (d : Option Addr) (f : Str) (te : TE) : TE := fun σ H Q => te σ H fun x H1 => x = .ref a ∧ ∃ (C dd : Addr) (fs : List (Str × V)) (v : V), cls = .ref C ∧ ExK K C ∧ PySem.W.findIn K (.ref C) f = some none ∧ d = some dd ∧ H1 dd = some (exd dd fs) ∧ fs.lookup f = some v ∧ Q v H1
theorem pe_xh2 {a : Addr} {oe : Obj} {cls : Value} {d : Option Addr} {pn : List (Addr × Obj)} {e : Expr} {te : TE} {f : Str}
    (hz : Zc cls d oe) (hf : ∃ vs, oe.data = .fields vs) (he : PE (X.suite a ((a, oe) :: pn)) e te) (hb : attributeBase e f X.env (eval e X.env) = eval e X.env := by rfl) :
    PE (X.suite a ((a, oe) :: pn)) (.Attribute e f pos) (tXh2 X.K a cls d f te) := by
  refine ⟨fun pins s σ H Q I h => attr_of hb (thn (he.run pins s σ H _ I h) fun u s1 hh => ?_)⟩
  obtain ⟨x, H1, I1, rx, rfl, C, dd, fs, v, ec, T, hno, ed, ea, l, q⟩ := hh
  cases (show u = Value.ref a from rx)
  obtain ⟨ha, _⟩ := I1.pin (a, oe) (List.mem_append_left _ List.mem_cons_self)
  obtain ⟨ws, hd⟩ := hf
  obtain ⟨mA, hns, rel⟩ := exd_at I1.hok ea
  obtain ⟨od, ho, hl⟩ := lookIn_ns hns
  obtain ⟨w', hw, rw'⟩ := RelO.some_of (v := v) (o := mA f) (by rw [← l]; exact rel f)
  have J : PySem.W.InstAt s1.heap a oe C (some od) := ⟨ha, hz.1.trans ec, by unfold PySem.W.notCls; rw [hd] <;> rfl, by rw [hz.2, ed]; exact ho⟩
  exact HandSPX.exc_get I1.kIn J T.ga T.gg T.exC (PySem.W.findObj_own T.hdC hno rfl (by rw [hl, hw])) (handed_of rw') ⟨v, H1, I1.tok _, rw', q⟩
def rIsH (K : PySem.W.Frag) (a : Addr) (cls : Value) (d : Option Addr) : List V → Hp → VK → Prop := fun xs H Q => ∃ (C dd : Addr) (fs : List (Str × V)) (c : V) (cv : Value) (b : Bool), xs = [.ref a, c] ∧ cls = .ref C ∧ ExK K C ∧ d = some dd ∧ H dd = some (exd dd fs) ∧ ClsV c cv ∧ PySem.W.kitOne K (.ref C) cv = some b ∧ Q (.bl b) H
theorem call_isH {a : Addr} {oe : Obj} {cls : Value} {d : Option Addr} {pn : List (Addr × Obj)} (hz : Zc cls d oe) (hf : ∃ vs, oe.data = .fields vs) : CallR (X.suite a ((a, oe) :: pn)) (.builtin "isinstance") (rIsH X.K a cls d) := by
  intro pins s σ H xs us Q I r h
  obtain ⟨C, dd, fs, c, cv, b, rfl, ec, T, ed, ea, k, e, q⟩ := h
  obtain ⟨u1, u2, rfl, r1, r2⟩ := vals2 r
  cases (show u1 = Value.ref a from r1)
  have e2 := k.eq r2
  subst e2
  obtain ⟨ha, _⟩ := I.pin (a, oe) (List.mem_append_left _ List.mem_cons_self)
  obtain ⟨ws, hd⟩ := hf
  obtain ⟨mA, hns, rel⟩ := exd_at I.hok ea
  obtain ⟨od, ho, hl⟩ := lookIn_ns hns
  have J : PySem.W.InstAt s.heap a oe C (some od) := ⟨ha, hz.1.trans ec, by unfold PySem.W.notCls; rw [hd] <;> rfl, by rw [hz.2, ed]; exact ho⟩
  exact PySem.W.kia_one (ex_kit T) I.kIn J e (fun z => nomatch z) fun tk => ⟨.bl b, H, I.tok tk, rfl, q⟩
def rIsHT (K : PySem.W.Frag) (a : Addr) (cls : Value) (d : Option Addr) : List V → Hp → VK → Prop := fun xs H Q => ∃ (C dd : Addr) (fs : List (Str × V)) (tp : Addr) (cs : List V) (us : List Value) (b : Bool), xs = [.ref a, .ref tp] ∧ cls = .ref C ∧ ExK K C ∧ d = some dd ∧ H dd = some (exd dd fs) ∧ H tp = some (.tup cs) ∧ Paired ClsV cs us ∧ PySem.W.kitAny K (.ref C) us = some b ∧ Q (.bl b) H
theorem call_isHT {a : Addr} {oe : Obj} {cls : Value} {d : Option Addr} {pn : List (Addr × Obj)} (hz : Zc cls d oe) (hf : ∃ vs, oe.data = .fields vs) : CallR (X.suite a ((a, oe) :: pn)) (.builtin "isinstance") (rIsHT X.K a cls d) := by
  intro pins s σ H xs us Q I r h
  obtain ⟨C, dd, fs, tp, cs, ws, b, rfl, ec, T, ed, ea, hT, k, e, q⟩ := h
  obtain ⟨u1, u2, rfl, r1, r2⟩ := vals2 r
  cases (show u1 = Value.ref a from r1)
  cases (show u2 = Value.ref tp from r2)
  obtain ⟨ha, _⟩ := I.pin (a, oe) (List.mem_append_left _ List.mem_cons_self)
  obtain ⟨ws', hd⟩ := hf
  obtain ⟨mA, hns, rel⟩ := exd_at I.hok ea
  obtain ⟨od, ho, hl⟩ := lookIn_ns hns
  have J : PySem.W.InstAt s.heap a oe C (some od) := ⟨ha, hz.1.trans ec, by unfold PySem.W.notCls; rw [hd] <;> rfl, by rw [hz.2, ed]; exact ho⟩
  obtain ⟨_, its, rv, o, h1, h2, n, h3⟩ := (show ObjOk X.prog X.w H s.heap tp (.tup cs) from I.hok tp _ hT)
  have e3 := ClsV.all k rv
  subst e3
  obtain ⟨oc, od', dt, sl⟩ := o
  simp only at h2 h3
  subst h2 h3
  exact PySem.W.kia_tup (ex_kit T) I.kIn J h1 e (fun z => nomatch z) fun tk => ⟨.bl b, H, I.tok tk, rfl, q⟩
end
end Tp
set_option Elab.async false
set_option linter.all false
set_option maxRecDepth 100000
set_option maxHeartbeats 4000000
namespace T56
open PySem PySem.Spec PyProof.Rows L2 Tp
section
variable {P : Program} {w : World} {K : PySem.W.Frag} {mg : Str → Option Value} {base : Heap} {f : Addr} {fd : FuncData}

/-- the exceptions that are caught -/
structure TxtE (K : PySem.W.Frag) (CB CU : Addr) : Prop where
  xB : ExK K CB
  xU : ExK K CU
  bb : PySem.W.exmOne K (.ref CB) (.ref CB) = some true
  ub : PySem.W.exmOne K (.ref CU) (.ref CB) = some false
  uu : PySem.W.exmOne K (.ref CU) (.ref CU) = some true
  fB : PySem.W.findIn K (.ref CB) "value" = some none
  fU : PySem.W.findIn K (.ref CU) "number" = some none
def BkI (H : Hp) (C q : Addr) : Prop := ∃ dx fs, H q = some (.ins C dx fs) ∧ ∀ m, m ∉ bkF → fs.lookup m = none
def spAsked (P : Program) (w : World) (K : PySem.W.Frag) (C CB CU : Addr) : Sp := fun vs H Q E => ∃ (wd : Str) (l : Addr) (xs : List V), vs = [.str wd, .ref l] ∧ SqL K H l xs ∧
  ((wd = "carry" ∧ ∃ q x nx, xs = [.ref q, x, nx] ∧ BkI H C q ∧ spCarry P w K C CB CU xs H Q E) ∨ (wd = "differ" ∧ ∃ q x nx, xs = [.ref q, x, nx] ∧ BkI H C q ∧ spDiffer P w K C CU xs H Q E) ∨
    (wd = "same" ∧ ∃ x nx y ny, xs = [x, nx, y, ny] ∧ spSame P w K C CB CU xs H Q E))
/-- what was refused: a thing that is no book, or a number of no row -/
def RefE (CB CU : Addr) (H : Hp) : Bool → V → XK := fun b x cls d H' => Same H H' ∧ ∃ dd fs, d = some dd ∧ H' dd = some (exd dd fs) ∧ ((b = true ∧ cls = .ref CB ∧ fs.lookup ("value" : Str) = some x) ∨ (b = false ∧ cls = .ref CU ∧ fs.lookup ("number" : Str) = some x))
theorem ref_book {CB CU : Addr} {H : Hp} {E : XK} {x : V} (h : ∀ cls d H', RefE CB CU H true x cls d H' → E cls d H') : Rsd E H CB "value" x := fun H' dd fs s e l => h _ _ _ ⟨s, dd, fs, rfl, e, .inl ⟨rfl, rfl, l⟩⟩
theorem ref_term {CB CU : Addr} {H : Hp} {E : XK} {x : V} (h : ∀ cls d H', RefE CB CU H false x cls d H' → E cls d H') : Rsd E H CU "number" x := fun H' dd fs s e l => h _ _ _ ⟨s, dd, fs, rfl, e, .inr ⟨rfl, rfl, l⟩⟩
/-- the answer of a refusal -/
def spTold (P : Program) (w : World) (K : PySem.W.Frag) (C CB CU : Addr) : Sp := fun vs H Q _ => ∃ (b : Bool) (x : V) (Tl : V → Prop), (∃ wd l, vs = [.str wd, .ref l]) ∧ (∀ (Q' : VK) (E' : XK), (∀ cls d H', RefE CB CU H b x cls d H' → E' cls d H') → (∀ v H', Same H H' → Tl v → Q' v H') → spAsked P w K C CB CU vs H Q' E') ∧
  (∀ a H', Same H H' → H a = none → H' a = some (.lst [.str (if b = true then "book" else "term"), x]) → Q (.ref a) H') ∧ ∀ a v H', Tl v → Same H H' → H a = none → H' a = some (.lst [.str "told", v]) → Q (.ref a) H'

abbrev sKd : Stmt := top 83
abbrev nKd : List Str := ["_law_word", "_law_parts_here"]
theorem scKd : FnScope nKd ["_law_word", "_law_parts_here"] (defScope sKd) := ⟨rfl, rfl, rfl, by decide +kernel, rfl, by decide +kernel, by decide +kernel⟩

theorem ok_Kd (F : Fun K "_law_asked" "_law_asked" sKd f fd) {C CB CU : Addr} (CA : Ctr P w K mg base 6 C "carry" [] (spCarry P w K C CB CU)) (DF : Ctr P w K mg base 5 C "differ" [] (spDiffer P w K C CU)) (SM : Cgr P w K mg base 6 "same_term" [] (spSame P w K C CB CU)) : FnG P w K mg base (L2.CX P w) 7 f fd ["_law_word", "_law_parts_here"] (spAsked P w K C CB CU) := by
  refine FunG.okX F scKd (fun vs H Q E h => ?_) (fun cdv B out s H vs Q E hr hG h => ?_)
  · obtain ⟨wd, l, xs, rfl, _⟩ := h
    rfl
  · obtain ⟨wd, l, xs, rfl, hS, h⟩ := h
    refine ⟨_, (pss_cons (ps_if (pt_cmpR op_eq (pv 0) pe_str (nomark _)) (pss_one (ps_ret (pe_ctr (pe_ix ix_list (pv 1) pe_int fun _ _ => rfl) CA hr hG (by decide) (takes_of rfl rfl rfl rfl) (pa_cons (pe_ix ix_list (pv 1) pe_int fun _ _ => rfl) (pa_cons (pe_ix ix_list (pv 1) pe_int fun _ _ => rfl) pa_nil))))) pss_nil)
      (pss_cons (ps_if (pt_cmpR op_eq (pv 0) pe_str (nomark _)) (pss_one (ps_ret (pe_ctr (pe_ix ix_list (pv 1) pe_int fun _ _ => rfl) DF hr hG (by decide) (takes_of rfl rfl rfl rfl) (pa_cons (pe_ix ix_list (pv 1) pe_int fun _ _ => rfl) (pa_cons (pe_ix ix_list (pv 1) pe_int fun _ _ => rfl) pa_nil))))) pss_nil)
      (pss_one (ps_ret (pe_cgr SM hr hG (by decide) (takes_of rfl rfl rfl rfl) (by rfl) (pa_cons (pe_ix ix_list (pv 1) pe_int fun _ _ => rfl) (pa_cons (pe_ix ix_list (pv 1) pe_int fun _ _ => rfl) (pa_cons (pe_ix ix_list (pv 1) pe_int fun _ _ => rfl) (pa_cons (pe_ix ix_list (pv 1) pe_int fun _ _ => rfl) pa_nil))))))))), ?_⟩
    rcases h with ⟨rfl, q, x, nx, rfl, ⟨dx, fs, hq, hno⟩, h⟩ | ⟨rfl, q, x, nx, rfl, ⟨dx, fs, hq, hno⟩, h⟩ | ⟨rfl, x, nx, y, ny, rfl, h⟩
    · refine ⟨_, rfl, rfl, _, rfl, if_true_of (by decide +kernel) ?_⟩
      exact ⟨_, rfl, l, _, _, .ref q, rfl, rfl, hS, atI_nat (j := 0) rfl, q, dx, fs, rfl, hq, hno _ (by decide), _, rfl, l, _, _, x, rfl, rfl, hS, atI_nat (j := 1) rfl, _, rfl, l, _, _, nx, rfl, rfl, hS, atI_nat (j := 2) rfl, h⟩
    · refine ⟨_, rfl, rfl, _, rfl, if_false_of (by decide +kernel) ?_⟩
      dsimp only [tNext]
      refine ⟨_, rfl, rfl, _, rfl, if_true_of (by decide +kernel) ?_⟩
      exact ⟨_, rfl, l, _, _, .ref q, rfl, rfl, hS, atI_nat (j := 0) rfl, q, dx, fs, rfl, hq, hno _ (by decide), _, rfl, l, _, _, x, rfl, rfl, hS, atI_nat (j := 1) rfl, _, rfl, l, _, _, nx, rfl, rfl, hS, atI_nat (j := 2) rfl, h⟩
    · refine ⟨_, rfl, rfl, _, rfl, if_false_of (by decide +kernel) ?_⟩
      dsimp only [tNext]
      refine ⟨_, rfl, rfl, _, rfl, if_false_of (by decide +kernel) ?_⟩
      dsimp only [tNext]
      exact ⟨_, rfl, l, _, _, x, rfl, rfl, hS, atI_nat (j := 0) rfl, _, rfl, l, _, _, nx, rfl, rfl, hS, atI_nat (j := 1) rfl, _, rfl, l, _, _, y, rfl, rfl, hS, atI_nat (j := 2) rfl, _, rfl, l, _, _, ny, rfl, rfl, hS, atI_nat (j := 3) rfl, h⟩

abbrev sTo : Stmt := top 84
abbrev nTo : List Str := ["_law_word", "_law_parts_here", "e"]
theorem scTo : FnScope nTo ["_law_word", "_law_parts_here"] (defScope sTo) := ⟨rfl, rfl, rfl, by decide +kernel, rfl, by decide +kernel, by decide +kernel⟩

theorem ok_To {C CB CU : Addr} (F : Fun K "_law_told" "_law_told" sTo f fd) (TE : TxtE K CB CU) (mB : mg "InvalidBook" = some (.ref CB)) (mU : mg "UnknownTerm" = some (.ref CU)) (AS : Cgr P w K mg base 7 "_law_asked" [] (spAsked P w K C CB CU)) : FnG P w K mg base CX0 8 f fd ["_law_word", "_law_parts_here"] (spTold P w K C CB CU) := by
  refine FunG.ok F scTo (fun vs H Q E h => ?_) (fun cdv B out s H vs Q E hr hG h => ?_)
  · obtain ⟨b, x, Tl, ⟨wd, l, rfl⟩, _⟩ := h
    rfl
  · obtain ⟨b, x, Tl, ⟨wd, l, rfl⟩, ask, q, q2⟩ := h
    refine ⟨_, pss_one (ps_try_cla rfl rfl scTo.nd takes0 (fun W pn xe tk _ => pss_one (ps_ret (pe_lst (pa_cons pe_str (pa_cons (pe_cgr AS hr hG (by decide) tk (by rfl) (pa_cons (pv 0) (pa_cons (pv 1) pa_nil))) pa_nil)))))
      (ClaOk.named (i := 2) ⟨by rfl, by decide, .inl mB⟩ rfl rfl (fun a oe cls d pn hz hf => pss_one (ps_ret (pe_lst (pa_cons pe_str (pa_cons (pe_xh2 hz hf (pv 2)) pa_nil))))) (ClaOk.named (i := 2) ⟨by rfl, by decide, .inl mU⟩ rfl rfl (fun a oe cls d pn hz hf => pss_one (ps_ret (pe_lst (pa_cons pe_str (pa_cons (pe_xh2 hz hf (pv 2)) pa_nil))))) .nil))), ?_⟩
    refine ⟨_, rfl, _, rfl, ask _ _ (fun cls d H1 h => ?_) fun v H1 s hv => ⟨(by show 2 ≤ sizeLine; decide), fun l hl => q2 l v _ hv (Same.tr s (Same.put hl)) (same_none s hl) upd_same⟩⟩
    obtain ⟨s, dd, fs, rfl, he, ⟨rfl, rfl, hf⟩ | ⟨rfl, rfl, hf⟩⟩ := h
    · exact ⟨true, TE.bb, fun _ a ha => ⟨_, rfl, rfl, CB, dd, fs, x, rfl, TE.xB, TE.fB, rfl, he, hf, (by show 2 ≤ sizeLine; decide), fun l hl => q l _ (Same.tr s (Same.put hl)) (same_none s hl) upd_same⟩, (fun z => nomatch z)⟩
    · exact ⟨false, TE.ub, (fun z => nomatch z), fun _ => ⟨true, TE.uu, fun _ a ha => ⟨_, rfl, rfl, CU, dd, fs, x, rfl, TE.xU, TE.fU, rfl, he, hf, (by show 2 ≤ sizeLine; decide), fun l hl => q l _ (Same.tr s (Same.put hl)) (same_none s hl) upd_same⟩, (fun z => nomatch z)⟩⟩

end
end T56
set_option Elab.async false
set_option linter.all false
set_option maxRecDepth 100000
set_option maxHeartbeats 4000000
namespace T56
open PySem PySem.Spec PyProof.Rows L2 Tp
section
variable {P : Program} {w : World} {K : PySem.W.Frag} {mg : Str → Option Value} {base : Heap} {f : Addr} {fd : FuncData}

theorem op_or {X : Cx} {op : Value → Value → Sem Value} {r1 r2 : R2} (h1 : OpR X op r1) (h2 : OpR X op r2) : OpR X op (fun x y H Q => r1 x y H Q ∨ r2 x y H Q) := fun pins s σ H x y v u Q I rx ry h => h.elim (h1 pins s σ H x y v u Q I rx ry) (h2 pins s σ H x y v u Q I rx ry)
/-- a thing equals itself -/
def SelfQ (K : PySem.W.Frag) (CN : Addr) (H : Hp) (x : V) : Prop := ∀ (G : Hp) (Q : VK), Same H G → (∀ G', Same G G' → Q (.bl true) G') → ((rEq x x G Q ∨ rEqV K x x G Q) ∨ rEqO K CN (spNE K CN) false x x G Q) ∨ rEqD K x x G Q
theorem SelfQ.up {CN : Addr} {H H' : Hp} {x : V} (s : Same H H') (h : SelfQ K CN H x) : SelfQ K CN H' x := fun G Q s2 q => h G Q (Same.tr s s2) q
theorem self_scal {CN : Addr} {H : Hp} {x : V} (h : scal x x = true) : SelfQ K CN H x := fun G Q _ q => .inl (.inl (.inl ⟨h, by rw [decide_eq_true rfl]; exact q G (Same.refl _)⟩))
theorem self_data {CN : Addr} {H : Hp} {x : V} {d : PyData} (h : ∀ G, Same H G → Dp K G x d) (hd : SeqAt.shaped d = true) (he : PyData.eqv d d = true) : SelfQ K CN H x := fun G Q s q => .inr ⟨d, d, h G s, h G s, hd, hd, by rw [he]; exact q G (Same.refl _)⟩
def spIs (K : PySem.W.Frag) (CN : Addr) : Sp := fun vs H Q _ => ∃ (a : Addr) (wd : Str) (x : V), vs = [.ref a, .str wd, x] ∧ ((∃ k, SqL K H a [.str wd, x] ∧ Vk K H x k ∧ SelfQ K CN H x ∧ ∀ H', Same H H' → Q (.bl true) H') ∨ ∃ wd2 y, SqL K H a [.str wd2, y] ∧ wd2 ≠ wd ∧ Q (.bl false) H)

abbrev sIz : Stmt := top 87
abbrev nIz : List Str := ["_law_told_here", "_law_word", "_law_thing"]
theorem scIz : FnScope nIz ["_law_told_here", "_law_word", "_law_thing"] (defScope sIz) := ⟨rfl, rfl, rfl, by decide +kernel, rfl, by decide +kernel, by decide +kernel⟩

theorem ok_Iz (F : Fun K "_law_is" "_law_is" sIz f fd) {CN : Addr} (T : TxtL mg) (EQ : Ct P w K mg base 4 CN "__eq__" [] (spNE K CN)) : FnG P w K mg base CX0 5 f fd ["_law_told_here", "_law_word", "_law_thing"] (spIs K CN) := by
  refine FunG.ok F scIz (fun vs H Q E h => ?_) (fun cdv B out s H vs Q E hr hG h => ?_)
  · obtain ⟨a, wd, x, rfl, _⟩ := h
    rfl
  · obtain ⟨a, wd, x, rfl, h⟩ := h
    refine ⟨_, (pss_cons (ps_if (PW.pt (pw_or (pt_cmpR op_ne (pe_ix ix_list (pv 0) pe_int fun _ _ => rfl) (pv 1) (nomark _)) (pw_or1 (pt_cmpR op_ne (pe_callB call_isd (by rfl) T.isinstance (by decide +kernel) (pa_cons (pe_ix ix_list (pv 0) pe_int fun _ _ => rfl) (pa_cons (pe_bltn (by rfl) T.bool (by decide +kernel) (show RelV (.ty "bool") _ from rfl)) pa_nil))) (pe_callB call_isd (by rfl) T.isinstance (by decide +kernel) (pa_cons (pv 2) (pa_cons (pe_bltn (by rfl) T.bool (by decide +kernel) (show RelV (.ty "bool") _ from rfl)) pa_nil))) (nomark _))))) (pss_one (ps_ret pe_bl)) pss_nil)
      (pss_one (ps_ret (pe_cmpR (op_or (op_or (op_or op_eq (op_eqV hr.units)) (op_eqO EQ (hr.mono (by decide)) hG)) (op_eqD hr.units)) (pe_ix ix_list (pv 0) pe_int fun _ _ => rfl) (pv 2) (nomark _))))), ?_⟩
    rcases h with ⟨k, hS, vk, hq, q⟩ | ⟨wd2, y, hS, hne, q⟩
    rotate_left
    · refine ⟨_, rfl, a, _, _, _, rfl, rfl, hS, atI_nat (j := 0) rfl, _, rfl, rfl, _, rfl, if_true_of (by rw [decide_eq_false fun e => hne (V.str.inj e)]; rfl) ?_⟩
      exact iteT q
    refine ⟨_, rfl, a, _, _, _, rfl, rfl, hS, atI_nat (j := 0) rfl, _, rfl, rfl, _, rfl, if_false_of (by rw [decide_eq_true rfl]; rfl) ?_⟩
    refine ⟨_, rfl, a, _, _, _, rfl, rfl, hS, atI_nat (j := 1) rfl, _, _, _, _, rfl, .ty _, vk.kd.is "bool" (by decide), _, rfl, _, _, _, _, rfl, .ty _, vk.kd.is "bool" (by decide), rfl, _, rfl, if_false_of (by rw [decide_eq_true rfl]; rfl) ?_⟩
    exact ⟨_, rfl, a, _, _, _, rfl, rfl, hS, atI_nat (j := 1) rfl, _, rfl, hq H Q (Same.refl _) q⟩

end
end T56
set_option Elab.async false
set_option linter.all false
set_option maxRecDepth 100000
set_option maxHeartbeats 4000000
namespace T56
open PySem PySem.Spec PyProof.Rows L2 Tp
section
variable {P : Program} {w : World} {K : PySem.W.Frag} {mg : Str → Option Value} {base : Heap} {f : Addr} {fd : FuncData}

theorem num_in {n i : Nat} (h : i < n) : numV n (.int (i : Nat)) = true := decide_eq_true ⟨by omega, by omega⟩
theorem parts_one {rs : List RowK} {i : Nat} {ys zs : List Int} (h1 : PartsOf rs i ys) (h2 : PartsOf rs i zs) : ys = zs := by
  refine List.Perm.eq_of_pairwise (le := fun a b => a < b) (fun a b _ _ e1 e2 => by omega) h1.1 h2.1 ((List.perm_ext_iff_of_nodup (h1.1.imp fun h => by omega) (h2.1.imp fun h => by omega)).mpr fun j => (h1.2 j).trans (h2.2 j).symm)
/-- the way, as data -/
def slotD (rs : List RowK) (i j : Nat) : PyData := if i = j then .none else .list ((slotsF rs (i + 1) i j).map PyData.int)
theorem slots_small {rs : List RowK} (hR : OkRows rs) : ∀ n i j, (slotsF rs n i j).length ≤ n ∧ ∀ x ∈ slotsF rs n i j, 0 ≤ x ∧ x < 3
  | 0, _, _ => ⟨Nat.le_refl _, fun x hx => absurd hx List.not_mem_nil⟩
  | n + 1, i, j => by
    unfold slotsF
    cases hi : rs[i]? with
    | none => exact ⟨Nat.zero_le _, fun x hx => absurd hx List.not_mem_nil⟩
    | some k =>
      cases hj : rs[j]? with
      | none => exact ⟨Nat.zero_le _, fun x hx => absurd hx List.not_mem_nil⟩
      | some k' =>
        dsimp only
        cases hf : firstD (compR k k').1 (compR k k').2 with
        | none => exact ⟨Nat.zero_le _, fun x hx => absurd hx List.not_mem_nil⟩
        | some t =>
          dsimp only
          obtain ⟨h1, h2⟩ := slots_small hR n (((compR k k').1.getD t 0).toNat) (((compR k k').2.getD t 0).toNat)
          obtain ⟨x, y, e1, _⟩ := firstD_some hf
          have ht := (List.getElem?_eq_some_iff.mp e1).1
          have h3 : (compR k k').1.length ≤ 3 := by
            have hok := (hR i k hi).2
            unfold compR
            split
            · obtain ⟨z, r⟩ := k
              cases r with
              | inl a => exact Nat.zero_le _
              | inr ns => exact hok.1
            · exact Nat.zero_le _
          refine ⟨by rw [List.length_cons]; omega, fun x hx => ?_⟩
          rcases List.mem_cons.mp hx with e | e
          · rw [e]; omega
          · exact h2 x e
theorem slot_nice {rs : List RowK} (hR : OkRows rs) {i j : Nat} (hi : i < 64) : Nice 1100 1 (slotD rs i j) := by
  unfold slotD
  split
  · exact nice_none.mono (by decide) (by decide)
  · obtain ⟨h1, h2⟩ := slots_small hR (i + 1) i j
    have := (niceAll_of (n := 14) (k := 0) (ds := (slotsF rs (i + 1) i j).map PyData.int) fun d hd => by
      obtain ⟨x, hx, rfl⟩ := List.mem_map.mp hd
      have h3 := h2 x hx
      exact (nice_small (k := 14) (by omega) (by decide))).list
    rw [List.length_map] at this
    exact this.mono (by omega) (by decide)
def SlotV (K : PySem.W.Frag) (H : Hp) (rs : List RowK) (i j : Nat) (v : V) : Prop := Dp K H v (slotD rs i j)
theorem SlotV.of_none {H : Hp} {rs : List RowK} {i j : Nat} (e : i = j) : SlotV K H rs i j .non := by
  unfold SlotV slotD
  rw [if_pos e]
  exact .non
theorem SlotV.of_list {H : Hp} {rs : List RowK} {i j : Nat} {D : Addr} (e : i ≠ j) (h : H D = some (.lst ((slotsF rs (i + 1) i j).map V.int))) : SlotV K H rs i j (.ref D) := by
  unfold SlotV slotD
  rw [if_neg e]
  exact .lst (SqL.of h) (dp_ints _)
/-- what is a slot's way stands on -/
def SlotV2 (K : PySem.W.Frag) (H : Hp) (rs : List RowK) (i j : Nat) (v : V) : Prop := ∀ G, Same H G → SlotV K G rs i j v
theorem slots_to {H : Hp} {l : Addr} {rs : List RowK} {i j : Nat} {Q : VK} {E : XK} (hL : RowsL K H l rs) (hR : OkRows rs) (hn : rs.Nodup) (hi : i < rs.length) (hj : j < rs.length) (h1k : rs.length ≤ 1000) (q : ∀ v H', Same H H' → SlotV2 K H' rs i j v → Q v H') : spSlotsL K [.ref l, .int (i : Nat), .int (j : Nat)] H Q E :=
  ⟨l, rs, i, j, rfl, hL, hR, hn, hi, hj, h1k, fun e => q _ _ (Same.refl _) fun _ _ => .of_none e, fun ne D H' s _ h => q _ _ s fun _ s2 => .of_list ne (s2 _ _ h)⟩
theorem differ_to {H : Hp} {C CU p : Addr} {fp : List Addr} {rs : List RowK} {i j : Nat} {Q : VK} {E : XK} (hB : BookAt P w K H C p fp rs) (hi : i < rs.length) (hj : j < rs.length) (q : ∀ v H', Same H H' → SlotV2 K H' rs i j v → Q v H') : spDiffer P w K C CU [.ref p, .int (i : Nat), .int (j : Nat)] H Q E := by
  refine ⟨p, fp, rs, _, _, _, _, rfl, hB, vk_int _, vk_int _, fun e => ?_, fun _ e => ?_, fun a b ea eb _ _ => ?_⟩
  · rw [num_in hi] at e
    cases e
  · rw [num_in hj] at e
    cases e
  · have e1 : i = a := by have := V.int.inj ea; omega
    have e2 : j = b := by have := V.int.inj eb; omega
    subst e1
    subst e2
    exact ⟨fun e => q _ _ (Same.refl _) fun _ _ => .of_none e, fun ne D H' s _ h => q _ _ s fun _ s2 => .of_list ne (s2 _ _ h)⟩
theorem same_to {H : Hp} {C CB CU p q : Addr} {fp fq : List Addr} {rs qs : List RowK} {i j : Nat} {Q : VK} {E : XK} (TC : TxtC K C) (hB : BookAt P w K H C p fp rs) (hC : BookAt P w K H C q fq qs) (hi : i < rs.length) (hj : j < qs.length) (h64 : rs.length < 64) (h : ∀ ys H', PartsOf rs i ys → Same H H' → Q (.bl (sameB rs qs ys i j)) H') : spSame P w K C CB CU [.ref p, .int (i : Nat), .ref q, .int (j : Nat)] H Q E := by
  refine ⟨_, _, _, _, rfl, .inr ⟨p, fp, rs, _, rfl, isR_book TC hB, hB, vk_int _, fun e => ?_, fun _ => .inr ⟨q, fq, qs, _, rfl, isR_book TC hC, hC, vk_int _, fun e => ?_, h64, fun a b ea eb _ _ => ?_⟩⟩⟩
  · rw [num_in hi] at e
    cases e
  · rw [num_in hj] at e
    cases e
  · have e1 : i = a := by have := V.int.inj ea; omega
    have e2 : j = b := by have := V.int.inj eb; omega
    subst e1
    subst e2
    exact h
theorem BookAt.keep {H H' : Hp} {C p p0 : Addr} {fp : List Addr} {rs : List RowK} {n : Nat} (B : BookAt P w K H C p fp rs) (hb : BoxAt H p0 n) (k : Keep p0 H H') (hp : p0 ≠ p) (hf : p0 ∉ fp) : BookAt P w K H' C p fp rs :=
  B.fr (S := [p0]) (fun b o e1 e2 => k b o (fun z => e1 (by rw [z]; exact List.mem_cons_self)) e2) (fun b hb' => by rw [List.mem_singleton.mp hb']; exact box_nt hb) (fun z => hp (List.mem_singleton.mp z).symm) (fun b hb z => hf (by rw [← List.mem_singleton.mp z]; exact hb))
theorem look_nat {rs qs : List RowK} (hR : OkRows rs) (hQ : OkRows qs) {i : Nat} {ys : List Int} (hP : PartsOf rs i ys) (hi : i < rs.length) : ∃ b : Nat, lookM (carF rs ys qs []).2 i = b ∧ b < (carF rs ys qs []).1.length := by
  obtain ⟨k, hk⟩ : ∃ k, rs[i]? = some k := ⟨_, List.getElem?_eq_getElem hi⟩
  obtain ⟨_, _, h⟩ := carF_spec (rs := rs) (ps := ys) (cur := qs) (m := []) (fun p hp => by
    obtain ⟨n, rfl, h⟩ := (hP.2 p).mp hp
    have := reach_lt hR h
    exact ⟨by omega, by omega, List.not_mem_nil⟩) (hP.1.imp fun h => by omega) (fun t n k h1 h2 x hx => .inr (args_before hR hP h1 h2 hx))
  obtain ⟨b, e, hb⟩ := h i k ((hP.2 _).mpr ⟨i, rfl, .refl⟩) hk
  exact ⟨b, e, (List.getElem?_eq_some_iff.mp hb).1⟩
/-- two books and the lists of their rows, apart from the box -/
structure Two (P : Program) (w : World) (K : PySem.W.Frag) (H : Hp) (C p0 p q l lo : Addr) (fp fq : List Addr) (n : Nat) (rs qs : List RowK) : Prop where
  box : BoxAt H p0 n
  bp : BookAt P w K H C p fp rs
  bq : BookAt P w K H C q fq qs
  rl : RowsM K H l rs
  rq : RowsM K H lo qs
  e1 : p0 ≠ p
  e2 : p0 ≠ q
  e3 : l ≠ p0
  e4 : lo ≠ p0
  f1 : p0 ∉ fp
  f2 : p0 ∉ fq
theorem Two.same {H H' : Hp} {C p0 p q l lo : Addr} {fp fq : List Addr} {n : Nat} {rs qs : List RowK} (h : Two P w K H C p0 p q l lo fp fq n rs qs) (s : Same H H') : Two P w K H' C p0 p q l lo fp fq n rs qs :=
  ⟨h.box.keep s, h.bp.up s, h.bq.up s, h.rl.up s, h.rq.up s, h.e1, h.e2, h.e3, h.e4, h.f1, h.f2⟩
theorem Two.keep {H H' : Hp} {C p0 p q l lo : Addr} {fp fq : List Addr} {n m : Nat} {rs qs : List RowK} (h : Two P w K H C p0 p q l lo fp fq n rs qs) (k : Keep p0 H H') (hb : BoxAt H' p0 m) : Two P w K H' C p0 p q l lo fp fq m rs qs :=
  ⟨hb, BookAt.keep h.bp h.box k h.e1 h.f1, BookAt.keep h.bq h.box k h.e2 h.f2, h.rl.keep h.box k h.e3, h.rq.keep h.box k h.e4, h.e1, h.e2, h.e3, h.e4, h.f1, h.f2⟩
def spPairs (P : Program) (w : World) (K : PySem.W.Frag) (C : Addr) : Sp := fun vs H Q _ => ∃ (p0 p q l lo : Addr) (fp fq : List Addr) (n : Nat) (rs qs : List RowK), vs = [.ref p0, .ref p, .ref l, .ref q, .ref lo] ∧ Two P w K H C p0 p q l lo fp fq n rs qs ∧ n ≤ 50000 ∧ 1 ≤ rs.length ∧ rs.length < 64 ∧ 1 ≤ qs.length ∧ qs.length < 64 ∧ ∀ H', Keep p0 H H' → BoxAt H' p0 (n + 100) → Q (.bl true) H'
theorem rows_eq_to {H : Hp} {l : Addr} {rs : List RowK} {l1 : Addr} {bs : List Addr} (hR : OkRows rs) (hL : RowsM K H l rs) (h1 : H l1 = some (.lst (bs.map V.ref))) (hbl : bs.length = rs.length) (hbr : ∀ (i : Nat) (k : RowK) (a : Addr), rs[i]? = some k → bs[i]? = some a → RowAt K H k a) {Q : VK} (q : Q (.bl true) H) : rEqD K (.ref l1) (.ref l) H Q := by
  obtain ⟨as, hl, hal, hrw⟩ := hL
  refine ⟨.list (rs.map rowD), .list (rs.map rowD), .lst (SqL.of h1) (rows_dp hbl hbr), .lst (SqL.of hl) (rows_dp hal hrw), rows_shaped (okRows_str hR), rows_shaped (okRows_str hR), ?_⟩
  rw [PyData.eqv, rows_eqv, decide_eq_true rfl]
  exact q

abbrev sPr : Stmt := top 85
abbrev nPr : List Str := ["_law_box_here", "_law_book", "_law_rows_here", "_law_other", "_law_others", "_law_turn", "_law_one", "_law_two", "_law_far", "_law_due", "_law_grown", "_law_number", "_law_found"]
theorem scPr : FnScope nPr ["_law_box_here", "_law_book", "_law_rows_here", "_law_other", "_law_others"] (defScope sPr) := ⟨rfl, rfl, rfl, by decide +kernel, rfl, by decide +kernel, by decide +kernel⟩

theorem ok_Pr (F : Fun K "_law_pairs_right" "_law_pairs_right" sPr f fd) {C CB CU : Addr} (T : TxtL mg) (TC : TxtC K C) (TK : Cg P w K mg base 1 "_law_take" spTake) (SL : Cg P w K mg base 1 "_law_slots" (spSlotsL K)) (CL : Cg P w K mg base 2 "_law_carried" (spCarL K)) (DF : Ctr P w K mg base 5 C "differ" [] (spDiffer P w K C CU)) (SM : Cgr P w K mg base 6 "same_term" [] (spSame P w K C CB CU)) (RO : Ct P w K mg base 1 C "rows" [] (spRows P w K C)) : FnG P w K mg base CX0 7 f fd ["_law_box_here", "_law_book", "_law_rows_here", "_law_other", "_law_others"] (spPairs P w K C) := by
  refine FunG.ok F scPr (fun vs H Q E h => ?_) (fun cdv B out s H vs Q E hr hG h => ?_)
  · obtain ⟨p0, p, q, l, lo, fp, fq, n, rs, qs, rfl, _⟩ := h
    rfl
  · obtain ⟨p0, p, q, l, lo, fp, fq, n, rs, qs, rfl, tw, hn, hr1, hr2, hq1, hq2, fin⟩ := h
    refine ⟨_, (pss_cons (ps_for PassesOwn.never rfl (pi_range1 (by rfl) T.range (pa_cons pe_int pa_nil)) (pg_name (i := 5) scPr.nd rfl (Or.inl rfl)) (pss_cons (ps_par (i := 6) (j := 7) rfl scPr.nd rfl rfl (by decide) rfl rfl (pa_cons (pe_g TK hr hG (by decide) (by rfl) (pa_cons (pv 0) (pa_cons (pe_callB call_len (by rfl) T.len PySem.boot_len (pa_cons (pv 2) pa_nil)) pa_nil))) (pa_cons (pe_g TK hr hG (by decide) (by rfl) (pa_cons (pv 0) (pa_cons (pe_callB call_len (by rfl) T.len PySem.boot_len (pa_cons (pv 2) pa_nil)) pa_nil))) pa_nil)) (by rfl))
        (pss_cons (ps_set (i := 8) scPr.nd rfl (.inl rfl) (pe_g TK hr hG (by decide) (by rfl) (pa_cons (pv 0) (pa_cons (pe_callB call_len (by rfl) T.len PySem.boot_len (pa_cons (pv 4) pa_nil)) pa_nil))))
        (pss_cons (ps_set (i := 9) scPr.nd rfl (.inl rfl) (pe_g SL hr hG (by decide) (by rfl) (pa_cons (pv 2) (pa_cons (pv 6) (pa_cons (pv 7) pa_nil)))))
        (pss_cons (ps_if (pt_cmpR op_ne (pe_callB (call_repr hr hG) (by rfl) T.repr (by decide +kernel) (pa_cons (pe_lst (pa_cons (pe_ctr (pv 1) DF hr hG (by decide) takes0 (pa_cons (pv 6) (pa_cons (pv 7) pa_nil))) (pa_cons (pe_ctr (pv 1) DF hr hG (by decide) takes0 (pa_cons (pv 6) (pa_cons (pv 6) pa_nil))) pa_nil))) pa_nil)) (pe_callB (call_repr hr hG) (by rfl) T.repr (by decide +kernel) (pa_cons (pe_lst (pa_cons (pv 9) (pa_cons pe_non pa_nil))) pa_nil)) (nomark _)) (pss_one (ps_ret pe_bl)) pss_nil)
        (pss_cons (ps_asg (pe_g CL hr hG (by decide) (by rfl) (pa_cons (pv 2) (pa_cons (pv 4) (pa_cons (pv 8) pa_nil)))) (pg_tup rfl (pgs_cons (pg_name (i := 10) scPr.nd rfl (Or.inl rfl)) (pgs_cons (pg_name (i := 11) scPr.nd rfl (Or.inl rfl)) pgs_nil))))
        (pss_cons (ps_set (i := 12) scPr.nd rfl (.inl rfl) (pe_lst (pa_cons (pe_cgr SM hr hG (by decide) takes0 (by rfl) (pa_cons (pv 1) (pa_cons (pv 6) (pa_cons (pv 3) (pa_cons (pv 8) pa_nil))))) (pa_cons (pe_cgr SM hr hG (by decide) takes0 (by rfl) (pa_cons (pv 3) (pa_cons (pv 8) (pa_cons (pv 1) (pa_cons (pv 6) pa_nil))))) (pa_cons (pe_cgr SM hr hG (by decide) takes0 (by rfl) (pa_cons (pv 1) (pa_cons (pv 6) (pa_cons (pv 1) (pa_cons (pv 7) pa_nil))))) pa_nil)))))
        (pss_cons (ps_if (pt_cmpR op_ne (pe_callB (call_repr hr hG) (by rfl) T.repr (by decide +kernel) (pa_cons (pv 12) pa_nil)) (pe_callB (call_repr hr hG) (by rfl) T.repr (by decide +kernel) (pa_cons (pe_lst (pa_cons (pe_cmpR op_eq (pv 11) (pv 6) (nomark _)) (pa_cons (pe_cmpR op_eq (pv 11) (pv 6) (nomark _)) (pa_cons (pe_cmpR op_eq (pv 6) (pv 7) (nomark _)) pa_nil)))) pa_nil)) (nomark _)) (pss_one (ps_ret pe_bl)) pss_nil)
        (pss_one (ps_if (PW.pt (pw_and (pt_cmpR op_lt (pv 11) (pe_callB call_len (by rfl) T.len PySem.boot_len (pa_cons (pv 2) pa_nil)) (nomark _)) (pw_and1 (pt_cmpR op_notBl (pe_cgr SM hr hG (by decide) takes0 (by rfl) (pa_cons (pv 1) (pa_cons (pv 11) (pa_cons (pv 3) (pa_cons (pv 8) pa_nil))))) pe_bl (nomark _))))) (pss_one (ps_ret pe_bl)) pss_nil))))))))))
      (pss_one (ps_ret (pe_and (pe_cmpR (op_eqD hr.units) (pe_ct0 (pv 1) RO hr hG (by decide)) (pv 2) (nomark _)) (pe_one (pe_cmpR (op_eqD hr.units) (pe_ct0 (pv 3) RO hr hG (by decide)) (pv 4) (nomark _))))))), ?_⟩
    have dp1 : ∀ {N : Hp} {L : Addr} {v1 v2 : V} {d1 d2 : PyData}, N L = some (.lst [v1, v2]) → Dp K N v1 d1 → Dp K N v2 d2 → Dp K N (.ref L) (.list [d1, d2]) := fun h a b => .lst (SqL.of h) (.cons a (.cons b .nil))
    refine ⟨_, rfl, by decide, by decide, ?_⟩
    refine for_range (lo := 0) (n := 6) (fun i σ G => ∃ o5 o6 o7 o8 o9 o10 o11 o12, σ = [some (.ref p0), some (.ref p), some (.ref l), some (.ref q), some (.ref lo), o5, o6, o7, o8, o9, o10, o11, o12] ∧ Two P w K G C p0 p q l lo fp fq (n + 10 * i) rs qs ∧ Keep p0 H G) ⟨_, _, _, _, _, _, _, _, rfl, tw, Keep.refl _ _⟩ ?_ ?_
    · rintro i σ G hi ⟨o5, o6, o7, o8, o9, o10, o11, o12, rfl, tG, kG⟩
      obtain ⟨as, hl, hal, _⟩ := tG.rl
      obtain ⟨_, hR, _⟩ := BookAt.ok tG.bp
      obtain ⟨_, hQ, _⟩ := BookAt.ok tG.bq
      have hnR := (BookAt.ok tG.bp).1
      have hnQ := (BookAt.ok tG.bq).1
      dsimp only [gName]
      refine ⟨_, rfl, _, rfl, _, _, rfl, .inl ⟨_, SqL.of hl, rfl⟩, p0, _, _, rfl, tG.box, ?_⟩
      rw [List.length_map, hal]
      refine ⟨by omega, small_log (by omega) (by omega), by omega, fun d1 G1 a1 c1 b1 k1 => ?_⟩
      have t1 := tG.keep (keep_of k1) b1
      obtain ⟨as1, hl1, hal1, _⟩ := t1.rl
      refine ⟨_, rfl, _, rfl, _, _, rfl, .inl ⟨_, SqL.of hl1, rfl⟩, p0, _, _, rfl, b1, ?_⟩
      rw [List.length_map, hal1]
      refine ⟨by omega, small_log (by omega) (by omega), by omega, fun d2 G2 a2 c2 b2 k2 => ⟨_, _, rfl, ?_⟩⟩
      have t2 := t1.keep (keep_of k2) b2
      obtain ⟨as2, hl2, hal2, _⟩ := t2.rq
      refine ⟨_, rfl, _, rfl, _, _, rfl, .inl ⟨_, SqL.of hl2, rfl⟩, p0, _, _, rfl, b2, ?_⟩
      rw [List.length_map, hal2]
      refine ⟨by omega, small_log (by omega) (by omega), by omega, fun d3 G3 a3 c3 b3 k3 => ?_⟩
      have t3 := t2.keep (keep_of k3) b3
      have kG3 : Keep p0 H G3 := ((kG.trans (keep_of k1)).trans (keep_of k2)).trans (keep_of k3)
      obtain ⟨one, rfl⟩ : ∃ m : Nat, d1 = (m : Int) := ⟨d1.toNat, by omega⟩
      obtain ⟨two, rfl⟩ : ∃ m : Nat, d2 = (m : Int) := ⟨d2.toNat, by omega⟩
      obtain ⟨far, rfl⟩ : ∃ m : Nat, d3 = (m : Int) := ⟨d3.toNat, by omega⟩
      have h1 : one < rs.length := by omega
      have h2 : two < rs.length := by omega
      have h3 : far < qs.length := by omega
      clear k1 k2 k3 hl hal hl1 hal1 hl2 hal2 t1 t2
      dsimp only [gName]
      refine ⟨_, rfl, _, rfl, _, rfl, ?_⟩
      dsimp only [tNil]
      refine slots_to t3.rl.L hR hnR h1 h2 (by omega) fun v G4 s4 hv => ?_
      have t4 := t3.same s4
      dsimp only [gName]
      obtain ⟨dx, gs, g0, a6⟩ := t4.bp.there
      refine ⟨_, rfl, p, dx, gs, rfl, g0, a6 _ (by decide), _, rfl, _, rfl, ?_⟩
      dsimp only [tNil]
      refine differ_to t4.bp h1 h2 fun v1 G5 s5 hv1 => ?_
      have t5 := t4.same s5
      obtain ⟨dx5, gs5, g05, a65⟩ := t5.bp.there
      refine ⟨_, rfl, p, dx5, gs5, rfl, g05, a65 _ (by decide), _, rfl, _, rfl, ?_⟩
      dsimp only [tNil]
      refine differ_to t5.bp h1 h1 fun v2 G6 s6 hv2 => ?_
      have t6 := t5.same s6
      refine ⟨(by show 2 ≤ sizeLine; decide), fun L1 e1 => ?_⟩
      have s7 : Same G6 (upd G6 L1 (.lst [v1, v2])) := Same.put e1
      have l7 : (upd G6 L1 (.lst [v1, v2])) L1 = some (.lst [v1, v2]) := upd_same
      generalize upd G6 L1 (.lst [v1, v2]) = G7 at s7 l7 ⊢
      have t7 := t6.same s7
      have nz : Nice 2000 2 (.list [slotD rs one two, .none]) := ((NiceAll.cons (slot_nice hR (j := two) (by omega : one < 64)) (NiceAll.cons nice_none niceAll_nil)).list).mono (by decide) (by decide)
      have hvN : Dp K G6 v2 .none := by
        have := hv2 G6 (Same.refl _)
        unfold SlotV slotD at this
        rwa [if_pos rfl] at this
      have hv2N : v2 = .non := by cases hvN; rfl
      subst hv2N
      refine rRepr_of (dp1 l7 (hv1 G7 (Same.tr s6 s7)) .non) nz (by decide) (by decide) ?_
      refine ⟨_, rfl, (by show 2 ≤ sizeLine; decide), fun L2 e2 => ?_⟩
      have s8 : Same G7 (upd G7 L2 (.lst [v, .non])) := Same.put e2
      have l8 : (upd G7 L2 (.lst [v, .non])) L2 = some (.lst [v, .non]) := upd_same
      generalize upd G7 L2 (.lst [v, .non]) = G8 at s8 l8 ⊢
      have t8 := t7.same s8
      dsimp only [tNil]
      refine rRepr_of (dp1 l8 (hv G8 (Same.tr (Same.tr s5 s6) (Same.tr s7 s8))) .non) nz (by decide) (by decide) ?_
      refine ⟨rfl, _, rfl, if_false_of (by rw [decide_eq_true rfl]; rfl) ?_⟩
      refine ⟨_, rfl, _, rfl, _, rfl, ?_⟩
      dsimp only [tNil]
      refine ⟨l, lo, rs, qs, far, rfl, t8.rl.L, t8.rq.L, hR, hQ, h3, hq2, by omega, fun tt D ys G9 hP s9 hD hM hT => ?_⟩
      have t9 := t8.same s9
      refine ⟨tt, _, rfl, hT, rfl, _, _, rfl, _, _, rfl, rfl, ?_⟩
      obtain ⟨num, hnum, hlt⟩ := look_nat hQ hR hP h3
      rw [hnum]
      refine ⟨_, rfl, _, rfl, _, rfl, _, rfl, ?_⟩
      dsimp only [tNil]
      refine same_to TC t9.bp t9.bq h1 h3 hr2 fun ys1 G10 hP1 s10 => ?_
      have t10 := t9.same s10
      refine ⟨_, rfl, _, rfl, _, rfl, _, rfl, ?_⟩
      dsimp only [tNil]
      refine same_to TC t10.bq t10.bp h3 h1 hq2 fun ys2 G11 hP2 s11 => ?_
      have t11 := t10.same s11
      refine ⟨_, rfl, _, rfl, _, rfl, _, rfl, ?_⟩
      dsimp only [tNil]
      refine same_to TC t11.bp t11.bp h1 h2 hr2 fun ys3 G12 hP3 s12 => ?_
      have t12 := t11.same s12
      have q2 : sameB qs rs ys far one = decide (num = one) := by
        rw [same_carried hQ hR hP h3 h1, hnum]
        exact decide_eq_decide.mpr (by omega)
      have q1 : sameB rs qs ys1 one far = decide (num = one) := (same_comm hR hQ hnR hnQ hP1 hP h1 h3).trans q2
      have q3 : sameB rs rs ys3 one two = decide (one = two) := same_self hR hnR hP3 h1 h2
      rw [q1, parts_one hP2 hP, q2, q3]
      have v1' : decide (V.int (num : Nat) = V.int (one : Nat)) = decide (num = one) := decide_eq_decide.mpr ⟨fun h => by have := V.int.inj h; omega, fun h => by rw [h]⟩
      have v2' : decide (V.int (one : Nat) = V.int (two : Nat)) = decide (one = two) := decide_eq_decide.mpr ⟨fun h => by have := V.int.inj h; omega, fun h => by rw [h]⟩
      refine ⟨(by show 3 ≤ sizeLine; decide), fun L3 e3 => ?_⟩
      have s13 : Same G12 (upd G12 L3 (.lst [.bl (decide (num = one)), .bl (decide (num = one)), .bl (decide (one = two))])) := Same.put e3
      have l13 : (upd G12 L3 (.lst [.bl (decide (num = one)), .bl (decide (num = one)), .bl (decide (one = two))])) L3 = some (.lst [.bl (decide (num = one)), .bl (decide (num = one)), .bl (decide (one = two))]) := upd_same
      generalize upd G12 L3 (.lst [.bl (decide (num = one)), .bl (decide (num = one)), .bl (decide (one = two))]) = G13 at s13 l13 ⊢
      have t13 := t12.same s13
      have nz3 : Nice 2000 2 (.list [.bool (decide (num = one)), .bool (decide (num = one)), .bool (decide (one = two))]) := ((NiceAll.cons (nice_bool _) (NiceAll.cons (nice_bool _) (NiceAll.cons (nice_bool _) niceAll_nil))).list).mono (by decide) (by decide)
      have dp3 : ∀ {N : Hp} {L : Addr} {b1 b2 b3 : Bool}, N L = some (.lst [.bl b1, .bl b2, .bl b3]) → Dp K N (.ref L) (.list [.bool b1, .bool b2, .bool b3]) := fun h => .lst (SqL.of h) (.cons (.bl _) (.cons (.bl _) (.cons (.bl _) .nil)))
      dsimp only [gName]
      refine ⟨_, rfl, ?_⟩
      dsimp only [tNil]
      refine rRepr_of (dp3 l13) nz3 (by decide) (by decide) ?_
      refine ⟨_, rfl, _, rfl, rfl, _, rfl, _, rfl, rfl, _, rfl, _, rfl, rfl, ?_⟩
      rw [v1', v2']
      refine ⟨(by show 3 ≤ sizeLine; decide), fun L4 e4 => ?_⟩
      have s14 : Same G13 (upd G13 L4 (.lst [.bl (decide (num = one)), .bl (decide (num = one)), .bl (decide (one = two))])) := Same.put e4
      have l14 : (upd G13 L4 (.lst [.bl (decide (num = one)), .bl (decide (num = one)), .bl (decide (one = two))])) L4 = some (.lst [.bl (decide (num = one)), .bl (decide (num = one)), .bl (decide (one = two))]) := upd_same
      generalize upd G13 L4 (.lst [.bl (decide (num = one)), .bl (decide (num = one)), .bl (decide (one = two))]) = G14 at s14 l14 ⊢
      have t14 := t13.same s14
      dsimp only [tNil]
      refine rRepr_of (dp3 l14) nz3 (by decide) (by decide) ?_
      refine ⟨rfl, _, rfl, if_false_of (by rw [decide_eq_true rfl]; rfl) ?_⟩
      dsimp only [tNext]
      have sA : Same G3 G14 := Same.tr s4 (Same.tr s5 (Same.tr s6 (Same.tr s7 (Same.tr s8 (Same.tr s9 (Same.tr s10 (Same.tr s11 (Same.tr s12 (Same.tr s13 s14)))))))))
      have kG14 : Keep p0 H G14 := kG3.trans (.of sA)
      obtain ⟨as14, hl14, hal14, _⟩ := t14.rl
      refine ⟨_, rfl, _, rfl, _, _, rfl, .inl ⟨_, SqL.of hl14, rfl⟩, _, _, rfl, rfl, _, rfl, ?_⟩
      rw [List.length_map, hal14]
      refine ite2 (fun hlt2 => ?_) (fun _ => ?_)
      · have hnl : num < rs.length := by
          have := of_decide_eq_true hlt2
          omega
        refine ⟨_, rfl, _, rfl, _, rfl, _, rfl, ?_⟩
        dsimp only [tNil]
        refine same_to TC t14.bp t14.bq hnl h3 hr2 fun ys4 G15 hP4 s15 => ?_
        have q4 : sameB rs qs ys4 num far = true := by
          rw [same_comm hR hQ hnR hnQ hP4 hP hnl h3, same_carried hQ hR hP h3 hnl, hnum]
          exact decide_eq_true rfl
        rw [q4]
        refine ⟨_, _, rfl, rfl, _, rfl, iteF ?_⟩
        have t15 := t14.same s15
        exact ⟨_, _, _, _, _, _, _, _, rfl, t15.keep (Keep.refl _ _) (t15.box.mono (by omega)), kG14.trans (.of s15)⟩
      · exact iteF ⟨_, _, _, _, _, _, _, _, rfl, t14.keep (Keep.refl _ _) (t14.box.mono (by omega)), kG14⟩
    · rintro σ G ⟨o5, o6, o7, o8, o9, o10, o11, o12, rfl, tG, kG⟩
      obtain ⟨_, hR, _⟩ := BookAt.ok tG.bp
      obtain ⟨_, hQ, _⟩ := BookAt.ok tG.bq
      obtain ⟨dx, gs, g0, a6⟩ := tG.bp.there
      refine ⟨_, rfl, p, dx, gs, rfl, g0, a6 _ (by decide), p, fp, rs, rfl, tG.bp, fun l1 H1 bs e1 eH1 hbl hbr => ?_⟩
      subst eH1
      have s1 : Same G (upd G l1 (.lst (bs.map V.ref))) := Same.put e1
      have g1 : (upd G l1 (.lst (bs.map V.ref))) l1 = some (.lst (bs.map V.ref)) := upd_same
      generalize upd G l1 (.lst (bs.map V.ref)) = G1 at s1 g1 ⊢
      have t1 := tG.same s1
      refine ⟨_, rfl, rows_eq_to hR t1.rl g1 hbl (fun i k a x y => (hbr i k a x y).mono fun _ _ => upT s1) ?_⟩
      refine ⟨_, rfl, iteT ?_⟩
      obtain ⟨dx2, gs2, g02, a62⟩ := t1.bq.there
      refine ⟨_, rfl, q, dx2, gs2, rfl, g02, a62 _ (by decide), q, fq, qs, rfl, t1.bq, fun l2 H2 cs e2 eH2 hcl hcr => ?_⟩
      subst eH2
      have s2 : Same G1 (upd G1 l2 (.lst (cs.map V.ref))) := Same.put e2
      have g2 : (upd G1 l2 (.lst (cs.map V.ref))) l2 = some (.lst (cs.map V.ref)) := upd_same
      generalize upd G1 l2 (.lst (cs.map V.ref)) = G2 at s2 g2 ⊢
      have t2 := t1.same s2
      exact ⟨_, rfl, rows_eq_to hQ t2.rq g2 hcl (fun i k a x y => (hcr i k a x y).mono fun _ _ => upT s2) (fin G2 (kG.trans (.of (Same.tr s1 s2))) (t2.box.mono (by omega)))⟩

end
end T56
set_option Elab.async false
set_option linter.all false
set_option maxRecDepth 100000
set_option maxHeartbeats 4000000
namespace T56
open PySem PySem.Spec PyProof.Rows L2 Tp
section
variable {P : Program} {w : World} {K : PySem.W.Frag} {mg : Str → Option Value} {base : Heap} {f : Addr} {fd : FuncData}

/-- what is no book -/
structure TxtB (K : PySem.W.Frag) (C CN : Addr) : Prop where
  tys : ∀ u ∈ (["NoneType", "int", "str", "list", "dict", "tuple"] : List String), PySem.W.kitOne K (.type u) (.ref C) = some false
  net : PySem.W.kitOne K (.ref CN) (.ref C) = some false
  nn : PySem.W.kitOne K (.ref CN) (.ref CN) = some true
section
variable {C CB CU : Addr} {H : Hp} {l p q : Addr} {fp fq : List Addr} {rs qs : List RowK} {x y z : V} {kx ky : String} {Q : VK} {E : XK}
def NoB (K : PySem.W.Frag) (C : Addr) (H : Hp) (x : V) : Prop := IsR K H x (.ref C) false
theorem z_num {n : Nat} {Z : Prop} (h : 1 ≤ n) : numV n (.int 0) = false → Z := fun e => by
  rw [show numV n (.int 0) = true from num_in (i := 0) h] at e
  cases e
theorem BookAt.BI {w : World} (B : BookAt P w K H C p fp rs) : BkI H C p := B.there
theorem td_carryB (bi : BkI H C q) (hL : SqL K H l [.ref q, x, y]) (hx : NoB K C H x) (r : ∀ a H', Same H H' → H a = none → H' a = some (.lst [.str "book", x]) → Q (.ref a) H') : spTold P w K C CB CU [.str "carry", .ref l] H Q E :=
  ⟨true, x, fun _ => False, ⟨_, _, rfl⟩, fun Q' E' hE _ => ⟨_, _, _, rfl, hL, .inl ⟨rfl, q, x, y, rfl, bi, q, x, y, rfl, .inl ⟨hx, ref_book hE⟩⟩⟩, r, fun _ _ _ h => h.elim⟩
theorem td_sameB1 {v : V} (hL : SqL K H l [x, y, z, v]) (hx : NoB K C H x) (r : ∀ a H', Same H H' → H a = none → H' a = some (.lst [.str "book", x]) → Q (.ref a) H') : spTold P w K C CB CU [.str "same", .ref l] H Q E :=
  ⟨true, x, fun _ => False, ⟨_, _, rfl⟩, fun Q' E' hE _ => ⟨_, _, _, rfl, hL, .inr (.inr ⟨rfl, _, _, _, _, rfl, _, _, _, _, rfl, .inl ⟨hx, ref_book hE⟩⟩)⟩, r, fun _ _ _ h => h.elim⟩
theorem td_sameB2 (TC : TxtC K C) (B : BookAt P w K H C p fp rs) (h1 : 1 ≤ rs.length) (hL : SqL K H l [.ref p, .int 0, x, y]) (hx : NoB K C H x) (r : ∀ a H', Same H H' → H a = none → H' a = some (.lst [.str "book", x]) → Q (.ref a) H') : spTold P w K C CB CU [.str "same", .ref l] H Q E :=
  ⟨true, x, fun _ => False, ⟨_, _, rfl⟩, fun Q' E' hE _ => ⟨_, _, _, rfl, hL, .inr (.inr ⟨rfl, _, _, _, _, rfl, _, _, _, _, rfl, .inr ⟨p, fp, rs, _, rfl, isR_book TC B, B, vk_int _, z_num h1, fun _ => .inl ⟨hx, ref_book hE⟩⟩⟩)⟩, r, fun _ _ _ h => h.elim⟩
theorem f_num {n : Nat} {x : V} {Z : Prop} (h : numV n x = false) : numV n x = true → Z := fun e => by
  rw [h] at e
  cases e
theorem no_num {n : Nat} {x : V} (h : numV n x = false) {i : Nat} (e : x = .int (i : Nat)) (hi : i < n) : False := by
  subst e
  rw [num_in hi] at h
  cases h
theorem td_carryT (TC : TxtC K C) (B : BookAt P w K H C p fp rs) (B2 : BookAt P w K H C q fq qs) (sep : (p ∉ fq ∧ ∀ b ∈ fp, b ∉ fq) ∨ (p = q ∧ fp = fq ∧ rs = qs)) (h64 : rs.length < 64) (hs : qs.length + rs.length < 5000) (hL : SqL K H l [.ref q, .ref p, x]) (vk : Vk K H x kx) (hx : numV rs.length x = false) (r : ∀ a H', Same H H' → H a = none → H' a = some (.lst [.str "term", x]) → Q (.ref a) H') : spTold P w K C CB CU [.str "carry", .ref l] H Q E :=
  ⟨false, x, fun _ => False, ⟨_, _, rfl⟩, fun Q' E' hE _ => ⟨_, _, _, rfl, hL, .inl ⟨rfl, q, _, x, rfl, BookAt.BI B2, q, _, x, rfl, .inr ⟨p, fp, fq, rs, qs, _, rfl, isR_book TC B, B, B2, vk, fun _ => ref_term hE, h64, hs, sep, fun i e hi => (no_num hx e hi).elim⟩⟩⟩, r, fun _ _ _ h => h.elim⟩
theorem td_differT1 (B : BookAt P w K H C p fp rs) (hL : SqL K H l [.ref p, x, y]) (vx : Vk K H x kx) (vy : Vk K H y ky) (hx : numV rs.length x = false) (r : ∀ a H', Same H H' → H a = none → H' a = some (.lst [.str "term", x]) → Q (.ref a) H') : spTold P w K C CB CU [.str "differ", .ref l] H Q E :=
  ⟨false, x, fun _ => False, ⟨_, _, rfl⟩, fun Q' E' hE _ => ⟨_, _, _, rfl, hL, .inr (.inl ⟨rfl, p, x, y, rfl, BookAt.BI B, p, fp, rs, x, y, _, _, rfl, B, vx, vy, fun _ => ref_term hE, f_num hx, fun i j e _ hi => (no_num hx e hi).elim⟩)⟩, r, fun _ _ _ h => h.elim⟩
theorem td_differT2 (B : BookAt P w K H C p fp rs) (h1 : 1 ≤ rs.length) (hL : SqL K H l [.ref p, .int 0, x]) (vx : Vk K H x kx) (hx : numV rs.length x = false) (r : ∀ a H', Same H H' → H a = none → H' a = some (.lst [.str "term", x]) → Q (.ref a) H') : spTold P w K C CB CU [.str "differ", .ref l] H Q E :=
  ⟨false, x, fun _ => False, ⟨_, _, rfl⟩, fun Q' E' hE _ => ⟨_, _, _, rfl, hL, .inr (.inl ⟨rfl, p, _, x, rfl, BookAt.BI B, p, fp, rs, _, x, _, _, rfl, B, vk_int _, vx, z_num h1, fun _ _ => ref_term hE, fun i j _ e _ hj => (no_num hx e hj).elim⟩)⟩, r, fun _ _ _ h => h.elim⟩
theorem td_sameT1 (TC : TxtC K C) (B : BookAt P w K H C p fp rs) (hL : SqL K H l [.ref p, x, y, z]) (vx : Vk K H x kx) (hx : numV rs.length x = false) (r : ∀ a H', Same H H' → H a = none → H' a = some (.lst [.str "term", x]) → Q (.ref a) H') : spTold P w K C CB CU [.str "same", .ref l] H Q E :=
  ⟨false, x, fun _ => False, ⟨_, _, rfl⟩, fun Q' E' hE _ => ⟨_, _, _, rfl, hL, .inr (.inr ⟨rfl, _, _, _, _, rfl, _, _, _, _, rfl, .inr ⟨p, fp, rs, _, rfl, isR_book TC B, B, vx, fun _ => ref_term hE, f_num hx⟩⟩)⟩, r, fun _ _ _ h => h.elim⟩
theorem td_sameT2 (TC : TxtC K C) (B : BookAt P w K H C p fp rs) (B2 : BookAt P w K H C q fq qs) (h1 : 1 ≤ rs.length) (h64 : rs.length < 64) (hL : SqL K H l [.ref p, .int 0, .ref q, x]) (vx : Vk K H x kx) (hx : numV qs.length x = false) (r : ∀ a H', Same H H' → H a = none → H' a = some (.lst [.str "term", x]) → Q (.ref a) H') : spTold P w K C CB CU [.str "same", .ref l] H Q E :=
  ⟨false, x, fun _ => False, ⟨_, _, rfl⟩, fun Q' E' hE _ => ⟨_, _, _, rfl, hL, .inr (.inr ⟨rfl, _, _, _, _, rfl, _, _, _, _, rfl, .inr ⟨p, fp, rs, _, rfl, isR_book TC B, B, vk_int _, z_num h1, fun _ => .inr ⟨q, fq, qs, _, rfl, isR_book TC B2, B2, vx, fun _ => ref_term hE, h64, fun i j _ e _ hj => (no_num hx e hj).elim⟩⟩⟩)⟩, r, fun _ _ _ h => h.elim⟩
theorem td_sameOk {j : Nat} (TC : TxtC K C) (B : BookAt P w K H C p fp rs) (B2 : BookAt P w K H C q fq qs) (h1 : 1 ≤ rs.length) (h64 : rs.length < 64) (hL : SqL K H l [.ref p, .int 0, .ref q, .int (j : Nat)]) (hj : j < qs.length) (r : ∀ a wd v H', wd ≠ ("term" : Str) → Same H H' → H a = none → H' a = some (.lst [.str wd, v]) → Q (.ref a) H') : spTold P w K C CB CU [.str "same", .ref l] H Q E := by
  refine ⟨true, .non, fun _ => True, ⟨_, _, rfl⟩, fun Q' E' hE hT => ⟨_, _, _, rfl, hL, .inr (.inr ⟨rfl, _, _, _, _, rfl, ?_⟩)⟩, fun a H' s na h => r a "book" _ H' (by decide +kernel) s na h, fun a v H' _ s na h => r a "told" v H' (by decide +kernel) s na h⟩
  exact same_to (i := 0) TC B B2 h1 hj h64 fun ys H' _ s => hT _ _ s trivial
end

end
end T56
set_option Elab.async false
set_option linter.all false
set_option maxRecDepth 100000
set_option maxHeartbeats 4000000
namespace T56
open PySem PySem.Spec PyProof.Rows L2 Tp
section
variable {P : Program} {w : World} {K : PySem.W.Frag} {mg : Str → Option Value} {base : Heap} {f : Addr} {fd : FuncData}

def spRefs (P : Program) (w : World) (K : PySem.W.Frag) (C : Addr) : Sp := fun vs H Q _ => ∃ (p q l : Addr) (fp fq : List Addr) (rs qs : List RowK), vs = [.ref p, .ref l, .ref q] ∧ BookAt P w K H C p fp rs ∧ BookAt P w K H C q fq qs ∧ RowsM K H l rs ∧ 1 ≤ rs.length ∧ rs.length < 64 ∧ 1 ≤ qs.length ∧ qs.length < 64 ∧ ∀ H', Same H H' → Q (.bl true) H'
theorem neg_num (n : Nat) : numV n (.int (0 - 1)) = false := by
  show decide (0 ≤ ((0 : Int) - 1) ∧ ((0 : Int) - 1) < (n : Int)) = false
  exact decide_eq_false (by omega)
theorem eqv_self4 (n : Int) : PyData.eqv (.list [.list [.str "term", .int 0], .list [.str "term", .int 0], .list [.str "term", .int 0], .list [.str "term", .int n]]) (.list [.list [.str "term", .int 0], .list [.str "term", .int 0], .list [.str "term", .int 0], .list [.str "term", .int n]]) = true := by
  simp [PyData.eqv, PyData.eqvAll]
theorem shaped4 (n : Int) : SeqAt.shaped (.list [.list [.str "term", .int 0], .list [.str "term", .int 0], .list [.str "term", .int 0], .list [.str "term", .int n]]) = true := by
  have h : PyData.strOk "term" = true := by decide +kernel
  simp [SeqAt.shaped, PyData.canLay0, PyData.canLayAll0, PyData.depth, PyData.depthAll, h]

abbrev sRr : Stmt := top 86
abbrev nRr : List Str := ["_law_book", "_law_rows_here", "_law_other", "_law_thing", "_law_found", "_law_none", "_law_one"]
theorem scRr : FnScope nRr ["_law_book", "_law_rows_here", "_law_other"] (defScope sRr) := ⟨rfl, rfl, rfl, by decide +kernel, rfl, by decide +kernel, by decide +kernel⟩

theorem ok_Rr (F : Fun K "_law_refusals_right" "_law_refusals_right" sRr f fd) {C CB CU CN CP CR CM dfl dfl2 : Addr} (T : TxtL mg) (TC : TxtC K C) (TB : TxtB K C CN) (IN : InsK K CN) (IB : InsK K C) (eT : ∃ (o : Obj) (n : Nat), K.lookup dfl = some o ∧ o.cls = .type "tuple" ∧ o.data = .seq #[] n) (eN : ∃ (o : Obj) (n : Nat), K.lookup dfl2 = some o ∧ o.cls = .type "tuple" ∧ o.data = .seq #[] n) (TO : Cg P w K mg base 8 "_law_told" (spTold P w K C CB CU)) (IS : Cg P w K mg base 5 "_law_is" (spIs K CN)) (MN : Cm P w K mg base 6 "Net" CN [.ref dfl2] (spNt K CN)) (CM0 : Cmr P w K mg base 6 "Book" C [.ref dfl] (spInitB P w K C CP CR CM)) (RO : Ct P w K mg base 1 C "rows" [] (spRows P w K C)) (LE : Ct P w K mg base 1 C "__len__" [] (spLen P w K C)) : FnG P w K mg base CX0 9 f fd ["_law_book", "_law_rows_here", "_law_other"] (spRefs P w K C) := by
  refine FunG.ok F scRr (fun vs H Q E h => ?_) (fun cdv B out s H vs Q E hr hG h => ?_)
  · obtain ⟨p, q, l, fp, fq, rs, qs, rfl, _⟩ := h
    rfl
  · obtain ⟨p, q, l, fp, fq, rs, qs, rfl, hB, hC, hL, hr1, hr2, hq1, hq2, fin⟩ := h
    refine ⟨_, (pss_cons (ps_for PassesOwn.never rfl (pi_list (pe_lst (pa_cons pe_non (pa_cons pe_int (pa_cons pe_str (pa_cons (pe_lst pa_nil) (pa_cons pe_dnewK (pa_cons (pe_tup pa_nil) (pa_cons (pe_cm MN hr hG (by decide) (by rfl) (pa_cons (pe_lst pa_nil) (pa_cons (pe_lst pa_nil) (pa_cons (pe_lst pa_nil) pa_nil)))) pa_nil))))))))) (pg_name (i := 3) scRr.nd rfl (Or.inr rfl)) (pss_cons (ps_set (i := 4) scRr.nd rfl (.inl rfl) (pe_lst (pa_cons (pe_g TO hr hG (by decide) (by rfl) (pa_cons pe_str (pa_cons (pe_lst (pa_cons (pv 0) (pa_cons (pv 3) (pa_cons pe_bl pa_nil)))) pa_nil))) (pa_cons (pe_g TO hr hG (by decide) (by rfl) (pa_cons pe_str (pa_cons (pe_lst (pa_cons (pv 3) (pa_cons pe_non (pa_cons (pv 2) (pa_cons pe_int pa_nil))))) pa_nil))) pa_nil))))
        (pss_cons (ps_expr (pe_bm PySem.F.plainAttrs_list PySem.F.slot_list_append PySem.F.type_list_append mt_append (pv 4) (pa_cons (pe_g TO hr hG (by decide) (by rfl) (pa_cons pe_str (pa_cons (pe_lst (pa_cons (pv 0) (pa_cons pe_int (pa_cons (pv 3) (pa_cons pe_non pa_nil))))) pa_nil))) pa_nil)))
        (pss_one (ps_if (pt_cmpR (op_neD hr.units) (pe_lc (own := [("_law_one", 6)]) (g := gName 6) rfl scRr.nd (pi_list (pv 4)) (blkOk_by (N := nRr) (sc := defScope sRr) (by decide +kernel)) (fun _ _ _ _ _ => pg_name (i := 6) scRr.nd rfl (Or.inl rfl)) (fun _ _ _ _ _ => (pts_one (pt_not (pt_val (pe_g IS hr hG (by decide) (by rfl) (pa_cons (pv 6) (pa_cons pe_str (pa_cons (pv 3) pa_nil)))))))) (fun _ _ _ _ _ => (pv 6))) (pe_lst pa_nil) (nomark _)) (pss_one (ps_ret pe_bl)) pss_nil)))))
      (pss_cons (ps_for PassesOwn.never rfl (pi_list (pe_lst (pa_cons (pe_callB call_len (by rfl) T.len PySem.boot_len (pa_cons (pv 1) pa_nil)) (pa_cons (pe_op op_sub pe_int pe_int) (pa_cons pe_bl (pa_cons pe_non (pa_cons pe_str (pa_cons (pe_lst (pa_cons pe_int pa_nil)) pa_nil)))))))) (pg_name (i := 3) scRr.nd rfl (Or.inr rfl)) (pss_cons (ps_set (i := 4) scRr.nd rfl (.inl rfl) (pe_lst (pa_cons (pe_g TO hr hG (by decide) (by rfl) (pa_cons pe_str (pa_cons (pe_lst (pa_cons (pv 0) (pa_cons (pv 0) (pa_cons (pv 3) pa_nil)))) pa_nil))) (pa_cons (pe_g TO hr hG (by decide) (by rfl) (pa_cons pe_str (pa_cons (pe_lst (pa_cons (pv 0) (pa_cons (pv 3) (pa_cons pe_non pa_nil)))) pa_nil))) pa_nil))))
        (pss_cons (ps_set (i := 4) scRr.nd rfl (.inl rfl) (pe_op op_cat (pv 4) (pe_lst (pa_cons (pe_g TO hr hG (by decide) (by rfl) (pa_cons pe_str (pa_cons (pe_lst (pa_cons (pv 0) (pa_cons pe_int (pa_cons (pv 3) pa_nil)))) pa_nil))) (pa_cons (pe_g TO hr hG (by decide) (by rfl) (pa_cons pe_str (pa_cons (pe_lst (pa_cons (pv 0) (pa_cons (pv 3) (pa_cons pe_non (pa_cons pe_non pa_nil))))) pa_nil))) pa_nil)))))
        (C8.pss_cut (ps_if (PW.pt (pw_and (pt_not (pt_val (pe_g IS hr hG (by decide) (by rfl) (pa_cons (pe_g TO hr hG (by decide) (by rfl) (pa_cons pe_str (pa_cons (pe_lst (pa_cons (pv 0) (pa_cons pe_int (pa_cons (pv 2) (pa_cons (pv 3) pa_nil))))) pa_nil))) (pa_cons pe_str (pa_cons (pv 3) pa_nil)))))) (pw_and1 (pt_cmpR op_ne (pv 3) (pe_callB call_len (by rfl) T.len PySem.boot_len (pa_cons (pv 1) pa_nil)) (nomark _))))) (pss_one (ps_ret pe_bl)) pss_nil)
        (pss_one (ps_if (pt_cmpR (op_neD hr.units) (pe_lc (own := [("_law_one", 6)]) (g := gName 6) rfl scRr.nd (pi_list (pv 4)) (blkOk_by (N := nRr) (sc := defScope sRr) (by decide +kernel)) (fun _ _ _ _ _ => pg_name (i := 6) scRr.nd rfl (Or.inl rfl)) (fun _ _ _ _ _ => (pts_one (pt_not (pt_val (pe_g IS hr hG (by decide) (by rfl) (pa_cons (pv 6) (pa_cons pe_str (pa_cons (pv 3) pa_nil)))))))) (fun _ _ _ _ _ => (pv 6))) (pe_lst pa_nil) (nomark _)) (pss_one (ps_ret pe_bl)) pss_nil))))))
      (pss_cons (ps_set (i := 5) scRr.nd rfl (.inl rfl) (pe_cmr0 CM0 hr hG (by decide) takes0 (by rfl)))
      (pss_cons (ps_set (i := 4) scRr.nd rfl (.inl rfl) (pe_lst (pa_cons (pe_g TO hr hG (by decide) (by rfl) (pa_cons pe_str (pa_cons (pe_lst (pa_cons (pv 0) (pa_cons (pv 5) (pa_cons pe_int pa_nil)))) pa_nil))) (pa_cons (pe_g TO hr hG (by decide) (by rfl) (pa_cons pe_str (pa_cons (pe_lst (pa_cons (pv 5) (pa_cons pe_int (pa_cons (pv 0) (pa_cons pe_int pa_nil))))) pa_nil))) pa_nil))))
      (pss_cons (ps_set (i := 4) scRr.nd rfl (.inl rfl) (pe_op op_cat (pv 4) (pe_lst (pa_cons (pe_g TO hr hG (by decide) (by rfl) (pa_cons pe_str (pa_cons (pe_lst (pa_cons (pv 0) (pa_cons pe_int (pa_cons (pv 5) (pa_cons pe_int pa_nil))))) pa_nil))) (pa_cons (pe_g TO hr hG (by decide) (by rfl) (pa_cons pe_str (pa_cons (pe_lst (pa_cons (pv 5) (pa_cons (pv 0) (pa_cons (pe_callB call_len (by rfl) T.len PySem.boot_len (pa_cons (pv 1) pa_nil)) pa_nil)))) pa_nil))) pa_nil)))))
      (pss_cons (ps_if (PW.pt (pw_or (pt_cmpR (op_neD hr.units) (pv 4) (pe_op op_cat (pe_op op_rep (pe_lst (pa_cons (pe_lst (pa_cons pe_str (pa_cons pe_int pa_nil))) pa_nil)) pe_int) (pe_lst (pa_cons (pe_lst (pa_cons pe_str (pa_cons (pe_callB call_len (by rfl) T.len PySem.boot_len (pa_cons (pv 1) pa_nil)) pa_nil))) pa_nil))) (nomark _)) (pw_or1 (pt_cmpR op_gt (pe_callB (call_lenO LE (hr.mono (by decide)) hG) (by rfl) T.len PySem.boot_len (pa_cons (pv 5) pa_nil)) pe_int (nomark _))))) (pss_one (ps_ret pe_bl)) pss_nil)
      (pss_one (ps_ret (pe_cmpR (op_eqD hr.units) (pe_ct0 (pv 0) RO hr hG (by decide)) (pv 1) (nomark _)))))))))), ?_⟩
    have em : ∀ {G : Hp} {d : Addr}, (∃ (o : Obj) (n : Nat), K.lookup d = some o ∧ o.cls = .type "tuple" ∧ o.data = .seq #[] n) → SqT K G d [] := fun ⟨o, n, h1, h2, h3⟩ => .inr ⟨o, #[], n, h1, h2, h3, by show 0 ≤ sizeLine; decide, .nil⟩
    refine ⟨(by show 0 ≤ sizeLine; decide), fun x4 e4 => ?_⟩
    have s4 : Same H (upd H x4 (.lst [])) := Same.put e4
    have f4 : (upd H x4 (.lst [])) x4 = some (.lst []) := upd_same
    generalize upd H x4 (.lst []) = G4 at s4 f4 ⊢
    intro x5 e5
    have s5 : Same G4 (upd G4 x5 (.dK [])) := Same.put e5
    have f5 : (upd G4 x5 (.dK [])) x5 = some (.dK []) := upd_same
    generalize upd G4 x5 (.dK []) = G5 at s5 f5 ⊢
    refine ⟨(by show 0 ≤ sizeLine; decide), fun x6 e6 => ?_⟩
    have s6 : Same G5 (upd G5 x6 (.tup [])) := Same.put e6
    have f6 : (upd G5 x6 (.tup [])) x6 = some (.tup []) := upd_same
    generalize upd G5 x6 (.tup []) = G6 at s6 f6 ⊢
    refine ⟨(by show 0 ≤ sizeLine; decide), fun a1 x1 => ⟨(by show 0 ≤ sizeLine; decide), fun a2 x2 => ⟨(by show 0 ≤ sizeLine; decide), fun a3 x3 => ?_⟩⟩⟩
    have s7 := Same.tr (Same.put (o := .lst []) x1) (Same.tr (Same.put (o := .lst []) x2) (Same.put (o := .lst []) x3))
    have y3 : (upd (upd (upd G6 a1 (.lst [])) a2 (.lst [])) a3 (.lst [])) a3 = some (.lst []) := upd_same
    have y2' : (upd (upd (upd G6 a1 (.lst [])) a2 (.lst [])) a3 (.lst [])) a2 = some (.lst []) := Same.put x3 _ _ upd_same
    have y1 : (upd (upd (upd G6 a1 (.lst [])) a2 (.lst [])) a3 (.lst [])) a1 = some (.lst []) := Same.put x3 _ _ (Same.put x2 _ _ upd_same)
    generalize upd (upd (upd G6 a1 (.lst [])) a2 (.lst [])) a3 (.lst []) = G7 at s7 y1 y2' y3 ⊢
    intro nt dx2 nb2 ndx2 nex2
    have sm2 : Same G7 (upd (upd G7 dx2 (.own nt)) nt (.ins CN dx2 [])) := Same.made nb2 ndx2 (fun b o e hb => e)
    refine ⟨nt, dx2, _, _, _, _, rfl, upd_same, emp_of (sm2 _ _ y1), emp_of (sm2 _ _ y2'), emp_of (sm2 _ _ y3), ⟨_, rfl, .inr (em eN)⟩, fun G8 hnt kb7 => ⟨rfl, ?_⟩⟩
    have s8 : Same G7 G8 := Same.made nb2 ndx2 (fun b o e hb => kb7 b o hb e)
    refine ⟨(by show 7 ≤ sizeLine; decide), fun L0 eL0 => ?_⟩
    have s9 : Same G8 (upd G8 L0 (.lst [.non, .int 3, .str "f", .ref x4, .ref x5, .ref x6, .ref nt])) := Same.put eL0
    have f9 : (upd G8 L0 (.lst [.non, .int 3, .str "f", .ref x4, .ref x5, .ref x6, .ref nt])) L0 = some (.lst [.non, .int 3, .str "f", .ref x4, .ref x5, .ref x6, .ref nt]) := upd_same
    generalize upd G8 L0 (.lst [.non, .int 3, .str "f", .ref x4, .ref x5, .ref x6, .ref nt]) = GL at s9 f9 ⊢
    have s69 := Same.tr s7 (Same.tr s8 s9)
    have g6 := s69 _ _ f6
    have g5 := s69 _ _ (s6 _ _ f5)
    have g4 := s69 _ _ (s6 _ _ (s5 _ _ f4))
    have gn := hnt.up s9
    have sHL : Same H GL := Same.tr s4 (Same.tr s5 (Same.tr s6 s69))
    obtain ⟨ndx, nfs, gn0⟩ : ∃ dx fs, GL nt = some (.ins CN dx fs) := by
      obtain ⟨dx, l1, l2, l3, l6, fs, h0, _⟩ := gn
      exact ⟨dx, fs, h0⟩
    have tn : TyX K GL (.ref nt) (.ref CN) := .base (.ins gn0 IN.cl IN.ha IN.hn IN.ht IN.hm)
    have things : ∀ (i : Nat) v, ([.non, .int 3, .str "f", .ref x4, .ref x5, .ref x6, .ref nt] : List V)[i]? = some v → (∃ k, Vk K GL v k) ∧ NoB K C GL v ∧ SelfQ K CN GL v := fun i v hv => by
      match i, hv with
      | 0, hv => cases hv; exact ⟨⟨_, vk_non⟩, .inl ⟨_, .base .non, TB.tys _ (by decide)⟩, self_scal rfl⟩
      | 1, hv => cases hv; exact ⟨⟨_, vk_int _⟩, .inl ⟨_, .base (.int _), TB.tys _ (by decide)⟩, self_scal rfl⟩
      | 2, hv => cases hv; exact ⟨⟨_, vk_str _ (by decide +kernel)⟩, .inl ⟨_, .base (.str _), TB.tys _ (by decide)⟩, self_scal rfl⟩
      | 3, hv => cases hv; exact ⟨⟨_, vk_list (SqL.of g4)⟩, .inl ⟨_, .base (.lst g4), TB.tys _ (by decide)⟩, self_data (d := .list []) (fun G s => .lst (SqL.of (s _ _ g4)) .nil) rfl rfl⟩
      | 4, hv =>
        cases hv
        exact ⟨⟨_, vk_dict g5⟩, .inl ⟨_, .base (.dK g5), TB.tys _ (by decide)⟩, fun G Q s hq => .inl (.inl (.inr ⟨1, by decide, .inr ⟨x5, x5, _, _, rfl, rfl, s _ _ g5, s _ _ g5, rfl, fun p hp => absurd hp List.not_mem_nil⟩, hq G (Same.refl _)⟩))⟩
      | 5, hv => cases hv; exact ⟨⟨_, vk_tuple (SqT.of g6)⟩, .inl ⟨_, .base (.tup g6), TB.tys _ (by decide)⟩, self_data (d := .tuple []) (fun G s => .tup (SqT.of (s _ _ g6)) .nil) rfl rfl⟩
      | 6, hv =>
        cases hv
        refine ⟨⟨_, vk_ins IN gn0⟩, .inl ⟨_, tn, TB.net⟩, fun G Q s hq => .inl (.inr ?_)⟩
        exact ⟨nt, ndx, nfs, rfl, s _ _ gn0, .inl ⟨nt, ndx, nfs, rfl, s _ _ gn0⟩, nt, rfl, gn.up s, .inl ⟨_, TyX.up s tn, TB.nn⟩, fun H' s' => ⟨true, rfl, hq H' s'⟩⟩
      | i + 7, hv => simp at hv
    refine ⟨L0, rfl, ⟨_, SqL.of f9⟩, for_it (walk_list (xs := [.non, .int 3, .str "f", .ref x4, .ref x5, .ref x6, .ref nt])) (fun i σ N => Same GL N ∧ ∃ o3 o4, σ = [some (.ref p), some (.ref l), some (.ref q), o3, o4, none, none]) ⟨Same.refl _, _, _, rfl⟩ (fun _ _ _ _ h => SqL.of (h.1 _ _ f9)) ?_ ?_⟩
    · rintro i v σ N N' hi ⟨sN, o3, o4, rfl⟩ ⟨rfl, hv⟩
      obtain ⟨⟨k, vk⟩, nb, sq⟩ := things i v hv
      have nbN := nb.mono sN
      have hBN := hB.up (Same.tr sHL sN)
      dsimp only [gName]
      refine ⟨_, rfl, _, rfl, (by show 3 ≤ sizeLine; decide), fun l1 e1 => ?_⟩
      dsimp only [tNil]
      have t1 : Same N' (upd N' l1 (.lst [.ref p, v, .bl true])) := Same.put e1
      have h1 : (upd N' l1 (.lst [.ref p, v, .bl true])) l1 = some (.lst [.ref p, v, .bl true]) := upd_same
      generalize upd N' l1 (.lst [.ref p, v, .bl true]) = N1 at t1 h1 ⊢
      refine td_carryB (BookAt.BI (hBN.up t1)) (SqL.of h1) (nbN.mono t1) fun b1 N2 t2 nb1 g1 => ?_
      have t12 := Same.tr t1 t2
      refine ⟨_, rfl, _, rfl, (by show 4 ≤ sizeLine; decide), fun l2 e2 => ?_⟩
      dsimp only [tNil]
      have t3 : Same N2 (upd N2 l2 (.lst [v, .non, .ref q, .int 0])) := Same.put e2
      have h2 : (upd N2 l2 (.lst [v, .non, .ref q, .int 0])) l2 = some (.lst [v, .non, .ref q, .int 0]) := upd_same
      generalize upd N2 l2 (.lst [v, .non, .ref q, .int 0]) = N3 at t3 h2 ⊢
      have t13 := Same.tr t12 t3
      refine td_sameB1 (SqL.of h2) (nbN.mono t13) fun b2 N4 t4 nb2 g2 => ?_
      refine ⟨(by show 2 ≤ sizeLine; decide), fun F eF => ?_⟩
      have t5 : Same N4 (upd N4 F (.lst [.ref b1, .ref b2])) := Same.put eF
      have h5 : (upd N4 F (.lst [.ref b1, .ref b2])) F = some (.lst [.ref b1, .ref b2]) := upd_same
      have t15 := Same.tr t13 (Same.tr t4 t5)
      have eFN : N' F = none := same_none (Same.tr t13 t4) eF
      have g1' := (Same.tr t3 (Same.tr t4 t5)) _ _ g1
      have g2' := t5 _ _ g2
      generalize upd N4 F (.lst [.ref b1, .ref b2]) = N5 at t5 h5 t15 g1' g2' ⊢
      dsimp only [gName]
      refine ⟨_, rfl, .inl ⟨rfl, _, SqL.of h5⟩, _, rfl, _, rfl, (by show 4 ≤ sizeLine; decide), fun l3 e3 => ?_⟩
      dsimp only [tNil]
      have t6 : Same N5 (upd N5 l3 (.lst [.ref p, .int 0, v, .non])) := Same.put e3
      have h6 : (upd N5 l3 (.lst [.ref p, .int 0, v, .non])) l3 = some (.lst [.ref p, .int 0, v, .non]) := upd_same
      generalize upd N5 l3 (.lst [.ref p, .int 0, v, .non]) = N6 at t6 h6 ⊢
      have t16 := Same.tr t15 t6
      refine td_sameB2 TC (hBN.up t16) hr1 (SqL.of h6) (nbN.mono t16) fun b3 N7 t7 nb3 g3 => ?_
      have t17 := Same.tr t16 t7
      have h7 := (Same.tr t6 t7) _ _ h5
      refine ⟨F, _, _, rfl, rfl, h7, (by show 2 < sizeLine; decide), ?_⟩
      have nF1 : b1 ≠ F := fun z => by rw [z, h5] at g1'; cases g1'
      have nF2 : b2 ≠ F := fun z => by rw [z, h5] at g2'; cases g2'
      have nF3 : b3 ≠ F := fun z => by rw [z, h7] at g3; cases g3
      have t8 : Same N' (upd N7 F (.lst ([.ref b1, .ref b2] ++ [.ref b3]))) := fun b o e => (upd_ne (ne_of_none e eFN)).trans (t17 b o e)
      have k1 : (upd N7 F (.lst ([.ref b1, .ref b2] ++ [.ref b3]))) b1 = some (.lst [.str "book", v]) := (upd_ne nF1).trans ((Same.tr t6 t7) _ _ g1')
      have k2 : (upd N7 F (.lst ([.ref b1, .ref b2] ++ [.ref b3]))) b2 = some (.lst [.str "book", v]) := (upd_ne nF2).trans ((Same.tr t6 t7) _ _ g2')
      have k3 : (upd N7 F (.lst ([.ref b1, .ref b2] ++ [.ref b3]))) b3 = some (.lst [.str "book", v]) := (upd_ne nF3).trans g3
      have kF : (upd N7 F (.lst ([.ref b1, .ref b2] ++ [.ref b3]))) F = some (.lst [.ref b1, .ref b2, .ref b3]) := upd_same
      generalize upd N7 F (.lst ([.ref b1, .ref b2] ++ [.ref b3])) = N8 at t8 k1 k2 k3 kF ⊢
      have all : ∀ (j : Nat) x, ([.ref b1, .ref b2, .ref b3] : List V)[j]? = some x → ∃ a, x = .ref a ∧ N8 a = some (.lst [.str "book", v]) := fun j x hx => by
        match j, hx with
        | 0, hx => cases hx; exact ⟨_, rfl, k1⟩
        | 1, hx => cases hx; exact ⟨_, rfl, k2⟩
        | 2, hx => cases hx; exact ⟨_, rfl, k3⟩
        | j + 3, hx => simp at hx
      refine ⟨_, rfl, F, rfl, ⟨_, SqL.of kF⟩, fun D hD => ?_⟩
      have sL := Same.tr sN t8
      refine lc_it (walk_list (xs := [.ref b1, .ref b2, .ref b3])) (fun j M => Same N8 M ∧ M D = some (.lst [])) ⟨Same.put hD, upd_same⟩ (fun _ _ _ h => SqL.of (h.1 _ _ kF)) ?_ ?_
      · rintro j x M0 M hj ⟨sM, mD⟩ ⟨rfl, hx⟩
        obtain ⟨a, rfl, ha⟩ := all j x hx
        refine ⟨rfl, _, rfl, _, rfl, a, _, v, rfl, .inl ⟨k, SqL.of (sM _ _ ha), vk.mono (Same.tr sL sM), sq.up (Same.tr sL sM), fun M1 s1 => ⟨_, rfl, iteF ⟨Same.tr sM s1, s1 _ _ mD⟩⟩⟩⟩
      · rintro M ⟨sM, mD⟩
        refine ⟨(by show 0 ≤ sizeLine; decide), fun E2 eE2 => ?_⟩
        have sE : Same M (upd M E2 (.lst [])) := Same.put eE2
        refine ⟨.list [], .list [], .lst (SqL.of (sE _ _ mD)) .nil, .lst (SqL.of upd_same) .nil, rfl, rfl, _, rfl, if_false_of rfl ?_⟩
        exact ⟨Same.tr sL (Same.tr sM sE), _, _, rfl⟩
    · rintro σ N ⟨sN, o3, o4, rfl⟩
      obtain ⟨as, hl, hal, _⟩ := hL.up (Same.tr sHL sN)
      have sHN := Same.tr sHL sN
      refine ⟨_, rfl, _, _, rfl, .inl ⟨_, SqL.of hl, rfl⟩, ?_⟩
      rw [List.length_map, hal]
      refine ⟨_, _, rfl, rfl, (by show 1 ≤ sizeLine; decide), fun z0 ez0 => ?_⟩
      have u1 : Same N (upd N z0 (.lst [.int 0])) := Same.put ez0
      have w1 : (upd N z0 (.lst [.int 0])) z0 = some (.lst [.int 0]) := upd_same
      generalize upd N z0 (.lst [.int 0]) = R1 at u1 w1 ⊢
      refine ⟨(by show 6 ≤ sizeLine; decide), fun L1 eL1 => ?_⟩
      have u2 : Same R1 (upd R1 L1 (.lst [.int (rs.length : Nat), .int (0 - 1), .bl true, .non, .str "0", .ref z0])) := Same.put eL1
      have w2 : (upd R1 L1 (.lst [.int (rs.length : Nat), .int (0 - 1), .bl true, .non, .str "0", .ref z0])) L1 = some (.lst [.int (rs.length : Nat), .int (0 - 1), .bl true, .non, .str "0", .ref z0]) := upd_same
      generalize upd R1 L1 (.lst [.int (rs.length : Nat), .int (0 - 1), .bl true, .non, .str "0", .ref z0]) = R2 at u2 w2 ⊢
      have w1' := u2 _ _ w1
      have sHR : Same H R2 := Same.tr sHN (Same.tr u1 u2)
      have things2 : ∀ (i : Nat) v, ([.int (rs.length : Nat), .int (0 - 1), .bl true, .non, .str "0", .ref z0] : List V)[i]? = some v → (∃ k, Vk K R2 v k) ∧ SelfQ K CN R2 v ∧ numV rs.length v = false ∧ (v = .int (rs.length : Nat) ∨ numV qs.length v = false) := fun i v hv => by
        match i, hv with
        | 0, hv => cases hv; exact ⟨⟨_, vk_int _⟩, self_scal rfl, decide_eq_false (by omega), .inl rfl⟩
        | 1, hv => cases hv; exact ⟨⟨_, vk_int _⟩, self_scal rfl, neg_num _, .inr (neg_num _)⟩
        | 2, hv => cases hv; exact ⟨⟨_, vk_bl _⟩, self_scal rfl, rfl, .inr rfl⟩
        | 3, hv => cases hv; exact ⟨⟨_, vk_non⟩, self_scal rfl, rfl, .inr rfl⟩
        | 4, hv => cases hv; exact ⟨⟨_, vk_str _ (by decide +kernel)⟩, self_scal rfl, rfl, .inr rfl⟩
        | 5, hv => cases hv; exact ⟨⟨_, vk_list (SqL.of w1')⟩, self_data (d := .list [.int 0]) (fun G s => .lst (SqL.of (s _ _ w1')) (.cons (.int 0) .nil)) rfl rfl, rfl, .inr rfl⟩
        | i + 6, hv => simp at hv
      refine ⟨L1, rfl, ⟨_, SqL.of w2⟩, for_it (walk_list (xs := [.int (rs.length : Nat), .int (0 - 1), .bl true, .non, .str "0", .ref z0])) (fun i σ N => Same R2 N ∧ ∃ o3 o4, σ = [some (.ref p), some (.ref l), some (.ref q), o3, o4, none, none]) ⟨Same.refl _, _, _, rfl⟩ (fun _ _ _ _ h => SqL.of (h.1 _ _ w2)) ?_ ?_⟩
      · rintro i v σ N N' hi ⟨sN, o3, o4, rfl⟩ ⟨rfl, hv⟩
        obtain ⟨⟨k, vk⟩, sq, hn1, hn2⟩ := things2 i v hv
        have hBN := hB.up (Same.tr sHR sN)
        have hCN := hC.up (Same.tr sHR sN)
        have hLN := hL.up (Same.tr sHR sN)
        have vkN := vk.mono sN
        have sqN := sq.up sN
        dsimp only [gName]
        refine ⟨_, rfl, _, rfl, _, rfl, (by show 3 ≤ sizeLine; decide), fun l1 e1 => ?_⟩
        dsimp only [tNil]
        have t1 : Same N' (upd N' l1 (.lst [.ref p, .ref p, v])) := Same.put e1
        have h1 : (upd N' l1 (.lst [.ref p, .ref p, v])) l1 = some (.lst [.ref p, .ref p, v]) := upd_same
        generalize upd N' l1 (.lst [.ref p, .ref p, v]) = N1 at t1 h1 ⊢
        refine td_carryT TC (hBN.up t1) (hBN.up t1) (.inr ⟨rfl, rfl, rfl⟩) hr2 (by omega) (SqL.of h1) (vkN.mono t1) hn1 fun b1 N2 t2 nb1 g1 => ?_
        have t12 := Same.tr t1 t2
        refine ⟨_, rfl, _, rfl, (by show 3 ≤ sizeLine; decide), fun l2 e2 => ?_⟩
        dsimp only [tNil]
        have t3 : Same N2 (upd N2 l2 (.lst [.ref p, v, .non])) := Same.put e2
        have h2 : (upd N2 l2 (.lst [.ref p, v, .non])) l2 = some (.lst [.ref p, v, .non]) := upd_same
        generalize upd N2 l2 (.lst [.ref p, v, .non]) = N3 at t3 h2 ⊢
        have t13 := Same.tr t12 t3
        refine td_differT1 (hBN.up t13) (SqL.of h2) (vkN.mono t13) vk_non hn1 fun b2 N4 t4 nb2 g2 => ?_
        refine ⟨(by show 2 ≤ sizeLine; decide), fun F eF => ?_⟩
        have t5 : Same N4 (upd N4 F (.lst [.ref b1, .ref b2])) := Same.put eF
        have h5 : (upd N4 F (.lst [.ref b1, .ref b2])) F = some (.lst [.ref b1, .ref b2]) := upd_same
        have t15 := Same.tr t13 (Same.tr t4 t5)
        have g1' := (Same.tr t3 (Same.tr t4 t5)) _ _ g1
        have g2' := t5 _ _ g2
        generalize upd N4 F (.lst [.ref b1, .ref b2]) = N5 at t5 h5 t15 g1' g2' ⊢
        dsimp only [gName]
        refine ⟨_, rfl, _, rfl, _, rfl, (by show 3 ≤ sizeLine; decide), fun l3 e3 => ?_⟩
        dsimp only [tNil]
        have t6 : Same N5 (upd N5 l3 (.lst [.ref p, .int 0, v])) := Same.put e3
        have h6 : (upd N5 l3 (.lst [.ref p, .int 0, v])) l3 = some (.lst [.ref p, .int 0, v]) := upd_same
        generalize upd N5 l3 (.lst [.ref p, .int 0, v]) = N6 at t6 h6 ⊢
        have t16 := Same.tr t15 t6
        refine td_differT2 (hBN.up t16) hr1 (SqL.of h6) (vkN.mono t16) hn1 fun b3 N7 t7 nb3 g3 => ?_
        have t17 := Same.tr t16 t7
        refine ⟨_, rfl, _, rfl, (by show 4 ≤ sizeLine; decide), fun l4 e4 => ?_⟩
        dsimp only [tNil]
        have t8 : Same N7 (upd N7 l4 (.lst [.ref p, v, .non, .non])) := Same.put e4
        have h8 : (upd N7 l4 (.lst [.ref p, v, .non, .non])) l4 = some (.lst [.ref p, v, .non, .non]) := upd_same
        generalize upd N7 l4 (.lst [.ref p, v, .non, .non]) = N8 at t8 h8 ⊢
        have t18 := Same.tr t17 t8
        refine td_sameT1 TC (hBN.up t18) (SqL.of h8) (vkN.mono t18) hn1 fun b4 N9 t9 nb4 g4' => ?_
        have t19 := Same.tr t18 t9
        refine ⟨(by show 2 ≤ sizeLine; decide), fun F2 eF2 => ?_⟩
        have t10 : Same N9 (upd N9 F2 (.lst [.ref b3, .ref b4])) := Same.put eF2
        have h10 : (upd N9 F2 (.lst [.ref b3, .ref b4])) F2 = some (.lst [.ref b3, .ref b4]) := upd_same
        generalize upd N9 F2 (.lst [.ref b3, .ref b4]) = N10 at t10 h10 ⊢
        have t5A : Same N5 N10 := Same.tr t6 (Same.tr t7 (Same.tr t8 (Same.tr t9 t10)))
        refine ⟨F, F2, _, _, rfl, rfl, t5A _ _ h5, h10, (by show 4 ≤ sizeLine; decide), fun F3 eF3 => ?_⟩
        have t11 : Same N10 (upd N10 F3 (.lst ([.ref b1, .ref b2] ++ [.ref b3, .ref b4]))) := Same.put eF3
        have kF : (upd N10 F3 (.lst ([.ref b1, .ref b2] ++ [.ref b3, .ref b4]))) F3 = some (.lst [.ref b1, .ref b2, .ref b3, .ref b4]) := upd_same
        generalize upd N10 F3 (.lst ([.ref b1, .ref b2] ++ [.ref b3, .ref b4])) = N11 at t11 kF ⊢
        have k1 := t11 _ _ (t5A _ _ g1')
        have k2 := t11 _ _ (t5A _ _ g2')
        have k3 := (Same.tr t8 (Same.tr t9 (Same.tr t10 t11))) _ _ g3
        have k4 := (Same.tr t10 t11) _ _ g4'
        have t1B : Same N' N11 := Same.tr t19 (Same.tr t10 t11)
        dsimp only [gName]
        refine ⟨fun σ' M => σ' = [some (.ref p), some (.ref l), some (.ref q), some v, some (.ref F3), none, none] ∧ Same N11 M, ?_, ?_⟩
        · refine ⟨_, rfl, _, rfl, _, rfl, (by show 4 ≤ sizeLine; decide), fun l5 e5 => ?_⟩
          dsimp only [tNil]
          have t20 : Same N11 (upd N11 l5 (.lst [.ref p, .int 0, .ref q, v])) := Same.put e5
          have h20 : (upd N11 l5 (.lst [.ref p, .int 0, .ref q, v])) l5 = some (.lst [.ref p, .int 0, .ref q, v]) := upd_same
          generalize upd N11 l5 (.lst [.ref p, .int 0, .ref q, v]) = N12 at t20 h20 ⊢
          have t1C := Same.tr t1B t20
          by_cases hq : numV qs.length v = false
          · refine td_sameT2 TC (hBN.up t1C) (hCN.up t1C) hr1 hr2 (SqL.of h20) (vkN.mono t1C) hq fun b5 N13 t21 nb5 g5' => ?_
            refine ⟨_, rfl, b5, _, v, rfl, .inl ⟨k, SqL.of g5', vkN.mono (Same.tr t1C t21), sqN.up (Same.tr t1C t21), fun M s => ⟨_, rfl, iteF (iteF ⟨rfl, Same.tr t20 (Same.tr t21 s)⟩)⟩⟩⟩
          · have ev : v = .int (rs.length : Nat) := hn2.resolve_right hq
            subst ev
            have hlt : rs.length < qs.length := by
              have hq' : ¬ decide (0 ≤ ((rs.length : Nat) : Int) ∧ ((rs.length : Nat) : Int) < (qs.length : Int)) = false := hq
              have := of_decide_eq_true (by simpa using hq' : decide (0 ≤ ((rs.length : Nat) : Int) ∧ ((rs.length : Nat) : Int) < (qs.length : Int)) = true)
              omega
            refine td_sameOk TC (hBN.up t1C) (hCN.up t1C) hr1 hr2 (SqL.of h20) hlt fun b5 wd y N13 hwd t21 nb5 g5' => ?_
            obtain ⟨cs, hcl, hcal, _⟩ := hLN.up (Same.tr t1C t21)
            refine ⟨_, rfl, b5, _, _, rfl, .inr ⟨wd, y, SqL.of g5', hwd, ⟨_, rfl, iteT ?_⟩⟩⟩
            refine ⟨_, rfl, _, rfl, _, _, rfl, .inl ⟨_, SqL.of hcl, rfl⟩, ?_⟩
            rw [List.length_map, hcal]
            exact ⟨rfl, _, rfl, if_false_of (by rw [decide_eq_true rfl]; rfl) ⟨rfl, Same.tr t20 t21⟩⟩
        · rintro σ' M0 ⟨rfl, sM0⟩
          have all : ∀ (j : Nat) x, ([.ref b1, .ref b2, .ref b3, .ref b4] : List V)[j]? = some x → ∃ a, x = .ref a ∧ M0 a = some (.lst [.str "term", v]) := fun j x hx => by
            match j, hx with
            | 0, hx => cases hx; exact ⟨_, rfl, sM0 _ _ k1⟩
            | 1, hx => cases hx; exact ⟨_, rfl, sM0 _ _ k2⟩
            | 2, hx => cases hx; exact ⟨_, rfl, sM0 _ _ k3⟩
            | 3, hx => cases hx; exact ⟨_, rfl, sM0 _ _ k4⟩
            | j + 4, hx => simp at hx
          refine ⟨_, rfl, F3, rfl, ⟨_, SqL.of (sM0 _ _ kF)⟩, fun D hD => ?_⟩
          have sL := Same.tr (Same.tr sN t1B) sM0
          refine lc_it (walk_list (xs := [.ref b1, .ref b2, .ref b3, .ref b4])) (fun j M => Same M0 M ∧ M D = some (.lst [])) ⟨Same.put hD, upd_same⟩ (fun _ _ _ h => SqL.of (h.1 _ _ (sM0 _ _ kF))) ?_ ?_
          · rintro j x M1 M hj ⟨sM, mD⟩ ⟨rfl, hx⟩
            obtain ⟨a, rfl, ha⟩ := all j x hx
            refine ⟨rfl, _, rfl, _, rfl, a, _, v, rfl, .inl ⟨k, SqL.of (sM _ _ ha), vk.mono (Same.tr sL sM), sq.up (Same.tr sL sM), fun M1 s1 => ⟨_, rfl, iteF ⟨Same.tr sM s1, s1 _ _ mD⟩⟩⟩⟩
          · rintro M ⟨sM, mD⟩
            refine ⟨(by show 0 ≤ sizeLine; decide), fun E2 eE2 => ?_⟩
            have sE : Same M (upd M E2 (.lst [])) := Same.put eE2
            refine ⟨.list [], .list [], .lst (SqL.of (sE _ _ mD)) .nil, .lst (SqL.of upd_same) .nil, rfl, rfl, _, rfl, if_false_of rfl ?_⟩
            exact ⟨Same.tr sL (Same.tr sM sE), _, _, rfl⟩
      · rintro σ N ⟨sN, o3, o4, rfl⟩
        have sHM : Same H N := Same.tr sHR sN
        intro bk dk hbk hdk hne
        refine init_rows (as := []) (rr := []) (.inr (em eT)) rfl (fun i k a h => by simp at h) okRows_nil List.nodup_nil (by decide) hbk hdk hne.symm fun M1 fb v1 hfb hBk => ⟨rfl, ?_⟩
        have hB1 := hB.up (Same.tr sHM v1)
        have sep1 : bk ∉ fp ∧ ∀ b ∈ fb, b ∉ fp := by
          refine ⟨fun h => ?_, fun b hb h => ?_⟩
          · exact BookAt.dom (hB.up sHM) _ h hbk
          · exact BookAt.dom (hB.up sHM) _ h (hfb b hb)
        have sep2 : p ∉ fb ∧ ∀ b ∈ fp, b ∉ fb := by
          refine ⟨fun h => ?_, fun b hb h => ?_⟩
          · obtain ⟨dx, gs, g0, _⟩ := (hB.up sHM).there
            rw [hfb p h] at g0
            cases g0
          · exact BookAt.dom (hB.up sHM) _ hb (hfb b h)
        dsimp only [gName]
        refine ⟨_, rfl, _, rfl, (by show 3 ≤ sizeLine; decide), fun l1 e1 => ?_⟩
        dsimp only [tNil]
        have t1 : Same M1 (upd M1 l1 (.lst [.ref p, .ref bk, .int 0])) := Same.put e1
        have h1 : (upd M1 l1 (.lst [.ref p, .ref bk, .int 0])) l1 = some (.lst [.ref p, .ref bk, .int 0]) := upd_same
        generalize upd M1 l1 (.lst [.ref p, .ref bk, .int 0]) = N1 at t1 h1 ⊢
        refine td_carryT TC (hBk.up t1) (hB1.up t1) (.inl sep1) (by decide) (by show rs.length + 0 < 5000; omega) (SqL.of h1) (vk_int 0) rfl fun b1 N2 t2 nb1 g1 => ?_
        have t12 := Same.tr t1 t2
        refine ⟨_, rfl, _, rfl, (by show 4 ≤ sizeLine; decide), fun l2 e2 => ?_⟩
        dsimp only [tNil]
        have t3 : Same N2 (upd N2 l2 (.lst [.ref bk, .int 0, .ref p, .int 0])) := Same.put e2
        have h2 : (upd N2 l2 (.lst [.ref bk, .int 0, .ref p, .int 0])) l2 = some (.lst [.ref bk, .int 0, .ref p, .int 0]) := upd_same
        generalize upd N2 l2 (.lst [.ref bk, .int 0, .ref p, .int 0]) = N3 at t3 h2 ⊢
        have t13 := Same.tr t12 t3
        refine td_sameT1 TC (hBk.up t13) (SqL.of h2) (vk_int 0) rfl fun b2 N4 t4 nb2 g2 => ?_
        refine ⟨(by show 2 ≤ sizeLine; decide), fun F eF => ?_⟩
        have t5 : Same N4 (upd N4 F (.lst [.ref b1, .ref b2])) := Same.put eF
        have h5 : (upd N4 F (.lst [.ref b1, .ref b2])) F = some (.lst [.ref b1, .ref b2]) := upd_same
        have t15 := Same.tr t13 (Same.tr t4 t5)
        have g1' := (Same.tr t3 (Same.tr t4 t5)) _ _ g1
        have g2' := t5 _ _ g2
        generalize upd N4 F (.lst [.ref b1, .ref b2]) = N5 at t5 h5 t15 g1' g2' ⊢
        dsimp only [gName]
        refine ⟨_, rfl, _, rfl, _, rfl, (by show 4 ≤ sizeLine; decide), fun l3 e3 => ?_⟩
        dsimp only [tNil]
        have t6 : Same N5 (upd N5 l3 (.lst [.ref p, .int 0, .ref bk, .int 0])) := Same.put e3
        have h6 : (upd N5 l3 (.lst [.ref p, .int 0, .ref bk, .int 0])) l3 = some (.lst [.ref p, .int 0, .ref bk, .int 0]) := upd_same
        generalize upd N5 l3 (.lst [.ref p, .int 0, .ref bk, .int 0]) = N6 at t6 h6 ⊢
        have t16 := Same.tr t15 t6
        refine td_sameT2 TC (hB1.up t16) (hBk.up t16) hr1 hr2 (SqL.of h6) (vk_int 0) rfl fun b3 N7 t7 nb3 g3 => ?_
        have t17 := Same.tr t16 t7
        obtain ⟨cs, hcl, hcal, _⟩ := hL.up (Same.tr sHM (Same.tr v1 t17))
        refine ⟨_, rfl, _, rfl, _, rfl, _, _, rfl, .inl ⟨_, SqL.of hcl, rfl⟩, ?_⟩
        rw [List.length_map, hcal]
        refine ⟨(by show 3 ≤ sizeLine; decide), fun l4 e4 => ?_⟩
        dsimp only [tNil]
        have t8 : Same N7 (upd N7 l4 (.lst [.ref bk, .ref p, .int (rs.length : Nat)])) := Same.put e4
        have h8 : (upd N7 l4 (.lst [.ref bk, .ref p, .int (rs.length : Nat)])) l4 = some (.lst [.ref bk, .ref p, .int (rs.length : Nat)]) := upd_same
        generalize upd N7 l4 (.lst [.ref bk, .ref p, .int (rs.length : Nat)]) = N8 at t8 h8 ⊢
        have t18 := Same.tr t17 t8
        refine td_carryT TC (hB1.up t18) (hBk.up t18) (.inl sep2) hr2 (by show 0 + rs.length < 5000; omega) (SqL.of h8) (vk_int _) (decide_eq_false (by omega)) fun b4 N9 t9 nb4 g4' => ?_
        have t19 := Same.tr t18 t9
        refine ⟨(by show 2 ≤ sizeLine; decide), fun F2 eF2 => ?_⟩
        have t10 : Same N9 (upd N9 F2 (.lst [.ref b3, .ref b4])) := Same.put eF2
        have h10 : (upd N9 F2 (.lst [.ref b3, .ref b4])) F2 = some (.lst [.ref b3, .ref b4]) := upd_same
        generalize upd N9 F2 (.lst [.ref b3, .ref b4]) = N10 at t10 h10 ⊢
        have t5A : Same N5 N10 := Same.tr t6 (Same.tr t7 (Same.tr t8 (Same.tr t9 t10)))
        refine ⟨F, F2, _, _, rfl, rfl, t5A _ _ h5, h10, (by show 4 ≤ sizeLine; decide), fun F3 eF3 => ?_⟩
        have t11 : Same N10 (upd N10 F3 (.lst ([.ref b1, .ref b2] ++ [.ref b3, .ref b4]))) := Same.put eF3
        have kF : (upd N10 F3 (.lst ([.ref b1, .ref b2] ++ [.ref b3, .ref b4]))) F3 = some (.lst [.ref b1, .ref b2, .ref b3, .ref b4]) := upd_same
        generalize upd N10 F3 (.lst ([.ref b1, .ref b2] ++ [.ref b3, .ref b4])) = N11 at t11 kF ⊢
        have k1 := t11 _ _ (t5A _ _ g1')
        have k2 := t11 _ _ (t5A _ _ g2')
        have k3 := (Same.tr t8 (Same.tr t9 (Same.tr t10 t11))) _ _ g3
        have k4 := (Same.tr t10 t11) _ _ g4'
        have t1B : Same M1 N11 := Same.tr t19 (Same.tr t10 t11)
        dsimp only [gName]
        refine ⟨_, rfl, (by show 2 ≤ sizeLine; decide), fun a1 ea1 => ?_⟩
        have r1 : Same N11 (upd N11 a1 (.lst [.str "term", .int 0])) := Same.put ea1
        have j1 : (upd N11 a1 (.lst [.str "term", .int 0])) a1 = some (.lst [.str "term", .int 0]) := upd_same
        generalize upd N11 a1 (.lst [.str "term", .int 0]) = P1 at r1 j1 ⊢
        refine ⟨(by show 1 ≤ sizeLine; decide), fun a2 ea2 => ?_⟩
        have r2 : Same P1 (upd P1 a2 (.lst [.ref a1])) := Same.put ea2
        have j2 : (upd P1 a2 (.lst [.ref a1])) a2 = some (.lst [.ref a1]) := upd_same
        generalize upd P1 a2 (.lst [.ref a1]) = P2 at r2 j2 ⊢
        refine ⟨a2, 3, _, rfl, rfl, j2, by decide, by decide, by show 1 * 3 ≤ sizeLine; decide, fun a3 ea3 => ?_⟩
        have r3 : Same P2 (upd P2 a3 (.lst (List.replicate (3 : Int).toNat [V.ref a1]).flatten)) := Same.put ea3
        have j3 : (upd P2 a3 (.lst (List.replicate (3 : Int).toNat [V.ref a1]).flatten)) a3 = some (.lst [.ref a1, .ref a1, .ref a1]) := upd_same
        generalize upd P2 a3 (.lst (List.replicate (3 : Int).toNat [V.ref a1]).flatten) = P3 at r3 j3 ⊢
        obtain ⟨cs2, hcl2, hcal2, _⟩ := hL.up (Same.tr sHM (Same.tr v1 (Same.tr t1B (Same.tr r1 (Same.tr r2 r3)))))
        refine ⟨_, rfl, _, _, rfl, .inl ⟨_, SqL.of hcl2, rfl⟩, ?_⟩
        rw [List.length_map, hcal2]
        refine ⟨(by show 2 ≤ sizeLine; decide), fun a4 ea4 => ?_⟩
        have r4 : Same P3 (upd P3 a4 (.lst [.str "term", .int (rs.length : Nat)])) := Same.put ea4
        have j4 : (upd P3 a4 (.lst [.str "term", .int (rs.length : Nat)])) a4 = some (.lst [.str "term", .int (rs.length : Nat)]) := upd_same
        generalize upd P3 a4 (.lst [.str "term", .int (rs.length : Nat)]) = P4 at r4 j4 ⊢
        refine ⟨(by show 1 ≤ sizeLine; decide), fun a5 ea5 => ?_⟩
        have r5 : Same P4 (upd P4 a5 (.lst [.ref a4])) := Same.put ea5
        have j5 : (upd P4 a5 (.lst [.ref a4])) a5 = some (.lst [.ref a4]) := upd_same
        generalize upd P4 a5 (.lst [.ref a4]) = P5 at r5 j5 ⊢
        refine ⟨a3, a5, _, _, rfl, rfl, r5 _ _ (r4 _ _ j3), j5, (by show 4 ≤ sizeLine; decide), fun a6 ea6 => ?_⟩
        have r6 : Same P5 (upd P5 a6 (.lst ([.ref a1, .ref a1, .ref a1] ++ [.ref a4]))) := Same.put ea6
        have j6 : (upd P5 a6 (.lst ([.ref a1, .ref a1, .ref a1] ++ [.ref a4]))) a6 = some (.lst [.ref a1, .ref a1, .ref a1, .ref a4]) := upd_same
        generalize upd P5 a6 (.lst ([.ref a1, .ref a1, .ref a1] ++ [.ref a4])) = P6 at r6 j6 ⊢
        have r16 : Same N11 P6 := Same.tr r1 (Same.tr r2 (Same.tr r3 (Same.tr r4 (Same.tr r5 r6))))
        have i1 := (Same.tr r2 (Same.tr r3 (Same.tr r4 (Same.tr r5 r6)))) _ _ j1
        have i4 := (Same.tr r5 r6) _ _ j4
        have two : ∀ {a : Addr} {z : Int}, P6 a = some (.lst [.str "term", .int z]) → Dp K P6 (.ref a) (.list [.str "term", .int z]) := fun h => .lst (SqL.of h) (.cons (.str _) (.cons (.int _) .nil))
        refine ⟨.list [.list [.str "term", .int 0], .list [.str "term", .int 0], .list [.str "term", .int 0], .list [.str "term", .int (rs.length : Nat)]], .list [.list [.str "term", .int 0], .list [.str "term", .int 0], .list [.str "term", .int 0], .list [.str "term", .int (rs.length : Nat)]], .lst (SqL.of (r16 _ _ kF)) (.cons (two (r16 _ _ k1)) (.cons (two (r16 _ _ k2)) (.cons (two (r16 _ _ k3)) (.cons (two (r16 _ _ k4)) .nil)))), .lst (SqL.of j6) (.cons (two i1) (.cons (two i1) (.cons (two i1) (.cons (two i4) .nil)))), shaped4 _, shaped4 _, _, rfl, ?_⟩
        rw [eqv_self4]
        refine iteF ?_
        have sK : Same M1 P6 := Same.tr t1B r16
        obtain ⟨dxk, gsk, gk0, _⟩ := (hBk.up sK).there
        refine ⟨_, rfl, bk, dxk, gsk, rfl, gk0, bk, fb, [], rfl, hBk.up sK, 0, rfl, (by show 0 ≤ sizeLine; decide), _, _, rfl, rfl, _, rfl, iteF ?_⟩
        have hBE := hB1.up sK
        obtain ⟨_, hR, _⟩ := BookAt.ok hBE
        obtain ⟨dx, gs, g0, a6'⟩ := hBE.there
        refine ⟨_, rfl, p, dx, gs, rfl, g0, a6' _ (by decide), p, fp, rs, rfl, hBE, fun m1 Q1 bs f1 eQ1 hbl hbr => ?_⟩
        subst eQ1
        have s1 : Same P6 (upd P6 m1 (.lst (bs.map V.ref))) := Same.put f1
        have gm : (upd P6 m1 (.lst (bs.map V.ref))) m1 = some (.lst (bs.map V.ref)) := upd_same
        generalize upd P6 m1 (.lst (bs.map V.ref)) = Q1 at s1 gm ⊢
        have sF : Same H Q1 := Same.tr sHM (Same.tr v1 (Same.tr sK s1))
        exact ⟨_, rfl, rows_eq_to hR (hL.up sF) gm hbl (fun i k a x y => (hbr i k a x y).mono fun _ _ => upT s1) (fin Q1 sF)⟩

end
end T56
set_option Elab.async false
set_option linter.all false
set_option maxRecDepth 100000
set_option maxHeartbeats 4000000
namespace T56
open PySem PySem.Spec PyProof.Rows L2 Tp
section
variable {P : Program} {w : World} {K : PySem.W.Frag} {mg : Str → Option Value} {base : Heap} {f : Addr} {fd : FuncData}

theorem carF_ext {rs : List RowK} : ∀ (ps : List Int) (cur : List RowK) (m : List (Int × Int)), ∃ e, (carF rs ps cur m).1 = cur ++ e
  | [], cur, m => ⟨[], (List.append_nil _).symm⟩
  | part :: ps, cur, m => by
    cases hk : rs[part.toNat]? with
    | none =>
      refine ⟨[], ?_⟩
      show (match rs[part.toNat]? with | some k => _ | none => _ : List RowK × List (Int × Int)).1 = _
      rw [hk, List.append_nil]
    | some k =>
      obtain ⟨e, he⟩ := carF_ext (rs := rs) ps (addR cur (movR (lookM m) k)) (m ++ [(part, ((posR cur (movR (lookM m) k) : Nat) : Int))])
      obtain ⟨e2, he2⟩ := addR_ext cur (movR (lookM m) k)
      refine ⟨e2 ++ e, ?_⟩
      show (match rs[part.toNat]? with | some k => _ | none => _ : List RowK × List (Int × Int)).1 = _
      rw [hk]
      dsimp only
      rw [he, he2, List.append_assoc]
/-- carried once more, nothing is added and all is where it was -/
theorem carF_again {rs : List RowK} : ∀ (ps : List Int) (cur : List RowK) (m : List (Int × Int)), (carF rs ps cur m).1.Nodup → carF rs ps (carF rs ps cur m).1 m = carF rs ps cur m
  | [], cur, m, _ => rfl
  | part :: ps, cur, m, hn => by
    cases hk : rs[part.toNat]? with
    | none =>
      have e : ∀ c, carF rs (part :: ps) c m = (c, m) := fun c => by
        show (match rs[part.toNat]? with | some k => _ | none => _ : List RowK × List (Int × Int)) = _
        rw [hk]
      rw [e, e]
    | some k =>
      have e : ∀ c, carF rs (part :: ps) c m = carF rs ps (addR c (movR (lookM m) k)) (m ++ [(part, ((posR c (movR (lookM m) k) : Nat) : Int))]) := fun c => by
        show (match rs[part.toNat]? with | some k => _ | none => _ : List RowK × List (Int × Int)) = _
        rw [hk]
      have e1 := e cur
      rw [e1] at hn ⊢
      obtain ⟨x, hx⟩ := carF_ext (rs := rs) ps (addR cur (movR (lookM m) k)) (m ++ [(part, ((posR cur (movR (lookM m) k) : Nat) : Int))])
      have hat : (carF rs ps (addR cur (movR (lookM m) k)) (m ++ [(part, ((posR cur (movR (lookM m) k) : Nat) : Int))])).1[posR cur (movR (lookM m) k)]? = some (movR (lookM m) k) := by
        rw [hx, List.getElem?_append_left (posR_lt _ _)]
        exact addR_at _ _
      obtain ⟨q1, q2⟩ := posR_at hn hat
      rw [e, q1, q2]
      exact carF_again ps _ _ hn
/-- two books, their lists of rows and the box, all made since G0 -/
structure Tw (P : Program) (w : World) (K : PySem.W.Frag) (G0 H : Hp) (C p0 p q l lo : Addr) (fp fq : List Addr) (n : Nat) (rb rr qb qr : List RowK) : Prop where
  sm : Same G0 H
  box : BoxAt H p0 n
  bp : BookAt P w K H C p fp rb
  bq : BookAt P w K H C q fq qb
  rl : RowsM K H l rr
  rq : RowsM K H lo qr
  n0 : G0 p0 = none
  nf : ∀ b ∈ fp, G0 b = none
  nq : ∀ b ∈ fq, G0 b = none
  e1 : p0 ≠ p
  e2 : p0 ≠ q
  e3 : l ≠ p0
  e4 : lo ≠ p0
  f1 : p0 ∉ fp
  f2 : p0 ∉ fq
  g1 : l ∉ fp
  g2 : lo ∉ fp
  g3 : l ∉ fq
  g4 : lo ∉ fq
  g5 : q ∉ fp
  g6 : p ∉ fq
  g7 : ∀ b ∈ fp, b ∉ fq
section
variable {G0 H H' : Hp} {C p0 p q l lo D : Addr} {fp fq : List Addr} {n m : Nat} {rb rr qb qr rs qs : List RowK}
theorem Tw.two (h : Tw P w K G0 H C p0 p q l lo fp fq n rs rs qs qs) : Two P w K H C p0 p q l lo fp fq n rs qs := ⟨h.box, h.bp, h.bq, h.rl, h.rq, h.e1, h.e2, h.e3, h.e4, h.f1, h.f2⟩
theorem Tw.same (h : Tw P w K G0 H C p0 p q l lo fp fq n rb rr qb qr) (s : Same H H') : Tw P w K G0 H' C p0 p q l lo fp fq n rb rr qb qr :=
  { h with sm := Same.tr h.sm s, box := h.box.keep s, bp := h.bp.up s, bq := h.bq.up s, rl := h.rl.up s, rq := h.rq.up s }
theorem Tw.keep (h : Tw P w K G0 H C p0 p q l lo fp fq n rb rr qb qr) (k : Keep p0 H H') (hb : BoxAt H' p0 m) : Tw P w K G0 H' C p0 p q l lo fp fq m rb rr qb qr :=
  { h with sm := fun b o e => k b o (ne_of_none e h.n0) (h.sm b o e), box := hb, bp := BookAt.keep h.bp h.box k h.e1 h.f1, bq := BookAt.keep h.bq h.box k h.e2 h.f2, rl := h.rl.keep h.box k h.e3, rq := h.rq.keep h.box k h.e4 }
theorem box_fr {S : List Addr} (h : BoxAt H p0 n) (f : Tp.Frame S H H') (hp : p0 ∉ S) : BoxAt H' p0 n := by
  obtain ⟨a, b, c, e, r⟩ := h
  exact ⟨a, b, c, f _ _ hp e, r⟩
theorem Tw.book (h : Tw P w K G0 H C p0 p q l lo fp fq n rb rr qb qr) (f : Tp.Frame fp H H') (B : BookAt P w K H' C p fp rs) : Tw P w K G0 H' C p0 p q l lo fp fq n rs rr qb qr :=
  { h with sm := fun b o e => f b o (fun z => by rw [h.nf b z] at e; cases e) (h.sm b o e), box := box_fr h.box f h.f1, bp := B, bq := h.bq.fr f h.bp.notTup h.g5 (fun b hb z => h.g7 b z hb), rl := h.rl.fr f h.bp.notTup h.g1, rq := h.rq.fr f h.bp.notTup h.g2 }
theorem Tw.other (h : Tw P w K G0 H C p0 p q l lo fp fq n rb rr qb qr) (f : Tp.Frame fq H H') (B : BookAt P w K H' C q fq qs) : Tw P w K G0 H' C p0 p q l lo fp fq n rb rr qs qr :=
  { h with sm := fun b o e => f b o (fun z => by rw [h.nq b z] at e; cases e) (h.sm b o e), box := box_fr h.box f h.f2, bq := B, bp := h.bp.fr f h.bq.notTup h.g6 (fun b hb z => h.g7 b hb z), rl := h.rl.fr f h.bq.notTup h.g3, rq := h.rq.fr f h.bq.notTup h.g4 }
theorem Tw.list (h : Tw P w K G0 H C p0 p q l lo fp fq n rb rr qb qr) (hM : RowsM K H D rs) (d1 : D ≠ p0) (d2 : D ∉ fp) (d3 : D ∉ fq) : Tw P w K G0 H C p0 p q D lo fp fq n rb rs qb qr :=
  { h with rl := hM, e3 := d1, g1 := d2, g3 := d3 }
theorem Tw.list2 (h : Tw P w K G0 H C p0 p q l lo fp fq n rb rr qb qr) (hM : RowsM K H D qs) (d1 : D ≠ p0) (d2 : D ∉ fp) (d3 : D ∉ fq) : Tw P w K G0 H C p0 p q l D fp fq n rb rr qb qs :=
  { h with rq := hM, e4 := d1, g2 := d2, g4 := d3 }
theorem Tw.new (h : Tw P w K G0 H C p0 p q l lo fp fq n rb rr qb qr) (hD : H D = none) : D ≠ p0 ∧ D ∉ fp ∧ D ∉ fq :=
  ⟨(h.box.ne hD).symm, fun z => BookAt.dom h.bp _ z hD, fun z => BookAt.dom h.bq _ z hD⟩
theorem carry_to {CB CU : Addr} {i : Nat} {Q : VK} {E : XK} (TC : TxtC K C) (hB : BookAt P w K H C p fp rs) (hC : BookAt P w K H C q fq qs) (hi : i < rs.length) (h64 : rs.length < 64) (hs : qs.length + rs.length < 5000) (sep : (p ∉ fq ∧ ∀ b ∈ fp, b ∉ fq) ∨ (p = q ∧ fp = fq ∧ rs = qs))
    (h : ∀ ys H', PartsOf rs i ys → Tp.Frame fq H H' → BookAt P w K H' C q fq (carF rs ys qs []).1 → Q (.int (lookM (carF rs ys qs []).2 i)) H') : spCarry P w K C CB CU [.ref q, .ref p, .int (i : Nat)] H Q E := by
  refine ⟨q, _, _, rfl, .inr ⟨p, fp, fq, rs, qs, _, rfl, isR_book TC hB, hB, hC, vk_int _, (fun e => by rw [num_in hi] at e; cases e), h64, hs, sep, fun a ea _ => ?_⟩⟩
  have e1 : i = a := by have := V.int.inj ea; omega
  subst e1
  exact h
theorem rows_ne_to {l1 : Addr} {bs : List Addr} (hR : OkRows rs) (hL : RowsM K H l rs) (h1 : H l1 = some (.lst (bs.map V.ref))) (hbl : bs.length = rs.length) (hbr : ∀ (i : Nat) (k : RowK) (a : Addr), rs[i]? = some k → bs[i]? = some a → RowAt K H k a) {Q : VK} (q : Q (.bl false) H) : rNeD K (.ref l1) (.ref l) H Q := by
  obtain ⟨as, hl, hal, hrw⟩ := hL
  refine ⟨.list (rs.map rowD), .list (rs.map rowD), .lst (SqL.of h1) (rows_dp hbl hbr), .lst (SqL.of hl) (rows_dp hal hrw), rows_shaped (okRows_str hR), rows_shaped (okRows_str hR), ?_⟩
  rw [PyData.eqv, rows_eqv, decide_eq_true rfl]
  exact q
end
def spLaw (K : PySem.W.Frag) : Sp := fun vs H Q _ => ∃ (a : Addr) (ns : List Int), vs = [.ref a] ∧ SqL K H a (ns.map V.int) ∧ ns.length ≤ 63 ∧ ∀ H', Q (.bl true) H'

abbrev sLw : Stmt := top 88
abbrev nLw : List Str := ["_law_script", "_law_k", "_law_box_here", "_law_rows_here", "_law_others", "_law_book", "_law_other", "_law_turn", "_law_far", "_law_grown", "_law_number", "_law_near"]
theorem scLw : FnScope nLw ["_law_script"] (defScope sLw) := ⟨rfl, rfl, rfl, by decide +kernel, rfl, by decide +kernel, by decide +kernel⟩

theorem ok_Lw (F : Fun K "law" "law" sLw f fd) {C CB CU CP CR CM : Addr} (T : TxtL mg) (TC : TxtC K C) (CE : Cg P w K mg base 1 "_law_cell" (Tp.spCellT K)) (BX : Cg P w K mg base 1 "_law_box" spBox) (TK : Cg P w K mg base 1 "_law_take" spTake) (RW : Cg P w K mg base 3 "_law_rows" (spRowsD K)) (OT : Cg P w K mg base 3 "_law_other_rows" (spOtherD K)) (CL : Cg P w K mg base 2 "_law_carried" (spCarL K)) (PR : Cg P w K mg base 7 "_law_pairs_right" (spPairs P w K C)) (RF : Cg P w K mg base 9 "_law_refusals_right" (spRefs P w K C)) (MB : Cmr P w K mg base 6 "Book" C [] (spInitB P w K C CP CR CM)) (CA : Ctr P w K mg base 6 C "carry" [] (spCarry P w K C CB CU)) (RO : Ct P w K mg base 1 C "rows" [] (spRows P w K C)) : FnG P w K mg base CX0 10 f fd ["_law_script"] (spLaw K) := by
  refine FunG.ok F scLw (fun vs H Q E h => ?_) (fun cdv B out s H vs Q E hr hG h => ?_)
  · obtain ⟨a, ns, rfl, _⟩ := h
    rfl
  · obtain ⟨a, ns, rfl, hS, hl, fin⟩ := h
    refine ⟨_, (pss_cons (ps_for PassesOwn.never rfl (pi_range1 (by rfl) T.range (pa_cons (pe_callB (call_max2 rfl) (by rfl) T.max (by decide +kernel) (pa_cons pe_int (pa_cons (pe_callB (call_min2 rfl) (by rfl) T.min (by decide +kernel) (pa_cons pe_int (pa_cons (pe_callB call_len (by rfl) T.len PySem.boot_len (pa_cons (pv 0) pa_nil)) pa_nil))) pa_nil))) pa_nil)) (pg_name (i := 1) scLw.nd rfl (Or.inl rfl)) (pss_cons (ps_set (i := 2) scLw.nd rfl (.inl rfl) (pe_g BX hr hG (by decide) (by rfl) (pa_cons (pe_g CE hr hG (by decide) (by rfl) (pa_cons (pv 0) (pa_cons (pv 1) pa_nil))) pa_nil)))
        (pss_cons (ps_set (i := 3) scLw.nd rfl (.inl rfl) (pe_g RW hr hG (by decide) (by rfl) (pa_cons (pv 2) (pa_cons pe_int (pa_cons pe_bl pa_nil)))))
        (pss_cons (ps_set (i := 4) scLw.nd rfl (.inl rfl) (pe_g OT hr hG (by decide) (by rfl) (pa_cons (pv 2) (pa_cons (pv 3) pa_nil))))
        (pss_cons (ps_par (i := 5) (j := 6) rfl scLw.nd rfl rfl (by decide) rfl rfl (pa_cons (pe_cmr MB hr hG (by decide) takes0 (by rfl) (pa_cons (pv 3) pa_nil)) (pa_cons (pe_cmr MB hr hG (by decide) takes0 (by rfl) (pa_cons (pv 4) pa_nil)) pa_nil)) (by rfl))
        (pss_cons (ps_if (PW.pt (pw_or (pt_not (pt_val (pe_g PR hr hG (by decide) (by rfl) (pa_cons (pv 2) (pa_cons (pv 5) (pa_cons (pv 3) (pa_cons (pv 6) (pa_cons (pv 4) pa_nil)))))))) (pw_or1 (pt_not (pt_val (pe_g RF hr hG (by decide) (by rfl) (pa_cons (pv 5) (pa_cons (pv 3) (pa_cons (pv 6) pa_nil))))))))) (pss_one (ps_ret pe_bl)) pss_nil)
        (pss_one (ps_for PassesOwn.never rfl (pi_range1 (by rfl) T.range (pa_cons pe_int pa_nil)) (pg_name (i := 7) scLw.nd rfl (Or.inl rfl)) (pss_cons (ps_set (i := 8) scLw.nd rfl (.inl rfl) (pe_g TK hr hG (by decide) (by rfl) (pa_cons (pv 2) (pa_cons (pe_callB call_len (by rfl) T.len PySem.boot_len (pa_cons (pv 4) pa_nil)) pa_nil))))
          (pss_cons (ps_asg (pe_g CL hr hG (by decide) (by rfl) (pa_cons (pv 3) (pa_cons (pv 4) (pa_cons (pv 8) pa_nil)))) (pg_tup rfl (pgs_cons (pg_name (i := 9) scLw.nd rfl (Or.inl rfl)) (pgs_cons (pg_name (i := 10) scLw.nd rfl (Or.inl rfl)) pgs_nil))))
          (pss_cons (ps_if (PW.pt (pw_or (pt_cmpR op_ne (pe_ctr (pv 5) CA hr hG (by decide) takes0 (pa_cons (pv 6) (pa_cons (pv 8) pa_nil))) (pv 10) (nomark _)) (pw_or (pt_cmpR (op_neD hr.units) (pe_ct0 (pv 5) RO hr hG (by decide)) (pv 9) (nomark _)) (pw_or1 (pt_cmpR (op_neD hr.units) (pe_ct0 (pv 6) RO hr hG (by decide)) (pv 4) (nomark _)))))) (pss_one (ps_ret pe_bl)) pss_nil)
          (pss_cons (ps_if (PW.pt (pw_or (pt_cmpR op_ne (pe_ctr (pv 5) CA hr hG (by decide) takes0 (pa_cons (pv 6) (pa_cons (pv 8) pa_nil))) (pv 10) (nomark _)) (pw_or (pt_cmpR op_ne (pe_ctr (pv 5) CA hr hG (by decide) takes0 (pa_cons (pv 5) (pa_cons (pv 10) pa_nil))) (pv 10) (nomark _)) (pw_or1 (pt_cmpR (op_neD hr.units) (pe_ct0 (pv 5) RO hr hG (by decide)) (pv 9) (nomark _)))))) (pss_one (ps_ret pe_bl)) pss_nil)
          (pss_cons (ps_set (i := 3) scLw.nd rfl (.inl rfl) (pv 9))
          (pss_cons (ps_set (i := 11) scLw.nd rfl (.inl rfl) (pe_g TK hr hG (by decide) (by rfl) (pa_cons (pv 2) (pa_cons (pe_callB call_len (by rfl) T.len PySem.boot_len (pa_cons (pv 3) pa_nil)) pa_nil))))
          (pss_cons (ps_asg (pe_g CL hr hG (by decide) (by rfl) (pa_cons (pv 4) (pa_cons (pv 3) (pa_cons (pv 11) pa_nil)))) (pg_tup rfl (pgs_cons (pg_name (i := 9) scLw.nd rfl (Or.inl rfl)) (pgs_cons (pg_name (i := 10) scLw.nd rfl (Or.inl rfl)) pgs_nil))))
          (pss_cons (ps_if (PW.pt (pw_or (pt_cmpR op_ne (pe_ctr (pv 6) CA hr hG (by decide) takes0 (pa_cons (pv 5) (pa_cons (pv 11) pa_nil))) (pv 10) (nomark _)) (pw_or (pt_cmpR (op_neD hr.units) (pe_ct0 (pv 6) RO hr hG (by decide)) (pv 9) (nomark _)) (pw_or1 (pt_cmpR (op_neD hr.units) (pe_ct0 (pv 5) RO hr hG (by decide)) (pv 3) (nomark _)))))) (pss_one (ps_ret pe_bl)) pss_nil)
          (pss_one (ps_set (i := 4) scLw.nd rfl (.inl rfl) (pv 9)))))))))))))))))))
      (pss_one (ps_ret pe_bl))), ?_⟩
    refine ⟨_, rfl, _, _, rfl, .inl ⟨_, hS, rfl⟩, _, _, rfl, _, _, rfl, ?_⟩
    obtain ⟨M, eM, hM1, hM2⟩ : ∃ M : Int, M = (if (if (((ns.map V.int).length : Nat) : Int) < 5 then (((ns.map V.int).length : Nat) : Int) else 5) > 2 then (if (((ns.map V.int).length : Nat) : Int) < 5 then (((ns.map V.int).length : Nat) : Int) else 5) else 2) ∧ 0 ≤ M ∧ M ≤ 5 := ⟨_, rfl, by split <;> omega, by split <;> (try split) <;> omega⟩
    rw [← eM]
    refine ⟨_, rfl, by omega, by omega, ?_⟩
    refine for_it (walk_range (lo := 0) (n := M.toNat)) (fun j σ G => Same H G ∧ ∃ o1 o2 o3 o4 o5 o6 o7 o8 o9 o10 o11, σ = [some (.ref a), o1, o2, o3, o4, o5, o6, o7, o8, o9, o10, o11])
      ⟨Same.refl _, _, _, _, _, _, _, _, _, _, _, _, rfl⟩ (fun _ _ _ _ _ => trivial) ?_ ?_
    · rintro i x σ G0 G hi ⟨sm, o1, o2, o3, o4, o5, o6, o7, o8, o9, o10, o11, rfl⟩ ⟨rfl, hx⟩
      dsimp only at hx
      rw [Int.zero_add] at hx
      subst hx
      dsimp only [gName]
      refine ⟨_, rfl, _, rfl, a, ns, i, rfl, upL sm hS, by omega, by omega, fun z => ⟨z, rfl, fun p0 G1 hp0 b1 kp1 => ?_⟩⟩
      have sG1 : Same G G1 := fun b o h => kp1 b o (ne_of_none h hp0) h
      refine ⟨_, rfl, p0, 0, 24, rfl, b1, by decide, by decide, by decide, fun l G2 rs k2 b2 hlN hL hR hnR hr1 hr24 => ?_⟩
      have nlp : l ≠ p0 := fun z => by
        rw [z] at hlN
        exact (b1.ne hlN) rfl
      refine ⟨_, rfl, _, rfl, p0, l, _, rs, rfl, b2, by decide, nlp, hL, hR, hr1, by omega, fun lo G3 qs k3 b3 hoN hO hQ hnQ hq1 hq2 => ?_⟩
      have nop : lo ≠ p0 := fun z => by
        rw [z] at hoN
        exact (b2.ne hoN) rfl
      have hL3 := hL.keep b2 k3 nlp
      obtain ⟨as, hl3, hal, hrw⟩ := hL3
      have sG2 : Same G G2 := fun b o e => k2 b o (ne_of_none e hp0) (sG1 b o e)
      have sG3 : Same G G3 := fun b o e => k3 b o (ne_of_none e hp0) (sG2 b o e)
      refine ⟨_, rfl, ?_⟩
      intro p dp hp hdp hne
      refine init_rows (.inl (SqL.of hl3)) hal hrw hR hnR (by omega) hp hdp hne.symm fun G4 fp s4 hfp hB => ⟨rfl, ?_⟩
      have b4 := b3.keep s4
      have hL4 : RowsM K G4 l rs := RowsM.up s4 ⟨as, hl3, hal, hrw⟩
      obtain ⟨bs, ho4, hbl, hbw⟩ := hO.up s4
      refine ⟨_, rfl, ?_⟩
      intro q dq hq hdq hne2
      refine init_rows (.inl (SqL.of ho4)) hbl hbw hQ hnQ (by omega) hq hdq hne2.symm fun G5 fq s5 hfq hC => ⟨rfl, _, _, rfl, ?_⟩
      have hO4 : RowsM K G4 lo qs := ⟨bs, ho4, hbl, hbw⟩
      have sG4 := Same.tr sG3 s4
      have tw0 : Tw P w K G G5 C p0 p q l lo fp fq (0 + 3000 + 5000) rs rs qs qs := {
        sm := Same.tr sG4 s5
        box := b4.keep s5
        bp := hB.up s5
        bq := hC
        rl := hL4.up s5
        rq := hO4.up s5
        n0 := hp0
        nf := fun b hb => same_none sG3 (hfp b hb)
        nq := fun b hb => same_none sG4 (hfq b hb)
        e1 := b3.ne hp
        e2 := b4.ne hq
        e3 := nlp
        e4 := nop
        f1 := fun h => b3.ne (hfp _ h) rfl
        f2 := fun h => b4.ne (hfq _ h) rfl
        g1 := fun h => by rw [hfp l h] at hl3; cases hl3
        g2 := fun h => hO.dom (hfp lo h)
        g3 := fun h => hL4.dom (hfq l h)
        g4 := fun h => hO4.dom (hfq lo h)
        g5 := fun h => BookAt.dom hB q h hq
        g6 := fun h => by
          obtain ⟨dx, gs, g0, _⟩ := hB.there
          rw [hfq p h] at g0
          cases g0
        g7 := fun b hb h => BookAt.dom hB b hb (hfq b h) }
      clear hl3 hal hrw ho4 hbl hbw hO4 hL4 hO hL hB hC
      refine ⟨_, rfl, _, rfl, _, rfl, _, rfl, _, rfl, p0, p, q, l, lo, fp, fq, _, rs, qs, rfl, tw0.two, by decide, hr1, by omega, hq1, by omega, fun G6 k6 b6 => ⟨_, rfl, iteF ?_⟩⟩
      have tw6 := tw0.keep k6 b6
      refine ⟨_, rfl, _, rfl, _, rfl, p, q, l, fp, fq, rs, qs, rfl, tw6.bp, tw6.bq, tw6.rl, hr1, by omega, hq1, by omega, fun G7 s7 => ⟨_, rfl, iteF ?_⟩⟩
      have tw7 := tw6.same s7
      obtain ⟨U, hU, hUl⟩ : ∃ U : List Tr, U = trs rs ++ trs qs ∧ U.length ≤ 60 := ⟨_, rfl, by rw [List.length_append, trs_len, trs_len]; omega⟩
      have hUr : ∀ u ∈ trs rs, u ∈ U := fun u hu => by rw [hU]; exact List.mem_append_left _ hu
      have hUq : ∀ u ∈ trs qs, u ∈ U := fun u hu => by rw [hU]; exact List.mem_append_right _ hu
      refine ⟨_, rfl, by decide, by decide, ?_⟩
      refine for_range (lo := 0) (n := 4) (fun t σ N => ∃ l lo rs qs o7 o8 o9 o10 o11, σ = [some (.ref a), some (.int (i : Int)), some (.ref p0), some (.ref l), some (.ref lo), some (.ref p), some (.ref q), o7, o8, o9, o10, o11] ∧ Tw P w K G N C p0 p q l lo fp fq (9000 + 2 * t) rs rs qs qs ∧ (∀ u ∈ trs rs, u ∈ U) ∧ (∀ u ∈ trs qs, u ∈ U) ∧ 1 ≤ rs.length ∧ 1 ≤ qs.length)
        ⟨l, lo, rs, qs, _, _, _, _, _, rfl, tw7.keep (Keep.refl _ _) (tw7.box.mono (by omega)), hUr, hUq, hr1, hq1⟩ ?_ ?_
      · clear hU hUr hUq tw0 tw6 tw7 hr1 hq1 hr24 hq2 hR hnR hQ hnQ
        rintro t σ N ht ⟨l, lo, rs, qs, o7, o8, o9, o10, o11, rfl, tw, hUr, hUq, hr1, hq1⟩
        obtain ⟨hnR, hR, _⟩ := BookAt.ok tw.bp
        obtain ⟨hnQ, hQ, _⟩ := BookAt.ok tw.bq
        have hr64 := trs_few hR hnR hUr
        have hq64 := trs_few hQ hnQ hUq
        obtain ⟨cs, hcl, hcal, _⟩ := tw.rq
        dsimp only [gName]
        refine ⟨_, rfl, _, rfl, _, _, rfl, .inl ⟨_, SqL.of hcl, rfl⟩, p0, _, _, rfl, tw.box, ?_⟩
        rw [List.length_map, hcal]
        refine ⟨by omega, small_log (by omega) (by omega), by omega, fun d1 N1 a1 c1 bx1 kk1 => ?_⟩
        have tw1 := tw.keep (keep_of kk1) bx1
        obtain ⟨far, rfl⟩ : ∃ m : Nat, d1 = (m : Int) := ⟨d1.toNat, by omega⟩
        have hfar : far < qs.length := by omega
        refine ⟨_, rfl, _, rfl, _, rfl, l, lo, rs, qs, far, rfl, tw1.rl.L, tw1.rq.L, hR, hQ, hfar, by omega, by omega, fun tt D ys N2 hP s2 hD hM hT => ⟨tt, _, rfl, hT, rfl, _, _, rfl, _, _, rfl, rfl, ?_⟩⟩
        obtain ⟨dd1, dd2, dd3⟩ := tw1.new hD
        have tw2 := (tw1.same s2).list hM dd1 dd2 dd3
        obtain ⟨hR1, hU1⟩ := carried_trs hQ hR hP hfar
        have hn1 : (carF qs ys rs []).1.Nodup := carF_nodup hnR
        obtain ⟨num, hnum, hnlt⟩ := look_nat hQ hR hP hfar
        have hag := carF_again (rs := qs) ys rs [] hn1
        have hUr1 : ∀ u ∈ trs (carF qs ys rs []).1, u ∈ U := fun u hu => (hU1 u hu).elim (hUr u) (hUq u)
        obtain ⟨ex, hex⟩ := carF_ext (rs := qs) ys rs []
        rw [hnum]
        obtain ⟨rs1, hrs1⟩ : ∃ x, x = (carF qs ys rs []).1 := ⟨_, rfl⟩
        rw [← hrs1] at hR1 hn1 hnlt hag hUr1 hex tw2
        have hr1' : 1 ≤ rs1.length := by rw [hex, List.length_append]; omega
        have h64' := trs_few hR1 hn1 hUr1
        -- carried
        obtain ⟨dx2, gs2, g02, a62⟩ := tw2.bp.there
        refine ⟨_, rfl, p, dx2, gs2, rfl, g02, a62 _ (by decide), _, rfl, _, rfl, ?_⟩
        dsimp only [tNil]
        refine carry_to TC tw2.bq tw2.bp hfar (by omega) (by omega) (.inl ⟨tw2.g5, fun b hb h => tw2.g7 b h hb⟩) fun ys1 N3 hP1 f3 hB3 => ?_
        rw [parts_one hP1 hP, ← hrs1] at hB3
        rw [parts_one hP1 hP, hnum]
        have tw3 := tw2.book f3 hB3
        refine ⟨_, rfl, rfl, _, rfl, if_false_of (by rw [decide_eq_true rfl]; rfl) ?_⟩
        obtain ⟨dx3, gs3, g03, a63⟩ := tw3.bp.there
        refine ⟨_, rfl, p, dx3, gs3, rfl, g03, a63 _ (by decide), p, fp, rs1, rfl, tw3.bp, fun m1 Q1 ws f1 eQ1 hwl hwr => ?_⟩
        subst eQ1
        have s4 : Same N3 (upd N3 m1 (.lst (ws.map V.ref))) := Same.put f1
        have gm : (upd N3 m1 (.lst (ws.map V.ref))) m1 = some (.lst (ws.map V.ref)) := upd_same
        generalize upd N3 m1 (.lst (ws.map V.ref)) = N4 at s4 gm ⊢
        have tw4 := tw3.same s4
        refine ⟨_, rfl, rows_ne_to hR1 tw4.rl gm hwl (fun i k a x y => (hwr i k a x y).mono fun _ _ => upT s4) ⟨_, rfl, iteF ?_⟩⟩
        obtain ⟨dx4, gs4, g04, a64⟩ := tw4.bq.there
        refine ⟨_, rfl, q, dx4, gs4, rfl, g04, a64 _ (by decide), q, fq, qs, rfl, tw4.bq, fun m2 Q2 ws2 f2 eQ2 hwl2 hwr2 => ?_⟩
        subst eQ2
        have s5 : Same N4 (upd N4 m2 (.lst (ws2.map V.ref))) := Same.put f2
        have gm2 : (upd N4 m2 (.lst (ws2.map V.ref))) m2 = some (.lst (ws2.map V.ref)) := upd_same
        generalize upd N4 m2 (.lst (ws2.map V.ref)) = N5 at s5 gm2 ⊢
        have tw5 := tw4.same s5
        refine ⟨_, rfl, rows_ne_to hQ tw5.rq gm2 hwl2 (fun i k a x y => (hwr2 i k a x y).mono fun _ _ => upT s5) ⟨_, rfl, iteF ?_⟩⟩
        dsimp only [tNext]
        -- carried again
        obtain ⟨dx5, gs5, g05, a65⟩ := tw5.bp.there
        refine ⟨_, rfl, p, dx5, gs5, rfl, g05, a65 _ (by decide), _, rfl, _, rfl, ?_⟩
        dsimp only [tNil]
        refine carry_to TC tw5.bq tw5.bp hfar (by omega) (by omega) (.inl ⟨tw5.g5, fun b hb h => tw5.g7 b h hb⟩) fun ys2 N6 hP2 f6 hB6 => ?_
        rw [parts_one hP2 hP, hag, ← hrs1] at hB6
        rw [parts_one hP2 hP, hag, hnum]
        have tw6 := tw5.book f6 hB6
        refine ⟨_, rfl, rfl, _, rfl, if_false_of (by rw [decide_eq_true rfl]; rfl) ?_⟩
        -- carried into itself
        obtain ⟨dx6, gs6, g06, a66⟩ := tw6.bp.there
        refine ⟨_, rfl, p, dx6, gs6, rfl, g06, a66 _ (by decide), _, rfl, _, rfl, ?_⟩
        dsimp only [tNil]
        refine carry_to TC tw6.bp tw6.bp hnlt (by omega) (by omega) (.inr ⟨rfl, rfl, rfl⟩) fun ys3 N7 hP3 f7 hB7 => ?_
        obtain ⟨cs1, cs2⟩ := carried_self hn1 hR1 hP3 hnlt
        rw [cs1] at hB7
        rw [cs2]
        have tw7 := tw6.book f7 hB7
        refine ⟨_, rfl, rfl, _, rfl, if_false_of (by rw [decide_eq_true rfl]; rfl) ?_⟩
        obtain ⟨dx7, gs7, g07, a67⟩ := tw7.bp.there
        refine ⟨_, rfl, p, dx7, gs7, rfl, g07, a67 _ (by decide), p, fp, rs1, rfl, tw7.bp, fun m3 Q3 ws3 f3' eQ3 hwl3 hwr3 => ?_⟩
        subst eQ3
        have s8 : Same N7 (upd N7 m3 (.lst (ws3.map V.ref))) := Same.put f3'
        have gm3 : (upd N7 m3 (.lst (ws3.map V.ref))) m3 = some (.lst (ws3.map V.ref)) := upd_same
        generalize upd N7 m3 (.lst (ws3.map V.ref)) = N8 at s8 gm3 ⊢
        have tw8 := tw7.same s8
        refine ⟨_, rfl, rows_ne_to hR1 tw8.rl gm3 hwl3 (fun i k a x y => (hwr3 i k a x y).mono fun _ _ => upT s8) ⟨_, rfl, iteF ?_⟩⟩
        dsimp only [tNext]
        -- the other way
        obtain ⟨cs9, hcl9, hcal9, _⟩ := tw8.rl
        refine ⟨_, rfl, _, rfl, _, rfl, _, _, rfl, .inl ⟨_, SqL.of hcl9, rfl⟩, p0, _, _, rfl, tw8.box, ?_⟩
        rw [List.length_map, hcal9]
        refine ⟨by omega, small_log (by omega) (by omega), by omega, fun d2 N9 a2 c2 bx2 kk2 => ?_⟩
        have tw9 := tw8.keep (keep_of kk2) bx2
        obtain ⟨near, rfl⟩ : ∃ m : Nat, d2 = (m : Int) := ⟨d2.toNat, by omega⟩
        have hnear : near < rs1.length := by omega
        refine ⟨_, rfl, _, rfl, _, rfl, lo, D, qs, rs1, near, rfl, tw9.rq.L, tw9.rl.L, hQ, hR1, hnear, by omega, by omega, fun tt2 D2 zs N10 hZ s10 hD2 hM2 hT2 => ⟨tt2, _, rfl, hT2, rfl, _, _, rfl, _, _, rfl, rfl, ?_⟩⟩
        obtain ⟨ee1, ee2, ee3⟩ := tw9.new hD2
        have tw10 := (tw9.same s10).list2 hM2 ee1 ee2 ee3
        obtain ⟨hQ1, hV1⟩ := carried_trs hR1 hQ hZ hnear
        have hm1 : (carF rs1 zs qs []).1.Nodup := carF_nodup hnQ
        obtain ⟨num2, hnum2, hnlt2⟩ := look_nat hR1 hQ hZ hnear
        have hUq1 : ∀ u ∈ trs (carF rs1 zs qs []).1, u ∈ U := fun u hu => (hV1 u hu).elim (hUq u) (hUr1 u)
        obtain ⟨ex2, hex2⟩ := carF_ext (rs := rs1) zs qs []
        rw [hnum2]
        obtain ⟨qs1, hqs1⟩ : ∃ x, x = (carF rs1 zs qs []).1 := ⟨_, rfl⟩
        rw [← hqs1] at hQ1 hm1 hnlt2 hUq1 hex2 tw10
        have hq1' : 1 ≤ qs1.length := by rw [hex2, List.length_append]; omega
        have k64' := trs_few hQ1 hm1 hUq1
        obtain ⟨dx10, gs10, g010, a610⟩ := tw10.bq.there
        refine ⟨_, rfl, q, dx10, gs10, rfl, g010, a610 _ (by decide), _, rfl, _, rfl, ?_⟩
        dsimp only [tNil]
        refine carry_to TC tw10.bp tw10.bq hnear (by omega) (by omega) (.inl ⟨tw10.g6, tw10.g7⟩) fun zs1 N11 hZ1 f11 hB11 => ?_
        rw [parts_one hZ1 hZ, ← hqs1] at hB11
        rw [parts_one hZ1 hZ, hnum2]
        have tw11 := tw10.other f11 hB11
        refine ⟨_, rfl, rfl, _, rfl, if_false_of (by rw [decide_eq_true rfl]; rfl) ?_⟩
        obtain ⟨dx11, gs11, g011, a611⟩ := tw11.bq.there
        refine ⟨_, rfl, q, dx11, gs11, rfl, g011, a611 _ (by decide), q, fq, qs1, rfl, tw11.bq, fun m4 Q4 ws4 f4 eQ4 hwl4 hwr4 => ?_⟩
        subst eQ4
        have s12 : Same N11 (upd N11 m4 (.lst (ws4.map V.ref))) := Same.put f4
        have gm4 : (upd N11 m4 (.lst (ws4.map V.ref))) m4 = some (.lst (ws4.map V.ref)) := upd_same
        generalize upd N11 m4 (.lst (ws4.map V.ref)) = N12 at s12 gm4 ⊢
        have tw12 := tw11.same s12
        refine ⟨_, rfl, rows_ne_to hQ1 tw12.rq gm4 hwl4 (fun i k a x y => (hwr4 i k a x y).mono fun _ _ => upT s12) ⟨_, rfl, iteF ?_⟩⟩
        obtain ⟨dx12, gs12, g012, a612⟩ := tw12.bp.there
        refine ⟨_, rfl, p, dx12, gs12, rfl, g012, a612 _ (by decide), p, fp, rs1, rfl, tw12.bp, fun m5 Q5 ws5 f5 eQ5 hwl5 hwr5 => ?_⟩
        subst eQ5
        have s13 : Same N12 (upd N12 m5 (.lst (ws5.map V.ref))) := Same.put f5
        have gm5 : (upd N12 m5 (.lst (ws5.map V.ref))) m5 = some (.lst (ws5.map V.ref)) := upd_same
        generalize upd N12 m5 (.lst (ws5.map V.ref)) = N13 at s13 gm5 ⊢
        have tw13 := tw12.same s13
        refine ⟨_, rfl, rows_ne_to hR1 tw13.rl gm5 hwl5 (fun i k a x y => (hwr5 i k a x y).mono fun _ _ => upT s13) ⟨_, rfl, iteF ?_⟩⟩
        dsimp only [tNext]
        exact ⟨_, rfl, D, D2, rs1, qs1, _, _, _, _, _, rfl, tw13.keep (Keep.refl _ _) (tw13.box.mono (by omega)), hUr1, hUq1, hr1', hq1'⟩
      · rintro σ N ⟨l, lo, rs, qs, o7, o8, o9, o10, o11, rfl, tw, _⟩
        exact ⟨Same.tr sm tw.sm, _, _, _, _, _, _, _, _, _, _, _, rfl⟩
    · rintro σ G ⟨sm, o1, o2, o3, o4, o5, o6, o7, o8, o9, o10, o11, rfl⟩
      exact fin _

end
end T56
set_option Elab.async false
set_option linter.all false
set_option maxRecDepth 100000
set_option maxHeartbeats 4000000
namespace T56
open PySem PySem.Spec PyProof.Rows L2 Tp
abbrev sEB : Stmt := inClass (top 13) 0
abbrev sEU : Stmt := inClass (top 19) 0
abbrev sEP : Stmt := inClass (top 5) 0
abbrev sEN : Stmt := inClass (top 6) 0
abbrev sER : Stmt := inClass (top 8) 0
section
variable {P : Program} {w : World} {K : PySem.W.Frag} {mg : Str → Option Value} {base : Heap} {f : Addr} {fd : FuncData}
theorem scEB : FnScope ["self", "value"] ["self", "value"] (defScope sEB) := ⟨rfl, rfl, rfl, by decide +kernel, rfl, by decide +kernel, by decide +kernel⟩
theorem ok_EB {C : Addr} (F : Fun K "__init__" "InvalidBook.__init__" sEB f fd) (T : ExK K C) (n0 : PySem.W.findIn K (.ref C) "value" = some none) : FnOk P w K mg base CX0 1 f fd ["self", "value"] (spI C ["value"]) := by
  exact F.ok scEB (fun vs H Q E h => ini_len h) (fun cdv A outer s H vs Q E hr h => by
    obtain ⟨a, x, rfl, q⟩ := ini1 h
    exact ⟨_, PSs.nox (pss_one (ps_osx (pv 0) (pv 1))), _, rfl, _, rfl, q T n0⟩)
theorem scEU : FnScope ["self", "number"] ["self", "number"] (defScope sEU) := ⟨rfl, rfl, rfl, by decide +kernel, rfl, by decide +kernel, by decide +kernel⟩
theorem ok_EU {C : Addr} (F : Fun K "__init__" "UnknownTerm.__init__" sEU f fd) (T : ExK K C) (n0 : PySem.W.findIn K (.ref C) "number" = some none) : FnOk P w K mg base CX0 1 f fd ["self", "number"] (spI C ["number"]) := by
  exact F.ok scEU (fun vs H Q E h => ini_len h) (fun cdv A outer s H vs Q E hr h => by
    obtain ⟨a, x, rfl, q⟩ := ini1 h
    exact ⟨_, PSs.nox (pss_one (ps_osx (pv 0) (pv 1))), _, rfl, _, rfl, q T n0⟩)
theorem scEP : FnScope ["self", "value"] ["self", "value"] (defScope sEP) := ⟨rfl, rfl, rfl, by decide +kernel, rfl, by decide +kernel, by decide +kernel⟩
theorem ok_EP {C : Addr} (F : Fun K "__init__" "InvalidPart.__init__" sEP f fd) (T : ExK K C) (n0 : PySem.W.findIn K (.ref C) "value" = some none) : FnOk P w K mg base CX0 1 f fd ["self", "value"] (spI C ["value"]) := by
  exact F.ok scEP (fun vs H Q E h => ini_len h) (fun cdv A outer s H vs Q E hr h => by
    obtain ⟨a, x, rfl, q⟩ := ini1 h
    exact ⟨_, PSs.nox (pss_one (ps_osx (pv 0) (pv 1))), _, rfl, _, rfl, q T n0⟩)
theorem scEN : FnScope ["self", "value"] ["self", "value"] (defScope sEN) := ⟨rfl, rfl, rfl, by decide +kernel, rfl, by decide +kernel, by decide +kernel⟩
theorem ok_EN {C : Addr} (F : Fun K "__init__" "InvalidName.__init__" sEN f fd) (T : ExK K C) (n0 : PySem.W.findIn K (.ref C) "value" = some none) : FnOk P w K mg base CX0 1 f fd ["self", "value"] (spI C ["value"]) := by
  exact F.ok scEN (fun vs H Q E h => ini_len h) (fun cdv A outer s H vs Q E hr h => by
    obtain ⟨a, x, rfl, q⟩ := ini1 h
    exact ⟨_, PSs.nox (pss_one (ps_osx (pv 0) (pv 1))), _, rfl, _, rfl, q T n0⟩)
theorem scER : FnScope ["self", "value"] ["self", "value"] (defScope sER) := ⟨rfl, rfl, rfl, by decide +kernel, rfl, by decide +kernel, by decide +kernel⟩
theorem ok_ER {C : Addr} (F : Fun K "__init__" "InvalidRow.__init__" sER f fd) (T : ExK K C) (n0 : PySem.W.findIn K (.ref C) "value" = some none) : FnOk P w K mg base CX0 1 f fd ["self", "value"] (spI C ["value"]) := by
  exact F.ok scER (fun vs H Q E h => ini_len h) (fun cdv A outer s H vs Q E hr h => by
    obtain ⟨a, x, rfl, q⟩ := ini1 h
    exact ⟨_, PSs.nox (pss_one (ps_osx (pv 0) (pv 1))), _, rfl, _, rfl, q T n0⟩)
end
theorem nbB_ok {K : PySem.W.Frag} {C CN : Addr} (h : nbB K C CN = true) (ik : InsK K C) : TxtB K C CN ∧ TxtC K C := by
  unfold nbB at h
  simp only [Bool.and_eq_true, decide_eq_true_eq, List.all_eq_true] at h
  obtain ⟨h1, h2, h3, h4⟩ := h
  exact ⟨⟨h1, h2, h3⟩, ⟨ik, h4⟩⟩
theorem xeB_ok {K : PySem.W.Frag} {CB CU : Addr} (h : xeB K CB CU = true) (xB : ExK K CB) (xU : ExK K CU) (fB : PySem.W.findIn K (.ref CB) "value" = some none) (fU : PySem.W.findIn K (.ref CU) "number" = some none) : TxtE K CB CU := by
  unfold xeB at h
  simp only [Bool.and_eq_true, decide_eq_true_eq] at h
  exact ⟨xB, xU, h.1, h.2.1, h.2.2, fB, fU⟩
end T56
set_option Elab.async false
set_option linter.all false
set_option maxRecDepth 100000
set_option maxHeartbeats 8000000
namespace T56
open PySem PySem.Spec PyProof.Rows L2 Tp
theorem rel_int {mg : Str → Option Value} {x : Str} {i : Int} (h : ∃ t, mg x = some (.int i t)) : ∃ u, mg x = some u ∧ RelV (.int i) u := let ⟨t, e⟩ := h; ⟨_, e, t, rfl⟩
theorem rel_str {mg : Str → Option Value} {x z : Str} (h : ∃ t, mg x = some (.str z t)) : ∃ u, mg x = some u ∧ RelV (.str z) u := let ⟨t, e⟩ := h; ⟨_, e, t, rfl⟩
theorem all2 {l : PySem.W.OpenLaw} {w : World} {K : PySem.W.Frag} {h : Heap} {mg : Str → Option Value} {fa : Addr} (X : K.In h) (G : h.Ns mainGlobals mg) (hfa : mg "law" = some (.ref fa)) (cd : He.SaysD faL fnL K) (ex : exB K = true) :
    ∃ fd : FuncData, (∀ (s : Shared) (v : Value), BindsTo s fd ⟨[v], []⟩ [("_law_script", v)]) ∧ ∀ base : Heap, K.In base → base.Ns mainGlobals mg → FnG l.prog w K mg base CX0 10 fa fd ["_law_script"] (spLaw K) := by
  obtain ⟨fd_cell, D_cell⟩ := cd.def_ 0 (d := dfn "_law_cell" sCell) rfl
  have F_cell : Fun K "_law_cell" "_law_cell" sCell (He.ga K "_law_cell") fd_cell := fun_of D_cell
  have b_cell := F_cell.binds (ps := ["_law_script", "_law_k"]) fun _ _ _ _ _ _ us hl => match us, hl with | [_, _], _ => rfl
  obtain ⟨fd_box, D_box⟩ := cd.def_ 1 (d := dfn "_law_box" sBox) rfl
  have F_box : Fun K "_law_box" "_law_box" sBox (He.ga K "_law_box") fd_box := fun_of D_box
  have b_box := F_box.binds (ps := ["_law_cell_here"]) fun _ _ _ _ _ _ us hl => match us, hl with | [_], _ => rfl
  obtain ⟨fd_take, D_take⟩ := cd.def_ 2 (d := dfn "_law_take" sTake) rfl
  have F_take : Fun K "_law_take" "_law_take" sTake (He.ga K "_law_take") fd_take := fun_of D_take
  have b_take := F_take.binds (ps := ["_law_box_here", "_law_many"]) fun _ _ _ _ _ _ us hl => match us, hl with | [_, _], _ => rfl
  obtain ⟨fd_label, D_label⟩ := cd.def_ 3 (d := dfn "_law_label" sLb) rfl
  have F_label : Fun K "_law_label" "_law_label" sLb (He.ga K "_law_label") fd_label := fun_of D_label
  have b_label := F_label.binds (ps := ["_law_box_here"]) fun _ _ _ _ _ _ us hl => match us, hl with | [_], _ => rfl
  obtain ⟨fd_lrows, D_lrows⟩ := cd.def_ 4 (d := dfn "_law_rows" sRw) rfl
  have F_lrows : Fun K "_law_rows" "_law_rows" sRw (He.ga K "_law_rows") fd_lrows := fun_of D_lrows
  have b_lrows := F_lrows.binds (ps := ["_law_box_here", "_law_most", "_law_samples"]) fun _ _ _ _ _ _ us hl => match us, hl with | [_, _, _], _ => rfl
  obtain ⟨fd_lparts, D_lparts⟩ := cd.def_ 5 (d := dfn "_law_parts" sPl) rfl
  have F_lparts : Fun K "_law_parts" "_law_parts" sPl (He.ga K "_law_parts") fd_lparts := fun_of D_lparts
  have b_lparts := F_lparts.binds (ps := ["_law_rows_here", "_law_number"]) fun _ _ _ _ _ _ us hl => match us, hl with | [_, _], _ => rfl
  obtain ⟨fd_loth, D_loth⟩ := cd.def_ 6 (d := dfn "_law_other_rows" sOl) rfl
  have F_loth : Fun K "_law_other_rows" "_law_other_rows" sOl (He.ga K "_law_other_rows") fd_loth := fun_of D_loth
  have b_loth := F_loth.binds (ps := ["_law_box_here", "_law_rows_here"]) fun _ _ _ _ _ _ us hl => match us, hl with | [_, _], _ => rfl
  obtain ⟨fd_lcar, D_lcar⟩ := cd.def_ 7 (d := dfn "_law_carried" sCl) rfl
  have F_lcar : Fun K "_law_carried" "_law_carried" sCl (He.ga K "_law_carried") fd_lcar := fun_of D_lcar
  have b_lcar := F_lcar.binds (ps := ["_law_rows_here", "_law_other", "_law_number"]) fun _ _ _ _ _ _ us hl => match us, hl with | [_, _, _], _ => rfl
  obtain ⟨fd_lslots, D_lslots⟩ := cd.def_ 8 (d := dfn "_law_slots" sSl) rfl
  have F_lslots : Fun K "_law_slots" "_law_slots" sSl (He.ga K "_law_slots") fd_lslots := fun_of D_lslots
  have b_lslots := F_lslots.binds (ps := ["_law_rows_here", "_law_one", "_law_two"]) fun _ _ _ _ _ _ us hl => match us, hl with | [_, _, _], _ => rfl
  obtain ⟨fd_lask, D_lask⟩ := cd.def_ 9 (d := dfn "_law_asked" sKd) rfl
  have F_lask : Fun K "_law_asked" "_law_asked" sKd (He.ga K "_law_asked") fd_lask := fun_of D_lask
  have b_lask := F_lask.binds (ps := ["_law_word", "_law_parts_here"]) fun _ _ _ _ _ _ us hl => match us, hl with | [_, _], _ => rfl
  obtain ⟨fd_ltold, D_ltold⟩ := cd.def_ 10 (d := dfn "_law_told" sTo) rfl
  have F_ltold : Fun K "_law_told" "_law_told" sTo (He.ga K "_law_told") fd_ltold := fun_of D_ltold
  have b_ltold := F_ltold.binds (ps := ["_law_word", "_law_parts_here"]) fun _ _ _ _ _ _ us hl => match us, hl with | [_, _], _ => rfl
  obtain ⟨fd_lpairs, D_lpairs⟩ := cd.def_ 11 (d := dfn "_law_pairs_right" sPr) rfl
  have F_lpairs : Fun K "_law_pairs_right" "_law_pairs_right" sPr (He.ga K "_law_pairs_right") fd_lpairs := fun_of D_lpairs
  have b_lpairs := F_lpairs.binds (ps := ["_law_box_here", "_law_book", "_law_rows_here", "_law_other", "_law_others"]) fun _ _ _ _ _ _ us hl => match us, hl with | [_, _, _, _, _], _ => rfl
  obtain ⟨fd_lref, D_lref⟩ := cd.def_ 12 (d := dfn "_law_refusals_right" sRr) rfl
  have F_lref : Fun K "_law_refusals_right" "_law_refusals_right" sRr (He.ga K "_law_refusals_right") fd_lref := fun_of D_lref
  have b_lref := F_lref.binds (ps := ["_law_book", "_law_rows_here", "_law_other"]) fun _ _ _ _ _ _ us hl => match us, hl with | [_, _, _], _ => rfl
  obtain ⟨fd_lis, D_lis⟩ := cd.def_ 13 (d := dfn "_law_is" sIz) rfl
  have F_lis : Fun K "_law_is" "_law_is" sIz (He.ga K "_law_is") fd_lis := fun_of D_lis
  have b_lis := F_lis.binds (ps := ["_law_told_here", "_law_word", "_law_thing"]) fun _ _ _ _ _ _ us hl => match us, hl with | [_, _, _], _ => rfl
  obtain ⟨fd_law, D_law⟩ := cd.def_ 14 (d := dfn "law" sLw) rfl
  have F_law : Fun K "law" "law" sLw (He.ga K "law") fd_law := fun_of D_law
  have b_law := F_law.binds (ps := ["_law_script"]) fun _ _ _ _ _ _ us hl => match us, hl with | [_], _ => rfl
  obtain ⟨fd_whole, D_whole⟩ := cd.def_ 15 (d := dfn "is_whole" sVw) rfl
  have F_whole : Fun K "is_whole" "is_whole" sVw (He.ga K "is_whole") fd_whole := fun_of D_whole
  have b_whole := F_whole.binds (ps := ["value"]) fun _ _ _ _ _ _ us hl => match us, hl with | [_], _ => rfl
  obtain ⟨fd_integer, D_integer⟩ := cd.def_ 16 (d := dfn "is_integer" sVi) rfl
  have F_integer : Fun K "is_integer" "is_integer" sVi (He.ga K "is_integer") fd_integer := fun_of D_integer
  have b_integer := F_integer.binds (ps := ["value", "low", "high"]) fun _ _ _ _ _ _ us hl => match us, hl with | [_, _, _], _ => rfl
  obtain ⟨fd_list, D_list⟩ := cd.def_ 17 (d := dfn "is_list" sVl) rfl
  have F_list : Fun K "is_list" "is_list" sVl (He.ga K "is_list") fd_list := fun_of D_list
  have b_list := F_list.binds (ps := ["value"]) fun _ _ _ _ _ _ us hl => match us, hl with | [_], _ => rfl
  obtain ⟨fd_name, D_name⟩ := cd.def_ 18 (d := dfn "is_name" sVn) rfl
  have F_name : Fun K "is_name" "is_name" sVn (He.ga K "is_name") fd_name := fun_of D_name
  have b_name := F_name.binds (ps := ["value"]) fun _ _ _ _ _ _ us hl => match us, hl with | [_], _ => rfl
  obtain ⟨fd_turn, D_turn⟩ := cd.def_ 19 (d := dfn "_is_turn" sBit) rfl
  have F_turn : Fun K "_is_turn" "_is_turn" sBit (He.ga K "_is_turn") fd_turn := fun_of D_turn
  have b_turn := F_turn.binds (ps := ["value"]) fun _ _ _ _ _ _ us hl => match us, hl with | [_], _ => rfl
  obtain ⟨fd_args, D_args⟩ := cd.def_ 20 (d := dfn "arguments_of" sBao) rfl
  have F_args : Fun K "arguments_of" "arguments_of" sBao (He.ga K "arguments_of") fd_args := fun_of D_args
  have b_args := F_args.binds (ps := ["row"]) fun _ _ _ _ _ _ us hl => match us, hl with | [_], _ => rfl
  obtain ⟨fd_moved, D_moved⟩ := cd.def_ 21 (d := dfn "moved_row" sMv) rfl
  have F_moved : Fun K "moved_row" "moved_row" sMv (He.ga K "moved_row") fd_moved := fun_of D_moved
  have b_moved := F_moved.binds (ps := ["row", "places"]) fun _ _ _ _ _ _ us hl => match us, hl with | [_, _], _ => rfl
  obtain ⟨fd_form, D_form⟩ := cd.def_ 22 (d := dfn "_has_row_form" sBhf) rfl
  have F_form : Fun K "_has_row_form" "_has_row_form" sBhf (He.ga K "_has_row_form") fd_form := fun_of D_form
  have b_form := F_form.binds (ps := ["value"]) fun _ _ _ _ _ _ us hl => match us, hl with | [_], _ => rfl
  obtain ⟨fd_kept, D_kept⟩ := cd.def_ 23 (d := dfn "_kept_row" sBkr) rfl
  have F_kept : Fun K "_kept_row" "_kept_row" sBkr (He.ga K "_kept_row") fd_kept := fun_of D_kept
  have b_kept := F_kept.binds (ps := ["row"]) fun _ _ _ _ _ _ us hl => match us, hl with | [_], _ => rfl
  obtain ⟨fd_rtext, D_rtext⟩ := cd.def_ 24 (d := dfn "_row_text" sBrt) rfl
  have F_rtext : Fun K "_row_text" "_row_text" sBrt (He.ga K "_row_text") fd_rtext := fun_of D_rtext
  have b_rtext := F_rtext.binds (ps := ["row", "texts"]) fun _ _ _ _ _ _ us hl => match us, hl with | [_, _], _ => rfl
  obtain ⟨fd_first, D_first⟩ := cd.def_ 25 (d := dfn "_first_unlike" sFu) rfl
  have F_first : Fun K "_first_unlike" "_first_unlike" sFu (He.ga K "_first_unlike") fd_first := fun_of D_first
  have b_first := F_first.binds (ps := ["one", "other"]) fun _ _ _ _ _ _ us hl => match us, hl with | [_, _], _ => rfl
  obtain ⟨fd_same, D_same⟩ := cd.def_ 26 (d := dfn "same_term" sSm) rfl
  have F_same : Fun K "same_term" "same_term" sSm (He.ga K "same_term") fd_same := fun_of D_same
  have b_same := F_same.binds (ps := ["book", "number", "other", "other_number"]) fun _ _ _ _ _ _ us hl => match us, hl with | [_, _, _, _], _ => rfl
  obtain ⟨fd_reqt, D_reqt⟩ := cd.def_ 27 (d := dfn "_require_term" sRt) rfl
  have F_reqt : Fun K "_require_term" "_require_term" sRt (He.ga K "_require_term") fd_reqt := fun_of D_reqt
  have b_reqt := F_reqt.binds (ps := ["book", "number"]) fun _ _ _ _ _ _ us hl => match us, hl with | [_, _], _ => rfl
  obtain ⟨fd_je, D_je⟩ := cd.def_ 28 (d := dfn "joined_edges" sJe) rfl
  have F_je : Fun K "joined_edges" "joined_edges" sJe (He.ga K "joined_edges") fd_je := fun_of D_je
  have b_je := F_je.binds (ps := ["gates", "outs"]) fun _ _ _ _ _ _ us hl => match us, hl with | [_, _], _ => rfl
  obtain ⟨fd_as, D_as⟩ := cd.def_ 29 (d := dfn "all_starts" sAs) rfl
  have F_as : Fun K "all_starts" "all_starts" sAs (He.ga K "all_starts") fd_as := fun_of D_as
  have b_as := F_as.binds (ps := ["gates", "outs"]) fun _ _ _ _ _ _ us hl => match us, hl with | [_, _], _ => rfl
  obtain ⟨fd_ds, D_ds⟩ := cd.def_ 30 (d := dfn "_direct_sources" sDs) rfl
  have F_ds : Fun K "_direct_sources" "_direct_sources" sDs (He.ga K "_direct_sources") fd_ds := fun_of D_ds
  have b_ds := F_ds.binds (ps := ["gates"]) fun _ _ _ _ _ _ us hl => match us, hl with | [_], _ => rfl
  obtain ⟨fd_sp, D_sp⟩ := cd.def_ 31 (d := dfn "_spread" sSp) rfl
  have F_sp : Fun K "_spread" "_spread" sSp (He.ga K "_spread") fd_sp := fun_of D_sp
  have b_sp := F_sp.binds (ps := ["names", "following"]) fun _ _ _ _ _ _ us hl => match us, hl with | [_, _], _ => rfl
  obtain ⟨fd_wo, D_wo⟩ := cd.def_ 32 (d := dfn "working_order" sWo) rfl
  have F_wo : Fun K "working_order" "working_order" sWo (He.ga K "working_order") fd_wo := fun_of D_wo
  have b_wo := F_wo.binds (ps := ["gates"]) fun _ _ _ _ _ _ us hl => match us, hl with | [_], _ => rfl
  obtain ⟨fd_rg, D_rg⟩ := cd.def_ 33 (d := dfn "ring_without_delay" sRg) rfl
  have F_rg : Fun K "ring_without_delay" "ring_without_delay" sRg (He.ga K "ring_without_delay") fd_rg := fun_of D_rg
  have b_rg := F_rg.binds (ps := ["gates"]) fun _ _ _ _ _ _ us hl => match us, hl with | [_], _ => rfl
  obtain ⟨fd_ew, D_ew⟩ := cd.def_ 34 (d := dfn "ends_of_ways" sEw) rfl
  have F_ew : Fun K "ends_of_ways" "ends_of_ways" sEw (He.ga K "ends_of_ways") fd_ew := fun_of D_ew
  have b_ew := F_ew.binds (ps := ["inputs", "gates"]) fun _ _ _ _ _ _ us hl => match us, hl with | [_, _], _ => rfl
  obtain ⟨fd_bw, D_bw⟩ := cd.def_ 35 (d := dfn "beginnings_of_ways" sBw) rfl
  have F_bw : Fun K "beginnings_of_ways" "beginnings_of_ways" sBw (He.ga K "beginnings_of_ways") fd_bw := fun_of D_bw
  have b_bw := F_bw.binds (ps := ["gates", "outs"]) fun _ _ _ _ _ _ us hl => match us, hl with | [_, _], _ => rfl
  obtain ⟨fd_ci, D_ci⟩ := cd.def_ 36 (d := dfn "_check_inputs" sCi) rfl
  have F_ci : Fun K "_check_inputs" "_check_inputs" sCi (He.ga K "_check_inputs") fd_ci := fun_of D_ci
  have b_ci := F_ci.binds (ps := ["inputs", "names"]) fun _ _ _ _ _ _ us hl => match us, hl with | [_, _], _ => rfl
  obtain ⟨fd_cg, D_cg⟩ := cd.def_ 37 (d := dfn "_check_gates" sCgt) rfl
  have F_cg : Fun K "_check_gates" "_check_gates" sCgt (He.ga K "_check_gates") fd_cg := fun_of D_cg
  have b_cg := F_cg.binds (ps := ["gates", "names"]) fun _ _ _ _ _ _ us hl => match us, hl with | [_, _], _ => rfl
  obtain ⟨fd_ct, D_ct⟩ := cd.def_ 38 (d := dfn "check_terms" sCtm) rfl
  have F_ct : Fun K "check_terms" "check_terms" sCtm (He.ga K "check_terms") fd_ct := fun_of D_ct
  have b_ct := F_ct.binds (ps := ["terms"]) fun _ _ _ _ _ _ us hl => match us, hl with | [_], _ => rfl
  obtain ⟨fd_ce, D_ce⟩ := cd.def_ 39 (d := dfn "_check_edges" sCed) rfl
  have F_ce : Fun K "_check_edges" "_check_edges" sCed (He.ga K "_check_edges") fd_ce := fun_of D_ce
  have b_ce := F_ce.binds (ps := ["gates", "outs", "names", "count"]) fun _ _ _ _ _ _ us hl => match us, hl with | [_, _, _, _], _ => rfl
  obtain ⟨fd_cw, D_cw⟩ := cd.def_ 40 (d := dfn "_check_ways" sCwy) rfl
  have F_cw : Fun K "_check_ways" "_check_ways" sCwy (He.ga K "_check_ways") fd_cw := fun_of D_cw
  have b_cw := F_cw.binds (ps := ["inputs", "gates", "outs"]) fun _ _ _ _ _ _ us hl => match us, hl with | [_, _, _], _ => rfl
  obtain ⟨fd_ke, D_ke⟩ := cd.def_ 41 (d := dfn "_kept_edges" sKe) rfl
  have F_ke : Fun K "_kept_edges" "_kept_edges" sKe (He.ga K "_kept_edges") fd_ke := fun_of D_ke
  have b_ke := F_ke.binds (ps := ["edges", "moved"]) fun _ _ _ _ _ _ us hl => match us, hl with | [_, _], _ => rfl
  obtain ⟨fd_ge, D_ge⟩ := cd.def_ 42 (d := dfn "_given_edges" sNge) rfl
  have F_ge : Fun K "_given_edges" "_given_edges" sNge (He.ga K "_given_edges") fd_ge := fun_of D_ge
  have b_ge := F_ge.binds (ps := ["edges"]) fun _ _ _ _ _ _ us hl => match us, hl with | [_], _ => rfl
  obtain ⟨fd_cp, D_cp⟩ := cd.def_ 43 (d := dfn "check_parts" sCp) rfl
  have F_cp : Fun K "check_parts" "check_parts" sCp (He.ga K "check_parts") fd_cp := fun_of D_cp
  have b_cp := F_cp.binds (ps := ["inputs", "gates", "outs", "terms"]) fun _ _ _ _ _ _ us hl => match us, hl with | [_, _, _, _], _ => rfl
  obtain ⟨fd_has, D_has⟩ := cd.def_ 44 (d := dmt "Book" "_has" "Book._has" sBha) rfl
  have F_has : Fun K "_has" "Book._has" sBha (He.fAd K ("Book", some "_has")) fd_has := fun_of D_has
  have b_has := F_has.binds (ps := ["self", "number"]) fun _ _ _ _ _ _ us hl => match us, hl with | [_, _], _ => rfl
  obtain ⟨fd_hasall, D_hasall⟩ := cd.def_ 45 (d := dmt "Book" "_has_all" "Book._has_all" sBhl) rfl
  have F_hasall : Fun K "_has_all" "Book._has_all" sBhl (He.fAd K ("Book", some "_has_all")) fd_hasall := fun_of D_hasall
  have b_hasall := F_hasall.binds (ps := ["self", "numbers"]) fun _ _ _ _ _ _ us hl => match us, hl with | [_, _], _ => rfl
  obtain ⟨fd_req, D_req⟩ := cd.def_ 46 (d := dmt "Book" "_require" "Book._require" sBrq) rfl
  have F_req : Fun K "_require" "Book._require" sBrq (He.fAd K ("Book", some "_require")) fd_req := fun_of D_req
  have b_req := F_req.binds (ps := ["self", "number"]) fun _ _ _ _ _ _ us hl => match us, hl with | [_, _], _ => rfl
  obtain ⟨fd_ent, D_ent⟩ := cd.def_ 47 (d := dmt "Book" "_entered" "Book._entered" sBen) rfl
  have F_ent : Fun K "_entered" "Book._entered" sBen (He.fAd K ("Book", some "_entered")) fd_ent := fun_of D_ent
  have b_ent := F_ent.binds (ps := ["self", "row"]) fun _ _ _ _ _ _ us hl => match us, hl with | [_, _], _ => rfl
  obtain ⟨fd_rows, D_rows⟩ := cd.def_ 48 (d := dmt "Book" "rows" "Book.rows" sBro) rfl
  have F_rows : Fun K "rows" "Book.rows" sBro (He.fAd K ("Book", some "rows")) fd_rows := fun_of D_rows
  have b_rows := F_rows.binds (ps := ["self"]) fun _ _ _ _ _ _ us hl => match us, hl with | [_], _ => rfl
  obtain ⟨fd_len, D_len⟩ := cd.def_ 49 (d := dmt "Book" "__len__" "Book.__len__" sBle) rfl
  have F_len : Fun K "__len__" "Book.__len__" sBle (He.fAd K ("Book", some "__len__")) fd_len := fun_of D_len
  have b_len := F_len.binds (ps := ["self"]) fun _ _ _ _ _ _ us hl => match us, hl with | [_], _ => rfl
  obtain ⟨fd_btake, D_btake⟩ := cd.def_ 50 (d := dmt "Book" "_take" "Book._take" sBtk) rfl
  have F_btake : Fun K "_take" "Book._take" sBtk (He.fAd K ("Book", some "_take")) fd_btake := fun_of D_btake
  have b_btake := F_btake.binds (ps := ["self", "item"]) fun _ _ _ _ _ _ us hl => match us, hl with | [_, _], _ => rfl
  obtain ⟨fd_parts, D_parts⟩ := cd.def_ 51 (d := dmt "Book" "parts" "Book.parts" sPa) rfl
  have F_parts : Fun K "parts" "Book.parts" sPa (He.fAd K ("Book", some "parts")) fd_parts := fun_of D_parts
  have b_parts := F_parts.binds (ps := ["self", "number"]) fun _ _ _ _ _ _ us hl => match us, hl with | [_, _], _ => rfl
  obtain ⟨fd_carry, D_carry⟩ := cd.def_ 52 (d := dmt "Book" "carry" "Book.carry" sCa) rfl
  have F_carry : Fun K "carry" "Book.carry" sCa (He.fAd K ("Book", some "carry")) fd_carry := fun_of D_carry
  have b_carry := F_carry.binds (ps := ["self", "other", "number"]) fun _ _ _ _ _ _ us hl => match us, hl with | [_, _, _], _ => rfl
  obtain ⟨fd_differ, D_differ⟩ := cd.def_ 53 (d := dmt "Book" "differ" "Book.differ" sDf) rfl
  have F_differ : Fun K "differ" "Book.differ" sDf (He.fAd K ("Book", some "differ")) fd_differ := fun_of D_differ
  have b_differ := F_differ.binds (ps := ["self", "one", "other"]) fun _ _ _ _ _ _ us hl => match us, hl with | [_, _, _], _ => rfl
  obtain ⟨fd_comp, D_comp⟩ := cd.def_ 54 (d := dmt "Book" "_compared" "Book._compared" sCm) rfl
  have F_comp : Fun K "_compared" "Book._compared" sCm (He.fAd K ("Book", some "_compared")) fd_comp := fun_of D_comp
  have b_comp := F_comp.binds (ps := ["self", "one", "other"]) fun _ _ _ _ _ _ us hl => match us, hl with | [_, _, _], _ => rfl
  obtain ⟨fd_ni, D_ni⟩ := cd.def_ 55 (d := dmt "Book" "__init__" "Book.__init__" sBni [.adr (He.dflAt ("Book", some "__init__") 0)]) rfl
  have F_ni : FunD K "__init__" "Book.__init__" (defArgs sBni) (defBody sBni) (defScope sBni) [.ref (He.dflAt ("Book", some "__init__") 0 K)] [] (He.fAd K ("Book", some "__init__")) fd_ni := D_ni
  obtain ⟨ds_ni, v_ni, b_ni⟩ := F_ni.binds1 (ps := ["self", "rows"]) 1 0 (List.cons_ne_nil _ _) rfl fun T kV doc pm an cdv ct us its h1 h2 => match us, its, h1, h2 with | [_], [_], _, _ => ⟨_, rfl, rfl⟩
  obtain ⟨ds_n2, v_n2, b_n2⟩ := F_ni.binds1 (ps := ["self", "rows"]) 2 1 (List.cons_ne_nil _ _) rfl fun T kV doc pm an cdv ct us its h1 h2 => match us, its, h1, h2 with | [_, _], [_], _, _ => ⟨_, rfl, rfl⟩
  obtain ⟨fd_tti, D_tti⟩ := cd.def_ 56 (d := dmt "TermTable" "__init__" "TermTable.__init__" sTti) rfl
  have F_tti : Fun K "__init__" "TermTable.__init__" sTti (He.fAd K ("TermTable", some "__init__")) fd_tti := fun_of D_tti
  have b_tti := F_tti.binds (ps := ["self"]) fun _ _ _ _ _ _ us hl => match us, hl with | [_], _ => rfl
  obtain ⟨fd_tte, D_tte⟩ := cd.def_ 57 (d := dmt "TermTable" "enter_terms" "TermTable.enter_terms" sTte) rfl
  have F_tte : Fun K "enter_terms" "TermTable.enter_terms" sTte (He.fAd K ("TermTable", some "enter_terms")) fd_tte := fun_of D_tte
  have b_tte := F_tte.binds (ps := ["self", "terms"]) fun _ _ _ _ _ _ us hl => match us, hl with | [_, _], _ => rfl
  obtain ⟨fd_ttu, D_ttu⟩ := cd.def_ 58 (d := dmt "TermTable" "used" "TermTable.used" sTtu) rfl
  have F_ttu : Fun K "used" "TermTable.used" sTtu (He.fAd K ("TermTable", some "used")) fd_ttu := fun_of D_ttu
  have b_ttu := F_ttu.binds (ps := ["self", "numbers"]) fun _ _ _ _ _ _ us hl => match us, hl with | [_, _], _ => rfl
  obtain ⟨fd_nn, D_nn⟩ := cd.def_ 59 (d := dmt "Net" "__init__" "Net.__init__" sNi [.adr (He.dflAt ("Net", some "__init__") 0)]) rfl
  have F_nn : FunD K "__init__" "Net.__init__" (defArgs sNi) (defBody sNi) (defScope sNi) [.ref (He.dflAt ("Net", some "__init__") 0 K)] [] (He.fAd K ("Net", some "__init__")) fd_nn := D_nn
  obtain ⟨ds_nn, v_nn, b_nn⟩ := F_nn.binds1 (ps := ["self", "inputs", "gates", "outs", "terms"]) 4 0 (List.cons_ne_nil _ _) rfl fun T kV doc pm an cdv ct us its h1 h2 => match us, its, h1, h2 with | [_, _, _, _], [_], _, _ => ⟨_, rfl, rfl⟩
  obtain ⟨fd_nte, D_nte⟩ := cd.def_ 60 (d := dmt "Net" "terms" "Net.terms" sNte) rfl
  have F_nte : Fun K "terms" "Net.terms" sNte (He.fAd K ("Net", some "terms")) fd_nte := fun_of D_nte
  have b_nte := F_nte.binds (ps := ["self"]) fun _ _ _ _ _ _ us hl => match us, hl with | [_], _ => rfl
  obtain ⟨fd_nin, D_nin⟩ := cd.def_ 61 (d := dmt "Net" "inputs" "Net.inputs" sNin) rfl
  have F_nin : Fun K "inputs" "Net.inputs" sNin (He.fAd K ("Net", some "inputs")) fd_nin := fun_of D_nin
  have b_nin := F_nin.binds (ps := ["self"]) fun _ _ _ _ _ _ us hl => match us, hl with | [_], _ => rfl
  obtain ⟨fd_nou, D_nou⟩ := cd.def_ 62 (d := dmt "Net" "outs" "Net.outs" sNou) rfl
  have F_nou : Fun K "outs" "Net.outs" sNou (He.fAd K ("Net", some "outs")) fd_nou := fun_of D_nou
  have b_nou := F_nou.binds (ps := ["self"]) fun _ _ _ _ _ _ us hl => match us, hl with | [_], _ => rfl
  obtain ⟨fd_nro, D_nro⟩ := cd.def_ 63 (d := dmt "Net" "rows" "Net.rows" sNro) rfl
  have F_nro : Fun K "rows" "Net.rows" sNro (He.fAd K ("Net", some "rows")) fd_nro := fun_of D_nro
  have b_nro := F_nro.binds (ps := ["self"]) fun _ _ _ _ _ _ us hl => match us, hl with | [_], _ => rfl
  obtain ⟨fd_neq, D_neq⟩ := cd.def_ 64 (d := dmt "Net" "__eq__" "Net.__eq__" sNeq) rfl
  have F_neq : Fun K "__eq__" "Net.__eq__" sNeq (He.fAd K ("Net", some "__eq__")) fd_neq := fun_of D_neq
  have b_neq := F_neq.binds (ps := ["self", "other"]) fun _ _ _ _ _ _ us hl => match us, hl with | [_, _], _ => rfl
  obtain ⟨fd_eB, D_eB⟩ := cd.def_ 65 (d := dmt "InvalidBook" "__init__" "InvalidBook.__init__" sEB) rfl
  have F_eB : Fun K "__init__" "InvalidBook.__init__" sEB (He.fAd K ("InvalidBook", some "__init__")) fd_eB := fun_of D_eB
  have b_eB := F_eB.binds (ps := ["self", "value"]) fun _ _ _ _ _ _ us hl => match us, hl with | [_, _], _ => rfl
  obtain ⟨fd_eU, D_eU⟩ := cd.def_ 66 (d := dmt "UnknownTerm" "__init__" "UnknownTerm.__init__" sEU) rfl
  have F_eU : Fun K "__init__" "UnknownTerm.__init__" sEU (He.fAd K ("UnknownTerm", some "__init__")) fd_eU := fun_of D_eU
  have b_eU := F_eU.binds (ps := ["self", "number"]) fun _ _ _ _ _ _ us hl => match us, hl with | [_, _], _ => rfl
  obtain ⟨fd_eP, D_eP⟩ := cd.def_ 67 (d := dmt "InvalidPart" "__init__" "InvalidPart.__init__" sEP) rfl
  have F_eP : Fun K "__init__" "InvalidPart.__init__" sEP (He.fAd K ("InvalidPart", some "__init__")) fd_eP := fun_of D_eP
  have b_eP := F_eP.binds (ps := ["self", "value"]) fun _ _ _ _ _ _ us hl => match us, hl with | [_, _], _ => rfl
  obtain ⟨fd_eN, D_eN⟩ := cd.def_ 68 (d := dmt "InvalidName" "__init__" "InvalidName.__init__" sEN) rfl
  have F_eN : Fun K "__init__" "InvalidName.__init__" sEN (He.fAd K ("InvalidName", some "__init__")) fd_eN := fun_of D_eN
  have b_eN := F_eN.binds (ps := ["self", "value"]) fun _ _ _ _ _ _ us hl => match us, hl with | [_, _], _ => rfl
  obtain ⟨fd_eR, D_eR⟩ := cd.def_ 69 (d := dmt "InvalidRow" "__init__" "InvalidRow.__init__" sER) rfl
  have F_eR : Fun K "__init__" "InvalidRow.__init__" sER (He.fAd K ("InvalidRow", some "__init__")) fd_eR := fun_of D_eR
  have b_eR := F_eR.binds (ps := ["self", "value"]) fun _ _ _ _ _ _ us hl => match us, hl with | [_, _], _ => rfl
  have e := hfa.symm.trans (He.glo_ok X G (cd.fact 108 (f := .glo "law") rfl))
  cases e
  unfold exB at ex
  simp only [Bool.and_eq_true] at ex
  obtain ⟨x_gl, x_emB, x_emN, x_insB, x_insN, x_nb, x_eB, x_eU, x_eP, x_eN, x_eR, x_xe⟩ := ex
  refine ⟨fd_law, fun s v => ?_, fun base _ _ => ?_⟩
  · obtain ⟨oc, od, kV, doc, pm, an, cdv, ct, osl, rfl, lk, hcd⟩ := F_law.ex
    exact .of_eq rfl
  · have eTB := emB_ok x_emB
    have eTN := emB_ok x_emN
    have TV : TxtV mg := ⟨He.free_ok X G (cd.fact 0 (f := .free "isinstance") rfl), He.free_ok X G (cd.fact 1 (f := .free "int") rfl), He.free_ok X G (cd.fact 2 (f := .free "bool") rfl), He.free_ok X G (cd.fact 3 (f := .free "str") rfl), He.free_ok X G (cd.fact 4 (f := .free "list") rfl), He.free_ok X G (cd.fact 5 (f := .free "tuple") rfl), He.free_ok X G (cd.fact 6 (f := .free "len") rfl), He.free_ok X G (cd.fact 7 (f := .free "all") rfl), He.free_ok X G (cd.fact 8 (f := .free "enumerate") rfl), rel_str (He.str_ok X G (cd.fact 9 (f := .str "LETTERS" "abcdefghijklmnopqrstuvwxyz") rfl)), rel_str (He.str_ok X G (cd.fact 10 (f := .str "DIGITS" "0123456789") rfl)), rel_int (He.int_ok X G (cd.fact 11 (f := .int "LONGEST_NAME" 8) rfl)), rel_int (He.int_ok X G (cd.fact 12 (f := .int "MOST_ARGUMENTS" 3) rfl))⟩
    have TL : TxtL mg := ⟨He.free_ok X G (cd.fact 13 (f := .free "range") rfl), He.free_ok X G (cd.fact 6 (f := .free "len") rfl), He.free_ok X G (cd.fact 14 (f := .free "max") rfl), He.free_ok X G (cd.fact 15 (f := .free "min") rfl), He.free_ok X G (cd.fact 0 (f := .free "isinstance") rfl), He.free_ok X G (cd.fact 1 (f := .free "int") rfl), He.free_ok X G (cd.fact 2 (f := .free "bool") rfl), He.free_ok X G (cd.fact 4 (f := .free "list") rfl), He.free_ok X G (cd.fact 5 (f := .free "tuple") rfl), He.free_ok X G (cd.fact 16 (f := .free "repr") rfl), He.free_ok X G (cd.fact 17 (f := .free "set") rfl), He.free_ok X G (cd.fact 18 (f := .free "sorted") rfl)⟩
    have TM : TxtM mg := ⟨He.free_ok X G (cd.fact 19 (f := .free "sum") rfl), He.free_ok X G (cd.fact 14 (f := .free "max") rfl)⟩
    have TN : TxtN mg := ⟨He.free_ok X G (cd.fact 4 (f := .free "list") rfl), He.free_ok X G (cd.fact 6 (f := .free "len") rfl), He.free_ok X G (cd.fact 8 (f := .free "enumerate") rfl)⟩
    have TB : TxtBk K (He.ga K "Book") := ⟨He.cls_ok (cd.fact 20 (f := .cls "Book") rfl), fun f hf => by
      simp only [List.mem_cons, List.not_mem_nil, or_false] at hf
      rcases hf with rfl | rfl | rfl | rfl | rfl
      · exact He.noat_ok (cd.fact 21 (f := .noat "Book" "_rows") rfl)
      · exact He.noat_ok (cd.fact 22 (f := .noat "Book" "_numbers") rfl)
      · exact He.noat_ok (cd.fact 23 (f := .noat "Book" "_sizes") rfl)
      · exact He.noat_ok (cd.fact 24 (f := .noat "Book" "_depths") rfl)
      · exact He.noat_ok (cd.fact 25 (f := .noat "Book" "_lengths") rfl)⟩
    have tNt : TxtNt K (He.ga K "Net") := ⟨He.cls_ok (cd.fact 26 (f := .cls "Net") rfl), fun f hf => by
      simp only [List.mem_cons, List.not_mem_nil, or_false] at hf
      rcases hf with rfl | rfl | rfl | rfl | rfl | rfl
      · exact He.noat_ok (cd.fact 27 (f := .noat "Net" "_terms") rfl)
      · exact He.noat_ok (cd.fact 28 (f := .noat "Net" "_inputs") rfl)
      · exact He.noat_ok (cd.fact 29 (f := .noat "Net" "_names") rfl)
      · exact He.noat_ok (cd.fact 30 (f := .noat "Net" "_symbols") rfl)
      · exact He.noat_ok (cd.fact 31 (f := .noat "Net" "_edges") rfl)
      · exact He.noat_ok (cd.fact 32 (f := .noat "Net" "_outs") rfl)⟩
    have iB := insB_ok x_gl TB.cl x_insB
    have iN := insB_ok x_gl tNt.cl x_insN
    obtain ⟨TXB, TC⟩ := nbB_ok x_nb iB
    have eB := excB_ok x_gl x_eB
    have eU := excB_ok x_gl x_eU
    have eP := excB_ok x_gl x_eP
    have eN := excB_ok x_gl x_eN
    have eR := excB_ok x_gl x_eR
    have TE : TxtE K (He.ga K "InvalidBook") (He.ga K "UnknownTerm") := xeB_ok x_xe eB.ex eU.ex (eB.no _ (by simp)) (eU.no _ (by simp))
    have XB : Cx1 l.prog w K mg base "InvalidBook" (He.ga K "InvalidBook") 1 [] (spI (He.ga K "InvalidBook") ["value"]) (fun vs _ => vs) := ⟨⟨_, _, _, _, eB.ex, He.glo_ok X G (cd.fact 33 (f := .glo "InvalidBook") rfl), eB.ini, eB.fn, ok_EB F_eB eB.ex (eB.no _ (by simp)), kb_of F_eB (fun _ _ _ _ _ _ us ws l1 l2 => match us, ws, l1, l2 with | [_, _], [], _, _ => rfl) (g := fun us _ => us) fun r1 r2 => r1⟩⟩
    have XU : Cx1 l.prog w K mg base "UnknownTerm" (He.ga K "UnknownTerm") 1 [] (spI (He.ga K "UnknownTerm") ["number"]) (fun vs _ => vs) := ⟨⟨_, _, _, _, eU.ex, He.glo_ok X G (cd.fact 34 (f := .glo "UnknownTerm") rfl), eU.ini, eU.fn, ok_EU F_eU eU.ex (eU.no _ (by simp)), kb_of F_eU (fun _ _ _ _ _ _ us ws l1 l2 => match us, ws, l1, l2 with | [_, _], [], _, _ => rfl) (g := fun us _ => us) fun r1 r2 => r1⟩⟩
    have XP : Cx1 l.prog w K mg base "InvalidPart" (He.ga K "InvalidPart") 1 [] (spI (He.ga K "InvalidPart") ["value"]) (fun vs _ => vs) := ⟨⟨_, _, _, _, eP.ex, He.glo_ok X G (cd.fact 35 (f := .glo "InvalidPart") rfl), eP.ini, eP.fn, ok_EP F_eP eP.ex (eP.no _ (by simp)), kb_of F_eP (fun _ _ _ _ _ _ us ws l1 l2 => match us, ws, l1, l2 with | [_, _], [], _, _ => rfl) (g := fun us _ => us) fun r1 r2 => r1⟩⟩
    have XN : Cx1 l.prog w K mg base "InvalidName" (He.ga K "InvalidName") 1 [] (spI (He.ga K "InvalidName") ["value"]) (fun vs _ => vs) := ⟨⟨_, _, _, _, eN.ex, He.glo_ok X G (cd.fact 36 (f := .glo "InvalidName") rfl), eN.ini, eN.fn, ok_EN F_eN eN.ex (eN.no _ (by simp)), kb_of F_eN (fun _ _ _ _ _ _ us ws l1 l2 => match us, ws, l1, l2 with | [_, _], [], _, _ => rfl) (g := fun us _ => us) fun r1 r2 => r1⟩⟩
    have XR : Cx1 l.prog w K mg base "InvalidRow" (He.ga K "InvalidRow") 1 [] (spI (He.ga K "InvalidRow") ["value"]) (fun vs _ => vs) := ⟨⟨_, _, _, _, eR.ex, He.glo_ok X G (cd.fact 37 (f := .glo "InvalidRow") rfl), eR.ini, eR.fn, ok_ER F_eR eR.ex (eR.no _ (by simp)), kb_of F_eR (fun _ _ _ _ _ _ us ws l1 l2 => match us, ws, l1, l2 with | [_, _], [], _, _ => rfl) (g := fun us _ => us) fun r1 r2 => r1⟩⟩
    have cW : Cg l.prog w K mg base 1 "is_whole" (spWhole K) := .mk' F_whole (ok_whole F_whole TV) (He.glo_ok X G (cd.fact 38 (f := .glo "is_whole") rfl)) b_whole
    have cI : Cg l.prog w K mg base 2 "is_integer" (spInteger K) := .mk' F_integer (ok_integer F_integer cW) (He.glo_ok X G (cd.fact 39 (f := .glo "is_integer") rfl)) b_integer
    have cL : Cg l.prog w K mg base 1 "is_list" (spList K) := .mk' F_list (ok_list F_list TV) (He.glo_ok X G (cd.fact 40 (f := .glo "is_list") rfl)) b_list
    have cN : Cg l.prog w K mg base 1 "is_name" (spName K) := .mk' F_name (ok_name F_name TV) (He.glo_ok X G (cd.fact 41 (f := .glo "is_name") rfl)) b_name
    have cU : Cg l.prog w K mg base 2 "_is_turn" (spTurn K) := .mk' F_turn (ok_turn F_turn cW) (He.glo_ok X G (cd.fact 42 (f := .glo "_is_turn") rfl)) b_turn
    have cA : Cg l.prog w K mg base 2 "arguments_of" (spArgs K) := .mk' F_args (ok_args F_args cL) (He.glo_ok X G (cd.fact 43 (f := .glo "arguments_of") rfl)) b_args
    have cV : Cg l.prog w K mg base 2 "moved_row" (spMoved K) := .mk' F_moved (ok_moved F_moved TV cL) (He.glo_ok X G (cd.fact 44 (f := .glo "moved_row") rfl)) b_moved
    have cF : Cg l.prog w K mg base 3 "_has_row_form" (spForm K) := .mk' F_form (ok_form F_form TV cL cU) (He.glo_ok X G (cd.fact 45 (f := .glo "_has_row_form") rfl)) b_form
    have cK : Cg l.prog w K mg base 2 "_kept_row" (spKept K) := .mk' F_kept (ok_kept F_kept TV cL) (He.glo_ok X G (cd.fact 46 (f := .glo "_kept_row") rfl)) b_kept
    have cT : Cg l.prog w K mg base 2 "_row_text" (spRowText K) := .mk' F_rtext (ok_rtext F_rtext cL) (He.glo_ok X G (cd.fact 47 (f := .glo "_row_text") rfl)) b_rtext
    have cFu : Cg l.prog w K mg base 1 "_first_unlike" (spFirst K) := .mk' F_first (ok_first F_first) (He.glo_ok X G (cd.fact 48 (f := .glo "_first_unlike") rfl)) b_first
    have mH : Ct l.prog w K mg base 3 (He.ga K "Book") "_has" [] (spHas l.prog w K (He.ga K "Book")) := ⟨⟨_, _, _, _, TB.cl, He.meth_ok (cd.fact 49 (f := .meth "Book" "_has") rfl), ok_has F_has TV TB cI, b_has, .nil⟩⟩
    have mA : Ct l.prog w K mg base 4 (He.ga K "Book") "_has_all" [] (spHasAll l.prog w K (He.ga K "Book")) := ⟨⟨_, _, _, _, TB.cl, He.meth_ok (cd.fact 50 (f := .meth "Book" "_has_all") rfl), ok_hasall F_hasall TV TB mH, b_hasall, .nil⟩⟩
    have mR : Ctr l.prog w K mg base 4 (He.ga K "Book") "_require" [] (spReq l.prog w K (He.ga K "Book") (He.ga K "UnknownTerm")) := ⟨⟨_, _, _, _, TB.cl, He.meth_ok (cd.fact 51 (f := .meth "Book" "_require") rfl), ok_req F_req mH XU, b_req, .nil⟩⟩
    have mE : Ct l.prog w K mg base 3 (He.ga K "Book") "_entered" [] (spEnt l.prog w K (He.ga K "Book")) := ⟨⟨_, _, _, _, TB.cl, He.meth_ok (cd.fact 52 (f := .meth "Book" "_entered") rfl), ok_ent F_ent TV TM TB cA cT, b_ent, .nil⟩⟩
    have mW : Ct l.prog w K mg base 1 (He.ga K "Book") "rows" [] (spRows l.prog w K (He.ga K "Book")) := ⟨⟨_, _, _, _, TB.cl, He.meth_ok (cd.fact 53 (f := .meth "Book" "rows") rfl), ok_rows F_rows TV TB, b_rows, .nil⟩⟩
    have mL : Ct l.prog w K mg base 1 (He.ga K "Book") "__len__" [] (spLen l.prog w K (He.ga K "Book")) := ⟨⟨_, _, _, _, TB.cl, He.meth_ok (cd.fact 54 (f := .meth "Book" "__len__") rfl), ok_len F_len TV TB, b_len, .nil⟩⟩
    have mT : Ctr l.prog w K mg base 5 (He.ga K "Book") "_take" [] (spTakeB l.prog w K (He.ga K "Book") (He.ga K "InvalidRow") (He.ga K "InvalidName")) := ⟨⟨_, _, _, _, TB.cl, He.meth_ok (cd.fact 55 (f := .meth "Book" "_take") rfl), ok_btake F_btake TB cF cN cA cK mA mE XR XN, b_btake, .nil⟩⟩
    have mPa : Ctr l.prog w K mg base 5 (He.ga K "Book") "parts" [] (spParts l.prog w K (He.ga K "Book") (He.ga K "UnknownTerm")) := ⟨⟨_, _, _, _, TB.cl, He.meth_ok (cd.fact 56 (f := .meth "Book" "parts") rfl), ok_parts F_parts TV (He.free_ok X G (cd.fact 18 (f := .free "sorted") rfl)) TB cA mR, b_parts, .nil⟩⟩
    have mCa : Ctr l.prog w K mg base 6 (He.ga K "Book") "carry" [] (spCarry l.prog w K (He.ga K "Book") (He.ga K "InvalidBook") (He.ga K "UnknownTerm")) := ⟨⟨_, _, _, _, TB.cl, He.meth_ok (cd.fact 58 (f := .meth "Book" "carry") rfl), ok_carry F_carry TV (He.glo_ok X G (cd.fact 57 (f := .glo "Book") rfl)) TB cV mPa mE XB, b_carry, .nil⟩⟩
    have mCo : Ct l.prog w K mg base 3 (He.ga K "Book") "_compared" [] (spCompared l.prog w K (He.ga K "Book")) := ⟨⟨_, _, _, _, TB.cl, He.meth_ok (cd.fact 59 (f := .meth "Book" "_compared") rfl), ok_compared F_comp TV TB cA, b_comp, .nil⟩⟩
    have mDf : Ctr l.prog w K mg base 5 (He.ga K "Book") "differ" [] (spDiffer l.prog w K (He.ga K "Book") (He.ga K "UnknownTerm")) := ⟨⟨_, _, _, _, TB.cl, He.meth_ok (cd.fact 60 (f := .meth "Book" "differ") rfl), ok_differ F_differ TB cFu mCo mR, b_differ, .nil⟩⟩
    have gRt : Cgr l.prog w K mg base 5 "_require_term" [] (spReqT l.prog w K (He.ga K "Book") (He.ga K "InvalidBook") (He.ga K "UnknownTerm")) := ⟨⟨_, _, _, _, ok_reqterm F_reqt TV (He.glo_ok X G (cd.fact 57 (f := .glo "Book") rfl)) mR XB, He.glo_ok X G (cd.fact 61 (f := .glo "_require_term") rfl), F_reqt.kp, b_reqt, .nil⟩⟩
    have gSm : Cgr l.prog w K mg base 6 "same_term" [] (spSame l.prog w K (He.ga K "Book") (He.ga K "InvalidBook") (He.ga K "UnknownTerm")) := ⟨⟨_, _, _, _, ok_same F_same TB gRt cV mPa, He.glo_ok X G (cd.fact 62 (f := .glo "same_term") rfl), F_same.kp, b_same, .nil⟩⟩
    have CM0 : Cmr l.prog w K mg base 6 "Book" (He.ga K "Book") [.ref (He.dflAt ("Book", some "__init__") 0 K)] (spInitB l.prog w K (He.ga K "Book") (He.ga K "InvalidPart") (He.ga K "InvalidRow") (He.ga K "InvalidName")) := ⟨⟨_, _, _, _, He.mkr_ok (cd.fact 63 (f := .mkr "Book") rfl), ok_init F_ni TB cL mT XP, He.glo_ok X G (cd.fact 57 (f := .glo "Book") rfl), b_ni, v_ni⟩⟩
    have CM : Cmr l.prog w K mg base 6 "Book" (He.ga K "Book") [] (spInitB l.prog w K (He.ga K "Book") (He.ga K "InvalidPart") (He.ga K "InvalidRow") (He.ga K "InvalidName")) := ⟨⟨_, _, _, _, He.mkr_ok (cd.fact 63 (f := .mkr "Book") rfl), ok_init F_ni TB cL mT XP, He.glo_ok X G (cd.fact 57 (f := .glo "Book") rfl), b_n2, v_n2⟩⟩
    have c_je : Cg l.prog w K mg base 1 "joined_edges" (spE2L K) := .mk' F_je (ok_Je F_je TN) (He.glo_ok X G (cd.fact 64 (f := .glo "joined_edges") rfl)) b_je
    have c_as : Cg l.prog w K mg base 2 "all_starts" (spE2L K) := .mk' F_as (ok_As F_as c_je) (He.glo_ok X G (cd.fact 65 (f := .glo "all_starts") rfl)) b_as
    have c_ds : Cg l.prog w K mg base 1 "_direct_sources" (spE1D K) := .mk' F_ds (ok_Ds F_ds) (He.glo_ok X G (cd.fact 66 (f := .glo "_direct_sources") rfl)) b_ds
    have c_sp : Cg l.prog w K mg base 1 "_spread" (spEXD K) := .mk' F_sp (ok_Sp F_sp TN) (He.glo_ok X G (cd.fact 67 (f := .glo "_spread") rfl)) b_sp
    have c_wo : Cg l.prog w K mg base 2 "working_order" (spE1L K) := .mk' F_wo (ok_Wo F_wo TN c_ds) (He.glo_ok X G (cd.fact 68 (f := .glo "working_order") rfl)) b_wo
    have c_rg : Cg l.prog w K mg base 3 "ring_without_delay" (spE1L K) := .mk' F_rg (ok_Rg F_rg c_wo) (He.glo_ok X G (cd.fact 69 (f := .glo "ring_without_delay") rfl)) b_rg
    have c_ew : Cg l.prog w K mg base 2 "ends_of_ways" (spE2D K) := .mk' F_ew (ok_Ew F_ew c_sp) (He.glo_ok X G (cd.fact 70 (f := .glo "ends_of_ways") rfl)) b_ew
    have c_bw : Cg l.prog w K mg base 2 "beginnings_of_ways" (spE2D K) := .mk' F_bw (ok_Bw F_bw c_sp) (He.glo_ok X G (cd.fact 71 (f := .glo "beginnings_of_ways") rfl)) b_bw
    have c_ci : Cg l.prog w K mg base 1 "_check_inputs" (spEXN K) := .mk' F_ci (ok_Ci F_ci) (He.glo_ok X G (cd.fact 72 (f := .glo "_check_inputs") rfl)) b_ci
    have c_cg : Cg l.prog w K mg base 1 "_check_gates" (spEXN K) := .mk' F_cg (ok_Cgt F_cg) (He.glo_ok X G (cd.fact 73 (f := .glo "_check_gates") rfl)) b_cg
    have c_ct : Cg l.prog w K mg base 1 "check_terms" (spE1N K) := .mk' F_ct (ok_Ctm F_ct TN) (He.glo_ok X G (cd.fact 74 (f := .glo "check_terms") rfl)) b_ct
    have c_ce : Cg l.prog w K mg base 1 "_check_edges" (spE2X2N K) := .mk' F_ce (ok_Ced F_ce) (He.glo_ok X G (cd.fact 75 (f := .glo "_check_edges") rfl)) b_ce
    have c_cw : Cg l.prog w K mg base 4 "_check_ways" (spE3N K) := .mk' F_cw (ok_Cwy F_cw c_rg c_ew c_bw) (He.glo_ok X G (cd.fact 76 (f := .glo "_check_ways") rfl)) b_cw
    have c_ke : Cg l.prog w K mg base 1 "_kept_edges" (spEXL K) := .mk' F_ke (ok_Ke F_ke) (He.glo_ok X G (cd.fact 77 (f := .glo "_kept_edges") rfl)) b_ke
    have c_ge : Cg l.prog w K mg base 1 "_given_edges" (spGE K) := .mk' F_ge (ok_Nge F_ge) (He.glo_ok X G (cd.fact 78 (f := .glo "_given_edges") rfl)) b_ge
    have c_cp : Cg l.prog w K mg base 5 "check_parts" (spE4N K) := .mk' F_cp (ok_Cp F_cp cL c_ci c_cg c_ct c_ce c_cw TN) (He.glo_ok X G (cd.fact 79 (f := .glo "check_parts") rfl)) b_cp
    have tT : TxtT K (He.ga K "TermTable") := ⟨He.cls_ok (cd.fact 80 (f := .cls "TermTable") rfl), He.noat_ok (cd.fact 81 (f := .noat "TermTable" "_listed") rfl), He.noat_ok (cd.fact 82 (f := .noat "TermTable" "_places") rfl)⟩
    have mTt : Cm l.prog w K mg base 1 "TermTable" (He.ga K "TermTable") [] (spTt (He.ga K "TermTable")) := ⟨⟨_, _, _, _, He.mkr_ok (cd.fact 83 (f := .mkr "TermTable") rfl), ok_Tti F_tti tT, He.glo_ok X G (cd.fact 84 (f := .glo "TermTable") rfl), b_tti, .nil⟩⟩
    have mTe : Ct l.prog w K mg base 1 (He.ga K "TermTable") "enter_terms" [] (spTe K) := ⟨⟨_, _, _, _, tT.cl, He.meth_ok (cd.fact 85 (f := .meth "TermTable" "enter_terms") rfl), ok_Tte (C := 0) F_tte, b_tte, .nil⟩⟩
    have mTu : Ct l.prog w K mg base 1 (He.ga K "TermTable") "used" [] (spTu K) := ⟨⟨_, _, _, _, tT.cl, He.meth_ok (cd.fact 86 (f := .meth "TermTable" "used") rfl), ok_Ttu (C := 0) F_ttu, b_ttu, .nil⟩⟩
    have mN : Cm l.prog w K mg base 6 "Net" (He.ga K "Net") [.ref (He.dflAt ("Net", some "__init__") 0 K)] (spNt K (He.ga K "Net")) := ⟨⟨_, _, _, _, He.mkr_ok (cd.fact 87 (f := .mkr "Net") rfl), ok_Ni F_nn tNt TN c_cp mTt mTe mTu c_as c_ke, He.glo_ok X G (cd.fact 88 (f := .glo "Net") rfl), b_nn, v_nn⟩⟩
    have nTe : Ct l.prog w K mg base 1 (He.ga K "Net") "terms" [] (spNL (He.ga K "Net")) := ⟨⟨_, _, _, _, tNt.cl, He.meth_ok (cd.fact 89 (f := .meth "Net" "terms") rfl), ok_Nte F_nte tNt TL.list, b_nte, .nil⟩⟩
    have nIn : Ct l.prog w K mg base 1 (He.ga K "Net") "inputs" [] (spNL (He.ga K "Net")) := ⟨⟨_, _, _, _, tNt.cl, He.meth_ok (cd.fact 90 (f := .meth "Net" "inputs") rfl), ok_Nin F_nin tNt TL.list, b_nin, .nil⟩⟩
    have nOu : Ct l.prog w K mg base 2 (He.ga K "Net") "outs" [] (spNL (He.ga K "Net")) := ⟨⟨_, _, _, _, tNt.cl, He.meth_ok (cd.fact 91 (f := .meth "Net" "outs") rfl), ok_Nou F_nou tNt c_ge, b_nou, .nil⟩⟩
    have nRo : Ct l.prog w K mg base 3 (He.ga K "Net") "rows" [] (spNR K (He.ga K "Net")) := ⟨⟨_, _, _, _, tNt.cl, He.meth_ok (cd.fact 92 (f := .meth "Net" "rows") rfl), ok_Nro F_nro tNt nIn nOu nTe, b_nro, .nil⟩⟩
    have nEq : Ct l.prog w K mg base 4 (He.ga K "Net") "__eq__" [] (spNE K (He.ga K "Net")) := ⟨⟨_, _, _, _, tNt.cl, He.meth_ok (cd.fact 93 (f := .meth "Net" "__eq__") rfl), ok_Neq F_neq TL.isinstance (He.glo_ok X G (cd.fact 88 (f := .glo "Net") rfl)) nRo, b_neq, .nil⟩⟩
    have CE : Cg l.prog w K mg base 1 "_law_cell" (Tp.spCellT K) := .mk' F_cell (ok_cell F_cell TL.len) (He.glo_ok X G (cd.fact 94 (f := .glo "_law_cell") rfl)) b_cell
    have BX : Cg l.prog w K mg base 1 "_law_box" spBox := .mk' F_box (ok_box F_box TL.max) (He.glo_ok X G (cd.fact 95 (f := .glo "_law_box") rfl)) b_box
    have TK : Cg l.prog w K mg base 1 "_law_take" spTake := .mk' F_take (ok_take F_take) (He.glo_ok X G (cd.fact 96 (f := .glo "_law_take") rfl)) b_take
    have LB : Cg l.prog w K mg base 2 "_law_label" spLab := .mk' F_label (ok_Lb F_label TL TK) (He.glo_ok X G (cd.fact 97 (f := .glo "_law_label") rfl)) b_label
    have RW : Cg l.prog w K mg base 3 "_law_rows" (spRowsD K) := .mk' F_lrows (ok_Rw F_lrows TL TK LB) (He.glo_ok X G (cd.fact 98 (f := .glo "_law_rows") rfl)) b_lrows
    have PL : Cg l.prog w K mg base 1 "_law_parts" (spPartsL K) := .mk' F_lparts (ok_Pl F_lparts TL) (He.glo_ok X G (cd.fact 99 (f := .glo "_law_parts") rfl)) b_lparts
    have OT : Cg l.prog w K mg base 3 "_law_other_rows" (spOtherD K) := .mk' F_loth (ok_Ol F_loth TL TK LB) (He.glo_ok X G (cd.fact 100 (f := .glo "_law_other_rows") rfl)) b_loth
    have CL : Cg l.prog w K mg base 2 "_law_carried" (spCarL K) := .mk' F_lcar (ok_Cl F_lcar TL PL) (He.glo_ok X G (cd.fact 101 (f := .glo "_law_carried") rfl)) b_lcar
    have SL : Cg l.prog w K mg base 1 "_law_slots" (spSlotsL K) := .mk' F_lslots (ok_Sl F_lslots TL) (He.glo_ok X G (cd.fact 102 (f := .glo "_law_slots") rfl)) b_lslots
    have AS : Cgr l.prog w K mg base 7 "_law_asked" [] (spAsked l.prog w K (He.ga K "Book") (He.ga K "InvalidBook") (He.ga K "UnknownTerm")) := ⟨⟨_, _, _, _, ok_Kd F_lask mCa mDf gSm, He.glo_ok X G (cd.fact 103 (f := .glo "_law_asked") rfl), F_lask.kp, b_lask, .nil⟩⟩
    have TO : Cg l.prog w K mg base 8 "_law_told" (spTold l.prog w K (He.ga K "Book") (He.ga K "InvalidBook") (He.ga K "UnknownTerm")) := .mk' F_ltold (ok_To F_ltold TE (He.glo_ok X G (cd.fact 33 (f := .glo "InvalidBook") rfl)) (He.glo_ok X G (cd.fact 34 (f := .glo "UnknownTerm") rfl)) AS) (He.glo_ok X G (cd.fact 104 (f := .glo "_law_told") rfl)) b_ltold
    have IS : Cg l.prog w K mg base 5 "_law_is" (spIs K (He.ga K "Net")) := .mk' F_lis (ok_Iz F_lis TL nEq) (He.glo_ok X G (cd.fact 105 (f := .glo "_law_is") rfl)) b_lis
    have PR : Cg l.prog w K mg base 7 "_law_pairs_right" (spPairs l.prog w K (He.ga K "Book")) := .mk' F_lpairs (ok_Pr F_lpairs TL TC TK SL CL mDf gSm mW) (He.glo_ok X G (cd.fact 106 (f := .glo "_law_pairs_right") rfl)) b_lpairs
    have RF : Cg l.prog w K mg base 9 "_law_refusals_right" (spRefs l.prog w K (He.ga K "Book")) := .mk' F_lref (ok_Rr F_lref TL TC TXB iN iB eTB eTN TO IS mN CM0 mW mL) (He.glo_ok X G (cd.fact 107 (f := .glo "_law_refusals_right") rfl)) b_lref
    exact ok_Lw F_law TL TC CE BX TK RW OT CL PR RF CM mCa mW
end T56
set_option Elab.async false
set_option linter.all false
set_option maxRecDepth 100000
set_option maxHeartbeats 0
namespace T56
open PySem PySem.Spec PyProof.Rows L2
end T56
open PySem PySem.W PySem.Calls PyProof.Rows
theorem PySem.Challenge.cw_toldpast_k56_terms_of_two_books_holds : PySem.Challenge.rw_toldpast_k56_terms_of_two_books.Holds := by
  w_on; o_law
  refine HandSHeadRun.head_any (r := OpenLaw.row PySem.Challenge.rw_toldpast_k56_terms_of_two_books) (q := view (OpenLaw.row PySem.Challenge.rw_toldpast_k56_terms_of_two_books).prog [88]) (H := T56.hk) (ob := T56.ob) (M := 20000) (loose := (T56.lo0 ++ (T56.lo1 ++ (T56.lo2)))) (d := HandSHeadRun.topDef (OpenLaw.row PySem.Challenge.rw_toldpast_k56_terms_of_two_books).prog 88) (kwd := []) T56.ob_eq
    (by kernel_rfl) (fun s => by kernel_rfl) T56.run (by kernel_rfl) (by kernel_rfl) (by kernel_rfl) (by rfl) (by first | assumption | decide +kernel) (by decide +kernel) ⟨rfl, rfl, rfl, rfl, rfl, by decide +kernel⟩ ?hw ?hc
  case hw => w_witness2
  case hc =>
    refine Tp.walkGE (l := PySem.Challenge.rw_toldpast_k56_terms_of_two_books) (n := 63) (k := 10) (x := "_law_script") rfl (by decide) (by kernel_rfl) ⟨rfl, by decide, by decide⟩ ?F
    intro w mg fa h Y G hmg0
    obtain ⟨K, KX, c⟩ := Y
    have hmg : mg ("law" : PySem.Str) = some (.ref fa) := by
      have e : (HandSHeadRun.topDef (OpenLaw.row PySem.Challenge.rw_toldpast_k56_terms_of_two_books).prog 88).name = ("law" : PySem.Str) := by kernel_rfl
      rw [← e]
      exact hmg0
    obtain ⟨fd, hb, hF⟩ := T56.all2 (l := PySem.Challenge.rw_toldpast_k56_terms_of_two_books) (w := w) KX G hmg c.1 c.2
    exact ⟨K, fd, T56.spLaw K, KX, hb, hF, fun H a ns hl _ hS => ⟨a, ns, rfl, hS, hl, fun _ => rfl⟩⟩
#print axioms PySem.Challenge.cw_toldpast_k56_terms_of_two_books_holds
