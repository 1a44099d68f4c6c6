import PyProof.Rows.All
import Wide.All
import OpenK.AllK
import Wide.FinOn
import PyProof.EqAt
import PyProof.EqKinds
import PyProof.TupleCall
import PyProof.Rows.ReprR
import HandS.Base
import HandS.Call
import HandS.List
import HandS.Comp
import HandS.Ends
import HandS.Dict
import HandS.Iter
import HandS.Text
import HandS.Words
import HandS.WordsList
import HandS.Defaults
import PyProof.StrBlock2
import HandS.Codes
import PyProof.ReprLen
import PyProof.FitsInt
import HandS.Exc
import HandS.ExcInit
import HandS.ExcValue
import HandS.IsInst
import KE.KExcInit
import KE.KExcIs
import HandS.ExcField
import HandS.ExcIs
import HandS.MakeKwOnly
import HandS.ForDict
import HandS.Walk
import KE.GoesEnum
import KE.GoesMore
import HandS.DictComp
import HandS.Conv
import KE.KOpsOwn
import KE.KDictSum
import HandS.More
import HandS.Star
import HandS.Wide
import HandS.Style
import HandS.TryOnly
import HandS.TryMany
import HandS.ExcOwn
import HandS.WordsExc
import HandS.CallSlots
import PyProof.P3Eq
import PyProof.TupleKey
import PyProof.DictKinds
import HandS.FStr
import HandS.SortKw
import KE.DatumOrd
import HandS.ListItems
import HandS.Zip
import HandS.RaiseMore
import HandS.Deep
import HandS.Head0
import HandS.Head1
import HandS.Head2
import HandS.HeadEnd
import HandS.HeadHook1
import HandS.HeadHook2
import HandS.HeadHook3
import HandS.HeadHook4
import KE.KStateDown
import PySem.Challenge.RW_toldpast_k31_rows_of_lags
set_option Elab.async false
set_option linter.all false
set_option maxRecDepth 100000
set_option maxHeartbeats 4000000
/-! what the laws of this set share: promises of defs that are called where no repr is under way, and repr itself -/
namespace Tp
open PySem PySem.Spec PyProof.Rows L2

/-- a def keeps its promise wherever no repr is under way -/
structure FnG (P : Program) (w : World) (K : PySem.W.Frag) (mg : Str → Option Value) (base : Heap) (CX : CXT) (k : Nat)
    (f : Addr) (fd : FuncData) (ps : List Str) (sp : Sp) : Prop where
  len : ∀ vs H Q E, sp vs H Q E → vs.length = ps.length
  run : ∀ (B : Around) (out : List Env) (s : Shared) (H : Hp) (args : Args) (us : List Value) (vs : List V) (Q : VK) (E : XK),
    Room k B → B.guards = some [] → Env0 P w K mg base B out s H → BindsTo s fd args (ps.zip us) → Vals vs us → sp vs H Q E →
    codeAny (model P w) B (.call (.ref f) args) (CR CX out P w H s Q E) s

section
variable {P : Program} {w : World} {K : PySem.W.Frag} {mg : Str → Option Value} {base : Heap} {CX : CXT} {j k : Nat}
variable {f : Addr} {fd : FuncData} {ps : List Str} {sp sp' : Sp}
theorem FnG.of (F : FnOk P w K mg base CX k f fd ps sp) : FnG P w K mg base CX k f fd ps sp :=
  ⟨F.len, fun B out s H args us vs Q E hr _ he => F.run B out s H args us vs Q E hr he⟩
theorem FnG.up (F : FnG P w K mg base CX j f fd ps sp) (h : j ≤ k) : FnG P w K mg base CX k f fd ps sp :=
  ⟨F.len, fun B out s H args us vs Q E hr => F.run B out s H args us vs Q E (hr.mono h)⟩
theorem deeper_guards {B : Around} {env : Env} {g : List Code} (h : B.guards = some g) : (B.deeper env).guards = some g := h

/-- a body's reading gives the promise -/
theorem fnG_of {nm qual : Str} {params : Arguments} {body : List Stmt} {sc : Scope} {dV kV doc pm cdv ct oc : Value} {an od : Option Addr}
    {osl : Array (Option Value)} {N : List Str} (lk : K.lookup f = some ⟨oc, od, .func (PySem.W.fnOf nm qual params body sc dV kV doc pm an cdv ct), osl⟩)
    (hcd : PySem.W.codeIn K cdv qual = true) (S : FnScope N ps sc) (len : ∀ vs H Q E, sp vs H Q E → vs.length = ps.length)
    (hbody : ∀ (B : Around) (out : List Env) (s : Shared) (H : Hp) (vs : List V) (Q : VK) (E : XK),
      Room k (B.deeper (envOfC qual sc s.heap.objs.size f cdv)) → (B.deeper (envOfC qual sc s.heap.objs.size f cdv)).guards = some [] → sp vs H Q E →
      ∃ t, PSs (cxOf CX P w K mg base N qual sc f cdv B out s H E) body t ∧ t { nx := fun _ H' => Q .non H', rt := Q } (start N vs) H) :
    FnG P w K mg base CX (k + 1) f (PySem.W.fnOf nm qual params body sc dV kV doc pm an cdv ct) ps sp := by
  refine ⟨len, fun B out s H args us vs Q E hr hg e0 hb rv hsp => ?_⟩
  obtain ⟨t, ht, hq⟩ := hbody B out s H vs Q E (hr.deeper _) (deeper_guards hg) hsp
  have hl := len _ _ _ _ hsp
  have KX : K.In s.heap := e0.mod.kin.keeps fun b o e => (e0.bs b o e).1
  have lim : s.heap.NoLimit := e0.mod.nolimit.keeps fun b o e => (e0.bs b o e).1
  have hkind : ∀ y ∈ ps.zip us, sc.names.lookup y.1 = some .local ∨
      (sc.names.lookup y.1 = some .cell ∧ ((cellsFrom (s.heap.objs.size + 1) sc.names []).lookup y.1).isSome = true) := by
    rintro ⟨n, v⟩ hy
    exact (S.par n (List.of_mem_zip hy).1).imp id fun q => ⟨q, PySem.W.cellsFrom_some _ _ _ (.inl q)⟩
  refine codeAny_call_function hr.depth (KX _ _ lk) rfl S.co S.gen rfl (PySem.W.codeRec_of KX hcd) (hb _ _ _ _ ?_)
  refine wpAny_newFunctionEnv_cells S.kind hkind fun env he s1 x => ?_
  subst he
  refine ⟨lim.keeps x.toInCall.keep, codeAny_func ?_⟩
  have I : Inv (cxOf CX P w K mg base N qual sc f cdv B out s H E) [] (start N vs) H s1 := inv_start S hr.hd e0 hl rv x
  refine wpAny_mono (ht.run [] s1 (start N vs) H _ I hq) (fun fl s' hs => ?_) fun e s' hs => hs
  cases fl with
  | ret u =>
    obtain ⟨v, τ, G, J, rw', q⟩ := hs
    exact ⟨v, G, J.os, J.bare, J.base, J.hok, rw', q⟩
  | next =>
    obtain ⟨τ, G, J, q⟩ := hs
    exact ⟨V.non, G, J.os, J.bare, J.base, J.hok, rfl, q⟩
  | brk => exact hs.elim fun _ z => z.elim fun _ z => z.2.elim
  | cont => exact hs.elim fun _ z => z.elim fun _ z => z.2.elim

/-- a def of the text, its body walked -/
theorem FunG.ok {x qual : Str} {st : Stmt} {N : List Str} (F : Fun K x qual st f fd) (S : FnScope N ps (defScope st)) (len : ∀ vs H Q E, sp vs H Q E → vs.length = ps.length)
    (hb : ∀ (cdv : Value) (B : Around) (out : List Env) (s : Shared) (H : Hp) (vs : List V) (Q : VK) (E : XK),
      Room k (B.deeper (envOfC qual (defScope st) s.heap.objs.size f cdv)) → (B.deeper (envOfC qual (defScope st) s.heap.objs.size f cdv)).guards = some [] → sp vs H Q E →
      ∃ t, PSs (cxOf CX0 P w K mg base N qual (defScope st) f cdv B out s H E).nox (defBody st) t ∧ t { nx := fun _ H' => Q .non H', rt := Q } (start N vs) H) :
    FnG P w K mg base CX0 (k + 1) f fd ps sp := by
  obtain ⟨oc, od, kV, doc, pm, an, cdv, ct, osl, rfl, lk, hcd⟩ := F.ex
  refine fnG_of lk hcd S len fun B out s H vs Q E hr hg hsp => ?_
  obtain ⟨t, h, q⟩ := hb cdv B out s H vs Q E hr hg hsp
  exact ⟨t, h.nox, q⟩
end

/-- what a caller knows of a def of the module: its promise, where it stands -/
structure Cg (P : Program) (w : World) (K : PySem.W.Frag) (mg : Str → Option Value) (base : Heap) (k : Nat) (x : Str) (sp : Sp) : Prop where
  ex : ∃ (f : Addr) (fd : FuncData) (ps : List Str), FnG P w K mg base CX0 k f fd ps sp ∧ mg x = some (.ref f) ∧ PySem.W.keepIn K (.ref f) = true ∧ Binds K fd ps []
theorem Cg.mk' {P : Program} {w : World} {K : PySem.W.Frag} {mg : Str → Option Value} {base : Heap} {k : Nat} {x qual : Str} {sp : Sp} {f : Addr} {fd : FuncData} {ps : List Str} {st : Stmt}
    (F : Fun K x qual st f fd) (G : FnG P w K mg base CX0 k f fd ps sp) (hm : mg x = some (.ref f)) (hb : Binds K fd ps []) : Cg P w K mg base k x sp := ⟨⟨f, fd, ps, G, hm, F.kp, hb⟩⟩
def tCl (sp : Sp) (t : TA) : TE := fun σ H Q => t σ H fun vs H1 => sp vs H1 Q E0
section
variable {X : Cx} {j k : Nat} {x : Str} {p pos : Pos} {e : Expr} {es : List Expr} {t : TA} {sp : Sp}
theorem pe_g (c : Cg X.prog X.w X.K X.mg X.base j x sp) (hr : Room k X.A) (hG : X.A.guards = some []) (hk : j ≤ k) (hg : Gl X x) (ha : PA X (e :: es) t)
    (hdb : (x == ("__debug__" : Str)) = false := by decide) (he : starEach (e :: es) X.env = (false, eval e X.env) :: starEach es X.env := by rfl)
    (hpl : (backTo pos (starEach es X.env)).any (·.1) = false := by rfl) : PE X (.Call (.Name x p) (e :: es) [] pos) (tCl sp t) := by
  obtain ⟨f, fd, ps, F, hm, hkp, hb⟩ := c.ex
  refine ⟨fun pins s σ H Q I h => wpAny_Call_Name_kw (ld_glob I hg hm ?_ hdb)⟩
  refine PySem.W.callWith_K (h₀ := X.base) I.ok.mod.kin hkp (thn (ha.run pos pins s σ H _ I h) fun us s1 hh => ?_) he hpl
  obtain ⟨vs, H1, I1, r, q⟩ := hh
  refine ⟨I1.kIn, ?_⟩
  have hl : (us ++ []).length = ps.length := by
    rw [List.append_nil, ← r.length]
    exact F.len _ _ _ _ q
  have hbt := hb s1 us I1.kIn hl
  rw [List.append_nil] at hbt
  refine wpAny_call (codeAny_mono (F.run X.A X.stack s1 H1 ⟨us, []⟩ us vs Q E0 (hr.mono hk) hG I1.env0 hbt r q) fun r' s' hq => ?_)
  cases r' with
  | error e' => exact (show False from hq).elim
  | ok fl =>
    cases fl with
    | ret u => exact I1.after hq
    | next => exact (show False from hq).elim
    | brk => exact (show False from hq).elim
    | cont => exact (show False from hq).elim
end

/-! ### repr of plain data -/
mutual
theorem Dp.plain {K : PySem.W.Frag} {H : Hp} : ∀ (d : PyData) (v : V), Dp K H v d → d.hasDict = false
  | .none, _, _ => by simp only [PyData.hasDict]
  | .bool _, _, _ => by simp only [PyData.hasDict]
  | .int _, _, _ => by simp only [PyData.hasDict]
  | .str _, _, _ => by simp only [PyData.hasDict]
  | .list ds, _, h => by
    cases h with
    | lst _ ha => simpa only [PyData.hasDict] using Dp.plainAll ds _ ha
  | .tuple ds, _, h => by
    cases h with
    | tup _ ha => simpa only [PyData.hasDict] using Dp.plainAll ds _ ha
  | .dict _, _, h => by cases h
theorem Dp.plainAll {K : PySem.W.Frag} {H : Hp} : ∀ (ds : List PyData) (vs : List V), DpAll K H vs ds → PyData.hasDictAll ds = false
  | [], _, _ => by simp only [PyData.hasDictAll]
  | d :: ds, _, h => by
    cases h with
    | cons h1 h2 =>
      simp only [PyData.hasDictAll, Bool.or_eq_false_iff]
      exact ⟨Dp.plain d _ h1, Dp.plainAll ds _ h2⟩
end
def rRepr (K : PySem.W.Frag) : List V → Hp → VK → Prop := fun xs H Q => ∃ (a : Addr) (d : PyData), xs = [.ref a] ∧ Dp K H (.ref a) d ∧ d.showable = true ∧ d.depth ≤ 60 ∧ d.shown.length ≤ sizeLine ∧ Q (.str d.shown) H
theorem call_repr {X : Cx} {k : Nat} (hr : Room k X.A) (hG : X.A.guards = some []) : CallR X (.builtin "repr") (rRepr X.K) := by
  intro pins s σ H xs us Q I r h
  obtain ⟨a, d, rfl, hd, hs, hdep, hz, q⟩ := h
  obtain ⟨u, rfl, r1⟩ := vals1 r
  cases (show u = Value.ref a from r1)
  obtain ⟨as, hrd⟩ := Dp.reads I d _ _ hd rfl
  have hu := hr.units
  exact repr_of_reads' hrd hs (PyData.noDict_hsm (Dp.plain d _ hd)) hG (by omega) (fun _ _ e => e) (fun h' u tk hk => ⟨.str d.shown, H, I.kept hk, ⟨u, rfl⟩, q⟩) hz

/-! ### the law's call -/
theorem law_callG {P : Program} {w : World} {K : PySem.W.Frag} {mg mb : Str → Option Value} {k : Nat} {fa a : Addr} {fd : FuncData} {x : Str} {sp : Sp} {s1 : Shared} {vs : List Value} {ns : List Int}
    (KX : K.In s1.heap) (hns : s1.heap.Ns mainGlobals mg) (hb : s1.heap.Ns builtinsNs mb) (hbb : ∀ x : Str, x ≠ "__name__" → mb x = bootBuiltins x) (hlim : s1.heap.NoLimit) (hg : s1.gens = #[])
    (ha : s1.heap.get? a = some { cls := .type "list", data := .seq vs.toArray }) (hi : IntsAre vs ns) (hl : ns.length ≤ sizeLine) (hr : Room k callerA)
    (F : ∀ base : Heap, K.In base → base.Ns mainGlobals mg → FnG P w K mg base CX0 k fa fd [x] sp) (hbind : ∀ (s : Shared) (u : Value), BindsTo s fd ⟨[u], []⟩ [(x, u)])
    (hsp : ∀ H : Hp, Only H → SqL K H a (ns.map V.int) → sp [.ref a] H (fun v _ => v = .bl true) E0) :
    codeAny (model P w) callerA (.call (.ref fa) ⟨[.ref a], []⟩) (fun r s' => r = .ok (.ret (.bool true)) ∧ OldK s1.heap s'.heap ∧ s'.os = s1.os ∧ AllBare s'.gens) s1 := by
  -- the layer's own end, asked of a promise that holds of this one call alone, by a def that keeps none elsewhere
  have rv := vals_ints hi
  have lv := hi.length
  have core : ∀ H : Hp, Only H → SqL K H a (ns.map V.int) → HOk P w H s1.heap → (∀ b, H b ≠ none → b = a) → (H a ≠ none → K.lookup a = none) →
      codeAny (model P w) callerA (.call (.ref fa) ⟨[.ref a], []⟩) (fun r s' => r = .ok (.ret (.bool true)) ∧ OldK s1.heap s'.heap ∧ s'.os = s1.os ∧ AllBare s'.gens) s1 := by
    intro H hO hS hok hA hK
    have noA : ∀ {b : Addr} {o : Obj} {es : Array DictEntry} {ep : Nat}, s1.heap.get? b = some o → o.data = .dict es ep → H b = none := by
      intro b o es ep e d
      cases q : H b with
      | none => rfl
      | some u =>
        have eb := hA b (by rw [q]; exact Option.some_ne_none _)
        rw [eb, ha] at e
        cases e
        cases (show Data.seq vs.toArray _ = Data.dict es ep from d)
    have nsK : ∀ {b : Addr} {m : Str → Option Value}, s1.heap.Ns b m → (hidT s1.heap H).Ns b m := by
      intro b m hm
      obtain ⟨o, es, ep, e, d, r⟩ := hm
      exact ⟨o, es, ep, hidT_get e (noA e d), d, r⟩
    have hKb : K.In (hidT s1.heap H) := by
      intro b o e
      refine hidT_get (KX b o e) ?_
      cases q : H b with
      | none => rfl
      | some u =>
        have eb := hA b (by rw [q]; exact Option.some_ne_none _)
        rw [eb] at e q
        rw [hK (by rw [q]; exact Option.some_ne_none _)] at e
        cases e
    obtain ⟨mc, l1, l2⟩ := hlim
    have hM : Mod K mg (hidT s1.heap H) := ⟨hKb, nsK hns, ⟨mb, nsK hb, hbb⟩, ⟨mc, nsK l1, l2⟩⟩
    have e0 : Env0 P w K mg (hidT s1.heap H) callerA [] s1 H :=
      ⟨rfl, hM, fun b o e => of_hidT e, Nat.le_of_eq (hidT_size _ _), trivial, fun b hb => (List.not_mem_nil hb).elim, hok, .of_eq hg⟩
    refine codeAny_mono ((F _ hKb (nsK hns)).run callerA [] s1 H ⟨[.ref a], []⟩ [.ref a] [.ref a] _ _ hr rfl e0 (hbind s1 (.ref a)) (.cons rfl .nil) (hsp H hO hS)) ?_
    intro r s' h
    cases r with
    | error e => exact (show False from h).elim
    | ok fl =>
      cases fl with
      | next => exact (show False from h).elim
      | brk => exact (show False from h).elim
      | cont => exact (show False from h).elim
      | ret u =>
        obtain ⟨v, H', os, bare, un, hok', r', q⟩ := h
        cases (show v = .bl true from q)
        cases (show u = Value.bool true from r')
        refine ⟨rfl, OldK.of_keep fun b o e => ?_, os, bare⟩
        cases q : H b with
        | none => exact un.keep b o e q (fun z => (List.not_mem_nil z).elim) (fun z => (List.not_mem_nil z).elim)
        | some u =>
          rcases hO b with z | ⟨ob, xs, z⟩
          · rw [q] at z
            cases z
          · have e1 := (hok b _ z).1
            have e2 := (hok' b _ (un.frzs b ob _ z)).1
            rw [e] at e1
            cases e1
            exact e2
  cases hk : K.lookup a with
  | some o =>
    have e := KX a o hk
    rw [ha] at e
    cases e
    refine core (fun _ => none) (fun _ => .inl rfl) (.inr ⟨_, vs.toArray, _, hk, rfl, rfl, rfl, ?_, ?_⟩) (fun b u z => by cases (show (none : Option HO) = some u from z)) (fun b z => (z rfl).elim) fun z => (z rfl).elim
    · rw [List.size_toArray, lv]
      exact hl
    · simpa using rv
  | none =>
    refine core (fun b => if b = a then some (.frz { cls := .type "list", data := .seq vs.toArray } (.lst (ns.map V.int))) else none) (fun b => ?_) (.inl (.inr ⟨_, if_pos rfl⟩)) (fun b u z => ?_) (fun b z => ?_) fun _ => hk
    · by_cases hb : b = a
      · exact .inr ⟨_, _, if_pos hb⟩
      · exact .inl (if_neg hb)
    · by_cases hb : b = a
      · cases (if_pos hb).symm.trans z
        cases hb
        refine ⟨ha, ?_, vs, _, rv, ha⟩
        rw [List.length_map]
        exact hl
      · cases (if_neg hb).symm.trans z
    · by_cases hb : b = a
      · exact hb
      · exact (z (if_neg hb)).elim

/-- the goal that the head leaves, from the law's promise -/
theorem walkG {l : PySem.W.OpenLaw} {n k : Nat} {q : Program} {loose : List Str} {XP : (Str → Option Value) → Heap → Prop} {YP : World → Heap → Prop} {d : DefRec} {K : Params → PySem.W.Frag} {sp : PySem.W.Frag → Sp} {x : Str}
    (hn : l.most = some n) (hn2 : n ≤ sizeLine) (hdf : d.params.defaults = []) (hr : Room k callerA) (hY : ∀ (w : World) (h : Heap), YP w h → (K w.params).In h)
    (F : ∀ (w : World) (mg : Str → Option Value) (fa : Addr) (h : Heap), (K w.params).In h → h.Ns mainGlobals mg → mg d.name = some (.ref fa) →
      ∃ fd : FuncData, (∀ (s : Shared) (u : Value), BindsTo s fd ⟨[u], []⟩ [(x, u)]) ∧
        ∀ base : Heap, (K w.params).In base → base.Ns mainGlobals mg → FnG l.prog w (K w.params) mg base CX0 k fa fd [x] (sp (K w.params)))
    (hsp : ∀ (K : PySem.W.Frag) (H : Hp) (a : Addr) (ns : List Int), ns.length ≤ n → Only H → SqL K H a (ns.map V.int) → sp K [.ref a] H (fun v _ => v = .bl true) E0) :
    PySem.W.WalkO q loose XP YP l.row.toRowW d [] (fun f vs => PySem.call f vs) := by
  refine Att.attach_call hn hdf fun w s0 s1 mg mb fa o pm cd doc a vs ns G Y ho hd hcd hmg hobj hints hlen hg => ?_
  have KX := hY w _ Y
  obtain ⟨fd, hb, hF⟩ := F w mg fa _ KX G.T.g hmg
  exact law_callG KX G.T.g G.T.b G.T.builtins G.T.nolimit hg hobj hints (Nat.le_trans hlen hn2) hr hF hb fun H hO hS => hsp (K w.params) H a ns hlen hO hS
end Tp
set_option Elab.async false
set_option linter.all false
set_option maxRecDepth 100000
set_option maxHeartbeats 4000000
/-! the draws: a box of three ints, of which each draw takes some -/
namespace Tp
open PySem PySem.Spec PyProof.Rows L2
/-- a box at p, from which at most n draws were mixed -/
def BoxAt (H : Hp) (p : Addr) (n : Nat) : Prop := ∃ a b c : Int, H p = some (.lst [.int a, .int b, .int c]) ∧ 0 ≤ a ∧ 0 ≤ b ∧ b < 2147483629 ∧ 0 ≤ c ∧ c ≤ (n : Int)
theorem BoxAt.mono {H : Hp} {p : Addr} {n m : Nat} (h : BoxAt H p n) (hl : n ≤ m) : BoxAt H p m := by
  obtain ⟨a, b, c, h1, h2, h3, h4, h5, h6⟩ := h
  exact ⟨a, b, c, h1, h2, h3, h4, h5, by omega⟩
/-- all that was tracked is as it was, but at p -/
def Keep (p : Addr) (H H' : Hp) : Prop := ∀ b o, b ≠ p → H b = some o → H' b = some o
theorem Keep.refl (p : Addr) (H : Hp) : Keep p H H := fun _ _ _ e => e
theorem Keep.trans {p : Addr} {H H1 H2 : Hp} (a : Keep p H H1) (b : Keep p H1 H2) : Keep p H H2 := fun c o hc e => b c o hc (a c o hc e)
theorem Keep.of {p : Addr} {H H' : Hp} (a : Same H H') : Keep p H H' := fun c o _ e => a c o e
theorem Keep.put {p : Addr} {H : Hp} {o : HO} : Keep p H (upd H p o) := fun c u hc e => by rw [upd_ne hc]; exact e
theorem Same.put {H : Hp} {q : Addr} {o : HO} (h : H q = none) : Same H (upd H q o) := fun c u e => by rw [upd_ne (ne_of_none e h)]; exact e
theorem Keep.new {p q : Addr} {H : Hp} {o : HO} (h : H q = none) : Keep p H (upd H q o) := .of (Same.put h)
theorem BoxAt.keep {H H' : Hp} {p : Addr} {n : Nat} (h : BoxAt H p n) (k : Same H H') : BoxAt H' p n := by
  obtain ⟨a, b, c, h1, h2⟩ := h
  exact ⟨a, b, c, k _ _ h1, h2⟩
theorem BoxAt.ne {H : Hp} {p q : Addr} {n : Nat} (h : BoxAt H p n) (hq : H q = none) : p ≠ q := by
  obtain ⟨a, b, c, h1, _⟩ := h
  exact ne_of_none h1 hq
theorem BoxAt.new {H : Hp} {p q : Addr} {n : Nat} {o : HO} (h : BoxAt H p n) (hq : H q = none) : BoxAt (upd H q o) p n := h.keep (Same.put hq)
theorem BoxAt.put {H : Hp} {p q : Addr} {n : Nat} {o : HO} (h : BoxAt H p n) (hq : q ≠ p) : BoxAt (upd H q o) p n := by
  obtain ⟨a, b, c, h1, h2⟩ := h
  exact ⟨a, b, c, (upd_ne hq.symm).trans h1, h2⟩
/-- all that was tracked is as it was, but at p and at d -/
def Keep2 (p d : Addr) (H H' : Hp) : Prop := ∀ b o, b ≠ p → b ≠ d → H b = some o → H' b = some o
theorem Keep2.of {p d : Addr} {H H' : Hp} (k : Keep p H H') : Keep2 p d H H' := fun b o h1 _ e => k b o h1 e
theorem Keep2.put {p d : Addr} {H G : Hp} {o : HO} (k : Keep2 p d H G) : Keep2 p d H (upd G d o) := fun b u h1 h2 e => (upd_ne h2).trans (k b u h1 h2 e)
theorem Keep2.next {p d : Addr} {H G G' : Hp} (k : Keep2 p d H G) (j : Keep p G G') : Keep2 p d H G' := fun b u h1 h2 e => j b u h1 (k b u h1 h2 e)
theorem Keep2.fin {p d : Addr} {H G : Hp} (k : Keep2 p d H G) (hd : H d = none) : Keep p H G := fun b u h1 e => k b u h1 (ne_of_none e hd) e
theorem keep_of {p : Addr} {H H' : Hp} (h : ∀ b, b ≠ p → H' b = H b) : Keep p H H' := fun b o hb e => by rw [h b hb]; exact e
/-- a list that is read stands on, but at p -/
theorem Keep.seq {K : PySem.W.Frag} {p a : Addr} {H H' : Hp} {xs : List V} (k : Keep p H H') (ha : a ≠ p) (h : SqL K H a xs) : SqL K H' a xs := by
  rcases h with (h | ⟨o, h⟩) | h
  · exact .inl (.inl (k _ _ ha h))
  · exact .inl (.inr ⟨o, k _ _ ha h⟩)
  · exact .inr h

/-- _law_cell: some int of the script, or some other -/
def spCellT (K : PySem.W.Frag) : Sp := fun vs H Q _ => ∃ (a : Addr) (ns : List Int) (k : Nat), vs = [.ref a, .int k] ∧ SqL K H a (ns.map V.int) ∧ ns.length ≤ 63 ∧ k ≤ 1000 ∧ ∀ z : Int, Q (.int z) H
/-- _law_box -/
def spBox : Sp := fun vs H Q _ => ∃ z : Int, vs = [.int z] ∧ ∀ p H', H p = none → BoxAt H' p 0 → Keep p H H' → Q (.ref p) H'
/-- _law_take -/
def spTake : Sp := fun vs H Q _ => ∃ (p : Addr) (m : Int) (n : Nat), vs = [.ref p, .int m] ∧ BoxAt H p n ∧ 0 < m ∧ m.natAbs.log2 < 1000 ∧ n ≤ 1000000 ∧
  ∀ (d : Int) (H' : Hp), 0 ≤ d → d < m → BoxAt H' p (n + 1) → (∀ b, b ≠ p → H' b = H b) → Q (.int d) H'

end Tp
set_option Elab.async false
set_option linter.all false
set_option maxRecDepth 100000
set_option maxHeartbeats 4000000
/-! texts of bounded length, data whose repr fits -/
namespace Tp
open PySem PySem.Spec PyProof.Rows L2
/-! ### texts -/
structure Tz (n : Nat) (z : Str) : Prop where
  le : (TL.tl z).length ≤ n
  sm : ∀ c ∈ TL.tl z, c < 256
theorem Tz.mono {n m : Nat} {z : Str} (h : Tz n z) (hl : n ≤ m) : Tz m z := ⟨Nat.le_trans h.le hl, h.sm⟩
theorem Tz.len {n : Nat} {z : Str} (h : Tz n z) : z.length ≤ n := by
  rw [TL.len_tl]
  exact h.le
theorem Tz.app {n m : Nat} {x y : Str} (a : Tz n x) (b : Tz m y) : Tz (n + m) (x ++ y) := by
  have e := TL.tl_append x y
  refine ⟨?_, fun c hc => ?_⟩
  · rw [e, List.length_append]
    exact Nat.add_le_add a.le b.le
  · rw [e] at hc
    exact (List.mem_append.mp hc).elim (a.sm c) (b.sm c)
theorem Tz.one {c : Nat} (h : c < 256) : Tz 1 ⟨#[c]⟩ := ⟨Nat.le_refl 1, fun d hd => by
  have e : d = c := by simpa using hd
  rw [e]
  exact h⟩
theorem Tz.cut {n : Nat} {z : Str} (h : Tz n z) (lo hi : Option Int) : Tz n (cutS z lo hi) := by
  have e : TL.tl (cutS z lo hi) = ((TL.tl z).drop (HT.sIx z.length 0 lo)).take (HT.sIx z.length z.length hi - HT.sIx z.length 0 lo) := rfl
  refine ⟨?_, fun c hc => ?_⟩
  · rw [e, List.length_take, List.length_drop]
    have := h.le
    omega
  · rw [e] at hc
    exact h.sm c (List.mem_of_mem_drop (List.mem_of_mem_take hc))
theorem joinL_len (S : List Nat) (m k : Nat) (hS : S.length ≤ k) : ∀ ps : List (List Nat), (∀ q ∈ ps, q.length ≤ m) → (TL.joinL S ps).length ≤ ps.length * (m + k)
  | [], _ => Nat.zero_le _
  | [q], h => by
    have := h q List.mem_cons_self
    show q.length ≤ 1 * (m + k)
    omega
  | q :: r :: rs, h => by
    have h1 := h q List.mem_cons_self
    have ih := joinL_len S m k hS (r :: rs) fun x hx => h x (List.mem_cons_of_mem _ hx)
    show (q ++ (S ++ TL.joinL S (r :: rs))).length ≤ ((r :: rs).length + 1) * (m + k)
    rw [List.length_append, List.length_append, Nat.succ_mul]
    omega
theorem joinL_mem {S : List Nat} : ∀ {ps : List (List Nat)} {c : Nat}, c ∈ TL.joinL S ps → c ∈ S ∨ ∃ q ∈ ps, c ∈ q
  | [], _, h => absurd h List.not_mem_nil
  | [q], _, h => .inr ⟨q, List.mem_cons_self, h⟩
  | q :: r :: rs, c, h => by
    have h' : c ∈ q ++ (S ++ TL.joinL S (r :: rs)) := h
    rcases List.mem_append.mp h' with z | z
    · exact .inr ⟨q, List.mem_cons_self, z⟩
    · rcases List.mem_append.mp z with z | z
      · exact .inl z
      · rcases joinL_mem z with z | ⟨x, hx, z⟩
        · exact .inl z
        · exact .inr ⟨x, List.mem_cons_of_mem _ hx, z⟩
theorem tl_joinT (s : Str) (ys : List Str) : TL.tl (Txt.join s ys) = TL.joinL (TL.tl s) (ys.map TL.tl) := (congrArg TL.tl (TL.join_eq s ys)).trans (TL.tl_join s ys)
theorem Tz.join {k m : Nat} {s : Str} {ys : List Str} (hs : Tz k s) (hy : ∀ y ∈ ys, Tz m y) : Tz (ys.length * (m + k)) (Txt.join s ys) := by
  refine ⟨?_, fun c hc => ?_⟩
  · rw [tl_joinT]
    have h := joinL_len (TL.tl s) m k hs.le (ys.map TL.tl) fun q hq => by
      obtain ⟨y, hy', rfl⟩ := List.mem_map.mp hq
      exact (hy y hy').le
    rwa [List.length_map] at h
  · rw [tl_joinT] at hc
    rcases joinL_mem hc with z | ⟨q, hq, z⟩
    · exact hs.sm c z
    · obtain ⟨y, hy', rfl⟩ := List.mem_map.mp hq
      exact (hy y hy').sm c z
/-- the sum that join wants -/
theorem sum_le {m : Nat} : ∀ {ys : List Str}, (∀ y ∈ ys, Tz m y) → (ys.map (·.length)).sum ≤ ys.length * m
  | [], _ => Nat.zero_le _
  | y :: ys, h => by
    have h1 := (h y List.mem_cons_self).len
    have ih := sum_le (m := m) (ys := ys) fun z hz => h z (List.mem_cons_of_mem _ hz)
    rw [List.map_cons, List.sum_cons, List.length_cons, Nat.succ_mul]
    omega
/-- parts between separators -/
theorem spl_len (S : List Nat) : ∀ (l : List Nat) (k : Nat) (acc : List Nat), ((TL.spl S k acc l).map (·.length)).sum ≤ acc.length + l.length ∧ (TL.spl S k acc l).length ≤ l.length + 1 ∧ ∀ q ∈ TL.spl S k acc l, ∀ c ∈ q, c ∈ acc ∨ c ∈ l
  | [], k, acc => by
    rw [TL.spl_nil]
    refine ⟨by simp, by simp, fun q hq c hc => ?_⟩
    rw [List.mem_singleton.mp hq] at hc
    exact .inl hc
  | c :: r, 0, acc => by
    cases h : TL.pre S (c :: r) with
    | true =>
      rw [TL.spl_hit h]
      obtain ⟨h1, h2, h3⟩ := spl_len S r (S.length - 1) []
      refine ⟨?_, ?_, fun q hq d hd => ?_⟩
      · rw [List.map_cons, List.sum_cons, List.length_cons]
        rw [List.length_nil] at h1
        omega
      · rw [List.length_cons, List.length_cons]
        omega
      · rcases List.mem_cons.mp hq with e | e
        · rw [e] at hd
          exact .inl hd
        · rcases h3 q e d hd with z | z
          · exact absurd z List.not_mem_nil
          · exact .inr (List.mem_cons_of_mem _ z)
    | false =>
      rw [TL.spl_miss h]
      obtain ⟨h1, h2, h3⟩ := spl_len S r 0 (acc ++ [c])
      refine ⟨?_, ?_, fun q hq d hd => ?_⟩
      · rw [List.length_append] at h1
        rw [List.length_cons]
        have e : [c].length = 1 := rfl
        omega
      · rw [List.length_cons]
        omega
      · rcases h3 q hq d hd with z | z
        · rcases List.mem_append.mp z with z | z
          · exact .inl z
          · rw [List.mem_singleton.mp z]
            exact .inr List.mem_cons_self
        · exact .inr (List.mem_cons_of_mem _ z)
  | c :: r, k + 1, acc => by
    have e : TL.spl S (k + 1) acc (c :: r) = TL.spl S k acc r := by
      rw [TL.spl_pass S (k + 1), TL.spl_pass S k]
      rfl
    rw [e]
    obtain ⟨h1, h2, h3⟩ := spl_len S r k acc
    refine ⟨?_, ?_, fun q hq d hd => (h3 q hq d hd).imp id (List.mem_cons_of_mem _)⟩
    · rw [List.length_cons]
      omega
    · rw [List.length_cons]
      omega
theorem split_len {z m : Str} {n : Nat} (hz : Tz n z) (hm : (TL.tl m).length = 1) (h2 : ∀ c ∈ TL.tl m, c < 256) :
    ((Txt.split z m).map (·.length)).sum ≤ n ∧ (Txt.split z m).length ≤ n + 1 ∧ ∀ y ∈ Txt.split z m, ∀ c ∈ TL.tl y, c < 256 := by
  have hne : TL.tl m ≠ [] := fun e => by
    rw [e] at hm
    cases hm
  have hk : ¬ Builtin.Str.strKind z < Builtin.Str.strKind m := TL.kind_ok (by
    rw [← Array.all_toList]
    exact List.all_eq_true.mpr fun c hc => decide_eq_true (h2 c hc))
  have e := TL.split_spl z m hne hk
  obtain ⟨h3, h4, h5⟩ := spl_len (TL.tl m) (TL.tl z) 0 []
  rw [← e] at h3 h4 h5
  rw [List.map_map] at h3
  have e2 : ((fun l : List Nat => l.length) ∘ TL.tl) = fun y : Str => y.length := funext fun y => (TL.len_tl y).symm
  have hzl := hz.le
  refine ⟨?_, ?_, fun y hy c hc => ?_⟩
  · rw [e2, List.length_nil] at h3
    omega
  · rw [List.length_map] at h4
    omega
  · rcases h5 (TL.tl y) (List.mem_map.mpr ⟨y, hy, rfl⟩) c hc with x | x
    · exact absurd x List.not_mem_nil
    · exact hz.sm c x
/-- an item of a list at a drawn place -/
theorem atI_in {α : Type} {xs : List α} {d : Int} (h0 : 0 ≤ d) (h : d < (xs.length : Int)) : ∃ v, v ∈ xs ∧ atI xs d = some v := by
  have hj : d.toNat < xs.length := by omega
  have e : d = ((d.toNat : Nat) : Int) := by omega
  exact ⟨xs[d.toNat], List.getElem_mem hj, (congrArg (atI xs) e).trans (atI_nat (List.getElem?_eq_getElem hj))⟩

/-! ### data whose repr fits -/
structure Nice (n k : Nat) (d : PyData) : Prop where
  sh : d.showable = true
  ls : d.leavesShort 2000 = true
  wt : d.weight ≤ n
  dp : d.depth ≤ k
structure NiceAll (n k : Nat) (ds : List PyData) : Prop where
  sh : PyData.showableAll ds = true
  ls : PyData.leavesShortAll 2000 ds = true
  wt : PyData.weightAll ds ≤ n
  dp : PyData.depthAll ds ≤ k
theorem Nice.fits {n k : Nat} {d : PyData} (h : Nice n k d) (hn : n ≤ 8000) : d.shown.length ≤ sizeLine := by
  have h1 := PyData.shown_le 2000 (by decide) d h.ls
  have h2 : (2000 + 2) * d.weight ≤ 2002 * 8000 := Nat.mul_le_mul (Nat.le_refl _) (Nat.le_trans h.wt hn)
  rw [PySem.sizeLine_eq]
  omega
theorem Nice.mono {n k m j : Nat} {d : PyData} (h : Nice n k d) (h1 : n ≤ m) (h2 : k ≤ j) : Nice m j d := ⟨h.sh, h.ls, Nat.le_trans h.wt h1, Nat.le_trans h.dp h2⟩
theorem nice_none : Nice 0 0 .none := ⟨rfl, rfl, Nat.le_refl _, Nat.le_refl _⟩
theorem nice_bool (b : Bool) : Nice 0 0 (.bool b) := ⟨rfl, rfl, Nat.le_refl _, Nat.le_refl _⟩
theorem nice_int {i : Int} (h : i.natAbs.log2 < 1000) : Nice 1000 0 (.int i) := by
  refine ⟨?_, ?_, ?_, by simp only [PyData.depth]; exact Nat.le_refl _⟩
  · simp only [PyData.showable]
    exact decide_eq_true (by omega)
  · simp only [PyData.leavesShort]
    refine decide_eq_true ?_
    have e := int_text_length_le (a := i) (k := 1920) (by decide) (by omega)
    show (Str.ofString (toString i)).length ≤ 2000
    rw [PySem.ofString_length]
    omega
  · simp only [PyData.weight]
    split <;> omega
theorem nice_str {n : Nat} {z : Str} (h : Tz n z) : Nice n 0 (.str z) := by
  refine ⟨by simp only [PyData.showable], ?_, ?_, by simp only [PyData.depth]; exact Nat.le_refl _⟩
  · simp only [PyData.leavesShort]
    refine List.all_eq_true.mpr fun c hc => decide_eq_true ?_
    exact Nat.lt_of_lt_of_le (h.sm c hc) (by decide)
  · simp only [PyData.weight]
    exact h.len
theorem niceAll_nil : NiceAll 0 0 [] := ⟨rfl, rfl, Nat.le_refl _, Nat.le_refl _⟩
theorem NiceAll.cons {n m k j : Nat} {d : PyData} {ds : List PyData} (h : Nice n k d) (hs : NiceAll m j ds) : NiceAll (n + 1 + m) (max k j) (d :: ds) := by
  refine ⟨?_, ?_, ?_, ?_⟩
  · simp only [PyData.showableAll, h.sh, hs.sh, Bool.and_self]
  · simp only [PyData.leavesShortAll, h.ls, hs.ls, Bool.and_self]
  · simp only [PyData.weightAll]
    have := h.wt
    have := hs.wt
    omega
  · simp only [PyData.depthAll]
    have := h.dp
    have := hs.dp
    omega
theorem NiceAll.list {n k : Nat} {ds : List PyData} (h : NiceAll n k ds) : Nice n (k + 1) (.list ds) := by
  refine ⟨?_, ?_, ?_, ?_⟩
  · simp only [PyData.showable]
    exact h.sh
  · simp only [PyData.leavesShort]
    exact h.ls
  · simp only [PyData.weight]
    exact h.wt
  · simp only [PyData.depth]
    have := h.dp
    omega
theorem NiceAll.tuple {n k : Nat} {ds : List PyData} (h : NiceAll n k ds) : Nice n (k + 1) (.tuple ds) := by
  refine ⟨?_, ?_, ?_, ?_⟩
  · simp only [PyData.showable]
    exact h.sh
  · simp only [PyData.leavesShort]
    exact h.ls
  · simp only [PyData.weight]
    exact h.wt
  · simp only [PyData.depth]
    have := h.dp
    omega
theorem NiceAll.mono {n k m j : Nat} {ds : List PyData} (h : NiceAll n k ds) (h1 : n ≤ m) (h2 : k ≤ j) : NiceAll m j ds := ⟨h.sh, h.ls, Nat.le_trans h.wt h1, Nat.le_trans h.dp h2⟩
theorem niceAll_strs : ∀ {ys : List Str}, (∀ y ∈ ys, ∀ c ∈ TL.tl y, c < 256) → NiceAll ((ys.map (·.length)).sum + ys.length) 0 (ys.map PyData.str)
  | [], _ => niceAll_nil
  | y :: ys, h => by
    have h1 := NiceAll.cons (nice_str (n := y.length) (z := y) ⟨Nat.le_of_eq (TL.len_tl y).symm, h y List.mem_cons_self⟩) (niceAll_strs (ys := ys) fun z hz => h z (List.mem_cons_of_mem _ hz))
    refine h1.mono ?_ (Nat.le_refl _)
    rw [List.map_cons, List.sum_cons, List.length_cons]
    omega
/-- repr(x), x plain data -/
theorem rRepr_of {K : PySem.W.Frag} {H : Hp} {a : Addr} {d : PyData} {n k : Nat} {Q : VK} (h : Dp K H (.ref a) d) (hn : Nice n k d) (h1 : n ≤ 8000) (h2 : k ≤ 60) (q : Q (.str d.shown) H) : rRepr K [.ref a] H Q :=
  ⟨a, d, rfl, h, hn.sh, Nat.le_trans hn.dp h2, hn.fits h1, q⟩
/-- flat values as data -/
def dV : V → PyData
  | .bl b => .bool b
  | .int i => .int i
  | .str x => .str x
  | _ => .none
def isFlat : V → Bool
  | .non => true
  | .bl _ => true
  | .int _ => true
  | .str _ => true
  | _ => false
theorem dp_flat {K : PySem.W.Frag} {H : Hp} : ∀ {v : V}, isFlat v = true → Dp K H v (dV v)
  | .non, _ => .non
  | .bl b, _ => .bl b
  | .int i, _ => .int i
  | .str x, _ => .str x
theorem dpAll_flat {K : PySem.W.Frag} {H : Hp} : ∀ {vs : List V}, vs.all isFlat = true → DpAll K H vs (vs.map dV)
  | [], _ => .nil
  | v :: vs, h => by
    rw [List.all_cons, Bool.and_eq_true] at h
    exact .cons (dp_flat h.1) (dpAll_flat h.2)
theorem dpAll_strs {K : PySem.W.Frag} {H : Hp} : ∀ (ys : List Str), DpAll K H (ys.map V.str) (ys.map PyData.str)
  | [] => .nil
  | y :: ys => .cons (.str y) (dpAll_strs ys)
end Tp
set_option Elab.async false
set_option linter.all false
set_option maxRecDepth 100000
set_option maxHeartbeats 4000000
/-! exceptions of the program's own classes over any built-in base: how one is made, by position and by keyword -/
namespace Tp
open PySem HandSPX
/-- what is asked of the line behind an own class that is made by newId of B -/
structure LineX (B : String) (bm : List Value) : Prop where
  hB : bm.contains (.type B) = true
  hA : bm.contains (.type "AttributeError") = false
  hN : bm.contains (.type "NameError") = false
section
variable {prog : Program} {w : World} {A : Around} {E : Value → Shared → Prop} {R : Result → Shared → Prop} {h : Heap} {g : Array GenState} {d : Drawn} {t : Nat} {os : OsState}
variable {nm q : Str} {C N : Addr} {bs bm bmB : List Value} {hdct : Bool} {sn : List Str} {sub : List Value} {ab : Bool} {col : Option Bool} {dd : Option Addr} {k0 k1 k2 k3 k5 : Option Value} {B newId initId : String}
/-- may newId make it? -/
theorem mk_check {M : Model} (F : ExcBaseFacts B newId initId bmB) (L : LineX B bm) {rest : List Value} {kw : List (Str × Value)} {Q : Unit → Shared → Prop}
    (hC : h.get? C = some (excClassObj nm q C N bs bm hdct sn sub ab col dd k0 k1 k2 k3 k5 newId))
    (hq : Q () ⟨h, g, d, t, os⟩) : wpAny M A (checkBuiltinCall newId ⟨.ref C :: rest, kw⟩) Q E ⟨h, g, d, t, os⟩ := by
  have hc : (Value.ref C :: bm).contains (.type B) = true := by
    rw [List.contains_cons]
    exact Bool.or_eq_true_iff.mpr (.inr L.hB)
  have hst := F.noStar
  simp only [checkBuiltinCall, F.newSplit, F.newKind, F.newRow]
  repeat (first
    | refine wpAny_loadPart_at hC ?_
    | (refine wpAny_isSubtype_exc hC ?_; rw [hc])
    | refine wpAny_staticBase_exc hC ?_
    | refine wpAny_madeBy_exc hC ?_
    | simp only [Bool.false_eq_true, bne_self_eq_false, if_false]
    | wp_step)
  exact hq
/-- newId itself -/
theorem mk_new (F : ExcBaseFacts B newId initId bmB) (L : LineX B bm) {rest : List Value} {kw : List (Str × Value)}
    (hC : h.get? C = some (excClassObj nm q C N bs bm hdct sn sub ab col dd k0 k1 k2 k3 k5 newId)) (hz : rest.length ≤ sizeLine)
    (hq : R (.ok (.ret (.ref (h.objs.size + 1)))) ⟨(h.push (PySem.W.kdv_tup rest)).push (excO C h.objs.size), g, d, t, os⟩) :
    codeAny (model prog w) A (.builtin newId ⟨.ref C :: rest, kw⟩) R ⟨h, g, d, t, os⟩ := by
  have hends := F.ends
  have up : ∀ {X : String} {b : Bool}, bm.contains (.type X) = b → (Value.ref C :: bm).contains (.type X) = b := fun {X b} e => by
    rw [List.contains_cons, e]
    cases b <;> rfl
  have h1 := up L.hB
  have h2 := up L.hA
  have h3 := up L.hN
  refine codeAny_builtinAt F.entry ?_
  unfold Builtin.«BaseException.__new__»
  refine wpAt_bind ?_
  show wpAt _ _ _ (stack >>= _) _ _ _
  refine wpAt_bind (wpAt_stack fun p below => wpAt_of_wpAny ?_)
  wp_walk
  refine wpAt_of_wpAny ?_
  rw [F.owner]
  repeat (first
    | with_reducible refine wpAny_loadPart_at hC ?_
    | with_reducible refine wpAny_madeHere_exc F.canon hC ?_
    | (with_reducible refine wpAny_isSubtype_exc hC ?_; first | rw [h1] | rw [h2] | rw [h3])
    | wp_step)
  show R _ _
  rw [Heap.size_push]
  exact hq
/-- type.__call__ on it, up to its own __init__ -/
theorem mk_type (F : ExcBaseFacts B newId initId bmB) (L : LineX B bm) {rest : List Value} {kw : List (Str × Value)} {iv : Value} {Q : Fin → Shared → Prop}
    (hC : h.get? C = some (excClassObj nm q C N bs bm hdct sn sub ab col dd k0 k1 k2 k3 k5 newId)) (hz : rest.length ≤ sizeLine)
    (hi : W.Looks (model prog w) h (typeLookup (.ref C) "__init__") (some iv))
    (hb : ∀ self, W.Looks (model prog w) h (bindSpecial iv self) (iv, [self]))
    (hq : codeAny (model prog w) A (.call iv ⟨.ref (h.objs.size + 1) :: rest, kw⟩)
      (fun r s' => match r with
        | .ok (.ret v) => v = .none ∧ Q (.done (.ret (.ref (h.objs.size + 1)))) s'
        | .ok _ => False
        | .error e => E e s') ⟨(h.push (W.kdv_tup rest)).push (excO C h.objs.size), g, d, t, os⟩) :
    wpAny (model prog w) A (Builtin.«type.__call__» ⟨.ref C :: rest, kw⟩) Q E ⟨h, g, d, t, os⟩ := by
  repeat (first
    | with_reducible refine wpAny_madeBy_exc hC ?_
    | with_reducible refine wpAny_loadPart_at hC ?_
    | wp_step)
  refine codeAny_call_builtin_code (Code.quiet_builtin _ F.quiet) (mk_check F L hC ?_)
  refine mk_new F L hC hz ?_
  show wpAny _ _ _ _ _ _
  have kp : ∀ b o, h.get? b = some o → ((h.push (W.kdv_tup rest)).push (excO C h.objs.size)).get? b = some o :=
    fun b o e => Heap.get?_push_of_some _ (Heap.get?_push_of_some _ e)
  have hC' := kp _ _ hC
  have hx : ((h.push (W.kdv_tup rest)).push (excO C h.objs.size)).get? (h.objs.size + 1) = some (excO C h.objs.size) := by heap_get
  have hcC : (Value.ref C :: bm).contains (.ref C) = true := by simp
  unfold isInstance
  repeat (first
    | with_reducible refine wpAny_loadPart_at hx ?_
    | (with_reducible refine wpAny_isSubtype_exc hC' ?_; rw [hcC])
    | wp_step)
  show wpAny _ _ (typeLookup (.ref C) _) _ _ _
  refine (hi.keeps kp).at (wpAny_holding (wpAny_bind (((hb (.ref (h.objs.size + 1))).keeps kp).at ?_)))
  refine wpAny_bind (wpAny_call (codeAny_mono hq fun r s' z => ?_))
  cases r with
  | error e => exact z
  | ok fl =>
    cases fl with
    | ret v =>
      obtain ⟨ev, z'⟩ := z
      subst ev
      first
        | exact wpAny_pure (wpAny_pure z')
        | (wp_walk; exact z')
    | next => exact False.elim z
    | brk => exact False.elim z
    | cont => exact False.elim z
/-- the call C(..) -/
theorem mk_call (F : ExcBaseFacts B newId initId bmB) (L : LineX B bm) {rest : List Value} {kw : List (Str × Value)} {iv : Value}
    (hC : h.get? C = some (excClassObj nm q C N bs bm hdct sn sub ab col dd k0 k1 k2 k3 k5 newId)) (hz : rest.length ≤ sizeLine)
    (hi : W.Looks (model prog w) h (typeLookup (.ref C) "__init__") (some iv))
    (hb : ∀ self, W.Looks (model prog w) h (bindSpecial iv self) (iv, [self]))
    (hq : codeAny (model prog w) (A.under (.builtin "type.__call__" ⟨.ref C :: rest, kw⟩)) (.call iv ⟨.ref (h.objs.size + 1) :: rest, kw⟩) (W.InitBack (h.objs.size + 1) R)
      ⟨(h.push (W.kdv_tup rest)).push (excO C h.objs.size), g, d, t, os⟩) :
    codeAny (model prog w) A (.call (.ref C) ⟨rest, kw⟩) R ⟨h, g, d, t, os⟩ := by
  have f1 := tc_lookup
  have f2 := tc_bind (.ref C)
  have hTy : (⟨h, g, d, t, os⟩ : Shared).TypeIs (.ref C) "type" := ⟨_, hC, rfl⟩
  refine codeAny_of_tree ?_
  show wpAny _ _ (callAny (.ref C) _) _ _ _
  repeat (any_goals (first | assumption | with_reducible refine wpAny_loadPart_at hC ?_ | wp_step))
  refine ⟨rfl, codeAny_call_builtin_at (Code.quiet_builtin _ (by decide +kernel)) entry_typeCall (wpAny_check_type_call_sub hC (mk_type F L hC hz hi hb ?_))⟩
  refine codeAny_mono hq fun r s' z => ?_
  cases r with
  | error e => exact z
  | ok fl => cases fl <;> exact z
end
end Tp
set_option Elab.async false
set_option linter.all false
set_option maxRecDepth 100000
set_option maxHeartbeats 4000000
/-! exceptions of the program's own classes, over any built-in base: made as values, stored into, read, asked for their class, raised -/
namespace Tp
open PySem PySem.Spec PyProof.Rows L2
abbrev valLine : List Value := [.type "ValueError", .type "Exception", .type "BaseException", .type "object"]
abbrev keyLine : List Value := [.type "KeyError", .type "LookupError", .type "Exception", .type "BaseException", .type "object"]
abbrev lookLine : List Value := [.type "LookupError", .type "Exception", .type "BaseException", .type "object"]
local macro_rules | `(tactic| walk_at "factX") => `(tactic| first | decide +kernel | kernel_rfl | (rw [isSubtype_type]; kernel_rfl) | (rw [mroOf_type]; kernel_rfl) | (intro z; kernel_rfl) | (intro z1 z2 z3; unfold argsOk; kernel_rfl))
theorem storeKey : StoreFacts "KeyError" keyLine "object.__setattr__" "object" :=
  { mro := by walk_at "factX"
    slot := .of (owner := "object") (n := "__setattr__")
      (by rw [typeLookup_type, builtinLookup_eq_fast]; kernel_rfl) (by walk_at "factX") (by walk_at "factX")
      (by walk_at "factX") (by first | exact .inl (by walk_at "factX") | exact .inr (by walk_at "factX")) (by walk_at "factX")
    entry := F.store_object.entry
    kind := by walk_at "factX"
    split := by walk_at "factX"
    hasOwner := by walk_at "factX"
    args := by walk_at "factX"
    passes := by walk_at "factX" }
/-- a base: what makes its instances, what line stands behind its classes -/
structure BaseX (newId : String) (line : List Value) : Prop where
  ex : ∃ (B initId S : String) (bmB : List Value), ExcBaseFacts B newId initId bmB ∧ StoreFacts S line "object.__setattr__" "object" ∧ LineX B line
theorem baseV : BaseX "ValueError.__new__" valLine := ⟨_, _, _, _, F.excBase_ValueError, F.store_ValueError, ⟨by decide +kernel, by decide +kernel, by decide +kernel⟩⟩
theorem baseK : BaseX "LookupError.__new__" keyLine := ⟨_, _, _, _, F.excBase_LookupError, storeKey, ⟨by decide +kernel, by decide +kernel, by decide +kernel⟩⟩
theorem baseL : BaseX "LookupError.__new__" lookLine := ⟨_, _, _, _, F.excBase_LookupError, F.store_LookupError, ⟨by decide +kernel, by decide +kernel, by decide +kernel⟩⟩
/-- what the written part says of an own class of exceptions -/
structure ExK (K : PySem.W.Frag) (C : Addr) : Prop where
  ln : ∃ (newId : String) (line : List Value), BaseX newId line ∧ PySem.W.excInitIn K C line newId = true ∧ PySem.W.excOver K C line = true
  sa : PySem.W.findIn K (.ref C) "__setattr__" = some (some (.builtin "object.__setattr__"))
  ga : PySem.W.findIn K (.ref C) "__getattribute__" = some (some (.builtin "BaseException.__getattribute__"))
  gg : PySem.W.findIn K (.ref C) "__getattr__" = some none
  exC : PySem.W.subIn K (.ref C) (.type "BaseException") = some true
  tyC : PySem.W.typeIn K (.ref C) = some (.type "type")
  hdC : PySem.W.hasDictIn K C = true
  kC : PySem.W.keepIn K (.ref C) = true
  ha : PySem.W.findIn K (.ref C) "__class__" = some (some (.builtin "object.__class__"))
  hn : PySem.W.specialIn K (.builtin "object.__class__") "__get__" = some (some (.builtin "getset_descriptor.__get__"))
  ht : PySem.W.takesIn K (.builtin "object.__class__") = some true
  hm : PySem.W.mroIn K C (.type "object") = some true
/-- a class for which name f is free -/
def freeB (K : PySem.W.Frag) (C : Addr) (f : Str) : Bool := decide (PySem.W.findIn K (.ref C) f = some none)
theorem freeB_ok {K : PySem.W.Frag} {C : Addr} {f : Str} (h : freeB K C f = true) : PySem.W.findIn K (.ref C) f = some none := of_decide_eq_true h
def exkB (K : PySem.W.Frag) (C : Addr) (newId : String) (line : List Value) : Bool :=
  PySem.W.excInitIn K C line newId && (PySem.W.excOver K C line &&
  (decide (PySem.W.findIn K (.ref C) "__setattr__" = some (some (.builtin "object.__setattr__"))) &&
  (decide (PySem.W.findIn K (.ref C) "__getattribute__" = some (some (.builtin "BaseException.__getattribute__"))) &&
  (decide (PySem.W.findIn K (.ref C) "__getattr__" = some none) &&
  (decide (PySem.W.subIn K (.ref C) (.type "BaseException") = some true) &&
  (decide (PySem.W.typeIn K (.ref C) = some (.type "type")) &&
  (PySem.W.hasDictIn K C && (PySem.W.keepIn K (.ref C) &&
  (decide (PySem.W.findIn K (.ref C) "__class__" = some (some (.builtin "object.__class__"))) &&
  (decide (PySem.W.specialIn K (.builtin "object.__class__") "__get__" = some (some (.builtin "getset_descriptor.__get__"))) &&
  (decide (PySem.W.takesIn K (.builtin "object.__class__") = some true) && decide (PySem.W.mroIn K C (.type "object") = some true))))))))))))
theorem exkB_ok {K : PySem.W.Frag} {C : Addr} {newId : String} {line : List Value} (b : BaseX newId line) (h : exkB K C newId line = true) : ExK K C := by
  unfold exkB at h
  simp only [Bool.and_eq_true, decide_eq_true_eq] at h
  obtain ⟨h1, h2, h3, h4, h5, h6, h7, h8, h9, h10, h11, h12, h13⟩ := h
  exact ⟨⟨newId, line, b, h1, h2⟩, h3, h4, h5, h6, h7, h8, h9, h10, h11, h12, h13⟩

/-- an exception that stands as a value at a: its class, its fields -/
def ExAt (H : Hp) (a C : Addr) (fs : List (Str × V)) : Prop := (fs = [] ∧ H a = some (exo a C none)) ∨ ∃ dx, dx ≠ a ∧ H a = some (exo a C (some dx)) ∧ H dx = some (exd dx fs)

theorem ne_of_none' {H : Hp} {a b : Addr} {o : HO} (n : H b = none) (e : H a = some o) : b ≠ a := fun z => by
  rw [z, e] at n
  cases n
section

variable {prog : Program} {w : World} {A : Around} {E : Value → Shared → Prop} {R : Result → Shared → Prop} {hp : Heap} {g : Array GenState} {d : Drawn} {t : Nat} {os : OsState}
variable {K : PySem.W.Frag} {name : Str} {tk : Tok} {v : Value} {x C t1 : Addr} {B : String} {line : List Value}
theorem taker_none (h : PySem.W.findIn K (.ref C) name = some none) : PySem.W.takerIn K C name = some none := by
  unfold PySem.W.takerIn
  rw [h]
  rfl
/-- the first field -/
theorem osa_first (SF : StoreFacts B line "object.__setattr__" "object") (X : K.In hp) (hx : hp.get? x = some (PySem.W.excObj C t1 none .none)) (hl : PySem.W.excOver K C line = true) (hh : PySem.W.hasDictIn K C = true) (ha : PySem.W.findIn K (.ref C) name = some none)
    (hq : ∀ h' tk' dx, (∀ b o, b ≠ x → hp.get? b = some o → h'.get? b = some o) → hp.objs.size ≤ dx → dx ≠ x → h'.get? x = some (PySem.W.excObj C t1 (some dx) .none) →
      h'.Ns1 dx (fun y => if y = name then some v else none) → R (.ok (.ret .none)) ⟨h', g, d, tk', os⟩) :
    codeAny (model prog w) A (.call (.builtin "object.__setattr__") ⟨[.ref x, .str name tk, v], []⟩) R ⟨hp, g, d, t, os⟩ := by
  refine PySem.W.osa_openX (od := none) SF X ⟨hx, rfl, rfl, trivial⟩ hl (taker_none ha) fun b => ?_
  obtain ⟨cd, hc, hd'⟩ := PySem.W.any_some hh
  refine wpAny_bind (wpAny_pure (wpAny_bind (PySem.W.instanceDict_exc hx (PySem.W.looks_clsIn X hc) hd' ?_)))
  show wpAny _ _ (Builtin.ObjectAttr.storeInDict hp.objs.size (.str name tk) name v) _ _ _
  have hxs : x ≠ hp.objs.size := Nat.ne_of_lt (Heap.lt_size hx)
  refine HandSPX.store_in_new ?_ fun h' tk' hn' hs => ?_
  · exact ⟨_, #[], _, (Heap.get?_update_ne _ _ _ _ hxs.symm).trans (Heap.get?_push_at rfl rfl), rfl, fun e he => absurd he (by simp), fun _ => rfl⟩
  · refine hq h' tk' hp.objs.size (fun b o hb ho => ?_) (Nat.le_refl _) hxs.symm ?_ hn'
    · exact (hs.2 b (Nat.ne_of_lt (Heap.lt_size ho))).trans ((Heap.get?_update_ne _ _ _ _ hb).trans (Heap.get?_push_of_some _ ho))
    · exact (hs.2 x hxs).trans (Heap.get?_update_self _ (Heap.get?_push_of_some _ hx) rfl)
/-- a further one -/
theorem osa_next {dx : Addr} {m0 : Str → Option Value} {nl : List Str} (SF : StoreFacts B line "object.__setattr__" "object") (X : K.In hp) (hx : hp.get? x = some (PySem.W.excObj C t1 (some dx) .none)) (hl : PySem.W.excOver K C line = true) (hh : PySem.W.hasDictIn K C = true) (ha : PySem.W.findIn K (.ref C) name = some none)
    (hns : hp.Ns1 dx m0) (hw : Within m0 nl) (hz : nl.length ≤ 1000)
    (hq : ∀ h' tk', (∀ b o, b ≠ dx → hp.get? b = some o → h'.get? b = some o) → h'.Ns1 dx (fun y => if y = name then some v else m0 y) → R (.ok (.ret .none)) ⟨h', g, d, tk', os⟩) :
    codeAny (model prog w) A (.call (.builtin "object.__setattr__") ⟨[.ref x, .str name tk, v], []⟩) R ⟨hp, g, d, t, os⟩ := by
  obtain ⟨oD, _, _, hoD, _, _⟩ := hns.count hw
  refine PySem.W.osa_openX (od := some oD) SF X ⟨hx, rfl, rfl, hoD⟩ hl (taker_none ha) fun b => ?_
  obtain ⟨cd, hc, hd'⟩ := PySem.W.any_some hh
  refine wpAny_bind (wpAny_pure (wpAny_bind (wpAny_bind (wpAny_loadPart hx (wpAny_bind ((PySem.W.looks_clsIn X hc).here ?_))))))
  rw [hd']
  refine wpAny_pure (a := some dx) ?_
  exact PySem.OEX.store_in_old hns hw hz fun h' tk' hn' hs => hq h' tk' (fun b o hb ho => (hs.2 b hb).trans ho) hn'
end
section
variable {X : Cx} {pins : List (Addr × Obj)} {σ : L2.St} {H : Hp} {s : Shared} {a C dx : Addr} {f : Str} {y : V} {u : Value} {fs : List (Str × V)} {E : Value → Shared → Prop} {A : Around}
theorem st_first {Q : Unit → Shared → Prop} (T : ExK X.K C) (I : Inv X pins σ H s) (e : H a = some (exo a C none)) (hno : PySem.W.findIn X.K (.ref C) f = some none) (ry : RelV y u)
    (h : ∀ dx s', H dx = none → dx ≠ a → Inv X pins σ (upd (upd H dx (exd dx [(f, y)])) a (exo a C (some dx))) s' → Q () s') : wpAny (model X.prog X.w) A (setAttr (.ref a) f u) Q E s := by
  obtain ⟨newId, line, ⟨B, initId, S, bmB, FB, SF, L⟩, hi, hl⟩ := T.ln
  obtain ⟨t1, ho⟩ := exo_at I.hok e
  obtain ⟨hp, g, d, t, os⟩ := s
  refine PySem.W.set_plain I.kIn (ox := PySem.W.excObj C t1 none .none) (od := none) ⟨ho, rfl, rfl, trivial⟩ T.sa ?_
  refine osa_first SF I.kIn ho hl T.hdC hno (fun h' tk' dx k dn dne hx hn => ?_)
  have hnd : H dx = none := I.hok.fresh dn
  have nd : ∀ {b : Addr} {o : Obj}, hp.get? b = some o → b ≠ dx := fun {b o} q => Nat.ne_of_lt (Nat.lt_of_lt_of_le (Heap.lt_size q) dn)
  have na : ∀ {b : Addr}, H b = none → b ≠ a := fun {b} n => ne_of_none' n e
  have U : Un X.fs [] H (upd (upd H dx (exd dx [(f, y)])) a (exo a C (some dx))) hp h' :=
    ⟨fun b o q n _ _ => k b o (na n) q, fun b o q n _ _ => ⟨o.slots, k b o (na n) q⟩,
      fun b o q n _ => (upd_ne (na n)).trans ((upd_ne (nd q)).trans n),
      fun b o q _ => if hb : b = a then ⟨_, hb ▸ hx⟩ else ⟨o, k b o hb q⟩,
      fun b xs q => (upd_ne (at_ne e q exo_tup)).trans ((upd_ne (ne_of_none q hnd)).trans q),
      fun b o v q => (upd_ne (at_ne e q exo_frz)).trans ((upd_ne (ne_of_none q hnd)).trans q),
      fun b ps q => ⟨#[], by
        rw [upd_ne (at_ne e q exo_tbl), upd_ne (ne_of_none q hnd), q]
        simp⟩⟩
  refine h dx _ hnd dne (I.un (t' := tk') U fun b o q => ?_)
  by_cases hb : b = a
  · subst hb
    cases upd_same.symm.trans q
    exact exo_ok hx
  · rw [upd_ne hb] at q
    by_cases hd : b = dx
    · subst hd
      cases upd_same.symm.trans q
      exact exd_ok hn (relO_put (fs := []) ry fun g => True.intro)
    · rw [upd_ne hd] at q
      have stay : ∀ {c : Addr}, H c = some (.own b) → c ≠ a := fun hc => at_ne e hc exo_own
      refine (I.hok b o q).stay (fun c v hc z => k c v (hc.elim (fun ec => ec ▸ hb) stay) z) (fun c hc => ?_) (fun c xs hc => ?_)
      · exact (upd_ne (stay hc)).trans ((upd_ne (ne_of_none hc hnd)).trans hc)
      · exact (upd_ne (at_ne e hc exo_tup)).trans ((upd_ne (ne_of_none hc hnd)).trans hc)
theorem st_next {Q : Unit → Shared → Prop} (T : ExK X.K C) (I : Inv X pins σ H s) (e : H a = some (exo a C (some dx))) (ed : H dx = some (exd dx fs)) (hl : fs.length ≤ 900) (hno : PySem.W.findIn X.K (.ref C) f = some none) (ry : RelV y u)
    (h : ∀ s', Inv X pins σ (upd H dx (exd dx ((f, y) :: fs))) s' → Q () s') : wpAny (model X.prog X.w) A (setAttr (.ref a) f u) Q E s := by
  obtain ⟨newId, line, ⟨B, initId, S, bmB, FB, SF, L⟩, hi, hlo⟩ := T.ln
  obtain ⟨t1, ho⟩ := exo_at I.hok e
  obtain ⟨mA, hns, rel⟩ := exd_at I.hok ed
  have hw := within_of rel
  obtain ⟨hp, g, d, t, os⟩ := s
  obtain ⟨oD, _, _, hoD, _, _⟩ := hns.count hw
  refine PySem.W.set_plain I.kIn (ox := PySem.W.excObj C t1 (some dx) .none) (od := some oD) ⟨ho, rfl, rfl, hoD⟩ T.sa ?_
  refine osa_next SF I.kIn ho hlo T.hdC hno hns hw (by rw [List.length_map]; omega) (fun h' tk' k hn => ?_)
  have hd : ∃ o, h'.get? dx = some o := by
    obtain ⟨o, _, _, e', _⟩ := hn
    exact ⟨o, e'⟩
  exact h _ (I.write (t' := tk') (x := dx) (e := dx) (o := exd dx ((f, y) :: fs)) (by rw [ed]; exact True.intro) (.inl rfl) k hd (exd_ok hn (relO_put ry rel)))
end
end Tp
set_option Elab.async false
set_option linter.all false
set_option maxRecDepth 100000
set_option maxHeartbeats 4000000
/-! rules for exceptions that stand as values -/
namespace Tp
open PySem PySem.Spec PyProof.Rows L2
section
variable {X : Cx} {pins : List (Addr × Obj)} {σ : L2.St} {H : Hp} {s : Shared} {a D C : Addr} {fs : List (Str × V)}
theorem ex_inst (I : Inv X pins σ H s) (h : ExAt H a D fs) : ∃ (ox : Obj) (od : Option Obj), PySem.W.InstAt s.heap a ox D od ∧ ∀ f v, fs.lookup f = some v → ∃ o u, od = some o ∧ PySem.W.lookIn f o = some (some u) ∧ RelV v u := by
  rcases h with ⟨rfl, e⟩ | ⟨dx, _, e, ed⟩
  · obtain ⟨t1, ho⟩ := exo_at I.hok e
    exact ⟨_, none, ⟨ho, rfl, rfl, trivial⟩, fun f v z => by cases z⟩
  · obtain ⟨t1, ho⟩ := exo_at I.hok e
    obtain ⟨mA, hns, rel⟩ := exd_at I.hok ed
    obtain ⟨oD, hoD, hl⟩ := lookIn_ns hns
    refine ⟨_, some oD, ⟨ho, rfl, rfl, hoD⟩, fun f v z => ?_⟩
    obtain ⟨u, hu, ru⟩ := RelO.some_of (v := v) (o := mA f) (by rw [← z]; exact rel f)
    exact ⟨oD, u, rfl, by rw [hl, hu], ru⟩
theorem ex_kit (T : ExK X.K D) {ox : Obj} {od : Option Obj} : PySem.W.KitX X.K (.ref a) (.ref D) (fun h => PySem.W.InstAt h a ox D od) :=
  PySem.W.kitx_exc (by obtain ⟨cd, hc, _⟩ := PySem.W.any_some T.hdC; rw [hc]; rfl) T.ga T.gg T.exC T.ha T.hn T.ht T.hm
end
/-- isinstance(e, c) -/
def rIsx (K : PySem.W.Frag) : List V → Hp → VK → Prop := fun xs H Q => ∃ (a D : Addr) (fs : List (Str × V)) (c : V) (cv : Value) (b : Bool), xs = [.ref a, c] ∧ ExAt H a D fs ∧ ExK K D ∧ ClsV c cv ∧ PySem.W.kitOne K (.ref D) cv = some b ∧ Q (.bl b) H
/-- isinstance(e, (c, ..)) -/
def rIsxT (K : PySem.W.Frag) : List V → Hp → VK → Prop := fun xs H Q => ∃ (a D : Addr) (fs : List (Str × V)) (tp : Addr) (cs : List V) (us : List Value) (b : Bool), xs = [.ref a, .ref tp] ∧ ExAt H a D fs ∧ ExK K D ∧ H tp = some (.tup cs) ∧ Paired ClsV cs us ∧ PySem.W.kitAny K (.ref D) us = some b ∧ Q (.bl b) H
section
variable {X : Cx}
theorem call_isx : CallR X (.builtin "isinstance") (rIsx X.K) := by
  intro pins s σ H xs us Q I r h
  obtain ⟨a, D, fs, c, cv, b, rfl, ha, T, k, e, q⟩ := h
  obtain ⟨u1, u2, rfl, r1, r2⟩ := vals2 r
  cases (show u1 = Value.ref a from r1)
  have e2 := k.eq r2
  subst e2
  obtain ⟨ox, od, J, _⟩ := ex_inst I ha
  exact PySem.W.kia_one (ex_kit T) I.kIn J e (fun z => nomatch z) fun tk => ⟨.bl b, H, I.tok tk, rfl, q⟩
theorem call_isxT : CallR X (.builtin "isinstance") (rIsxT X.K) := by
  intro pins s σ H xs us Q I r h
  obtain ⟨a, D, fs, tp, cs, ws, b, rfl, ha, T, hT, k, e, q⟩ := h
  obtain ⟨u1, u2, rfl, r1, r2⟩ := vals2 r
  cases (show u1 = Value.ref a from r1)
  cases (show u2 = Value.ref tp from r2)
  obtain ⟨ox, od, J, _⟩ := ex_inst I ha
  obtain ⟨_, its, rv, o, h1, h2, n, h3⟩ := (show ObjOk X.prog X.w H s.heap tp (.tup cs) from I.hok tp _ hT)
  have e3 := ClsV.all k rv
  subst e3
  obtain ⟨oc, od', dt, sl⟩ := o
  simp only at h2 h3
  subst h2 h3
  exact PySem.W.kia_tup (ex_kit T) I.kIn J h1 e (fun z => nomatch z) fun tk => ⟨.bl b, H, I.tok tk, rfl, q⟩
end
/-- e.f -/
def tXg (K : PySem.W.Frag) (f : Str) (te : TE) : TE := fun σ H Q => te σ H fun x H1 => ∃ (a D : Addr) (fs : List (Str × V)) (v : V), x = .ref a ∧ ExAt H1 a D fs ∧ ExK K D ∧ PySem.W.findIn K (.ref D) f = some none ∧ fs.lookup f = some v ∧ Q v H1
/-- o.f = e -/
def tOsx (K : PySem.W.Frag) (f : Str) (to te : TE) : TS := fun D σ H => te σ H fun y H1 => to σ H1 fun x H2 => ∃ a C : Addr, x = .ref a ∧ ExK K C ∧ PySem.W.findIn K (.ref C) f = some none ∧
  ((H2 a = some (exo a C none) ∧ ∀ dx, H2 dx = none → dx ≠ a → D.nx σ (upd (upd H2 dx (exd dx [(f, y)])) a (exo a C (some dx)))) ∨
    ∃ (dx : Addr) (fs : List (Str × V)), H2 a = some (exo a C (some dx)) ∧ H2 dx = some (exd dx fs) ∧ fs.length ≤ 900 ∧ D.nx σ (upd H2 dx (exd dx ((f, y) :: fs))))
/-- C(..): its __init__ keeps sp -/
def tMkx (C : Addr) (n m : Nat) (sp : Sp) (gV : List V → List V → List V) (t tk : TA) : TE := fun σ H Q => t σ H fun vs H1 => tk σ H1 fun zs H2 => vs.length = n ∧ zs.length = m ∧ n ≤ 1000 ∧
  ∀ a, H2 a = none → sp (gV (.ref a :: vs) zs) (upd H2 a (exo a C none)) (fun v H3 => v = .non ∧ Q (.ref a) H3) E0
section
variable {X : Cx} {k n : Nat} {C fI : Addr} {fd : FuncData} {ps ks : List Str} {sp : Sp} {x f : Str} {p pos p' : Pos} {e o : Expr} {es : List Expr} {kws : List Keyword} {te to : TE} {t tk : TA}
variable {g : List Value → List Value → List Value} {gV : List V → List V → List V}
theorem pe_xg (he : PE X e te) (hb : attributeBase e f X.env (eval e X.env) = eval e X.env := by rfl) : PE X (.Attribute e f pos) (tXg X.K f te) := by
  refine ⟨fun pins s σ H Q I h => attr_of hb (thn (he.run pins s σ H _ I h) fun u s1 hh => ?_)⟩
  obtain ⟨x, H1, I1, rx, a, D, fs, v, rfl, hA, T, hno, l, q⟩ := hh
  cases (show u = Value.ref a from rx)
  obtain ⟨ox, od, J, hl⟩ := ex_inst I1 hA
  obtain ⟨o, w, rfl, lo, ru⟩ := hl f v l
  exact HandSPX.exc_get I1.kIn J T.ga T.gg T.exC (PySem.W.findObj_own T.hdC hno rfl lo) (handed_of ru) ⟨v, H1, I1.tok _, ru, q⟩
theorem ps_osx (ho : PE X o to) (he : PE X e te) (hs : swapsWith e (some (.Attribute o f p')) pos.line X.env = pure false := by rfl) : PS X (.Assign [.Attribute o f p'] e pos) (tOsx X.K f to te) := by
  refine ⟨fun pins s σ H D I h => ?_⟩
  refine plainObj_wpAny_Assign_Attribute (thn (he.run pins s σ H _ I h) fun v s1 ⟨y, H1, I1, r1, q1⟩ => thn (ho.run pins s1 σ H1 _ I1 q1) fun u s2 hh => ?_) hs
  obtain ⟨x, H2, I2, r2, a, C, rfl, T, hno, q⟩ := hh
  cases (show u = Value.ref a from r2)
  rcases q with ⟨ea, q⟩ | ⟨dx, fs, ea, ed, hl, q⟩
  · exact st_first T I2 ea hno r1 fun dx s' n ne J => ⟨σ, _, J, q dx n ne⟩
  · exact st_next T I2 ea ed hl hno r1 fun s' J => ⟨σ, _, J, q⟩
/-- the call of the class, its arguments told -/
theorem run_mkx {pins : List (Addr × Obj)} {σ : L2.St} {H : Hp} {s : Shared} {Q : VK} {us ws : List Value} {vs zs : List V} (T : ExK X.K C) (iC : PySem.W.findIn X.K (.ref C) "__init__" = some (some (.ref fI))) (tI : PySem.W.typeIn X.K (.ref fI) = some (.type "function"))
    (F : FnOk X.prog X.w X.K X.mg X.base CX0 k fI fd ps sp) (hr : Room (k + 1) X.A) (hb : KBn X.K fd ps (n + 1) ks g gV) (I : Inv X pins σ H s) (r : Vals vs us) (rz : Vals zs ws) (l1 : vs.length = n) (l2 : zs.length = ks.length) (hn : n ≤ 1000)
    (h : ∀ a, H a = none → sp (gV (.ref a :: vs) zs) (upd H a (exo a C none)) (fun v H3 => v = .non ∧ Q (.ref a) H3) E0) :
    wpAny (model X.prog X.w) X.A (call (.ref C) us (ks.zip ws)) (EP X pins σ Q) X.xe s := by
  obtain ⟨newId, line, ⟨B, initId, S, bmB, FB, SF, L⟩, hi, hl⟩ := T.ln
  obtain ⟨nm, N, qn, bs, bm, hdct, sn, sub, ab, col, dd, k0, k1, k2, k3, k5, hC, hT⟩ := PySem.W.excInit_of I.kIn hi
  have L' : LineX B bm := ⟨(hT _).trans L.hB, (hT _).trans L.hA, (hT _).trans L.hN⟩
  obtain ⟨hp, gg, dr, tk, os⟩ := s
  have hsz : hp.objs.size ≤ hp.objs.size + 1 := Nat.le_succ _
  have kk : ∀ b o, hp.get? b = some o → ((hp.push (PySem.W.kdv_tup us)).push (PySem.HandSPX.excO C hp.objs.size)).get? b = some o := fun b o z => Heap.get?_push_of_some _ (Heap.get?_push_of_some _ z)
  have hget : ((hp.push (PySem.W.kdv_tup us)).push (PySem.HandSPX.excO C hp.objs.size)).get? (hp.objs.size + 1) = some (PySem.HandSPX.excO C hp.objs.size) := by heap_get
  have I2 : Inv X pins σ (upd H (hp.objs.size + 1) (exo (hp.objs.size + 1) C none)) ⟨(hp.push (PySem.W.kdv_tup us)).push (PySem.HandSPX.excO C hp.objs.size), gg, dr, tk, os⟩ :=
    I.laid (t' := tk) kk hsz (exo_ok hget)
  have hq := h (hp.objs.size + 1) (I.hok.fresh hsz)
  have r1 : Vals (V.ref (hp.objs.size + 1) :: vs) (Value.ref (hp.objs.size + 1) :: us) := .cons rfl r
  have lu : us.length = n := r.length.symm.trans l1
  have hus : us.length ≤ sizeLine := by
    rw [lu, sizeLine_eq]
    omega
  have e1 : (Value.ref (hp.objs.size + 1) :: us).length = n + 1 := congrArg Nat.succ lu
  have e2 : ws.length = ks.length := rz.length.symm.trans l2
  refine wpAny_call (mk_call FB L' hC hus (PySem.W.looks_findIn I.kIn iC) (fun self => PySem.W.bind_fn I.kIn self tI)
    (codeAny_mono (F.run _ X.stack _ _ ⟨Value.ref (hp.objs.size + 1) :: us, ks.zip ws⟩ (g (Value.ref (hp.objs.size + 1) :: us) ws) _ _ E0 (hr.make C us (ks.zip ws))
      (I2.env0.make C us (ks.zip ws)) (hb.to _ (Value.ref (hp.objs.size + 1) :: us) ws I2.kIn e1 e2) (hb.rel r1 rz) hq) fun r' s' hq' => ?_))
  cases r' with
  | error e => exact False.elim hq'
  | ok fl =>
    cases fl with
    | ret u =>
      obtain ⟨v, H', I3, rv, ev, q3⟩ := I2.after hq'
      subst ev
      exact ⟨rv, ⟨V.ref (hp.objs.size + 1), H', I3, rfl, q3⟩⟩
    | next => exact False.elim hq'
    | brk => exact False.elim hq'
    | cont => exact False.elim hq'
/-- what a caller knows of an own class of exceptions: its __init__ -/
structure Cx1 (P : Program) (w : World) (K : PySem.W.Frag) (mg : Str → Option Value) (base : Heap) (x : Str) (C : Addr) (n : Nat) (ks : List Str) (sp : Sp) (gV : List V → List V → List V) : Prop where
  ex : ∃ (fI : Addr) (fd : FuncData) (ps : List Str) (g : List Value → List Value → List Value), ExK K C ∧ mg x = some (.ref C) ∧ PySem.W.findIn K (.ref C) "__init__" = some (some (.ref fI)) ∧ PySem.W.typeIn K (.ref fI) = some (.type "function") ∧
    FnOk P w K mg base CX0 1 fI fd ps sp ∧ KBn K fd ps (n + 1) ks g gV
/-- C(e, ..) -/
theorem pe_mkx (c : Cx1 X.prog X.w X.K X.mg X.base x C n [] sp gV) (hr : Room 2 X.A) (hg : Gl X x) (ha : PA X (e :: es) t)
    (hdb : (x == ("__debug__" : Str)) = false := by decide) (he : starEach (e :: es) X.env = (false, eval e X.env) :: starEach es X.env := by rfl) (hpl : (backTo pos (starEach es X.env)).any (·.1) = false := by rfl) :
    PE X (.Call (.Name x p) (e :: es) [] pos) (tMkx C n 0 sp gV t tNil) := by
  obtain ⟨fI, fd, ps, g, T, hm, iC, tI, F, hb⟩ := c.ex
  refine ⟨fun pins s σ H Q I h => wpAny_Call_Name_kw (ld_glob I hg hm ?_ hdb)⟩
  refine PySem.W.callWith_K (h₀ := X.base) I.ok.mod.kin T.kC (thn (ha.run pos pins s σ H _ I h) fun us s1 hh => ?_) he hpl
  obtain ⟨vs, H1, I1, r, l1, _, hn, q⟩ := hh
  exact ⟨I1.kIn, run_mkx T iC tI F hr hb I1 r (ws := []) .nil l1 rfl hn q⟩
/-- C(k = e, ..) -/
theorem pe_mkk (c : Cx1 X.prog X.w X.K X.mg X.base x C 0 ks sp gV) (hr : Room 2 X.A) (hg : Gl X x) (hkw : PK X kws tk)
    (hall : (backToKw pos (keywordEach kws X.env)).all (·.1.isSome) = true := by rfl) (hks : (backToKw pos (keywordEach kws X.env)).filterMap (·.1) = ks := by rfl) (hdb : (x == ("__debug__" : Str)) = false := by decide)
    (hpl : ((backTo pos (starEach [] X.env)).any (·.1) || (backToKw pos (keywordEach kws X.env)).any (·.1.isNone)) = false := by rfl) :
    PE X (.Call (.Name x p) [] kws pos) (tMkx C 0 ks.length sp gV tNil tk) := by
  obtain ⟨fI, fd, ps, g, T, hm, iC, tI, F, hb⟩ := c.ex
  refine ⟨fun pins s σ H Q I h => wpAny_Call_Name_kw (ld_glob I hg hm ?_ hdb)⟩
  refine PySem.W.callWith_KW0 (h₀ := X.base) I.ok.mod.kin T.kC hall (thn (hkw.run pos pins s σ H _ I h) fun ws s2 hh => ?_) hpl
  obtain ⟨zs, H2, I2, rz, l1, l2, hn, q⟩ := hh
  refine ⟨I2.kIn, ?_⟩
  rw [hks]
  exact run_mkx T iC tI F hr hb I2 .nil rz l1 l2 hn q
/-- C() -/
theorem pe_mk0 (c : Cx1 X.prog X.w X.K X.mg X.base x C 0 [] sp gV) (hr : Room 2 X.A) (hg : Gl X x) (hdb : (x == ("__debug__" : Str)) = false := by decide) :
    PE X (.Call (.Name x p) [] [] pos) (tMkx C 0 0 sp gV tNil tNil) := by
  obtain ⟨fI, fd, ps, g, T, hm, iC, tI, F, hb⟩ := c.ex
  refine ⟨fun pins s σ H Q I h => wpAny_Call_Name_kw (ld_glob I hg hm ?_ hdb)⟩
  obtain ⟨_, _, hn, q⟩ := h
  exact PySem.W.callWith_K0 (I.tok _).kIn T.kC (run_mkx T iC tI F hr hb (I.tok _) .nil (ws := []) .nil rfl rfl hn q)
/-- what makes an exception as a value may be raised -/
theorem pmk_x (hx : X.ex = []) (he : PE X e te) :
    PMk X e (fun σ H Q => te σ H fun x H1 => ∃ (a C : Addr) (d : Option Addr), x = .ref a ∧ H1 a = some (exo a C d) ∧ Fr0 X.H_0 a ∧ ExK X.K C ∧ Q (.ref C) d (delH H1 a)) := by
  intro pins s σ H Q I h
  refine wpAny_mono (he.run pins s σ H _ I h) (fun u s1 hu => ?_) fun _ _ x => x
  obtain ⟨v, H1, I1, r1, a, C, d, rfl, ha, h0, T, q⟩ := hu
  cases (show u = Value.ref a from r1)
  obtain ⟨t1, ho⟩ := exo_at I1.hok ha
  obtain ⟨G, gs, ga, J⟩ := I1.untrack ha h0 hx
  exact ⟨a, _, _, { s1 with heap := G }, delH H1 a, .ref C, d, rfl, J, gs, ga, ho, ⟨rfl, rfl⟩, rfl, rfl, delH_same, rfl, I1.bare, raises_own T.exC T.tyC, q⟩
end
end Tp
set_option Elab.async false
set_option linter.all false
set_option maxRecDepth 100000
set_option maxHeartbeats 4000000
/-! what an __init__ that stores its arguments leaves; making such an exception -/
namespace Tp
open PySem PySem.Spec PyProof.Rows L2
def Has (fs : List (Str × V)) (ns : List Str) (vs : List V) : Prop := ∀ (k : Nat) (n : Str) (v : V), ns[k]? = some n → vs[k]? = some v → fs.lookup n = some v
def ExI (H : Hp) (a C : Addr) (ns : List Str) (vs : List V) : Prop := ∃ fs, ExAt H a C fs ∧ Has fs ns vs
theorem ExAt.mono {H H' : Hp} {a C : Addr} {fs : List (Str × V)} (k : Same H H') (h : ExAt H a C fs) : ExAt H' a C fs := by
  rcases h with ⟨e, h⟩ | ⟨dx, n, h1, h2⟩
  · exact .inl ⟨e, k _ _ h⟩
  · exact .inr ⟨dx, n, k _ _ h1, k _ _ h2⟩
theorem ExI.mono {H H' : Hp} {a C : Addr} {ns : List Str} {vs : List V} (k : Same H H') (h : ExI H a C ns vs) : ExI H' a C ns vs := by
  obtain ⟨fs, h1, h2⟩ := h
  exact ⟨fs, h1.mono k, h2⟩
/-- an __init__ that stores its arguments under the names ns -/
def spI (C : Addr) (ns : List Str) : Sp := fun vs H Q _ => ∃ (a : Addr) (xs : List V), vs = .ref a :: xs ∧ xs.length = ns.length ∧ H a = some (exo a C none) ∧ ∀ H', Keep a H H' → ExI H' a C ns xs → Q .non H'
section
variable {K : PySem.W.Frag} {C : Addr} {vs : List V} {H : Hp} {Q : VK} {E : XK} {n m : Str}
theorem ini_len {ns : List Str} (h : spI C ns vs H Q E) : vs.length = (("self" : Str) :: ns).length := by
  obtain ⟨a, xs, rfl, hl, _⟩ := h
  exact congrArg Nat.succ hl
theorem ini0 (h : spI C [] vs H Q E) : ∃ a, vs = [.ref a] ∧ Q .non H := by
  obtain ⟨a, xs, rfl, hl, ha, q⟩ := h
  cases xs with
  | cons x xs => cases hl
  | nil => exact ⟨a, rfl, q H (fun b o _ e => e) ⟨[], .inl ⟨rfl, ha⟩, fun k n v z _ => by cases z⟩⟩
theorem ini1 (h : spI C [n] vs H Q E) : ∃ (a : Addr) (x : V), vs = [.ref a, x] ∧ (ExK K C → PySem.W.findIn K (.ref C) n = some none →
    ∃ a' C' : Addr, V.ref a = .ref a' ∧ ExK K C' ∧ PySem.W.findIn K (.ref C') n = some none ∧ ((H a' = some (exo a' C' none) ∧ ∀ dx, H dx = none → dx ≠ a' → Q .non (upd (upd H dx (exd dx [(n, x)])) a' (exo a' C' (some dx)))) ∨
      ∃ (dx : Addr) (fs : List (Str × V)), H a' = some (exo a' C' (some dx)) ∧ H dx = some (exd dx fs) ∧ fs.length ≤ 900 ∧ Q .non (upd H dx (exd dx ((n, x) :: fs))))) := by
  obtain ⟨a, xs, rfl, hl, ha, q⟩ := h
  match xs, hl with
  | [x], _ =>
    refine ⟨a, x, rfl, fun T hn => ⟨a, C, rfl, T, hn, .inl ⟨ha, fun dx hd hne => q _ (fun b o hb e => ?_) ⟨[(n, x)], .inr ⟨dx, hne, upd_same, ?_⟩, fun k n' v h1 h2 => ?_⟩⟩⟩⟩
    · exact (upd_ne hb).trans ((upd_ne (ne_of_none e hd)).trans e)
    · exact (upd_ne hne).trans upd_same
    · cases k with
      | zero =>
        cases h1
        cases h2
        rw [lookup_put, if_pos rfl]
      | succ k => cases h1
theorem ini2 (hnm : n ≠ m) (h : spI C [n, m] vs H Q E) : ∃ (a : Addr) (x y : V), vs = [.ref a, x, y] ∧ (ExK K C → PySem.W.findIn K (.ref C) n = some none → PySem.W.findIn K (.ref C) m = some none → ∀ N : Hp → Prop,
    (∀ H2, (∃ a' C' : Addr, V.ref a = .ref a' ∧ ExK K C' ∧ PySem.W.findIn K (.ref C') m = some none ∧ ((H2 a' = some (exo a' C' none) ∧ ∀ dx, H2 dx = none → dx ≠ a' → Q .non (upd (upd H2 dx (exd dx [(m, y)])) a' (exo a' C' (some dx)))) ∨
      ∃ (dx : Addr) (fs : List (Str × V)), H2 a' = some (exo a' C' (some dx)) ∧ H2 dx = some (exd dx fs) ∧ fs.length ≤ 900 ∧ Q .non (upd H2 dx (exd dx ((m, y) :: fs))))) → N H2) →
    ∃ a' C' : Addr, V.ref a = .ref a' ∧ ExK K C' ∧ PySem.W.findIn K (.ref C') n = some none ∧ ((H a' = some (exo a' C' none) ∧ ∀ dx, H dx = none → dx ≠ a' → N (upd (upd H dx (exd dx [(n, x)])) a' (exo a' C' (some dx)))) ∨
      ∃ (dx : Addr) (fs : List (Str × V)), H a' = some (exo a' C' (some dx)) ∧ H dx = some (exd dx fs) ∧ fs.length ≤ 900 ∧ N (upd H dx (exd dx ((n, x) :: fs))))) := by
  obtain ⟨a, xs, rfl, hl, ha, q⟩ := h
  match xs, hl with
  | [x, y], _ =>
    refine ⟨a, x, y, rfl, fun T hn hm N hN => ⟨a, C, rfl, T, hn, .inl ⟨ha, fun dx hd hne => hN _ ⟨a, C, rfl, T, hm, .inr ⟨dx, _, upd_same, (upd_ne hne).trans upd_same, Nat.le_of_ble_eq_true rfl, ?_⟩⟩⟩⟩⟩
    have hne' : a ≠ dx := Ne.symm hne
    refine q _ (fun b o hb e => ?_) ⟨[(m, y), (n, x)], .inr ⟨dx, hne, (upd_ne hne').trans upd_same, upd_same⟩, fun k n' v h1 h2 => ?_⟩
    · have e1 : b ≠ dx := ne_of_none e hd
      exact (upd_ne e1).trans ((upd_ne hb).trans ((upd_ne e1).trans e))
    · match k with
      | 0 =>
        cases h1
        cases h2
        rw [lookup_put, if_neg hnm, lookup_put, if_pos rfl]
      | 1 =>
        cases h1
        cases h2
        rw [lookup_put, if_pos rfl]
      | k + 2 => cases h1
end
/-- an exception of C is made, its fields the values -/
def tMke (C : Addr) (ns : List Str) (t : TA) : TE := fun σ H Q => t σ H fun vs H1 => vs.length = ns.length ∧ ns.length ≤ 1000 ∧ ∀ a H', H1 a = none → Same H1 H' → ExI H' a C ns vs → Q (.ref a) H'
theorem PE.of {X : Cx} {e : Expr} {t t' : TE} (h : PE X e t) (k : ∀ σ H Q, t' σ H Q → t σ H Q) : PE X e t' := ⟨fun pins s σ H Q I q => h.run pins s σ H Q I (k σ H Q q)⟩
/-- by keywords: pm puts their values in the fields' order -/
def tMkk (C : Addr) (ns : List Str) (m : Nat) (pm : List V → List V) (tk : TA) : TE := fun σ H Q => tk σ H fun zs H1 => zs.length = m ∧ (pm zs).length = ns.length ∧ ∀ a H', H1 a = none → Same H1 H' → ExI H' a C ns (pm zs) → Q (.ref a) H'
theorem spI_of {C a : Addr} {ns : List Str} {H1 : Hp} {Q : VK} {ws : List V} (hl : ws.length = ns.length) (ha : H1 a = none) (q : ∀ a H', H1 a = none → Same H1 H' → ExI H' a C ns ws → Q (.ref a) H') : spI C ns (.ref a :: ws) (upd H1 a (exo a C none)) (fun v H3 => v = .non ∧ Q (.ref a) H3) E0 :=
  ⟨a, ws, rfl, hl, upd_same, fun H' k h => ⟨rfl, q a H' ha (fun b o eb => k b o (ne_of_none eb ha) ((upd_ne (ne_of_none eb ha)).trans eb)) h⟩⟩
section
variable {X : Cx} {n : Nat} {C : Addr} {ks ns : List Str} {x : Str} {p pos : Pos} {e : Expr} {es : List Expr} {kws : List Keyword} {t tk : TA} {pm : List V → List V}
/-- C(e, ..) -/
theorem pe_mke (c : Cx1 X.prog X.w X.K X.mg X.base x C ns.length [] (spI C ns) (fun vs _ => vs)) (hr : Room 2 X.A) (hg : Gl X x) (ha : PA X (e :: es) t)
    (hdb : (x == ("__debug__" : Str)) = false := by decide) (he : starEach (e :: es) X.env = (false, eval e X.env) :: starEach es X.env := by rfl) (hpl : (backTo pos (starEach es X.env)).any (·.1) = false := by rfl) :
    PE X (.Call (.Name x p) (e :: es) [] pos) (tMke C ns t) := by
  obtain ⟨fI, fd, ps, g, T, hm, iC, tI, F, hb⟩ := c.ex
  refine ⟨fun pins s σ H Q I h => wpAny_Call_Name_kw (ld_glob I hg hm ?_ hdb)⟩
  refine PySem.W.callWith_K (h₀ := X.base) I.ok.mod.kin T.kC (thn (ha.run pos pins s σ H _ I h) fun us s1 hh => ?_) he hpl
  obtain ⟨vs, H1, I1, r, l1, hn, q⟩ := hh
  exact ⟨I1.kIn, run_mkx T iC tI F hr hb I1 r (ws := []) .nil l1 rfl hn fun a ha => spI_of l1 ha q⟩
/-- C(k = e, ..) -/
theorem pe_mkke (c : Cx1 X.prog X.w X.K X.mg X.base x C 0 ks (spI C ns) (fun vs zs => vs ++ pm zs)) (hr : Room 2 X.A) (hg : Gl X x) (hkw : PK X kws tk)
    (hall : (backToKw pos (keywordEach kws X.env)).all (·.1.isSome) = true := by rfl) (hks : (backToKw pos (keywordEach kws X.env)).filterMap (·.1) = ks := by rfl) (hdb : (x == ("__debug__" : Str)) = false := by decide)
    (hpl : ((backTo pos (starEach [] X.env)).any (·.1) || (backToKw pos (keywordEach kws X.env)).any (·.1.isNone)) = false := by rfl) :
    PE X (.Call (.Name x p) [] kws pos) (tMkk C ns ks.length pm tk) := by
  obtain ⟨fI, fd, ps, g, T, hm, iC, tI, F, hb⟩ := c.ex
  refine ⟨fun pins s σ H Q I h => wpAny_Call_Name_kw (ld_glob I hg hm ?_ hdb)⟩
  refine PySem.W.callWith_KW0 (h₀ := X.base) I.ok.mod.kin T.kC hall (thn (hkw.run pos pins s σ H _ I h) fun ws s2 hh => ?_) hpl
  obtain ⟨zs, H2, I2, rz, l2, l3, q⟩ := hh
  refine ⟨I2.kIn, ?_⟩
  rw [hks]
  exact run_mkx T iC tI F hr hb I2 .nil rz rfl l2 (Nat.zero_le _) fun a ha => spI_of l3 ha q
/-- C() -/
theorem pe_mk0e (c : Cx1 X.prog X.w X.K X.mg X.base x C 0 [] (spI C []) (fun vs _ => vs)) (hr : Room 2 X.A) (hg : Gl X x) (hdb : (x == ("__debug__" : Str)) = false := by decide) :
    PE X (.Call (.Name x p) [] [] pos) (tMke C [] tNil) := by
  obtain ⟨fI, fd, ps, g, T, hm, iC, tI, F, hb⟩ := c.ex
  refine ⟨fun pins s σ H Q I h => wpAny_Call_Name_kw (ld_glob I hg hm ?_ hdb)⟩
  obtain ⟨_, _, q⟩ := h
  exact PySem.W.callWith_K0 (I.tok _).kIn T.kC (run_mkx T iC tI F hr hb (I.tok _) .nil (ws := []) .nil rfl rfl (Nat.zero_le _) fun a ha => spI_of rfl ha q)
/-- many made at once: what each is -/
def Many (H : Hp) : List Addr → List (Addr × List Str × List V) → Prop
  | [], [] => True
  | a :: as, c :: cs => ExI H a c.1 c.2.1 c.2.2 ∧ Many H as cs
  | _, _ => False
theorem Many.mono {H H' : Hp} (k : Same H H') : ∀ {as : List Addr} {cs : List (Addr × List Str × List V)}, Many H as cs → Many H' as cs
  | [], [], _ => True.intro
  | a :: as, c :: cs, h => ⟨h.1.mono k, Many.mono k h.2⟩
  | [], _ :: _, h => h.elim
  | _ :: _, [], h => h.elim
theorem Many.app {H : Hp} {bs : List Addr} {ds : List (Addr × List Str × List V)} (k : Many H bs ds) : ∀ {as : List Addr} {cs : List (Addr × List Str × List V)}, Many H as cs → Many H (as ++ bs) (cs ++ ds)
  | [], [], _ => k
  | a :: as, c :: cs, h => ⟨h.1, Many.app k h.2⟩
  | [], _ :: _, h => h.elim
  | _ :: _, [], h => h.elim
theorem Many.len {H : Hp} : ∀ {as : List Addr} {cs : List (Addr × List Str × List V)}, Many H as cs → as.length = cs.length
  | [], [], _ => rfl
  | a :: as, c :: cs, h => congrArg Nat.succ (Many.len h.2)
  | [], _ :: _, h => h.elim
  | _ :: _, [], h => h.elim
theorem Many.get {H : Hp} : ∀ {as : List Addr} {cs : List (Addr × List Str × List V)} (i : Nat) (a : Addr) (c : Addr × List Str × List V), Many H as cs → as[i]? = some a → cs[i]? = some c → ExI H a c.1 c.2.1 c.2.2
  | [], [], i, a, c, _, h1, _ => by cases h1
  | a :: as, c :: cs, 0, _, _, h, h1, h2 => by
    cases h1
    cases h2
    exact h.1
  | a :: as, c :: cs, i + 1, _, _, h, h1, h2 => Many.get i _ _ h.2 h1 h2
  | [], _ :: _, _, _, _, h, _, _ => h.elim
  | _ :: _, [], _, _, _, h, _, _ => h.elim
/-- a row of arguments, each of which makes an exception of what σ tells -/
def tMany (cs : L2.St → Option (List (Addr × List Str × List V))) : TA := fun σ H Q => ∃ c, cs σ = some c ∧ ∀ as H', Same H H' → Many H' as c → Q (as.map V.ref) H'
/-- one expression that makes one -/
def tOne (c : L2.St → Option (Addr × List Str × List V)) : TE := fun σ H Q => ∃ d, c σ = some d ∧ ∀ a H', H a = none → Same H H' → ExI H' a d.1 d.2.1 d.2.2 → Q (.ref a) H'
theorem pa_many0 : PA X [] (tMany fun _ => some []) := ⟨fun pos pins s σ H Q I h => by
  obtain ⟨c, e, q⟩ := h
  cases e
  exact pa_nil.run pos pins s σ H Q I (q [] H (fun _ _ e => e) True.intro)⟩
theorem pa_many {c : L2.St → Option (Addr × List Str × List V)} {cs : L2.St → Option (List (Addr × List Str × List V))} (h1 : PE X e (tOne c)) (h2 : PA X es (tMany cs)) (he : starEach (e :: es) X.env = (false, eval e X.env) :: starEach es X.env := by rfl) :
    PA X (e :: es) (tMany fun σ => (c σ).bind fun d => (cs σ).map fun ds => d :: ds) := ⟨fun pos pins s σ H Q I h => by
  obtain ⟨l, el, q⟩ := h
  obtain ⟨d, ed, el⟩ := Option.bind_eq_some_iff.mp el
  obtain ⟨ds, eds, rfl⟩ := Option.map_eq_some_iff.mp el
  refine (pa_cons h1 h2 he).run pos pins s σ H Q I ⟨d, ed, fun a H1 _ k1 x1 => ⟨ds, eds, fun as H2 k2 x2 => q (a :: as) H2 (fun b o eb => k2 b o (k1 b o eb)) ⟨x1.mono k2, x2⟩⟩⟩⟩
/-- the value of slot i, m times -/
theorem pa_rep {i : Nat} : ∀ {es : List Expr}, True → True := fun _ => True.intro
end
end Tp
set_option Elab.async false
set_option linter.all false
set_option maxRecDepth 100000
set_option maxHeartbeats 4000000
/-! isinstance of any value: plain data, an instance, an exception -/
namespace Tp
open PySem PySem.Spec PyProof.Rows L2
def IsR (K : PySem.W.Frag) (H : Hp) (v : V) (cv : Value) (b : Bool) : Prop := (∃ t, TyX K H v t ∧ PySem.W.kitOne K t cv = some b) ∨ ∃ (a D : Addr) (fs : List (Str × V)), v = .ref a ∧ ExAt H a D fs ∧ ExK K D ∧ PySem.W.kitOne K (.ref D) cv = some b
def IsA (K : PySem.W.Frag) (H : Hp) (v : V) (cs : List Value) (b : Bool) : Prop := (∃ t, TyX K H v t ∧ PySem.W.kitAny K t cs = some b) ∨ ∃ (a D : Addr) (fs : List (Str × V)), v = .ref a ∧ ExAt H a D fs ∧ ExK K D ∧ PySem.W.kitAny K (.ref D) cs = some b
def rIsD (K : PySem.W.Frag) : List V → Hp → VK → Prop := fun xs H Q => ∃ (v c : V) (cv : Value) (b : Bool), xs = [v, c] ∧ ClsV c cv ∧ IsR K H v cv b ∧ Q (.bl b) H
def rIsDT (K : PySem.W.Frag) : List V → Hp → VK → Prop := fun xs H Q => ∃ (v : V) (tp : Addr) (cs : List V) (us : List Value) (b : Bool), xs = [v, .ref tp] ∧ H tp = some (.tup cs) ∧ Paired ClsV cs us ∧ IsA K H v us b ∧ Q (.bl b) H
theorem call_isd {X : Cx} : CallR X (.builtin "isinstance") (rIsD X.K) := by
  intro pins s σ H xs us Q I r h
  obtain ⟨v, c, cv, b, e, k, hr, q⟩ := h
  rcases hr with ⟨t, ty, e1⟩ | ⟨a, D, fs, rfl, hA, T, e1⟩
  · exact call_isi pins s σ H xs us Q I r ⟨v, c, t, cv, b, e, k, ty, e1, q⟩
  · exact call_isx pins s σ H xs us Q I r ⟨a, D, fs, c, cv, b, e, hA, T, k, e1, q⟩
theorem call_isdT {X : Cx} : CallR X (.builtin "isinstance") (rIsDT X.K) := by
  intro pins s σ H xs us Q I r h
  obtain ⟨v, tp, cs, ws, b, e, hT, k, hr, q⟩ := h
  rcases hr with ⟨t, ty, e1⟩ | ⟨a, D, fs, rfl, hA, T, e1⟩
  · exact call_isiT pins s σ H xs us Q I r ⟨v, tp, cs, t, ws, b, e, hT, k, ty, e1, q⟩
  · exact call_isxT pins s σ H xs us Q I r ⟨a, D, fs, tp, cs, ws, b, e, hA, T, hT, k, e1, q⟩
theorem TyX.up {K : PySem.W.Frag} {H H' : Hp} (k : Same H H') {v : V} {t : Value} (h : TyX K H v t) : TyX K H' v t := by
  cases h with
  | base b =>
    cases b with
    | non => exact .base .non
    | bl x => exact .base (.bl x)
    | int i => exact .base (.int i)
    | str x => exact .base (.str x)
    | flt x => exact .base (.flt x)
    | lst e => exact .base (.lst (k _ _ e))
    | frz e => exact .base (.frz (k _ _ e))
    | tup e => exact .base (.tup (k _ _ e))
    | dK e => exact .base (.dK (k _ _ e))
    | dT e => exact .base (.dT (k _ _ e))
    | ins e cl ha hn htk hm => exact .base (.ins (k _ _ e) cl ha hn htk hm)
  | byt b => exact .byt b
  | set e => exact .set (k _ _ e)
  | kList e c => exact .kList e c
  | kTuple e c => exact .kTuple e c
  | kDict e c => exact .kDict e c
  | fTuple e => exact .fTuple (k _ _ e)
  | fDict e => exact .fDict (k _ _ e)
theorem IsA.mono {K : PySem.W.Frag} {H H' : Hp} {v : V} {cs : List Value} {b : Bool} (k : Same H H') (h : IsA K H v cs b) : IsA K H' v cs b := by
  rcases h with ⟨t, ty, e⟩ | ⟨a, D, fs, e1, hA, T, e⟩
  · exact .inl ⟨t, TyX.up k ty, e⟩
  · exact .inr ⟨a, D, fs, e1, hA.mono k, T, e⟩
theorem IsR.mono {K : PySem.W.Frag} {H H' : Hp} {v : V} {c : Value} {b : Bool} (k : Same H H') (h : IsR K H v c b) : IsR K H' v c b := by
  rcases h with ⟨t, ty, e⟩ | ⟨a, D, fs, e1, hA, T, e⟩
  · exact .inl ⟨t, TyX.up k ty, e⟩
  · exact .inr ⟨a, D, fs, e1, hA.mono k, T, e⟩
theorem none_put {H : Hp} {p q : Addr} {o : HO} (hq : H q = none) (hp : upd H q o p = none) : H p = none := by
  by_cases e : p = q
  · rw [e]
    exact hq
  · rwa [upd_ne e] at hp
end Tp
set_option Elab.async false
set_option linter.all false
set_option maxRecDepth 100000
set_option maxHeartbeats 4000000
/-! a list or a tuple as what is walked; enumerate of a tuple -/
namespace Tp
open PySem PySem.Spec PyProof.Rows L2
open Sem (wp)
theorem meets_enum_one {v : Value} {o : Obj} {H : Heap → Prop} (B : Begins v o H) :
    Meets (Builtin.«enumerate.__new__» ⟨[.type "enumerate", v], []⟩) (fun _ R s => H s.heap ∧
      R (.ok (.ret (.ref (s.heap.push o).objs.size))) { s with heap := (s.heap.push o).push { cls := .type "enumerate", data := .fields #[.none, .bool false, .ref s.heap.objs.size, rawInt 0, .none, .none] } }) :=
  .of_wp fun prog w A R s h => by
    obtain ⟨hp, g, d, tk, os⟩ := s; obtain ⟨h1, h⟩ := h
    have hsub := sub_enumerate
    have q1 : ∀ {A' : Around} {E : Value → Shared → Prop} {Q : Value → Shared → Prop}, Q (.ref hp.objs.size) ⟨hp.push o, g, d, tk, os⟩ → wpAny (model prog w) A' (pyIter v) Q E ⟨hp, g, d, tk, os⟩ :=
      fun q => B.iter prog w _ _ ⟨hp, g, d, tk, os⟩ _ h1 q
    wp_walk using q1
    refine wpAny_stack_any fun st => wpAny_pure ?_
    split
    · rename_i c _ _ _ _ _
      cases (c == Value.type "enumerate")
      · wp_walk using q1
        exact ⟨_, rfl, h⟩
      · wp_walk using q1
        exact ⟨_, rfl, h⟩
    · wp_walk using q1
      exact ⟨_, rfl, h⟩
section
variable {prog : Program} {w : World} {A : Around} {E : Value → Shared → Prop} {s : Shared}
theorem enum_one {v : Value} {o : Obj} {H : Heap → Prop} {Q : Value → Shared → Prop} (B : Begins v o H) (h1 : H s.heap) (hn : ∀ obj, argsOk "object.__init__" ⟨[obj, v], []⟩)
    (ht : checkTypeCall "enumerate" ⟨[v], []⟩ = pure ()) (hc : checkBuiltinCall "enumerate.__new__" ⟨[.type "enumerate", v], []⟩ = pure ())
    (h : ∀ h', IsEnum h' (s.heap.objs.size + 1) s.heap.objs.size 0 .none → h'.get? s.heap.objs.size = some o → h'.objs.size = s.heap.objs.size + 2 →
      (∀ b o, s.heap.get? b = some o → h'.get? b = some o) → Q (.ref (s.heap.objs.size + 1)) { s with heap := h' }) :
    wpAny (model prog w) A (call (.type "enumerate") [v]) Q E s := by
  refine callType_new F.called_enumerate (by decide) ht hc hn F.entry_enumerate_new
    (meets_enum_one B) ⟨h1, ?_⟩
  have hz : (s.heap.push o).objs.size = s.heap.objs.size + 1 := Heap.size_push ..
  show _ ∧ _
  rw [hz]
  have he : IsEnum ((s.heap.push o).push { cls := .type "enumerate", data := .fields #[.none, .bool false, .ref s.heap.objs.size, rawInt 0, .none, .none] }) (s.heap.objs.size + 1) s.heap.objs.size 0 .none := by
    have := Heap.get?_push_size (s.heap.push o) (o := { cls := .type "enumerate", data := .fields #[.none, .bool false, .ref s.heap.objs.size, rawInt 0, .none, .none] }) rfl
    rw [hz] at this; exact this
  refine ⟨⟨_, he, rfl⟩, h _ he (Heap.get?_push_of_some _ (Heap.get?_push_size _ B.free)) (by rw [Heap.size_push, hz]) fun b o x => Heap.get?_push_of_some _ (Heap.get?_push_of_some _ x)⟩
end
theorem enum_endT {prog : Program} {w : World} {A : Around} {E : Value → Shared → Prop} {s : Shared} {e it l : Addr} {i : Nat} {items : Array Value} {old : Value} {Q : Option Value → Shared → Prop} (hh : A.handled = none)
    (he : IsEnum s.heap e it i old) (hit : s.heap.IsTupleIter it l i) (hl : s.heap.IsTuple l items) (hx : items[i]? = none)
    (hQ : ∀ h', Heap.ExtBut it s.heap h' → Q none { s with heap := h' }) : wpAny (model prog w) A (pyNext (.ref e)) Q E s := by
  have hT : s.TypeIs (.ref e) "enumerate" := ⟨_, he, rfl⟩
  unfold pyNext
  refine wpAny_bind (wpAny_attempt (wpAny_callSpecial?_slot (name := Str.ofString "__next__") hT F.slot_enumerate_next
    (wpAny_call_entry F.slot_enumerate_next hT F.entry_enumerate_next ?_ (F.args_enumerate_next_1 _))))
  show wpAny _ _ (field (.ref e) 2 >>= _) _ _ _
  refine wpAny_bind (wpAny_field he rfl (x := .ref it) rfl ?_)
  refine wpAny_bind (wpAny_nextOf_tuple_end hh hit hl hx fun h' x he' hx' => ?_)
  obtain ⟨o, ho, hc⟩ := hx'
  refine wpAny_bind (wpAny_isInstance (T := "StopIteration") (b := true) ⟨o, ho, hc⟩ isSubtype_stop ?_)
  exact wpAny_pure (hQ _ he')
/-- the tuple at a as it stands at each turn, each item in a new pair -/
def IteT (K : PySem.W.Frag) (a : Addr) : It :=
  ⟨fun i H => ∃ (xs : List V) (x : V), SqT K H a xs ∧ xs[i]? = some x, fun i H v H' => ∃ T x, v = .ref T ∧ H T = none ∧ H' = upd H T (.tup [.int (i : Nat), x]) ∧ ∀ xs, SqT K H a xs → xs[i]? = some x, fun i H => ∃ xs : List V, SqT K H a xs ∧ xs.length ≤ i⟩
/-- how the iterator of a tuple stands, that of enumerate ahead of it -/
def DrT (t : Addr) (items : Array Value) (i : Nat) (h : Heap) (it : Addr) : Prop := h.IsTupleIter it t i ∧ h.IsTuple t items
theorem turn_enumT {P : Program} {w : World} {K : PySem.W.Frag} {elts : List Expr} {kk : Nat} {tpos : Pos} (a e it : Addr) (ha : a ≠ it) (hae : a ≠ e) :
    Turn P w K (.Tuple elts kk tpos) (IteT K a) [e, it] e (fun i h => (∃ old, IsEnum h e it ((i : Nat) : Int) old) ∧ h.IsTupleIter it a i ∧ e ≠ it) where
  mem := by simp
  obj := fun i h st b hb => by
    obtain ⟨⟨old, he⟩, ⟨o, ho, hc, hd⟩, _⟩ := st
    have e' : b = e ∨ b = it := by simpa using hb
    rcases e' with z | z
    · rw [z]; exact ⟨_, he, fun v q => nomatch q⟩
    · rw [z]; exact ⟨o, ho, fun v q => by rw [hd] at q; cases q⟩
  keep := fun i h h' st k => let ⟨⟨old, he⟩, hi, hne⟩ := st; ⟨⟨old, k e (by simp) _ he⟩, hi.at fun o q => k it (by simp) o q, hne⟩
  item := by
    intro X hP hw hK hc i pins s σ H E I hf st hg
    subst hP hw hK
    obtain ⟨⟨old, he⟩, hit, hne⟩ := st
    obtain ⟨xs, x, hq, hx⟩ := hg
    obtain ⟨its, rv, p, hz⟩ := I.tuple hq
    obtain ⟨u, hu, ru⟩ := rv.get hx
    have hel : e < s.heap.objs.size := Heap.lt_size he
    have hil : it < s.heap.objs.size := by obtain ⟨_, q, _⟩ := hit; exact Heap.lt_size q
    have hi : i < its.toArray.size := by
      have := (List.getElem?_eq_some_iff.mp hu).1
      simpa using this
    refine wpAny_pyNext_enum_itemD (i := i) (Draws.tuple (A := X.A.in1) (I.ok.hd hc) it a ha its.toArray) he ⟨hit, p⟩ hi hne (by simp [hne, hae.symm]) fun u' h' tk hu' ho st' hT hsz hk => ?_
    have eu : u' = u := by
      have h1 : its.toArray[i]? = some u' := hu'
      have h2 : its.toArray[i]? = some u := by simpa using hu
      rw [h1] at h2
      exact Option.some.inj h2
    subst eu
    refine ⟨_, rfl, wpAny_letOwnedTupleGo_enum (s := { s with heap := h', toks := tk + 1 }) ho fun h'' he' sb => ?_⟩
    have hT2 : h''.get? s.heap.objs.size = some { cls := .type "tuple", data := .seq #[.int i tk, u'] } := (sb.2 _ (Nat.ne_of_gt hel)).trans hT
    have new : ObjOk X.prog X.w (upd H s.heap.objs.size (.tup [.int (i : Nat), x])) h'' s.heap.objs.size (.tup [.int (i : Nat), x]) :=
      ⟨by show 2 ≤ sizeLine; decide, [.int i tk, u'], .cons ⟨_, rfl⟩ (.cons ru .nil), ⟨_, hT2, rfl, _, rfl⟩⟩
    have I1 : Inv X pins σ (upd H s.heap.objs.size (.tup [.int (i : Nat), x])) { s with heap := h'', toks := tk + 1 } :=
      I.turnedNew (ch := [e, it]) (fun b ob hb q => (sb.2 b (fun z => hb (by simp [z]))).trans (hk b ob (fun z => hb (by simp [z])) (fun z => hb (by simp [z])) q)) hf (Nat.le_refl _) new
    refine ⟨.ref s.heap.objs.size, _, I1, rfl, ⟨_, x, rfl, I.hok.fresh (Nat.le_refl _), rfl, fun ys hy => by rw [I.tuple_inj hy hq]; exact hx⟩, ⟨⟨u', ?_⟩, st'.1.at fun o q => (sb.2 it (Ne.symm hne)).trans q, hne⟩, fun b hb => ?_⟩
    · have e1 : ((i + 1 : Nat) : Int) = (i : Int) + 1 := by omega
      rw [e1]; exact he'
    · have hb' : b < s.heap.objs.size := by
        have e' : b = e ∨ b = it := by simpa using hb
        rcases e' with z | z
        · rw [z]; exact hel
        · rw [z]; exact hil
      rw [upd_ne (Nat.ne_of_lt hb')]
      exact (hf b hb).1
  done := by
    intro X hP hw hK hc i pins s σ H E I hf st hg
    subst hP hw hK
    obtain ⟨⟨old, he⟩, hit, hne⟩ := st
    obtain ⟨xs, hq, hx⟩ := hg
    obtain ⟨its, rv, p, hz⟩ := I.tuple hq
    obtain ⟨f0, f1, f2, f3, f4, f5⟩ := hf it (by simp)
    have hl := rv.length
    exact enum_endT (I.ok.hd hc) he hit p (by simp; omega) fun h' eb => ⟨rfl, I.turned (t' := s.toks) (fun b o hb q => eb b o hb q) f0 f1 f3 f4 f5⟩
  self := fun A i s Q E st h => let ⟨⟨_, he⟩, _⟩ := st; wpAny_pyIter_enum he h
def iEnumT (K : PySem.W.Frag) (ta : TA) : TI := fun σ H R => ta σ H fun vs H1 => ∃ a xs, vs = [.ref a] ∧ SqT K H1 a xs ∧ R (IteT K a) H1
theorem pi_enumT {X : Cx} {e : Expr} {ta : TA} {p pos tpos : Pos} {elts : List Expr} {kk : Nat} (hg : Gl X "enumerate") (hm : X.mg "enumerate" = none) (ha : PA X [e] ta) (hs : starEach [e] X.env = [(false, eval e X.env)] := by rfl) :
    PI X (.Tuple elts kk tpos) (.Call (.Name "enumerate" p) [e] [] pos) (iEnumT X.K ta) := by
  refine ⟨fun pins s σ H R I h => ?_⟩
  refine Call_ (ld_blt I hg hm boot_enumerate (PyProof.Rows.callWith_type1 (thn (ha.run pos pins s σ H _ I h) fun us s1 ⟨vs, H1, I1, r1, q1⟩ => ?_) hs rfl))
  obtain ⟨a, xs, ex, hq, q⟩ := q1
  subst ex
  cases r1 with
  | cons r rr =>
    cases rr
    cases r
    obtain ⟨its, rv, p', hz⟩ := I1.tuple hq
    have hal : a < s1.heap.objs.size := by obtain ⟨_, q, _⟩ := id p'; exact Heap.lt_size q
    refine enum_one (begins_tuple a its.toArray) p' (fun obj => F.args_object_init_2 obj _) (F.typeCall_enumerate_1 _) (F.newCall_enumerate_1 _) fun h' he hit hsz hk => wpAny_pyIter_enum he ?_
    have I2 : Inv X pins σ H1 { s1 with heap := h' } := I1.kept (t' := s1.toks) hk
    refine ⟨s1.heap.objs.size + 1, [s1.heap.objs.size + 1, s1.heap.objs.size], _, _, H1, rfl, I2, turn_enumT a (s1.heap.objs.size + 1) s1.heap.objs.size (Nat.ne_of_lt hal) (Nat.ne_of_lt (Nat.lt_succ_of_lt hal)), ⟨⟨.none, he⟩, ⟨_, hit, rfl, rfl⟩, Nat.succ_ne_self _⟩, fun b hb => ?_, q⟩
    have e' : b = s1.heap.objs.size + 1 ∨ b = s1.heap.objs.size := by simpa using hb
    have hle : s1.heap.objs.size ≤ b := by
      rcases e' with z | z
      · rw [z]; exact Nat.le_add_right _ _
      · rw [z]; exact Nat.le_refl _
    exact I1.fpOk hle (I1.hok.fresh hle)
theorem walk_enumT {K : PySem.W.Frag} {a : Addr} {xs : List V} : Walk (IteT K a) xs.length (fun H => SqT K H a xs) (YPair (fun i => some (.int (i : Nat))) (fun i => xs[i]?)) := by
  refine ⟨fun i _ hi q => ⟨xs, xs[i], q, by simp [hi]⟩, fun _ q => ⟨xs, q, Nat.le_refl _⟩, fun i H v H' _ q y => ?_⟩
  obtain ⟨T, x, h1, h2, h3, h4⟩ := y
  exact ⟨T, .int (i : Nat), x, h1, h2, h3, rfl, h4 xs q⟩
/-- one of two walks -/
def iOr (w1 w2 : TI) : TI := fun σ H R => w1 σ H R ∨ w2 σ H R
theorem pi_or {X : Cx} {tg iter : Expr} {w1 w2 : TI} (h1 : PI X tg iter w1) (h2 : PI X tg iter w2) : PI X tg iter (iOr w1 w2) :=
  ⟨fun pins s σ H R I h => h.elim (h1.run pins s σ H R I) (h2.run pins s σ H R I)⟩
/-- a list or a tuple stands there -/
def SqA (K : PySem.W.Frag) (H : Hp) (a : Addr) (xs : List V) : Prop := SqL K H a xs ∨ SqT K H a xs
def SeqR (K : PySem.W.Frag) (a : Addr) (H : Hp) (R : It → Hp → Prop) : Prop := ((∃ xs, SqL K H a xs) ∧ R (Itl K a) H) ∨ ((∃ xs, SqT K H a xs) ∧ R (Itt K a) H)
def EnumR (K : PySem.W.Frag) (a : Addr) (H : Hp) (R : It → Hp → Prop) : Prop := ((∃ xs, SqL K H a xs) ∧ R (Ite K a) H) ∨ ((∃ xs, SqT K H a xs) ∧ R (IteT K a) H)
/-- what is walked: a list or a tuple -/
def iSeq (K : PySem.W.Frag) (te : TE) : TI := fun σ H R => te σ H fun x H1 => ∃ a, x = .ref a ∧ SeqR K a H1 R
theorem pi_seq {X : Cx} {tg l : Expr} {tl : TE} (hl : PE X l tl) : PI X tg l (iSeq X.K tl) := by
  refine ⟨fun pins s σ H R I h => ?_⟩
  refine thn (hl.run pins s σ H _ I h) fun v s1 ⟨x, H1, I1, r1, q1⟩ => ?_
  obtain ⟨a, e, q⟩ := q1
  subst e
  cases r1
  rcases q with ⟨⟨xs, hq⟩, q⟩ | ⟨⟨xs, hq⟩, q⟩
  · obtain ⟨its, rv, p, hz⟩ := I1.list hq
    refine wpAny_pyIter_list p.isList ?_
    refine ⟨s1.heap.objs.size, [s1.heap.objs.size], _, _, H1, rfl, I1.kept (t' := s1.toks) fun b o e => Heap.get?_push_of_some _ e, turn_list a _, ⟨_, Heap.get?_push_size _ rfl, rfl, rfl⟩, fun b hb => ?_, q⟩
    have e : b = s1.heap.objs.size := by simpa using hb
    subst e
    exact I1.fpOk (Nat.le_refl _) (I1.hok.fresh (Nat.le_refl _))
  · obtain ⟨its, rv, p, hz⟩ := I1.tuple hq
    refine wpAny_pyIter_tuple (show s1.heap.IsTuple a its.toArray from p) ?_
    refine ⟨s1.heap.objs.size, [s1.heap.objs.size], _, _, H1, rfl, I1.kept (t' := s1.toks) fun b o e => Heap.get?_push_of_some _ e, turn_tuple a _, ⟨_, Heap.get?_push_size _ rfl, rfl, rfl⟩, fun b hb => ?_, q⟩
    have e : b = s1.heap.objs.size := by simpa using hb
    subst e
    exact I1.fpOk (Nat.le_refl _) (I1.hok.fresh (Nat.le_refl _))
/-- enumerate of a list or a tuple -/
def iEnumS (K : PySem.W.Frag) (ta : TA) : TI := fun σ H R => ta σ H fun vs H1 => ∃ a, vs = [.ref a] ∧ EnumR K a H1 R
theorem pi_enumS {X : Cx} {e : Expr} {ta : TA} {p pos tpos : Pos} {elts : List Expr} {kk : Nat} (hg : Gl X "enumerate") (hm : X.mg "enumerate" = none) (ha : PA X [e] ta) (hs : starEach [e] X.env = [(false, eval e X.env)] := by rfl) :
    PI X (.Tuple elts kk tpos) (.Call (.Name "enumerate" p) [e] [] pos) (iEnumS X.K ta) := by
  refine ⟨fun pins s σ H R I h => ?_⟩
  refine Call_ (ld_blt I hg hm boot_enumerate (PyProof.Rows.callWith_type1 (thn (ha.run pos pins s σ H _ I h) fun us s1 ⟨vs, H1, I1, r1, q1⟩ => ?_) hs rfl))
  obtain ⟨a, ex, hq⟩ := q1
  subst ex
  cases r1 with
  | cons r rr =>
    cases rr
    cases r
    have fin : ∀ b, b ∈ [s1.heap.objs.size + 1, s1.heap.objs.size] → s1.heap.objs.size ≤ b := fun b hb => by
      have e' : b = s1.heap.objs.size + 1 ∨ b = s1.heap.objs.size := by simpa using hb
      rcases e' with z | z
      · rw [z]; exact Nat.le_add_right _ _
      · rw [z]; exact Nat.le_refl _
    rcases hq with ⟨⟨xs, hq⟩, q⟩ | ⟨⟨xs, hq⟩, q⟩
    · obtain ⟨its, rv, p', hz⟩ := I1.list hq
      refine call_enumerate_list p'.isList fun h' he hit hsz hk => wpAny_pyIter_enum he ?_
      have I2 : Inv X pins σ H1 { s1 with heap := h' } := I1.kept (t' := s1.toks) hk
      exact ⟨s1.heap.objs.size + 1, [s1.heap.objs.size + 1, s1.heap.objs.size], _, _, H1, rfl, I2, turn_enum a (s1.heap.objs.size + 1) s1.heap.objs.size, ⟨⟨.none, he⟩, hit, Nat.succ_ne_self _⟩, fun b hb => I1.fpOk (fin b hb) (I1.hok.fresh (fin b hb)), q⟩
    · obtain ⟨its, rv, p', hz⟩ := I1.tuple hq
      have hal : a < s1.heap.objs.size := by obtain ⟨_, q, _⟩ := id p'; exact Heap.lt_size q
      refine enum_one (begins_tuple a its.toArray) p' (fun obj => F.args_object_init_2 obj _) (F.typeCall_enumerate_1 _) (F.newCall_enumerate_1 _) fun h' he hit hsz hk => wpAny_pyIter_enum he ?_
      have I2 : Inv X pins σ H1 { s1 with heap := h' } := I1.kept (t' := s1.toks) hk
      exact ⟨s1.heap.objs.size + 1, [s1.heap.objs.size + 1, s1.heap.objs.size], _, _, H1, rfl, I2, turn_enumT a (s1.heap.objs.size + 1) s1.heap.objs.size (Nat.ne_of_lt hal) (Nat.ne_of_lt (Nat.lt_succ_of_lt hal)), ⟨⟨.none, he⟩, ⟨_, hit, rfl, rfl⟩, Nat.succ_ne_self _⟩, fun b hb => I1.fpOk (fin b hb) (I1.hok.fresh (fin b hb)), q⟩
section
variable {K : PySem.W.Frag} {H H' : Hp} {a : Addr} {xs : List V}
theorem SqA.up (k : Same H H') (h : SqA K H a xs) : SqA K H' a xs := by
  rcases h with h | h
  · refine .inl ?_
    rcases h with (h | ⟨o, h⟩) | h
    · exact .inl (.inl (k _ _ h))
    · exact .inl (.inr ⟨o, k _ _ h⟩)
    · exact .inr h
  · refine .inr ?_
    rcases h with (h | ⟨o, h⟩) | h
    · exact .inl (.inl (k _ _ h))
    · exact .inl (.inr ⟨o, k _ _ h⟩)
    · exact .inr h
theorem upL (k : Same H H') (h : SqL K H a xs) : SqL K H' a xs := by
  rcases h with (h | ⟨o, h⟩) | h
  · exact .inl (.inl (k _ _ h))
  · exact .inl (.inr ⟨o, k _ _ h⟩)
  · exact .inr h
theorem upT (k : Same H H') (h : SqT K H a xs) : SqT K H' a xs := by
  rcases h with (h | ⟨o, h⟩) | h
  · exact .inl (.inl (k _ _ h))
  · exact .inl (.inr ⟨o, k _ _ h⟩)
  · exact .inr h
/-- the walk of a list or a tuple while all stands as it stood -/
theorem seq_it {R : It → Hp → Prop} (h : SqA K H a xs) (hR : ∀ J, Walk J xs.length (fun G => Same H G) (YAt xs) → R J H) : SeqR K a H R := by
  rcases h with h | h
  · exact .inl ⟨⟨xs, h⟩, hR _ (walk_list.mono (fun G k => upL k h) fun _ _ _ _ _ _ y => y)⟩
  · exact .inr ⟨⟨xs, h⟩, hR _ (walk_tup.mono (fun G k => upT k h) fun _ _ _ _ _ _ y => y)⟩
theorem enum_it {R : It → Hp → Prop} (h : SqA K H a xs) (hR : ∀ J, Walk J xs.length (fun G => Same H G) (YPair (fun i => some (.int (i : Nat))) (fun i => xs[i]?)) → R J H) : EnumR K a H R := by
  rcases h with h | h
  · exact .inl ⟨⟨xs, h⟩, hR _ (walk_enum.mono (fun G k => upL k h) fun _ _ _ _ _ _ y => y)⟩
  · exact .inr ⟨⟨xs, h⟩, hR _ (walk_enumT.mono (fun G k => upT k h) fun _ _ _ _ _ _ y => y)⟩
end
end Tp
namespace Tp
open PySem PySem.Spec PyProof.Rows L2
theorem lenA {K : PySem.W.Frag} {H : Hp} {a : Addr} {xs : List V} (h : SqA K H a xs) : LenV K (.ref a) H xs.length := h.elim (fun h => .inl ⟨xs, h, rfl⟩) fun h => .inr ⟨xs, h, rfl⟩
theorem ixA {K : PySem.W.Frag} {H : Hp} {a : Addr} {xs : List V} {i : Int} {v : V} {Q : VK} (h : SqA K H a xs) (e : atI xs i = some v) (q : Q v H) : rIxL K (.ref a) (.int i) H Q ∨ rIxT K (.ref a) (.int i) H Q :=
  h.elim (fun h => .inl ⟨a, xs, i, v, rfl, rfl, h, e, q⟩) fun h => .inr ⟨a, xs, i, v, rfl, rfl, h, e, q⟩
end Tp
set_option Elab.async false
set_option linter.all false
set_option maxRecDepth 100000
set_option maxHeartbeats 4000000
/-! calls of defs whose promises know the guards: by keywords, by methods, a new instance; parts that are never reached -/
namespace Tp
open PySem PySem.Spec PyProof.Rows L2
section
variable {X : Cx} {CX : CXT} {k n : Nat} {f C : Addr} {fd : FuncData} {ps ks : List Str} {sp : Sp} {E : XK} {x m : Str} {p pos apos : Pos} {e o : Expr} {es : List Expr} {kws : List Keyword} {te ta : TE} {t tk : TA}
variable {dvs : List V} {ds : List Value} {g : List Value → List Value → List Value} {gV : List V → List V → List V}
theorem run_g {pins : List (Addr × Obj)} {σ : L2.St} {H : Hp} {s : Shared} {Q : VK} {us : List Value} {vs : List V} (F : FnG X.prog X.w X.K X.mg X.base CX k f fd ps sp) (hr : Room k X.A) (hG : X.A.guards = some []) (hb : Binds X.K fd ps ds) (hd : Vals dvs ds) (hx : Passes CX X E)
    (I : Inv X pins σ H s) (r : Vals vs us) (h : sp (vs ++ dvs) H Q E) : wpAny (model X.prog X.w) X.A (call (.ref f) us) (EP X pins σ Q) X.xe s := by
  have r2 : Vals (vs ++ dvs) (us ++ ds) := r.append hd
  have hl : (us ++ ds).length = ps.length := by rw [← r2.length]; exact F.len _ _ _ _ h
  refine wpAny_call (codeAny_mono (F.run X.A X.stack s H ⟨us, []⟩ (us ++ ds) (vs ++ dvs) Q E hr hG I.env0 (hb s us I.kIn hl) r2 h) fun r s' hq => ?_)
  cases r with
  | error e => exact hx pins σ H s e s' I hq
  | ok fl =>
    cases fl with
    | ret u => exact I.after hq
    | next => exact False.elim hq
    | brk => exact False.elim hq
    | cont => exact False.elim hq
theorem run_gN {pins : List (Addr × Obj)} {σ : L2.St} {H : Hp} {s : Shared} {Q : VK} {us ws : List Value} {vs zs : List V} (F : FnG X.prog X.w X.K X.mg X.base CX k f fd ps sp) (hr : Room k X.A) (hG : X.A.guards = some []) (hb : KBn X.K fd ps n ks g gV) (hx : Passes CX X E)
    (I : Inv X pins σ H s) (r : Vals vs us) (rz : Vals zs ws) (l1 : vs.length = n) (l2 : zs.length = ks.length) (h : sp (gV vs zs) H Q E) : wpAny (model X.prog X.w) X.A (call (.ref f) us (ks.zip ws)) (EP X pins σ Q) X.xe s := by
  have r2 := hb.rel r rz
  refine wpAny_call (codeAny_mono (F.run X.A X.stack s H ⟨us, ks.zip ws⟩ (g us ws) (gV vs zs) Q E hr hG I.env0 (hb.to s us ws I.kIn (r.length.symm.trans l1) (rz.length.symm.trans l2)) r2 h) fun r s' hq => ?_)
  cases r with
  | error e => exact hx pins σ H s e s' I hq
  | ok fl =>
    cases fl with
    | ret u => exact I.after hq
    | next => exact False.elim hq
    | brk => exact False.elim hq
    | cont => exact False.elim hq
theorem run_gmake {pins : List (Addr × Obj)} {σ : L2.St} {H : Hp} {s : Shared} {Q : VK} {us : List Value} {vs : List V} (M : Mk X.K C f) (F : FnG X.prog X.w X.K X.mg X.base CX k f fd ps sp) (hr : Room (k + 1) X.A) (hG : X.A.guards = some []) (hb : Binds X.K fd ps ds) (hd : Vals dvs ds)
    (hx : Passes CX X E) (I : Inv X pins σ H s) (r : Vals vs us)
    (h : ∀ x dx, H x = none → H dx = none → dx ≠ x → sp (.ref x :: (vs ++ dvs)) (upd (upd H dx (.own x)) x (.ins C dx [])) (fun v H2 => v = .non ∧ Q (.ref x) H2) E) :
    wpAny (model X.prog X.w) X.A (call (.ref C) us) (EP X pins σ Q) X.xe s := by
  have hq := h (s.heap.objs.size + 1) s.heap.objs.size (I.hok.fresh (Nat.le_succ _)) (I.hok.fresh (Nat.le_refl _)) (Nat.ne_of_lt (Nat.lt_succ_self _))
  have I2 := Inv.made (C := C) I
  have r2 : Vals (V.ref (s.heap.objs.size + 1) :: (vs ++ dvs)) (Value.ref (s.heap.objs.size + 1) :: (us ++ ds)) := .cons rfl (r.append hd)
  have hl : (Value.ref (s.heap.objs.size + 1) :: us ++ ds).length = ps.length := by
    have e := r2.length
    rw [F.len _ _ _ _ hq] at e
    exact e.symm
  refine wpAny_call (make_map (f := f) I.kIn M.makes M.init (beq_iff_eq.mp M.fn) (codeAny_mono (F.run _ X.stack _ _ ⟨Value.ref (s.heap.objs.size + 1) :: us, []⟩ (Value.ref (s.heap.objs.size + 1) :: (us ++ ds)) _ _ E (hr.make C us []) hG
    (I2.env0.make C us []) (hb _ (Value.ref (s.heap.objs.size + 1) :: us) I2.kIn hl) r2 hq) fun r s' hq' => ?_))
  cases r with
  | error e => exact hx pins σ _ _ e s' I2 hq'
  | ok fl =>
    cases fl with
    | ret u =>
      obtain ⟨v, H', I3, rv, ev, q3⟩ := I2.after hq'
      subst ev
      exact ⟨rv, ⟨V.ref (s.heap.objs.size + 1), H', I3, rfl, q3⟩⟩
    | next => exact False.elim hq'
    | brk => exact False.elim hq'
    | cont => exact False.elim hq'
theorem pe_gd (F : FnG X.prog X.w X.K X.mg X.base CX k f fd ps sp) (hr : Room k X.A) (hG : X.A.guards = some []) (hg : Gl X x) (hm : X.mg x = some (.ref f)) (hk : PySem.W.keepIn X.K (.ref f) = true) (hb : Binds X.K fd ps ds) (hd : Vals dvs ds) (hx : Passes CX X E)
    (ha : PA X (e :: es) t) (hdb : (x == ("__debug__" : Str)) = false := by decide) (he : starEach (e :: es) X.env = (false, eval e X.env) :: starEach es X.env := by rfl) (hpl : (backTo pos (starEach es X.env)).any (·.1) = false := by rfl) :
    PE X (.Call (.Name x p) (e :: es) [] pos) (tCall sp dvs E t) := by
  refine ⟨fun pins s σ H Q I h => ?_⟩
  refine wpAny_Call_Name_kw (ld_glob I hg hm ?_ hdb)
  refine PySem.W.callWith_K (h₀ := X.base) I.ok.mod.kin hk (thn (ha.run pos pins s σ H _ I h) fun us s1 ⟨vs, H1, I1, r, q⟩ => ⟨I1.kIn, ?_⟩) he hpl
  exact run_g F hr hG hb hd hx I1 r q
theorem pe_gmake (M : Mk X.K C f) (F : FnG X.prog X.w X.K X.mg X.base CX k f fd ps sp) (hr : Room (k + 1) X.A) (hG : X.A.guards = some []) (hg : Gl X x) (hm : X.mg x = some (.ref C)) (hb : Binds X.K fd ps ds) (hd : Vals dvs ds) (hx : Passes CX X E)
    (ha : PA X (e :: es) t) (hdb : (x == ("__debug__" : Str)) = false := by decide) (he : starEach (e :: es) X.env = (false, eval e X.env) :: starEach es X.env := by rfl) (hpl : (backTo pos (starEach es X.env)).any (·.1) = false := by rfl) :
    PE X (.Call (.Name x p) (e :: es) [] pos) (tMake C sp dvs E t) := by
  refine ⟨fun pins s σ H Q I h => ?_⟩
  refine wpAny_Call_Name_kw (ld_glob I hg hm ?_ hdb)
  refine PySem.W.callWith_K (h₀ := X.base) I.ok.mod.kin M.kp (thn (ha.run pos pins s σ H _ I h) fun us s1 ⟨vs, H1, I1, r, q⟩ => ⟨I1.kIn, ?_⟩) he hpl
  exact run_gmake M F hr hG hb hd hx I1 r q
theorem pe_gmake0 (M : Mk X.K C f) (F : FnG X.prog X.w X.K X.mg X.base CX k f fd ps sp) (hr : Room (k + 1) X.A) (hG : X.A.guards = some []) (hg : Gl X x) (hm : X.mg x = some (.ref C)) (hb : Binds X.K fd ps ds) (hd : Vals dvs ds) (hx : Passes CX X E)
    (hdb : (x == ("__debug__" : Str)) = false := by decide) : PE X (.Call (.Name x p) [] [] pos) (tMake C sp dvs E tNil) := by
  refine ⟨fun pins s σ H Q I h => ?_⟩
  refine wpAny_Call_Name_kw (ld_glob I hg hm ?_ hdb)
  exact PySem.W.callWith_K0 I.kIn M.kp (run_gmake (us := []) M F hr hG hb hd hx I .nil h)
theorem pe_gmeth {pl : Sem Bool} (he : PE X o ta) (c : Cls X.K C) (hm : Meth X.K C m f) (F : FnG X.prog X.w X.K X.mg X.base CX k f fd ps sp) (hr : Room k X.A) (hG : X.A.guards = some []) (hb : Binds X.K fd ps ds) (hd : Vals dvs ds) (hx : Passes CX X E) (ha : PA X (e :: es) t)
    (hst : starEach (e :: es) X.env = (false, eval e X.env) :: starEach es X.env := by rfl) (hpl : (backTo pos (starEach es X.env)).any (·.1) = false := by rfl)
    (ht : eval (.Call (.Attribute o m apos) (e :: es) [] pos) X.env = (do
      let ov ← eval o X.env
      standAt apos.atName
      let (f, first) ← holding [ov] (getMethod ov m pl)
      callWith pos f first (backTo pos (starEach (e :: es) X.env)) (backToKw pos (keywordEach [] X.env))) := by rfl) :
    PE X (.Call (.Attribute o m apos) (e :: es) [] pos) (tMeth C m sp dvs E ta t) := by
  refine ⟨fun pins s σ H Q I h => ?_⟩
  refine PySem.W.methodCall_KW (pl := pl) (thn (he.run pins s σ H _ I h) fun u s1 ⟨x, H1, I1, rx, a, dx, fs, ex, ea, l, q⟩ => ?_) ht
  subst ex
  obtain rfl : u = Value.ref a := rx
  refine getmeth_ok I1 ea c hm l ?_
  refine PySem.W.callWith_K (first := [.ref a]) (h₀ := X.base) I.ok.mod.kin hm.kp (thn (ha.run pos pins s1 σ H1 _ I1 q) fun us s2 ⟨vs, H2, I2, r, q2⟩ => ⟨I2.kIn, ?_⟩) hst hpl
  exact run_g (us := .ref a :: us) (vs := .ref a :: vs) F hr hG hb hd hx I2 (.cons rfl r) q2
theorem pe_gmeth0 {pl : Sem Bool} (he : PE X o ta) (c : Cls X.K C) (hm : Meth X.K C m f) (F : FnG X.prog X.w X.K X.mg X.base CX k f fd ps sp) (hr : Room k X.A) (hG : X.A.guards = some []) (hb : Binds X.K fd ps ds) (hd : Vals dvs ds) (hx : Passes CX X E)
    (ht : eval (.Call (.Attribute o m apos) [] [] pos) X.env = (do
      let ov ← eval o X.env
      standAt apos.atName
      let (f, first) ← holding [ov] (getMethod ov m pl)
      callWith pos f first (backTo pos (starEach [] X.env)) (backToKw pos (keywordEach [] X.env))) := by rfl) :
    PE X (.Call (.Attribute o m apos) [] [] pos) (tMeth C m sp dvs E ta tNil) := by
  refine ⟨fun pins s σ H Q I h => ?_⟩
  refine PySem.W.methodCall_KW (pl := pl) (thn (he.run pins s σ H _ I h) fun u s1 ⟨x, H1, I1, rx, a, dx, fs, ex, ea, l, q⟩ => ?_) ht
  subst ex
  obtain rfl : u = Value.ref a := rx
  refine getmeth_ok I1 ea c hm l ?_
  exact PySem.W.callWith_K0 (first := [.ref a]) I1.kIn hm.kp (run_g (us := [.ref a]) (vs := [.ref a]) F hr hG hb hd hx I1 (.cons rfl .nil) q)
theorem pe_gN (F : FnG X.prog X.w X.K X.mg X.base CX k f fd ps sp) (hr : Room k X.A) (hG : X.A.guards = some []) (hg : Gl X x) (hm : X.mg x = some (.ref f)) (hk : PySem.W.keepIn X.K (.ref f) = true) (hb : KBn X.K fd ps n ks g gV) (hx : Passes CX X E)
    (ha : PA X (e :: es) t) (hkw : PK X kws tk) (hall : (backToKw pos (keywordEach kws X.env)).all (·.1.isSome) = true := by rfl) (hks : (backToKw pos (keywordEach kws X.env)).filterMap (·.1) = ks := by rfl)
    (hdb : (x == ("__debug__" : Str)) = false := by decide) (he : starEach (e :: es) X.env = (false, eval e X.env) :: starEach es X.env := by rfl)
    (hpl : ((backTo pos (starEach (e :: es) X.env)).any (·.1) || (backToKw pos (keywordEach kws X.env)).any (·.1.isNone)) = false := by rfl) :
    PE X (.Call (.Name x p) (e :: es) kws pos) (tCallN n ks.length sp gV E t tk) := by
  refine ⟨fun pins s σ H Q I h => ?_⟩
  refine wpAny_Call_Name_kw (ld_glob I hg hm ?_ hdb)
  refine PySem.W.callWith_KW (h₀ := X.base) I.ok.mod.kin hk hall (thn (ha.run pos pins s σ H _ I h) fun us s1 ⟨vs, H1, I1, r, q⟩ => ?_) hpl he
  refine thn (hkw.run pos pins s1 σ H1 _ I1 q) fun ws s2 ⟨zs, H2, I2, rz, l1, l2, q2⟩ => ⟨I2.kIn, ?_⟩
  rw [hks]
  exact run_gN F hr hG hb hx I2 r rz l1 l2 q2
theorem pe_gN0 (F : FnG X.prog X.w X.K X.mg X.base CX k f fd ps sp) (hr : Room k X.A) (hG : X.A.guards = some []) (hg : Gl X x) (hm : X.mg x = some (.ref f)) (hk : PySem.W.keepIn X.K (.ref f) = true) (hb : KBn X.K fd ps 0 ks g gV) (hx : Passes CX X E) (hkw : PK X kws tk)
    (hall : (backToKw pos (keywordEach kws X.env)).all (·.1.isSome) = true := by rfl) (hks : (backToKw pos (keywordEach kws X.env)).filterMap (·.1) = ks := by rfl) (hdb : (x == ("__debug__" : Str)) = false := by decide)
    (hpl : ((backTo pos (starEach [] X.env)).any (·.1) || (backToKw pos (keywordEach kws X.env)).any (·.1.isNone)) = false := by rfl) :
    PE X (.Call (.Name x p) [] kws pos) (tCallN 0 ks.length sp gV E tNil tk) := by
  refine ⟨fun pins s σ H Q I h => wpAny_Call_Name_kw (ld_glob I hg hm ?_ hdb)⟩
  refine PySem.W.callWith_KW0 (h₀ := X.base) I.ok.mod.kin hk hall (thn (hkw.run pos pins s σ H _ I h) fun ws s2 hh => ?_) hpl
  obtain ⟨zs, H2, I2, rz, l1, l2, q2⟩ := hh
  refine ⟨I2.kIn, ?_⟩
  rw [hks]
  exact run_gN F hr hG hb hx I2 .nil rz l1 l2 q2
end
/-- what a caller knows of a def that is called by keywords too -/
structure Cn (P : Program) (w : World) (K : PySem.W.Frag) (mg : Str → Option Value) (base : Heap) (k : Nat) (x : Str) (n : Nat) (ks : List Str) (gV : List V → List V → List V) (sp : Sp) : Prop where
  ex : ∃ (f : Addr) (fd : FuncData) (ps : List Str) (g : List Value → List Value → List Value), FnG P w K mg base CX0 k f fd ps sp ∧ mg x = some (.ref f) ∧ PySem.W.keepIn K (.ref f) = true ∧ KBn K fd ps n ks g gV
section
variable {X : Cx} {j k n : Nat} {ks : List Str} {sp : Sp} {x : Str} {p pos : Pos} {e : Expr} {es : List Expr} {kws : List Keyword} {t tk : TA} {gV : List V → List V → List V}
theorem pe_cn (c : Cn X.prog X.w X.K X.mg X.base j x n ks gV sp) (hr : Room k X.A) (hG : X.A.guards = some []) (hk : j ≤ k) (hg : Gl X x)
    (ha : PA X (e :: es) t) (hkw : PK X kws tk) (hall : (backToKw pos (keywordEach kws X.env)).all (·.1.isSome) = true := by rfl) (hks : (backToKw pos (keywordEach kws X.env)).filterMap (·.1) = ks := by rfl)
    (hdb : (x == ("__debug__" : Str)) = false := by decide) (he : starEach (e :: es) X.env = (false, eval e X.env) :: starEach es X.env := by rfl)
    (hpl : ((backTo pos (starEach (e :: es) X.env)).any (·.1) || (backToKw pos (keywordEach kws X.env)).any (·.1.isNone)) = false := by rfl) :
    PE X (.Call (.Name x p) (e :: es) kws pos) (tCallN n ks.length sp gV E0 t tk) := by
  obtain ⟨f, fd, ps, g, F, hm, hkp, hb⟩ := c.ex
  exact pe_gN F (hr.mono hk) hG hg hm hkp hb pass0 ha hkw hall hks hdb he hpl
theorem pe_cn0 (c : Cn X.prog X.w X.K X.mg X.base j x 0 ks gV sp) (hr : Room k X.A) (hG : X.A.guards = some []) (hk : j ≤ k) (hg : Gl X x) (hkw : PK X kws tk)
    (hall : (backToKw pos (keywordEach kws X.env)).all (·.1.isSome) = true := by rfl) (hks : (backToKw pos (keywordEach kws X.env)).filterMap (·.1) = ks := by rfl) (hdb : (x == ("__debug__" : Str)) = false := by decide)
    (hpl : ((backTo pos (starEach [] X.env)).any (·.1) || (backToKw pos (keywordEach kws X.env)).any (·.1.isNone)) = false := by rfl) :
    PE X (.Call (.Name x p) [] kws pos) (tCallN 0 ks.length sp gV E0 tNil tk) := by
  obtain ⟨f, fd, ps, g, F, hm, hkp, hb⟩ := c.ex
  exact pe_gN0 F (hr.mono hk) hG hg hm hkp hb pass0 hkw hall hks hdb hpl
end
/-- what a caller knows of a class of the text: how an instance is made -/
structure Cm (P : Program) (w : World) (K : PySem.W.Frag) (mg : Str → Option Value) (base : Heap) (k : Nat) (x : Str) (C : Addr) (dvs : List V) (sp : Sp) : Prop where
  ex : ∃ (f : Addr) (fd : FuncData) (ps : List Str) (ds : List Value), Mk K C f ∧ FnG P w K mg base CX0 k f fd ps sp ∧ mg x = some (.ref C) ∧ Binds K fd ps ds ∧ Vals dvs ds
section
variable {X : Cx} {j k n : Nat} {sp : Sp} {x : Str} {C : Addr} {dvs : List V} {p pos : Pos} {e : Expr} {es : List Expr} {t : TA}
theorem pe_cm (c : Cm X.prog X.w X.K X.mg X.base j x C dvs sp) (hr : Room k X.A) (hG : X.A.guards = some []) (hk : j + 1 ≤ k) (hg : Gl X x)
    (ha : PA X (e :: es) t) (hdb : (x == ("__debug__" : Str)) = false := by decide) (he : starEach (e :: es) X.env = (false, eval e X.env) :: starEach es X.env := by rfl) (hpl : (backTo pos (starEach es X.env)).any (·.1) = false := by rfl) :
    PE X (.Call (.Name x p) (e :: es) [] pos) (tMake C sp dvs E0 t) := by
  obtain ⟨f, fd, ps, ds, M, F, hm, hb, hd⟩ := c.ex
  exact pe_gmake M F (hr.mono hk) hG hg hm hb hd pass0 ha hdb he hpl
theorem pe_cm0 (c : Cm X.prog X.w X.K X.mg X.base j x C dvs sp) (hr : Room k X.A) (hG : X.A.guards = some []) (hk : j + 1 ≤ k) (hg : Gl X x)
    (hdb : (x == ("__debug__" : Str)) = false := by decide) : PE X (.Call (.Name x p) [] [] pos) (tMake C sp dvs E0 tNil) := by
  obtain ⟨f, fd, ps, ds, M, F, hm, hb, hd⟩ := c.ex
  exact pe_gmake0 M F (hr.mono hk) hG hg hm hb hd pass0 hdb
end
/-- what a caller knows of a method -/
structure Ct (P : Program) (w : World) (K : PySem.W.Frag) (mg : Str → Option Value) (base : Heap) (k : Nat) (C : Addr) (m : Str) (dvs : List V) (sp : Sp) : Prop where
  ex : ∃ (f : Addr) (fd : FuncData) (ps : List Str) (ds : List Value), Cls K C ∧ Meth K C m f ∧ FnG P w K mg base CX0 k f fd ps sp ∧ Binds K fd ps ds ∧ Vals dvs ds
section
variable {X : Cx} {j k n : Nat} {sp : Sp} {m : Str} {C : Addr} {dvs : List V} {p pos apos : Pos} {e o : Expr} {es : List Expr} {t : TA} {ta : TE}
theorem pe_ct {pl : Sem Bool} (he : PE X o ta) (c : Ct X.prog X.w X.K X.mg X.base j C m dvs sp) (hr : Room k X.A) (hG : X.A.guards = some []) (hk : j ≤ k) (ha : PA X (e :: es) t)
    (hst : starEach (e :: es) X.env = (false, eval e X.env) :: starEach es X.env := by rfl) (hpl : (backTo pos (starEach es X.env)).any (·.1) = false := by rfl)
    (ht : eval (.Call (.Attribute o m apos) (e :: es) [] pos) X.env = (do
      let ov ← eval o X.env
      standAt apos.atName
      let (f, first) ← holding [ov] (getMethod ov m pl)
      callWith pos f first (backTo pos (starEach (e :: es) X.env)) (backToKw pos (keywordEach [] X.env))) := by rfl) :
    PE X (.Call (.Attribute o m apos) (e :: es) [] pos) (tMeth C m sp dvs E0 ta t) := by
  obtain ⟨f, fd, ps, ds, cl, hm, F, hb, hd⟩ := c.ex
  exact pe_gmeth (pl := pl) he cl hm F (hr.mono hk) hG hb hd pass0 ha hst hpl ht
theorem pe_ct0 {pl : Sem Bool} (he : PE X o ta) (c : Ct X.prog X.w X.K X.mg X.base j C m dvs sp) (hr : Room k X.A) (hG : X.A.guards = some []) (hk : j ≤ k)
    (ht : eval (.Call (.Attribute o m apos) [] [] pos) X.env = (do
      let ov ← eval o X.env
      standAt apos.atName
      let (f, first) ← holding [ov] (getMethod ov m pl)
      callWith pos f first (backTo pos (starEach [] X.env)) (backToKw pos (keywordEach [] X.env))) := by rfl) :
    PE X (.Call (.Attribute o m apos) [] [] pos) (tMeth C m sp dvs E0 ta tNil) := by
  obtain ⟨f, fd, ps, ds, cl, hm, F, hb, hd⟩ := c.ex
  exact pe_gmeth0 (pl := pl) he cl hm F (hr.mono hk) hG hb hd pass0 ht
end
/-! ### name = {k: v for ..} on one line, the name a local -/
section
variable {X : Cx}
theorem ps_setDc {i : Nat} {y : Str} {py : Pos} {kx vx tg iter : Expr} {ifs : List Expr} {scope : Scope} {own : List (Str × Nat)} {pos spos : Pos} {wi : TI} {g : TG} {tt : TT} {tk tv : TE} (hc : X.calm = true) (hN : X.N.Nodup) (hy : X.N[i]? = some y) (hyl : X.env.scope.names.lookup y = some .local)
    (hsw : swapsWith (.DictComp kx vx [⟨tg, iter, ifs, 0⟩] scope pos) (some (.Name y py)) spos.line X.env = pure true) (hi : PI X tg iter wi) (ok : BlkOk X.N X.env.scope scope own)
    (hg : ∀ (s : Shared) (H : Hp) (C : Addr) (cl : List (Str × Addr)) (fp : List Addr), PG (X.blk s H scope (compEnvC scope cl C X.env) fp) tg g) (ht : ∀ (s : Shared) (H : Hp) (C : Addr) (cl : List (Str × Addr)) (fp : List Addr), PTs (X.blk s H scope (compEnvC scope cl C X.env) fp) ifs tt)
    (hk : ∀ (s : Shared) (H : Hp) (C : Addr) (cl : List (Str × Addr)) (fp : List Addr), PE (X.blk s H scope (compEnvC scope cl C X.env) fp) kx tk)
    (he : ∀ (s : Shared) (H : Hp) (C : Addr) (cl : List (Str × Addr)) (fp : List Addr), PE (X.blk s H scope (compEnvC scope cl C X.env) fp) vx tv) (hs : ∀ x, foldedSetIterable iter X.env x = pure x := by intro _; rfl) :
    PS X (.Assign [.Name y py] (.DictComp kx vx [⟨tg, iter, ifs, 0⟩] scope pos) spos) (tAsg (tDc wi g tt tk tv (own.map (·.2))) (gName i)) := by
  refine ⟨fun pins s σ H D I h => ?_⟩
  rw [exec_Assign_Name_used _ _ _ _ hsw]
  refine wpAny_bind (wpAny_standAt (wpAny_bind ?_))
  show wpAny _ X.A (do let _ ← comprehension (.DictComp kx vx [⟨tg, iter, ifs, 0⟩] scope pos) scope X.env (firstIterPos [⟨tg, iter, ifs, 0⟩] pos) newDict false (eval iter X.env) (some (assign (.Name y py) X.env))) _ _ s
  have h : tDc wi g tt tk tv (own.map (·.2)) σ H (fun x H1 => gName i x σ H1 D.nx) := h
  refine wpAny_bind (thn (dc_core (Qf := fun _ s' => SP X pins D .next s') hc hN I hi ok hg ht hk he hs h fun L C s' m H' I' q hn f => ?_) fun _ s' hq => wpAny_pure (wpAny_pure hq))
  show wpAny _ _ (assign (.Name y py) X.env (.ref L)) _ _ _
  refine wpAny_assign_Name (store_ok2 (v := V.ref L) I' hN hy (.inl hyl) rfl (fun s2 I2 ⟨a, sb, ha⟩ => ?_) (.inr hyl))
  obtain ⟨f0, f1, f2, f3, f4, f5⟩ := f
  have haC : C ≠ a := by
    rcases ha with z | z
    · rw [z]; exact f1
    · exact fun e => f4 y a z e.symm
  refine ⟨m, hn.sameBut sb haC, fun h3 sb3 => ?_⟩
  exact ⟨_, H', I2.turned (t' := s2.toks) (fun b o hb e => (sb3.2 b hb).trans e) f0 f1 f3 f4 f5, q⟩
theorem sw_trueD {kx vx : Expr} {gs : List Comprehension} {scope : Scope} {pos py : Pos} {y : Str} {l : Nat} {env : Env} (hk : env.scope.kind = .function) (hy : env.scope.names.lookup y = some .local) (hl : (py.line == pos.line) = true)
    (ha : (scope.names.any fun (n, k) => n == y && (k == .local || k == .cell)) = false) : swapsWith (.DictComp kx vx gs scope pos) (some (.Name y py)) l env = pure true := by
  have ky : env.kindOf y = some .local := hy
  have hb : env.blockKind = .function := by unfold Env.blockKind; rw [hk]; rfl
  unfold swapsWith
  simp only [hb, ky, ha, Expr.pos, hl]
  rfl
end
/-! ### never reached -/
def tNev : TE := fun _ _ _ => False
theorem pe_never {X : Cx} {e : Expr} : PE X e tNev := ⟨fun _ _ _ _ _ _ h => h.elim⟩
def gNev : TG := fun _ _ _ _ => False
theorem pg_never {X : Cx} {e : Expr} : PG X e gNev := ⟨fun _ _ _ _ _ _ _ _ _ h => h.elim⟩
def tNevT : TT := fun _ _ _ => False
theorem pts_never {X : Cx} {es : List Expr} : PTs X es tNevT := ⟨fun _ _ _ _ _ _ h => h.elim⟩
/-- nothing is walked: an empty list or tuple -/
theorem dc_it {J : It} {n : Nat} {G : Hp → Prop} {Y : Nat → Hp → V → Hp → Prop} (w : Walk J n G Y) {g : TG} {tt : TT} {tk tv : TE} {vs : List Nat} {σ : L2.St} {H1 : Hp} {D : Addr} {Qd : Hp → Prop} (Pv : Nat → Hp → Prop) (h0 : Pv 0 (upd H1 D (.dK []))) (hG : ∀ i H, i ≤ n → Pv i H → G H)
    (hs : ∀ i x H H', i < n → Pv i H → Y i H x H' → g x (wipe σ vs) H' fun σ2 H2 => wipe σ2 vs = wipe σ vs ∧ tt σ2 H2 fun b H3 =>
      if b = true then tk σ2 H3 fun y H4 => tv σ2 H4 fun z H5 => ∃ kvs k, y = kV k ∧ H5 D = some (.dK kvs) ∧ kvs.length < sizeLine ∧ Pv (i + 1) (upd H5 D (.dK (putK kvs k z))) else Pv (i + 1) H3) (hd : ∀ H, Pv n H → Qd H) :
    ∃ W : Nat → Nat → Hp → Prop, (∃ m, W 0 m (upd H1 D (.dK []))) ∧ ∀ i m H, W i m H →
      (J.stop i H ∧ Qd H) ∨ (J.go i H ∧ ∃ Nx : Hp → Prop, (∀ H', Nx H' → ∃ m', m' < m ∧ W (i + 1) m' H') ∧ ∀ x H', J.yld i H x H' → g x (wipe σ vs) H' fun σ2 H2 => wipe σ2 vs = wipe σ vs ∧ tt σ2 H2 fun b H3 =>
        if b = true then tk σ2 H3 fun y H4 => tv σ2 H4 fun z H5 => ∃ kvs k, y = kV k ∧ H5 D = some (.dK kvs) ∧ kvs.length < sizeLine ∧ Nx (upd H5 D (.dK (putK kvs k z))) else Nx H3) := by
  refine ⟨fun i m H => m = n - i ∧ i ≤ n ∧ Pv i H, ⟨n, by simp, Nat.zero_le _, h0⟩, ?_⟩
  rintro i m H ⟨rfl, hi, p⟩
  have q := hG i H hi p
  by_cases hlt : i < n
  · refine .inr ⟨w.goes i H hlt q, Pv (i + 1), fun H' p' => ⟨n - (i + 1), by omega, rfl, hlt, p'⟩, fun x H' y => hs i x H H' hlt p (w.yields i H x H' hlt q y)⟩
  · have e : i = n := by omega
    subst e
    exact .inl ⟨w.stops H q, hd H p⟩
end Tp
namespace Tp
open PySem PySem.Spec PyProof.Rows L2
/-- a while that does not begin -/
theorem while_no {c : TT} {tb : TS} {D : Ends} {σ : L2.St} {H : Hp} (hc : ∀ Q : Bool → Hp → Prop, Q false H → c σ H Q) (hd : D.nx σ H) : tWhile c tb D σ H :=
  ⟨fun m σ' H' => m = 0 ∧ σ' = σ ∧ H' = H, ⟨0, rfl, rfl, rfl⟩, fun m σ' H' e => by
    obtain ⟨rfl, rfl, rfl⟩ := e
    exact hc _ hd⟩
end Tp
namespace Tp
open PySem PySem.Spec PyProof.Rows L2
/-- a def with defaults, its promise where the guards are known -/
theorem FunDG.ok {P : Program} {w : World} {K : PySem.W.Frag} {mg : Str → Option Value} {base : Heap} {x qual : Str} {params : Arguments} {body : List Stmt} {scope : Scope} {dvs : List V} {kws : List (Str × V)} {f : Addr} {fd : FuncData} {N ps : List Str} {k : Nat} {sp : Sp}
    (F : FunD K x qual params body scope dvs kws f fd) (S : FnScope N ps scope) (len : ∀ vs H Q E, sp vs H Q E → vs.length = ps.length)
    (hb : ∀ (cdv : Value) (B : Around) (out : List Env) (s : Shared) (H : Hp) (vs : List V) (Q : VK) (E : XK),
      Room k (B.deeper (envOfC qual scope s.heap.objs.size f cdv)) → (B.deeper (envOfC qual scope s.heap.objs.size f cdv)).guards = some [] → sp vs H Q E →
      ∃ t, PSs (cxOf CX0 P w K mg base N qual scope f cdv B out s H E).nox body t ∧ t { nx := fun _ H' => Q .non H', rt := Q } (start N vs) H) :
    FnG P w K mg base CX0 (k + 1) f fd ps sp := by
  obtain ⟨oc, od, dV, kV, doc, pm, an, cdv, ct, osl, rfl, lk, hcd, _, _⟩ := F.ex
  refine fnG_of lk hcd S len fun B out s H vs Q E hr hg hsp => ?_
  obtain ⟨t, h, q⟩ := hb cdv B out s H vs Q E hr hg hsp
  exact ⟨t, h.nox, q⟩
end Tp
namespace Tp
open PySem PySem.Spec PyProof.Rows L2
/-- a + b, the sum handed on as a letter -/
def rAddL : R2 := fun x y H Q => ∃ i j : Int, x = .int i ∧ y = .int j ∧ ∀ z : Int, z = i + j → Q (.int z) H
theorem op_addL {X : Cx} : OpR X (binaryOp .Add) rAddL := by
  intro pins s σ H x y v u Q I rx ry h
  obtain ⟨i, j, e1, e2, q⟩ := h
  exact op_add pins s σ H x y v u Q I rx ry ⟨i, j, e1, e2, q _ rfl⟩
def rSubL : R2 := fun x y H Q => ∃ i j : Int, x = .int i ∧ y = .int j ∧ ∀ z : Int, z = i - j → Q (.int z) H
theorem op_subL {X : Cx} : OpR X (binaryOp .Sub) rSubL := by
  intro pins s σ H x y v u Q I rx ry h
  obtain ⟨i, j, e1, e2, q⟩ := h
  exact op_sub pins s σ H x y v u Q I rx ry ⟨i, j, e1, e2, q _ rfl⟩
end Tp
set_option Elab.async false
set_option linter.all false
set_option maxRecDepth 100000
set_option maxHeartbeats 4000000
/-! data of any depth with dicts in it, and its repr -/
namespace Tp
open PySem PySem.Spec PyProof.Rows L2
/-- a key as data -/
def kD : Key → PyData
  | .inl i => .int i
  | .inr x => .str x
mutual
inductive Dd (K : PySem.W.Frag) (H : Hp) : V → PyData → Prop
  | non : Dd K H .non .none
  | bl (b : Bool) : Dd K H (.bl b) (.bool b)
  | int (i : Int) : Dd K H (.int i) (.int i)
  | str (x : Str) : Dd K H (.str x) (.str x)
  | lst {a : Addr} {xs : List V} {ds : List PyData} : SqL K H a xs → DdAll K H xs ds → Dd K H (.ref a) (.list ds)
  | tup {a : Addr} {xs : List V} {ds : List PyData} : SqT K H a xs → DdAll K H xs ds → Dd K H (.ref a) (.tuple ds)
  | dct {a : Addr} {kvs : List (Key × V)} {es : List (PyData × PyData)} : H a = some (.dK kvs) → es.map (·.1) = kvs.map (fun kv => kD kv.1) → DdAll K H (kvs.map (·.2)) (es.map (·.2)) → Dd K H (.ref a) (.dict es)
inductive DdAll (K : PySem.W.Frag) (H : Hp) : List V → List PyData → Prop
  | nil : DdAll K H [] []
  | cons {v : V} {vs : List V} {d : PyData} {ds : List PyData} : Dd K H v d → DdAll K H vs ds → DdAll K H (v :: vs) (d :: ds)
end
/-- the table of modules is a dict of the written part -/
def Sm (K : PySem.W.Frag) : Prop := ∃ o : Obj, K.lookup sysModules = some o ∧ o.cls = .type "dict"
theorem reads_pairs {P : Program} {w : World} {h : Heap} : ∀ {es : List DictEntry} {kvs : List (Key × Value)}, Pairs (mixKind P w) es kvs → ReadsAll h (es.map (·.key)) (kvs.map fun kv => kD kv.1) [] ∧ es.map (·.val) = kvs.map (·.2)
  | _, _, .nil => ⟨.nil, rfl⟩
  | _, _, .cons h1 h2 h3 => by
    obtain ⟨ih1, ih2⟩ := reads_pairs (h := h) h3
    have e1 := keyIs_shape (show keyIs _ _ = true from h1)
    refine ⟨?_, ?_⟩
    · rcases e1 with ⟨i, t, e, e'⟩ | ⟨x, t, e, e'⟩
      · rw [List.map_cons, List.map_cons, e', e]
        exact ReadsAll.cons (as := []) (bs := []) (.int i t) ih1
      · rw [List.map_cons, List.map_cons, e', e]
        exact ReadsAll.cons (as := []) (bs := []) (.str x t) ih1
    · rw [List.map_cons, List.map_cons, ih2, h2]
theorem kv_keys : ∀ {kvs : List (Key × V)} {vs : List (Key × Value)}, KV kvs vs → vs.map (fun kv => kD kv.1) = kvs.map (fun kv => kD kv.1)
  | _, _, .nil => rfl
  | _, _, .cons a b => by rw [List.map_cons, List.map_cons, kv_keys b, a.1]
theorem kv_vals : ∀ {kvs : List (Key × V)} {vs : List (Key × Value)}, KV kvs vs → Vals (kvs.map (·.2)) (vs.map (·.2))
  | _, _, .nil => .nil
  | _, _, .cons a b => .cons a.2 (kv_vals b)
section
variable {X : Cx} {pins : List (Addr × Obj)} {σ : L2.St} {H : Hp} {s : Shared}
theorem not_list_sm (I : Inv X pins σ H s) (S : Sm X.K) {a : Addr} {o : Obj} (ho : s.heap.get? a = some o) (hc : o.cls = .type "list") : sysModules ≠ a := fun e => by
  obtain ⟨o2, hk, c2⟩ := S
  have h2 := I.kIn _ _ hk
  rw [e, ho] at h2
  have e3 := Option.some.inj h2
  rw [← e3, hc] at c2
  exact absurd (Value.type.inj c2) (by decide)
mutual
theorem Dd.reads (I : Inv X pins σ H s) (S : Sm X.K) : ∀ (d : PyData) (v : V) (u : Value), Dd X.K H v d → RelV v u → ∃ as, Reads s.heap u d as ∧ sysModules ∉ as
  | .none, _, _, h, r => by
    cases h
    cases r
    exact ⟨_, Reads.none, List.not_mem_nil⟩
  | .bool b, _, _, h, r => by
    cases h
    cases r
    exact ⟨_, Reads.bool b, List.not_mem_nil⟩
  | .int i, _, _, h, r => by
    cases h
    obtain ⟨t, rfl⟩ := r
    exact ⟨_, Reads.int i t, List.not_mem_nil⟩
  | .str x, _, _, h, r => by
    cases h
    obtain ⟨t, rfl⟩ := r
    exact ⟨_, Reads.str x t, List.not_mem_nil⟩
  | .list ds, _, _, h, r => by
    cases h with
    | lst hs ha =>
      cases r
      obtain ⟨its, rv, ⟨o, n, ho, hc, _, hd⟩, _⟩ := I.list hs
      obtain ⟨as, hr, hm⟩ := Dd.readsAll I S ds _ its ha rv
      refine ⟨_, Reads.list ho hc hd hr, fun z => ?_⟩
      rcases List.mem_cons.mp z with e | e
      · exact not_list_sm I S ho hc e
      · exact hm e
  | .tuple ds, _, _, h, r => by
    cases h with
    | tup hs ha =>
      cases r
      obtain ⟨its, rv, ⟨o, ho, hc, n, hd⟩, _⟩ := I.tuple hs
      obtain ⟨as, hr, hm⟩ := Dd.readsAll I S ds _ its ha rv
      exact ⟨_, Reads.tuple ho hc hd hr, hm⟩
  | .dict es, _, _, h, r => by
    cases h with
    | @dct a kvs _ ha he hv =>
      cases r
      obtain ⟨_, hsm, vs, rel, o, des, ep, ho, hx, hdat, _, hpr, _⟩ := dk_of I.hok ha
      obtain ⟨p1, p2⟩ := reads_pairs (h := s.heap) hpr
      have hkeys := kv_keys rel
      have hvals := kv_vals rel
      rw [← p2] at hvals
      obtain ⟨bs, hr, hm⟩ := Dd.readsPairs I S es _ _ hv hvals
      refine ⟨_, Reads.dict (as := []) (bs := bs) ho hx.1 hdat ?_ hr, fun z => ?_⟩
      · rw [he, ← hkeys]
        exact p1
      · rcases List.mem_cons.mp z with e | e
        · rw [← e] at hsm
          cases hsm
        · exact hm e
theorem Dd.readsAll (I : Inv X pins σ H s) (S : Sm X.K) : ∀ (ds : List PyData) (vs : List V) (us : List Value), DdAll X.K H vs ds → Vals vs us → ∃ as, ReadsAll s.heap us ds as ∧ sysModules ∉ as
  | [], _, _, h, r => by
    cases h
    cases r
    exact ⟨_, ReadsAll.nil, List.not_mem_nil⟩
  | d :: ds, _, _, h, r => by
    cases h with
    | cons h1 h2 =>
      cases r with
      | cons r1 r2 =>
        obtain ⟨as, q1, n1⟩ := Dd.reads I S d _ _ h1 r1
        obtain ⟨bs, q2, n2⟩ := Dd.readsAll I S ds _ _ h2 r2
        exact ⟨_, ReadsAll.cons q1 q2, fun z => (List.mem_append.mp z).elim n1 n2⟩
theorem Dd.readsPairs (I : Inv X pins σ H s) (S : Sm X.K) : ∀ (es : List (PyData × PyData)) (vs : List V) (us : List Value), DdAll X.K H vs (es.map (·.2)) → Vals vs us → ∃ as, ReadsAll s.heap us (es.map (·.2)) as ∧ sysModules ∉ as
  | [], _, _, h, r => by
    cases h
    cases r
    exact ⟨_, ReadsAll.nil, List.not_mem_nil⟩
  | (k, d) :: ds, _, _, h, r => by
    cases h with
    | cons h1 h2 =>
      cases r with
      | cons r1 r2 =>
        obtain ⟨as, q1, n1⟩ := Dd.reads I S d _ _ h1 r1
        obtain ⟨bs, q2, n2⟩ := Dd.readsPairs I S ds _ _ h2 r2
        exact ⟨_, ReadsAll.cons q1 q2, fun z => (List.mem_append.mp z).elim n1 n2⟩
end
end
/-- repr(x) of data -/
def rReprD (K : PySem.W.Frag) : List V → Hp → VK → Prop := fun xs H Q => ∃ (a : Addr) (d : PyData), xs = [.ref a] ∧ Dd K H (.ref a) d ∧ d.showable = true ∧ d.depth ≤ 60 ∧ d.shown.length ≤ sizeLine ∧ Q (.str d.shown) H
theorem call_reprD {X : Cx} {k : Nat} (S : Sm X.K) (hr : Room k X.A) (hG : X.A.guards = some []) : CallR X (.builtin "repr") (rReprD X.K) := by
  intro pins s σ H xs us Q I r h
  obtain ⟨a, d, rfl, hd, hs, hdep, hz, q⟩ := h
  obtain ⟨u, rfl, r1⟩ := vals1 r
  cases (show u = Value.ref a from r1)
  obtain ⟨as, hrd, hm⟩ := Dd.reads I S d _ _ hd rfl
  have hu := hr.units
  exact repr_of_reads' hrd hs (fun _ => hm) hG (by omega) (fun _ _ e => e) (fun h' u tk hk => ⟨.str d.shown, H, I.kept hk, ⟨u, rfl⟩, q⟩) hz
section
variable {K : PySem.W.Frag} {H H' : Hp}
theorem SqL.up (k : Same H H') {a : Addr} {xs : List V} (h : SqL K H a xs) : SqL K H' a xs := by
  rcases h with (h | ⟨o, h⟩) | h
  · exact .inl (.inl (k _ _ h))
  · exact .inl (.inr ⟨o, k _ _ h⟩)
  · exact .inr h
theorem SqT.up (k : Same H H') {a : Addr} {xs : List V} (h : SqT K H a xs) : SqT K H' a xs := by
  rcases h with (h | ⟨o, h⟩) | h
  · exact .inl (.inl (k _ _ h))
  · exact .inl (.inr ⟨o, k _ _ h⟩)
  · exact .inr h
mutual
theorem Dd.up (k : Same H H') : ∀ (d : PyData) (v : V), Dd K H v d → Dd K H' v d
  | .none, _, h => by cases h; exact .non
  | .bool _, _, h => by cases h; exact .bl _
  | .int _, _, h => by cases h; exact .int _
  | .str _, _, h => by cases h; exact .str _
  | .list ds, _, h => by
    cases h with
    | lst hs ha => exact .lst (SqL.up k hs) (Dd.upAll k ds _ ha)
  | .tuple ds, _, h => by
    cases h with
    | tup hs ha => exact .tup (SqT.up k hs) (Dd.upAll k ds _ ha)
  | .dict es, _, h => by
    cases h with
    | dct ha he hv => exact .dct (k _ _ ha) he (Dd.upPairs k es _ hv)
theorem Dd.upAll (k : Same H H') : ∀ (ds : List PyData) (vs : List V), DdAll K H vs ds → DdAll K H' vs ds
  | [], _, h => by cases h; exact .nil
  | d :: ds, _, h => by
    cases h with
    | cons h1 h2 => exact .cons (Dd.up k d _ h1) (Dd.upAll k ds _ h2)
theorem Dd.upPairs (k : Same H H') : ∀ (es : List (PyData × PyData)) (vs : List V), DdAll K H vs (es.map (·.2)) → DdAll K H' vs (es.map (·.2))
  | [], _, h => by cases h; exact .nil
  | (_, d) :: ds, _, h => by
    cases h with
    | cons h1 h2 => exact .cons (Dd.up k d _ h1) (Dd.upPairs k ds _ h2)
end
theorem Dd.mono {v : V} {d : PyData} (k : Same H H') (h : Dd K H v d) : Dd K H' v d := Dd.up k d v h
theorem DdAll.mono {vs : List V} {ds : List PyData} (k : Same H H') (h : DdAll K H vs ds) : DdAll K H' vs ds := Dd.upAll k ds vs h
theorem DdAll.len : ∀ {vs : List V} {ds : List PyData}, DdAll K H vs ds → vs.length = ds.length
  | _, _, .nil => rfl
  | _, _, .cons _ h => congrArg Nat.succ (DdAll.len h)
theorem DdAll.get : ∀ {vs : List V} {ds : List PyData} {i : Nat} {v : V}, DdAll K H vs ds → vs[i]? = some v → ∃ d, ds[i]? = some d ∧ Dd K H v d
  | _, _, 0, _, .cons h _, e => by
    cases e
    exact ⟨_, rfl, h⟩
  | _, _, i + 1, _, .cons _ h, e => DdAll.get (i := i) h e
  | _, _, _, _, .nil, e => by cases e
theorem DdAll.set : ∀ {vs : List V} {ds : List PyData} {i : Nat} {v : V} {d : PyData}, DdAll K H vs ds → Dd K H v d → DdAll K H (vs.set i v) (ds.set i d)
  | _, _, 0, _, _, .cons _ h, e => .cons e h
  | _, _, i + 1, _, _, .cons h1 h, e => .cons h1 (DdAll.set (i := i) h e)
  | _, _, _, _, _, .nil, _ => .nil
theorem DdAll.app : ∀ {vs ws : List V} {ds es : List PyData}, DdAll K H vs ds → DdAll K H ws es → DdAll K H (vs ++ ws) (ds ++ es)
  | _, _, _, _, .nil, h => h
  | _, _, _, _, .cons h1 h2, h => .cons h1 (DdAll.app h2 h)
theorem ddAll_flat : ∀ {vs : List V}, vs.all isFlat = true → DdAll K H vs (vs.map dV)
  | [], _ => .nil
  | v :: vs, h => by
    rw [List.all_cons, Bool.and_eq_true] at h
    refine .cons ?_ (ddAll_flat h.2)
    match v, h.1 with
    | .non, _ => exact .non
    | .bl b, _ => exact .bl b
    | .int i, _ => exact .int i
    | .str x, _ => exact .str x
end
end Tp
set_option Elab.async false
set_option linter.all false
set_option maxRecDepth 100000
set_option maxHeartbeats 4000000
/-! kinds of any value, and what the four questions of the document answer -/
namespace Tp
open PySem PySem.Spec PyProof.Rows L2
def tys6 : List String := ["int", "bool", "str", "list", "tuple", "dict"]
/-- the answer of isinstance, by the kind's name -/
def ansB (k t : String) : Bool := k == t || (k == "bool" && t == "int")
/-- all that isinstance answers of a value, by its kind -/
def Knd (K : PySem.W.Frag) (H : Hp) (x : V) (k : String) : Prop := (∃ t, TyX K H x t ∧ ∀ u ∈ tys6, PySem.W.kitOne K t (.type u) = some (ansB k u)) ∨
  ∃ (a D : Addr) (fs : List (Str × V)), x = .ref a ∧ ExAt H a D fs ∧ ExK K D ∧ ∀ u ∈ tys6, PySem.W.kitOne K (.ref D) (.type u) = some (ansB k u)
theorem Knd.mono {K : PySem.W.Frag} {H H' : Hp} {x : V} {k : String} (s : Same H H') (h : Knd K H x k) : Knd K H' x k := by
  rcases h with ⟨t, ty, e⟩ | ⟨a, D, fs, e1, hA, T, e⟩
  · exact .inl ⟨t, TyX.up s ty, e⟩
  · exact .inr ⟨a, D, fs, e1, hA.mono s, T, e⟩
theorem Knd.is {K : PySem.W.Frag} {H : Hp} {x : V} {k : String} (h : Knd K H x k) (u : String) (hu : u ∈ tys6) : IsR K H x (.type u) (ansB k u) := by
  rcases h with ⟨t, ty, e⟩ | ⟨a, D, fs, e1, hA, T, e⟩
  · exact .inl ⟨t, ty, e u hu⟩
  · exact .inr ⟨a, D, fs, e1, hA, T, e u hu⟩
theorem any2 {K : PySem.W.Frag} {t a b : Value} {p q : Bool} (h1 : PySem.W.kitOne K t a = some p) (h2 : PySem.W.kitOne K t b = some q) : PySem.W.kitAny K t [a, b] = some (p || q) :=
  kitAny_cons h1 (fun z => by
    rw [z, Bool.false_or]
    exact kitAny_cons h2 (fun z => by rw [z]; rfl) fun z => z) fun z => by rw [z, Bool.true_or]
theorem Knd.lt {K : PySem.W.Frag} {H : Hp} {x : V} {k : String} (h : Knd K H x k) : IsA K H x [.type "list", .type "tuple"] (ansB k "list" || ansB k "tuple") := by
  rcases h with ⟨t, ty, e⟩ | ⟨a, D, fs, e1, hA, T, e⟩
  · exact .inl ⟨t, ty, any2 (e _ (by decide)) (e _ (by decide))⟩
  · exact .inr ⟨a, D, fs, e1, hA, T, any2 (e _ (by decide)) (e _ (by decide))⟩
theorem knd_ty {K : PySem.W.Frag} {H : Hp} {x : V} (t : String) (h : TyX K H x (.type t)) (e : tys6.all (fun u => decide (kitB t u = some (ansB t u))) = true) : Knd K H x t :=
  .inl ⟨_, h, fun u hu => kit_ty (of_decide_eq_true (List.all_eq_true.mp e u hu))⟩
/-- a value with its kind; what an int and a text are -/
structure Vk (K : PySem.W.Frag) (H : Hp) (x : V) (k : String) : Prop where
  kd : Knd K H x k
  i : k = "int" → ∃ i, x = .int i
  s : k = "str" → ∃ z : Str, x = .str z ∧ z.length ≤ 5000
theorem Vk.mono {K : PySem.W.Frag} {H H' : Hp} {x : V} {k : String} (s : Same H H') (h : Vk K H x k) : Vk K H' x k := ⟨h.kd.mono s, h.i, h.s⟩
theorem vk_of {K : PySem.W.Frag} {H : Hp} {x : V} (k : String) (h : Knd K H x k) (h1 : k ≠ "int" := by decide) (h2 : k ≠ "str" := by decide) : Vk K H x k := ⟨h, fun e => absurd e h1, fun e => absurd e h2⟩
section
variable {K : PySem.W.Frag} {H : Hp}
theorem vk_non : Vk K H .non "NoneType" := vk_of _ (knd_ty _ (.base .non) (by decide +kernel))
theorem vk_bl (b : Bool) : Vk K H (.bl b) "bool" := vk_of _ (knd_ty _ (.base (.bl b)) (by decide +kernel))
theorem vk_int (i : Int) : Vk K H (.int i) "int" := ⟨knd_ty _ (.base (.int i)) (by decide +kernel), fun _ => ⟨i, rfl⟩, fun e => absurd e (by decide)⟩
theorem vk_str (z : Str) (h : z.length ≤ 5000) : Vk K H (.str z) "str" := ⟨knd_ty _ (.base (.str z)) (by decide +kernel), fun e => absurd e (by decide), fun _ => ⟨z, rfl, h⟩⟩
theorem tyx_list {a : Addr} {xs : List V} (h : SqL K H a xs) : TyX K H (.ref a) (.type "list") := by
  rcases h with (h | ⟨o, h⟩) | ⟨o, _, _, h, c, _⟩
  · exact .base (.lst h)
  · exact .base (.frz h)
  · exact .kList h c
theorem tyx_tuple {a : Addr} {xs : List V} (h : SqT K H a xs) : TyX K H (.ref a) (.type "tuple") := by
  rcases h with (h | ⟨o, h⟩) | ⟨o, _, _, h, c, _⟩
  · exact .base (.tup h)
  · exact .fTuple h
  · exact .kTuple h c
theorem vk_list {a : Addr} {xs : List V} (h : SqL K H a xs) : Vk K H (.ref a) "list" := vk_of _ (knd_ty _ (tyx_list h) (by decide +kernel))
theorem vk_tuple {a : Addr} {xs : List V} (h : SqT K H a xs) : Vk K H (.ref a) "tuple" := vk_of _ (knd_ty _ (tyx_tuple h) (by decide +kernel))
theorem vk_dict {a : Addr} {kvs : List (Key × V)} (h : H a = some (.dK kvs)) : Vk K H (.ref a) "dict" := vk_of _ (knd_ty _ (.base (.dK h)) (by decide +kernel))
/-- what isinstance asks of an instance of an own class -/
structure InsK (K : PySem.W.Frag) (C : Addr) : Prop where
  cl : Cls K C
  ha : PySem.W.findIn K (.ref C) "__class__" = some (some (.builtin "object.__class__"))
  hn : PySem.W.specialIn K (.builtin "object.__class__") "__get__" = some (some (.builtin "getset_descriptor.__get__"))
  ht : PySem.W.takesIn K (.builtin "object.__class__") = some true
  hm : PySem.W.mroIn K C (.type "object") = some true
  no : ∀ u ∈ tys6, PySem.W.kitOne K (.ref C) (.type u) = some false
theorem vk_ins {C a dx : Addr} {fs : List (Str × V)} (I : InsK K C) (h : H a = some (.ins C dx fs)) : Vk K H (.ref a) "object" :=
  vk_of _ (.inl ⟨_, .base (.ins h I.cl I.ha I.hn I.ht I.hm), fun u hu => by
    rw [I.no u hu]
    have : ∀ u ∈ tys6, ansB "object" u = false := by decide
    rw [this u hu]⟩)
theorem vk_exc {C a : Addr} {fs : List (Str × V)} (T : ExK K C) (no : ∀ u ∈ tys6, PySem.W.kitOne K (.ref C) (.type u) = some false) (h : ExAt H a C fs) : Vk K H (.ref a) "object" :=
  vk_of _ (.inr ⟨a, C, fs, rfl, h, T, fun u hu => by
    rw [no u hu]
    have : ∀ u ∈ tys6, ansB "object" u = false := by decide
    rw [this u hu]⟩)
end
/-! ### the answers -/
def lowB (c : Nat) : Bool := decide (97 ≤ c ∧ c ≤ 122)
def digB (c : Nat) : Bool := decide (48 ≤ c ∧ c ≤ 57)
/-- is it a name? -/
def nameB (l : List Nat) : Bool := decide (1 ≤ l.length ∧ l.length ≤ 8) && (l.head?.any lowB && l.all fun c => lowB c || digB c)
def nameV : V → Bool
  | .str z => nameB (TL.tl z)
  | _ => false
def intB (lo hi : Int) : V → Bool
  | .int i => decide (lo ≤ i ∧ i ≤ hi)
  | _ => false
/-- is_whole -/
def spWhole (K : PySem.W.Frag) : Sp := fun vs H Q _ => ∃ (x : V) (k : String), vs = [x] ∧ Vk K H x k ∧ Q (.bl (k == "int")) H
/-- is_integer -/
def spInteger (K : PySem.W.Frag) : Sp := fun vs H Q _ => ∃ (x : V) (lo hi : Int) (k : String), vs = [x, .int lo, .int hi] ∧ Vk K H x k ∧ (k ≠ "int" → Q (.bl false) H) ∧ ∀ i, x = .int i → Q (.bl (decide (lo ≤ i ∧ i ≤ hi))) H
/-- is_name -/
def spName (K : PySem.W.Frag) : Sp := fun vs H Q _ => ∃ (x : V) (k : String), vs = [x] ∧ Vk K H x k ∧ (k ≠ "str" → Q (.bl false) H) ∧ ∀ z, x = .str z → ∀ H', Same H H' → Q (.bl (nameB (TL.tl z))) H'
/-- is_list -/
def spList (K : PySem.W.Frag) : Sp := fun vs H Q _ => ∃ (x : V) (k : String), vs = [x] ∧ Vk K H x k ∧ ∀ H', Same H H' → Q (.bl (k == "list" || k == "tuple")) H'
theorem low_mem (c : Nat) : decide (c ∈ (("abcdefghijklmnopqrstuvwxyz" : Str)).cps.toList) = lowB c := by
  have e : (("abcdefghijklmnopqrstuvwxyz" : Str)).cps.toList = (List.range 26).map (· + 97) := by decide +kernel
  rw [e]
  unfold lowB
  refine decide_eq_decide.mpr ⟨fun h => ?_, fun h => ?_⟩
  · obtain ⟨i, hi, rfl⟩ := List.mem_map.mp h
    have := List.mem_range.mp hi
    omega
  · exact List.mem_map.mpr ⟨c - 97, List.mem_range.mpr (by omega), by omega⟩
theorem dig_mem' (c : Nat) : decide (c ∈ (("0123456789" : Str)).cps.toList) = digB c := by
  have e : (("0123456789" : Str)).cps.toList = (List.range 10).map (· + 48) := by decide +kernel
  rw [e]
  unfold digB
  refine decide_eq_decide.mpr ⟨fun h => ?_, fun h => ?_⟩
  · obtain ⟨i, hi, rfl⟩ := List.mem_map.mp h
    have := List.mem_range.mp hi
    omega
  · exact List.mem_map.mpr ⟨c - 48, List.mem_range.mpr (by omega), by omega⟩
/-! data: the kind, and the shape of a term row -/
def kindD : PyData → String
  | .none => "NoneType"
  | .bool _ => "bool"
  | .int _ => "int"
  | .str _ => "str"
  | .list _ => "list"
  | .tuple _ => "tuple"
  | .dict _ => "dict"
mutual
def shortD : PyData → Bool
  | .str z => decide (z.length ≤ 5000)
  | .list ds => shortAll ds
  | .tuple ds => shortAll ds
  | .none => true
  | .bool _ => true
  | .int _ => true
  | .dict _ => true
def shortAll : List PyData → Bool
  | [] => true
  | d :: ds => shortD d && shortAll ds
end
theorem shortAll_get : ∀ {ds : List PyData} {i : Nat} {d : PyData}, shortAll ds = true → ds[i]? = some d → shortD d = true
  | d :: ds, 0, _, h, e => by
    cases e
    simp only [shortAll, Bool.and_eq_true] at h
    exact h.1
  | d :: ds, i + 1, _, h, e => by
    simp only [shortAll, Bool.and_eq_true] at h
    exact shortAll_get (i := i) h.2 e
theorem vk_dd {K : PySem.W.Frag} {H : Hp} : ∀ {v : V} {d : PyData}, Dd K H v d → shortD d = true → Vk K H v (kindD d)
  | _, _, .non, _ => vk_non
  | _, _, .bl b, _ => vk_bl b
  | _, _, .int i, _ => vk_int i
  | _, _, .str z, h => vk_str z (of_decide_eq_true (by simpa only [shortD] using h))
  | _, _, .lst h _, _ => vk_list h
  | _, _, .tup h _, _ => vk_tuple h
  | _, _, .dct h _ _, _ => vk_dict h
/-- the items of a list or a tuple -/
def seqD : PyData → Option (List PyData)
  | .list ds => some ds
  | .tuple ds => some ds
  | _ => none
def nameD : PyData → Bool
  | .str z => nameB (TL.tl z)
  | _ => false
def idxD (i : Nat) : PyData → Bool
  | .int n => decide (0 ≤ n ∧ n ≤ (i : Int) - 1)
  | _ => false
def numsB (i : Nat) (d : PyData) : Bool := match seqD d with
  | some ns => decide (ns.length ≤ 3) && ns.all (idxD i)
  | none => false
/-- may it stand at index i as a term row? -/
def rowB (i : Nat) (d : PyData) : Bool := match seqD d with
  | some [a, b] => nameD a && numsB i b
  | _ => false
def rowsB : Nat → List PyData → Bool
  | _, [] => true
  | i, d :: ds => rowB i d && rowsB (i + 1) ds
def termsB (d : PyData) : Bool := match seqD d with
  | some ds => rowsB 0 ds
  | none => false
/-- _is_term_row -/
def spTermRow (K : PySem.W.Frag) : Sp := fun vs H Q _ => ∃ (x : V) (i : Nat) (d : PyData), vs = [x, .int (i : Nat)] ∧ Dd K H x d ∧ shortD d = true ∧ i ≤ 5000 ∧ ∀ H', Same H H' → Q (.bl (rowB i d)) H'
/-- is_terms of data, or of what is no list -/
def spTerms (K : PySem.W.Frag) : Sp := fun vs H Q _ => ∃ x : V, vs = [x] ∧ ((∃ d, Dd K H x d ∧ shortD d = true ∧ (∀ ds, seqD d = some ds → ds.length ≤ 5000) ∧ ∀ H', Same H H' → Q (.bl (termsB d)) H') ∨ (∃ k, Vk K H x k ∧ (k == "list" || k == "tuple") = false ∧ ∀ H', Same H H' → Q (.bl false) H'))
end Tp
namespace Tp
open PySem PySem.Spec PyProof.Rows L2
theorem ans_int {k : String} (h : ansB k "int" = true) : (!ansB k "bool") = (k == "int") := by
  unfold ansB at h ⊢
  by_cases e : k = "int"
  · subst e
    decide
  · have e2 : k = "bool" := by simpa [e] using h
    subst e2
    decide
theorem ans_int0 {k : String} (h : ansB k "int" = false) : (k == "int") = false := by
  unfold ansB at h
  simp only [Bool.or_eq_false_iff] at h
  exact h.1
theorem ans_lt (k : String) : (ansB k "list" || ansB k "tuple") = (k == "list" || k == "tuple") := by
  unfold ansB
  have h1 : ("list" == "int") = false := by decide
  have h2 : ("tuple" == "int") = false := by decide
  rw [h1, h2, Bool.and_false, Bool.or_false, Bool.or_false]
theorem ans_str (k : String) : ansB k "str" = (k == "str") := by
  unfold ansB
  have h1 : ("str" == "int") = false := by decide
  rw [h1, Bool.and_false, Bool.or_false]
theorem if_true_of {c : Bool} {A B : Prop} (hc : c = true) (h : A) : if c = true then A else B := by
  rw [hc]
  exact iteT h
theorem if_false_of {c : Bool} {A B : Prop} (hc : c = false) (h : B) : if c = true then A else B := by
  rw [hc]
  exact iteF h
theorem gl_c {X : Cx} {x : Str} {v : V} {pos : Pos} (hg : Gl X x) (h : ∃ u, X.mg x = some u ∧ RelV v u) (hd : (x == ("__debug__" : Str)) = false := by decide) : PE X (.Name x pos) (tC v) := by
  obtain ⟨u, h1, h2⟩ := h
  exact pe_glob hg h1 h2 hd
end Tp
namespace Tp
open PySem PySem.Spec PyProof.Rows L2
theorem dd_seq {K : PySem.W.Frag} {H : Hp} {x : V} {d : PyData} {ds : List PyData} (h : Dd K H x d) (e : seqD d = some ds) : ∃ a xs, x = .ref a ∧ SqA K H a xs ∧ DdAll K H xs ds := by
  cases h with
  | lst hs ha =>
    cases e
    exact ⟨_, _, rfl, .inl hs, ha⟩
  | tup hs ha =>
    cases e
    exact ⟨_, _, rfl, .inr hs, ha⟩
  | _ => cases e
theorem kind_seq (d : PyData) : (kindD d == "list" || kindD d == "tuple") = (seqD d).isSome := by
  cases d <;> first | rfl | simp [kindD, seqD]
theorem short_seq {d : PyData} {ds : List PyData} (h : shortD d = true) (e : seqD d = some ds) : shortAll ds = true := by
  cases d with
  | list xs =>
    cases e
    simpa only [shortD] using h
  | tuple xs =>
    cases e
    simpa only [shortD] using h
  | _ => cases e
theorem kind_str {K : PySem.W.Frag} {H : Hp} {x : V} {d : PyData} (h : Dd K H x d) : kindD d ≠ "str" → nameD d = false := by
  cases h <;> first | (intro _; rfl) | (intro e; exact absurd rfl e)
theorem kind_int {K : PySem.W.Frag} {H : Hp} {x : V} {d : PyData} (h : Dd K H x d) (i : Nat) : kindD d ≠ "int" → idxD i d = false := by
  cases h <;> first | (intro _; rfl) | (intro e; exact absurd rfl e)
/-- is_name of data -/
theorem name_dd {K : PySem.W.Frag} {H : Hp} {x : V} {d : PyData} {Q : VK} {E : XK} (h : Dd K H x d) (hs : shortD d = true) (q : ∀ H', Same H H' → Q (.bl (nameD d)) H') : spName K [x] H Q E :=
  ⟨x, kindD d, rfl, vk_dd h hs, fun e => by
    have := q H (Same.refl _)
    rwa [kind_str h e] at this, fun z e H' s => by
    subst e
    cases h
    exact q H' s⟩
/-- is_integer of data -/
theorem int_dd {K : PySem.W.Frag} {H : Hp} {x : V} {d : PyData} {i : Nat} {Q : VK} {E : XK} (h : Dd K H x d) (hs : shortD d = true) (q : Q (.bl (idxD i d)) H) : spInteger K [x, .int 0, .int ((i : Nat) - 1)] H Q E :=
  ⟨x, 0, (i : Nat) - 1, kindD d, rfl, vk_dd h hs, fun e => by
    rwa [kind_int h i e] at q, fun n e => by
    subst e
    cases h
    exact q⟩
theorem DdAll.at {K : PySem.W.Frag} {H : Hp} : ∀ {vs : List V} {ds : List PyData} {i : Nat} {d : PyData}, DdAll K H vs ds → ds[i]? = some d → ∃ v, vs[i]? = some v ∧ Dd K H v d
  | _, _, 0, _, .cons h _, e => by
    cases e
    exact ⟨_, rfl, h⟩
  | _, _, i + 1, _, .cons _ h, e => DdAll.at (i := i) h e
  | _, _, _, _, .nil, e => by cases e
def rowsAt (k : Nat) : List PyData → List Bool
  | [] => []
  | d :: ds => rowB k d :: rowsAt (k + 1) ds
theorem rowsAt_len (k : Nat) : ∀ ds : List PyData, (rowsAt k ds).length = ds.length
  | [] => rfl
  | _ :: ds => congrArg Nat.succ (rowsAt_len (k + 1) ds)
theorem rowsAt_all (k : Nat) : ∀ ds : List PyData, (rowsAt k ds).all id = rowsB k ds
  | [] => rfl
  | d :: ds => by
    rw [rowsAt, List.all_cons, rowsAt_all (k + 1) ds]
    rfl
theorem rowsAt_take : ∀ (k : Nat) (ds : List PyData) (i : Nat) (d : PyData), ds[i]? = some d → (rowsAt k ds).take (i + 1) = (rowsAt k ds).take i ++ [rowB (k + i) d]
  | k, [], i, d, e => by cases e
  | k, x :: ds, 0, d, e => by
    cases e
    rfl
  | k, x :: ds, i + 1, d, e => by
    have ih := rowsAt_take (k + 1) ds i d e
    rw [rowsAt, List.take_succ_cons, ih, List.take_succ_cons]
    rw [show k + 1 + i = k + (i + 1) by omega]
    rfl
end Tp
namespace Tp
open PySem PySem.Spec PyProof.Rows L2
theorem Same.tr {A B D : Hp} (a : Same A B) (b : Same B D) : Same A D := fun x o e => b x o (a x o e)
theorem ne_dec1 {n : Nat} {z : Int} (h : ¬ ((n : Nat) : Int) = z) : (!decide (V.int ((n : Nat) : Int) = V.int z)) = true := by
  rw [decide_eq_false fun e => h (V.int.inj e)]
  rfl
theorem ne_dec2 {n : Nat} {z : Int} (h : ((n : Nat) : Int) = z) : (!decide (V.int ((n : Nat) : Int) = V.int z)) = false := by
  rw [decide_eq_true (congrArg V.int h)]
  rfl
end Tp
namespace Tp
open PySem PySem.Spec PyProof.Rows L2
/-- an empty or any list or tuple is a list -/
theorem vk_seqA {K : PySem.W.Frag} {H : Hp} {a : Addr} {xs : List V} (h : SqA K H a xs) : ∃ k, Vk K H (.ref a) k ∧ (k == "list" || k == "tuple") = true :=
  h.elim (fun h => ⟨_, vk_list h, by decide⟩) fun h => ⟨_, vk_tuple h, by decide⟩
end Tp
set_option Elab.async false
set_option linter.all false
set_option maxRecDepth 100000
set_option maxHeartbeats 4000000
/-! len(o), o[k], x in o, o == x, o != x by an own class's own methods, whose promises know the guards -/
namespace Tp
open PySem PySem.Spec PyProof.Rows L2
section
variable {X : Cx} {pins : List (Addr × Obj)} {σ : L2.St} {H : Hp} {s : Shared} {j k : Nat} {f C a dx : Addr} {fd : FuncData} {ps : List Str} {ds : List Value} {dvs : List V} {sp : Sp} {fs : List (Str × V)}
theorem run_at {A : Around} {Q : VK} {us : List Value} {vs : List V} (F : FnG X.prog X.w X.K X.mg X.base CX0 k f fd ps sp) (hr : Room k A) (hG : A.guards = some []) (hf : A.frames = X.A.frames) (hb : Binds X.K fd ps ds) (hd : Vals dvs ds)
    (I : Inv X pins σ H s) (r : Vals vs us) (h : sp (vs ++ dvs) H Q E0) : wpAny (model X.prog X.w) A (call (.ref f) us) (EP X pins σ Q) X.xe s := by
  have r2 : Vals (vs ++ dvs) (us ++ ds) := r.append hd
  have hl : (us ++ ds).length = ps.length := by rw [← r2.length]; exact F.len _ _ _ _ h
  have e0 : Env0 X.prog X.w X.K X.mg X.base A X.stack s H := by
    have e := I.env0
    exact ⟨by rw [hf]; exact e.frames, e.mod, e.bs, e.bsz, e.funs, e.frf, e.hok, e.bare⟩
  refine wpAny_call (codeAny_mono (F.run A X.stack s H ⟨us, []⟩ (us ++ ds) (vs ++ dvs) Q E0 hr hG e0 (hb s us I.kIn hl) r2 h) fun r s' hq => ?_)
  cases r with
  | error e => exact (show False from hq).elim
  | ok fl =>
    cases fl with
    | ret u => exact I.after hq
    | next => exact False.elim hq
    | brk => exact False.elim hq
    | cont => exact False.elim hq
theorem ins_at (I : Inv X pins σ H s) (e : H a = some (.ins C dx fs)) : ∃ ox od, PySem.W.InstAt s.heap a ox C od := by
  obtain ⟨mA, J, _⟩ := ins_get I.hok e
  obtain ⟨od, J, _⟩ := J.look
  exact ⟨_, _, J⟩
/-- len(o) -/
def rLenO (C : Addr) (sp : Sp) : List V → Hp → VK → Prop := fun xs H Q => ∃ a dx fs, xs = [.ref a] ∧ H a = some (.ins C dx fs) ∧ sp [.ref a] H (fun v H' => ∃ n : Nat, v = .int n ∧ n ≤ sizeLine ∧ Q v H') E0
theorem call_lenO (c : Ct X.prog X.w X.K X.mg X.base j C "__len__" [] sp) (hr : Room (j + 1) X.A) (hG : X.A.guards = some []) : CallR X (.builtin "len") (rLenO C sp) := by
  intro pins s σ H xs us Q I r h
  obtain ⟨a, dx, fs, rfl, ha, q⟩ := h
  obtain ⟨u, rfl, r1⟩ := vals1 r
  cases (show u = Value.ref a from r1)
  obtain ⟨f, fd, ps, ds, cl, hm, F, hb, hd⟩ := c.ex
  cases hd
  obtain ⟨ox, od, J⟩ := ins_at I ha
  obtain ⟨m, hF⟩ := I.fr
  refine PySem.W.len_K hF I.ok.mod.kin J hm.at_ hm.fn (wpAny_mono (run_at (A := X.A.in1) (us := [.ref a]) (vs := [.ref a]) F hr.in1 hG rfl hb .nil I (.cons rfl .nil) q) (fun u s' hv => ?_) fun _ _ x => x)
  obtain ⟨v, H', I', rv, n, rfl, hn, q'⟩ := hv
  obtain ⟨t, rfl⟩ := rv
  refine ⟨⟨by omega, by rw [PySem.sizeLine_eq] at hn; omega⟩, .int n, H', I'.tok _, ⟨_, rfl⟩, q'⟩
/-- x in o -/
def rInO (C : Addr) (sp : Sp) (no : Bool) : R2 := fun x y H Q => ∃ a dx fs, y = .ref a ∧ H a = some (.ins C dx fs) ∧ sp [.ref a, x] H (fun v H' => ∃ b, v = .bl b ∧ Q (.bl (b != no)) H') E0
theorem op_inO (c : Ct X.prog X.w X.K X.mg X.base j C "__contains__" [] sp) (hr : Room j X.A) (hG : X.A.guards = some []) : OpR X (compareOp .In) (rInO C sp false) := by
  intro pins s σ H x y v u Q I rx ry h
  obtain ⟨a, dx, fs, rfl, ha, q⟩ := h
  cases (show u = Value.ref a from ry)
  obtain ⟨f, fd, ps, ds, cl, hm, F, hb, hd⟩ := c.ex
  cases hd
  obtain ⟨ox, od, J⟩ := ins_at I ha
  obtain ⟨m, hF⟩ := I.fr
  refine PySem.W.in_K hF I.ok.mod.kin J hm.at_ hm.fn (wpAny_mono (run_at (A := X.A) (us := [.ref a, v]) (vs := [.ref a, x]) F hr hG rfl hb .nil I (.cons rfl (.cons rx .nil)) q) (fun u s' hv => ?_) fun _ _ x => x)
  obtain ⟨w, H', I', rv, b, rfl, q'⟩ := hv
  cases (show u = Value.bool b from rv)
  rw [Bool.bne_false] at q'
  exact wpAny_truthy_bool ⟨.bl b, H', I', rfl, q'⟩
theorem op_notInO (c : Ct X.prog X.w X.K X.mg X.base j C "__contains__" [] sp) (hr : Room j X.A) (hG : X.A.guards = some []) : OpR X (compareOp .NotIn) (rInO C sp true) := by
  intro pins s σ H x y v u Q I rx ry h
  obtain ⟨a, dx, fs, rfl, ha, q⟩ := h
  cases (show u = Value.ref a from ry)
  obtain ⟨f, fd, ps, ds, cl, hm, F, hb, hd⟩ := c.ex
  cases hd
  obtain ⟨ox, od, J⟩ := ins_at I ha
  obtain ⟨m, hF⟩ := I.fr
  refine PySem.W.notIn_K hF I.ok.mod.kin J hm.at_ hm.fn (wpAny_mono (run_at (A := X.A) (us := [.ref a, v]) (vs := [.ref a, x]) F hr hG rfl hb .nil I (.cons rfl (.cons rx .nil)) q) (fun u s' hv => ?_) fun _ _ x => x)
  obtain ⟨w, H', I', rv, b, rfl, q'⟩ := hv
  cases (show u = Value.bool b from rv)
  rw [Bool.bne_true] at q'
  exact wpAny_truthy_bool ⟨.bl (!b), H', I', rfl, q'⟩
/-- o[k] -/
def tGetO (C : Addr) (sp : Sp) (E : XK) (to ti : TE) : TE := fun σ H Q => to σ H fun y H1 => ti σ H1 fun x H2 => ∃ a dx fs, y = .ref a ∧ H2 a = some (.ins C dx fs) ∧ sp [.ref a, x] H2 Q E
theorem pe_getO {o i : Expr} {pos : Pos} {to ti : TE} (c : Ct X.prog X.w X.K X.mg X.base j C "__getitem__" [] sp) (hfn : ∀ f, PySem.W.isFn X.K (.ref f) = true → PySem.W.fnIn X.K f = true) (hr : Room (j + 1) X.A) (hG : X.A.guards = some []) (ho : PE X o to) (hi : PE X i ti)
    (hsl : ∀ (a : Addr) (v : Value), subscripted i true (.ref a) v = runValue (.builtin "lifetime.subscript" ⟨[.ref a, v], []⟩) := by (intro _ _; with_unfolding_all rfl)) : PE X (.Subscript o i pos) (tGetO C sp E0 to ti) := by
  refine ⟨fun pins s σ H Q I h => ?_⟩
  refine Subscript_ (thn (ho.run pins s σ H _ I h) fun u s1 ⟨y, H1, I1, r1, q1⟩ => thn (hi.run pins s1 σ H1 _ I1 q1) fun v s2 ⟨x, H2, I2, r2, a, dx, fs, ey, ha, q2⟩ => ?_)
  subst ey
  cases (show u = Value.ref a from r1)
  obtain ⟨f, fd, ps, ds, cl, hm, F, hb, hd⟩ := c.ex
  cases hd
  obtain ⟨ox, od, J⟩ := ins_at I2 ha
  obtain ⟨m, hF⟩ := I2.fr
  exact PySem.W.sub_K hF I2.ok.mod.kin J hm.at_ (hfn _ hm.fn) hm.fn (run_at (A := X.A.in1) (us := [.ref a, v]) (vs := [.ref a, x]) F hr.in1 hG rfl hb .nil I2 (.cons rfl (.cons r2 .nil)) q2) (hsl _ _)
/-- o == x -/
def rEqO (K : PySem.W.Frag) (C : Addr) (sp : Sp) (no : Bool) : R2 := fun x y H Q => ∃ a dx fs, x = .ref a ∧ H a = some (.ins C dx fs) ∧ ((∃ b dy gs, y = .ref b ∧ H b = some (.ins C dy gs)) ∨ ∃ t, TyX K H y t ∧ PySem.W.subIn K t (.ref C) = some false) ∧
  sp [.ref a, y] H (fun v H' => ∃ b, v = .bl b ∧ Q (.bl (b != no)) H') E0
theorem ty_own {x : V} {u : Value} (I : Inv X pins σ H s) (rx : RelV x u) (h : (∃ b dy gs, x = .ref b ∧ H b = some (.ins C dy gs)) ∨ ∃ t, TyX X.K H x t ∧ PySem.W.subIn X.K t (.ref C) = some false) : ∃ tb, PySem.W.Looks (model X.prog X.w) s.heap (typeOf u) tb ∧ PySem.W.notFirst X.K C tb = true := by
  rcases h with ⟨b, dy, gs, rfl, hb⟩ | ⟨t, ty, ht⟩
  · cases (show u = Value.ref b from rx)
    obtain ⟨ox, od, J⟩ := ins_at I hb
    exact ⟨_, J.type, by simp [PySem.W.notFirst]⟩
  · obtain ⟨P, Z, hp, _⟩ := kit_of I rx ty
    refine ⟨t, Z.ty _ _ I.kIn hp, ?_⟩
    unfold PySem.W.notFirst
    rw [ht]
    simp
theorem op_eqO (c : Ct X.prog X.w X.K X.mg X.base j C "__eq__" [] sp) (hr : Room j X.A) (hG : X.A.guards = some []) : OpR X (compareOp .Eq) (rEqO X.K C sp false) := by
  intro pins s σ H x y v u Q I rx ry h
  obtain ⟨a, dx, fs, rfl, ha, hy, q⟩ := h
  cases (show v = Value.ref a from rx)
  obtain ⟨f, fd, ps, ds, cl, hm, F, hb, hd⟩ := c.ex
  cases hd
  obtain ⟨ox, od, J⟩ := ins_at I ha
  obtain ⟨m, hF⟩ := I.fr
  obtain ⟨tb, L1, L2⟩ := ty_own I ry hy
  show wpAny (model X.prog X.w) X.A (richCompare .Eq (.ref a) u) (EP X pins σ Q) X.xe s
  refine PySem.W.cmp_K (op := .Eq) hr.units0 hF I.ok.mod.kin J L1 L2 hm.at_ hm.fn (wpAny_mono (run_at (A := X.A) (us := [.ref a, u]) (vs := [.ref a, y]) F hr hG rfl hb .nil I (.cons rfl (.cons ry .nil)) q) (fun r s' hv => ?_) fun _ _ x => x)
  obtain ⟨w, H', I', rv, b, rfl, q'⟩ := hv
  cases (show r = Value.bool b from rv)
  rw [Bool.bne_false] at q'
  exact ⟨.bl b, H', I', rfl, q'⟩
end
section
open PySem.W PySem.Calls
variable {prog : Program} {w : World} {A : Around} {E : Value → Shared → Prop} {s : Shared} {K : Frag} {x C L f : Addr} {h₀ : Heap} {m : Str → Option Value} {ox : Obj} {od : Option Obj} {b tb : Value}
theorem ifBound_B {M : Model} {name : Str} {i : String} {args : List Value} {Q : Option Value → Shared → Prop} (X : K.In s.heap) (I : InstAt s.heap x ox C od) (hs : findIn K (.ref C) name = some (some (.builtin i))) (hbd : bindSpecial (.builtin i) (.ref x) = pure (.builtin i, [.ref x]))
    (h : wpAny M A (call (.builtin i) (.ref x :: args)) (fun v => Q (some v)) E s) : wpAny M A (callSpecialIfBound? (.ref x) name args) Q E s := by
  simp only [callSpecialIfBound?, bindSpecialIfBound?]
  refine wpAny_holding (wpAny_bind (wpAny_bind (wpAny_bind (I.type.here ((looks_findIn X hs).here ?_)))))
  simp only [hbd]
  refine wpAny_bind (wpAny_askSetting (wpAny_ite ?_))
  have fin : wpAny M A (call (.builtin i) ([.ref x] ++ args) >>= fun v => pure (some v)) Q E s := wpAny_bind (wpAny_mono h (fun v s' h' => wpAny_pure h') fun _ _ h' => h')
  split
  · exact wpAny_bind (wpAny_pure (wpAny_pure (by exact fin)))
  · exact wpAny_tryCatch (wpAny_bind (wpAny_pure (wpAny_pure (by exact fin))))
theorem ne_K {Q : Value → Shared → Prop} (hu : A.units + 1 < cLine) (F : Fr h₀ L s.heap m) (X₀ : K.In h₀) (I : InstAt s.heap x ox C od) (hb : Looks (model prog w) s.heap (typeOf b) tb) (hn : notFirst K C tb = true)
    (hne : findIn K (.ref C) "__ne__" = some (some (.builtin "object.__ne__"))) (hob : subIn K (.ref C) (.type "object") = some true) (hs : findIn K (.ref C) "__eq__" = some (some (.ref f))) (hf : isFn K (.ref f) = true)
    (h : wpAny (model prog w) A.in1 (call (.ref f) [.ref x, b]) (fun v s' => ∃ r, v = .bool r ∧ Q (.bool (!r)) s') E s) : wpAny (model prog w) A (richCompare .NotEq (.ref x) b) Q E s := by
  have X := X₀.keeps F.keep
  have one : wpAny (model prog w) A (tryCompare (.ref x) "__ne__" b) (fun r s' => ∃ v, r = some v ∧ Q v s') E s := by
    unfold tryCompare
    refine wpAny_bind (ifBound_B X I hne (PySem.F.cmp_object.ne.bind _) (wpAny_call (codeAny_call_builtin PySem.F.cmp_object.ne.plain PySem.F.cmpEntry_ne (PySem.W.check_slot PySem.F.cmpKind_ne PySem.F.cmpSplit_ne (I.type.andThen (looks_subIn X hob)) (PySem.F.cmpArgs_ne _ _) ?_))))
    unfold Builtin.«object.__ne__»
    repeat (first | with_reducible refine wpAny_cRoomFor hu ?_ | (with_reducible refine ifBound_K X I hs hf ?_; refine wpAny_mono h (fun v s' hv => ?_) (fun _ _ e => e); obtain ⟨r, rfl, q⟩ := hv; refine wpAny_bind (wpAny_truthy_bool ?_)) | wp_step)
    exact ⟨_, rfl, q⟩
  unfold richCompare
  simp only [oneThing_ref]
  refine wpAny_holding (wpAny_bind (wpAny_cRoomFor (by omega) ?_))
  refine wpAny_bind (I.type.here (wpAny_bind (hb.here ?_)))
  split
  · rename_i q
    have e : subIn K tb (.ref C) = some false := by
      rcases Bool.or_eq_true_iff.mp hn with e | e
      · rw [beq_iff_eq.mp e] at q; simp at q
      · exact beq_iff_eq.mp e
    refine wpAny_bind ((looks_subIn X e).here ?_)
    simp only [Bool.false_eq_true, if_false]
    refine wpAny_bind (wpAny_mono one (fun r s' z => ?_) fun _ _ e => e)
    obtain ⟨v, rfl, hq⟩ := z
    exact wpAny_pure hq
  · refine wpAny_bind (wpAny_pure ?_)
    simp only [Bool.false_eq_true, if_false]
    refine wpAny_bind (wpAny_mono one (fun r s' z => ?_) fun _ _ e => e)
    obtain ⟨v, rfl, hq⟩ := z
    exact wpAny_pure hq
end
section
variable {X : Cx} {pins : List (Addr × Obj)} {σ : L2.St} {H : Hp} {s : Shared} {j k : Nat} {C : Addr} {sp : Sp}
theorem op_neO (c : Ct X.prog X.w X.K X.mg X.base j C "__eq__" [] sp) (hne : PySem.W.findIn X.K (.ref C) "__ne__" = some (some (.builtin "object.__ne__"))) (hob : PySem.W.subIn X.K (.ref C) (.type "object") = some true) (hr : Room (j + 1) X.A) (hG : X.A.guards = some []) : OpR X (compareOp .NotEq) (rEqO X.K C sp true) := by
  intro pins s σ H x y v u Q I rx ry h
  obtain ⟨a, dx, fs, rfl, ha, hy, q⟩ := h
  cases (show v = Value.ref a from rx)
  obtain ⟨f, fd, ps, ds, cl, hm, F, hb, hd⟩ := c.ex
  cases hd
  obtain ⟨ox, od, J⟩ := ins_at I ha
  obtain ⟨m, hF⟩ := I.fr
  obtain ⟨tb, L1, L2⟩ := ty_own I ry hy
  show wpAny (model X.prog X.w) X.A (richCompare .NotEq (.ref a) u) (EP X pins σ Q) X.xe s
  refine ne_K (by have := hr.un; omega) hF I.ok.mod.kin J L1 L2 hne hob hm.at_ hm.fn (wpAny_mono (run_at (A := X.A.in1) (us := [.ref a, u]) (vs := [.ref a, y]) F hr.in1 hG rfl hb .nil I (.cons rfl (.cons ry .nil)) q) (fun r s' hv => ?_) fun _ _ x => x)
  obtain ⟨w, H', I', rv, b, rfl, q'⟩ := hv
  cases (show r = Value.bool b from rv)
  rw [Bool.bne_true] at q'
  exact ⟨b, rfl, .bl (!b), H', I', rfl, q'⟩
end
end Tp
set_option Elab.async false
set_option linter.all false
set_option maxRecDepth 100000
set_option maxHeartbeats 4000000
/-! operators of an own class between two of its instances, its negative, its abs; a starred dict in a display; dicts of ints compared -/
namespace Tp
open PySem PySem.Spec PyProof.Rows L2
section
open PySem.W PySem.Calls
variable {prog : Program} {w : World} {A : Around} {E : Value → Shared → Prop} {s : Shared} {K : Frag} {x C L f : Addr} {h₀ : Heap} {m : Str → Option Value} {ox : Obj} {od : Option Obj} {b : Value}
theorem binC {op : Operator} {Q : Value → Shared → Prop} (F : Fr h₀ L s.heap m) (X₀ : K.In h₀) (I : InstAt s.heap x ox C od) (hb : Looks (model prog w) s.heap (typeOf b) (.ref C)) (hc : selfFirst K C = true)
    (hs : findIn K (.ref C) (PySem.dunder op.info.2) = some (some (.ref f))) (hf : isFn K (.ref f) = true)
    (h : wpAny (model prog w) A (call (.ref f) [.ref x, b]) (PySem.W.CmpBack Q) E s) : wpAny (model prog w) A (binaryOp op (.ref x) b) Q E s := by
  have X := X₀.keeps F.keep
  obtain ⟨cd, rest, hcd, hm⟩ := ksp_first hc
  rcases hi : op.info with ⟨sym, nm'⟩
  rw [hi] at hs
  dsimp only at hs
  have one := ksp_try X I hs hf h
  obtain ⟨hh, g, d, tt, os⟩ := s
  have L1 : Looks (model prog w) hh (typeOf (.ref x)) (.ref C) := I.type
  have L2 : Looks (model prog w) hh (typeOf b) (.ref C) := hb
  have L3 : Looks (model prog w) hh (fillsNumberSlot (.ref C) nm') true := fills_K X hcd hm hs
  simp only [binaryOp, hi]
  refine wpAny_holding (wpAny_bind ?_)
  unfold binaryOp1
  refine wpAny_bind (L1.at (wpAny_bind (L2.at (wpAny_bind (L3.at ?_)))))
  simp only [beq_self_eq_true, if_true]
  ksp_lk
  refine wpAny_mono one (fun r s' hr' => ?_) fun _ _ e => e
  obtain ⟨v, rfl, hq⟩ := hr'
  ksp_lk
  exact hq
theorem abs_K {Q : Value → Shared → Prop} (F : Fr h₀ L s.heap m) (X₀ : K.In h₀) (I : InstAt s.heap x ox C od) (hs : findIn K (.ref C) "__abs__" = some (some (.ref f))) (hf : isFn K (.ref f) = true)
    (h : wpAny (model prog w) A.in1 (call (.ref f) [.ref x]) Q E s) : wpAny (model prog w) A (call (.builtin "abs") [.ref x]) Q E s := by
  refine Calls.call_function_entry PyProof.Rows.kind_abs PyProof.Rows.plain_abs PyProof.Rows.entry_abs (PyProof.Rows.args_abs _) ?_
  unfold Builtin.«abs»
  refine wpAny_bind (m := oneArg "abs" _) (wpAny_pure ?_)
  refine wpAny_bind (m := callSpecial? (.ref x) (Str.ofString "__abs__")) (special_fn (X₀.keeps F.keep) I hs (beq_iff_eq.mp hf) (wpAny_mono h (fun r s' hr => ?_) fun _ _ y => y))
  exact wpAny_pure ⟨_, rfl, hr⟩
end
section
variable {X : Cx} {pins : List (Addr × Obj)} {σ : L2.St} {H : Hp} {s : Shared} {j k : Nat} {C : Addr} {sp : Sp}
/-- o op o' -/
def rBinO (C : Addr) (sp : Sp) : R2 := fun x y H Q => ∃ a dx fs b dy gs, x = .ref a ∧ H a = some (.ins C dx fs) ∧ y = .ref b ∧ H b = some (.ins C dy gs) ∧ sp [.ref a, .ref b] H (fun v H' => (∃ p, v = .ref p) ∧ Q v H') E0
theorem op_binO {op : Operator} {n : Str} (c : Ct X.prog X.w X.K X.mg X.base j C n [] sp) (hsf : PySem.W.selfFirst X.K C = true) (hn : PySem.dunder op.info.2 = n) (hr : Room j X.A) (hG : X.A.guards = some []) : OpR X (binaryOp op) (rBinO C sp) := by
  subst hn
  intro pins s σ H x y v u Q I rx ry h
  obtain ⟨a, dx, fs, b, dy, gs, rfl, ha, rfl, hb0, q⟩ := h
  cases (show v = Value.ref a from rx)
  cases (show u = Value.ref b from ry)
  obtain ⟨f, fd, ps, ds, cl, hm, F, hb, hd⟩ := c.ex
  cases hd
  obtain ⟨ox, od, J⟩ := ins_at I ha
  obtain ⟨oy, oe, J2⟩ := ins_at I hb0
  obtain ⟨m, hF⟩ := I.fr
  refine binC hF I.ok.mod.kin J J2.type hsf hm.at_ hm.fn (wpAny_mono (run_at (A := X.A) (us := [.ref a, .ref b]) (vs := [.ref a, .ref b]) F hr hG rfl hb .nil I (.cons rfl (.cons rfl .nil)) q) (fun r s' hv => ?_) fun _ _ x => x)
  obtain ⟨v, H', I', rv, ⟨p, rfl⟩, q'⟩ := hv
  cases (show r = Value.ref p from rv)
  exact ⟨.ref p, H', I', rfl, q'⟩
/-- -o -/
def rNegO (C : Addr) (sp : Sp) : V → Hp → VK → Prop := fun x H Q => ∃ a dx fs, x = .ref a ∧ H a = some (.ins C dx fs) ∧ sp [.ref a] H Q E0
theorem un_negO (c : Ct X.prog X.w X.K X.mg X.base j C "__neg__" [] sp) (hr : Room j X.A) (hG : X.A.guards = some []) : UnR X (unaryOp .USub) (rNegO C sp) := by
  intro pins s σ H x v Q I rx h
  obtain ⟨a, dx, fs, rfl, ha, q⟩ := h
  cases (show v = Value.ref a from rx)
  obtain ⟨f, fd, ps, ds, cl, hm, F, hb, hd⟩ := c.ex
  cases hd
  obtain ⟨ox, od, J⟩ := ins_at I ha
  obtain ⟨m, hF⟩ := I.fr
  exact PySem.W.ksp_neg hF I.ok.mod.kin J hm.at_ hm.fn (run_at (A := X.A) (us := [.ref a]) (vs := [.ref a]) F hr hG rfl hb .nil I (.cons rfl .nil) q)
/-- abs(o) -/
def rAbsO (C : Addr) (sp : Sp) : List V → Hp → VK → Prop := fun xs H Q => ∃ a dx fs, xs = [.ref a] ∧ H a = some (.ins C dx fs) ∧ sp [.ref a] H Q E0
theorem call_absO (c : Ct X.prog X.w X.K X.mg X.base j C "__abs__" [] sp) (hr : Room (j + 1) X.A) (hG : X.A.guards = some []) : CallR X (.builtin "abs") (rAbsO C sp) := by
  intro pins s σ H xs us Q I r h
  obtain ⟨a, dx, fs, rfl, ha, q⟩ := h
  obtain ⟨u, rfl, r1⟩ := vals1 r
  cases (show u = Value.ref a from r1)
  obtain ⟨f, fd, ps, ds, cl, hm, F, hb, hd⟩ := c.ex
  cases hd
  obtain ⟨ox, od, J⟩ := ins_at I ha
  obtain ⟨m, hF⟩ := I.fr
  exact abs_K hF I.ok.mod.kin J hm.at_ hm.fn (run_at (A := X.A.in1) (us := [.ref a]) (vs := [.ref a]) F hr.in1 hG rfl hb .nil I (.cons rfl .nil) q)
end
/-! ### *d in a display -/
def tStarD (te : TE) (t : TA) : TA := fun σ H Q => te σ H fun x H1 => ∃ d kvs, x = V.ref d ∧ Rd H1 d (.dK kvs) ∧ t σ H1 fun ys H2 => Q ((kvs.map fun kv => kV kv.1) ++ ys) H2
section
variable {X : Cx} {pins : List (Addr × Obj)} {σ : L2.St} {H : Hp} {s : Shared}
theorem star_dict {d : Addr} {kvs : List (Key × V)} {E : Value → Shared → Prop} {Q : List Value → Shared → Prop} (hc : X.calm = true) (I : Inv X pins σ H s) (h : Rd H d (.dK kvs)) (hQ : ∀ us s', Inv X pins σ H s' → Vals (kvs.map fun kv => kV kv.1) us → Q us s') : PySem.W.StarOf (model X.prog X.w) X.A E (.ref d) Q s := by
  obtain ⟨z, lo, vs, rel, dd⟩ := dk_rd I.hok h
  obtain ⟨ep, hat⟩ := dd.dictAt
  have ek : (kvs.map fun kv => kV kv.1) = vs.map fun p => kV p.1 := by
    have e := congrArg (List.map kV) rel.keys
    rw [List.map_map, List.map_map] at e
    exact e
  have z' : wpAny (model X.prog X.w) X.A (collect (.ref d)) Q E s := by
    refine PySem.W.kdu_collect (PySem.W.kdl_dict (knd := mixKind X.prog X.w) (kvs := vs) (ep := ep) lo) (I.ok.hd hc) hat (by rw [← rel.length]; exact z) fun h' tk acc hk hacc => ?_
    have hv : Vals (vs.map fun p => kV p.1) acc.toList := keys_at (by rw [Array.length_toList]; exact hacc.1) fun j v e => hacc.2 j v (by rw [← Array.getElem?_toList]; exact e)
    exact hQ _ _ (I.kept hk) (by rw [ek]; exact hv)
  unfold PySem.W.StarOf notIterableAtAll
  exact wpAny_bind (wpAny_specialOf dd.typeIs F.slot_dict_iter.lookup (wpAny_pure ⟨rfl, z'⟩))
theorem pa_starD {e : Expr} {es : List Expr} {te : TE} {t : TA} {p : Pos} (hc : X.calm = true) (he : PE X e te) (hr : PA X es t) (hs : starEach (.Starred e p :: es) X.env = (true, eval e X.env) :: starEach es X.env := by rfl) : PA X (.Starred e p :: es) (tStarD te t) := by
  refine ⟨fun pos pins s σ H Q I h => ?_⟩
  refine PySem.W.items_star (thn (he.run pins s σ H _ I h) fun v s1 ⟨y, H1, I1, ry, a, kvs, ey, hx, q⟩ => ?_) hs
  subst ey
  obtain rfl : v = Value.ref a := ry
  refine star_dict hc I1 hx fun us s2 I2 rv => ?_
  exact thn (hr.run pos pins s2 σ H1 _ I2 q) fun ws s3 ⟨vs, H3, I3, r3, q3⟩ => ⟨_ ++ vs, H3, I3, rv.append r3, q3⟩
end
/-! ### dicts of texts and ints -/
def kvI (p : Str × Int) : Key × V := (Sum.inr p.1, V.int p.2)
def lk (ls : List (Str × Int)) (n : Str) : Option Int := (ls.find? fun p => decide (p.1 = n)).map (·.2)
theorem lk_nil {n : Str} : lk [] n = none := rfl
theorem lk_cons {p : Str × Int} {ls : List (Str × Int)} {n : Str} : lk (p :: ls) n = if p.1 = n then some p.2 else lk ls n := by
  unfold lk
  rw [List.find?_cons]
  by_cases h : p.1 = n
  · rw [if_pos h, decide_eq_true h]
    rfl
  · rw [if_neg h, decide_eq_false h]
theorem valV_kvI {ls : List (Str × Int)} {n : Str} : valV (ls.map kvI) (Sum.inr n : Key) = (lk ls n).map V.int := by
  induction ls with
  | nil => rfl
  | cons p ls ih =>
    rw [lk_cons, List.map_cons]
    by_cases h : p.1 = n
    · rw [if_pos h, ← h]
      exact valV_pos (p := kvI p) rfl
    · rw [if_neg h, valV_neg (p := kvI p) (fun z => h (Sum.inr.inj z)), ih]
def eqI (as bs : List (Str × Int)) : Bool := as.length == bs.length && as.all fun p => decide (lk bs p.1 = some p.2)
theorem hits_int {A : Around} {s : Shared} {bs : List (Str × Int)} {vb : List (Key × Value)} (rb : KV (bs.map kvI) vb) : ∀ {as : List (Str × Int)} {va : List (Key × Value)}, KV (as.map kvI) va →
    PySem.W.KeqHits A s vb va (as.all fun p => decide (lk bs p.1 = some p.2))
  | [], va, ra => by
    cases ra
    exact .nil
  | p :: as, va, ra => by
    cases ra with
    | cons h t =>
      rename_i q qs
      obtain ⟨h1, t0, h2⟩ := h
      obtain ⟨k, v⟩ := q
      have h1' : (Sum.inr p.1 : Key) = k := h1
      have h2' : v = Value.int p.2 t0 := h2
      subst h1' h2'
      have rr : RelO (valV (bs.map kvI) (Sum.inr p.1 : Key)) (valueAt vb (Sum.inr p.1 : Key)) := rb.val _
      rw [valV_kvI] at rr
      rw [List.all_cons]
      cases e : lk bs p.1 with
      | none =>
        rw [e] at rr
        have hn : valueAt vb (Sum.inr p.1 : Key) = none := by
          cases e2 : valueAt vb (Sum.inr p.1 : Key) with
          | none => rfl
          | some y => rw [e2] at rr; exact (show False from rr).elim
        rw [decide_eq_false (by intro z; cases z), Bool.false_and]
        exact .miss hn
      | some i =>
        rw [e] at rr
        obtain ⟨y, hy, t1, ry⟩ := rr.some_of
        have ry' : y = Value.int i t1 := ry
        subst ry'
        have e3 : decide (some i = some p.2) = (p.2 == i) := by
          by_cases z : p.2 = i
          · rw [z]; simp
          · rw [decide_eq_false (fun w => z (Option.some.inj w).symm)]
            exact (beq_eq_false_iff_ne.mpr z).symm
        rw [e3]
        exact .hit hy (SeqAt.EqAt.int_int p.2 t0 i t1) (hits_int rb t)
section
variable {X : Cx}
def rEqDI (no : Bool) : R2 := fun x y H Q => ∃ a b as bs, x = .ref a ∧ y = .ref b ∧ H a = some (.dK (as.map kvI)) ∧ H b = some (.dK (bs.map kvI)) ∧ Q (.bl (eqI as bs != no)) H
theorem op_eqDI (hu : X.A.units < cLine) : OpR X (compareOp .Eq) (rEqDI false) := by
  intro pins s σ H x y v u Q I rx ry h
  obtain ⟨a, b, as, bs, rfl, rfl, ea, eb, q⟩ := h
  obtain rfl : v = Value.ref a := rx
  obtain rfl : u = Value.ref b := ry
  obtain ⟨_, ya, va, ra, da⟩ := (show ObjOk X.prog X.w H s.heap a (.dK (as.map kvI)) from I.hok a _ ea)
  obtain ⟨_, yb, vb, rb, db⟩ := (show ObjOk X.prog X.w H s.heap b (.dK (bs.map kvI)) from I.hok b _ eb)
  have la : va.length = as.length := by rw [← ra.length, List.length_map]
  have lb : vb.length = bs.length := by rw [← rb.length, List.length_map]
  rw [Bool.bne_false] at q
  exact PySem.W.keq_eq (knd := mixKind X.prog X.w) ya yb da db hu (fun _ => hits_int rb ra) (fin_bl I q (by rw [la, lb]; rfl))
theorem op_neDI (hu : X.A.units < cLine) : OpR X (compareOp .NotEq) (rEqDI true) := by
  intro pins s σ H x y v u Q I rx ry h
  obtain ⟨a, b, as, bs, rfl, rfl, ea, eb, q⟩ := h
  obtain rfl : v = Value.ref a := rx
  obtain rfl : u = Value.ref b := ry
  obtain ⟨_, ya, va, ra, da⟩ := (show ObjOk X.prog X.w H s.heap a (.dK (as.map kvI)) from I.hok a _ ea)
  obtain ⟨_, yb, vb, rb, db⟩ := (show ObjOk X.prog X.w H s.heap b (.dK (bs.map kvI)) from I.hok b _ eb)
  have la : va.length = as.length := by rw [← ra.length, List.length_map]
  have lb : vb.length = bs.length := by rw [← rb.length, List.length_map]
  rw [Bool.bne_true] at q
  exact PySem.W.keq_ne (knd := mixKind X.prog X.w) ya yb da db hu (fun _ => hits_int rb ra) (fin_bl I q (by rw [la, lb]; rfl))
end
end Tp
set_option Elab.async false
set_option linter.all false
set_option maxRecDepth 100000
set_option maxHeartbeats 4000000
/-! rows of lags: dicts of names and ints -/
namespace T31
open PySem PySem.Spec PyProof.Rows L2 Tp
def six : List Str := ["a", "aa", "b1", "g0", "zzzzzzzz", "x"]
theorem sub_len {α : Type} [DecidableEq α] : ∀ {l m : List α}, l.Nodup → (∀ x ∈ l, x ∈ m) → l.length ≤ m.length
  | [], _, _, _ => Nat.zero_le _
  | x :: l, m, h, hs => by
    rw [List.nodup_cons] at h
    have hx := hs x List.mem_cons_self
    have ih := sub_len (m := m.erase x) h.2 fun y hy => (List.mem_erase_of_ne (fun z => h.1 (by rw [← z]; exact hy))).mpr (hs y (List.mem_cons_of_mem _ hy))
    rw [List.length_erase_of_mem hx] at ih
    have : 0 < m.length := List.length_pos_of_mem hx
    rw [List.length_cons]
    omega
/-- names once each, of the six -/
structure OkL (ls : List (Str × Int)) : Prop where
  nd : (ls.map (·.1)).Nodup
  six : ∀ n ∈ ls.map (·.1), n ∈ six
theorem OkL.len {ls : List (Str × Int)} (h : OkL ls) : ls.length ≤ 6 := by
  have := sub_len h.nd h.six
  rwa [List.length_map] at this
theorem okL_nil : OkL [] := ⟨List.nodup_nil, fun _ h => absurd h List.not_mem_nil⟩
def NzL (ls : List (Str × Int)) : Prop := ∀ p ∈ ls, p.2 ≠ 0
def val (ls : List (Str × Int)) (n : Str) : Int := (lk ls n).getD 0
theorem lk_mem {ls : List (Str × Int)} {n : Str} {i : Int} (h : lk ls n = some i) : (n, i) ∈ ls := by
  induction ls with
  | nil => cases h
  | cons p ls ih =>
    rw [lk_cons] at h
    by_cases e : p.1 = n
    · rw [if_pos e] at h
      obtain ⟨a, b⟩ := p
      cases h
      cases e
      exact List.mem_cons_self
    · rw [if_neg e] at h
      exact List.mem_cons_of_mem _ (ih h)
theorem lk_none {ls : List (Str × Int)} {n : Str} (h : n ∉ ls.map (·.1)) : lk ls n = none := by
  cases e : lk ls n with
  | none => rfl
  | some i => exact absurd (List.mem_map.mpr ⟨_, lk_mem e, rfl⟩) h
theorem lk_of_mem {ls : List (Str × Int)} (nd : (ls.map (·.1)).Nodup) {p : Str × Int} (h : p ∈ ls) : lk ls p.1 = some p.2 := by
  induction ls with
  | nil => cases h
  | cons q ls ih =>
    rw [List.map_cons, List.nodup_cons] at nd
    rw [lk_cons]
    rcases List.mem_cons.mp h with e | e
    · rw [e, if_pos rfl]
    · rw [if_neg fun z => nd.1 (List.mem_map.mpr ⟨p, e, z.symm⟩)]
      exact ih nd.2 e
theorem lk_some_iff {ls : List (Str × Int)} {n : Str} : (lk ls n).isSome = true ↔ n ∈ ls.map (·.1) := by
  refine ⟨fun h => ?_, fun h => ?_⟩
  · obtain ⟨i, e⟩ := Option.isSome_iff_exists.mp h
    exact List.mem_map.mpr ⟨_, lk_mem e, rfl⟩
  · cases e : lk ls n with
    | some i => rfl
    | none =>
      obtain ⟨p, hp, rfl⟩ := List.mem_map.mp h
      induction ls with
      | nil => cases hp
      | cons q ls ih =>
        rw [lk_cons] at e
        by_cases z : q.1 = p.1
        · rw [if_pos z] at e
          cases e
        · rw [if_neg z] at e
          rcases List.mem_cons.mp hp with w | w
          · exact absurd (by rw [w]) z
          · exact ih w (List.mem_map.mpr ⟨p, w, rfl⟩) e
theorem val_pos {ls : List (Str × Int)} {n : Str} {i : Int} (h : lk ls n = some i) : val ls n = i := by
  unfold val
  rw [h]
  rfl
theorem val_neg {ls : List (Str × Int)} {n : Str} (h : lk ls n = none) : val ls n = 0 := by
  unfold val
  rw [h]
  rfl
theorem val_out {ls : List (Str × Int)} {n : Str} (h : n ∉ ls.map (·.1)) : val ls n = 0 := val_neg (lk_none h)
theorem nz_lk {ls : List (Str × Int)} {n : Str} (nz : NzL ls) : lk ls n = if val ls n = 0 then none else some (val ls n) := by
  cases e : lk ls n with
  | none => rw [val_neg e, if_pos rfl]
  | some i =>
    have : i ≠ 0 := nz _ (lk_mem e)
    rw [val_pos e, if_neg this]
/-- one entry stored -/
def putI (ls : List (Str × Int)) (n : Str) (i : Int) : List (Str × Int) := if (lk ls n).isSome = true then ls.map (fun p => if p.1 = n then (p.1, i) else p) else ls ++ [(n, i)]
theorem putK_I {ls : List (Str × Int)} {n : Str} {i : Int} : putK (ls.map kvI) (Sum.inr n : Key) (V.int i) = (putI ls n i).map kvI := by
  unfold putK putI
  have e : ((ls.map kvI).any fun kv => decide (kv.1 = (Sum.inr n : Key))) = (lk ls n).isSome := by
    rw [valV_any, valV_kvI, Option.isSome_map]
  rw [e]
  split
  · rw [List.map_map, List.map_map]
    refine List.map_congr_left fun p _ => ?_
    show (if (Sum.inr p.1 : Key) = Sum.inr n then _ else _) = kvI (if p.1 = n then _ else _)
    by_cases z : p.1 = n
    · rw [if_pos z, if_pos (by rw [z])]
      rfl
    · rw [if_neg z, if_neg fun w => z (Sum.inr.inj w)]
  · rw [List.map_append]
    rfl
theorem keys_put {ls : List (Str × Int)} {n : Str} {i : Int} : (putI ls n i).map (·.1) = if n ∈ ls.map (·.1) then ls.map (·.1) else ls.map (·.1) ++ [n] := by
  unfold putI
  by_cases h : n ∈ ls.map (·.1)
  · rw [if_pos h, if_pos (lk_some_iff.mpr h), List.map_map]
    refine List.map_congr_left fun p _ => ?_
    show (if p.1 = n then (p.1, i) else p).1 = p.1
    split <;> rfl
  · rw [if_neg h, if_neg (fun z => h (lk_some_iff.mp z)), List.map_append]
    rfl
theorem lk_put {ls : List (Str × Int)} {n m : Str} {i : Int} : lk (putI ls n i) m = if m = n then some i else lk ls m := by
  have e1 : (valV ((putI ls n i).map kvI) (Sum.inr m : Key)) = (lk (putI ls n i) m).map V.int := valV_kvI
  have inj : ∀ {a b : Option Int}, a.map V.int = b.map V.int → a = b := by
    intro a b h
    cases a <;> cases b <;> simp at h ⊢
    exact h
  apply inj
  rw [← e1, ← putK_I, valV_put]
  by_cases z : m = n
  · rw [z, if_pos rfl, if_pos rfl]
    rfl
  · rw [if_neg z, if_neg fun w => z (Sum.inr.inj w), valV_kvI]
theorem okL_put {ls : List (Str × Int)} {n : Str} {i : Int} (h : OkL ls) (hn : n ∈ six) : OkL (putI ls n i) := by
  refine ⟨?_, ?_⟩
  · rw [keys_put]
    split
    · exact h.nd
    · rename_i z
      exact List.nodup_append.mpr ⟨h.nd, by simp, fun a ha b hb => by rw [List.mem_singleton.mp hb]; exact fun e => z (by rw [← e]; exact ha)⟩
  · rw [keys_put]
    split
    · exact h.six
    · intro m hm
      rcases List.mem_append.mp hm with z | z
      · exact h.six m z
      · rw [List.mem_singleton.mp z]
        exact hn
/-- what a walk over names has built -/
structure Bld (ls : List (Str × Int)) (ks : List Str) (c : Str → Bool) (g : Str → Int) : Prop where
  ok : OkL ls
  at_ : ∀ m, lk ls m = if m ∈ ks ∧ c m = true then some (g m) else none
section
variable {ls : List (Str × Int)} {ks : List Str} {c : Str → Bool} {g : Str → Int} {n : Str}
theorem bld_nil : Bld [] [] c g := ⟨okL_nil, fun m => by rw [if_neg (fun z => absurd z.1 List.not_mem_nil)]; rfl⟩
theorem Bld.add (b : Bld ls ks c g) (hn : n ∈ six) (hc : c n = true) : Bld (putI ls n (g n)) (ks ++ [n]) c g := by
  refine ⟨okL_put b.ok hn, fun m => ?_⟩
  rw [lk_put]
  by_cases z : m = n
  · rw [z, if_pos rfl, if_pos ⟨by simp, hc⟩]
  · rw [if_neg z, b.at_]
    have e : (m ∈ ks ++ [n] ∧ c m = true) ↔ (m ∈ ks ∧ c m = true) := by
      simp [z]
    simp only [e]
theorem Bld.skip (b : Bld ls ks c g) (hc : c n = false) : Bld ls (ks ++ [n]) c g := by
  refine ⟨b.ok, fun m => ?_⟩
  rw [b.at_]
  have e : (m ∈ ks ++ [n] ∧ c m = true) ↔ (m ∈ ks ∧ c m = true) := by
    refine ⟨fun h => ⟨?_, h.2⟩, fun h => ⟨List.mem_append_left _ h.1, h.2⟩⟩
    rcases List.mem_append.mp h.1 with z | z
    · exact z
    · rw [List.mem_singleton.mp z, hc] at h
      cases h.2
  simp only [e]
theorem Bld.val (b : Bld ls ks c g) (h0 : ∀ m, (m ∉ ks ∨ c m = false) → g m = 0) (m : Str) : val ls m = g m := by
  unfold T31.val
  rw [b.at_]
  by_cases z : m ∈ ks ∧ c m = true
  · rw [if_pos z]
    rfl
  · rw [if_neg z, h0 m ?_]
    · rfl
    · by_cases w : m ∈ ks
      · exact .inr (Bool.eq_false_iff.mpr fun v => z ⟨w, v⟩)
      · exact .inl w
end
/-- the same ints at all names: the same dict -/
theorem keys_perm {as bs : List (Str × Int)} (ha : OkL as) (hb : OkL bs) (na : NzL as) (nb : NzL bs) (h : ∀ n, val as n = val bs n) : (as.map (·.1)).Perm (bs.map (·.1)) := by
  refine (List.perm_ext_iff_of_nodup ha.nd hb.nd).mpr fun n => ?_
  rw [← lk_some_iff, ← lk_some_iff, nz_lk na, nz_lk nb, h n]
theorem eqI_of {as bs : List (Str × Int)} (ha : OkL as) (hb : OkL bs) (na : NzL as) (nb : NzL bs) : eqI as bs = true ↔ ∀ n, val as n = val bs n := by
  unfold eqI
  rw [Bool.and_eq_true, beq_iff_eq, List.all_eq_true]
  refine ⟨fun ⟨hl, h⟩ => ?_, fun h => ⟨?_, fun p hp => ?_⟩⟩
  · have h' : ∀ p ∈ as, lk bs p.1 = some p.2 := fun p hp => of_decide_eq_true (h p hp)
    have sub : ∀ n ∈ as.map (·.1), n ∈ bs.map (·.1) := by
      intro n hn
      obtain ⟨p, hp, rfl⟩ := List.mem_map.mp hn
      exact lk_some_iff.mp (by rw [h' p hp]; rfl)
    intro n
    by_cases z : n ∈ as.map (·.1)
    · obtain ⟨p, hp, rfl⟩ := List.mem_map.mp z
      rw [val_pos (h' p hp), val_pos (lk_of_mem ha.nd hp)]
    · rw [val_out z]
      by_cases w : n ∈ bs.map (·.1)
      · -- a name of bs that as has not: then bs is longer
        have nd : (n :: as.map (·.1)).Nodup := List.nodup_cons.mpr ⟨z, ha.nd⟩
        have := sub_len nd (m := bs.map (·.1)) fun x hx => by
          rcases List.mem_cons.mp hx with e | e
          · rw [e]; exact w
          · exact sub x e
        rw [List.length_cons, List.length_map, List.length_map] at this
        omega
      · rw [val_out w]
  · have := (keys_perm ha hb na nb h).length_eq
    rwa [List.length_map, List.length_map] at this
  · refine decide_eq_true ?_
    have e := lk_of_mem ha.nd hp
    rw [nz_lk nb, ← h p.1, val_pos e, if_neg (na p hp)]
theorem eqI_val {as bs : List (Str × Int)} (ha : OkL as) (hb : OkL bs) (na : NzL as) (nb : NzL bs) (h : ∀ n, val as n = val bs n) : eqI as bs = true := (eqI_of ha hb na nb).mpr h
theorem rising_all : ∀ {l : List Str} {p : Str}, risingS p l = true → (p :: l).Pairwise (fun a b => a.cps.toList ≤ b.cps.toList)
  | [], p, _ => List.pairwise_singleton _ _
  | x :: r, p, h => by
    unfold risingS at h
    rw [Bool.and_eq_true] at h
    have ih := rising_all h.2
    have h1 : p.cps.toList ≤ x.cps.toList := by
      have := h.1
      rw [ltCps_eq] at this
      simpa using this
    refine List.pairwise_cons.mpr ⟨fun y hy => ?_, ih⟩
    rcases List.mem_cons.mp hy with e | e
    · rw [e]; exact h1
    · exact List.le_trans h1 ((List.pairwise_cons.mp ih).1 y e)
theorem sortedS_all {l : List Str} (h : sortedS l = true) : l.Pairwise (fun a b => a.cps.toList ≤ b.cps.toList) := by
  cases l with
  | nil => exact List.Pairwise.nil
  | cons x r => exact rising_all h
/-- sorted names of both are the same -/
theorem sorted_eq {xs ys as bs : List Str} (h1 : xs.Perm as) (h2 : ys.Perm bs) (h : as.Perm bs) (s1 : sortedS xs = true) (s2 : sortedS ys = true) : xs = ys := by
  refine List.Perm.eq_of_pairwise (fun a b _ _ l1 l2 => ?_) (sortedS_all s1) (sortedS_all s2) (h1.trans (h.trans h2.symm))
  exact TL.ext_tl (List.le_antisymm l1 l2)
end T31
set_option Elab.async false
set_option linter.all false
set_option maxRecDepth 100000
set_option maxHeartbeats 4000000
namespace T31
open PySem PySem.Spec PyProof.Rows L2 Tp
def top (i : Nat) : Stmt := PySem.Challenge.pw_toldpast_k31_rows_of_lags.main.body.getD i (.Pass ⟨0, 0, 0, 0⟩)
abbrev sCell : Stmt := top 15
abbrev sBox : Stmt := top 16
abbrev sTake : Stmt := top 17
section
variable {P : Program} {w : World} {K : PySem.W.Frag} {mg : Str → Option Value} {base : Heap} {f : Addr} {fd : FuncData}
theorem scCell : FnScope ["_law_script", "_law_index"] ["_law_script", "_law_index"] (defScope sCell) := ⟨rfl, rfl, rfl, by decide +kernel, rfl, by decide +kernel, by decide +kernel⟩
theorem ok_cell (F : Fun K "_law_cell" "_law_cell" sCell f fd) (mL : mg "len" = none) : FnG P w K mg base CX0 1 f fd ["_law_script", "_law_index"] (spCellT K) := by
  refine FunG.ok F scCell (fun vs H Q E h => ?_) (fun cdv B out s H vs Q E hr hG h => ?_)
  · obtain ⟨a, ns, k, rfl, _⟩ := h
    rfl
  · obtain ⟨a, ns, k, rfl, hs, hl, hk, q⟩ := h
    refine ⟨_, pss_cons (ps_if (pt_cmpR op_lt (pv 1) (pe_callB call_len (by rfl) mL PySem.boot_len (pa_cons (pv 0) pa_nil)) (nomark _)) (pss_one (ps_ret (pe_ix ix_list (pv 0) (pv 1) fun _ _ => rfl))) pss_nil)
      (pss_one (ps_ret (pe_op op_add (pe_op op_mul pe_int (pv 1)) pe_int))), ?_⟩
    refine ⟨_, rfl, _, rfl, _, _, rfl, .inl ⟨_, hs, rfl⟩, _, _, rfl, rfl, _, rfl, ?_⟩
    refine ite2 (fun hlt => ?_) (fun hge => ?_)
    · have hlt' := of_decide_eq_true hlt
      rw [List.length_map] at hlt'
      have hkl : k < ns.length := by omega
      refine ⟨_, rfl, _, rfl, a, _, _, .int (ns[k]), rfl, rfl, hs, atI_nat ?_, q _⟩
      rw [List.getElem?_map, List.getElem?_eq_getElem hkl]
      rfl
    · refine ⟨_, rfl, _, _, rfl, rfl, .inl ⟨by decide, by decide⟩, _, _, rfl, rfl, q _⟩
theorem scBox : FnScope ["_law_cell_here"] ["_law_cell_here"] (defScope sBox) := ⟨rfl, rfl, rfl, by decide +kernel, rfl, by decide +kernel, by decide +kernel⟩
theorem ok_box (F : Fun K "_law_bag" "_law_bag" sBox f fd) (mM : mg "max" = none) : FnG P w K mg base CX0 1 f fd ["_law_cell_here"] spBox := by
  refine FunG.ok F scBox (fun vs H Q E h => ?_) (fun cdv B out s H vs Q E hr hG h => ?_)
  · obtain ⟨z, rfl, _⟩ := h
    rfl
  · obtain ⟨z, rfl, q⟩ := h
    refine ⟨_, pss_one (ps_ret (pe_lst (pa_cons (pe_callB (call_max2 rfl) (by rfl) mM (by decide +kernel) (pa_cons pe_int (pa_cons (pe_op op_sub (pv 0) (pe_op op_pow pe_int pe_int)) pa_nil)))
      (pa_cons (pe_op op_mod (pv 0) pe_int) (pa_cons pe_int pa_nil))))), ?_⟩
    refine ⟨_, rfl, _, _, rfl, rfl, ⟨by decide, by decide, by decide⟩, _, _, rfl, rfl, _, _, rfl, _, rfl, _, _, rfl, rfl, (by decide : (0:Int) < 2147483629), ?_⟩
    refine ⟨(by show 3 ≤ sizeLine; decide), fun p hp => ?_⟩
    refine q p _ hp ⟨_, _, _, upd_same, ?_, Int.emod_nonneg _ (by decide), Int.emod_lt_of_pos _ (by decide), by decide, by decide⟩ Keep.put
    split <;> omega
theorem scTake : FnScope ["_law_bag_here", "_law_many", "_law_digit", "_law_mixed"] ["_law_bag_here", "_law_many"] (defScope sTake) := ⟨rfl, rfl, rfl, by decide +kernel, rfl, by decide +kernel, by decide +kernel⟩
theorem pow_small {x : Int} {b : Nat} (h0 : 0 ≤ x) (h : x < 2 ^ 63) : x.natAbs < 2 ^ 64 := by omega
theorem ok_take (F : Fun K "_law_take" "_law_take" sTake f fd) : FnG P w K mg base CX0 1 f fd ["_law_bag_here", "_law_many"] spTake := by
  refine FunG.ok F scTake (fun vs H Q E h => ?_) (fun cdv B out s H vs Q E hr hG h => ?_)
  · obtain ⟨p, m, n, rfl, _⟩ := h
    rfl
  · obtain ⟨p, m, n, rfl, ⟨a, b, c, hp, ha, hb, hb2, hc, hcn⟩, hm, hm2, hn, q⟩ := h
    refine ⟨_, pss_cons (ps_if (pt_cmpR op_gt (pe_ix ix_list (pv 0) pe_int fun _ _ => rfl) pe_int (nomark _))
        (pss_cons (ps_set (i := 2) scTake.nd rfl (.inl rfl) (pe_op op_mod (pe_ix ix_list (pv 0) pe_int fun _ _ => rfl) (pv 1)))
          (pss_cons (ps_asg (pe_op op_fdivW (pe_ix ix_list (pv 0) pe_int fun _ _ => rfl) (pv 1)) (pg_sub (pv 0) pe_int set_list))
            (pss_one (ps_ret (pv 2))))) pss_nil)
      (pss_cons (ps_asg (pe_op op_add (pe_ix ix_list (pv 0) pe_int fun _ _ => rfl) pe_int) (pg_sub (pv 0) pe_int set_list))
        (pss_cons (ps_set (i := 3) scTake.nd rfl (.inl rfl) (pe_op op_mod (pe_op op_pow (pe_op op_add (pe_op op_add (pe_ix ix_list (pv 0) pe_int fun _ _ => rfl) (pe_op op_mul pe_int (pe_ix ix_list (pv 0) pe_int fun _ _ => rfl))) pe_int) pe_int) pe_int))
          (pss_cons (ps_set (i := 3) scTake.nd rfl (.inl rfl) (pe_op op_mod (pe_op op_pow (pe_op op_add (pv 3) (pe_op op_mul pe_int (pe_ix ix_list (pv 0) pe_int fun _ _ => rfl))) pe_int) pe_int))
            (pss_one (ps_ret (pe_op op_mod (pe_op op_fdiv (pv 3) pe_int) (pv 1))))))), ?_⟩
    have sq : SqL K H p [V.int a, V.int b, V.int c] := SqL.of hp
    refine ⟨_, rfl, p, _, _, .int a, rfl, rfl, sq, rfl, _, _, rfl, rfl, _, rfl, ?_⟩
    refine ite2 (fun h1 => ?_) (fun h1 => ?_)
    · have h1' := of_decide_eq_true h1
      refine ⟨_, rfl, p, _, _, .int a, rfl, rfl, sq, rfl, _, rfl, _, _, rfl, rfl, hm, ?_⟩
      refine ⟨_, rfl, p, _, _, .int a, rfl, rfl, sq, rfl, _, rfl, _, _, rfl, rfl, ⟨hm, by omega⟩, _, rfl, p, _, _, 0, rfl, rfl, hp, rfl, ?_⟩
      refine ⟨_, rfl, q _ _ (Int.emod_nonneg _ (by omega)) (Int.emod_lt_of_pos _ hm) ⟨_, _, _, upd_same, ?_, hb, hb2, hc, by omega⟩ fun x hx => upd_ne hx⟩
      exact Int.ediv_nonneg (by omega) (by omega)
    · have sq2 : SqL K (upd H p (.lst [.int a, .int b, .int (c + 1)])) p [V.int a, V.int b, V.int (c + 1)] := SqL.of upd_same
      refine ⟨_, rfl, p, _, _, .int c, rfl, rfl, sq, rfl, _, _, rfl, rfl, _, rfl, p, _, _, 2, rfl, rfl, hp, rfl, ?_⟩
      refine ⟨_, rfl, p, _, _, .int b, rfl, rfl, sq2, rfl, _, rfl, p, _, _, .int (c + 1), rfl, rfl, sq2, rfl, _, _, rfl, rfl, .inl ⟨by decide, by decide⟩, _, _, rfl, rfl, _, _, rfl, rfl, _, _, rfl, rfl, ⟨by decide, by decide, by omega⟩, _, _, rfl, rfl, (by decide : (0 : Int) < 2147483647), ?_⟩
      have hx1 := Int.emod_nonneg ((b + 674506123 * (c + 1) + 547) ^ (5 : Int).toNat) (by decide : (2147483647 : Int) ≠ 0)
      have hx2 := Int.emod_lt_of_pos ((b + 674506123 * (c + 1) + 547) ^ (5 : Int).toNat) (by decide : (0 : Int) < 2147483647)
      generalize (b + 674506123 * (c + 1) + 547) ^ (5 : Int).toNat % 2147483647 = y at hx1 hx2 ⊢
      refine ⟨_, rfl, _, rfl, p, _, _, .int (c + 1), rfl, rfl, sq2, rfl, _, _, rfl, rfl, .inl ⟨by decide, by decide⟩, _, _, rfl, rfl, _, _, rfl, rfl, ⟨by decide, by decide, by omega⟩, _, _, rfl, rfl, (by decide : (0 : Int) < 2147483587), ?_⟩
      generalize (y + 103217 * (c + 1)) ^ (3 : Int).toNat % 2147483587 = z
      refine ⟨_, rfl, _, _, rfl, rfl, ⟨by decide, by decide⟩, _, rfl, _, _, rfl, rfl, hm, ?_⟩
      exact q _ _ (Int.emod_nonneg _ (by omega)) (Int.emod_lt_of_pos _ hm) ⟨_, _, _, upd_same, ha, hb, hb2, by omega, by omega⟩ fun x hx => upd_ne hx
end
end T31
set_option Elab.async false
set_option linter.all false
set_option maxRecDepth 100000
set_option maxHeartbeats 4000000
namespace T31
open PySem PySem.Spec PyProof.Rows L2 Tp
structure TxtV (mg : Str → Option Value) : Prop where
  isinstance : mg "isinstance" = none
  int : mg "int" = none
  bool : mg "bool" = none
  str : mg "str" = none
  dict : mg "dict" = none
  len : mg "len" = none
  all : mg "all" = none
  sum : mg "sum" = none
  letters : ∃ u, mg "LETTERS" = some u ∧ RelV (.str "abcdefghijklmnopqrstuvwxyz") u
  digits : ∃ u, mg "DIGITS" = some u ∧ RelV (.str "0123456789") u
  longest : ∃ u, mg "LONGEST_NAME" = some u ∧ RelV (.int 8) u
section
variable {P : Program} {w : World} {K : PySem.W.Frag} {mg : Str → Option Value} {base : Heap} {f : Addr} {fd : FuncData}
abbrev sVw : Stmt := top 8
abbrev nVw : List Str := ["value"]
theorem scVw : FnScope nVw ["value"] (defScope sVw) := ⟨rfl, rfl, rfl, by decide +kernel, rfl, by decide +kernel, by decide +kernel⟩

theorem ok_whole (F : Fun K "is_whole" "is_whole" sVw f fd) (T : TxtV mg) : FnG P w K mg base CX0 1 f fd ["value"] (spWhole K) := by
  refine FunG.ok F scVw (fun vs H Q E h => ?_) (fun cdv B out s H vs Q E hr hG h => ?_)
  · obtain ⟨x, k, rfl, _⟩ := h
    rfl
  · obtain ⟨x, k, rfl, v, q⟩ := h
    refine ⟨_, (pss_one (ps_ret (pe_and (pe_callB call_isd (by rfl) T.isinstance (by decide +kernel) (pa_cons (pv 0) (pa_cons (pe_bltn (by rfl) T.int (by decide +kernel) (show RelV (.ty "int") _ from rfl)) pa_nil))) (pe_one (pe_not (pe_callB call_isd (by rfl) T.isinstance (by decide +kernel) (pa_cons (pv 0) (pa_cons (pe_bltn (by rfl) T.bool (by decide +kernel) (show RelV (.ty "bool") _ from rfl)) pa_nil)))))))), ?_⟩
    refine ⟨_, rfl, _, _, _, _, rfl, .ty _, v.kd.is "int" (by decide), _, rfl, ?_⟩
    refine ite2 (fun h1 => ?_) (fun h1 => ?_)
    · refine ⟨_, rfl, _, _, _, _, rfl, .ty _, v.kd.is "bool" (by decide), _, rfl, ?_⟩
      have e : (!ansB k "bool") = (k == "int") := ans_int h1
      rw [e]
      exact q
    · have e : (k == "int") = false := ans_int0 (Bool.eq_false_iff.mpr h1)
      rw [e] at q
      exact q

abbrev sVn : Stmt := top 9
abbrev nVn : List Str := ["value", "character"]
theorem scVn : FnScope nVn ["value"] (defScope sVn) := ⟨rfl, rfl, rfl, by decide +kernel, rfl, by decide +kernel, by decide +kernel⟩

theorem ok_name (F : Fun K "is_name" "is_name" sVn f fd) (T : TxtV mg) : FnG P w K mg base CX0 1 f fd ["value"] (spName K) := by
  refine FunG.ok F scVn (fun vs H Q E h => ?_) (fun cdv B out s H vs Q E hr hG h => ?_)
  · obtain ⟨x, k, rfl, _⟩ := h
    rfl
  · obtain ⟨x, k, rfl, v, q0, q1⟩ := h
    refine ⟨_, (pss_cons (ps_if (PW.pt (pw_or (pt_not (pt_val (pe_callB call_isd (by rfl) T.isinstance (by decide +kernel) (pa_cons (pv 0) (pa_cons (pe_bltn (by rfl) T.str (by decide +kernel) (show RelV (.ty "str") _ from rfl)) pa_nil))))) (pw_or1 (pt_not (pt_chain op_le op_le pe_int (pe_callB call_len (by rfl) T.len PySem.boot_len (pa_cons (pv 0) pa_nil)) (gl_c (by rfl) T.longest)))))) (pss_one (ps_ret pe_bl)) pss_nil)
      (pss_one (ps_ret (pe_and (pe_cmpR op_in_sign (pe_ix ix_str (pv 0) pe_int fun _ _ => rfl) (gl_c (by rfl) T.letters) rfl) (pe_one (pe_callB (cr_all rfl) (by rfl) T.all (by decide +kernel) (pa_cons (pe_lc (own := [("character", 1)]) (g := gName 1) (tt := tYes) rfl scVn.nd (pi_str (pv 0)) (blkOk_by (N := nVn) (sc := defScope sVn) (by decide +kernel)) (fun _ _ _ _ _ => pg_name (i := 1) scVn.nd rfl (Or.inl rfl)) (fun _ _ _ _ _ => pts_nil) (fun _ _ _ _ _ => (pe_or (pe_cmpR op_in_sign (pv 1) (gl_c (by rfl) T.letters) rfl) (pe_one (pe_cmpR op_in_sign (pv 1) (gl_c (by rfl) T.digits) rfl))))) pa_nil))))))), ?_⟩
    refine ⟨_, rfl, _, _, _, _, rfl, .ty _, v.kd.is "str" (by decide), _, rfl, ?_⟩
    rw [ans_str]
    cases hk : (k == "str") with
    | false => exact iteT (iteT (q0 fun e => by rw [e] at hk; cases hk))
    | true =>
      obtain ⟨z, rfl, hz⟩ := v.s (by simpa using hk)
      have q := q1 z rfl
      have hzl : z.length = (TL.tl z).length := TL.len_tl z
      refine iteF ⟨_, rfl, _, _, rfl, ⟨by rw [PySem.sizeLine_eq]; omega, rfl⟩, _, _, rfl, rfl, _, rfl, ?_⟩
      have bad : ¬ (1 ≤ (TL.tl z).length ∧ (TL.tl z).length ≤ 8) → Q (.bl false) H := fun hn => by
        have q' := q H (Same.refl _)
        unfold nameB at q'
        rw [decide_eq_false hn] at q'
        exact q'
      refine ite2 (fun h1 => ?_) (fun h1 => ?_)
      · have h1' := of_decide_eq_true h1
        refine ⟨_, _, rfl, rfl, _, rfl, ?_⟩
        by_cases h2 : ((z.length : Nat) : Int) ≤ 8
        · refine if_false_of (by rw [decide_eq_true h2]; rfl) ?_
          have hpos : 0 < (TL.tl z).length := by omega
          have h0 : (TL.tl z)[0]? = some ((TL.tl z)[0]) := List.getElem?_eq_getElem hpos
          have hh : (TL.tl z).head? = some ((TL.tl z)[0]) := by rw [List.head?_eq_getElem?, h0]
          refine ⟨_, rfl, _, _, _, rfl, rfl, by rw [PySem.sizeLine_eq]; omega, atI_nat (j := 0) h0, _, _, rfl, rfl, _, rfl, ?_⟩
          rw [low_mem]
          cases h3 : lowB ((TL.tl z)[0]) with
          | false =>
            refine iteF ?_
            have q' := q H (Same.refl _)
            unfold nameB at q'
            rw [hh, Option.any_some, h3, Bool.false_and, Bool.and_false] at q'
            exact q'
          | true =>
            refine iteT ⟨_, rfl, _, rfl, fun D hD => ?_⟩
            refine lc_it walk_str (fun i G => Same H G ∧ G D = some (.lst ((((TL.tl z).take i).map fun c => lowB c || digB c).map V.bl))) ⟨Same.put hD, upd_same⟩ (fun _ _ _ _ => trivial) ?_ ?_
            · rintro i x G G' hi ⟨sm, hGD⟩ ⟨rfl, c, hc, rfl⟩
              have hi' : i < (TL.tl z).length := by rw [← hzl]; exact hi
              have hc' : (TL.tl z)[i]? = some c := by rw [← hc]; simp
              have fin : ∃ acc, G' D = some (.lst acc) ∧ acc.length < sizeLine ∧ Same H (upd G' D (.lst (acc ++ [V.bl (lowB c || digB c)]))) ∧ (upd G' D (.lst (acc ++ [V.bl (lowB c || digB c)]))) D = some (.lst ((((TL.tl z).take (i + 1)).map fun c => lowB c || digB c).map V.bl)) := by
                refine ⟨_, hGD, ?_, fun b o e => ?_, ?_⟩
                · rw [List.length_map, List.length_map, List.length_take, PySem.sizeLine_eq]
                  omega
                · rw [upd_ne (ne_of_none e hD)]
                  exact sm b o e
                · rw [upd_same, List.take_add_one, hc']
                  simp
              refine ⟨rfl, _, rfl, c, _, rfl, rfl, _, rfl, ?_⟩
              rw [low_mem]
              cases h4 : lowB c with
              | true =>
                refine iteT ?_
                rw [h4, Bool.true_or] at fin
                exact fin
              | false =>
                refine iteF ⟨_, rfl, c, _, rfl, rfl, ?_⟩
                rw [dig_mem']
                rw [h4, Bool.false_or] at fin
                exact fin
            · rintro G ⟨sm, hGD⟩
              have ez : (TL.tl z).take z.cps.size = TL.tl z := List.take_of_length_le (by rw [← hzl]; exact Nat.le_refl _)
              rw [ez] at hGD
              refine ⟨D, _, rfl, SqL.of hGD, ?_⟩
              have q' := q G sm
              unfold nameB at q'
              rw [hh, Option.any_some, h3, Bool.true_and, decide_eq_true (show 1 ≤ (TL.tl z).length ∧ (TL.tl z).length ≤ 8 from ⟨by omega, by omega⟩), Bool.true_and] at q'
              rw [List.all_map]
              exact q'
        · refine if_true_of (by rw [decide_eq_false h2]; rfl) ?_
          exact bad (by omega)
      · refine ⟨_, rfl, ?_⟩
        exact bad (by have h1' : ¬ (1 : Int) ≤ ((z.length : Nat) : Int) := fun e => h1 (decide_eq_true e); omega)

end
end T31
set_option Elab.async false
set_option linter.all false
set_option maxRecDepth 100000
set_option maxHeartbeats 4000000
/-! more on data whose repr fits; equality with an empty list -/
namespace Tp
open PySem PySem.Spec PyProof.Rows L2
theorem nice_small {i : Int} {k : Nat} (h : i.natAbs < 2 ^ k) (hk : k ≤ 999) : Nice k 0 (.int i) := by
  have hl : i.natAbs.log2 < 1000 ∧ (¬ i = 0 → i.natAbs.log2 < k) := by
    by_cases z : i.natAbs = 0
    · have : i = 0 := by omega
      subst this
      exact ⟨by decide, fun e => absurd rfl e⟩
    · have := (Nat.log2_lt z).mpr h
      exact ⟨by omega, fun _ => this⟩
  have n := nice_int hl.1
  refine ⟨n.sh, n.ls, ?_, n.dp⟩
  simp only [PyData.weight]
  split
  · omega
  · rename_i hz
    have := hl.2 (by simpa using hz)
    omega
theorem NiceAll.app {n m k j : Nat} : ∀ {ds es : List PyData}, NiceAll n k ds → NiceAll m j es → NiceAll (n + m) (max k j) (ds ++ es)
  | [], es, _, h => h.mono (by omega) (by omega)
  | d :: ds, es, h1, h2 => by
    obtain ⟨a, b, c, e⟩ := h1
    obtain ⟨a', b', c', e'⟩ := h2
    simp only [PyData.showableAll, Bool.and_eq_true] at a
    simp only [PyData.leavesShortAll, Bool.and_eq_true] at b
    simp only [PyData.weightAll] at c
    simp only [PyData.depthAll] at e
    have ih := NiceAll.app (n := PyData.weightAll ds) (k := PyData.depthAll ds) (ds := ds) ⟨a.2, b.2, Nat.le_refl _, Nat.le_refl _⟩ ⟨a', b', c', e'⟩
    refine ⟨?_, ?_, ?_, ?_⟩
    · simp only [List.cons_append, PyData.showableAll, a.1, ih.sh, Bool.and_self]
    · simp only [List.cons_append, PyData.leavesShortAll, b.1, ih.ls, Bool.and_self]
    · have := ih.wt
      simp only [List.cons_append, PyData.weightAll]
      omega
    · have := ih.dp
      simp only [List.cons_append, PyData.depthAll]
      omega
theorem niceAll_of {n k : Nat} : ∀ {ds : List PyData}, (∀ d ∈ ds, Nice n k d) → NiceAll (ds.length * (n + 1)) k ds
  | [], _ => niceAll_nil.mono (by omega) (by omega)
  | d :: ds, h => (NiceAll.cons (h d List.mem_cons_self) (niceAll_of (ds := ds) fun x hx => h x (List.mem_cons_of_mem _ hx))).mono (by rw [List.length_cons, Nat.succ_mul]; omega) (by omega)
theorem niceAll_bools : ∀ (bs : List Bool), NiceAll bs.length 0 (bs.map PyData.bool)
  | [] => niceAll_nil
  | b :: bs => (NiceAll.cons (nice_bool b) (niceAll_bools bs)).mono (by rw [List.length_cons]; omega) (by omega)
theorem ddAll_bools {K : PySem.W.Frag} {H : Hp} : ∀ (bs : List Bool), DdAll K H (bs.map V.bl) (bs.map PyData.bool)
  | [] => .nil
  | b :: bs => .cons (.bl b) (ddAll_bools bs)
theorem ddAll_strs {K : PySem.W.Frag} {H : Hp} : ∀ (bs : List Str), DdAll K H (bs.map V.str) (bs.map PyData.str)
  | [] => .nil
  | b :: bs => .cons (.str b) (ddAll_strs bs)
/-- repr(x), x data -/
theorem rReprD_of {K : PySem.W.Frag} {H : Hp} {a : Addr} {d : PyData} {n k : Nat} {Q : VK} (h : Dd K H (.ref a) d) (hn : Nice n k d) (h1 : n ≤ 8000) (h2 : k ≤ 60) (q : Q (.str d.shown) H) : rReprD K [.ref a] H Q :=
  ⟨a, d, rfl, h, hn.sh, Nat.le_trans hn.dp h2, hn.fits h1, q⟩
theorem NiceAll.mem {n k : Nat} : ∀ {ds : List PyData}, NiceAll n k ds → ∀ d ∈ ds, Nice n k d
  | d :: ds, h, x, hx => by
    obtain ⟨a, b, c, e⟩ := h
    simp only [PyData.showableAll, Bool.and_eq_true] at a
    simp only [PyData.leavesShortAll, Bool.and_eq_true] at b
    simp only [PyData.weightAll] at c
    simp only [PyData.depthAll] at e
    rcases List.mem_cons.mp hx with z | z
    · subst z
      exact ⟨a.1, b.1, by omega, by omega⟩
    · exact NiceAll.mem (ds := ds) (n := n) (k := k) ⟨a.2, b.2, by omega, by omega⟩ x z
theorem NiceAll.set {n k m j : Nat} {d : PyData} (hd : Nice m j d) : ∀ {ds : List PyData} {i : Nat}, NiceAll n k ds → NiceAll (n + m) (max k j) (ds.set i d)
  | [], i, h => h.mono (by omega) (by omega)
  | x :: ds, 0, h => by
    obtain ⟨a, b, c, e⟩ := h
    simp only [PyData.showableAll, Bool.and_eq_true] at a
    simp only [PyData.leavesShortAll, Bool.and_eq_true] at b
    simp only [PyData.weightAll] at c
    simp only [PyData.depthAll] at e
    exact (NiceAll.cons hd (m := PyData.weightAll ds) (j := PyData.depthAll ds) ⟨a.2, b.2, Nat.le_refl _, Nat.le_refl _⟩).mono (by omega) (by omega)
  | x :: ds, i + 1, h => by
    obtain ⟨a, b, c, e⟩ := h
    simp only [PyData.showableAll, Bool.and_eq_true] at a
    simp only [PyData.leavesShortAll, Bool.and_eq_true] at b
    simp only [PyData.weightAll] at c
    simp only [PyData.depthAll] at e
    have ih := NiceAll.set hd (ds := ds) (i := i) (n := PyData.weightAll ds) (k := PyData.depthAll ds) ⟨a.2, b.2, Nat.le_refl _, Nat.le_refl _⟩
    exact (NiceAll.cons (d := x) ⟨a.1, b.1, Nat.le_refl _, Nat.le_refl _⟩ ih).mono (by omega) (by omega)
/-! a short text lies in a light datum -/
mutual
theorem short_of_weight : ∀ (d : PyData), d.weight ≤ 5000 → shortD d = true
  | .none, _ => rfl
  | .bool _, _ => rfl
  | .int _, _ => rfl
  | .dict _, _ => rfl
  | .str z, h => by
    simp only [shortD]
    refine decide_eq_true ?_
    simp only [PyData.weight] at h
    exact h
  | .list ds, h => by
    simp only [PyData.weight] at h
    simp only [shortD]
    exact short_of_weightAll ds h
  | .tuple ds, h => by
    simp only [PyData.weight] at h
    simp only [shortD]
    exact short_of_weightAll ds h
theorem short_of_weightAll : ∀ (ds : List PyData), PyData.weightAll ds ≤ 5000 → shortAll ds = true
  | [], _ => rfl
  | d :: ds, h => by
    simp only [PyData.weightAll] at h
    simp only [shortAll, Bool.and_eq_true]
    exact ⟨short_of_weight d (by omega), short_of_weightAll ds (by omega)⟩
end
theorem len_of_weight : ∀ (ds : List PyData), ds.length ≤ PyData.weightAll ds
  | [] => Nat.le_refl _
  | d :: ds => by
    have := len_of_weight ds
    simp only [PyData.weightAll, List.length_cons]
    omega
theorem eqv_nil (ds : List PyData) : PyData.eqv (.list ds) (.list []) = ds.isEmpty := by
  cases ds <;> simp [PyData.eqv, PyData.eqvAll]
theorem canLay_strs : ∀ (ys : List Str), (∀ y ∈ ys, ∀ c ∈ TL.tl y, c < 256) → PyData.canLayAll0 (ys.map PyData.str) = true
  | [], _ => rfl
  | y :: ys, h => by
    simp only [List.map_cons, PyData.canLayAll0, Bool.and_eq_true]
    refine ⟨?_, canLay_strs ys fun z hz => h z (List.mem_cons_of_mem _ hz)⟩
    simp only [PyData.canLay0, PyData.strOk]
    rw [← Array.all_toList]
    exact List.all_eq_true.mpr fun c hc => decide_eq_true (Nat.lt_trans (h y List.mem_cons_self c hc) (by decide))
theorem depth_strs : ∀ (ys : List Str), PyData.depthAll (ys.map PyData.str) = 0
  | [] => rfl
  | y :: ys => by
    simp only [List.map_cons, PyData.depthAll, PyData.depth, depth_strs ys]
    rfl
theorem shaped_strs {ys : List Str} (h : ∀ y ∈ ys, ∀ c ∈ TL.tl y, c < 256) : SeqAt.shaped (.list (ys.map PyData.str)) = true := by
  unfold SeqAt.shaped
  rw [Bool.and_eq_true]
  refine ⟨by simpa only [PyData.canLay0] using canLay_strs ys h, decide_eq_true ?_⟩
  simp only [PyData.depth, depth_strs]
  decide
end Tp
set_option Elab.async false
set_option linter.all false
set_option maxRecDepth 100000
set_option maxHeartbeats 4000000
/-! the heap without some addresses: data that lies apart from a box -/
namespace Tp
open PySem PySem.Spec PyProof.Rows L2
/-- all that is tracked but at p and q -/
def rs (p q : Addr) (G : Hp) : Hp := fun b => if b = p ∨ b = q then none else G b
section
variable {p q a : Addr} {G G' : Hp} {o : HO}
theorem rs_same : Same (rs p q G) G := fun b u e => by
  unfold rs at e
  split at e
  · cases e
  · exact e
theorem rs_at (h1 : a ≠ p) (h2 : a ≠ q) (e : G a = some o) : rs p q G a = some o := by
  unfold rs
  rw [if_neg fun z => z.elim h1 h2]
  exact e
theorem rs_keep (k : Keep2 p q G G') : Same (rs p q G) (rs p q G') := fun b u e => by
  unfold rs at e ⊢
  split at e
  · cases e
  · rename_i h
    rw [if_neg h]
    exact k b u (fun z => h (.inl z)) (fun z => h (.inr z)) e
theorem rs_keep1 (k : Keep p G G') : Same (rs p p G) (rs p p G') := rs_keep (Keep2.of k)
theorem rs_more : Same (rs p q G) (rs p p G) := fun b u e => by
  unfold rs at e ⊢
  split at e
  · cases e
  · rename_i h
    rw [if_neg fun z => h (.inl (z.elim id id))]
    exact e
theorem rs_up (k : Same G G') : Same (rs p q G) (rs p q G') := rs_keep fun b u _ _ e => k b u e
/-- a new object beside a box -/
theorem alloc {n : Nat} (hb : BoxAt G p n) (e : G a = none) : BoxAt (upd G a o) p n ∧ Same (rs p p G) (rs p p (upd G a o)) ∧ rs p p (upd G a o) a = some o ∧ Keep p G (upd G a o) ∧ Same G (upd G a o) :=
  ⟨hb.new e, rs_up (Same.put e), rs_at (hb.ne e).symm (hb.ne e).symm upd_same, Keep.new e, Same.put e⟩
end
/-- one of two targets -/
def gOr (g1 g2 : TG) : TG := fun v σ H Q => g1 v σ H Q ∨ g2 v σ H Q
theorem pg_or {X : Cx} {tg : Expr} {g1 g2 : TG} (h1 : PG X tg g1) (h2 : PG X tg g2) : PG X tg (gOr g1 g2) :=
  ⟨fun pins s σ H v u Q I r hw => hw.elim (h1.run pins s σ H v u Q I r) (h2.run pins s σ H v u Q I r)⟩
theorem pair_of {K : PySem.W.Frag} {H : Hp} {a : Addr} {xs : List V} {n : Nat} {t : TGs} {σ : L2.St} {Q : L2.St → Hp → Prop} (h : SqA K H a xs) (hn : xs.length = n) (q : t xs σ H Q) : gOr (gTup K n t) (gLst K n t) (.ref a) σ H Q :=
  h.elim (fun h => .inr ⟨a, xs, rfl, h, hn, q⟩) fun h => .inl ⟨a, xs, rfl, h, hn, q⟩
mutual
/-- data whose texts have small signs -/
def smD : PyData → Bool
  | .str z => (TL.tl z).all fun c => decide (c < 256)
  | .list ds => smAll ds
  | .tuple ds => smAll ds
  | .none => true
  | .bool _ => true
  | .int _ => true
  | .dict _ => true
def smAll : List PyData → Bool
  | [] => true
  | d :: ds => smD d && smAll ds
end
theorem smAll_get : ∀ {ds : List PyData} {i : Nat} {d : PyData}, smAll ds = true → ds[i]? = some d → smD d = true
  | d :: ds, 0, _, h, e => by
    cases e
    simp only [smAll, Bool.and_eq_true] at h
    exact h.1
  | d :: ds, i + 1, _, h, e => by
    simp only [smAll, Bool.and_eq_true] at h
    exact smAll_get (i := i) h.2 e
theorem smD_seq {d : PyData} {ds : List PyData} (h : smD d = true) (e : seqD d = some ds) : smAll ds = true := by
  cases d with
  | list xs =>
    cases e
    simpa only [smD] using h
  | tuple xs =>
    cases e
    simpa only [smD] using h
  | _ => cases e
theorem smD_str {z : Str} (h : smD (.str z) = true) : ∀ c ∈ TL.tl z, c < 256 := fun c hc => by
  simp only [smD] at h
  exact of_decide_eq_true (List.all_eq_true.mp h c hc)
theorem smD_tz {n : Nat} {z : Str} (h : Tz n z) : smD (.str z) = true := by
  simp only [smD]
  exact List.all_eq_true.mpr fun c hc => decide_eq_true (h.sm c hc)
theorem smAll_of : ∀ {ds : List PyData}, (∀ d ∈ ds, smD d = true) → smAll ds = true
  | [], _ => rfl
  | d :: ds, h => by
    simp only [smAll, Bool.and_eq_true]
    exact ⟨h d List.mem_cons_self, smAll_of fun x hx => h x (List.mem_cons_of_mem _ hx)⟩
theorem smAll_mem : ∀ {ds : List PyData}, smAll ds = true → ∀ d ∈ ds, smD d = true
  | d :: ds, h, x, hx => by
    simp only [smAll, Bool.and_eq_true] at h
    rcases List.mem_cons.mp hx with e | e
    · subst e
      exact h.1
    · exact smAll_mem h.2 x e
mutual
/-- data without dicts are what the layer knows -/
theorem dp_of_dd {K : PySem.W.Frag} {H : Hp} : ∀ (d : PyData) (v : V), Dd K H v d → d.hasDict = false → Dp K H v d
  | .none, _, h, _ => by cases h; exact .non
  | .bool _, _, h, _ => by cases h; exact .bl _
  | .int _, _, h, _ => by cases h; exact .int _
  | .str _, _, h, _ => by cases h; exact .str _
  | .list ds, _, h, e => by
    cases h with
    | lst hs ha => exact .lst hs (dp_of_ddAll ds _ ha (by simpa only [PyData.hasDict] using e))
  | .tuple ds, _, h, e => by
    cases h with
    | tup hs ha => exact .tup hs (dp_of_ddAll ds _ ha (by simpa only [PyData.hasDict] using e))
  | .dict _, _, _, e => by simp [PyData.hasDict] at e
theorem dp_of_ddAll {K : PySem.W.Frag} {H : Hp} : ∀ (ds : List PyData) (vs : List V), DdAll K H vs ds → PyData.hasDictAll ds = false → DpAll K H vs ds
  | [], _, h, _ => by cases h; exact .nil
  | d :: ds, _, h, e => by
    cases h with
    | cons h1 h2 =>
      simp only [PyData.hasDictAll, Bool.or_eq_false_iff] at e
      exact .cons (dp_of_dd d _ h1 e.1) (dp_of_ddAll ds _ h2 e.2)
end
/-- data that may be shown and asked -/
structure Gd (n k : Nat) (d : PyData) : Prop where
  nc : Nice n k d
  sm : smD d = true
theorem Gd.mono {n k m j : Nat} {d : PyData} (h : Gd n k d) (h1 : n ≤ m) (h2 : k ≤ j) : Gd m j d := ⟨h.nc.mono h1 h2, h.sm⟩
end Tp
namespace Tp
open PySem PySem.Spec PyProof.Rows L2
mutual
theorem canLay_of_sm : ∀ d : PyData, smD d = true → d.hasDict = false → d.canLay0 = true
  | .none, _, _ => rfl
  | .bool _, _, _ => rfl
  | .int _, _, _ => rfl
  | .str z, h, _ => by
    simp only [PyData.canLay0, PyData.strOk]
    rw [← Array.all_toList]
    exact List.all_eq_true.mpr fun c hc => decide_eq_true (Nat.lt_trans (smD_str h c hc) (by decide))
  | .list ds, h, e => by
    simp only [smD] at h
    simp only [PyData.hasDict] at e
    simpa only [PyData.canLay0] using canLay_of_smAll ds h e
  | .tuple ds, h, e => by
    simp only [smD] at h
    simp only [PyData.hasDict] at e
    simpa only [PyData.canLay0] using canLay_of_smAll ds h e
  | .dict _, _, e => by simp [PyData.hasDict] at e
theorem canLay_of_smAll : ∀ ds : List PyData, smAll ds = true → PyData.hasDictAll ds = false → PyData.canLayAll0 ds = true
  | [], _, _ => rfl
  | d :: ds, h, e => by
    simp only [smAll, Bool.and_eq_true] at h
    simp only [PyData.hasDictAll, Bool.or_eq_false_iff] at e
    simp only [PyData.canLayAll0, Bool.and_eq_true]
    exact ⟨canLay_of_sm d h.1 e.1, canLay_of_smAll ds h.2 e.2⟩
end
theorem nodict_ints : ∀ ns : List Int, PyData.hasDictAll (ns.map PyData.int) = false
  | [] => rfl
  | n :: ns => by
    simp only [List.map_cons, PyData.hasDictAll, PyData.hasDict, Bool.false_or]
    exact nodict_ints ns
theorem gd_list {n k : Nat} {ds : List PyData} (h : ∀ d ∈ ds, Gd n k d) : Gd (ds.length * (n + 1)) (k + 1) (.list ds) :=
  ⟨(niceAll_of fun d hd => (h d hd).nc).list, by simpa only [smD] using smAll_of fun d hd => (h d hd).sm⟩
theorem gd_tup {n k : Nat} {ds : List PyData} (h : ∀ d ∈ ds, Gd n k d) : Gd (ds.length * (n + 1)) (k + 1) (.tuple ds) :=
  ⟨(niceAll_of fun d hd => (h d hd).nc).tuple, by simpa only [smD] using smAll_of fun d hd => (h d hd).sm⟩
theorem gd_none : Gd 0 0 .none := ⟨nice_none, rfl⟩
theorem gd_bool (b : Bool) : Gd 0 0 (.bool b) := ⟨nice_bool b, rfl⟩
theorem gd_int {i : Int} {k : Nat} (h : i.natAbs < 2 ^ k) (hk : k ≤ 999) : Gd k 0 (.int i) := ⟨nice_small h hk, rfl⟩
theorem gd_str {n : Nat} {z : Str} (h : Tz n z) : Gd n 0 (.str z) := ⟨nice_str h, smD_tz h⟩
end Tp
set_option Elab.async false
set_option linter.all false
set_option maxRecDepth 100000
set_option maxHeartbeats 4000000
/-! try with several clauses, each of which may name the exception; the field of a caught one -/
namespace Tp
open PySem PySem.Spec PyProof.Rows L2
/-- a clause: its class, the slot of its name (none: no name), what its suite wishes -/
abbrev Cla : Type := Value × Option Nat × (Addr → Value → Option Addr → TS)
def offSlot (j : Option Nat) (D : Ends) : Ends := match j with
  | none => D
  | some i => { nx := fun σ H => D.nx (σ.set i none) H, rt := D.rt, bk := fun σ H => D.bk (σ.set i none) H, ct := fun σ H => D.ct (σ.set i none) H }
def onSlot (j : Option Nat) (a : Addr) (σ : L2.St) : L2.St := match j with
  | none => σ
  | some i => σ.set i (some (.ref a))
/-- what an exception of the body must meet: the first clause that takes it, or the way out -/
def wCla (K : PySem.W.Frag) (out : WX) (D : Ends) : List Cla → WX
  | [] => out
  | (c, j, t) :: more => fun cls d σ H => ∃ b, PySem.W.exmOne K cls c = some b ∧ (b = true → ∀ a, H a = none → t a cls d (offSlot j D) (onSlot j a σ) H) ∧ (b = false → wCla K out D more cls d σ H)
inductive ClaOk (X : Cx) : List ExceptHandler → List Cla → Prop
  | nil : ClaOk X [] []
  | bare {x : Str} {c : Value} {t : Addr → Value → Option Addr → TS} {b : Stmt} {bs : List Stmt} {p q : Pos} {hs : List ExceptHandler} {l : List Cla} (hc : Names X x c)
      (hb : ∀ (a : Addr) (oe : Obj) (cls : Value) (d : Option Addr) (pn : List (Addr × Obj)), Zc cls d oe → (∃ vs, oe.data = .fields vs) → PSs (X.suite a ((a, oe) :: pn)) (b :: bs) (t a cls d)) (more : ClaOk X hs l) :
      ClaOk X (.ExceptHandler (some (.Name x p)) none (b :: bs) q :: hs) ((c, none, t) :: l)
  | named {x n : Str} {i : Nat} {c : Value} {t : Addr → Value → Option Addr → TS} {b : Stmt} {bs : List Stmt} {p q : Pos} {hs : List ExceptHandler} {l : List Cla} (hc : Names X x c) (hi : X.N[i]? = some n) (hn : X.env.kindOf n = some .local)
      (hb : ∀ (a : Addr) (oe : Obj) (cls : Value) (d : Option Addr) (pn : List (Addr × Obj)), Zc cls d oe → (∃ vs, oe.data = .fields vs) → PSs (X.suite a ((a, oe) :: pn)) (b :: bs) (t a cls d)) (more : ClaOk X hs l) :
      ClaOk X (.ExceptHandler (some (.Name x p)) (some n) (b :: bs) q :: hs) ((c, some i, t) :: l)
section
variable {X : Cx} {D : Ends} {out : WX} {pins : List (Addr × Obj)} {σ : L2.St} {H : Hp} {sI s : Shared} {B : Heap} {a : Addr} {cls : Value} {d : Option Addr}
/-- the clauses, asked one after the other of an exception that lies noted on the ground -/
theorem run_cla (stk : X.stack = X.env :: X.outer) (loc : X.env.frame = some X.env.locals) (nd : X.N.Nodup) (tk : Takes X out) (ok : X.Ok) (J : Inv X pins σ H sI) (gB : ∀ b o, sI.heap.get? b = some o → b ∉ frs X.stack → B.get? b = some o) (up : sI.heap.UpToSlots s.heap)
    (fly : HandSPX.FlyingZ B (X.env :: X.outer) a (Zc cls d) s.heap) (na : H a = none) (os : s.os = sI.os) (bare : AllBare s.gens) :
    ∀ {hds : List ExceptHandler} {l : List Cla}, ClaOk X hds l → wCla X.K out D l cls d σ H → wpAny (model X.prog X.w) X.A (handleBy (.ref a) X.env hds) (SP X pins D) X.xe s := by
  have away : ∀ {h : Heap}, HandSPX.FlyingZ B (X.env :: X.outer) a (Zc cls d) h → a ∉ frs (X.env :: X.outer) := fun {h} f m => by
    obtain ⟨o1, w1, p1, _, p2⟩ := f.there
    obtain ⟨_, o2, p3, p4⟩ := f.2.2.1.mem m
    cases p1.symm.trans p3
    exact p4 _ p2
  have out1 := away fly
  have neL : a ≠ X.env.locals := fun z => out1 (List.mem_filterMap.mpr ⟨X.env, List.mem_cons_self, by rw [loc, z]⟩)
  have neF : a ∉ X.fs := fun m => by
    obtain ⟨e, he, q⟩ := List.mem_filterMap.mp m
    exact out1 (List.mem_filterMap.mpr ⟨e, List.mem_cons_of_mem _ he, q⟩)
  have here : Inv X pins σ H s := J.landed gB fly.1 up os bare
  obtain ⟨oe, ws, ho, hz, hd⟩ := fly.there
  have inS := here.suite ho hd na neL neF
  have kind : PySem.W.Looks (model X.prog X.w) s.heap (typeOf (.ref a)) cls := fun A' Q' E' s' k q => wpAny_typeOf_ref (k _ _ ho) (by rw [hz.1]; exact q)
  -- the class of a clause is read
  have read : ∀ {x : Str} {p : Pos} {c : Value} {Q' : Value → Shared → Prop} {E' : Value → Shared → Prop}, Names X x c → Q' c s → wpAny (model X.prog X.w) (X.A.mark (some (.ref a))) (eval (.Name x p) X.env) Q' E' s := fun {x p c Q' E'} hc q => by
    obtain ⟨g1, g2, g3⟩ := hc
    rcases g3 with g3 | ⟨g3, g4, g5⟩
    · exact ld_glob (X := X.suite a ((a, oe) :: (X.pn ++ pins))) inS g1 g3 q g2
    · exact ld_blt (X := X.suite a ((a, oe) :: (X.pn ++ pins))) inS g1 g3 g4 q g5 g2
  -- a suite is entered
  have enter : ∀ {h2 : Heap}, HandSPX.FlyingZ B (X.env :: X.outer) a (Zc cls d) h2 → s.heap.UpToSlots h2 → ∃ o2, Zc cls d o2 ∧ (∃ vs, o2.data = .fields vs) ∧ Inv (X.suite a ((a, o2) :: (X.pn ++ pins))) [] σ H { s with heap := h2 } := fun {h2} f2 u2 => by
    obtain ⟨o2, w2, p1, p2, p3⟩ := f2.there
    have J2 : Inv X pins σ H { s with heap := h2 } := J.landed gB f2.1 (up.trans u2) os bare
    exact ⟨o2, p2, ⟨_, p3⟩, J2.suite p1 p3 na neL neF⟩
  intro hds l hk
  induction hk with
  | nil =>
    intro hw
    refine wpAny_handleBy_nil ?_
    obtain ⟨_, _, _, o1, w1, T, _, _, p1, _, p2, p3, _⟩ := id fly
    unfold PySem.passOn
    refine wpAny_bind (wpAny_field p1 p2 p3 ?_)
    rw [if_neg (show ¬ ((Value.ref T == Value.none) = true) from by simp)]
    have last : wpAny (model X.prog X.w) X.A (setFlight (.ref a) X.env.frame) (fun _ s' => wpAny (model X.prog X.w) X.A (throw (.ref a) : Sem Flow) (SP X pins D) X.xe s') X.xe s := by
      rw [loc]
      refine HandSPX.setFlight_upZ fly fun h2 f2 u2 => wpAny_throw (tk _ _ ⟨a, B, sI, pins, σ, H, cls, d, rfl, J, gB, up.trans u2, .inr (.inr ?_), na, os, bare, hw⟩)
      rw [stk]
      exact f2
    first
      | exact wpAny_bind last
      | exact wpAny_bind (wpAny_pure (wpAny_bind last))
  | bare hc hb more ih =>
    rintro ⟨b, e1, yes, no⟩
    refine wpAny_handleBy_cons (codeAny_handlers_test ?_) (fun z => by cases z)
    refine read hc ((PySem.W.exm_one (M := model X.prog X.w) here.kIn kind e1).here ?_)
    cases b with
    | false => exact ih (no rfl)
    | true =>
      refine codeAny_handlers_suite (HandSPX.lands_againZ fly fun h2 f2 u2 => ?_)
      obtain ⟨o2, z2, dd2, I2⟩ := enter f2 u2
      refine wpAny_mono ((hb a o2 cls d (X.pn ++ pins) z2 dd2).run [] _ _ H _ I2 (yes rfl a na)) (fun f s' q => ?_) fun _ _ z => False.elim z
      cases f with
      | next =>
        obtain ⟨σ', H', I', q⟩ := q
        exact ⟨σ', H', I'.unsuite ok, q⟩
      | brk =>
        obtain ⟨σ', H', I', q⟩ := q
        exact ⟨σ', H', I'.unsuite ok, q⟩
      | cont =>
        obtain ⟨σ', H', I', q⟩ := q
        exact ⟨σ', H', I'.unsuite ok, q⟩
      | ret u =>
        obtain ⟨v, σ', H', I', r, q⟩ := q
        exact ⟨v, σ', H', I'.unsuite ok, r, q⟩
  | @named x n i c t b0 bs p q0 hs l hc hi hn hb more ih =>
    rintro ⟨b, e1, yes, no⟩
    refine wpAny_handleBy_cons (codeAny_handlers_test ?_) (fun z => by cases z)
    refine read hc ((PySem.W.exm_one (M := model X.prog X.w) here.kIn kind e1).here ?_)
    cases b with
    | false => exact ih (no rfl)
    | true =>
      refine codeAny_handlers_suite_as (HandSPX.lands_againZ fly fun h2 f2 u2 => ?_)
      obtain ⟨o2, z2, dd2, I2⟩ := enter f2 u2
      refine store_ok (X := X.suite a ((a, o2) :: (X.pn ++ pins))) (v := .ref a) I2 nd hi (.inl hn) rfl (fun s3 I3 => ?_) (.inr hn)
      refine wpAny_mono ((hb a o2 cls d (X.pn ++ pins) z2 dd2).run [] s3 _ H _ I3 (yes rfl a na)) (fun f s' q => ?_) fun _ _ z => False.elim z
      have gone : ∀ {σ' : L2.St} {H' : Hp} {Q' : Shared → Prop}, Inv (X.suite a ((a, o2) :: (X.pn ++ pins))) [] σ' H' s' → (∀ s4, Inv X pins (σ'.set i none) H' s4 → Q' s4) →
          wpAny (model X.prog X.w) X.A (do bindName X.env n .none; unbindBehindTheSuite X.env n q0) (fun _ s4 => Q' s4) X.xe s' := fun {σ' H' Q'} I' k => gone_ok (I'.unsuite ok) nd hi hn k
      cases f with
      | next =>
        obtain ⟨σ', H', I', q⟩ := q
        exact gone I' fun s4 I4 => ⟨_, _, I4, q⟩
      | brk =>
        obtain ⟨σ', H', I', q⟩ := q
        exact gone I' fun s4 I4 => ⟨_, _, I4, q⟩
      | cont =>
        obtain ⟨σ', H', I', q⟩ := q
        exact gone I' fun s4 I4 => ⟨_, _, I4, q⟩
      | ret u =>
        obtain ⟨v, σ', H', I', r, q⟩ := q
        exact gone I' fun s4 I4 => ⟨_, _, _, I4, r, q⟩
end
section
variable {X : Cx} {body : List Stmt} {h0 : ExceptHandler} {hds : List ExceptHandler} {l : List Cla} {pos : Pos} {tb : WX → TS} {out : WX}
/-- try: body, with such clauses -/
theorem ps_try_cla (stk : X.stack = X.env :: X.outer) (loc : X.env.frame = some X.env.locals) (nd : X.N.Nodup) (tk : Takes X out)
    (hb : ∀ (W : WX) (pn : List (Addr × Obj)) (xe : Value → Shared → Prop), Takes (X.tr pn xe) W → PassesOwn (model X.prog X.w) X.A X.env xe → PSs (X.tr pn xe) body (tb W))
    (hk : ClaOk X (h0 :: hds) l) : PS X (.Try body (h0 :: hds) [] [] pos) (fun D σ H => tb (wCla X.K out D l) D σ H) := by
  refine ⟨fun pins s σ H D I h => wpAny_Try_except ?_⟩
  have ok := I.ok
  have fr : X.A.frames = some (X.env :: X.outer) := ok.frames.trans (congrArg some stk)
  have run := (hb (wCla X.K out D l) (X.pn ++ pins) (fun e s1 => wpAny (model X.prog X.w) X.A (noteFrame e X.env) (fun _ s2 => wpAny (model X.prog X.w) X.A (setFlight e none)
    (fun _ s3 => wpAny (model X.prog X.w) X.A (handleBy e X.env (h0 :: hds)) (SP X pins D) X.xe s3) X.xe s2) X.xe s1) (fun u s' x => ?_) PassesOwn.looking).run [] s σ H D (I.toTry _) h
  · refine wpAny_mono run (fun f s1 q => ?_) fun _ _ q => q
    cases f with
    | next =>
      obtain ⟨σ', H', J, q⟩ := q
      exact wpAny_execs_nil ⟨σ', H', J.ofTry ok, q⟩
    | brk =>
      obtain ⟨σ', H', J, q⟩ := q
      exact ⟨σ', H', J.ofTry ok, q⟩
    | cont =>
      obtain ⟨σ', H', J, q⟩ := q
      exact ⟨σ', H', J.ofTry ok, q⟩
    | ret u =>
      obtain ⟨v, σ', H', J, r, q⟩ := q
      exact ⟨v, σ', H', J.ofTry ok, r, q⟩
  · obtain ⟨a, B, sI, pins', σ', H', cls, d, rfl, J', gB, up, sky, na, os, bare, hw⟩ := x
    have J : Inv X pins σ' H' sI := J'.ofTry ok
    have sky' : Sky B (X.env :: X.outer) a (Zc cls d) X.env.locals s'.heap := stk ▸ sky
    show wpAny (model X.prog X.w) X.A (noteFrame (.ref a) X.env) _ _ _
    exact Sky.land Zc.steady fr loc sky' fun h3 f3 u3 => run_cla (s := { s' with heap := h3 }) stk loc nd tk ok J gB (up.trans u3) f3 na os bare hk hw
/-- e.f of a caught exception that was raised by pmk_x: its dict lies at d -/
def tXh (a : Addr) (cls : Value) (d : Option Addr) (f : Str) (te : TE) : TE := fun σ H Q => te σ H fun x H1 => x = .ref a ∧ ∃ (C dd : Addr) (fs : List (Str × V)) (v : V), cls = .ref C ∧ d = some dd ∧ H1 dd = some (exd dd fs) ∧ fs.lookup f = some v ∧ Q v H1
theorem pe_xh {a C : Addr} {oe : Obj} {cls : Value} {d : Option Addr} {pn : List (Addr × Obj)} {e : Expr} {te : TE} {f : Str} (hT : ∀ C, cls = .ref C → ExK X.K C ∧ PySem.W.findIn X.K (.ref C) f = some none)
    (hz : Zc cls d oe) (hf : ∃ vs, oe.data = .fields vs) (he : PE (X.suite a ((a, oe) :: pn)) e te) (hb : attributeBase e f X.env (eval e X.env) = eval e X.env := by rfl) :
    PE (X.suite a ((a, oe) :: pn)) (.Attribute e f pos) (tXh a cls d f te) := by
  refine ⟨fun pins s σ H Q I h => attr_of hb (thn (he.run pins s σ H _ I h) fun u s1 hh => ?_)⟩
  obtain ⟨x, H1, I1, rx, rfl, C, dd, fs, v, ec, ed, ea, l, q⟩ := hh
  cases (show u = Value.ref a from rx)
  obtain ⟨T, hno⟩ := hT C ec
  obtain ⟨ha, _⟩ := I1.pin (a, oe) (List.mem_append_left _ List.mem_cons_self)
  obtain ⟨ws, hd⟩ := hf
  obtain ⟨mA, hns, rel⟩ := exd_at I1.hok ea
  obtain ⟨od, ho, hl⟩ := lookIn_ns hns
  obtain ⟨w', hw, rw'⟩ := RelO.some_of (v := v) (o := mA f) (by rw [← l]; exact rel f)
  have J : PySem.W.InstAt s1.heap a oe C (some od) := ⟨ha, hz.1.trans ec, by unfold PySem.W.notCls; rw [hd] <;> rfl, by rw [hz.2, ed]; exact ho⟩
  exact HandSPX.exc_get I1.kIn J T.ga T.gg T.exC (PySem.W.findObj_own T.hdC hno rfl (by rw [hl, hw])) (handed_of rw') ⟨v, H1, I1.tok _, rw', q⟩
end
end Tp
set_option Elab.async false
set_option linter.all false
set_option maxRecDepth 100000
set_option maxHeartbeats 4000000
/-! defs whose promises know the guards and that may raise: their bodies, their calls (what is raised is wished for at the caller's slots) -/
namespace Tp
open PySem PySem.Spec PyProof.Rows L2
section
variable {P : Program} {w : World} {K : PySem.W.Frag} {mg : Str → Option Value} {base : Heap} {k : Nat} {f : Addr} {fd : FuncData} {N ps : List Str} {sp : Sp}
theorem FunG.okX {x qual : Str} {st : Stmt} (F : Fun K x qual st f fd) (S : FnScope N ps (defScope st)) (len : ∀ vs H Q E, sp vs H Q E → vs.length = ps.length)
    (hb : ∀ (cdv : Value) (B : Around) (out : List Env) (s : Shared) (H : Hp) (vs : List V) (Q : VK) (E : XK),
      Room k (B.deeper (envOfC qual (defScope st) s.heap.objs.size f cdv)) → (B.deeper (envOfC qual (defScope st) s.heap.objs.size f cdv)).guards = some [] → sp vs H Q E →
      ∃ t, PSs (cxOf (L2.CX P w) P w K mg base N qual (defScope st) f cdv B out s H E) (defBody st) t ∧ t { nx := fun _ H' => Q .non H', rt := Q } (start N vs) H) :
    FnG P w K mg base (L2.CX P w) (k + 1) f fd ps sp := by
  obtain ⟨oc, od, kV, doc, pm, an, cdv, ct, osl, rfl, lk, hcd⟩ := F.ex
  exact fnG_of lk hcd S len fun B out s H vs Q E hr hg hsp => hb cdv B out s H vs Q E hr hg hsp
theorem FunDG.okX {x qual : Str} {params : Arguments} {body : List Stmt} {scope : Scope} {dvs : List V} {kws : List (Str × V)}
    (F : FunD K x qual params body scope dvs kws f fd) (S : FnScope N ps scope) (len : ∀ vs H Q E, sp vs H Q E → vs.length = ps.length)
    (hb : ∀ (cdv : Value) (B : Around) (out : List Env) (s : Shared) (H : Hp) (vs : List V) (Q : VK) (E : XK),
      Room k (B.deeper (envOfC qual scope s.heap.objs.size f cdv)) → (B.deeper (envOfC qual scope s.heap.objs.size f cdv)).guards = some [] → sp vs H Q E →
      ∃ t, PSs (cxOf (L2.CX P w) P w K mg base N qual scope f cdv B out s H E) body t ∧ t { nx := fun _ H' => Q .non H', rt := Q } (start N vs) H) :
    FnG P w K mg base (L2.CX P w) (k + 1) f fd ps sp := by
  obtain ⟨oc, od, dV, kV, doc, pm, an, cdv, ct, osl, rfl, lk, hcd, _, _⟩ := F.ex
  exact fnG_of lk hcd S len fun B out s H vs Q E hr hg hsp => hb cdv B out s H vs Q E hr hg hsp
end
/-! within a comprehension: the written part by its own letter -/
theorem ix_listK {X : Cx} {K : PySem.W.Frag} (h : X.K = K) : IxR X (rIxL K) := by
  subst h
  exact ix_list
theorem ix_tupK {X : Cx} {K : PySem.W.Frag} (h : X.K = K) : IxR X (rIxT K) := by
  subst h
  exact ix_tup
theorem pe_fldK {X : Cx} {K : PySem.W.Frag} {e : Expr} {f : Str} {pos : Pos} {ta : TE} (h : X.K = K) (he : PE X e ta) (hb : attributeBase e f X.env (eval e X.env) = eval e X.env) : PE X (.Attribute e f pos) (tFld K ta f) := by
  subst h
  exact pe_fld he hb
theorem hu65 {k : Nat} {A : Around} (hr : Room k A) : A.units + 65 < cLine := by
  have := hr.un
  omega
/-- what a caller knows of a method that may raise; of a def; of a class -/
structure Ctr (P : Program) (w : World) (K : PySem.W.Frag) (mg : Str → Option Value) (base : Heap) (k : Nat) (C : Addr) (m : Str) (dvs : List V) (sp : Sp) : Prop where
  ex : ∃ (f : Addr) (fd : FuncData) (ps : List Str) (ds : List Value), Cls K C ∧ Meth K C m f ∧ FnG P w K mg base (L2.CX P w) k f fd ps sp ∧ Binds K fd ps ds ∧ Vals dvs ds
structure Cgr (P : Program) (w : World) (K : PySem.W.Frag) (mg : Str → Option Value) (base : Heap) (k : Nat) (x : Str) (dvs : List V) (sp : Sp) : Prop where
  ex : ∃ (f : Addr) (fd : FuncData) (ps : List Str) (ds : List Value), FnG P w K mg base (L2.CX P w) k f fd ps sp ∧ mg x = some (.ref f) ∧ PySem.W.keepIn K (.ref f) = true ∧ Binds K fd ps ds ∧ Vals dvs ds
structure Cmr (P : Program) (w : World) (K : PySem.W.Frag) (mg : Str → Option Value) (base : Heap) (k : Nat) (x : Str) (C : Addr) (dvs : List V) (sp : Sp) : Prop where
  ex : ∃ (f : Addr) (fd : FuncData) (ps : List Str) (ds : List Value), Mk K C f ∧ FnG P w K mg base (L2.CX P w) k f fd ps sp ∧ mg x = some (.ref C) ∧ Binds K fd ps ds ∧ Vals dvs ds
/-- wished for at the caller's slots -/
def tCallX (sp : Sp) (dvs : List V) (W : WX) (t : TA) : TE := fun σ H Q => t σ H fun vs H1 => sp (vs ++ dvs) H1 Q (WE W σ)
def tMethX (C : Addr) (m : Str) (sp : Sp) (dvs : List V) (W : WX) (ta : TE) (t : TA) : TE := fun σ H Q => ta σ H fun x H1 => ∃ a dx fs, x = .ref a ∧ H1 a = some (.ins C dx fs) ∧ fs.lookup m = none ∧
  t σ H1 fun vs H2 => sp (x :: (vs ++ dvs)) H2 Q (WE W σ)
def tMakeX (C : Addr) (sp : Sp) (dvs : List V) (W : WX) (t : TA) : TE := fun σ H Q => t σ H fun vs H1 => ∀ x dx, H1 x = none → H1 dx = none → dx ≠ x →
  sp (.ref x :: (vs ++ dvs)) (upd (upd H1 dx (.own x)) x (.ins C dx [])) (fun v H2 => v = .non ∧ Q (.ref x) H2) (WE W σ)
def tGetX (C : Addr) (sp : Sp) (W : WX) (to ti : TE) : TE := fun σ H Q => to σ H fun y H1 => ti σ H1 fun x H2 => ∃ a dx fs, y = .ref a ∧ H2 a = some (.ins C dx fs) ∧ sp [.ref a, x] H2 Q (WE W σ)
section
variable {X : Cx} {j k : Nat} {f C : Addr} {fd : FuncData} {ps : List Str} {sp : Sp} {x m : Str} {p pos apos : Pos} {e o i : Expr} {es : List Expr} {ta to ti : TE} {t : TA} {dvs : List V} {ds : List Value} {W : WX}
theorem run_gX {A : Around} {pins : List (Addr × Obj)} {σ : L2.St} {H : Hp} {s : Shared} {Q : VK} {us : List Value} {vs : List V} (F : FnG X.prog X.w X.K X.mg X.base (L2.CX X.prog X.w) k f fd ps sp) (hr : Room k A) (hG : A.guards = some []) (hf : A.frames = X.A.frames) (hb : Binds X.K fd ps ds) (hd : Vals dvs ds)
    (tk : Takes X W) (I : Inv X pins σ H s) (r : Vals vs us) (h : sp (vs ++ dvs) H Q (WE W σ)) : wpAny (model X.prog X.w) A (call (.ref f) us) (EP X pins σ Q) X.xe s := by
  have r2 : Vals (vs ++ dvs) (us ++ ds) := r.append hd
  have hl : (us ++ ds).length = ps.length := by rw [← r2.length]; exact F.len _ _ _ _ h
  have e0 : Env0 X.prog X.w X.K X.mg X.base A X.stack s H := by
    have e := I.env0
    exact ⟨by rw [hf]; exact e.frames, e.mod, e.bs, e.bsz, e.funs, e.frf, e.hok, e.bare⟩
  refine wpAny_call (codeAny_mono (F.run A X.stack s H ⟨us, []⟩ (us ++ ds) (vs ++ dvs) Q (WE W σ) hr hG e0 (hb s us I.kIn hl) r2 h) fun r s' hq => ?_)
  cases r with
  | error e => exact passAt tk σ pins H s e s' I hq
  | ok fl =>
    cases fl with
    | ret u => exact I.after hq
    | next => exact False.elim hq
    | brk => exact False.elim hq
    | cont => exact False.elim hq
theorem run_gmakeX {pins : List (Addr × Obj)} {σ : L2.St} {H : Hp} {s : Shared} {Q : VK} {us : List Value} {vs : List V} (M : Mk X.K C f) (F : FnG X.prog X.w X.K X.mg X.base (L2.CX X.prog X.w) k f fd ps sp) (hr : Room (k + 1) X.A) (hG : X.A.guards = some []) (hb : Binds X.K fd ps ds) (hd : Vals dvs ds)
    (tk : Takes X W) (I : Inv X pins σ H s) (r : Vals vs us)
    (h : ∀ x dx, H x = none → H dx = none → dx ≠ x → sp (.ref x :: (vs ++ dvs)) (upd (upd H dx (.own x)) x (.ins C dx [])) (fun v H2 => v = .non ∧ Q (.ref x) H2) (WE W σ)) :
    wpAny (model X.prog X.w) X.A (call (.ref C) us) (EP X pins σ Q) X.xe s := by
  have hq := h (s.heap.objs.size + 1) s.heap.objs.size (I.hok.fresh (Nat.le_succ _)) (I.hok.fresh (Nat.le_refl _)) (Nat.ne_of_lt (Nat.lt_succ_self _))
  have I2 := Inv.made (C := C) I
  have r2 : Vals (V.ref (s.heap.objs.size + 1) :: (vs ++ dvs)) (Value.ref (s.heap.objs.size + 1) :: (us ++ ds)) := .cons rfl (r.append hd)
  have hl : (Value.ref (s.heap.objs.size + 1) :: us ++ ds).length = ps.length := by
    have e := r2.length
    rw [F.len _ _ _ _ hq] at e
    exact e.symm
  refine wpAny_call (make_map (f := f) I.kIn M.makes M.init (beq_iff_eq.mp M.fn) (codeAny_mono (F.run _ X.stack _ _ ⟨Value.ref (s.heap.objs.size + 1) :: us, []⟩ (Value.ref (s.heap.objs.size + 1) :: (us ++ ds)) _ _ (WE W σ) (hr.make C us []) hG
    (I2.env0.make C us []) (hb _ (Value.ref (s.heap.objs.size + 1) :: us) I2.kIn hl) r2 hq) fun r s' hq' => ?_))
  cases r with
  | error e => exact passAt tk σ pins _ _ e s' I2 hq'
  | ok fl =>
    cases fl with
    | ret u =>
      obtain ⟨v, H', I3, rv, ev, q3⟩ := I2.after hq'
      subst ev
      exact ⟨rv, ⟨V.ref (s.heap.objs.size + 1), H', I3, rfl, q3⟩⟩
    | next => exact False.elim hq'
    | brk => exact False.elim hq'
    | cont => exact False.elim hq'
theorem pe_cgr (c : Cgr X.prog X.w X.K X.mg X.base j x dvs sp) (hr : Room k X.A) (hG : X.A.guards = some []) (hk : j ≤ k) (tk : Takes X W) (hg : Gl X x)
    (ha : PA X (e :: es) t) (hdb : (x == ("__debug__" : Str)) = false := by decide) (he : starEach (e :: es) X.env = (false, eval e X.env) :: starEach es X.env := by rfl) (hpl : (backTo pos (starEach es X.env)).any (·.1) = false := by rfl) :
    PE X (.Call (.Name x p) (e :: es) [] pos) (tCallX sp dvs W t) := by
  obtain ⟨f, fd, ps, ds, F, hm, hkp, hb, hd⟩ := c.ex
  refine ⟨fun pins s σ H Q I h => ?_⟩
  refine wpAny_Call_Name_kw (ld_glob I hg hm ?_ hdb)
  refine PySem.W.callWith_K (h₀ := X.base) I.ok.mod.kin hkp (thn (ha.run pos pins s σ H _ I h) fun us s1 ⟨vs, H1, I1, r, q⟩ => ⟨I1.kIn, ?_⟩) he hpl
  exact run_gX F (hr.mono hk) hG rfl hb hd tk I1 r q
theorem pe_cmr (c : Cmr X.prog X.w X.K X.mg X.base j x C dvs sp) (hr : Room k X.A) (hG : X.A.guards = some []) (hk : j + 1 ≤ k) (tk : Takes X W) (hg : Gl X x)
    (ha : PA X (e :: es) t) (hdb : (x == ("__debug__" : Str)) = false := by decide) (he : starEach (e :: es) X.env = (false, eval e X.env) :: starEach es X.env := by rfl) (hpl : (backTo pos (starEach es X.env)).any (·.1) = false := by rfl) :
    PE X (.Call (.Name x p) (e :: es) [] pos) (tMakeX C sp dvs W t) := by
  obtain ⟨f, fd, ps, ds, M, F, hm, hb, hd⟩ := c.ex
  refine ⟨fun pins s σ H Q I h => ?_⟩
  refine wpAny_Call_Name_kw (ld_glob I hg hm ?_ hdb)
  refine PySem.W.callWith_K (h₀ := X.base) I.ok.mod.kin M.kp (thn (ha.run pos pins s σ H _ I h) fun us s1 ⟨vs, H1, I1, r, q⟩ => ⟨I1.kIn, ?_⟩) he hpl
  exact run_gmakeX M F (hr.mono hk) hG hb hd tk I1 r q
theorem pe_cmr0 (c : Cmr X.prog X.w X.K X.mg X.base j x C dvs sp) (hr : Room k X.A) (hG : X.A.guards = some []) (hk : j + 1 ≤ k) (tk : Takes X W) (hg : Gl X x)
    (hdb : (x == ("__debug__" : Str)) = false := by decide) : PE X (.Call (.Name x p) [] [] pos) (tMakeX C sp dvs W tNil) := by
  obtain ⟨f, fd, ps, ds, M, F, hm, hb, hd⟩ := c.ex
  refine ⟨fun pins s σ H Q I h => ?_⟩
  refine wpAny_Call_Name_kw (ld_glob I hg hm ?_ hdb)
  exact PySem.W.callWith_K0 I.kIn M.kp (run_gmakeX (us := []) M F (hr.mono hk) hG hb hd tk I .nil h)
theorem pe_ctr {pl : Sem Bool} (he : PE X o ta) (c : Ctr X.prog X.w X.K X.mg X.base j C m dvs sp) (hr : Room k X.A) (hG : X.A.guards = some []) (hk : j ≤ k) (tk : Takes X W) (ha : PA X (e :: es) t)
    (hst : starEach (e :: es) X.env = (false, eval e X.env) :: starEach es X.env := by rfl) (hpl : (backTo pos (starEach es X.env)).any (·.1) = false := by rfl)
    (ht : eval (.Call (.Attribute o m apos) (e :: es) [] pos) X.env = (do
      let ov ← eval o X.env
      standAt apos.atName
      let (f, first) ← holding [ov] (getMethod ov m pl)
      callWith pos f first (backTo pos (starEach (e :: es) X.env)) (backToKw pos (keywordEach [] X.env))) := by rfl) :
    PE X (.Call (.Attribute o m apos) (e :: es) [] pos) (tMethX C m sp dvs W ta t) := by
  obtain ⟨f, fd, ps, ds, cl, hm, F, hb, hd⟩ := c.ex
  refine ⟨fun pins s σ H Q I h => ?_⟩
  refine PySem.W.methodCall_KW (pl := pl) (thn (he.run pins s σ H _ I h) fun u s1 ⟨x, H1, I1, rx, a, dx, fs, ex, ea, l, q⟩ => ?_) ht
  subst ex
  obtain rfl : u = Value.ref a := rx
  refine getmeth_ok I1 ea cl hm l ?_
  refine PySem.W.callWith_K (first := [.ref a]) (h₀ := X.base) I.ok.mod.kin hm.kp (thn (ha.run pos pins s1 σ H1 _ I1 q) fun us s2 ⟨vs, H2, I2, r, q2⟩ => ⟨I2.kIn, ?_⟩) hst hpl
  exact run_gX (us := .ref a :: us) (vs := .ref a :: vs) F (hr.mono hk) hG rfl hb hd tk I2 (.cons rfl r) q2
theorem pe_ctr0 {pl : Sem Bool} (he : PE X o ta) (c : Ctr X.prog X.w X.K X.mg X.base j C m dvs sp) (hr : Room k X.A) (hG : X.A.guards = some []) (hk : j ≤ k) (tk : Takes X W)
    (ht : eval (.Call (.Attribute o m apos) [] [] pos) X.env = (do
      let ov ← eval o X.env
      standAt apos.atName
      let (f, first) ← holding [ov] (getMethod ov m pl)
      callWith pos f first (backTo pos (starEach [] X.env)) (backToKw pos (keywordEach [] X.env))) := by rfl) :
    PE X (.Call (.Attribute o m apos) [] [] pos) (tMethX C m sp dvs W ta tNil) := by
  obtain ⟨f, fd, ps, ds, cl, hm, F, hb, hd⟩ := c.ex
  refine ⟨fun pins s σ H Q I h => ?_⟩
  refine PySem.W.methodCall_KW (pl := pl) (thn (he.run pins s σ H _ I h) fun u s1 ⟨x, H1, I1, rx, a, dx, fs, ex, ea, l, q⟩ => ?_) ht
  subst ex
  obtain rfl : u = Value.ref a := rx
  refine getmeth_ok I1 ea cl hm l ?_
  exact PySem.W.callWith_K0 (first := [.ref a]) I1.kIn hm.kp (run_gX (us := [.ref a]) (vs := [.ref a]) F (hr.mono hk) hG rfl hb hd tk I1 (.cons rfl .nil) q)
theorem pe_getX (c : Ctr X.prog X.w X.K X.mg X.base j C "__getitem__" dvs sp) (h0 : dvs = []) (hfn : ∀ f, PySem.W.isFn X.K (.ref f) = true → PySem.W.fnIn X.K f = true) (hr : Room (j + 1) X.A) (hG : X.A.guards = some []) (tk : Takes X W) (ho : PE X o to) (hi : PE X i ti)
    (hsl : ∀ (a : Addr) (v : Value), subscripted i true (.ref a) v = runValue (.builtin "lifetime.subscript" ⟨[.ref a, v], []⟩) := by (intro _ _; with_unfolding_all rfl)) : PE X (.Subscript o i pos) (tGetX C sp W to ti) := by
  subst h0
  refine ⟨fun pins s σ H Q I h => ?_⟩
  refine Subscript_ (thn (ho.run pins s σ H _ I h) fun u s1 ⟨y, H1, I1, r1, q1⟩ => thn (hi.run pins s1 σ H1 _ I1 q1) fun v s2 ⟨x, H2, I2, r2, a, dx, fs, ey, ha, q2⟩ => ?_)
  subst ey
  cases (show u = Value.ref a from r1)
  obtain ⟨f, fd, ps, ds, cl, hm, F, hb, hd⟩ := c.ex
  cases hd
  obtain ⟨ox, od, J⟩ := ins_at I2 ha
  obtain ⟨m, hF⟩ := I2.fr
  exact PySem.W.sub_K hF I2.ok.mod.kin J hm.at_ (hfn _ hm.fn) hm.fn (run_gX (A := X.A.in1) (us := [.ref a, v]) (vs := [.ref a, x]) F hr.in1 hG rfl hb .nil tk I2 (.cons rfl (.cons r2 .nil)) q2) (hsl _ _)
end
end Tp
set_option Elab.async false
set_option linter.all false
set_option maxRecDepth 100000
set_option maxHeartbeats 4000000
/-! the rows of a book as keys of a dict: a text, and an int or a tuple of ints -/
namespace Tp
open PySem
/-- a row: its name, and its turn or the numbers of its arguments -/
abbrev RowK : Type := Str × Sum Int (List Int)
def rowD : RowK → PyData
  | (x, .inl n) => .tuple [.str x, .int n]
  | (x, .inr ns) => .tuple [.str x, .tuple (ns.map PyData.int)]
def IsRow (h : Heap) (k : RowK) (a : Addr) : Prop := Reads h (.ref a) (rowD k) [] ∧ PyData.strOk k.1 = true
theorem can_ints : ∀ ns : List Int, PyData.canLayAll0 (ns.map PyData.int) = true
  | [] => rfl
  | n :: ns => by
    simp only [List.map_cons, PyData.canLayAll0, PyData.canLay0, can_ints ns, Bool.and_self]
theorem can_row (k : RowK) (hk : PyData.strOk k.1 = true) : (rowD k).canLay0 = true := by
  obtain ⟨x, n | ns⟩ := k
  · have hk' : PyData.strOk x = true := hk
    simp [rowD, PyData.canLay0, PyData.canLayAll0, hk']
  · have hk' : PyData.strOk x = true := hk
    simp [rowD, PyData.canLay0, PyData.canLayAll0, can_ints ns, hk']
theorem ints_inj : ∀ {ns ms : List Int}, ns.map PyData.int = ms.map PyData.int → ns = ms
  | [], [], _ => rfl
  | [], _ :: _, e => by cases e
  | _ :: _, [], e => by cases e
  | n :: ns, m :: ms, e => by
    rw [List.map_cons, List.map_cons] at e
    injection e with e1 e2
    injection e1 with e3
    rw [e3, ints_inj e2]
theorem rowD_inj : ∀ {k j : RowK}, rowD k = rowD j → k = j := by
  rintro ⟨x, n | ns⟩ ⟨y, m | ms⟩ e
  · simp only [rowD, PyData.tuple.injEq, List.cons.injEq, PyData.str.injEq, PyData.int.injEq, and_true] at e
    rw [e.1, e.2]
  · simp [rowD] at e
  · simp [rowD] at e
  · simp only [rowD, PyData.tuple.injEq, List.cons.injEq, PyData.str.injEq, and_true] at e
    rw [e.1, ints_inj e.2]
theorem isRow_inj {h : Heap} {a : Addr} {k j : RowK} (hk : IsRow h k a) (hj : IsRow h j a) : k = j := rowD_inj (SeqAt.Reads.unique _ _ _ _ _ (can_row k hk.2) hk.1 hj.1)
theorem eqv_ints : ∀ ns ms : List Int, PyData.eqvAll (ns.map PyData.int) (ms.map PyData.int) = decide (ns = ms)
  | [], [] => rfl
  | [], _ :: _ => rfl
  | _ :: _, [] => rfl
  | n :: ns, m :: ms => by
    rw [List.map_cons, List.map_cons, PyData.eqvAll, PyData.eqv, eqv_ints ns ms, Bool.eq_iff_iff]
    simp
theorem eqv_row (k j : RowK) : PyData.eqv (rowD k) (rowD j) = decide (k = j) := by
  obtain ⟨x, n | ns⟩ := k <;> obtain ⟨y, m | ms⟩ := j <;> rw [Bool.eq_iff_iff] <;> simp [rowD, PyData.eqv, PyData.eqvAll, eqv_ints]
section
variable {prog : Program} {w : World} {A : Around} {E : Value → Shared → Prop} {s : Shared}
theorem row_eq {x y : RowK} {a b : Addr} {Q : Bool → Shared → Prop} (hu : A.units + 64 < cLine) (hx : IsRow s.heap x a) (hy : IsRow s.heap y b) (h : Q (decide (x = y)) s) : wpAny (model prog w) A (eqBool (.ref a) (.ref b)) Q E s := by
  have hd : ∀ k : RowK, (rowD k).depth ≤ 10 := fun k => by
    obtain ⟨x, n | ns⟩ := k
    · simp [rowD, PyData.depth, PyData.depthAll]
    · have : ∀ ns : List Int, PyData.depthAll (ns.map PyData.int) = 0 := fun ns => by
        induction ns with
        | nil => rfl
        | cons n ns ih => simp [PyData.depthAll, PyData.depth, ih]
      simp [rowD, PyData.depth, PyData.depthAll, this]
  refine SeqAt.eqAt_reads (rowD x) (rowD y) A s _ _ [] [] hx.1 hy.1 (can_row x hx.2) (can_row y hy.2) ?_ prog w E Q ?_
  · have h1 := hd x
    have h2 : min (rowD x).depth (rowD y).depth ≤ (rowD x).depth := Nat.min_le_left _ _
    omega
  · rw [eqv_row]
    exact h
theorem ints_any {h h' : Heap} : ∀ (ns : List Int) (vs : List Value) (as : List Addr), ReadsAll h vs (ns.map PyData.int) as → ReadsAll h' vs (ns.map PyData.int) as
  | [], _, _, r => by
    cases r
    exact .nil
  | n :: ns, _, _, r => by
    rw [List.map_cons] at r ⊢
    cases r with
    | cons h1 h2 =>
      cases h1
      exact .cons (.int _ _) (ints_any ns _ _ h2)
/-- a row's own parts -/
theorem row_parts {h : Heap} {k : RowK} {a : Addr} (r : IsRow h k a) : ∃ (o : Obj) (t : Tok) (u : Value) (items : Array Value) (n : Nat), h.get? a = some o ∧ o.cls = .type "tuple" ∧ o.data = .seq items n ∧ items.toList = [.str k.1 t, u] ∧
    ((∃ (i : Int) (t2 : Tok), k.2 = .inl i ∧ u = .int i t2) ∨ ∃ (ns : List Int) (b : Addr) (ob : Obj) (its : Array Value) (m : Nat), k.2 = .inr ns ∧ u = .ref b ∧ h.get? b = some ob ∧ ob.cls = .type "tuple" ∧ ob.data = .seq its m ∧ ReadsAll h its.toList (ns.map PyData.int) []) := by
  obtain ⟨r, _⟩ := r
  obtain ⟨x, i | ns⟩ := k
  · generalize e : rowD (x, .inl i) = d at r
    generalize e0 : ([] : List Addr) = as at r
    cases r with
    | tuple h1 h2 h3 h4 =>
      simp only [rowD, PyData.tuple.injEq] at e
      subst e
      generalize ev : (_ : Array Value).toList = l at h4
      cases h4 with
      | cons g1 g2 =>
        cases g1
        cases g2 with
        | cons g3 g4 =>
          cases g3
          cases g4
          exact ⟨_, _, _, _, _, h1, h2, h3, ev, .inl ⟨i, _, rfl, rfl⟩⟩
    | _ => cases e
  · generalize e : rowD (x, .inr ns) = d at r
    generalize e0 : ([] : List Addr) = as at r
    cases r with
    | tuple h1 h2 h3 h4 =>
      simp only [rowD, PyData.tuple.injEq] at e
      subst e
      generalize ev : (_ : Array Value).toList = l at h4
      cases h4 with
      | cons g1 g2 =>
        cases g1
        cases g2 with
        | cons g3 g4 =>
          cases g4
          cases g3 with
          | tuple k1 k2 k3 k4 =>
            rw [List.nil_append, List.append_nil] at e0
            subst e0
            exact ⟨_, _, _, _, _, h1, h2, h3, ev, .inr ⟨ns, _, _, _, _, rfl, rfl, k1, k2, k3, k4⟩⟩
    | _ => cases e
theorem row_of {h : Heap} {k : RowK} {a : Addr} (hk : PyData.strOk k.1 = true) {o : Obj} {t : Tok} {u : Value} {items : Array Value} {n : Nat} (h1 : h.get? a = some o) (h2 : o.cls = .type "tuple") (h3 : o.data = .seq items n) (h4 : items.toList = [.str k.1 t, u])
    (h5 : (∃ (i : Int) (t2 : Tok), k.2 = .inl i ∧ u = .int i t2) ∨ ∃ (ns : List Int) (b : Addr) (ob : Obj) (its : Array Value) (m : Nat), k.2 = .inr ns ∧ u = .ref b ∧ h.get? b = some ob ∧ ob.cls = .type "tuple" ∧ ob.data = .seq its m ∧ ReadsAll h its.toList (ns.map PyData.int) []) : IsRow h k a := by
  refine ⟨?_, hk⟩
  obtain ⟨x, y⟩ := k
  rcases h5 with ⟨i, t2, e, rfl⟩ | ⟨ns, b, ob, its, m, e, rfl, g1, g2, g3, g4⟩
  · have e' : y = .inl i := e
    subst e'
    exact .tuple (as := []) h1 h2 h3 (by rw [h4]; exact ReadsAll.cons (as := []) (bs := []) (.str x t) (ReadsAll.cons (as := []) (bs := []) (.int i t2) .nil))
  · have e' : y = .inr ns := e
    subst e'
    exact .tuple (as := []) h1 h2 h3 (by rw [h4]; exact ReadsAll.cons (as := []) (bs := []) (.str x t) (ReadsAll.cons (as := []) (bs := []) (.tuple g1 g2 g3 g4) .nil))
theorem row_keeps {h h' : Heap} {k : RowK} {a d : Addr} {o : Obj} {es : Array DictEntry} {ep : Nat} (r : IsRow h k a) (ho : h.get? d = some o) (hd : o.data = .dict es ep) (hs : Heap.SameBut d h h') : IsRow h' k a := by
  have ne : ∀ {b : Addr} {ob : Obj} {its : Array Value} {m : Nat}, h.get? b = some ob → ob.data = .seq its m → b ≠ d := fun {b ob its m} e1 e2 z => by
    rw [z, ho] at e1
    cases e1
    rw [hd] at e2
    cases e2
  obtain ⟨o1, t, u, items, n, h1, h2, h3, h4, h5⟩ := row_parts r
  refine row_of r.2 ((hs.2 a (ne h1 h3)).trans h1) h2 h3 h4 (h5.imp id ?_)
  rintro ⟨ns, b, ob, its, m, e, eu, g1, g2, g3, g4⟩
  exact ⟨ns, b, ob, its, m, e, eu, (hs.2 b (ne g1 g3)).trans g1, g2, g3, ints_any ns _ _ g4⟩
/-- a tuple all of whose items are quiet is so -/
theorem quiet_tup {k : Nat} {a : Addr} {o : Obj} {items : Array Value} {n : Nat} {Q : Bool → Shared → Prop} (ho : s.heap.get? a = some o) (hc : o.cls = .type "tuple") (hd : o.data = .seq items n)
    (hq : ∀ v ∈ items.toList, ∀ (E' : Value → Shared → Prop) (Q' : Bool → Shared → Prop), Q' true s → wpAny (model prog w) A (eqIsQuiet k v) Q' E' s) (h : Q true s) : wpAny (model prog w) A (eqIsQuiet (k + 1) (.ref a)) Q E s := by
  have ty : s.TypeIs (.ref a) "tuple" := ⟨o, ho, hc⟩
  unfold eqIsQuiet
  refine wpAny_bind (wpAny_specialOf ty F.slot_tuple_eq.lookup ?_)
  show wpAny _ _ (isInstance (.ref a) (.type "tuple") >>= fun _ => _) _ _ s
  refine wpAny_bind (wpAny_isInstance ty isSubtype_tuple_tuple ?_)
  simp only [Bool.false_eq_true, Bool.not_true, if_false]
  refine wpAny_bind (wpAny_seqItems ho hd (wpAny_bind ?_))
  show wpAny _ _ (forIn items _ _) _ _ s
  rw [← Array.forIn_toList]
  refine wpAny_forIn_list _ (fun left acc s1 => acc.1 = none ∧ s1 = s ∧ ∀ v ∈ left, v ∈ items.toList) _ ?_ ?_ _ _ ⟨rfl, rfl, fun _ m => m⟩
  · rintro v left acc s1 ⟨e1, e2, hm⟩
    subst e2
    refine wpAny_bind (hq v (hm v List.mem_cons_self) _ _ ?_)
    simp only [Bool.false_eq_true, Bool.not_true, if_false]
    exact wpAny_pure ⟨rfl, rfl, fun u hu => hm u (List.mem_cons_of_mem _ hu)⟩
  · rintro ⟨acc1, acc2⟩ s1 ⟨e1, e2, _⟩
    subst e2
    have e1' : acc1 = none := e1
    subst e1'
    exact wpAny_pure h
theorem ints_items {h : Heap} : ∀ (ns : List Int) (vs : List Value) (as : List Addr), ReadsAll h vs (ns.map PyData.int) as → ItemsAre (intKind prog w) ns vs
  | [], _, _, r => by
    cases r
    exact .nil
  | n :: ns, _, _, r => by
    rw [List.map_cons] at r
    cases r with
    | cons h1 h2 =>
      cases h1
      exact .cons (by simp [intKind, Value.isInt]) (ints_items ns _ _ h2)
theorem row_quiet {k : RowK} {a : Addr} {Q : Bool → Shared → Prop} (r : IsRow s.heap k a) (h : Q true s) : wpAny (model prog w) A (eqIsQuiet 8 (.ref a)) Q E s := by
  obtain ⟨o, t, u, items, n, h1, h2, h3, h4, h5⟩ := row_parts r
  refine quiet_tup h1 h2 h3 (fun v hv E' Q' q => ?_) h
  rw [h4] at hv
  rcases List.mem_cons.mp hv with e | hv
  · rw [e, eqIsQuiet_byValue _ rfl]
    exact wpAny_pure q
  · rw [List.mem_singleton.mp hv]
    rcases h5 with ⟨i, t2, _, eu⟩ | ⟨ns, b, ob, its, m, _, eu, g1, g2, g3, g4⟩
    · rw [eu, eqIsQuiet_byValue _ rfl]
      exact wpAny_pure q
    · rw [eu]
      refine quiet_tup g1 g2 g3 (fun v hv E'' Q'' q' => ?_) q
      have by1 := (ints_items (prog := prog) (w := w) ns _ _ g4).byValue v hv
      rw [eqIsQuiet_byValue _ by1]
      exact wpAny_pure q'
/-- hash of a row -/
def rowH (w : World) : RowK → Int
  | (x, .inl i) => reduceHash (Builtin.Tuple.tupleHashOf [hashStr w x, hashInt i])
  | (x, .inr ns) => reduceHash (Builtin.Tuple.tupleHashOf [hashStr w x, reduceHash (Builtin.Tuple.tupleHashOf (ns.map hashInt))])
def rowN : RowK → Nat
  | (_, .inl _) => 3
  | (_, .inr ns) => 1 + (ns.length + 1) + 1
/-- v's hash is z, found with n new marks, wherever there is room -/
def HashTo (r : Nat) (prog : Program) (w : World) (h : Heap) (v : Value) (z : Int) (n : Nat) : Prop := ∀ (A : Around) (E : Value → Shared → Prop) (s : Shared) (Q : Int → Shared → Prop), A.units + r < cLine → s.heap = h → Q z { s with toks := s.toks + n } → wpAny (model prog w) A (pyHash v) Q E s
inductive AllHash (r : Nat) (prog : Program) (w : World) (h : Heap) : List Value → List Int → Nat → Prop
  | nil : AllHash r prog w h [] [] 0
  | cons {v : Value} {vs : List Value} {z : Int} {zs : List Int} {n m : Nat} : HashTo r prog w h v z n → AllHash r prog w h vs zs m → AllHash r prog w h (v :: vs) (z :: zs) (n + m)
theorem hash_tup {r : Nat} {a : Addr} {o : Obj} {items : Array Value} {n m : Nat} {zs : List Int} {Q : Int → Shared → Prop} (hu : A.units + (r + 3) < cLine) (ho : s.heap.get? a = some o) (hc : o.cls = .type "tuple") (hd : o.data = .seq items n)
    (hz : AllHash r prog w s.heap items.toList zs m) (h : Q (reduceHash (Builtin.Tuple.tupleHashOf zs)) { s with toks := s.toks + (m + 1) }) : wpAny (model prog w) A (pyHash (.ref a)) Q E s := by
  have ty : s.TypeIs (.ref a) "tuple" := ⟨o, ho, hc⟩
  unfold pyHash pyHashByItsType
  refine wpAny_bind (wpAny_cRoomFor_or (.inr (by omega)) (wpAny_bind (wpAny_specialOf ty F.slot_tuple_hash.lookup ?_)))
  show wpAny _ _ (if (some (Value.builtin "tuple.__hash__") == some Value.none) = true then _ else _) _ _ _
  rw [beq_builtin_none, if_neg Bool.false_ne_true]
  refine wpAny_bind (wpAny_specialOf ty F.slot_tuple_hash.lookup ?_)
  show wpAny _ _ (callSpecialIfBoundUnlessNone? (.ref a) "__hash__" _ >>= fun _ => _) _ _ _
  refine wpAny_bind (wpAny_callSpecialIfBoundUnlessNone?_slot ty F.slot_tuple_hash (wpAny_call_entry F.slot_tuple_hash ty F.entry_tuple_hash ?_ (F.args_tuple_hash_1 _)))
  show wpAny _ _ (Builtin.Tuple.tupleItemsOf (.ref a) >>= fun _ => _) _ _ _
  refine wpAny_bind (wpAny_tupleItemsOf ho hd (wpAny_bind ?_))
  rw [← Array.forIn_toList]
  refine wpAny_forIn_list _ (fun left (acc : Array Int) s1 => ∃ (d l : List Int) (i j : Nat), zs = d ++ l ∧ acc.toList = d ∧ i + j = m ∧ AllHash r prog w s.heap left l j ∧ s1 = { s with toks := s.toks + i }) _ ?_ ?_ _ _ ⟨[], zs, 0, m, rfl, rfl, Nat.zero_add m, hz, rfl⟩
  · rintro v left acc s1 ⟨d, l, i, j, e1, e2, e3, hl, rfl⟩
    cases hl with
    | @cons _ _ z zs' n' m' g1 g2 =>
      refine wpAny_bind (g1 _ _ _ _ ?_ rfl ?_)
      · show _ + 1 + r < cLine
        omega
      · have fin : ∃ (d' l' : List Int) (i' j' : Nat), zs = d' ++ l' ∧ (acc.push z).toList = d' ∧ i' + j' = m ∧ AllHash r prog w s.heap left l' j' ∧ ({ s with toks := s.toks + i + n' } : Shared) = { s with toks := s.toks + i' } :=
          ⟨d ++ [z], zs', i + n', m', by rw [e1]; simp, by rw [Array.toList_push, e2], by omega, g2, by rw [Nat.add_assoc]⟩
        first
          | exact wpAny_pure fin
          | exact wpAny_bind (wpAny_pure (wpAny_pure fin))
  · rintro acc s1 ⟨d, l, i, j, e1, e2, e3, hl, rfl⟩
    cases hl
    rw [List.append_nil] at e1
    subst e1
    show wpAny _ _ (retInt (Builtin.Tuple.tupleHashOf acc.toList)) _ _ _
    rw [e2]
    refine wpAny_ret_mkInt ?_
    show wpAny _ _ (if (decide (-(2 : Int) ^ 63 ≤ Builtin.Tuple.tupleHashOf zs) && decide (Builtin.Tuple.tupleHashOf zs < 2 ^ 63)) = true then _ else _) _ _ _
    have em : s.toks + i + 1 = s.toks + (m + 1) := by omega
    unfold reduceHash at h
    split
    · rename_i hr
      rw [if_pos hr] at h
      refine wpAny_pure ?_
      rw [show ({ s with toks := s.toks + i + 1 } : Shared) = { s with toks := s.toks + (m + 1) } from by rw [em]]
      exact h
    · rename_i hr
      rw [if_neg hr] at h
      refine wpAny_bind (wpAny_rule (wpAny_pure ?_))
      rw [show ({ s with toks := s.toks + i + 1 } : Shared) = { s with toks := s.toks + (m + 1) } from by rw [em]]
      exact h
theorem hash_int {r : Nat} {h : Heap} (i : Int) (t : Tok) : HashTo r prog w h (.int i t) (hashInt i) 1 := fun A E s Q _ _ q => (intKind prog w).pyHash (k := i) (by simp [intKind, Value.isInt]) q
theorem hash_str {r : Nat} {h : Heap} (x : Str) (t : Tok) : HashTo r prog w h (.str x t) (hashStr w x) 1 := fun A E s Q _ _ q => (strKind prog w).pyHash (k := x) (by simp [strKind, Value.isStrOf]) q
theorem ints_hash {r : Nat} {h : Heap} : ∀ (ns : List Int) (vs : List Value) (as : List Addr), ReadsAll h vs (ns.map PyData.int) as → AllHash r prog w h vs (ns.map hashInt) ns.length
  | [], _, _, r => by
    cases r
    exact .nil
  | n :: ns, _, _, r => by
    rw [List.map_cons] at r
    cases r with
    | cons h1 h2 =>
      cases h1
      rw [List.length_cons, Nat.add_comm]
      exact .cons (hash_int _ _) (ints_hash ns _ _ h2)
theorem row_hash {k : RowK} {a : Addr} {Q : Int → Shared → Prop} (hu : A.units + 10 < cLine) (r : IsRow s.heap k a) (h : Q (rowH w k) { s with toks := s.toks + rowN k }) : wpAny (model prog w) A (pyHash (.ref a)) Q E s := by
  obtain ⟨o, t, u, items, n, h1, h2, h3, h4, h5⟩ := row_parts r
  obtain ⟨x, y⟩ := k
  rcases h5 with ⟨i, t2, e, rfl⟩ | ⟨ns, b, ob, its, m, e, rfl, g1, g2, g3, g4⟩
  · have e' : y = .inl i := e
    subst e'
    refine hash_tup (r := 5) (m := 2) (by omega) h1 h2 h3 (zs := [hashStr w x, hashInt i]) ?_ h
    rw [h4]
    exact AllHash.cons (hash_str x t) (AllHash.cons (hash_int i t2) .nil)
  · have e' : y = .inr ns := e
    subst e'
    refine hash_tup (r := 5) (m := 1 + (ns.length + 1)) (by omega) h1 h2 h3 (zs := [hashStr w x, reduceHash (Builtin.Tuple.tupleHashOf (ns.map hashInt))]) ?_ h
    rw [h4]
    refine AllHash.cons (hash_str x t) ?_
    have z : AllHash 5 prog w s.heap [Value.ref b] [reduceHash (Builtin.Tuple.tupleHashOf (ns.map hashInt))] ((ns.length + 1) + 0) := .cons (fun A' E' s' Q' hu' hs' q' => ?_) .nil
    · exact z
    · rw [← hs'] at g1 g4
      exact hash_tup (r := 1) (by omega) g1 g2 g3 (ints_hash ns _ _ g4) q'
end
/-- rows as keys -/
def rowKind (prog : Program) (w : World) : HeapKind prog w RowK where
  is := IsRow
  hash := rowH w
  draws := rowN
  room := fun A => A.units + 64 < cLine
  inj := isRow_inj
  keeps := row_keeps
  pyHash := fun hu hk h => row_hash (by omega) hk h
  eqBool := fun hu hx hy h => row_eq hu hx hy h
  quiet := fun hk h => row_quiet hk h
end Tp
set_option Elab.async false
set_option linter.all false
set_option maxRecDepth 100000
set_option maxHeartbeats 4000000
/-! a dict the keys of which are rows of a book -/
namespace Tp
open PySem PySem.Spec PyProof.Rows L2
/-- a tuple is the row k -/
def RowAt (K : PySem.W.Frag) (H : Hp) (k : RowK) (a : Addr) : Prop := PyData.strOk k.1 = true ∧ ((∃ n : Int, k.2 = .inl n ∧ SqT K H a [.str k.1, .int n]) ∨ ∃ (ns : List Int) (b : Addr), k.2 = .inr ns ∧ SqT K H a [.str k.1, .ref b] ∧ SqT K H b (ns.map V.int))
theorem RowAt.mono {K : PySem.W.Frag} {H H' : Hp} {k : RowK} {a : Addr} (ht : ∀ b ys, SqT K H b ys → SqT K H' b ys) (h : RowAt K H k a) : RowAt K H' k a := by
  obtain ⟨h1, h2⟩ := h
  refine ⟨h1, ?_⟩
  rcases h2 with ⟨n, e, h⟩ | ⟨ns, b, e, g1, g2⟩
  · exact .inl ⟨n, e, ht _ _ h⟩
  · exact .inr ⟨ns, b, e, ht _ _ g1, ht _ _ g2⟩
theorem vals_intsR {h : Heap} : ∀ (ns : List Int) (us : List Value), Vals (ns.map V.int) us → ReadsAll h us (ns.map PyData.int) []
  | [], us, r => by
    cases us with
    | nil => exact .nil
    | cons u us => cases r
  | n :: ns, us, r => by
    rw [List.map_cons] at r ⊢
    cases r with
    | cons r1 r2 =>
      obtain ⟨t, rfl⟩ := r1
      exact ReadsAll.cons (as := []) (bs := []) (.int n t) (vals_intsR ns _ r2)
theorem row_is {X : Cx} {pins : List (Addr × Obj)} {σ : L2.St} {s : Shared} {H : Hp} {k : RowK} {a : Addr} (I : Inv X pins σ H s) (r : RowAt X.K H k a) : IsRow s.heap k a := by
  obtain ⟨h0, h1⟩ := r
  rcases h1 with ⟨n, e, ea⟩ | ⟨ns, b, e, ea, eb⟩
  · obtain ⟨its, rv, ⟨o, g1, g2, m, g3⟩, _⟩ := I.tuple ea
    obtain ⟨u1, u2, rfl, ⟨t1, rfl⟩, ⟨t2, rfl⟩⟩ := vals2 rv
    exact row_of h0 g1 g2 g3 (t := t1) (by simp) (.inl ⟨n, t2, e, rfl⟩)
  · obtain ⟨its, rv, ⟨o, g1, g2, m, g3⟩, _⟩ := I.tuple ea
    obtain ⟨jts, rj, ⟨ob, j1, j2, mj, j3⟩, _⟩ := I.tuple eb
    obtain ⟨u1, u2, rfl, ⟨t1, rfl⟩, r2⟩ := vals2 rv
    cases (show u2 = Value.ref b from r2)
    exact row_of h0 g1 g2 g3 (t := t1) (by simp) (.inr ⟨ns, b, ob, jts.toArray, mj, e, rfl, j1, j2, j3, by simpa using vals_intsR ns jts rj⟩)
/-- keys, where they lie, values -/
abbrev RowE : Type := RowK × Addr × V
abbrev KR : List RowE → List (RowK × Addr × Value) → Prop := Paired fun p q => p.1 = q.1 ∧ p.2.1 = q.2.1 ∧ RelV p.2.2 q.2.2
/-- the dict at d -/
def dRow (P : Program) (w : World) (d : Addr) (xs : List RowE) : HO := .ext fun h => xs.length ≤ sizeLine ∧ (d == sysModules) = false ∧ ∃ (ys : List (RowK × Addr × Value)) (o : Obj) (es : Array DictEntry) (ep : Nat), KR xs ys ∧ h.get? d = some o ∧ o.ExactDict ∧ o.data = .dict es ep ∧
  es.toList = ys.map (entryOfKey (rowKind P w)) ∧ (ys.map (·.1)).Nodup
def RowsIn (K : PySem.W.Frag) (H : Hp) (xs : List RowE) : Prop := ∀ x ∈ xs, RowAt K H x.1 x.2.1
def findR (xs : List RowE) (k : RowK) : Option V := (xs.find? fun x => decide (x.1 = k)).map (·.2.2)
section
variable {P : Program} {w : World} {H : Hp} {h : Heap} {d : Addr} {xs : List RowE}
theorem dRow_ok {ys : List (RowK × Addr × Value)} {o : Obj} {es : Array DictEntry} {ep : Nat} (z : xs.length ≤ sizeLine) (hd : (d == sysModules) = false) (r : KR xs ys) (h1 : h.get? d = some o) (h2 : o.ExactDict) (h3 : o.data = .dict es ep) (h4 : es.toList = ys.map (entryOfKey (rowKind P w))) (h5 : (ys.map (·.1)).Nodup) : ObjOk P w H h d (dRow P w d xs) :=
  ⟨⟨z, hd, ys, o, es, ep, r, h1, h2, h3, h4, h5⟩, ⟨o, h1⟩, fun g1 g2 q k => by
    obtain ⟨z, hd, ys, o, es, ep, r, h1, h2⟩ := q
    exact ⟨z, hd, ys, o, es, ep, r, k _ h1, h2⟩⟩
theorem find_rel (k : RowK) : ∀ {xs : List RowE} {ys : List (RowK × Addr × Value)}, KR xs ys → RelO (findR xs k) ((atKey ys k).map (·.2))
  | _, _, .nil => True.intro
  | x :: xs, y :: ys, .cons hq t => by
    have ih := find_rel k t
    unfold findR atKey at ih ⊢
    rw [List.find?_cons, List.find?_cons, hq.1]
    by_cases e : y.1 = k
    · simp only [e, decide_true]
      exact hq.2.2
    · simp only [e, decide_false]
      exact ih
end
section
variable {X : Cx} {pins : List (Addr × Obj)} {σ : L2.St} {H : Hp} {s : Shared} {d a : Addr} {xs : List RowE} {k : RowK} {A : Around} {E : Value → Shared → Prop}
theorem dRow_at (I : Inv X pins σ H s) (e : H d = some (dRow X.prog X.w d xs)) (hr : RowsIn X.K H xs) : xs.length ≤ sizeLine ∧ (d == sysModules) = false ∧ ∃ ys, KR xs ys ∧ s.heap.DictOfH (rowKind X.prog X.w) d ys := by
  have x : ObjOk X.prog X.w H s.heap d (.ext _) := I.hok d _ e
  obtain ⟨z, hd, ys, o, es, ep, r, h1, h2, h3, h4, h5⟩ := x.1
  refine ⟨z, hd, ys, r, o, es, ep, h1, h2, h3, h4, ?_, h5⟩
  have all : ∀ {l : List RowE} {m : List (RowK × Addr × Value)}, KR l m → (∀ x ∈ l, RowAt X.K H x.1 x.2.1) → ∀ y ∈ m, IsRow s.heap y.1 y.2.1 := by
    intro l m q
    induction q with
    | nil => exact fun _ y hy => absurd hy List.not_mem_nil
    | @cons p q ps qs hq t ih =>
      intro hl y hy
      rcases List.mem_cons.mp hy with e | hy
      · have := row_is I (hl p List.mem_cons_self)
        rw [e, ← hq.1, ← hq.2.1]
        exact this
      · exact ih (fun x hx => hl x (List.mem_cons_of_mem _ hx)) y hy
  exact all r hr
theorem rd_in {Q : Value → Shared → Prop} (hu : A.units + 65 < cLine) (I : Inv X pins σ H s) (e : H d = some (dRow X.prog X.w d xs)) (hr : RowsIn X.K H xs) (ek : RowAt X.K H k a) (h : ∀ s', Inv X pins σ H s' → Q (.bool (findR xs k).isSome) s') :
    wpAny (model X.prog X.w) A (compareOp .In (.ref a) (.ref d)) Q E s := by
  obtain ⟨z, hd, ys, rel, dd⟩ := dRow_at I e hr
  refine wpAny_in_heap (knd := rowKind X.prog X.w) (k := k) (show A.units + 1 + 64 < cLine from by omega) (row_is I ek) hd dd ?_
  have q := (find_rel k rel).isSome_eq
  rw [Option.isSome_map] at q
  rw [← q]
  exact h _ (I.tok _)
theorem rd_get {v : V} {Q : Value → Shared → Prop} (hu : A.units + 65 < cLine) (I : Inv X pins σ H s) (e : H d = some (dRow X.prog X.w d xs)) (hr : RowsIn X.K H xs) (ek : RowAt X.K H k a) (l : findR xs k = some v) (h : ∀ w' s', Inv X pins σ H s' → RelV v w' → Q w' s') :
    wpAny (model X.prog X.w) A (getItem (.ref d) (.ref a)) Q E s := by
  obtain ⟨z, hd, ys, rel, dd⟩ := dRow_at I e hr
  obtain ⟨w', hw, rw'⟩ := RelO.some_of (v := v) (o := (atKey ys k).map (·.2)) (by rw [← l]; exact find_rel k rel)
  obtain ⟨p, hp, hp2⟩ := Option.map_eq_some_iff.mp hw
  refine wpAny_getItem_heap (knd := rowKind X.prog X.w) (k := k) (show A.units + 1 + 64 < cLine from by omega) (row_is I ek) dd hp ?_
  rw [hp2]
  exact h w' _ (I.tok _) rw'
/-- a new row -/
theorem rd_put {v : V} {r : Value} {Q : Unit → Shared → Prop} (hu : A.units + 65 < cLine) (I : Inv X pins σ H s) (e : H d = some (dRow X.prog X.w d xs)) (hr : RowsIn X.K H xs) (ek : RowAt X.K H k a) (l : findR xs k = none) (hz : xs.length < sizeLine) (rv : RelV v r)
    (h : ∀ s', Inv X pins σ (upd H d (dRow X.prog X.w d (xs ++ [(k, a, v)]))) s' → Q () s') : wpAny (model X.prog X.w) A (setItem (.ref d) (.ref a) r) Q E s := by
  obtain ⟨z, hd, ys, rel, dd⟩ := dRow_at I e hr
  have hn : atKey ys k = none := Option.map_eq_none_iff.mp (RelO.none_of (by rw [← l]; exact find_rel k rel))
  have hzy : ys.length ≤ sizeLine := by rw [← Paired.length rel]; exact z
  refine wpAny_setItem_heap (knd := rowKind X.prog X.w) (k := k) (hsz := hzy) (show A.units + 1 + 64 < cLine from by omega) (row_is I ek) dd fun h' dd' hs => h _ ?_
  obtain ⟨o, es, ep, h1, h2, h3, h4, _, h5⟩ := dd'
  rw [storedH_new hn] at h4 h5
  exact d_write I (by rw [e]; exact True.intro) hs ⟨o, h1⟩ (dRow_ok (by rw [List.length_append, List.length_singleton]; omega) hd (Paired.snoc rel ⟨rfl, rfl, rv⟩) h1 h2 h3 h4 h5)
end
end Tp
set_option Elab.async false
set_option linter.all false
set_option maxRecDepth 100000
set_option maxHeartbeats 4000000
/-! rules: {}, row in d, row not in d, d[row], d[row] = v -/
namespace Tp
open PySem PySem.Spec PyProof.Rows L2
def tRNew (P : Program) (w : World) : TE := fun _ H Q => ∀ p, H p = none → Q (.ref p) (upd H p (dRow P w p []))
/-- what is asked of the row at a and the dict at d -/
def RowIn (P : Program) (w : World) (K : PySem.W.Frag) (H : Hp) (x y : V) (xs : List RowE) (k : RowK) (a d : Addr) : Prop := x = .ref a ∧ y = .ref d ∧ H d = some (dRow P w d xs) ∧ RowsIn K H xs ∧ RowAt K H k a
def rRIn (P : Program) (w : World) (K : PySem.W.Frag) (no : Bool) : R2 := fun x y H Q => ∃ xs k a d, RowIn P w K H x y xs k a d ∧ Q (.bl ((findR xs k).isSome != no)) H
def tRGet (P : Program) (w : World) (K : PySem.W.Frag) (td ty : TE) : TE := fun σ H Q => td σ H fun y H1 => ty σ H1 fun x H2 => ∃ xs k a d v, RowIn P w K H2 x y xs k a d ∧ findR xs k = some v ∧ Q v H2
def tRPut (P : Program) (w : World) (K : PySem.W.Frag) (td ty tv : TE) : TS := fun D σ H => tv σ H fun v H1 => td σ H1 fun y H2 => ty σ H2 fun x H3 => ∃ xs k a d, RowIn P w K H3 x y xs k a d ∧ findR xs k = none ∧ xs.length < sizeLine ∧ D.nx σ (upd H3 d (dRow P w d (xs ++ [(k, a, v)])))
section
variable {X : Cx} {o i value : Expr} {pos pos' : Pos} {td ty tv : TE}
theorem pe_rnew : PE X (.Dict [] [] pos) (tRNew X.prog X.w) := ⟨fun pins s σ H Q I h =>
  wpAny_Dict_empty ⟨.ref s.heap.objs.size, _, I.laid (a := s.heap.objs.size) (o := dRow X.prog X.w s.heap.objs.size []) (t' := s.toks) (fun _ _ q => Heap.get?_push_of_some _ q) (Nat.le_refl _)
    (dRow_ok (Nat.zero_le _) (beq_eq_false_iff_ne.mpr (Ne.symm (Nat.ne_of_lt I.big))) .nil (Heap.get?_push_size _ rfl) ⟨rfl, rfl, rfl⟩ rfl rfl List.nodup_nil), rfl, h _ (I.hok.fresh (Nat.le_refl _))⟩⟩
theorem op_rin (hu : X.A.units + 65 < cLine) : OpR X (compareOp .In) (rRIn X.prog X.w X.K false) := by
  intro pins s σ H x y u v Q I rx ry h
  obtain ⟨xs, k, a, d, ⟨rfl, rfl, ed, hr, ek⟩, q⟩ := h
  cases (show u = Value.ref a from rx)
  cases (show v = Value.ref d from ry)
  refine rd_in hu I ed hr ek fun s' J => ⟨.bl (findR xs k).isSome, H, J, rfl, ?_⟩
  rwa [Bool.bne_false] at q
theorem op_rnotIn (hu : X.A.units + 65 < cLine) : OpR X (compareOp .NotIn) (rRIn X.prog X.w X.K true) := by
  intro pins s σ H x y u v Q I rx ry h
  obtain ⟨xs, k, a, d, ⟨rfl, rfl, ed, hr, ek⟩, q⟩ := h
  cases (show u = Value.ref a from rx)
  cases (show v = Value.ref d from ry)
  obtain ⟨z, hd, ys, rel, dd⟩ := dRow_at I ed hr
  refine wpAny_notIn_heap (knd := rowKind X.prog X.w) (k := k) (show X.A.units + 1 + 64 < cLine from by omega) (row_is I ek) hd dd ⟨.bl (!(findR xs k).isSome), H, I.tok _, ?_, ?_⟩
  · have e := (find_rel k rel).isSome_eq
    rw [Option.isSome_map] at e
    rw [← e]
    rfl
  · rwa [Bool.bne_true] at q
theorem pe_rget (hu : X.A.units + 65 < cLine) (ho : PE X o td) (hi : PE X i ty) (hs : NoSl i) : PE X (.Subscript o i pos) (tRGet X.prog X.w X.K td ty) := by
  refine ⟨fun pins s σ H Q I h => ?_⟩
  refine subD_of PySem.F.slot_dict_getitem.lookup hs (thn (ho.run pins s σ H _ I h) fun u s1 ⟨y, H1, I1, r1, q1⟩ => thn (hi.run pins s1 σ H1 _ I1 q1) fun v s2 ⟨x, H2, I2, r2, xs, k, a, d, c, ⟨ex, ey, ed, hr, ek⟩, l, q2⟩ => ?_)
  subst ex ey
  cases (show u = Value.ref d from r1)
  cases (show v = Value.ref a from r2)
  obtain ⟨z, hd, ys, rel, dd⟩ := dRow_at I2 ed hr
  exact ⟨dd.typeIs, rd_get hu I2 ed hr ek l fun w' s3 I3 rw' => ⟨c, H2, I3, rw', q2⟩⟩
theorem ps_rput (hu : X.A.units + 65 < cLine) (ho : PE X o td) (hi : PE X i ty) (hv : PE X value tv) (hs : swapsWith value (some (.Subscript o i pos')) pos.line X.env = pure false) :
    PS X (.Assign [.Subscript o i pos'] value pos) (tRPut X.prog X.w X.K td ty tv) := by
  refine ⟨fun pins s σ H D I h => ?_⟩
  refine wpAny_Assign_Subscript (thn (hv.run pins s σ H _ I h) fun r s1 ⟨v, H1, I1, rv, q1⟩ => thn (ho.run pins s1 σ H1 _ I1 q1) fun u s2 ⟨y, H2, I2, r2, q2⟩ => thn (hi.run pins s2 σ H2 _ I2 q2) fun iv s3 ⟨x, H3, I3, r3, xs, k, a, d, ⟨ex, ey, ed, hr, ek⟩, l, hz, q3⟩ => ?_) hs
  subst ex ey
  cases (show u = Value.ref d from r2)
  cases (show iv = Value.ref a from r3)
  exact rd_put hu I3 ed hr ek l hz rv fun s4 I4 => ⟨σ, _, I4, q3⟩
theorem ps_rputK {P : Program} {w : World} {K : PySem.W.Frag} (eP : X.prog = P) (ew : X.w = w) (eK : X.K = K) (hu : X.A.units + 65 < cLine) (ho : PE X o td) (hi : PE X i ty) (hv : PE X value tv) (hs : swapsWith value (some (.Subscript o i pos')) pos.line X.env = pure false) :
    PS X (.Assign [.Subscript o i pos'] value pos) (tRPut P w K td ty tv) := by
  subst eP
  subst ew
  subst eK
  exact ps_rput hu ho hi hv hs
theorem pe_rnewK {P : Program} {w : World} (eP : X.prog = P) (ew : X.w = w) : PE X (.Dict [] [] pos) (tRNew P w) := by
  subst eP
  subst ew
  exact pe_rnew
end
end Tp
set_option Elab.async false
set_option linter.all false
set_option maxRecDepth 100000
set_option maxHeartbeats 4000000
/-! books: the rows, the tables beside them, where they stand; max with a default -/
namespace Tp
open PySem PySem.Spec PyProof.Rows L2
/-! ### max(xs, default=k) -/
def rMaxDef (K : PySem.W.Frag) : List V → List V → Hp → VK → Prop := fun vs zs H Q => ∃ (a : Addr) (ns : List Int) (k : Int), vs = [.ref a] ∧ zs = [.int k] ∧ SqL K H a (ns.map V.int) ∧ ∀ m : Int, (ns = [] ∧ m = k ∨ m ∈ ns ∧ ∀ n ∈ ns, n ≤ m) → Q (.int m) H
open PySem.W (maxOf DatumOrd Datum max_list_datum_default) in
theorem maxOf_is : ∀ (ys : List Int) (y : Int), (maxOf y ys ∈ y :: ys) ∧ ∀ n ∈ y :: ys, n ≤ maxOf y ys
  | [], y => ⟨List.mem_cons_self, fun n hn => by
      have : n = y := by simpa using hn
      rw [this]
      exact Int.le_refl _⟩
  | z :: ys, y => by
    have e : maxOf y (z :: ys) = maxOf (if DatumOrd.lt y z = true then z else y) ys := rfl
    have lt : DatumOrd.lt y z = decide (y < z) := rfl
    rw [e, lt]
    by_cases h : y < z
    · rw [decide_eq_true h, if_pos rfl]
      obtain ⟨h1, h2⟩ := maxOf_is ys z
      refine ⟨List.mem_cons_of_mem _ h1, fun n hn => ?_⟩
      rcases List.mem_cons.mp hn with rfl | hn
      · exact Int.le_trans (Int.le_of_lt h) (h2 z List.mem_cons_self)
      · exact h2 n hn
    · rw [decide_eq_false h, if_neg (by decide)]
      obtain ⟨h1, h2⟩ := maxOf_is ys y
      refine ⟨?_, fun n hn => ?_⟩
      · rcases List.mem_cons.mp h1 with e | e
        · rw [e]
          exact List.mem_cons_self
        · exact List.mem_cons_of_mem _ (List.mem_cons_of_mem _ e)
      · rcases List.mem_cons.mp hn with rfl | hn
        · exact h2 n List.mem_cons_self
        · rcases List.mem_cons.mp hn with rfl | hn
          · exact Int.le_trans (Int.not_lt.mp h) (h2 y List.mem_cons_self)
          · exact h2 n (List.mem_cons_of_mem _ hn)
open PySem.W (Datum) in
theorem ints_hold {h : Heap} : ∀ {its : List Value} {ns : List Int}, Vals (ns.map V.int) its → ReadsAll h its (ns.map Datum.toD) []
  | its, [], r => by
    cases its with
    | nil => exact .nil
    | cons u us => cases r
  | its, n :: ns, r => by
    rw [List.map_cons] at r ⊢
    cases r with
    | cons r1 r2 =>
      obtain ⟨t, rfl⟩ := r1
      exact ReadsAll.cons (as := []) (bs := []) (.int n t) (ints_hold r2)
open PySem.W (maxOf DatumOrd Datum max_list_datum_default) in
theorem cr_maxDef {X : Cx} (hc : X.calm = true) (hu : X.A.units + 64 < cLine) : CallRK X (.builtin "max") [Str.ofString "default"] (rMaxDef X.K) := by
  intro pins s σ H vs zs us ws Q I r rz h
  obtain ⟨a, ns, k, rfl, rfl, hs, q⟩ := h
  obtain ⟨its, rv, hl, _⟩ := I.list hs
  rw [Vals.ref1 r]
  obtain ⟨w1, rfl, t, rfl⟩ := vals1 rz
  refine max_list_datum_default (xs := ns) (I.ok.hd hc) hl.isList ⟨_, ints_hold (by simpa using rv)⟩ ?_ (fun e h' tk hk => ⟨.int k, H, I.kept hk, ⟨_, rfl⟩, q k (.inl ⟨e, rfl⟩)⟩) fun y ys i v h' tk e hi hv hk => ?_
  · show X.A.units + 1 + 0 < cLine
    omega
  · obtain ⟨as, hr⟩ := hv
    have hr : Reads h' v (.int (maxOf y ys)) as := hr
    cases hr
    subst e
    exact ⟨.int _, H, I.kept hk, ⟨_, rfl⟩, q _ (.inr (maxOf_is ys y))⟩
/-! ### the rows of a book, and the tables beside them -/
/-- the numbers of the arguments -/
def argsK : RowK → List Int
  | (_, .inl _) => []
  | (_, .inr ns) => ns
/-- a term as a text, from the texts of its arguments -/
def textK : RowK → List Str → Str
  | (x, .inl n), _ => x ++ "@" ++ toString n
  | (x, .inr []), _ => x
  | (x, .inr (_ :: _)), ts => x ++ "(" ++ Txt.join "," ts ++ ")"
def atL (l : List Int) (i : Int) : Int := l.getD i.toNat 0
def sumAt (l : List Int) (k : RowK) : Int := ((argsK k).map (atL l)).sum
def maxAt (l : List Int) (k : RowK) : Int := ((argsK k).map (atL l)).foldl max 0
def bareK (k : RowK) : Int := ((textK k (List.replicate (argsK k).length ("" : Str))).length : Nat)
def szs : List RowK → List Int := fun rs => rs.foldl (fun l k => l ++ [1 + sumAt l k]) []
def dps : List RowK → List Int := fun rs => rs.foldl (fun l k => l ++ [1 + maxAt l k]) []
def lns : List RowK → List Int := fun rs => rs.foldl (fun l k => l ++ [bareK k + sumAt l k]) []
theorem szs_snoc (rs : List RowK) (k : RowK) : szs (rs ++ [k]) = szs rs ++ [1 + sumAt (szs rs) k] := by unfold szs; rw [List.foldl_append]; rfl
theorem dps_snoc (rs : List RowK) (k : RowK) : dps (rs ++ [k]) = dps rs ++ [1 + maxAt (dps rs) k] := by unfold dps; rw [List.foldl_append]; rfl
theorem lns_snoc (rs : List RowK) (k : RowK) : lns (rs ++ [k]) = lns rs ++ [bareK k + sumAt (lns rs) k] := by unfold lns; rw [List.foldl_append]; rfl
theorem fold_len {g : List Int → RowK → Int} : ∀ (rs : List RowK) (l : List Int), (rs.foldl (fun l k => l ++ [g l k]) l).length = l.length + rs.length
  | [], _ => rfl
  | k :: rs, l => by
    rw [List.foldl_cons, fold_len rs, List.length_append, List.length_singleton, List.length_cons]
    omega
theorem szs_len (rs : List RowK) : (szs rs).length = rs.length := by unfold szs; rw [fold_len (g := fun l k => 1 + sumAt l k)]; simp
theorem dps_len (rs : List RowK) : (dps rs).length = rs.length := by unfold dps; rw [fold_len (g := fun l k => 1 + maxAt l k)]; simp
theorem lns_len (rs : List RowK) : (lns rs).length = rs.length := by unfold lns; rw [fold_len (g := fun l k => bareK k + sumAt l k)]; simp
theorem max_fold : ∀ (ns : List Int) (m b : Int), (∀ n ∈ ns, n ≤ m) → b ≤ m → (m = b ∨ m ∈ ns) → ns.foldl max b = m
  | [], m, b, _, _, h => h.elim (fun e => e.symm) fun z => absurd z List.not_mem_nil
  | n :: ns, m, b, h, hb, hm => by
    have h0 := h n List.mem_cons_self
    refine max_fold ns m (max b n) (fun x hx => h x (List.mem_cons_of_mem _ hx)) (by omega) ?_
    rcases hm with e | e
    · exact .inl (by omega)
    · rcases List.mem_cons.mp e with e | e
      · exact .inl (by omega)
      · exact .inr e
theorem max_is {ns : List Int} {m : Int} (h : ns = [] ∧ m = 0 ∨ m ∈ ns ∧ ∀ n ∈ ns, n ≤ m) (h0 : ∀ n ∈ ns, 0 ≤ n) : m = ns.foldl max 0 := by
  rcases h with ⟨rfl, rfl⟩ | ⟨h1, h2⟩
  · rfl
  · exact (max_fold ns m 0 h2 (h0 m h1) (.inr h1)).symm
theorem fold_ge : ∀ (ns : List Int) (b : Int), b ≤ ns.foldl max b
  | [], b => Int.le_refl b
  | n :: ns, b => by
    have := fold_ge ns (max b n)
    show b ≤ ns.foldl max (max b n)
    omega
theorem fold_pos {g : List Int → RowK → Int} (hg : ∀ l k, 0 ≤ g l k) : ∀ (rs : List RowK) (l : List Int), (∀ x ∈ l, 0 ≤ x) → ∀ x ∈ rs.foldl (fun l k => l ++ [g l k]) l, 0 ≤ x
  | [], _, h => h
  | k :: rs, l, h => fold_pos hg rs _ fun x hx => by
    rcases List.mem_append.mp hx with e | e
    · exact h x e
    · rw [List.mem_singleton.mp e]
      exact hg l k
theorem dps_pos (rs : List RowK) : ∀ x ∈ dps rs, 0 ≤ x := fold_pos (g := fun l k => 1 + maxAt l k) (fun l k => by
  have := fold_ge ((argsK k).map (atL l)) 0
  unfold maxAt
  omega) rs [] fun x hx => absurd hx List.not_mem_nil
theorem atL_pos {l : List Int} (h : ∀ x ∈ l, 0 ≤ x) (i : Int) : 0 ≤ atL l i := by
  unfold atL
  rw [List.getD_eq_getElem?_getD]
  cases e : l[i.toNat]? with
  | none => exact Int.le_refl 0
  | some x => exact h x (List.mem_of_getElem? e)
/-- may the row stand behind n rows? -/
def OkK (n : Nat) (k : RowK) : Prop := nameB (TL.tl k.1) = true ∧ match k.2 with
  | .inl t => 0 ≤ t ∧ t.natAbs.log2 < 1000
  | .inr ns => ns.length ≤ 3 ∧ ∀ i ∈ ns, 0 ≤ i ∧ i < (n : Int)
def OkRows (rs : List RowK) : Prop := ∀ i k, rs[i]? = some k → OkK i k
theorem okRows_nil : OkRows [] := fun i k e => by simp at e
theorem okRows_snoc {rs : List RowK} {k : RowK} (h : OkRows rs) (hk : OkK rs.length k) : OkRows (rs ++ [k]) := fun i j e => by
  rcases Nat.lt_or_ge i rs.length with hi | hi
  · rw [List.getElem?_append_left hi] at e
    exact h i j e
  · rw [List.getElem?_append_right hi] at e
    have h0 : i - rs.length = 0 := by
      rcases Nat.eq_zero_or_pos (i - rs.length) with z | z
      · exact z
      · rw [List.getElem?_eq_none (by rw [List.length_singleton]; omega)] at e
        cases e
    rw [h0] at e
    cases e
    have : i = rs.length := by omega
    rw [this]
    exact hk
theorem name_ok {x : Str} (h : nameB (TL.tl x) = true) : PyData.strOk x = true ∧ x.length ≤ 8 := by
  unfold nameB at h
  simp only [Bool.and_eq_true, decide_eq_true_eq] at h
  obtain ⟨⟨_, h1⟩, _, h2⟩ := h
  refine ⟨?_, by rw [TL.len_tl]; exact h1⟩
  have h3 : ∀ c ∈ TL.tl x, c < 0x110000 := fun c hc => by
    have := (List.all_eq_true.mp h2) c hc
    simp only [lowB, digB, Bool.or_eq_true, decide_eq_true_eq] at this
    omega
  show x.cps.all _ = true
  rw [← Array.all_toList]
  exact List.all_eq_true.mpr fun c hc => decide_eq_true (h3 c hc)
/-- what the dict holds -/
def entR : Nat → List RowK → List Addr → List RowE
  | i, k :: ks, a :: as => (k, a, .int (i : Nat)) :: entR (i + 1) ks as
  | _, _, _ => []
theorem entR_snoc : ∀ (i : Nat) (ks : List RowK) (as : List Addr) (k : RowK) (a : Addr), ks.length = as.length → entR i (ks ++ [k]) (as ++ [a]) = entR i ks as ++ [(k, a, .int ((i + ks.length : Nat)))]
  | i, [], [], k, a, _ => rfl
  | i, x :: ks, y :: as, k, a, h => by
    have ih := entR_snoc (i + 1) ks as k a (by simpa using h)
    show (x, y, V.int (i : Nat)) :: entR (i + 1) (ks ++ [k]) (as ++ [a]) = _
    rw [ih]
    have e : i + 1 + ks.length = i + (x :: ks).length := by rw [List.length_cons]; omega
    rw [e]
    rfl
  | _, [], _ :: _, _, _, h => by cases h
  | _, _ :: _, [], _, _, h => by cases h
theorem entR_len : ∀ (i : Nat) (ks : List RowK) (as : List Addr), ks.length = as.length → (entR i ks as).length = ks.length
  | i, [], [], _ => rfl
  | i, x :: ks, y :: as, h => congrArg Nat.succ (entR_len (i + 1) ks as (by simpa using h))
  | _, [], _ :: _, h => by cases h
  | _, _ :: _, [], h => by cases h
theorem findR_none : ∀ (i : Nat) (ks : List RowK) (as : List Addr) (k : RowK), k ∉ ks → findR (entR i ks as) k = none
  | i, [], _, k, _ => rfl
  | i, x :: ks, [], k, _ => rfl
  | i, x :: ks, y :: as, k, h => by
    have ih := findR_none (i + 1) ks as k fun z => h (List.mem_cons_of_mem _ z)
    unfold findR at ih ⊢
    show (List.find? _ ((x, y, V.int (i : Nat)) :: entR (i + 1) ks as)).map _ = none
    rw [List.find?_cons, show decide (x = k) = false from decide_eq_false fun z => h (by rw [z]; exact List.mem_cons_self)]
    exact ih
theorem findR_some : ∀ (i : Nat) (ks : List RowK) (as : List Addr) (k : RowK) (j : Nat), ks.length = as.length → ks[j]? = some k → (∀ m, m < j → ks[m]? ≠ some k) → findR (entR i ks as) k = some (.int ((i + j : Nat)))
  | i, x :: ks, y :: as, k, 0, hl, e, _ => by
    have e' : x = k := by simpa using e
    unfold findR
    show (List.find? _ ((x, y, V.int (i : Nat)) :: entR (i + 1) ks as)).map _ = _
    rw [List.find?_cons, show decide (x = k) = true from decide_eq_true e']
    rfl
  | i, x :: ks, y :: as, k, j + 1, hl, e, hn => by
    have ih := findR_some (i + 1) ks as k j (by simpa using hl) (by simpa using e) fun m hm => by
      have := hn (m + 1) (by omega)
      simpa using this
    unfold findR at ih ⊢
    show (List.find? _ ((x, y, V.int (i : Nat)) :: entR (i + 1) ks as)).map _ = _
    have hx : x ≠ k := fun z => hn 0 (by omega) (by rw [z]; rfl)
    rw [List.find?_cons, show decide (x = k) = false from decide_eq_false hx]
    have e2 : i + 1 + j = i + (j + 1) := by omega
    rw [← e2]
    exact ih
  | _, [], _, _, _, _, e, _ => by simp at e
  | _, _ :: _, [], _, _, h, _, _ => by cases h
end Tp
set_option Elab.async false
set_option linter.all false
set_option maxRecDepth 100000
set_option maxHeartbeats 4000000
/-! where a book stands, and that it stands on -/
namespace Tp
open PySem PySem.Spec PyProof.Rows L2
def NotTup (H : Hp) (b : Addr) : Prop := ∀ xs, ¬ Rd H b (.tup xs)
/-- all that was tracked is as it was, but at S -/
def Frame (S : List Addr) (H H' : Hp) : Prop := ∀ b o, b ∉ S → H b = some o → H' b = some o
theorem Frame.of {S : List Addr} {H H' : Hp} (s : Same H H') : Frame S H H' := fun b o _ e => s b o e
theorem Frame.tr {S : List Addr} {A B D : Hp} (a : Frame S A B) (b : Frame S B D) : Frame S A D := fun x o h e => b x o h (a x o h e)
theorem Frame.wide {S T : List Addr} {H H' : Hp} (h : Frame S H H') (hs : ∀ b ∈ S, b ∈ T) : Frame T H H' := fun b o hb e => h b o (fun z => hb (hs b z)) e
theorem Frame.put {S : List Addr} {H : Hp} {l : Addr} {o : HO} (h : l ∈ S) : Frame S H (upd H l o) := fun b u hb e => by
  rw [upd_ne fun z => hb (by rw [z]; exact h)]
  exact e
theorem SqT.fr {K : PySem.W.Frag} {S : List Addr} {H H' : Hp} {a : Addr} {xs : List V} (f : Frame S H H') (hS : ∀ b ∈ S, NotTup H b) (h : SqT K H a xs) : SqT K H' a xs := by
  rcases h with h | h
  · have hn : a ∉ S := fun z => hS a z xs h
    rcases h with h | ⟨o, h⟩
    · exact .inl (.inl (f _ _ hn h))
    · exact .inl (.inr ⟨o, f _ _ hn h⟩)
  · exact .inr h
theorem not_lst {H : Hp} {b : Addr} {xs : List V} (h : H b = some (.lst xs)) : NotTup H b := fun ys r => by
  rcases r with r | ⟨o, r⟩
  · rw [h] at r
    cases r
  · rw [h] at r
    cases r
theorem not_ext {H : Hp} {b : Addr} {p : Heap → Prop} (h : H b = some (.ext p)) : NotTup H b := fun ys r => by
  rcases r with r | ⟨o, r⟩
  · rw [h] at r
    cases r
  · rw [h] at r
    cases r
abbrev bkF : List Str := ["_rows", "_numbers", "_sizes", "_depths", "_lengths"]
/-- a book at p; its lists and its dict at fp; its rows -/
structure BookAt (P : Program) (w : World) (K : PySem.W.Frag) (H : Hp) (C p : Addr) (fp : List Addr) (rs : List RowK) : Prop where
  ex : ∃ (dx l1 d l2 l3 l4 : Addr) (as : List Addr) (fs : List (Str × V)), fp = [l1, d, l2, l3, l4] ∧ fp.Nodup ∧ H p = some (.ins C dx fs) ∧
    fs.lookup ("_rows" : Str) = some (.ref l1) ∧ fs.lookup ("_numbers" : Str) = some (.ref d) ∧ fs.lookup ("_sizes" : Str) = some (.ref l2) ∧ fs.lookup ("_depths" : Str) = some (.ref l3) ∧ fs.lookup ("_lengths" : Str) = some (.ref l4) ∧ (∀ m, m ∉ bkF → fs.lookup m = none) ∧
    as.length = rs.length ∧ (∀ (i : Nat) (k : RowK) (a : Addr), rs[i]? = some k → as[i]? = some a → RowAt K H k a) ∧
    H l1 = some (.lst (as.map V.ref)) ∧ H d = some (dRow P w d (entR 0 rs as)) ∧ H l2 = some (.lst ((szs rs).map V.int)) ∧ H l3 = some (.lst ((dps rs).map V.int)) ∧ H l4 = some (.lst ((lns rs).map V.int)) ∧
    rs.Nodup ∧ OkRows rs ∧ rs.length ≤ 5000
section
variable {P : Program} {w : World} {K : PySem.W.Frag} {H H' : Hp} {C p : Addr} {fp : List Addr} {rs : List RowK}
theorem BookAt.notTup (B : BookAt P w K H C p fp rs) : ∀ b ∈ fp, NotTup H b := by
  obtain ⟨dx, l1, d, l2, l3, l4, as, fs, rfl, _, _, _, _, _, _, _, _, _, _, h1, h2, h3, h4, h5, _⟩ := B.ex
  intro b hb
  simp only [List.mem_cons, List.not_mem_nil, or_false] at hb
  rcases hb with rfl | rfl | rfl | rfl | rfl
  · exact not_lst h1
  · exact not_ext h2
  · exact not_lst h3
  · exact not_lst h4
  · exact not_lst h5
theorem BookAt.off (B : BookAt P w K H C p fp rs) : p ∉ fp := by
  obtain ⟨dx, l1, d, l2, l3, l4, as, fs, rfl, _, hp, _, _, _, _, _, _, _, _, h1, h2, h3, h4, h5, _⟩ := B.ex
  intro hb
  simp only [List.mem_cons, List.not_mem_nil, or_false] at hb
  rcases hb with rfl | rfl | rfl | rfl | rfl
  · rw [h1] at hp; cases hp
  · rw [h2] at hp; cases hp
  · rw [h3] at hp; cases hp
  · rw [h4] at hp; cases hp
  · rw [h5] at hp; cases hp
theorem BookAt.fr {S : List Addr} (B : BookAt P w K H C p fp rs) (f : Frame S H H') (hS : ∀ b ∈ S, NotTup H b) (hp : p ∉ S) (hf : ∀ b ∈ fp, b ∉ S) : BookAt P w K H' C p fp rs := by
  obtain ⟨dx, l1, d, l2, l3, l4, as, fs, rfl, nd, h0, a1, a2, a3, a4, a5, a6, b1, b2, h1, h2, h3, h4, h5, b3⟩ := B.ex
  exact ⟨⟨dx, l1, d, l2, l3, l4, as, fs, rfl, nd, f _ _ hp h0, a1, a2, a3, a4, a5, a6, b1, fun i k a e1 e2 => (b2 i k a e1 e2).mono fun b ys => SqT.fr f hS,
    f _ _ (hf _ (by simp)) h1, f _ _ (hf _ (by simp)) h2, f _ _ (hf _ (by simp)) h3, f _ _ (hf _ (by simp)) h4, f _ _ (hf _ (by simp)) h5, b3⟩⟩
theorem BookAt.up (B : BookAt P w K H C p fp rs) (s : Same H H') : BookAt P w K H' C p fp rs :=
  B.fr (S := []) (Frame.of s) (fun _ h => absurd h List.not_mem_nil) List.not_mem_nil fun _ _ => List.not_mem_nil
theorem BookAt.there (B : BookAt P w K H C p fp rs) : ∃ dx fs, H p = some (.ins C dx fs) ∧ ∀ m, m ∉ bkF → fs.lookup m = none := by
  obtain ⟨dx, l1, d, l2, l3, l4, as, fs, rfl, nd, h0, a1, a2, a3, a4, a5, a6, _⟩ := B.ex
  exact ⟨dx, fs, h0, a6⟩
end
/-- the rows with one more, if it is new -/
def hasR (rs : List RowK) (k : RowK) : Bool := rs.any fun j => decide (j = k)
theorem hasR_iff {rs : List RowK} {k : RowK} : hasR rs k = true ↔ k ∈ rs := by
  unfold hasR
  rw [List.any_eq_true]
  exact ⟨fun ⟨j, hj, e⟩ => by rw [← of_decide_eq_true e]; exact hj, fun h => ⟨k, h, decide_eq_true rfl⟩⟩
theorem hasR_not {rs : List RowK} {k : RowK} (h : hasR rs k = false) : k ∉ rs := fun z => by rw [hasR_iff.mpr z] at h; cases h
def addR (rs : List RowK) (k : RowK) : List RowK := if hasR rs k = true then rs else rs ++ [k]
def posR (rs : List RowK) (k : RowK) : Nat := (addR rs k).findIdx fun j => decide (j = k)
theorem posR_old {rs : List RowK} {k : RowK} (h : hasR rs k = true) : addR rs k = rs ∧ rs[posR rs k]? = some k ∧ ∀ m, m < posR rs k → rs[m]? ≠ some k := by
  have e : addR rs k = rs := by unfold addR; rw [if_pos h]
  unfold posR
  rw [e]
  have hl : rs.findIdx (fun j => decide (j = k)) < rs.length := List.findIdx_lt_length_of_exists ⟨k, hasR_iff.mp h, decide_eq_true rfl⟩
  refine ⟨rfl, ?_, fun m hm z => ?_⟩
  · rw [List.getElem?_eq_getElem hl]
    exact congrArg some (of_decide_eq_true (List.findIdx_getElem (p := fun j => decide (j = k)) (w := hl)))
  · have hlt : m < rs.length := by omega
    rw [List.getElem?_eq_getElem hlt] at z
    have z' := Option.some.inj z
    have := List.not_of_lt_findIdx (p := fun j => decide (j = k)) (xs := rs) (i := m) hm
    rw [decide_eq_true z'] at this
    cases this
theorem posR_new {rs : List RowK} {k : RowK} (h : hasR rs k = false) : addR rs k = rs ++ [k] ∧ posR rs k = rs.length := by
  have e : addR rs k = rs ++ [k] := by unfold addR; rw [if_neg (by rw [h]; decide)]
  unfold posR
  rw [e]
  refine ⟨rfl, ?_⟩
  rw [List.findIdx_append, List.findIdx_eq_length_of_false fun x hx => decide_eq_false fun z => hasR_not h (by rw [← z]; exact hx)]
  simp [List.findIdx_cons]
/-- what the written part says of the class -/
structure TxtBk (K : PySem.W.Frag) (C : Addr) : Prop where
  cl : Cls K C
  no : ∀ f ∈ bkF, NoAttr K C f
theorem raise_e {K : PySem.W.Frag} {H0 H1 : Hp} {C : Addr} {n : Str} {ns : List Str} {vs : List V} {Q : XK} (hT : ExK K C) (s : Same H0 H1) (hl : vs.length = (n :: ns).length) (hn : (n :: ns).length ≤ 1000) (q : ∀ H' dd fs, Same H1 H' → H' dd = some (exd dd fs) → Has fs (n :: ns) vs → Q (.ref C) (some dd) H') :
    vs.length = (n :: ns).length ∧ (n :: ns).length ≤ 1000 ∧ ∀ a H', H1 a = none → Same H1 H' → ExI H' a C (n :: ns) vs → ∃ (a' C' : Addr) (d : Option Addr), V.ref a = .ref a' ∧ H' a' = some (exo a' C' d) ∧ Fr0 H0 a' ∧ ExK K C' ∧ Q (.ref C') d (delH H' a') := by
  refine ⟨hl, hn, fun a H' ha sm he => ?_⟩
  obtain ⟨fs, hA, hf⟩ := he
  have fr : Fr0 H0 a := fun o ho => by
    rw [s a o ho] at ha
    cases ha
  rcases hA with ⟨rfl, hA⟩ | ⟨dx, ne, hA, hd⟩
  · match vs, hl with
    | v :: vs, _ => exact absurd (hf 0 n v rfl rfl) (by simp)
  · exact ⟨a, C, some dx, rfl, hA, fr, hT, q _ dx fs (fun b o e => (delH_ne (ne_of_none e ha)).trans (sm b o e)) ((delH_ne ne).trans hd) hf⟩
theorem Vk.int_k {K : PySem.W.Frag} {H : Hp} {i : Int} {k : String} (h : Vk K H (.int i) k) : k = "int" := by
  have e1 : ∀ u ∈ tys6, ansB k u = ansB "int" u := by
    rcases h.kd with ⟨t, ty, e⟩ | ⟨a, D, fs, e1, _⟩
    · have et : t = .type "int" := by
        cases ty with
        | base b => cases b; rfl
      subst et
      intro u hu
      have h1 := e u hu
      have h2 : PySem.W.kitOne K (.type "int") (.type u) = some (ansB "int" u) := kit_ty (of_decide_eq_true (List.all_eq_true.mp (show tys6.all (fun u => decide (kitB "int" u = some (ansB "int" u))) = true by decide +kernel) u hu))
      rw [h1] at h2
      exact Option.some.inj h2
    · cases e1
  have a1 := e1 "int" (by decide)
  have a2 := e1 "bool" (by decide)
  have := ans_int (k := k) (by rw [a1]; decide)
  rw [a2] at this
  have h3 : (k == "int") = true := by rw [← this]; decide
  exact eq_of_beq h3
theorem Vk.str_k {K : PySem.W.Frag} {H : Hp} {z : Str} {k : String} (h : Vk K H (.str z) k) : k = "str" := by
  have e1 : ∀ u ∈ tys6, ansB k u = ansB "str" u := by
    rcases h.kd with ⟨t, ty, e⟩ | ⟨a, D, fs, e1, _⟩
    · have et : t = .type "str" := by
        cases ty with
        | base b => cases b; rfl
      subst et
      intro u hu
      have h1 := e u hu
      have h2 : PySem.W.kitOne K (.type "str") (.type u) = some (ansB "str" u) := kit_ty (of_decide_eq_true (List.all_eq_true.mp (show tys6.all (fun u => decide (kitB "str" u = some (ansB "str" u))) = true by decide +kernel) u hu))
      rw [h1] at h2
      exact Option.some.inj h2
    · cases e1
  have a1 := e1 "str" (by decide)
  rw [ans_str, ans_str] at a1
  exact eq_of_beq (a1.trans rfl)
theorem name_to {K : PySem.W.Frag} {H : Hp} {x : V} {k : String} {Q : VK} {E : XK} (hv : Vk K H x k) (q : ∀ H1, Same H H1 → Q (.bl (nameV x)) H1) : spName K [x] H Q E :=
  ⟨x, k, rfl, hv, fun hk => by
    have e : nameV x = false := by
      cases x with
      | str z => exact absurd hv.str_k hk
      | _ => rfl
    have := q H (Same.refl _)
    rwa [e] at this, fun z hz H1 s1 => by
    subst hz
    exact q H1 s1⟩
/-- the methods that ask for numbers -/
def numV (n : Nat) : V → Bool
  | .int i => decide (0 ≤ i ∧ i < (n : Int))
  | _ => false
def spHas (P : Program) (w : World) (K : PySem.W.Frag) (C : Addr) : Sp := fun vs H Q _ => ∃ (p : Addr) (fp : List Addr) (rs : List RowK) (x : V) (k : String), vs = [.ref p, x] ∧ BookAt P w K H C p fp rs ∧ Vk K H x k ∧ Q (.bl (numV rs.length x)) H
def spHasAll (P : Program) (w : World) (K : PySem.W.Frag) (C : Addr) : Sp := fun vs H Q _ => ∃ (p b : Addr) (fp : List Addr) (rs : List RowK) (ys : List V), vs = [.ref p, .ref b] ∧ BookAt P w K H C p fp rs ∧ SqA K H b ys ∧ ys.length ≤ 5000 ∧ (∀ y ∈ ys, ∃ k, Vk K H y k) ∧ ∀ H', Same H H' → Q (.bl (ys.all (numV rs.length))) H'
/-- raised: a class, a field, its value -/
def Rsd (E : XK) (H : Hp) (C : Addr) (n : Str) (x : V) : Prop := ∀ H' dd fs, Same H H' → H' dd = some (exd dd fs) → fs.lookup n = some x → E (.ref C) (some dd) H'
def spReq (P : Program) (w : World) (K : PySem.W.Frag) (C CU : Addr) : Sp := fun vs H Q E => ∃ (p : Addr) (fp : List Addr) (rs : List RowK) (x : V) (k : String), vs = [.ref p, x] ∧ BookAt P w K H C p fp rs ∧ Vk K H x k ∧ (numV rs.length x = true → Q .non H) ∧ (numV rs.length x = false → Rsd E H CU "number" x)
theorem nd_ne {l : List Addr} {x y : Addr} (h : l.Nodup) (i j : Nat) (e1 : l[i]? = some x) (e2 : l[j]? = some y) (hij : i ≠ j) : x ≠ y := fun z => by
  subst z
  have hi : i < l.length := by
    rcases Nat.lt_or_ge i l.length with h | h
    · exact h
    · rw [List.getElem?_eq_none h] at e1
      cases e1
  exact hij ((List.getElem?_inj hi h).mp (e1.trans e2.symm))
theorem SqT_row {K : PySem.W.Frag} {S : List Addr} {H H' : Hp} {k : RowK} {a : Addr} (h : RowAt K H k a) (f : Frame S H H') (hS : ∀ b ∈ S, NotTup H b) : RowAt K H' k a := h.mono fun _ _ => SqT.fr f hS
theorem rowsIn_of {K : PySem.W.Frag} {H : Hp} : ∀ {i : Nat} {rs : List RowK} {as : List Addr}, as.length = rs.length → (∀ (i : Nat) (k : RowK) (a : Addr), rs[i]? = some k → as[i]? = some a → RowAt K H k a) → RowsIn K H (entR i rs as)
  | i, [], [], _, _ => fun x hx => absurd hx List.not_mem_nil
  | i, k :: rs, a :: as, hl, h => fun x hx => by
    rcases List.mem_cons.mp hx with rfl | hx
    · exact h 0 k a rfl rfl
    · exact rowsIn_of (i := i + 1) (by simpa using hl) (fun j k' a' e1 e2 => h (j + 1) k' a' (by simpa using e1) (by simpa using e2)) x hx
  | _, [], _ :: _, h, _ => by cases h
  | _, _ :: _, [], h, _ => by cases h
theorem atI_at {l : List Int} {i : Int} {n : Nat} (hl : l.length = n) (h0 : 0 ≤ i) (h1 : i < (n : Int)) : atI (l.map V.int) i = some (.int (atL l i)) := by
  have e : i = ((i.toNat : Nat) : Int) := by omega
  have hlt : i.toNat < l.length := by omega
  have h2 : (l.map V.int)[i.toNat]? = some (.int (atL l i)) := by
    unfold atL
    rw [List.getElem?_map, List.getElem?_eq_getElem hlt, List.getD_eq_getElem?_getD, List.getElem?_eq_getElem hlt]
    rfl
  rw [e]
  exact atI_nat (j := i.toNat) (by rw [h2, ← e])
/-- a row is added, unless it is there -/
def spEnt (P : Program) (w : World) (K : PySem.W.Frag) (C : Addr) : Sp := fun vs H Q _ => ∃ (p a : Addr) (fp : List Addr) (rs : List RowK) (k : RowK), vs = [.ref p, .ref a] ∧ BookAt P w K H C p fp rs ∧ RowAt K H k a ∧ OkK rs.length k ∧ rs.length < 5000 ∧
  ∀ H', Frame fp H H' → BookAt P w K H' C p fp (addR rs k) → Q (.int (posR rs k : Nat)) H'
/-- the methods that add -/
def Added (P : Program) (w : World) (K : PySem.W.Frag) (C p : Addr) (fp : List Addr) (rs : List RowK) (H : Hp) (Q : VK) (k : RowK) : Prop := ∀ H', Frame fp H H' → BookAt P w K H' C p fp (addR rs k) → Q (.int (posR rs k : Nat)) H'
def spConst (P : Program) (w : World) (K : PySem.W.Frag) (C CN : Addr) : Sp := fun vs H Q E => ∃ (p : Addr) (fp : List Addr) (rs : List RowK) (x : V) (k : String), vs = [.ref p, x] ∧ BookAt P w K H C p fp rs ∧ rs.length < 5000 ∧ Vk K H x k ∧
  (nameV x = false → Rsd E H CN "value" x) ∧ ∀ z, x = .str z → nameB (TL.tl z) = true → Added P w K C p fp rs H Q (z, .inr [])
def spSample (P : Program) (w : World) (K : PySem.W.Frag) (C CN CT : Addr) : Sp := fun vs H Q E => ∃ (p : Addr) (fp : List Addr) (rs : List RowK) (x y : V) (k ky : String), vs = [.ref p, x, y] ∧ BookAt P w K H C p fp rs ∧ rs.length < 5000 ∧ Vk K H x k ∧ Vk K H y ky ∧
  (nameV x = false → Rsd E H CN "value" x) ∧ ∀ z, x = .str z → nameB (TL.tl z) = true → ((∀ i, y = .int i → ¬ 0 ≤ i) → Rsd E H CT "value" y) ∧ ∀ i, y = .int i → 0 ≤ i → i.natAbs.log2 < 1000 ∧ Added P w K C p fp rs H Q (z, .inl i)
def spApply (P : Program) (w : World) (K : PySem.W.Frag) (C CN CP CU : Addr) : Sp := fun vs H Q E => ∃ (p : Addr) (fp : List Addr) (rs : List RowK) (x y : V) (k ky : String), vs = [.ref p, x, y] ∧ BookAt P w K H C p fp rs ∧ rs.length < 5000 ∧ Vk K H x k ∧ Vk K H y ky ∧
  (nameV x = false → Rsd E H CN "value" x) ∧ ∀ z, x = .str z → nameB (TL.tl z) = true → ((ky == "list" || ky == "tuple") = false → Rsd E H CP "value" y) ∧ ((ky == "list" || ky == "tuple") = true → ∃ (b : Addr) (ys : List V), y = .ref b ∧ SqA K H b ys ∧
    (¬ (1 ≤ ys.length ∧ ys.length ≤ 3) → Rsd E H CP "value" y) ∧ (1 ≤ ys.length ∧ ys.length ≤ 3 → (∀ v ∈ ys, ∃ kv, Vk K H v kv) ∧ (∀ (i : Nat) v, ys[i]? = some v → numV rs.length v = false → (∀ (j : Nat) u, j < i → ys[j]? = some u → numV rs.length u = true) → Rsd E H CU "number" v) ∧
      ∀ ns : List Int, ys = ns.map V.int → (∀ i ∈ ns, 0 ≤ i ∧ i < (rs.length : Int)) → Added P w K C p fp rs H Q (z, .inr ns)))
theorem Rsd.up {E : XK} {H H1 : Hp} {C : Addr} {n : Str} {x : V} (h : Rsd E H C n x) (s : Same H H1) : Rsd E H1 C n x := fun H' dd fs s' he hf => h H' dd fs (Same.tr s s') he hf
theorem numV_ints {n : Nat} : ∀ {ys : List V}, (∀ y ∈ ys, numV n y = true) → ∃ ns : List Int, ys = ns.map V.int ∧ ∀ i ∈ ns, 0 ≤ i ∧ i < (n : Int)
  | [], _ => ⟨[], rfl, fun i hi => absurd hi List.not_mem_nil⟩
  | y :: ys, h => by
    obtain ⟨ns, rfl, h2⟩ := numV_ints fun x hx => h x (List.mem_cons_of_mem _ hx)
    have h0 := h y List.mem_cons_self
    cases y with
    | int i =>
      refine ⟨i :: ns, rfl, fun j hj => ?_⟩
      rcases List.mem_cons.mp hj with rfl | hj
      · exact of_decide_eq_true h0
      · exact h2 j hj
    | _ => cases h0
/-- the small defs -/
def spTurn (K : PySem.W.Frag) : Sp := fun vs H Q _ => ∃ (x : V) (k : String), vs = [x] ∧ Vk K H x k ∧ (k ≠ "int" → Q (.bl false) H) ∧ ∀ i, x = .int i → Q (.bl (decide (0 ≤ i))) H
def spArgs (K : PySem.W.Frag) : Sp := fun vs H Q _ => ∃ (r : Addr) (u v : V) (k : String), vs = [.ref r] ∧ SqA K H r [u, v] ∧ Vk K H v k ∧ ((k == "list" || k == "tuple") = true → ∀ H', Same H H' → Q v H') ∧ ((k == "list" || k == "tuple") = false → ∀ b H', Same H H' → SqT K H' b [] → Q (.ref b) H')
/-- a name, and an int or a list or tuple of ints -/
def PreRow (K : PySem.W.Frag) (H : Hp) (r : Addr) (k : RowK) : Prop := PyData.strOk k.1 = true ∧ k.1.length ≤ 5000 ∧ ((∃ n : Int, k.2 = .inl n ∧ SqA K H r [.str k.1, .int n]) ∨ ∃ (ns : List Int) (b : Addr), k.2 = .inr ns ∧ SqA K H r [.str k.1, .ref b] ∧ SqA K H b (ns.map V.int))
theorem args_row {K : PySem.W.Frag} {H : Hp} {k : RowK} {a : Addr} {Q : VK} {E : XK} (hA : RowAt K H k a) (q : ∀ b H1, Same H H1 → SqT K H1 b ((argsK k).map V.int) → Q (.ref b) H1) : spArgs K [.ref a] H Q E := by
  obtain ⟨x, y⟩ := k
  obtain ⟨_, h⟩ := hA
  rcases h with ⟨n, e, h⟩ | ⟨ns, b, e, h1, h2⟩
  · have e' : y = .inl n := e
    subst e'
    exact ⟨a, _, _, "int", rfl, .inr h, vk_int n, (fun z => absurd z (by decide)), fun _ b H' s hb => q b H' s hb⟩
  · have e' : y = .inr ns := e
    subst e'
    exact ⟨a, _, _, "tuple", rfl, .inr h1, vk_tuple h2, (fun _ H' s => q b H' s (upT s h2)), fun z => absurd z (by decide)⟩
theorem rep_flat (n : Nat) (x : Str) : (List.replicate n [V.str x]).flatten = (List.replicate n x).map V.str := by
  induction n with
  | zero => rfl
  | succ n ih => rw [List.replicate_succ, List.replicate_succ, List.flatten_cons, ih]; rfl
def spKept (K : PySem.W.Frag) : Sp := fun vs H Q _ => ∃ (r : Addr) (k : RowK), vs = [.ref r] ∧ PreRow K H r k ∧ ∀ a H', Same H H' → RowAt K H' k a → Q (.ref a) H'
def spRowText (K : PySem.W.Frag) : Sp := fun vs H Q _ => ∃ (a l : Addr) (k : RowK) (ts : List Str), vs = [.ref a, .ref l] ∧ RowAt K H k a ∧ SqL K H l (ts.map V.str) ∧ k.1.length ≤ 8 ∧ (∀ n, k.2 = .inl n → n.natAbs.log2 < 1000) ∧ ts.length ≤ 3 ∧ (∀ t ∈ ts, t.length ≤ 400) ∧ ∀ H', Same H H' → Q (.str (textK k ts)) H'
theorem lens_le : ∀ ts : List Str, (∀ t ∈ ts, t.length ≤ 400) → (ts.map (fun x => x.length)).sum ≤ ts.length * 400
  | [], _ => Nat.le_refl _
  | t :: ts, h => by
    have ih := lens_le ts fun x hx => h x (List.mem_cons_of_mem _ hx)
    have h0 := h t List.mem_cons_self
    rw [List.map_cons, List.sum_cons, List.length_cons]
    omega
theorem joins_le (ts : List Str) (hl : ts.length ≤ 3) (h : ∀ t ∈ ts, t.length ≤ 400) : (Txt.join ("," : Str) ts).length ≤ 1203 := by
  rw [TL.len_tl, tl_joinT]
  have := joinL_len (TL.tl ",") 400 1 (by decide) (ts.map TL.tl) fun q hq => by
    obtain ⟨t, ht, rfl⟩ := List.mem_map.mp hq
    rw [← TL.len_tl]
    exact h t ht
  rw [List.length_map] at this
  have h2 : ts.length * (400 + 1) ≤ 3 * 401 := Nat.mul_le_mul hl (Nat.le_refl _)
  omega
theorem textK_le {k : RowK} {ts : List Str} (hx : k.1.length ≤ 8) (hn : ∀ n, k.2 = .inl n → n.natAbs.log2 < 1000) (hl : ts.length ≤ 3) (h : ∀ t ∈ ts, t.length ≤ 400) : (textK k ts).length ≤ 3000 := by
  obtain ⟨x, y⟩ := k
  have hx : x.length ≤ 8 := hx
  cases y with
  | inl n =>
    have hi : (Str.ofString (toString n)).length ≤ 1001 := by
      rw [PySem.ofString_length]
      exact int_text_length_le (k := 1000) (by decide) (hn n rfl)
    have ea : (("@" : Str)).length = 1 := rfl
    show (x ++ ("@" : Str) ++ Str.ofString (toString n)).length ≤ _
    rw [Str.length_append, Str.length_append, ea]
    omega
  | inr ns =>
    cases ns with
    | nil => show x.length ≤ _; omega
    | cons n ns =>
      have hj := joins_le ts hl h
      have ea : (("(" : Str)).length = 1 := rfl
      have eb : ((")" : Str)).length = 1 := rfl
      show (x ++ ("(" : Str) ++ Txt.join "," ts ++ (")" : Str)).length ≤ _
      rw [Str.length_append, Str.length_append, Str.length_append, ea, eb]
      omega
def secB (b : PyData) : Bool := match seqD b with
  | some ns => decide (ns.length ≤ 3)
  | none => (match b with
    | .int n => decide (0 ≤ n)
    | _ => false)
def formB (d : PyData) : Bool := match seqD d with
  | some [_, b] => secB b
  | _ => false
def spForm (K : PySem.W.Frag) : Sp := fun vs H Q _ => ∃ x : V, vs = [x] ∧ ((∃ d, Dd K H x d ∧ shortD d = true ∧ ∀ H', Same H H' → Q (.bl (formB d)) H') ∨ (∃ k, Vk K H x k ∧ (k == "list" || k == "tuple") = false ∧ ∀ H', Same H H' → Q (.bl false) H'))
end Tp
set_option Elab.async false
set_option linter.all false
set_option maxRecDepth 100000
set_option maxHeartbeats 4000000
namespace T31
open PySem PySem.Spec PyProof.Rows L2 Tp

structure TxtLg (K : PySem.W.Frag) (C : Addr) : Prop where
  cl : Cls K C
  no : NoAttr K C "_rows"
  sf : PySem.W.selfFirst K C = true
  ne : PySem.W.findIn K (.ref C) "__ne__" = some (some (.builtin "object.__ne__"))
  ob : PySem.W.subIn K (.ref C) (.type "object") = some true
/-- an object of lags -/
def LagAt (H : Hp) (C p : Addr) (ls : List (Str × Int)) : Prop := ∃ dx d fs, H p = some (.ins C dx fs) ∧ fs.lookup ("_rows" : Str) = some (.ref d) ∧ (∀ m : Str, m ≠ "_rows" → fs.lookup m = none) ∧ H d = some (.dK (ls.map kvI)) ∧ OkL ls ∧ NzL ls
theorem LagAt.up {H H' : Hp} {C p : Addr} {ls : List (Str × Int)} (s : Same H H') (h : LagAt H C p ls) : LagAt H' C p ls := by
  obtain ⟨dx, d, fs, h1, h2, h3, h4, h5⟩ := h
  exact ⟨dx, d, fs, s _ _ h1, h2, h3, s _ _ h4, h5⟩
def isI : V → Bool
  | .int _ => true
  | _ => false
def goodB (p : Key × V) : Bool := (match p.1 with
  | .inl _ => false
  | .inr z => nameB (TL.tl z)) && isI p.2
theorem isI_k {K : PySem.W.Frag} {H : Hp} {x : V} {k : String} (h : Vk K H x k) : (k == "int") = isI x := by
  by_cases e : k = "int"
  · obtain ⟨i, rfl⟩ := h.i e
    rw [e]
    rfl
  · cases x <;> first | exact absurd h.int_k e | exact beq_eq_false_iff_ne.mpr e
/-- None, a truth, an int, a short text -/
def litV (x : V) : Prop := x = .non ∨ (∃ b, x = .bl b) ∨ (∃ i, x = .int i) ∨ ∃ z : Str, x = .str z ∧ z.length ≤ 5000
theorem vk_lit {K : PySem.W.Frag} {H : Hp} {x : V} (h : litV x) : ∃ k, Vk K H x k := by
  rcases h with rfl | ⟨b, rfl⟩ | ⟨i, rfl⟩ | ⟨z, rfl, hz⟩
  · exact ⟨_, vk_non⟩
  · exact ⟨_, vk_bl b⟩
  · exact ⟨_, vk_int i⟩
  · exact ⟨_, vk_str z hz⟩
/-- _are_lags -/
def spAre (K : PySem.W.Frag) : Sp := fun vs H Q _ => ∃ x : V, vs = [x] ∧ ((∃ k, Vk K H x k ∧ (k == "dict") = false ∧ Q (.bl false) H) ∨
  ∃ d kvs, x = .ref d ∧ H d = some (.dK kvs) ∧ kvs.length ≤ 5000 ∧ (∀ p ∈ kvs, (∀ z, p.1 = .inr z → z.length ≤ 5000) ∧ litV p.2) ∧ ∀ H', Same H H' → Q (.bl (kvs.all goodB)) H')
theorem ans_dict (k : String) : ansB k "dict" = (k == "dict") := by
  unfold ansB
  have h1 : ("dict" == "int") = false := by decide
  rw [h1, Bool.and_false, Bool.or_false]
/-- the heap, a dict of it locked -/
theorem lock_back {H G : Hp} {d : Addr} {u : HO} {od : Obj} (e : H d = some u) (s : ∀ b o, b ≠ d → H b = some o → G b = some o) : Same H (upd G d u) := fun b o h => by
  by_cases z : b = d
  · rw [z] at h ⊢
    rw [e] at h
    rw [upd_same]
    exact h
  · rw [upd_ne z]
    exact s b o z h
/-- all that stood beside d -/
def SameX (d : Addr) (H G : Hp) : Prop := ∀ b o, b ≠ d → H b = some o → G b = some o
theorem SameX.step {d : Addr} {H G G' : Hp} (s : SameX d H G) (t : Same G G') : SameX d H G' := fun b o h e => t b o (s b o h e)
theorem SameX.put {d D : Addr} {H G : Hp} {o : HO} (s : SameX d H G) (hD : H D = none) : SameX d H (upd G D o) := fun b u h e => by
  rw [upd_ne (ne_of_none e hD)]
  exact s b u h e
theorem SameX.put' {d D : Addr} {H G : Hp} {o : HO} (s : SameX d H G) (hD : H D = none) : SameX d H (upd G D o) := s.put hD
theorem SameX.fin {d : Addr} {H G : Hp} {u : HO} (e : H d = some u) (s : SameX d H G) : Same H (upd G d u) := fun b o h => by
  by_cases z : b = d
  · rw [z] at h ⊢
    rw [e] at h
    rw [upd_same]
    exact h
  · rw [upd_ne z]
    exact s b o z h
theorem sameX_lock {d : Addr} {H : Hp} {o : HO} : SameX d H (upd H d o) := fun b u h e => (upd_ne h).trans e
theorem vk_key {K : PySem.W.Frag} {H : Hp} (k : Key) (h : ∀ z, k = .inr z → z.length ≤ 5000) : ∃ s, Vk K H (kV k) s := by
  cases k with
  | inl i => exact ⟨_, vk_int i⟩
  | inr z => exact ⟨_, vk_str z (h z rfl)⟩

section
variable {P : Program} {w : World} {K : PySem.W.Frag} {mg : Str → Option Value} {base : Heap} {f : Addr} {fd : FuncData}

abbrev sLar : Stmt := top 12
abbrev nLar : List Str := ["value", "name", "lag"]
theorem scLar : FnScope nLar ["value"] (defScope sLar) := ⟨rfl, rfl, rfl, by decide +kernel, rfl, by decide +kernel, by decide +kernel⟩

theorem ok_are (F : Fun K "_are_lags" "_are_lags" sLar f fd) (T : TxtV mg) (N : Cg P w K mg base 1 "is_name" (spName K)) (W : Cg P w K mg base 1 "is_whole" (spWhole K)) : FnG P w K mg base CX0 2 f fd ["value"] (spAre K) := by
  refine FunG.ok F scLar (fun vs H Q E h => ?_) (fun cdv B out s H vs Q E hr hG h => ?_)
  · obtain ⟨x, rfl, _⟩ := h
    rfl
  · obtain ⟨x, rfl, h⟩ := h
    refine ⟨_, (pss_cons (ps_if (pt_not (pt_val (pe_callB call_isd (by rfl) T.isinstance (by decide +kernel) (pa_cons (pv 0) (pa_cons (pe_bltn (by rfl) T.dict (by decide +kernel) (show RelV (.ty "dict") _ from rfl)) pa_nil))))) (pss_one (ps_ret pe_bl)) pss_nil)
      (pss_one (ps_ret (pe_callB (cr_all rfl) (by rfl) T.all (by decide +kernel) (pa_cons (pe_lock (pe_lc (own := [("name", 1), ("lag", 2)]) (g := gTup K 2 (gCons (gName 1) (gCons (gName 2) gNil))) (tt := tYes) rfl scLar.nd (pi_items (pv 0)) (blkOk_by (N := nLar) (sc := defScope sLar) (by decide +kernel)) (fun _ _ _ _ _ => pg_tup rfl (pgs_cons (pg_name (i := 1) scLar.nd rfl (Or.inl rfl)) (pgs_cons (pg_name (i := 2) scLar.nd rfl (Or.inl rfl)) pgs_nil))) (fun _ _ _ _ _ => pts_nil) (fun _ _ _ _ _ => (pe_and (pe_g N hr hG (by decide) (by rfl) (pa_cons (pv 1) pa_nil)) (pe_one (pe_g W hr hG (by decide) (by rfl) (pa_cons (pv 2) pa_nil))))))) pa_nil))))), ?_⟩
    rcases h with ⟨k, v, hk, q⟩ | ⟨d, kvs, rfl, hd, hlen, hv, q⟩
    · refine ⟨_, rfl, _, _, _, _, rfl, .ty _, v.kd.is "dict" (by decide), _, rfl, ?_⟩
      rw [ans_dict, hk]
      exact iteT q
    · refine ⟨_, rfl, _, _, _, _, rfl, .ty _, (vk_dict hd).kd.is "dict" (by decide), _, rfl, ?_⟩
      refine iteF ?_
      refine ⟨d, _, hd, trivial, fun od => ?_⟩
      refine ⟨_, rfl, d, od, kvs, rfl, upd_same, fun D hD => ?_⟩
      have hDd : D ≠ d := fun z => by rw [z, upd_same] at hD; cases hD
      have hDn : H D = none := by rwa [upd_ne hDd] at hD
      refine lc_it walk_items (fun j G => SameX d H G ∧ G d = some (.frz od (.dK kvs)) ∧ G D = some (.lst (((kvs.take j).map goodB).map V.bl))) ⟨sameX_lock.put hDn, (upd_ne hDd.symm).trans upd_same, upd_same⟩ (fun _ _ _ h => h.2.1) ?_ ?_
      · rintro j x G G' hj ⟨sm, hGd, hGD⟩ ⟨p, x0, y, rfl, hp, rfl, h0, h1⟩
        have hk : kvs[j]? = some kvs[j] := List.getElem?_eq_getElem hj
        obtain ⟨w1, w2⟩ := hv _ (List.getElem_mem hj)
        generalize kvs[j] = kv at hk w1 w2
        obtain ⟨key, y0⟩ := kv
        dsimp only at h0 h1
        rw [hk] at h0 h1
        cases h0
        cases h1
        have sqT : SqT K (upd G p (.tup [kV key, y0])) p [kV key, y0] := SqT.of upd_same
        have spd : Same G (upd G p (.tup [kV key, y0])) := Same.put hp
        have sg := sm.step spd
        have hGd' := spd _ _ hGd
        have hGD' := spd _ _ hGD
        generalize upd G p (.tup [kV key, y0]) = G1 at spd sg hGd' hGD' sqT ⊢
        have fin : ∀ b G2, Same G1 G2 → b = goodB (key, y0) → ∃ acc, G2 D = some (.lst acc) ∧ acc.length < sizeLine ∧ (SameX d H (upd G2 D (.lst (acc ++ [V.bl b]))) ∧ (upd G2 D (.lst (acc ++ [V.bl b]))) d = some (.frz od (.dK kvs)) ∧ (upd G2 D (.lst (acc ++ [V.bl b]))) D = some (.lst (((kvs.take (j + 1)).map goodB).map V.bl))) := by
          intro b G2 s2 hb
          refine ⟨_, s2 _ _ hGD', ?_, (sg.step s2).put hDn, (upd_ne hDd.symm).trans (s2 _ _ hGd'), ?_⟩
          · rw [List.length_map, List.length_map, List.length_take, PySem.sizeLine_eq]
            omega
          · rw [upd_same, List.take_add_one, hk, hb]
            simp
        refine ⟨p, _, rfl, sqT, rfl, _, _, rfl, _, _, rfl, ⟨rfl, rfl, ?_⟩⟩
        cases key with
        | inl i =>
          refine ⟨_, rfl, .int i, "int", rfl, vk_int i, fun _ => ⟨_, rfl, iteF (fin false G1 (Same.refl _) rfl)⟩, fun z e => nomatch e⟩
        | inr z =>
          refine ⟨_, rfl, .str z, "str", rfl, vk_str z (w1 z rfl), fun e => absurd rfl e, fun z' e G2 s2 => ?_⟩
          cases e
          refine ⟨_, rfl, ?_⟩
          cases hn : nameB (TL.tl z) with
          | false => exact iteF (fin false G2 s2 (by show false = (nameB (TL.tl z) && isI y0); rw [hn]; rfl))
          | true =>
            obtain ⟨k2, vk2⟩ := vk_lit (K := K) (H := G2) w2
            refine iteT ⟨_, rfl, y0, k2, rfl, vk2, ?_⟩
            exact fin _ G2 s2 (by show (k2 == "int") = (nameB (TL.tl z) && isI y0); rw [hn, isI_k vk2]; rfl)
      · rintro G ⟨sm, hGd, hGD⟩
        rw [List.take_length] at hGD
        refine ⟨hGd, D, _, rfl, SqL.of ((upd_ne hDd).trans hGD), ?_⟩
        rw [List.all_map]
        exact q _ (sm.fin hd)

theorem Rd.l {H : Hp} {d : Addr} {od : Obj} {u : HO} (h : H d = some (.frz od u)) : Rd H d u := .inr ⟨_, h⟩
theorem dget_I {H : Hp} {d : Addr} {ls : List (Str × Int)} {n : Str} (h : Rd H d (.dK (ls.map kvI))) : DGet H d (.str n) ((lk ls n).map V.int) := .inl ⟨_, Sum.inr n, h, rfl, valV_kvI.symm⟩
theorem len_six {ls : List (Str × Int)} (h : OkL ls) : (ls.map kvI).length < sizeLine := by
  have := h.len
  rw [List.length_map, PySem.sizeLine_eq]
  omega
theorem name_six {n : Str} (h : n ∈ six) : nameB (TL.tl n) = true ∧ n.length ≤ 8 := by
  have : ∀ n ∈ six, nameB (TL.tl n) = true ∧ n.length ≤ 8 := by decide +kernel
  exact this n h
theorem good_six {ls : List (Str × Int)} (h : OkL ls) : (ls.map kvI).all goodB = true := by
  rw [List.all_map, List.all_eq_true]
  intro p hp
  have := (name_six (h.six _ (List.mem_map.mpr ⟨p, hp, rfl⟩))).1
  show (nameB (TL.tl p.1) && true) = true
  rw [this]
  rfl
/-- Lags.__init__ -/
def spInit (K : PySem.W.Frag) (C CL : Addr) : Sp := fun vs H Q E => ∃ (p dx : Addr) (x : V), vs = [.ref p, x] ∧ H p = some (.ins C dx []) ∧
  ((∃ k, Vk K H x k ∧ (k == "dict") = false ∧ ∀ H' dd fs, Keep p H H' → H' dd = some (exd dd fs) → fs.lookup ("value" : Str) = some x → E (.ref CL) (some dd) H') ∨
   (∃ d kvs, x = .ref d ∧ d ≠ p ∧ H d = some (.dK kvs) ∧ kvs.length ≤ 5000 ∧ (∀ q ∈ kvs, (∀ z, q.1 = .inr z → z.length ≤ 5000) ∧ litV q.2) ∧ kvs.all goodB = false ∧ ∀ H' dd fs, Keep p H H' → H' dd = some (exd dd fs) → fs.lookup ("value" : Str) = some x → E (.ref CL) (some dd) H') ∨
   ∃ d rs, x = .ref d ∧ d ≠ p ∧ H d = some (.dK (rs.map kvI)) ∧ OkL rs ∧ ∀ H' ls, Keep p H H' → LagAt H' C p ls → (∀ dx' fs' d', H' p = some (.ins C dx' fs') → fs'.lookup ("_rows" : Str) = some (.ref d') → H d' = none) → (∀ n, val ls n = val rs n) → Q .non H')

abbrev sLin : Stmt := inClass (top 11) 0
abbrev nLin : List Str := ["self", "rows", "name"]
theorem scLin : FnScope nLin ["self", "rows"] (defScope sLin) := ⟨rfl, rfl, rfl, by decide +kernel, rfl, by decide +kernel, by decide +kernel⟩

theorem ok_linit {C CL : Addr} (F : Fun K "__init__" "Lags.__init__" sLin f fd) (TB : TxtLg K C) (A : Cg P w K mg base 2 "_are_lags" (spAre K)) (XL : Cx1 P w K mg base "InvalidLags" CL 1 [] (spI CL ["value"]) (fun vs _ => vs)) : FnG P w K mg base (L2.CX P w) 3 f fd ["self", "rows"] (spInit K C CL) := by
  have hTL : ExK K CL := let ⟨_, _, _, _, h, _⟩ := XL.ex; h
  refine FunG.okX F scLin (fun vs H Q E h => ?_) (fun cdv B out s H vs Q E hr hG h => ?_)
  · obtain ⟨p, dx, x, rfl, _⟩ := h
    rfl
  · obtain ⟨p, dx, x, rfl, hp, h⟩ := h
    refine ⟨_, (pss_cons (ps_if (pt_not (pt_val (pe_g A hr hG (by decide) (by rfl) (pa_cons (pv 1) pa_nil)))) (pss_one (ps_raise rfl (takes_of rfl rfl rfl rfl) (pmk_x rfl (pe_mke (ns := ["value"]) XL (hr.mono (by decide)) (by rfl) (pa_cons (pv 1) pa_nil))))) pss_nil)
      (pss_one (ps_fld (pv 0) (pe_lock (pe_dc (own := [("name", 2)]) (g := gName 2) rfl scLin.nd (pi_keys (pv 1)) (blkOk_by (N := nLin) (sc := defScope sLin) (by decide +kernel)) (fun _ _ _ _ _ => pg_name (i := 2) scLin.nd rfl (Or.inl rfl)) (fun _ _ _ _ _ => (pts_one (pt_cmpR op_ne (pe_dget (hu_of hr) (pv 1) (pv 2) (fun _ _ => rfl)) pe_int (nomark _)))) (fun _ _ _ _ _ => (pv 2)) (fun _ _ _ _ _ => (pe_dget (hu_of hr) (pv 1) (pv 2) (fun _ _ => rfl))))) rfl))), ?_⟩
    rcases h with ⟨k, v, hk, r⟩ | ⟨d, kvs, rfl, hdp, hd, hlen, hv, hbad, r⟩ | ⟨d, rs, rfl, hdp, hd, hok, q⟩
    · refine ⟨_, rfl, x, rfl, .inl ⟨k, v, hk, ⟨_, rfl, iteT ?_⟩⟩⟩
      exact ⟨_, rfl, raise_e hTL (Same.refl _) rfl (by decide) fun H' dd fs s he hf => r H' dd fs (Keep.of s) he (hf 0 "value" x rfl rfl)⟩
    · refine ⟨_, rfl, .ref d, rfl, .inr ⟨d, kvs, rfl, hd, hlen, hv, fun H1 s1 => ⟨_, rfl, ?_⟩⟩⟩
      rw [hbad]
      exact iteT ⟨_, rfl, raise_e hTL s1 rfl (by decide) fun H' dd fs s he hf => r H' dd fs (Keep.of (Same.tr s1 s)) he (hf 0 "value" _ rfl rfl)⟩
    · have hl6 := hok.len
      refine ⟨_, rfl, .ref d, rfl, .inr ⟨d, rs.map kvI, rfl, hd, by rw [List.length_map]; omega, ?_, fun H1 s1 => ⟨_, rfl, ?_⟩⟩⟩
      · intro q hq
        obtain ⟨e, he, rfl⟩ := List.mem_map.mp hq
        refine ⟨fun z ez => ?_, .inr (.inr (.inl ⟨_, rfl⟩))⟩
        have := (name_six (hok.six _ (List.mem_map.mpr ⟨e, he, rfl⟩))).2
        cases ez
        omega
      rw [good_six hok]
      refine iteF ?_
      have hd1 := s1 _ _ hd
      have hp1 := s1 _ _ hp
      refine ⟨d, _, hd1, trivial, fun od => ?_⟩
      refine ⟨_, rfl, d, od, rfl, .inl ⟨_, upd_same, fun D hD => ?_⟩⟩
      have hDd : D ≠ d := fun z => by rw [z, upd_same] at hD; cases hD
      have hDn : H1 D = none := by rwa [upd_ne hDd] at hD
      refine dc_it walk_keys (fun j G => SameX d H1 G ∧ G d = some (.frz od (.dK (rs.map kvI))) ∧ ∃ ls, G D = some (.dK (ls.map kvI)) ∧ Bld ls ((rs.map (·.1)).take j) (fun n => decide (val rs n ≠ 0)) (val rs)) ⟨sameX_lock.put hDn, (upd_ne hDd.symm).trans upd_same, [], upd_same, by rw [List.take_zero]; exact bld_nil⟩ (fun _ _ _ h => h.2.1) ?_ ?_
      · rintro j x G G' hj ⟨sm, hGd, ls, hGD, hB⟩ ⟨rfl, kx, vx, hx, rfl⟩
        rw [List.getElem?_map] at hx
        obtain ⟨e, he, hee⟩ := Option.map_eq_some_iff.mp hx
        cases hee
        have hn6 := hok.six _ (List.mem_map.mpr ⟨e, List.mem_of_getElem? he, rfl⟩)
        have hlk := lk_of_mem hok.nd (List.mem_of_getElem? he)
        have hval := val_pos hlk
        have htk : (rs.map (·.1)).take (j + 1) = (rs.map (·.1)).take j ++ [e.1] := by rw [List.take_add_one, List.getElem?_map, he]; rfl
        have hget : DGet G' d (.str e.1) (some (.int e.2)) := by have := dget_I (n := e.1) (Rd.l hGd); rwa [hlk] at this
        refine ⟨rfl, _, rfl, _, rfl, d, _, rfl, hget, ?_⟩
        refine ⟨rfl, _, rfl, ?_⟩
        refine ite2 (fun h1 => ?_) (fun h1 => ?_)
        · refine ⟨_, rfl, _, rfl, _, rfl, d, _, rfl, hget, ?_⟩
          have h0 : e.2 ≠ 0 := fun z => by rw [z] at h1; cases h1
          have hb := hB.add hn6 (decide_eq_true (by rw [hval]; exact h0))
          rw [hval, ← htk] at hb
          refine ⟨_, Sum.inr e.1, rfl, hGD, len_six hB.ok, sm.put' hDn, (upd_ne hDd.symm).trans hGd, _, ?_, hb⟩
          rw [upd_same, putK_I]
        · have h0 : e.2 = 0 := by
            refine Decidable.byContradiction fun z => h1 ?_
            simpa using z
          refine ⟨sm, hGd, ls, hGD, ?_⟩
          rw [htk]
          exact hB.skip (by rw [hval, h0]; rfl)
      · rintro G ⟨sm, hGd, ls, hGD, hB⟩
        have hal : (rs.map (·.1)).take (rs.map kvI).length = rs.map (·.1) := List.take_of_length_le (by rw [List.length_map, List.length_map]; exact Nat.le_refl _)
        rw [hal] at hB
        have hG2 := sm.fin (u := .dK (rs.map kvI)) hd1
        have hpD : p ≠ D := fun z => by rw [← z] at hDn; rw [hDn] at hp1; cases hp1
        refine ⟨hGd, ?_⟩
        have hGp := hG2 _ _ hp1
        have hGD' : upd G d (.dK (rs.map kvI)) D = some (.dK (ls.map kvI)) := (upd_ne hDd).trans hGD
        generalize upd G d (.dK (rs.map kvI)) = G2 at hG2 hGp hGD' ⊢
        refine ⟨_, rfl, p, C, dx, [], rfl, hGp, TB.cl, TB.no, by decide, ?_⟩
        refine q _ ls ((Keep.of (Same.tr s1 hG2)).trans Keep.put) ⟨dx, D, _, upd_same, ?_, ?_, (upd_ne hpD.symm).trans hGD', hB.ok, ?_⟩ (fun dx' fs' d' e1 e2 => ?_) ?_
        rotate_left 3
        · rw [upd_same] at e1
          cases e1
          have e3 : d' = D := by
            have : (putF ("_rows" : Str) (V.ref D) []).lookup ("_rows" : Str) = some (.ref D) := rfl
            rw [this] at e2
            cases e2
            rfl
          rw [e3]
          cases hh : H D with
          | none => rfl
          | some o => rw [s1 _ _ hh] at hDn; cases hDn
        rotate_right 3
        · rfl
        · intro m hm
          rw [lookup_putF, if_neg hm]
          rfl
        · intro e he
          have h1 := lk_of_mem hB.ok.nd he
          rw [hB.at_] at h1
          split at h1
          · rename_i h2
            rw [← Option.some.inj h1]
            exact of_decide_eq_true h2.2
          · cases h1
        · refine fun n => hB.val (fun m hm => ?_) n
          rcases hm with hm | hm
          · exact val_out hm
          · exact Decidable.byContradiction fun z => by rw [decide_eq_true z] at hm; cases hm

end
end T31
set_option Elab.async false
set_option linter.all false
set_option maxRecDepth 100000
set_option maxHeartbeats 4000000
namespace T31
open PySem PySem.Spec PyProof.Rows L2 Tp

/-- more of the class -/
structure TxtL2 (K : PySem.W.Frag) (C : Addr) : Prop where
  ik : InsK K C
  self : PySem.W.kitOne K (.ref C) (.ref C) = some true
  dk : PySem.W.kitOne K (.type "dict") (.ref C) = some false
  sd : PySem.W.subIn K (.type "dict") (.ref C) = some false
  gi : ∀ f, PySem.W.findIn K (.ref C) "__getitem__" = some (some (.ref f)) → PySem.W.fnIn K f = true
theorem LagAt.ins {H : Hp} {C p : Addr} {ls : List (Str × Int)} (h : LagAt H C p ls) : ∃ dx fs, H p = some (.ins C dx fs) ∧ ∀ m : Str, m ≠ "_rows" → fs.lookup m = none := by
  obtain ⟨dx, d, fs, h1, h2, h3, _⟩ := h
  exact ⟨dx, fs, h1, h3⟩
section
variable {X : Cx} {j : Nat} {C : Addr} {sp : Sp} {o i : Expr} {pos : Pos} {to ti : TE} {W : WX}
theorem pe_getL (c : Ctr X.prog X.w X.K X.mg X.base j C "__getitem__" [] sp) (hfn : ∀ f, PySem.W.findIn X.K (.ref C) "__getitem__" = some (some (.ref f)) → PySem.W.fnIn X.K f = true) (hr : Room (j + 1) X.A) (hG : X.A.guards = some []) (tk : Takes X W) (ho : PE X o to) (hi : PE X i ti)
    (hsl : ∀ (a : Addr) (v : Value), subscripted i true (.ref a) v = runValue (.builtin "lifetime.subscript" ⟨[.ref a, v], []⟩) := by (intro _ _; with_unfolding_all rfl)) : PE X (.Subscript o i pos) (tGetX C sp W to ti) := by
  refine ⟨fun pins s σ H Q I h => ?_⟩
  refine Subscript_ (thn (ho.run pins s σ H _ I h) fun u s1 ⟨y, H1, I1, r1, q1⟩ => thn (hi.run pins s1 σ H1 _ I1 q1) fun v s2 ⟨x, H2, I2, r2, a, dx, fs, ey, ha, q2⟩ => ?_)
  subst ey
  cases (show u = Value.ref a from r1)
  obtain ⟨f, fd, ps, ds, cl, hm, F, hb, hd⟩ := c.ex
  cases hd
  obtain ⟨ox, od, J⟩ := ins_at I2 ha
  obtain ⟨m, hF⟩ := I2.fr
  exact PySem.W.sub_K hF I2.ok.mod.kin J hm.at_ (hfn _ hm.at_) hm.fn (run_gX (A := X.A.in1) (us := [.ref a, v]) (vs := [.ref a, x]) F hr.in1 hG rfl hb .nil tk I2 (.cons rfl (.cons r2 .nil)) q2) (hsl _ _)
end
/-- lags[name] -/
def spItem (K : PySem.W.Frag) (C CN : Addr) : Sp := fun vs H Q E => ∃ (p : Addr) (ls : List (Str × Int)) (x : V) (k : String), vs = [.ref p, x] ∧ LagAt H C p ls ∧ Vk K H x k ∧
  (∀ z, x = .str z → nameB (TL.tl z) = true → ∀ H', Same H H' → Q (.int (val ls z)) H') ∧
  ((∀ z, x = .str z → nameB (TL.tl z) = false) → ∀ H' dd fs, Same H H' → H' dd = some (exd dd fs) → fs.lookup ("value" : Str) = some x → E (.ref CN) (some dd) H')
/-- rows() -/
def spRows (C : Addr) : Sp := fun vs H Q _ => ∃ (p : Addr) (ls : List (Str × Int)), vs = [.ref p] ∧ LagAt H C p ls ∧ ∀ d, H d = none → Q (.ref d) (upd H d (.dK (ls.map kvI)))
/-- == -/
def spEqL (K : PySem.W.Frag) (C : Addr) : Sp := fun vs H Q _ => ∃ (p : Addr) (ls : List (Str × Int)) (y : V), vs = [.ref p, y] ∧ LagAt H C p ls ∧ ((∃ q ms, y = .ref q ∧ LagAt H C q ms ∧ Q (.bl (eqI ls ms)) H) ∨ (IsR K H y (.ref C) false ∧ Q (.bl false) H))
/-- _names_of -/
def spNames (C : Addr) : Sp := fun vs H Q _ => ∃ (p q : Addr) (ls ms : List (Str × Int)), vs = [.ref p, .ref q] ∧ LagAt H C p ls ∧ LagAt H C q ms ∧ ∀ l, H l = none → Q (.ref l) (upd H l (.lst ((ls.map (·.1) ++ ms.map (·.1)).map V.str)))
/-- a new row of lags, made of two -/
def spBin (C : Addr) (g : Int → Int → Int) : Sp := fun vs H Q _ => ∃ (p q : Addr) (ls ms : List (Str × Int)), vs = [.ref p, .ref q] ∧ LagAt H C p ls ∧ LagAt H C q ms ∧ ∀ H' r rs, Same H H' → LagAt H' C r rs → (∀ n, val rs n = g (val ls n) (val ms n)) → Q (.ref r) H'
def spNeg (C : Addr) : Sp := fun vs H Q _ => ∃ (p : Addr) (ls : List (Str × Int)), vs = [.ref p] ∧ LagAt H C p ls ∧ ∀ H' r rs, Same H H' → LagAt H' C r rs → (∀ n, val rs n = - val ls n) → Q (.ref r) H'
def absI (i : Int) : Int := if i < 0 then -i else i
def spAbs (C : Addr) : Sp := fun vs H Q _ => ∃ (p : Addr) (ls : List (Str × Int)), vs = [.ref p] ∧ LagAt H C p ls ∧ ∀ H', Same H H' → Q (.int ((ls.map fun p => absI p.2).sum)) H'
def spBelow (C : Addr) : Sp := fun vs H Q _ => ∃ (p q : Addr) (ls ms : List (Str × Int)), vs = [.ref p, .ref q] ∧ LagAt H C p ls ∧ LagAt H C q ms ∧ ∀ H', Same H H' → Q (.bl ((ls.map (·.1) ++ ms.map (·.1)).all fun n => decide (val ls n ≤ val ms n))) H'

section
variable {P : Program} {w : World} {K : PySem.W.Frag} {mg : Str → Option Value} {base : Heap} {f : Addr} {fd : FuncData}

abbrev sLgi : Stmt := inClass (top 11) 1
abbrev nLgi : List Str := ["self", "name"]
theorem scLgi : FnScope nLgi ["self", "name"] (defScope sLgi) := ⟨rfl, rfl, rfl, by decide +kernel, rfl, by decide +kernel, by decide +kernel⟩

theorem ok_item {C CN : Addr} (F : Fun K "__getitem__" "Lags.__getitem__" sLgi f fd) (TB : TxtLg K C) (N : Cg P w K mg base 1 "is_name" (spName K)) (XN : Cx1 P w K mg base "InvalidName" CN 1 [] (spI CN ["value"]) (fun vs _ => vs)) : FnG P w K mg base (L2.CX P w) 3 f fd ["self", "name"] (spItem K C CN) := by
  have hTN : ExK K CN := let ⟨_, _, _, _, h, _⟩ := XN.ex; h
  refine FunG.okX F scLgi (fun vs H Q E h => ?_) (fun cdv B out s H vs Q E hr hG h => ?_)
  · obtain ⟨p, ls, x, k, rfl, _⟩ := h
    rfl
  · obtain ⟨p, ls, x, k, rfl, hL, hv, q, r⟩ := h
    refine ⟨_, (pss_cons (ps_if (pt_not (pt_val (pe_g N hr hG (by decide) (by rfl) (pa_cons (pv 1) pa_nil)))) (pss_one (ps_raise rfl (takes_of rfl rfl rfl rfl) (pmk_x rfl (pe_mke (ns := ["value"]) XN (hr.mono (by decide)) (by rfl) (pa_cons (pv 1) pa_nil))))) pss_nil)
      (pss_one (ps_ret (pe_dget2 (hu_of hr) (pe_fld (pv 0) rfl) (pv 1) pe_int ⟨rfl, rfl, rfl, rfl⟩)))), ?_⟩
    have bad : ∀ H1, Same H H1 → (∀ z, x = .str z → nameB (TL.tl z) = false) → _ := fun H1 s1 e => raise_e (H0 := H) (H1 := H1) (n := "value") (ns := []) (vs := [x]) (Q := E) hTN s1 rfl (by decide) fun H' dd fs s he hf => r e H' dd fs (Same.tr s1 s) he (hf 0 "value" x rfl rfl)
    refine ⟨_, rfl, x, k, rfl, hv, fun hk => ⟨_, rfl, iteT ⟨_, rfl, bad H (Same.refl _) fun z e => absurd (by rw [e] at hv; exact hv.str_k) hk⟩⟩, fun z e H1 s1 => ⟨_, rfl, ?_⟩⟩
    cases hn : nameB (TL.tl z) with
    | false => exact iteT ⟨_, rfl, bad H1 s1 fun z' e' => by rw [e] at e'; cases e'; exact hn⟩
    | true =>
      subst e
      obtain ⟨dx, d, fs, h1, h2, h3, h4, h5⟩ := hL.up s1
      have q' := q z rfl hn H1 s1
      refine iteF ⟨_, rfl, p, C, dx, fs, _, rfl, h1, TB.cl, TB.no, h2, d, rfl, .inl ⟨_, .inl h4⟩, _, rfl, _, dget_I (.inl h4), ?_⟩
      have e3 : (Option.map V.int (lk ls z)).getD (V.int 0) = V.int (val ls z) := by
        unfold val
        cases lk ls z <;> rfl
      rw [e3]
      exact q'

abbrev sLro : Stmt := inClass (top 11) 3
abbrev nLro : List Str := ["self"]
theorem scLro : FnScope nLro ["self"] (defScope sLro) := ⟨rfl, rfl, rfl, by decide +kernel, rfl, by decide +kernel, by decide +kernel⟩

theorem ok_rows {C : Addr} (F : Fun K "rows" "Lags.rows" sLro f fd) (T : TxtV mg) (TB : TxtLg K C) : FnG P w K mg base CX0 1 f fd ["self"] (spRows C) := by
  refine FunG.ok F scLro (fun vs H Q E h => ?_) (fun cdv B out s H vs Q E hr hG h => ?_)
  · obtain ⟨p, ls, rfl, _⟩ := h
    rfl
  · obtain ⟨p, ls, rfl, ⟨dx, d, fs, h1, h2, h3, h4, h5⟩, q⟩ := h
    refine ⟨_, (pss_one (ps_ret (pe_callTy call_dictD (by rfl) T.dict (by decide +kernel) (pa_cons (pe_fld (pv 0) rfl) pa_nil)))), ?_⟩
    exact ⟨_, rfl, p, C, dx, fs, _, rfl, h1, TB.cl, TB.no, h2, d, _, rfl, .inl h4, q⟩

abbrev sLeq : Stmt := inClass (top 11) 4
abbrev nLeq : List Str := ["self", "other"]
theorem scLeq : FnScope nLeq ["self", "other"] (defScope sLeq) := ⟨rfl, rfl, rfl, by decide +kernel, rfl, by decide +kernel, by decide +kernel⟩

theorem hu_of2 {k : Nat} {A : Around} (hr : Room k A) : A.units < cLine := by
  have := hr.un
  omega
theorem isR_lag {H : Hp} {C q : Addr} {ms : List (Str × Int)} (T2 : TxtL2 K C) (h : LagAt H C q ms) : IsR K H (.ref q) (.ref C) true := by
  obtain ⟨dx, fs, h1, _⟩ := h.ins
  exact .inl ⟨_, .base (.ins h1 T2.ik.cl T2.ik.ha T2.ik.hn T2.ik.ht T2.ik.hm), T2.self⟩
theorem ok_leq {C : Addr} (F : Fun K "__eq__" "Lags.__eq__" sLeq f fd) (T : TxtV mg) (TB : TxtLg K C) (T2 : TxtL2 K C) (hmL : mg "Lags" = some (.ref C)) : FnG P w K mg base CX0 1 f fd ["self", "other"] (spEqL K C) := by
  refine FunG.ok F scLeq (fun vs H Q E h => ?_) (fun cdv B out s H vs Q E hr hG h => ?_)
  · obtain ⟨p, ls, y, rfl, _⟩ := h
    rfl
  · obtain ⟨p, ls, y, rfl, hL, h⟩ := h
    refine ⟨_, (pss_one (ps_ret (pe_and (pe_callB call_isd (by rfl) T.isinstance (by decide +kernel) (pa_cons (pv 1) (pa_cons (gl_c (v := .ref C) (by rfl) ⟨_, hmL, rfl⟩) pa_nil))) (pe_one (pe_cmpR (op_eqDI (hu_of2 hr)) (pe_fld (pv 0) rfl) (pe_fld (pv 1) rfl) (nomark _)))))), ?_⟩
    rcases h with ⟨q, ms, rfl, hM, qq⟩ | ⟨hI, qq⟩
    · refine ⟨_, rfl, _, _, _, _, rfl, .own _, isR_lag T2 hM, _, rfl, iteT ?_⟩
      obtain ⟨dx, d, fs, h1, h2, h3, h4, h5⟩ := hL
      obtain ⟨ex, e, gs, g1, g2, g3, g4, g5⟩ := hM
      refine ⟨_, rfl, p, C, dx, fs, _, rfl, h1, TB.cl, TB.no, h2, _, rfl, q, C, ex, gs, _, rfl, g1, TB.cl, TB.no, g2, d, e, ls, ms, rfl, rfl, h4, g4, ?_⟩
      rw [Bool.bne_false]
      exact qq
    · exact ⟨_, rfl, _, _, _, _, rfl, .own _, hI, _, rfl, iteF qq⟩

abbrev sLno : Stmt := top 13
abbrev nLno : List Str := ["one", "other"]
theorem scLno : FnScope nLno ["one", "other"] (defScope sLno) := ⟨rfl, rfl, rfl, by decide +kernel, rfl, by decide +kernel, by decide +kernel⟩

theorem keys_I (ls : List (Str × Int)) : ((ls.map kvI).map fun kv => kV kv.1) = (ls.map (·.1)).map V.str := by
  rw [List.map_map, List.map_map]
  rfl
theorem ok_names {C : Addr} (F : Fun K "_names_of" "_names_of" sLno f fd) (TB : TxtLg K C) : FnG P w K mg base CX0 1 f fd ["one", "other"] (spNames C) := by
  refine FunG.ok F scLno (fun vs H Q E h => ?_) (fun cdv B out s H vs Q E hr hG h => ?_)
  · obtain ⟨p, q, ls, ms, rfl, _⟩ := h
    rfl
  · obtain ⟨p, q, ls, ms, rfl, ⟨dx, d, fs, h1, h2, h3, h4, h5, h6⟩, ⟨ex, e, gs, g1, g2, g3, g4, g5, g6⟩, qq⟩ := h
    refine ⟨_, (pss_one (ps_ret (pe_lst (pa_starD rfl (pe_fld (pv 0) rfl) (pa_starD rfl (pe_fld (pv 1) rfl) pa_nil))))), ?_⟩
    have l1 := h5.len
    have l2 := g5.len
    refine ⟨_, rfl, p, C, dx, fs, _, rfl, h1, TB.cl, TB.no, h2, d, _, rfl, .inl h4, _, rfl, q, C, ex, gs, _, rfl, g1, TB.cl, TB.no, g2, e, _, rfl, .inl g4, ?_⟩
    rw [keys_I, keys_I]
    refine ⟨?_, fun l hl => ?_⟩
    rotate_left
    · rw [List.append_nil, ← List.map_append]
      exact qq l hl
    rw [List.append_nil, ← List.map_append]
    rw [List.length_map, List.length_append, List.length_map, List.length_map, PySem.sizeLine_eq]
    omega

end
end T31
set_option Elab.async false
set_option linter.all false
set_option maxRecDepth 100000
set_option maxHeartbeats 4000000
namespace T31
open PySem PySem.Spec PyProof.Rows L2 Tp

section
variable {P : Program} {w : World} {K : PySem.W.Frag} {mg : Str → Option Value} {base : Heap} {f : Addr} {fd : FuncData}

theorem item_six {C CN p : Addr} {G : Hp} {ls : List (Str × Int)} {n : Str} {Q : VK} {E : XK} (hL : LagAt G C p ls) (hn : n ∈ six) (q : ∀ G2, Same G G2 → Q (.int (val ls n)) G2) : spItem K C CN [.ref p, .str n] G Q E := by
  have h := name_six hn
  refine ⟨p, ls, .str n, "str", rfl, hL, vk_str n (by omega), fun z e _ G2 s2 => ?_, fun bad => ?_⟩
  · cases e
    exact q G2 s2
  · have := bad n rfl
    rw [h.1] at this
    cases this
theorem made_same {H G H' : Hp} {x dx : Addr} {o1 o2 : HO} (s : Same H G) (hx : G x = none) (hdx : G dx = none) (k : Keep x (upd (upd G dx o1) x o2) H') : Same H H' := fun b o e => by
  have e1 := s b o e
  have n1 := ne_of_none e1 hx
  have n2 := ne_of_none e1 hdx
  exact k b o n1 ((upd_ne n1).trans ((upd_ne n2).trans e1))
/-- a row of lags is made of a dict -/
theorem make_lags {C CL D : Addr} {G : Hp} {cs : List (Str × Int)} {Q : VK} {E : XK} (hGD : G D = some (.dK (cs.map kvI))) (ok : OkL cs) (q : ∀ H' r rs, Same G H' → LagAt H' C r rs → (∀ n, val rs n = val cs n) → Q (.ref r) H') :
    ∀ x dx, G x = none → G dx = none → dx ≠ x → spInit K C CL (.ref x :: ([.ref D] ++ [])) (upd (upd G dx (.own x)) x (.ins C dx [])) (fun v H2 => v = .non ∧ Q (.ref x) H2) E := by
  intro x dx hx hdx hne
  have n1 : D ≠ x := ne_of_none hGD hx
  have n2 : D ≠ dx := ne_of_none hGD hdx
  refine ⟨x, dx, .ref D, rfl, upd_same, .inr (.inr ⟨D, cs, rfl, n1, (upd_ne n1).trans ((upd_ne n2).trans hGD), ok, fun H' ls k hL _ hv => ⟨rfl, q H' x ls (made_same (Same.refl _) hx hdx k) hL hv⟩⟩)⟩
theorem six_of {ls ms : List (Str × Int)} (h1 : OkL ls) (h2 : OkL ms) {n : Str} (hn : n ∈ ls.map (·.1) ++ ms.map (·.1)) : n ∈ six := by
  rcases List.mem_append.mp hn with z | z
  · exact h1.six n z
  · exact h2.six n z
theorem LagAt.ok {H : Hp} {C p : Addr} {ls : List (Str × Int)} (h : LagAt H C p ls) : OkL ls ∧ NzL ls := by
  obtain ⟨dx, d, fs, h1, h2, h3, h4, h5, h6⟩ := h
  exact ⟨h5, h6⟩

abbrev sLor : Stmt := inClass (top 11) 5
abbrev nLor : List Str := ["self", "other", "name"]
theorem scLor : FnScope nLor ["self", "other"] (defScope sLor) := ⟨rfl, rfl, rfl, by decide +kernel, rfl, by decide +kernel, by decide +kernel⟩

theorem ok_or {C CL CN : Addr} (F : Fun K "__or__" "Lags.__or__" sLor f fd) (mM : mg "max" = none) (TB : TxtLg K C) (T2 : TxtL2 K C) (NO : Cg P w K mg base 1 "_names_of" (spNames C)) (GI : Ctr P w K mg base 3 C "__getitem__" [] (spItem K C CN)) (CM : Cmr P w K mg base 3 "Lags" C [] (spInit K C CL)) : FnG P w K mg base CX0 5 f fd ["self", "other"] (spBin C (fun a b => if b > a then b else a)) := by
  refine FunG.ok F scLor (fun vs H Q E h => ?_) (fun cdv B out s H vs Q E hr hG h => ?_)
  · obtain ⟨p, q, ls, ms, rfl, _⟩ := h
    rfl
  · obtain ⟨p, q, ls, ms, rfl, hL, hM, qq⟩ := h
    refine ⟨_, (pss_one (ps_ret (pe_cmr CM hr hG (by decide) takes0 (by rfl) (pa_cons (pe_dc (own := [("name", 2)]) (g := gName 2) (tt := tYes) rfl scLor.nd (pi_list (pe_g NO hr hG (by decide) (by rfl) (pa_cons (pv 0) (pa_cons (pv 1) pa_nil)))) (blkOk_by (N := nLor) (sc := defScope sLor) (by decide +kernel)) (fun _ _ _ _ _ => pg_name (i := 2) scLor.nd rfl (Or.inl rfl)) (fun _ _ _ _ _ => pts_nil) (fun _ _ _ _ _ => (pv 2)) (fun _ _ _ _ _ => (pe_callB (call_max2 rfl) (by rfl) mM (by decide +kernel) (pa_cons (pe_getL GI T2.gi (hr.mono (by decide)) hG takes0 (pv 0) (pv 2)) (pa_cons (pe_getL GI T2.gi (hr.mono (by decide)) hG takes0 (pv 1) (pv 2)) pa_nil))))) pa_nil)))), ?_⟩
    obtain ⟨ok1, _⟩ := hL.ok
    obtain ⟨ok2, _⟩ := hM.ok
    obtain ⟨g, hg⟩ : ∃ g : Int → Int → Int, g = (fun a b => if b > a then b else a) := ⟨_, rfl⟩
    have hg0 : g 0 0 = 0 := by rw [hg]; rfl
    rw [← hg] at qq
    refine ⟨_, rfl, _, rfl, p, q, ls, ms, rfl, hL, hM, fun l hl => ?_⟩
    have hks : ∀ n ∈ ls.map (·.1) ++ ms.map (·.1), n ∈ six := fun n hn => six_of ok1 ok2 hn
    have hout : ∀ n, n ∉ ls.map (·.1) ++ ms.map (·.1) → g (val ls n) (val ms n) = 0 := fun n hn => by
      rw [val_out fun z => hn (List.mem_append_left _ z), val_out fun z => hn (List.mem_append_right _ z)]
      exact hg0
    generalize ls.map (·.1) ++ ms.map (·.1) = ks at hks hout ⊢
    have s1 := Same.put (o := .lst (ks.map V.str)) hl
    have hl1 : upd H l (.lst (ks.map V.str)) l = some (.lst (ks.map V.str)) := upd_same
    generalize upd H l (.lst (ks.map V.str)) = H1 at s1 hl1 ⊢
    refine ⟨l, rfl, ⟨_, SqL.of hl1⟩, fun D hD => ?_⟩
    refine dc_it (walk_list (xs := ks.map V.str)) (fun j G => Same H1 G ∧ ∃ cs, G D = some (.dK (cs.map kvI)) ∧ Bld cs (ks.take j) (fun _ => true) (fun n => g (val ls n) (val ms n))) ⟨Same.put hD, [], upd_same, by rw [List.take_zero]; exact bld_nil⟩ (fun _ _ _ h => SqL.of (h.1 _ _ hl1)) ?_ ?_
    · rintro j x G G' hj ⟨sm, cs, hGD, hB⟩ ⟨rfl, hx⟩
      rw [List.getElem?_map] at hx
      obtain ⟨n, hn, rfl⟩ := Option.map_eq_some_iff.mp hx
      have hn6 := hks n (List.mem_of_getElem? hn)
      have sg := Same.tr s1 sm
      have hLG := hL.up sg
      obtain ⟨dx, fs, hp, _⟩ := hLG.ins
      refine ⟨rfl, _, rfl, _, rfl, _, rfl, p, dx, fs, rfl, hp, item_six hLG hn6 fun G2 s2 => ?_⟩
      have hMG := hM.up (Same.tr sg s2)
      obtain ⟨ex, gs, hq, _⟩ := hMG.ins
      refine ⟨_, rfl, _, rfl, q, ex, gs, rfl, hq, item_six hMG hn6 fun G3 s3 => ?_⟩
      have s13 := Same.tr sm (Same.tr s2 s3)
      have hb := hB.add hn6 rfl
      have htk : ks.take (j + 1) = ks.take j ++ [n] := by rw [List.take_add_one, hn]; rfl
      rw [← htk] at hb
      refine ⟨_, _, rfl, ?_⟩
      refine ⟨_, Sum.inr n, rfl, Same.tr s2 s3 _ _ hGD, len_six hB.ok, fun b o e => (upd_ne (ne_of_none e hD)).trans (s13 b o e), _, ?_, hb⟩
      rw [upd_same, putK_I, hg]
    · rintro G ⟨sm, cs, hGD, hB⟩
      rw [List.length_map, List.take_length] at hB
      refine make_lags hGD hB.ok fun H' r rs s hR hv => qq H' r rs (Same.tr s1 (Same.tr sm s)) hR fun n => ?_
      rw [hv, hB.val fun m hm => ?_]
      rcases hm with hm | hm
      · exact hout m hm
      · cases hm

abbrev sLan : Stmt := inClass (top 11) 6
abbrev nLan : List Str := ["self", "other", "name"]
theorem scLan : FnScope nLan ["self", "other"] (defScope sLan) := ⟨rfl, rfl, rfl, by decide +kernel, rfl, by decide +kernel, by decide +kernel⟩

theorem ok_an {C CL CN : Addr} (F : Fun K "__and__" "Lags.__and__" sLan f fd) (mM : mg "min" = none) (TB : TxtLg K C) (T2 : TxtL2 K C) (NO : Cg P w K mg base 1 "_names_of" (spNames C)) (GI : Ctr P w K mg base 3 C "__getitem__" [] (spItem K C CN)) (CM : Cmr P w K mg base 3 "Lags" C [] (spInit K C CL)) : FnG P w K mg base CX0 5 f fd ["self", "other"] (spBin C (fun a b => if b < a then b else a)) := by
  refine FunG.ok F scLan (fun vs H Q E h => ?_) (fun cdv B out s H vs Q E hr hG h => ?_)
  · obtain ⟨p, q, ls, ms, rfl, _⟩ := h
    rfl
  · obtain ⟨p, q, ls, ms, rfl, hL, hM, qq⟩ := h
    refine ⟨_, (pss_one (ps_ret (pe_cmr CM hr hG (by decide) takes0 (by rfl) (pa_cons (pe_dc (own := [("name", 2)]) (g := gName 2) (tt := tYes) rfl scLan.nd (pi_list (pe_g NO hr hG (by decide) (by rfl) (pa_cons (pv 0) (pa_cons (pv 1) pa_nil)))) (blkOk_by (N := nLan) (sc := defScope sLan) (by decide +kernel)) (fun _ _ _ _ _ => pg_name (i := 2) scLan.nd rfl (Or.inl rfl)) (fun _ _ _ _ _ => pts_nil) (fun _ _ _ _ _ => (pv 2)) (fun _ _ _ _ _ => (pe_callB (call_min2 rfl) (by rfl) mM (by decide +kernel) (pa_cons (pe_getL GI T2.gi (hr.mono (by decide)) hG takes0 (pv 0) (pv 2)) (pa_cons (pe_getL GI T2.gi (hr.mono (by decide)) hG takes0 (pv 1) (pv 2)) pa_nil))))) pa_nil)))), ?_⟩
    obtain ⟨ok1, _⟩ := hL.ok
    obtain ⟨ok2, _⟩ := hM.ok
    obtain ⟨g, hg⟩ : ∃ g : Int → Int → Int, g = (fun a b => if b < a then b else a) := ⟨_, rfl⟩
    have hg0 : g 0 0 = 0 := by rw [hg]; rfl
    rw [← hg] at qq
    refine ⟨_, rfl, _, rfl, p, q, ls, ms, rfl, hL, hM, fun l hl => ?_⟩
    have hks : ∀ n ∈ ls.map (·.1) ++ ms.map (·.1), n ∈ six := fun n hn => six_of ok1 ok2 hn
    have hout : ∀ n, n ∉ ls.map (·.1) ++ ms.map (·.1) → g (val ls n) (val ms n) = 0 := fun n hn => by
      rw [val_out fun z => hn (List.mem_append_left _ z), val_out fun z => hn (List.mem_append_right _ z)]
      exact hg0
    generalize ls.map (·.1) ++ ms.map (·.1) = ks at hks hout ⊢
    have s1 := Same.put (o := .lst (ks.map V.str)) hl
    have hl1 : upd H l (.lst (ks.map V.str)) l = some (.lst (ks.map V.str)) := upd_same
    generalize upd H l (.lst (ks.map V.str)) = H1 at s1 hl1 ⊢
    refine ⟨l, rfl, ⟨_, SqL.of hl1⟩, fun D hD => ?_⟩
    refine dc_it (walk_list (xs := ks.map V.str)) (fun j G => Same H1 G ∧ ∃ cs, G D = some (.dK (cs.map kvI)) ∧ Bld cs (ks.take j) (fun _ => true) (fun n => g (val ls n) (val ms n))) ⟨Same.put hD, [], upd_same, by rw [List.take_zero]; exact bld_nil⟩ (fun _ _ _ h => SqL.of (h.1 _ _ hl1)) ?_ ?_
    · rintro j x G G' hj ⟨sm, cs, hGD, hB⟩ ⟨rfl, hx⟩
      rw [List.getElem?_map] at hx
      obtain ⟨n, hn, rfl⟩ := Option.map_eq_some_iff.mp hx
      have hn6 := hks n (List.mem_of_getElem? hn)
      have sg := Same.tr s1 sm
      have hLG := hL.up sg
      obtain ⟨dx, fs, hp, _⟩ := hLG.ins
      refine ⟨rfl, _, rfl, _, rfl, _, rfl, p, dx, fs, rfl, hp, item_six hLG hn6 fun G2 s2 => ?_⟩
      have hMG := hM.up (Same.tr sg s2)
      obtain ⟨ex, gs, hq, _⟩ := hMG.ins
      refine ⟨_, rfl, _, rfl, q, ex, gs, rfl, hq, item_six hMG hn6 fun G3 s3 => ?_⟩
      have s13 := Same.tr sm (Same.tr s2 s3)
      have hb := hB.add hn6 rfl
      have htk : ks.take (j + 1) = ks.take j ++ [n] := by rw [List.take_add_one, hn]; rfl
      rw [← htk] at hb
      refine ⟨_, _, rfl, ?_⟩
      refine ⟨_, Sum.inr n, rfl, Same.tr s2 s3 _ _ hGD, len_six hB.ok, fun b o e => (upd_ne (ne_of_none e hD)).trans (s13 b o e), _, ?_, hb⟩
      rw [upd_same, putK_I, hg]
    · rintro G ⟨sm, cs, hGD, hB⟩
      rw [List.length_map, List.take_length] at hB
      refine make_lags hGD hB.ok fun H' r rs s hR hv => qq H' r rs (Same.tr s1 (Same.tr sm s)) hR fun n => ?_
      rw [hv, hB.val fun m hm => ?_]
      rcases hm with hm | hm
      · exact hout m hm
      · cases hm

abbrev sLad : Stmt := inClass (top 11) 7
abbrev nLad : List Str := ["self", "other", "name"]
theorem scLad : FnScope nLad ["self", "other"] (defScope sLad) := ⟨rfl, rfl, rfl, by decide +kernel, rfl, by decide +kernel, by decide +kernel⟩

theorem ok_ad {C CL CN : Addr} (F : Fun K "__add__" "Lags.__add__" sLad f fd) (TB : TxtLg K C) (T2 : TxtL2 K C) (NO : Cg P w K mg base 1 "_names_of" (spNames C)) (GI : Ctr P w K mg base 3 C "__getitem__" [] (spItem K C CN)) (CM : Cmr P w K mg base 3 "Lags" C [] (spInit K C CL)) : FnG P w K mg base CX0 5 f fd ["self", "other"] (spBin C (fun a b => a + b)) := by
  refine FunG.ok F scLad (fun vs H Q E h => ?_) (fun cdv B out s H vs Q E hr hG h => ?_)
  · obtain ⟨p, q, ls, ms, rfl, _⟩ := h
    rfl
  · obtain ⟨p, q, ls, ms, rfl, hL, hM, qq⟩ := h
    refine ⟨_, (pss_one (ps_ret (pe_cmr CM hr hG (by decide) takes0 (by rfl) (pa_cons (pe_dc (own := [("name", 2)]) (g := gName 2) (tt := tYes) rfl scLad.nd (pi_list (pe_g NO hr hG (by decide) (by rfl) (pa_cons (pv 0) (pa_cons (pv 1) pa_nil)))) (blkOk_by (N := nLad) (sc := defScope sLad) (by decide +kernel)) (fun _ _ _ _ _ => pg_name (i := 2) scLad.nd rfl (Or.inl rfl)) (fun _ _ _ _ _ => pts_nil) (fun _ _ _ _ _ => (pv 2)) (fun _ _ _ _ _ => (pe_op op_add (pe_getL GI T2.gi (hr.mono (by decide)) hG takes0 (pv 0) (pv 2)) (pe_getL GI T2.gi (hr.mono (by decide)) hG takes0 (pv 1) (pv 2))))) pa_nil)))), ?_⟩
    obtain ⟨ok1, _⟩ := hL.ok
    obtain ⟨ok2, _⟩ := hM.ok
    obtain ⟨g, hg⟩ : ∃ g : Int → Int → Int, g = (fun a b => a + b) := ⟨_, rfl⟩
    have hg0 : g 0 0 = 0 := by rw [hg]; rfl
    rw [← hg] at qq
    refine ⟨_, rfl, _, rfl, p, q, ls, ms, rfl, hL, hM, fun l hl => ?_⟩
    have hks : ∀ n ∈ ls.map (·.1) ++ ms.map (·.1), n ∈ six := fun n hn => six_of ok1 ok2 hn
    have hout : ∀ n, n ∉ ls.map (·.1) ++ ms.map (·.1) → g (val ls n) (val ms n) = 0 := fun n hn => by
      rw [val_out fun z => hn (List.mem_append_left _ z), val_out fun z => hn (List.mem_append_right _ z)]
      exact hg0
    generalize ls.map (·.1) ++ ms.map (·.1) = ks at hks hout ⊢
    have s1 := Same.put (o := .lst (ks.map V.str)) hl
    have hl1 : upd H l (.lst (ks.map V.str)) l = some (.lst (ks.map V.str)) := upd_same
    generalize upd H l (.lst (ks.map V.str)) = H1 at s1 hl1 ⊢
    refine ⟨l, rfl, ⟨_, SqL.of hl1⟩, fun D hD => ?_⟩
    refine dc_it (walk_list (xs := ks.map V.str)) (fun j G => Same H1 G ∧ ∃ cs, G D = some (.dK (cs.map kvI)) ∧ Bld cs (ks.take j) (fun _ => true) (fun n => g (val ls n) (val ms n))) ⟨Same.put hD, [], upd_same, by rw [List.take_zero]; exact bld_nil⟩ (fun _ _ _ h => SqL.of (h.1 _ _ hl1)) ?_ ?_
    · rintro j x G G' hj ⟨sm, cs, hGD, hB⟩ ⟨rfl, hx⟩
      rw [List.getElem?_map] at hx
      obtain ⟨n, hn, rfl⟩ := Option.map_eq_some_iff.mp hx
      have hn6 := hks n (List.mem_of_getElem? hn)
      have sg := Same.tr s1 sm
      have hLG := hL.up sg
      obtain ⟨dx, fs, hp, _⟩ := hLG.ins
      refine ⟨rfl, _, rfl, _, rfl, _, rfl, p, dx, fs, rfl, hp, item_six hLG hn6 fun G2 s2 => ?_⟩
      have hMG := hM.up (Same.tr sg s2)
      obtain ⟨ex, gs, hq, _⟩ := hMG.ins
      refine ⟨_, rfl, _, rfl, q, ex, gs, rfl, hq, item_six hMG hn6 fun G3 s3 => ?_⟩
      have s13 := Same.tr sm (Same.tr s2 s3)
      have hb := hB.add hn6 rfl
      have htk : ks.take (j + 1) = ks.take j ++ [n] := by rw [List.take_add_one, hn]; rfl
      rw [← htk] at hb
      refine ⟨_, _, rfl, rfl, ?_⟩
      refine ⟨_, Sum.inr n, rfl, Same.tr s2 s3 _ _ hGD, len_six hB.ok, fun b o e => (upd_ne (ne_of_none e hD)).trans (s13 b o e), _, ?_, hb⟩
      rw [upd_same, putK_I, hg]
    · rintro G ⟨sm, cs, hGD, hB⟩
      rw [List.length_map, List.take_length] at hB
      refine make_lags hGD hB.ok fun H' r rs s hR hv => qq H' r rs (Same.tr s1 (Same.tr sm s)) hR fun n => ?_
      rw [hv, hB.val fun m hm => ?_]
      rcases hm with hm | hm
      · exact hout m hm
      · cases hm

abbrev sLsu : Stmt := inClass (top 11) 8
abbrev nLsu : List Str := ["self", "other", "name"]
theorem scLsu : FnScope nLsu ["self", "other"] (defScope sLsu) := ⟨rfl, rfl, rfl, by decide +kernel, rfl, by decide +kernel, by decide +kernel⟩

theorem ok_su {C CL CN : Addr} (F : Fun K "__sub__" "Lags.__sub__" sLsu f fd) (TB : TxtLg K C) (T2 : TxtL2 K C) (NO : Cg P w K mg base 1 "_names_of" (spNames C)) (GI : Ctr P w K mg base 3 C "__getitem__" [] (spItem K C CN)) (CM : Cmr P w K mg base 3 "Lags" C [] (spInit K C CL)) : FnG P w K mg base CX0 5 f fd ["self", "other"] (spBin C (fun a b => a - b)) := by
  refine FunG.ok F scLsu (fun vs H Q E h => ?_) (fun cdv B out s H vs Q E hr hG h => ?_)
  · obtain ⟨p, q, ls, ms, rfl, _⟩ := h
    rfl
  · obtain ⟨p, q, ls, ms, rfl, hL, hM, qq⟩ := h
    refine ⟨_, (pss_one (ps_ret (pe_cmr CM hr hG (by decide) takes0 (by rfl) (pa_cons (pe_dc (own := [("name", 2)]) (g := gName 2) (tt := tYes) rfl scLsu.nd (pi_list (pe_g NO hr hG (by decide) (by rfl) (pa_cons (pv 0) (pa_cons (pv 1) pa_nil)))) (blkOk_by (N := nLsu) (sc := defScope sLsu) (by decide +kernel)) (fun _ _ _ _ _ => pg_name (i := 2) scLsu.nd rfl (Or.inl rfl)) (fun _ _ _ _ _ => pts_nil) (fun _ _ _ _ _ => (pv 2)) (fun _ _ _ _ _ => (pe_op op_sub (pe_getL GI T2.gi (hr.mono (by decide)) hG takes0 (pv 0) (pv 2)) (pe_getL GI T2.gi (hr.mono (by decide)) hG takes0 (pv 1) (pv 2))))) pa_nil)))), ?_⟩
    obtain ⟨ok1, _⟩ := hL.ok
    obtain ⟨ok2, _⟩ := hM.ok
    obtain ⟨g, hg⟩ : ∃ g : Int → Int → Int, g = (fun a b => a - b) := ⟨_, rfl⟩
    have hg0 : g 0 0 = 0 := by rw [hg]; rfl
    rw [← hg] at qq
    refine ⟨_, rfl, _, rfl, p, q, ls, ms, rfl, hL, hM, fun l hl => ?_⟩
    have hks : ∀ n ∈ ls.map (·.1) ++ ms.map (·.1), n ∈ six := fun n hn => six_of ok1 ok2 hn
    have hout : ∀ n, n ∉ ls.map (·.1) ++ ms.map (·.1) → g (val ls n) (val ms n) = 0 := fun n hn => by
      rw [val_out fun z => hn (List.mem_append_left _ z), val_out fun z => hn (List.mem_append_right _ z)]
      exact hg0
    generalize ls.map (·.1) ++ ms.map (·.1) = ks at hks hout ⊢
    have s1 := Same.put (o := .lst (ks.map V.str)) hl
    have hl1 : upd H l (.lst (ks.map V.str)) l = some (.lst (ks.map V.str)) := upd_same
    generalize upd H l (.lst (ks.map V.str)) = H1 at s1 hl1 ⊢
    refine ⟨l, rfl, ⟨_, SqL.of hl1⟩, fun D hD => ?_⟩
    refine dc_it (walk_list (xs := ks.map V.str)) (fun j G => Same H1 G ∧ ∃ cs, G D = some (.dK (cs.map kvI)) ∧ Bld cs (ks.take j) (fun _ => true) (fun n => g (val ls n) (val ms n))) ⟨Same.put hD, [], upd_same, by rw [List.take_zero]; exact bld_nil⟩ (fun _ _ _ h => SqL.of (h.1 _ _ hl1)) ?_ ?_
    · rintro j x G G' hj ⟨sm, cs, hGD, hB⟩ ⟨rfl, hx⟩
      rw [List.getElem?_map] at hx
      obtain ⟨n, hn, rfl⟩ := Option.map_eq_some_iff.mp hx
      have hn6 := hks n (List.mem_of_getElem? hn)
      have sg := Same.tr s1 sm
      have hLG := hL.up sg
      obtain ⟨dx, fs, hp, _⟩ := hLG.ins
      refine ⟨rfl, _, rfl, _, rfl, _, rfl, p, dx, fs, rfl, hp, item_six hLG hn6 fun G2 s2 => ?_⟩
      have hMG := hM.up (Same.tr sg s2)
      obtain ⟨ex, gs, hq, _⟩ := hMG.ins
      refine ⟨_, rfl, _, rfl, q, ex, gs, rfl, hq, item_six hMG hn6 fun G3 s3 => ?_⟩
      have s13 := Same.tr sm (Same.tr s2 s3)
      have hb := hB.add hn6 rfl
      have htk : ks.take (j + 1) = ks.take j ++ [n] := by rw [List.take_add_one, hn]; rfl
      rw [← htk] at hb
      refine ⟨_, _, rfl, rfl, ?_⟩
      refine ⟨_, Sum.inr n, rfl, Same.tr s2 s3 _ _ hGD, len_six hB.ok, fun b o e => (upd_ne (ne_of_none e hD)).trans (s13 b o e), _, ?_, hb⟩
      rw [upd_same, putK_I, hg]
    · rintro G ⟨sm, cs, hGD, hB⟩
      rw [List.length_map, List.take_length] at hB
      refine make_lags hGD hB.ok fun H' r rs s hR hv => qq H' r rs (Same.tr s1 (Same.tr sm s)) hR fun n => ?_
      rw [hv, hB.val fun m hm => ?_]
      rcases hm with hm | hm
      · exact hout m hm
      · cases hm

abbrev sLbl : Stmt := inClass (top 11) 11
abbrev nLbl : List Str := ["self", "other", "name"]
theorem scLbl : FnScope nLbl ["self", "other"] (defScope sLbl) := ⟨rfl, rfl, rfl, by decide +kernel, rfl, by decide +kernel, by decide +kernel⟩

theorem ok_below {C CL CN : Addr} (F : Fun K "is_below" "Lags.is_below" sLbl f fd) (T : TxtV mg) (TB : TxtLg K C) (T2 : TxtL2 K C) (NO : Cg P w K mg base 1 "_names_of" (spNames C)) (GI : Ctr P w K mg base 3 C "__getitem__" [] (spItem K C CN)) (CM : Cmr P w K mg base 3 "Lags" C [] (spInit K C CL)) : FnG P w K mg base CX0 5 f fd ["self", "other"] (spBelow C) := by
  refine FunG.ok F scLbl (fun vs H Q E h => ?_) (fun cdv B out s H vs Q E hr hG h => ?_)
  · obtain ⟨p, q, ls, ms, rfl, _⟩ := h
    rfl
  · obtain ⟨p, q, ls, ms, rfl, hL, hM, qq⟩ := h
    refine ⟨_, (pss_one (ps_ret (pe_callB (cr_all rfl) (by rfl) T.all (by decide +kernel) (pa_cons (pe_lc (own := [("name", 2)]) (g := gName 2) (tt := tYes) rfl scLbl.nd (pi_list (pe_g NO hr hG (by decide) (by rfl) (pa_cons (pv 0) (pa_cons (pv 1) pa_nil)))) (blkOk_by (N := nLbl) (sc := defScope sLbl) (by decide +kernel)) (fun _ _ _ _ _ => pg_name (i := 2) scLbl.nd rfl (Or.inl rfl)) (fun _ _ _ _ _ => pts_nil) (fun _ _ _ _ _ => (pe_cmpR op_le (pe_getL GI T2.gi (hr.mono (by decide)) hG takes0 (pv 0) (pv 2)) (pe_getL GI T2.gi (hr.mono (by decide)) hG takes0 (pv 1) (pv 2)) (nomark _)))) pa_nil)))), ?_⟩
    obtain ⟨ok1, _⟩ := hL.ok
    obtain ⟨ok2, _⟩ := hM.ok
    refine ⟨_, rfl, _, rfl, p, q, ls, ms, rfl, hL, hM, fun l hl => ?_⟩
    have hks : ∀ n ∈ ls.map (·.1) ++ ms.map (·.1), n ∈ six := fun n hn => six_of ok1 ok2 hn
    have hkl : (ls.map (·.1) ++ ms.map (·.1)).length ≤ 12 := by
      have l1 := ok1.len
      have l2 := ok2.len
      rw [List.length_append, List.length_map, List.length_map]
      omega
    generalize ls.map (·.1) ++ ms.map (·.1) = ks at hks hkl qq ⊢
    have s1 := Same.put (o := .lst (ks.map V.str)) hl
    have hl1 : upd H l (.lst (ks.map V.str)) l = some (.lst (ks.map V.str)) := upd_same
    generalize upd H l (.lst (ks.map V.str)) = H1 at s1 hl1 ⊢
    refine ⟨l, rfl, ⟨_, SqL.of hl1⟩, fun D hD => ?_⟩
    refine lc_it (walk_list (xs := ks.map V.str)) (fun j G => Same H1 G ∧ G D = some (.lst (((ks.take j).map fun n => decide (val ls n ≤ val ms n)).map V.bl))) ⟨Same.put hD, upd_same⟩ (fun _ _ _ h => SqL.of (h.1 _ _ hl1)) ?_ ?_
    · rintro j x G G' hj ⟨sm, hGD⟩ ⟨rfl, hx⟩
      rw [List.getElem?_map] at hx
      obtain ⟨n, hn, rfl⟩ := Option.map_eq_some_iff.mp hx
      have hn6 := hks n (List.mem_of_getElem? hn)
      have sg := Same.tr s1 sm
      have hLG := hL.up sg
      obtain ⟨dx, fs, hp, _⟩ := hLG.ins
      refine ⟨rfl, _, rfl, _, rfl, p, dx, fs, rfl, hp, item_six hLG hn6 fun G2 s2 => ?_⟩
      have hMG := hM.up (Same.tr sg s2)
      obtain ⟨ex, gs, hq, _⟩ := hMG.ins
      refine ⟨_, rfl, _, rfl, q, ex, gs, rfl, hq, item_six hMG hn6 fun G3 s3 => ?_⟩
      have s13 := Same.tr sm (Same.tr s2 s3)
      refine ⟨_, _, rfl, rfl, _, Same.tr s2 s3 _ _ hGD, ?_, fun b o e => (upd_ne (ne_of_none e hD)).trans (s13 b o e), ?_⟩
      · rw [List.length_map, List.length_map, List.length_take, PySem.sizeLine_eq]
        omega
      · rw [upd_same, List.take_add_one, hn]
        simp
    · rintro G ⟨sm, hGD⟩
      rw [List.length_map, List.take_length] at hGD
      refine ⟨D, _, rfl, SqL.of hGD, ?_⟩
      rw [List.all_map]
      exact qq _ (Same.tr s1 sm)

abbrev sLng : Stmt := inClass (top 11) 9
abbrev nLng : List Str := ["self", "name", "lag"]
theorem scLng : FnScope nLng ["self"] (defScope sLng) := ⟨rfl, rfl, rfl, by decide +kernel, rfl, by decide +kernel, by decide +kernel⟩

theorem ok_neg {C CL CN : Addr} (F : Fun K "__neg__" "Lags.__neg__" sLng f fd) (TB : TxtLg K C) (T2 : TxtL2 K C) (NO : Cg P w K mg base 1 "_names_of" (spNames C)) (GI : Ctr P w K mg base 3 C "__getitem__" [] (spItem K C CN)) (CM : Cmr P w K mg base 3 "Lags" C [] (spInit K C CL)) : FnG P w K mg base CX0 5 f fd ["self"] (spNeg C) := by
  refine FunG.ok F scLng (fun vs H Q E h => ?_) (fun cdv B out s H vs Q E hr hG h => ?_)
  · obtain ⟨p, ls, rfl, _⟩ := h
    rfl
  · obtain ⟨p, ls, rfl, hL, qq⟩ := h
    refine ⟨_, (pss_one (ps_ret (pe_cmr CM hr hG (by decide) takes0 (by rfl) (pa_cons (pe_lock (pe_dc (own := [("name", 1), ("lag", 2)]) (g := gTup K 2 (gCons (gName 1) (gCons (gName 2) gNil))) (tt := tYes) rfl scLng.nd (pi_items (pe_fld (pv 0) rfl)) (blkOk_by (N := nLng) (sc := defScope sLng) (by decide +kernel)) (fun _ _ _ _ _ => pg_tup rfl (pgs_cons (pg_name (i := 1) scLng.nd rfl (Or.inl rfl)) (pgs_cons (pg_name (i := 2) scLng.nd rfl (Or.inl rfl)) pgs_nil))) (fun _ _ _ _ _ => pts_nil) (fun _ _ _ _ _ => (pv 1)) (fun _ _ _ _ _ => (pe_un un_neg (pv 2))))) pa_nil)))), ?_⟩
    obtain ⟨dx, d, fs, h1, h2, h3, h4, h5, h6⟩ := hL
    refine ⟨d, _, h4, trivial, fun od => ?_⟩
    have hpd : p ≠ d := fun z => by rw [z, h4] at h1; cases h1
    refine ⟨_, rfl, p, C, dx, fs, _, rfl, (upd_ne hpd).trans h1, TB.cl, TB.no, h2, d, od, _, rfl, upd_same, fun D hD => ?_⟩
    have hDd : D ≠ d := fun z => by rw [z, upd_same] at hD; cases hD
    have hDn : H D = none := by rwa [upd_ne hDd] at hD
    refine dc_it walk_items (fun j G => SameX d H G ∧ G d = some (.frz od (.dK (ls.map kvI))) ∧ ∃ cs, G D = some (.dK (cs.map kvI)) ∧ Bld cs ((ls.map (·.1)).take j) (fun _ => true) (fun n => - val ls n)) ⟨sameX_lock.put hDn, (upd_ne hDd.symm).trans upd_same, [], upd_same, by rw [List.take_zero]; exact bld_nil⟩ (fun _ _ _ h => h.2.1) ?_ ?_
    · rintro j x G G' hj ⟨sm, hGd, cs, hGD, hB⟩ ⟨t, x0, y, rfl, ht, rfl, h0, hy⟩
      dsimp only at h0 hy
      rw [List.getElem?_map] at h0 hy
      obtain ⟨e, he, hee⟩ := Option.map_eq_some_iff.mp h0
      obtain ⟨e', he', rfl⟩ := Option.map_eq_some_iff.mp he
      rw [he] at hy
      cases hy
      subst hee
      have hn6 := h5.six _ (List.mem_map.mpr ⟨e', List.mem_of_getElem? he', rfl⟩)
      have hval := val_pos (lk_of_mem h5.nd (List.mem_of_getElem? he'))
      have htk : (ls.map (·.1)).take (j + 1) = (ls.map (·.1)).take j ++ [e'.1] := by rw [List.take_add_one, List.getElem?_map, he']; rfl
      have spd : Same G (upd G t (.tup [kV (kvI e').1, (kvI e').2])) := Same.put ht
      have hb := hB.add hn6 rfl
      rw [hval, ← htk] at hb
      refine ⟨t, _, rfl, SqT.of upd_same, rfl, _, _, rfl, _, _, rfl, ⟨rfl, rfl, _, rfl, _, rfl, _, rfl, ?_⟩⟩
      refine ⟨_, Sum.inr e'.1, rfl, spd _ _ hGD, len_six hB.ok, (sm.step spd).put hDn, (upd_ne hDd.symm).trans (spd _ _ hGd), _, ?_, hb⟩
      rw [upd_same, ← putK_I]
    · rintro G ⟨sm, hGd, cs, hGD, hB⟩
      have hal : (ls.map (·.1)).take (ls.map kvI).length = ls.map (·.1) := List.take_of_length_le (by rw [List.length_map, List.length_map]; exact Nat.le_refl _)
      rw [hal] at hB
      have hG2 := sm.fin (u := .dK (ls.map kvI)) h4
      refine ⟨hGd, ?_⟩
      have hGD' : upd G d (.dK (ls.map kvI)) D = some (.dK (cs.map kvI)) := (upd_ne hDd).trans hGD
      refine make_lags hGD' hB.ok fun H' r rs s hR hv => qq H' r rs (Same.tr hG2 s) hR fun n => ?_
      rw [hv, hB.val fun m hm => ?_]
      rcases hm with hm | hm
      · rw [val_out hm]; rfl
      · cases hm

abbrev sLab : Stmt := inClass (top 11) 10
abbrev nLab : List Str := ["self", "lag"]
theorem scLab : FnScope nLab ["self"] (defScope sLab) := ⟨rfl, rfl, rfl, by decide +kernel, rfl, by decide +kernel, by decide +kernel⟩

theorem ok_abs {C : Addr} (F : Fun K "__abs__" "Lags.__abs__" sLab f fd) (T : TxtV mg) (mA : mg "abs" = none) (TB : TxtLg K C) : FnG P w K mg base CX0 5 f fd ["self"] (spAbs C) := by
  refine FunG.ok F scLab (fun vs H Q E h => ?_) (fun cdv B out s H vs Q E hr hG h => ?_)
  · obtain ⟨p, ls, rfl, _⟩ := h
    rfl
  · obtain ⟨p, ls, rfl, hL, qq⟩ := h
    refine ⟨_, (pss_one (ps_ret (pe_callB (cr_sum rfl) (by rfl) T.sum (by decide +kernel) (pa_cons (pe_lock (pe_lc (own := [("lag", 1)]) (g := gName 1) (tt := tYes) rfl scLab.nd (pi_values (pe_fld (pv 0) rfl)) (blkOk_by (N := nLab) (sc := defScope sLab) (by decide +kernel)) (fun _ _ _ _ _ => pg_name (i := 1) scLab.nd rfl (Or.inl rfl)) (fun _ _ _ _ _ => pts_nil) (fun _ _ _ _ _ => (pe_callB call_abs (by rfl) mA (by decide +kernel) (pa_cons (pv 1) pa_nil))))) pa_nil)))), ?_⟩
    obtain ⟨dx, d, fs, h1, h2, h3, h4, h5, h6⟩ := hL
    refine ⟨d, _, h4, trivial, fun od => ?_⟩
    have hpd : p ≠ d := fun z => by rw [z, h4] at h1; cases h1
    refine ⟨_, rfl, p, C, dx, fs, _, rfl, (upd_ne hpd).trans h1, TB.cl, TB.no, h2, d, od, _, rfl, upd_same, fun D hD => ?_⟩
    have hDd : D ≠ d := fun z => by rw [z, upd_same] at hD; cases hD
    have hDn : H D = none := by rwa [upd_ne hDd] at hD
    have l6 := h5.len
    refine lc_it walk_values (fun j G => SameX d H G ∧ G d = some (.frz od (.dK (ls.map kvI))) ∧ G D = some (.lst (((ls.take j).map fun e => absI e.2).map V.int))) ⟨sameX_lock.put hDn, (upd_ne hDd.symm).trans upd_same, upd_same⟩ (fun _ _ _ h => h.2.1) ?_ ?_
    · rintro j x G G' hj ⟨sm, hGd, hGD⟩ ⟨rfl, k, h0⟩
      rw [List.getElem?_map] at h0
      obtain ⟨e, he, hee⟩ := Option.map_eq_some_iff.mp h0
      cases hee
      refine ⟨rfl, _, rfl, _, rfl, _, hGD, ?_, sm.put hDn, (upd_ne hDd.symm).trans hGd, ?_⟩
      · rw [List.length_map, List.length_map, List.length_take, PySem.sizeLine_eq]
        omega
      · rw [upd_same, List.take_add_one, he]
        simp [absI]
    · rintro G ⟨sm, hGd, hGD⟩
      have hal : ls.take (ls.map kvI).length = ls := List.take_of_length_le (by rw [List.length_map]; exact Nat.le_refl _)
      rw [hal] at hGD
      refine ⟨hGd, D, _, rfl, SqL.of ((upd_ne hDd).trans hGD), ?_⟩
      exact qq _ (sm.fin h4)

end
end T31
set_option Elab.async false
set_option linter.all false
set_option maxRecDepth 100000
set_option maxHeartbeats 4000000
namespace T31
open PySem PySem.Spec PyProof.Rows L2 Tp

structure TxtW (mg : Str → Option Value) : Prop where
  range : mg "range" = none
  max : mg "max" = none
  min : mg "min" = none
  len : mg "len" = none
  zip : mg "zip" = none
  list : mg "list" = none
  isinstance : mg "isinstance" = none
  dict : mg "dict" = none
  repr : mg "repr" = none
  sorted : mg "sorted" = none
  abs : mg "abs" = none
  sum : mg "sum" = none
/-- dicts of lags, as the law draws them -/
def DicAt (H : Hp) (d : Addr) (rs : List (Str × Int)) : Prop := H d = some (.dK (rs.map kvI)) ∧ OkL rs
theorem DicAt.up {H H' : Hp} {d : Addr} {rs : List (Str × Int)} (s : Same H H') (h : DicAt H d rs) : DicAt H' d rs := ⟨s _ _ h.1, h.2⟩
/-- _law_rows -/
def spLRows : Sp := fun vs H Q _ => ∃ (d : Addr) (rs : List (Str × Int)), vs = [.ref d] ∧ DicAt H d rs ∧ ∀ H' q cs, Same H H' → DicAt H' q cs → NzL cs → (∀ n, val cs n = val rs n) → Q (.ref q) H'
def gw (w : Nat) (a b : Int) : Int := [if b > a then b else a, if b < a then b else a, a + b, a - b].getD w 0
theorem gw0 : ∀ w, gw w 0 0 = 0
  | 0 => rfl
  | 1 => rfl
  | 2 => rfl
  | 3 => rfl
  | _ + 4 => rfl
/-- _law_joined -/
def spJoin : Sp := fun vs H Q _ => ∃ (a b : Addr) (w : Nat) (ls ms : List (Str × Int)), vs = [.ref a, .ref b, .int (w : Nat)] ∧ w < 4 ∧ DicAt H a ls ∧ DicAt H b ms ∧ ∀ H' q cs, Same H H' → DicAt H' q cs → (∀ n, val cs n = gw w (val ls n) (val ms n)) → Q (.ref q) H'
theorem _root_.Tp.Keep.putF {p l : Addr} {H G : Hp} {o : HO} (k : Keep p H G) (h : H l = none) : Keep p H (upd G l o) := fun b u h1 e => (upd_ne (ne_of_none e h)).trans (k b u h1 e)
theorem _root_.Tp.Keep.nn {p l : Addr} {H G : Hp} {n : Nat} (k : Keep p H G) (b : BoxAt G p n) (e : G l = none) : H l = none := by
  cases h : H l with
  | none => rfl
  | some o =>
    by_cases z : l = p
    · subst z
      obtain ⟨x, y, w, h1, _⟩ := b
      rw [h1] at e
      cases e
    · rw [k l o z h] at e
      cases e
theorem _root_.Tp.Keep.up {p : Addr} {H G G' : Hp} (k : Keep p H G) (s : Same G G') : Keep p H G' := fun b o h1 e => s _ _ (k b o h1 e)
theorem small_log {m : Int} (h0 : 0 ≤ m) (h : m ≤ 100000) : m.natAbs.log2 < 1000 := by
  have := Nat.log2_le_self m.natAbs
  by_cases z : m.natAbs = 0
  · rw [z]; decide
  · exact Nat.lt_of_lt_of_le ((Nat.log2_lt z).mpr (show m.natAbs < 2 ^ 20 by omega)) (by decide)
/-- _law_drawn -/
def spDrawn : Sp := fun vs H Q _ => ∃ (p : Addr) (n : Nat), vs = [.ref p] ∧ BoxAt H p n ∧ n ≤ 50000 ∧ ∀ H' q rs, BoxAt H' p (n + 40) → Keep p H H' → H q = none → DicAt H' q rs → (∀ n, (val rs n).natAbs ≤ 10 ^ 30) → Q (.ref q) H'
theorem six_nd : six.Nodup := by decide +kernel
theorem six_sm : ∀ y ∈ six, ∀ c ∈ TL.tl y, c < 256 := by decide +kernel

section
variable {P : Program} {w : World} {K : PySem.W.Frag} {mg : Str → Option Value} {base : Heap} {f : Addr} {fd : FuncData}

abbrev sWlr : Stmt := top 19
abbrev nWlr : List Str := ["_law_rows_here", "_law_found", "_law_name"]
theorem scWlr : FnScope nWlr ["_law_rows_here"] (defScope sWlr) := ⟨rfl, rfl, rfl, by decide +kernel, rfl, by decide +kernel, by decide +kernel⟩

theorem ok_lrows (F : Fun K "_law_rows" "_law_rows" sWlr f fd) : FnG P w K mg base CX0 1 f fd ["_law_rows_here"] spLRows := by
  refine FunG.ok F scWlr (fun vs H Q E h => ?_) (fun cdv B out s H vs Q E hr hG h => ?_)
  · obtain ⟨d, rs, rfl, _⟩ := h
    rfl
  · obtain ⟨d, rs, rfl, ⟨hd, hok⟩, q⟩ := h
    refine ⟨_, (pss_cons (ps_set (i := 1) scWlr.nd rfl (.inl rfl) pe_dnewK)
      (pss_cons (ps_lock (ps_for PassesOwn.never rfl (pi_keys (pv 0)) (pg_name (i := 2) scWlr.nd rfl (Or.inl rfl)) (pss_one (ps_if (pt_cmpR op_ne (pe_dget (hu_of hr) (pv 0) (pv 2) (fun _ _ => rfl)) pe_int (nomark _)) (pss_one (ps_dput (hu_of hr) (pv 1) (pv 2) (pe_dget (hu_of hr) (pv 0) (pv 2) (fun _ _ => rfl)) rfl)) pss_nil))))
      (pss_one (ps_ret (pv 1))))), ?_⟩
    refine fun e he => ?_
    have hed : d ≠ e := ne_of_none hd he
    refine ⟨d, _, (upd_ne hed).trans hd, trivial, fun od => ?_⟩
    refine ⟨_, rfl, d, od, rfl, .inl ⟨_, upd_same, ?_⟩⟩
    refine for_it walk_keys (fun j σ G => SameX d H G ∧ G d = some (.frz od (.dK (rs.map kvI))) ∧ (∃ cs, G e = some (.dK (cs.map kvI)) ∧ Bld cs ((rs.map (·.1)).take j) (fun n => decide (val rs n ≠ 0)) (val rs)) ∧ ∃ o, σ = [some (.ref d), some (.ref e), o])
      ⟨fun b o hb h => (upd_ne hb).trans ((upd_ne (ne_of_none h he)).trans h), upd_same, ⟨[], (upd_ne hed.symm).trans upd_same, by rw [List.take_zero]; exact bld_nil⟩, _, rfl⟩ (fun _ _ _ _ h => h.2.1) ?_ ?_
    · rintro j x σ G G' hj ⟨sm, hGd, ⟨cs, hGe, hB⟩, o, rfl⟩ ⟨rfl, kx, vx, hx, rfl⟩
      rw [List.getElem?_map] at hx
      obtain ⟨r, hr', hee⟩ := Option.map_eq_some_iff.mp hx
      cases hee
      have hn6 := hok.six _ (List.mem_map.mpr ⟨r, List.mem_of_getElem? hr', rfl⟩)
      have hlk := lk_of_mem hok.nd (List.mem_of_getElem? hr')
      have hval := val_pos hlk
      have htk : (rs.map (·.1)).take (j + 1) = (rs.map (·.1)).take j ++ [r.1] := by rw [List.take_add_one, List.getElem?_map, hr']; rfl
      have hget : DGet G' d (.str r.1) (some (.int r.2)) := by have := dget_I (n := r.1) (Rd.l hGd); rwa [hlk] at this
      refine ⟨_, rfl, _, rfl, d, _, rfl, hget, ?_⟩
      refine ⟨rfl, _, rfl, ?_⟩
      refine ite2 (fun h1 => ?_) (fun h1 => ?_)
      · have h0 : r.2 ≠ 0 := fun z => by rw [z] at h1; cases h1
        have hb := hB.add hn6 (decide_eq_true (by rw [hval]; exact h0))
        rw [hval, ← htk] at hb
        refine ⟨_, rfl, _, rfl, d, _, rfl, hget, _, rfl, _, rfl, e, _, rfl, DPut.k (k := Sum.inr r.1) hGe (len_six hB.ok), ?_⟩
        refine ⟨sm.put he, (upd_ne hed).trans hGd, ⟨_, ?_, hb⟩, _, rfl⟩
        rw [upd_same, putK_I]
      · have h0 : r.2 = 0 := by
          refine Decidable.byContradiction fun z => h1 ?_
          simpa using z
        refine ⟨sm, hGd, ⟨cs, hGe, ?_⟩, _, rfl⟩
        rw [htk]
        exact hB.skip (by rw [hval, h0]; rfl)
    · rintro σ G ⟨sm, hGd, ⟨cs, hGe, hB⟩, o, rfl⟩
      have hal : (rs.map (·.1)).take (rs.map kvI).length = rs.map (·.1) := List.take_of_length_le (by rw [List.length_map, List.length_map]; exact Nat.le_refl _)
      rw [hal] at hB
      refine ⟨hGd, _, rfl, q _ e cs (sm.fin hd) ⟨(upd_ne hed.symm).trans hGe, hB.ok⟩ ?_ ?_⟩
      · intro r hr'
        have h1 := lk_of_mem hB.ok.nd hr'
        rw [hB.at_] at h1
        split at h1
        · rename_i h2
          rw [← Option.some.inj h1]
          exact of_decide_eq_true h2.2
        · cases h1
      · refine fun n => hB.val (fun m hm => ?_) n
        rcases hm with hm | hm
        · exact val_out hm
        · exact Decidable.byContradiction fun z => by rw [decide_eq_true z] at hm; cases hm

abbrev sWjo : Stmt := top 20
abbrev nWjo : List Str := ["_law_one", "_law_other", "_law_way", "_law_found", "_law_name", "_law_left", "_law_right_here"]
theorem scWjo : FnScope nWjo ["_law_one", "_law_other", "_law_way"] (defScope sWjo) := ⟨rfl, rfl, rfl, by decide +kernel, rfl, by decide +kernel, by decide +kernel⟩

theorem ok_join (F : Fun K "_law_joined" "_law_joined" sWjo f fd) (T : TxtW mg) (LR : Cg P w K mg base 1 "_law_rows" spLRows) : FnG P w K mg base CX0 2 f fd ["_law_one", "_law_other", "_law_way"] spJoin := by
  refine FunG.ok F scWjo (fun vs H Q E h => ?_) (fun cdv B out s H vs Q E hr hG h => ?_)
  · obtain ⟨a, b, w, ls, ms, rfl, _⟩ := h
    rfl
  · obtain ⟨a, b, w, ls, ms, rfl, hw, ⟨ha, oka⟩, ⟨hb, okb⟩, q⟩ := h
    refine ⟨_, (pss_cons (ps_set (i := 3) scWjo.nd rfl (.inl rfl) pe_dnewK)
      (pss_cons (ps_for PassesOwn.never rfl (pi_list (pe_op op_cat (pe_callTy (call_listD rfl) (by rfl) T.list (by decide +kernel) (pa_cons (pv 0) pa_nil)) (pe_callTy (call_listD rfl) (by rfl) T.list (by decide +kernel) (pa_cons (pv 1) pa_nil)))) (pg_name (i := 4) scWjo.nd rfl (Or.inl rfl)) (pss_cons (ps_par (i := 5) (j := 6) rfl scWjo.nd rfl rfl (by decide) rfl rfl (pa_cons (pe_dget2 (hu_of hr) (pv 0) (pv 4) pe_int ⟨rfl, rfl, rfl, rfl⟩) (pa_cons (pe_dget2 (hu_of hr) (pv 1) (pv 4) pe_int ⟨rfl, rfl, rfl, rfl⟩) pa_nil)) (by rfl))
        (pss_one (ps_dput (hu_of hr) (pv 3) (pv 4) (pe_ix ix_list (pe_lst (pa_cons (pe_callB (call_max2 rfl) (by rfl) T.max (by decide +kernel) (pa_cons (pv 5) (pa_cons (pv 6) pa_nil))) (pa_cons (pe_callB (call_min2 rfl) (by rfl) T.min (by decide +kernel) (pa_cons (pv 5) (pa_cons (pv 6) pa_nil))) (pa_cons (pe_op op_add (pv 5) (pv 6)) (pa_cons (pe_op op_sub (pv 5) (pv 6)) pa_nil))))) (pv 2) fun _ _ => rfl) rfl))))
      (pss_one (ps_ret (pe_g LR hr hG (by decide) (by rfl) (pa_cons (pv 3) pa_nil)))))), ?_⟩
    refine fun e he => ?_
    have s0 := Same.put (o := .dK []) he
    have he0 : upd H e (.dK []) e = some (.dK []) := upd_same
    have hs0 : ∀ b o, b ≠ e → H b = some o → upd H e (.dK []) b = some o := fun b o h1 h2 => (upd_ne h1).trans h2
    generalize upd H e (.dK []) = H0 at s0 he0 hs0 ⊢
    refine ⟨_, rfl, a, _, rfl, .inl (s0 _ _ ha), fun l1 e1 => ?_⟩
    rw [keys_I]
    have s1 := Same.put (o := .lst ((ls.map (·.1)).map V.str)) e1
    have h1 : upd H0 l1 (.lst ((ls.map (·.1)).map V.str)) l1 = some (.lst ((ls.map (·.1)).map V.str)) := upd_same
    generalize upd H0 l1 (.lst ((ls.map (·.1)).map V.str)) = H1 at s1 h1 ⊢
    refine ⟨_, rfl, b, _, rfl, .inl (s1 _ _ (s0 _ _ hb)), fun l2 e2 => ?_⟩
    rw [keys_I]
    have s2 := Same.put (o := .lst ((ms.map (·.1)).map V.str)) e2
    have h2 : upd H1 l2 (.lst ((ms.map (·.1)).map V.str)) l2 = some (.lst ((ms.map (·.1)).map V.str)) := upd_same
    generalize upd H1 l2 (.lst ((ms.map (·.1)).map V.str)) = H2 at s2 h2 ⊢
    have la := oka.len
    have lb := okb.len
    refine ⟨l1, l2, _, _, rfl, rfl, s2 _ _ h1, h2, by rw [List.length_map, List.length_map, List.length_map, List.length_map, PySem.sizeLine_eq]; omega, fun l e3 => ?_⟩
    rw [← List.map_append]
    have hks : ∀ n ∈ ls.map (·.1) ++ ms.map (·.1), n ∈ six := fun n hn => six_of oka okb hn
    have hout : ∀ n, n ∉ ls.map (·.1) ++ ms.map (·.1) → gw w (val ls n) (val ms n) = 0 := fun n hn => by
      rw [val_out fun z => hn (List.mem_append_left _ z), val_out fun z => hn (List.mem_append_right _ z)]
      exact gw0 w
    generalize ls.map (·.1) ++ ms.map (·.1) = ks at hks hout ⊢
    have s3 := Same.put (o := .lst (ks.map V.str)) e3
    have hl : upd H2 l (.lst (ks.map V.str)) l = some (.lst (ks.map V.str)) := upd_same
    generalize upd H2 l (.lst (ks.map V.str)) = H3 at s3 hl ⊢
    have s03 := Same.tr s1 (Same.tr s2 s3)
    have hle : l ≠ e := fun z => by rw [z] at e3; have := s2 _ _ (s1 _ _ he0); rw [e3] at this; cases this
    have hH3 : Same H H3 := Same.tr s0 s03
    refine ⟨l, rfl, ⟨_, SqL.of hl⟩, ?_⟩
    refine for_it (walk_list (xs := ks.map V.str)) (fun j σ G => Same H G ∧ G l = some (.lst (ks.map V.str)) ∧ (∃ cs, G e = some (.dK (cs.map kvI)) ∧ Bld cs (ks.take j) (fun _ => true) (fun n => gw w (val ls n) (val ms n))) ∧ ∃ o1 o2 o3, σ = [some (.ref a), some (.ref b), some (.int (w : Nat)), some (.ref e), o1, o2, o3])
      ⟨hH3, hl, ⟨[], s03 _ _ he0, by rw [List.take_zero]; exact bld_nil⟩, _, _, _, rfl⟩ (fun _ _ _ _ h => SqL.of h.2.1) ?_ ?_
    · rintro j x σ G G' hj ⟨sm, hGl, ⟨cs, hGe, hB⟩, o1, o2, o3, rfl⟩ ⟨rfl, hx⟩
      rw [List.getElem?_map] at hx
      obtain ⟨n, hn, rfl⟩ := Option.map_eq_some_iff.mp hx
      have hn6 := hks n (List.mem_of_getElem? hn)
      have htk : ks.take (j + 1) = ks.take j ++ [n] := by rw [List.take_add_one, hn]; rfl
      have hbd := hB.add hn6 rfl
      rw [← htk] at hbd
      have ev : ∀ rs : List (Str × Int), (Option.map V.int (lk rs n)).getD (V.int 0) = V.int (val rs n) := fun rs => by
        unfold val
        cases lk rs n <;> rfl
      refine ⟨_, rfl, a, rfl, .inl ⟨_, .inl (sm _ _ ha)⟩, _, rfl, _, dget_I (.inl (sm _ _ ha)), ?_⟩
      rw [ev]
      refine ⟨_, rfl, b, rfl, .inl ⟨_, .inl (sm _ _ hb)⟩, _, rfl, _, dget_I (.inl (sm _ _ hb)), ?_⟩
      rw [ev]
      refine ⟨_, _, rfl, ?_⟩
      refine ⟨_, rfl, _, rfl, _, _, rfl, _, rfl, _, rfl, _, _, rfl, _, rfl, _, rfl, _, _, rfl, rfl, _, rfl, _, rfl, _, _, rfl, rfl, (by show 4 ≤ sizeLine; decide), fun t ht => ?_⟩
      have st := Same.put (o := .lst [V.int (if val ms n > val ls n then val ms n else val ls n), V.int (if val ms n < val ls n then val ms n else val ls n), V.int (val ls n + val ms n), V.int (val ls n - val ms n)]) ht
      have ht1 : upd G' t (.lst [V.int (if val ms n > val ls n then val ms n else val ls n), V.int (if val ms n < val ls n then val ms n else val ls n), V.int (val ls n + val ms n), V.int (val ls n - val ms n)]) t = _ := upd_same
      generalize upd G' t (.lst [V.int (if val ms n > val ls n then val ms n else val ls n), V.int (if val ms n < val ls n then val ms n else val ls n), V.int (val ls n + val ms n), V.int (val ls n - val ms n)]) = G2 at st ht1 ⊢
      have hat : atI [V.int (if val ms n > val ls n then val ms n else val ls n), V.int (if val ms n < val ls n then val ms n else val ls n), V.int (val ls n + val ms n), V.int (val ls n - val ms n)] ((w : Nat) : Int) = some (V.int (gw w (val ls n) (val ms n))) := by
        match w, hw with
        | 0, _ => exact atI_nat (j := 0) rfl
        | 1, _ => exact atI_nat (j := 1) rfl
        | 2, _ => exact atI_nat (j := 2) rfl
        | 3, _ => exact atI_nat (j := 3) rfl
      refine ⟨_, rfl, t, _, _, _, rfl, rfl, SqL.of ht1, hat, ?_⟩
      refine ⟨_, rfl, _, rfl, e, _, rfl, DPut.k (k := Sum.inr n) (st _ _ hGe) (len_six hB.ok), ?_⟩
      refine ⟨fun x o hx => (upd_ne (ne_of_none hx he)).trans (st _ _ (sm _ _ hx)), (upd_ne hle).trans (st _ _ hGl), ⟨_, ?_, hbd⟩, _, _, _, rfl⟩
      rw [upd_same, putK_I]
    · rintro σ G ⟨sm, hGl, ⟨cs, hGe, hB⟩, o1, o2, o3, rfl⟩
      rw [List.length_map, List.take_length] at hB
      refine ⟨_, rfl, e, cs, rfl, ⟨hGe, hB.ok⟩, fun H' qq ds s hD hnz hv => q H' qq ds (Same.tr sm s) hD fun n => ?_⟩
      rw [hv, hB.val fun m hm => ?_]
      rcases hm with hm | hm
      · exact hout m hm
      · cases hm

end
end T31
set_option Elab.async false
set_option linter.all false
set_option maxRecDepth 100000
set_option maxHeartbeats 4000000
namespace T31
open PySem PySem.Spec PyProof.Rows L2 Tp

theorem erase_map : ∀ (xs : List Str) (k : Nat), (xs.map V.str).eraseIdx k = (xs.eraseIdx k).map V.str
  | [], _ => rfl
  | x :: xs, 0 => rfl
  | x :: xs, k + 1 => by
    show V.str x :: (xs.map V.str).eraseIdx k = V.str x :: (xs.eraseIdx k).map V.str
    rw [erase_map xs k]
def muS (G : Hp) (l : Addr) : Nat := match G l with
  | some (.lst xs) => xs.length
  | _ => 0
theorem _root_.Tp.BoxAt.sm {H H' : Hp} {p : Addr} {n : Nat} (h : BoxAt H p n) (e : H' p = H p) : BoxAt H' p n := by
  obtain ⟨a, b, c, h1, h2⟩ := h
  exact ⟨a, b, c, e.trans h1, h2⟩
theorem val_put {ls : List (Str × Int)} {n m : Str} {i : Int} : val (putI ls n i) m = if m = n then i else val ls m := by
  unfold val
  rw [lk_put]
  split <;> rfl

section
variable {P : Program} {w : World} {K : PySem.W.Frag} {mg : Str → Option Value} {base : Heap} {f : Addr} {fd : FuncData}

abbrev sWdr : Stmt := top 18
abbrev nWdr : List Str := ["_law_bag_here", "_law_names", "_law_name", "_law_found", "_law_left", "_law_way"]
theorem scWdr : FnScope nWdr ["_law_bag_here"] (defScope sWdr) := ⟨rfl, rfl, rfl, by decide +kernel, rfl, by decide +kernel, by decide +kernel⟩

theorem ok_drawn (F : Fun K "_law_drawn" "_law_drawn" sWdr f fd) (T : TxtW mg) (C : Cg P w K mg base 1 "_law_take" spTake) : FnG P w K mg base CX0 2 f fd ["_law_bag_here"] spDrawn := by
  refine FunG.ok F scWdr (fun vs H Q E h => ?_) (fun cdv B out s H vs Q E hr hG h => ?_)
  · obtain ⟨p, n, rfl, _⟩ := h
    rfl
  · obtain ⟨p, n, rfl, hb, hn, q⟩ := h
    refine ⟨_, (pss_cons (ps_set (i := 1) scWdr.nd rfl (.inl rfl) (pe_lst (pa_cons pe_str (pa_cons pe_str (pa_cons pe_str (pa_cons pe_str (pa_cons pe_str (pa_cons pe_str pa_nil))))))))
      (pss_cons (ps_par (i := 3) (j := 4) rfl scWdr.nd rfl rfl (by decide) rfl rfl (pa_cons pe_dnewK (pa_cons (pe_lc (own := [("_law_name", 2)]) (g := gName 2) rfl scWdr.nd (pi_list (pv 1)) (blkOk_by (N := nWdr) (sc := defScope sWdr) (by decide +kernel)) (fun _ _ _ _ _ => pg_name (i := 2) scWdr.nd rfl (Or.inl rfl)) (fun _ _ _ _ _ => (pts_one (pt_cmpR op_gt (pe_g C hr hG (by decide) (by rfl) (pa_cons (pv 0) (pa_cons pe_int pa_nil))) pe_int (nomark _)))) (fun _ _ _ _ _ => (pv 2))) pa_nil)) (by rfl))
      (pss_cons (ps_while PassesOwn.never (pt_cmpR (op_neD hr.units) (pv 4) (pe_lst pa_nil) (nomark _)) (pss_cons (ps_par (i := 2) (j := 5) rfl scWdr.nd rfl rfl (by decide) rfl rfl (pa_cons (pe_bm PySem.F.plainAttrs_list PySem.F.slot_list_pop PySem.F.type_list_pop mt_popAt (pv 4) (pa_cons (pe_g C hr hG (by decide) (by rfl) (pa_cons (pv 0) (pa_cons (pe_callB call_len (by rfl) T.len PySem.boot_len (pa_cons (pv 4) pa_nil)) pa_nil))) pa_nil)) (pa_cons (pe_g C hr hG (by decide) (by rfl) (pa_cons (pv 0) (pa_cons pe_int pa_nil))) pa_nil)) (by rfl))
        (pss_one (ps_dput (hu_of hr) (pv 3) (pv 2) (pe_ix ix_list (pe_lst (pa_cons pe_int (pa_cons pe_int (pa_cons (pe_un un_neg pe_int) (pa_cons (pe_op op_sub (pe_g C hr hG (by decide) (by rfl) (pa_cons (pv 0) (pa_cons pe_int pa_nil))) pe_int) (pa_cons (pe_op op_sub (pe_op op_pow pe_int pe_int) (pe_g C hr hG (by decide) (by rfl) (pa_cons (pv 0) (pa_cons pe_int pa_nil)))) (pa_cons (pe_op op_sub pe_int (pe_op op_pow pe_int pe_int)) pa_nil))))))) (pv 5) fun _ _ => rfl) rfl))))
      (pss_one (ps_ret (pv 3)))))), ?_⟩
    refine ⟨(by show 6 ≤ sizeLine; decide), fun a ha => ?_⟩
    have e6 : [V.str "a", V.str "aa", V.str "b1", V.str "g0", V.str "zzzzzzzz", V.str "x"] = six.map V.str := rfl
    rw [e6]
    have kp1 : Keep p H (upd H a (.lst (six.map V.str))) := Keep.new ha
    have b1 := hb.new (o := .lst (six.map V.str)) ha
    have h1 : upd H a (.lst (six.map V.str)) a = some (.lst (six.map V.str)) := upd_same
    have pa := hb.ne ha
    generalize upd H a (.lst (six.map V.str)) = H1 at kp1 b1 h1 ⊢
    refine fun e he => ?_
    have he0 : H e = none := kp1.nn b1 he
    have pe := b1.ne he
    have kp2 : Keep p H (upd H1 e (.dK [])) := kp1.putF he0
    have b2 := b1.new (o := .dK []) he
    have h2 := (upd_ne (o := .dK []) (ne_of_none h1 he)).trans h1
    have g2 : upd H1 e (.dK []) e = some (.dK (([] : List (Str × Int)).map kvI)) := upd_same
    generalize upd H1 e (.dK []) = H2 at kp2 b2 h2 g2 ⊢
    refine ⟨_, rfl, a, rfl, ⟨_, SqL.of h2⟩, fun D hD => ?_⟩
    have hD0 : H D = none := kp2.nn b2 hD
    have pD := b2.ne hD
    have aD := ne_of_none h2 hD
    have eD := ne_of_none g2 hD
    refine lc_it (walk_list (xs := six.map V.str)) (fun j G => BoxAt G p (n + j) ∧ Keep p H G ∧ G a = some (.lst (six.map V.str)) ∧ G e = some (.dK (([] : List (Str × Int)).map kvI)) ∧ ∃ rem : List Str, G D = some (.lst (rem.map V.str)) ∧ rem.Sublist (six.take j))
      ⟨(b2.new hD), kp2.putF hD0, (upd_ne aD).trans h2, (upd_ne eD).trans g2, [], upd_same, by rw [List.take_zero]; exact List.Sublist.refl _⟩ (fun _ _ _ h => SqL.of h.2.2.1) ?_ ?_
    · rintro j x G G' hj ⟨bG, kG, hGa, hGe, rem, hGD, hrem⟩ ⟨rfl, hx⟩
      rw [List.getElem?_map] at hx
      obtain ⟨nm, hnm, rfl⟩ := Option.map_eq_some_iff.mp hx
      have hj6 : j < 6 := by have : (six.map V.str).length = 6 := rfl; omega
      have htk : six.take (j + 1) = six.take j ++ [nm] := by rw [List.take_add_one, hnm]; rfl
      refine ⟨rfl, _, rfl, p, 3, n + j, rfl, bG, by decide, by decide, by omega, fun d G2 a0 a1 bG2 k2 => ?_⟩
      have kG2 := kG.trans (keep_of k2)
      have hGa2 := (k2 a pa.symm).trans hGa
      have hGe2 := (k2 e pe.symm).trans hGe
      have hGD2 := (k2 D pD.symm).trans hGD
      refine ⟨_, _, rfl, rfl, _, rfl, ?_⟩
      refine ite2 (fun h1 => ?_) (fun h1 => ?_)
      · have hrl : rem.length ≤ 6 := by
          have := hrem.length_le
          rw [List.length_take] at this
          omega
        refine ⟨_, rfl, _, hGD2, by rw [List.length_map, PySem.sizeLine_eq]; omega, bG2.put pD.symm, kG2.putF hD0, (upd_ne aD).trans hGa2, (upd_ne eD).trans hGe2, rem ++ [nm], ?_, ?_⟩
        · rw [upd_same, List.map_append]
          rfl
        · rw [htk]
          exact hrem.append (List.Sublist.refl _)
      · refine ⟨bG2, kG2, hGa2, hGe2, rem, hGD2, ?_⟩
        rw [htk]
        exact hrem.trans (List.sublist_append_left _ _)
    · rintro G ⟨bG, kG, hGa, hGe, rem, hGD, hrem⟩
      have h6 : (six.map V.str).length = 6 := rfl
      rw [h6] at hrem bG
      have hrs : rem.Sublist six := hrem
      have hl6 : rem.length ≤ 6 := hrs.length_le
      refine ⟨_, _, rfl, ?_⟩
      refine while_by (fun σ G => ∃ (rem : List Str) (cs : List (Str × Int)), BoxAt G p (n + 6 + 4 * (6 - rem.length)) ∧ Keep p H G ∧ G e = some (.dK (cs.map kvI)) ∧ OkL cs ∧ (∀ m, (val cs m).natAbs ≤ 10 ^ 30) ∧ G D = some (.lst (rem.map V.str)) ∧ rem.length ≤ 6 ∧ (∀ x ∈ rem, x ∈ six) ∧ ∃ o2 o5, σ = [some (.ref p), some (.ref a), o2, some (.ref e), some (.ref D), o5])
        (fun _ G => muS G D) ⟨rem, [], bG.mono (by omega), kG, hGe, okL_nil, fun m => by show (0 : Int).natAbs ≤ _; decide, hGD, hl6, fun x hx => hrs.subset hx, _, _, rfl⟩ ?_ ?_
      · rintro σ G ⟨rem, cs, bG, kG, hGe, hok, hbd, hGD, hl6, h6, o2, o5, rfl⟩
        refine ⟨_, rfl, (by show 0 ≤ sizeLine; decide), fun t ht => ?_⟩
        have ht0 : H t = none := kG.nn bG ht
        have pt := bG.ne ht
        have hGDt := (upd_ne (o := .lst []) (ne_of_none hGD ht)).trans hGD
        have hGet := (upd_ne (o := .lst []) (ne_of_none hGe ht)).trans hGe
        have e1 : rem.map V.str = rem.map V.str := rfl
        refine ⟨_, _, .lst (SqL.of hGDt) (dpAll_strs _), .lst (SqL.of upd_same) .nil, shaped_strs (fun y hy => six_sm y (h6 y hy)), rfl, _, rfl, ?_⟩
        rw [eqv_nil, List.isEmpty_map]
        have kGt := kG.putF (o := .lst []) ht0
        have bGt := bG.new (o := .lst []) ht
        generalize upd G t (.lst []) = G1 at hGDt hGet kGt bGt ⊢
        cases rem with
        | nil => exact iteF ⟨_, rfl, q G1 e cs (bGt.mono (by simp)) kGt he0 ⟨hGet, hok⟩ hbd⟩
        | cons r0 rem0 =>
          refine iteT ?_
          generalize hrr : r0 :: rem0 = rem at *
          have hpos : 0 < rem.length := by rw [← hrr]; simp
          have mu0 : muS G D = rem.length := by unfold muS; rw [hGD]; simp
          rw [mu0]
          refine ⟨_, rfl, .inl ⟨rfl, _, SqL.of hGDt⟩, _, rfl, _, rfl, _, _, rfl, .inl ⟨_, SqL.of hGDt, rfl⟩, ?_⟩
          have hcl : (((rem.map V.str).length : Nat) : Int) = (rem.length : Int) := by rw [List.length_map]
          refine ⟨p, _, _, rfl, bGt, by omega, small_log (by omega) (by omega), by omega, fun d G2 a0 a1 b2 k2 => ?_⟩
          have kp2 := kGt.trans (keep_of k2)
          have hGD2 := (k2 D pD.symm).trans hGDt
          have hGe2 := (k2 e pe.symm).trans hGet
          have hk : d.toNat < rem.length := by omega
          refine ⟨D, rem.map V.str, d, d.toNat, V.str rem[d.toNat], rfl, rfl, hGD2, by omega, by omega, seqIndex_at a0 (by omega), by rw [List.getElem?_map, List.getElem?_eq_getElem hk]; rfl, ?_⟩
          have hn6 := h6 _ (List.getElem_mem hk)
          have herase : (rem.map V.str).eraseIdx d.toNat = (rem.eraseIdx d.toNat).map V.str := by exact erase_map _ _
          rw [herase]
          have hlen' := List.length_eraseIdx_of_lt hk
          have hsub : ∀ x ∈ rem.eraseIdx d.toNat, x ∈ six := fun x hx => h6 x (List.mem_of_mem_eraseIdx hx)
          generalize rem[d.toNat] = nm at hn6 ⊢
          generalize rem.eraseIdx d.toNat = rem' at hlen' hsub ⊢
          have b3 := b2.put (o := .lst (rem'.map V.str)) pD.symm
          have kp3 := kp2.putF (o := .lst (rem'.map V.str)) hD0
          have hGD3 : upd G2 D (.lst (rem'.map V.str)) D = some (.lst (rem'.map V.str)) := upd_same
          have hGe3 := (upd_ne (o := .lst (rem'.map V.str)) eD).trans hGe2
          generalize upd G2 D (.lst (rem'.map V.str)) = G3 at b3 kp3 hGD3 hGe3 ⊢
          refine ⟨_, rfl, p, 6, _, rfl, b3, by decide, by decide, by omega, fun w G4 c0 c1 b4 k4 => ?_⟩
          have kp4 := kp3.trans (keep_of k4)
          have hGD4 := (k4 D pD.symm).trans hGD3
          have hGe4 := (k4 e pe.symm).trans hGe3
          refine ⟨_, _, rfl, ?_⟩
          refine ⟨_, rfl, _, rfl, p, 9, _, rfl, b4, by decide, by decide, by omega, fun x3 G5 f0 f1 b5 k5 => ?_⟩
          have kp5 := kp4.trans (keep_of k5)
          have hGD5 := (k5 D pD.symm).trans hGD4
          have hGe5 := (k5 e pe.symm).trans hGe4
          refine ⟨_, _, rfl, rfl, _, _, rfl, rfl, ⟨by decide, by decide, by decide⟩, _, rfl, p, 9, _, rfl, b5, by decide, by decide, by omega, fun x4 G6 g0 g1 b6 k6 => ?_⟩
          have kp6 := kp5.trans (keep_of k6)
          have hGD6 := (k6 D pD.symm).trans hGD5
          have hGe6 := (k6 e pe.symm).trans hGe5
          refine ⟨_, _, rfl, rfl, _, _, rfl, rfl, ⟨by decide, by decide, by decide⟩, _, _, rfl, rfl, (by show 6 ≤ sizeLine; decide), fun t2 ht2 => ?_⟩
          have hp29 : (10 : Int) ^ (29 : Int).toNat = 100000000000000000000000000000 := by decide +kernel
          rw [hp29]
          obtain ⟨z, hat, hz⟩ : ∃ z : Int, atI [V.int 0, V.int 1, V.int (-1), V.int (x3 - 4), V.int (100000000000000000000000000000 - x4), V.int (0 - 100000000000000000000000000000)] w = some (.int z) ∧ z.natAbs ≤ 10 ^ 30 := by
            have e30 : (10 : Nat) ^ 30 = 1000000000000000000000000000000 := by decide +kernel
            rw [e30]
            obtain ⟨j, rfl⟩ : ∃ j : Nat, w = (j : Int) := ⟨w.toNat, by omega⟩
            match j, (show j < 6 by omega) with
            | 0, _ => exact ⟨_, atI_nat (j := 0) rfl, by decide⟩
            | 1, _ => exact ⟨_, atI_nat (j := 1) rfl, by decide⟩
            | 2, _ => exact ⟨_, atI_nat (j := 2) rfl, by decide⟩
            | 3, _ => exact ⟨_, atI_nat (j := 3) rfl, by omega⟩
            | 4, _ => exact ⟨_, atI_nat (j := 4) rfl, by omega⟩
            | 5, _ => exact ⟨_, atI_nat (j := 5) rfl, by decide⟩
          have ht20 : H t2 = none := kp6.nn b6 ht2
          have kp7 := kp6.putF (o := .lst [V.int 0, V.int 1, V.int (-1), V.int (x3 - 4), V.int (100000000000000000000000000000 - x4), V.int (0 - 100000000000000000000000000000)]) ht20
          have b7 := b6.new (o := .lst [V.int 0, V.int 1, V.int (-1), V.int (x3 - 4), V.int (100000000000000000000000000000 - x4), V.int (0 - 100000000000000000000000000000)]) ht2
          have hGD7 := (upd_ne (o := .lst [V.int 0, V.int 1, V.int (-1), V.int (x3 - 4), V.int (100000000000000000000000000000 - x4), V.int (0 - 100000000000000000000000000000)]) (ne_of_none hGD6 ht2)).trans hGD6
          have hGe7 := (upd_ne (o := .lst [V.int 0, V.int 1, V.int (-1), V.int (x3 - 4), V.int (100000000000000000000000000000 - x4), V.int (0 - 100000000000000000000000000000)]) (ne_of_none hGe6 ht2)).trans hGe6
          refine ⟨_, rfl, t2, _, _, _, rfl, rfl, SqL.of upd_same, hat, ?_⟩
          refine ⟨_, rfl, _, rfl, e, _, rfl, DPut.k (k := Sum.inr nm) hGe7 (len_six hok), ?_⟩
          refine ⟨⟨rem', putI cs nm z, ?_, kp7.putF he0, ?_, okL_put hok hn6, fun m => ?_, (upd_ne eD.symm).trans hGD7, by omega, hsub, _, _, rfl⟩, ?_⟩
          · exact (b7.put pe.symm).mono (by omega)
          · rw [upd_same, putK_I]
          · rw [val_put]
            split
            · exact hz
            · exact hbd m
          · have e7 := (upd_ne (o := .dK (putK (cs.map kvI) (Sum.inr nm) (.int z))) eD.symm).trans hGD7
            unfold muS
            rw [e7]
            show (rem'.map V.str).length < rem.length
            rw [List.length_map]
            omega
      · intro σ H Q Q' hq h
        obtain ⟨v, h1, h2, h3⟩ := h
        refine ⟨v, h1, h2, fun t ht => ?_⟩
        obtain ⟨d1, d2, h4, h5, h6, h7, b, h8, h9⟩ := h3 t ht
        exact ⟨d1, d2, h4, h5, h6, h7, b, h8, hq _ _ h9⟩

end
end T31
set_option Elab.async false
set_option linter.all false
set_option maxRecDepth 100000
set_option maxHeartbeats 4000000
namespace T31
open PySem PySem.Spec PyProof.Rows L2 Tp

section
variable {X : Cx} {pos : Pos}
def tXh2 (K : PySem.W.Frag) (a : Addr) (cls : Value) (d : Option Addr) (f : Str) (te : TE) : TE := fun σ H Q => te σ H fun x H1 => x = .ref a ∧ ∃ (C dd : Addr) (fs : List (Str × V)) (v : V), cls = .ref C ∧ ExK K C ∧ PySem.W.findIn K (.ref C) f = some none ∧ d = some dd ∧ H1 dd = some (exd dd fs) ∧ fs.lookup f = some v ∧ Q v H1
theorem pe_xh2 {a : Addr} {oe : Obj} {cls : Value} {d : Option Addr} {pn : List (Addr × Obj)} {e : Expr} {te : TE} {f : Str}
    (hz : Zc cls d oe) (hf : ∃ vs, oe.data = .fields vs) (he : PE (X.suite a ((a, oe) :: pn)) e te) (hb : attributeBase e f X.env (eval e X.env) = eval e X.env := by rfl) :
    PE (X.suite a ((a, oe) :: pn)) (.Attribute e f pos) (tXh2 X.K a cls d f te) := by
  refine ⟨fun pins s σ H Q I h => attr_of hb (thn (he.run pins s σ H _ I h) fun u s1 hh => ?_)⟩
  obtain ⟨x, H1, I1, rx, rfl, C, dd, fs, v, ec, T, hno, ed, ea, l, q⟩ := hh
  cases (show u = Value.ref a from rx)
  obtain ⟨ha, _⟩ := I1.pin (a, oe) (List.mem_append_left _ List.mem_cons_self)
  obtain ⟨ws, hd⟩ := hf
  obtain ⟨mA, hns, rel⟩ := exd_at I1.hok ea
  obtain ⟨od, ho, hl⟩ := lookIn_ns hns
  obtain ⟨w', hw, rw'⟩ := RelO.some_of (v := v) (o := mA f) (by rw [← l]; exact rel f)
  have J : PySem.W.InstAt s1.heap a oe C (some od) := ⟨ha, hz.1.trans ec, by unfold PySem.W.notCls; rw [hd] <;> rfl, by rw [hz.2, ed]; exact ho⟩
  exact HandSPX.exc_get I1.kIn J T.ga T.gg T.exC (PySem.W.findObj_own T.hdC hno rfl (by rw [hl, hw])) (handed_of rw') ⟨v, H1, I1.tok _, rw', q⟩
def rIsH (K : PySem.W.Frag) (a : Addr) (cls : Value) (d : Option Addr) : List V → Hp → VK → Prop := fun xs H Q => ∃ (C dd : Addr) (fs : List (Str × V)) (c : V) (cv : Value) (b : Bool), xs = [.ref a, c] ∧ cls = .ref C ∧ ExK K C ∧ d = some dd ∧ H dd = some (exd dd fs) ∧ ClsV c cv ∧ PySem.W.kitOne K (.ref C) cv = some b ∧ Q (.bl b) H
theorem call_isH {a : Addr} {oe : Obj} {cls : Value} {d : Option Addr} {pn : List (Addr × Obj)} (hz : Zc cls d oe) (hf : ∃ vs, oe.data = .fields vs) : CallR (X.suite a ((a, oe) :: pn)) (.builtin "isinstance") (rIsH X.K a cls d) := by
  intro pins s σ H xs us Q I r h
  obtain ⟨C, dd, fs, c, cv, b, rfl, ec, T, ed, ea, k, e, q⟩ := h
  obtain ⟨u1, u2, rfl, r1, r2⟩ := vals2 r
  cases (show u1 = Value.ref a from r1)
  have e2 := k.eq r2
  subst e2
  obtain ⟨ha, _⟩ := I.pin (a, oe) (List.mem_append_left _ List.mem_cons_self)
  obtain ⟨ws, hd⟩ := hf
  obtain ⟨mA, hns, rel⟩ := exd_at I.hok ea
  obtain ⟨od, ho, hl⟩ := lookIn_ns hns
  have J : PySem.W.InstAt s.heap a oe C (some od) := ⟨ha, hz.1.trans ec, by unfold PySem.W.notCls; rw [hd] <;> rfl, by rw [hz.2, ed]; exact ho⟩
  exact PySem.W.kia_one (ex_kit T) I.kIn J e (fun z => nomatch z) fun tk => ⟨.bl b, H, I.tok tk, rfl, q⟩
end
/-- the exceptions of lags -/
structure TxtX (K : PySem.W.Frag) (CE CL CN : Addr) : Prop where
  xL : ExK K CL
  xN : ExK K CN
  ll : PySem.W.exmOne K (.ref CL) (.ref CL) = some true
  nl : PySem.W.exmOne K (.ref CN) (.ref CL) = some false
  nn : PySem.W.exmOne K (.ref CN) (.ref CN) = some true
  le : PySem.W.kitOne K (.ref CL) (.ref CE) = some true
  ne : PySem.W.kitOne K (.ref CN) (.ref CE) = some true
  fl : PySem.W.findIn K (.ref CL) "value" = some none
  fn : PySem.W.findIn K (.ref CN) "value" = some none
/-- what Lags refuses -/
def BadRows (K : PySem.W.Frag) (H : Hp) (x : V) : Prop := (∃ k, Vk K H x k ∧ (k == "dict") = false) ∨ ∃ d kvs, x = .ref d ∧ H d = some (.dK kvs) ∧ kvs.length ≤ 5000 ∧ (∀ q ∈ kvs, (∀ z, q.1 = .inr z → z.length ≤ 5000) ∧ litV q.2) ∧ kvs.all goodB = false
/-- _law_caught -/
def spCaught (K : PySem.W.Frag) : Sp := fun vs H Q _ => ∃ x : V, (vs = [.int 0, x] ∧ BadRows K H x ∧ ∀ H' l, Same H H' → H' l = some (.lst [.str "lags", x, .bl true]) → Q (.ref l) H') ∨
  (vs = [.int 1, x] ∧ (∃ k, Vk K H x k) ∧ (∀ z, x = .str z → nameB (TL.tl z) = false) ∧ ∀ H' l, Same H H' → H' l = some (.lst [.str "name", x, .bl true]) → Q (.ref l) H')

theorem make_one {K : PySem.W.Frag} {C CL D x dx : Addr} {G : Hp} {cs : List (Str × Int)} {Q : VK} {E : XK} (hGD : G D = some (.dK (cs.map kvI))) (ok : OkL cs) (hx : G x = none) (hdx : G dx = none) (q : ∀ H' rs, Same G H' → LagAt H' C x rs → (∀ n, val rs n = val cs n) → Q .non H') :
    spInit K C CL (.ref x :: ([.ref D] ++ [])) (upd (upd G dx (.own x)) x (.ins C dx [])) Q E := by
  have n1 : D ≠ x := ne_of_none hGD hx
  have n2 : D ≠ dx := ne_of_none hGD hdx
  exact ⟨x, dx, .ref D, rfl, upd_same, .inr (.inr ⟨D, cs, rfl, n1, (upd_ne n1).trans ((upd_ne n2).trans hGD), ok, fun H' ls k hL _ hv => q H' ls (made_same (Same.refl _) hx hdx k) hL hv⟩)⟩

section
variable {P : Program} {w : World} {K : PySem.W.Frag} {mg : Str → Option Value} {base : Heap} {f : Addr} {fd : FuncData}

abbrev sWca : Stmt := top 21
abbrev nWca : List Str := ["_law_door", "_law_thing", "e"]
theorem scWca : FnScope nWca ["_law_door", "_law_thing"] (defScope sWca) := ⟨rfl, rfl, rfl, by decide +kernel, rfl, by decide +kernel, by decide +kernel⟩

theorem ok_caught {C CE CL CN : Addr} (F : Fun K "_law_caught" "_law_caught" sWca f fd) (T : TxtW mg) (T2 : TxtL2 K C) (TX : TxtX K CE CL CN) (mE : mg "NetError" = some (.ref CE)) (mL : mg "InvalidLags" = some (.ref CL)) (mN : mg "InvalidName" = some (.ref CN))
    (CM : Cmr P w K mg base 3 "Lags" C [] (spInit K C CL)) (RW : Ct P w K mg base 1 C "rows" [] (spRows C)) (GI : Ctr P w K mg base 3 C "__getitem__" [] (spItem K C CN)) : FnG P w K mg base CX0 5 f fd ["_law_door", "_law_thing"] (spCaught K) := by
  refine FunG.ok F scWca (fun vs H Q E h => ?_) (fun cdv B out s H vs Q E hr hG h => ?_)
  · obtain ⟨x, ⟨rfl, _⟩ | ⟨rfl, _⟩⟩ := h <;> rfl
  · refine ⟨_, pss_one (ps_try_cla rfl rfl scWca.nd takes0 (fun W pn xe tk _ => pss_one (ps_ret (pe_lst (pa_cons pe_str (pa_cons (pe_ifExp (pt_cmpR op_eq (pv 0) pe_int (nomark _)) (pe_ct0 (pe_cmr CM hr hG (by decide) tk (by rfl) (pa_cons (pv 1) pa_nil)) RW hr hG (by decide)) (pe_getL GI T2.gi (hr.mono (by decide)) hG tk (pe_cmr CM hr hG (by decide) tk (by rfl) (pa_cons (pe_disp (pps_cons pe_str pe_int pps_nil) (by rfl) (by rfl) (fun z => by cases z) (by decide)) pa_nil)) (pv 1))) pa_nil)))))
      (ClaOk.named (i := 2) ⟨by rfl, by decide, .inl mL⟩ rfl rfl (fun a oe cls d pn hz hf => pss_one (ps_ret (pe_lst (pa_cons pe_str (pa_cons (pe_xh2 hz hf (pv 2)) (pa_cons (pe_callB (call_isH hz hf) (by rfl) T.isinstance (by decide +kernel) (pa_cons (pv 2) (pa_cons (gl_c (v := .ref CE) (by rfl) ⟨_, mE, rfl⟩) pa_nil))) pa_nil)))))) (ClaOk.named (i := 2) ⟨by rfl, by decide, .inl mN⟩ rfl rfl (fun a oe cls d pn hz hf => pss_one (ps_ret (pe_lst (pa_cons pe_str (pa_cons (pe_xh2 hz hf (pv 2)) (pa_cons (pe_callB (call_isH hz hf) (by rfl) T.isinstance (by decide +kernel) (pa_cons (pv 2) (pa_cons (gl_c (v := .ref CE) (by rfl) ⟨_, mE, rfl⟩) pa_nil))) pa_nil)))))) .nil))), ?_⟩
    obtain ⟨x, ⟨rfl, hb, q⟩ | ⟨rfl, ⟨k, hk⟩, hn, q⟩⟩ := h
    · refine ⟨_, rfl, rfl, _, rfl, iteT ?_⟩
      refine ⟨_, rfl, fun r dr hr1 hr2 hne => ?_⟩
      have up0 : Same H (upd (upd H dr (.own r)) r (.ins C dr [])) := Same.tr (Same.put hr2) (Same.put ((upd_ne hne.symm).trans hr1))
      rcases hb with ⟨k, vk, hk⟩ | ⟨d, kvs, rfl, hd, h5, hl, hbad⟩
      · exact ⟨r, dr, x, rfl, upd_same, .inl ⟨k, vk.mono up0, hk, fun H' dd fs kp he hf => ⟨true, TX.ll, fun _ a ha => ⟨_, rfl, rfl, CL, dd, fs, x, rfl, TX.xL, TX.fl, rfl, he, hf, _, rfl, CL, dd, fs, _, _, true, rfl, rfl, TX.xL, rfl, he, .own _, TX.le, (by show 3 ≤ sizeLine; decide), fun l hl => q _ l (Same.tr (made_same (Same.refl _) hr1 hr2 kp) (Same.put hl)) upd_same⟩, fun z => nomatch z⟩⟩⟩
      · exact ⟨r, dr, _, rfl, upd_same, .inr (.inl ⟨d, kvs, rfl, ne_of_none hd hr1, up0 _ _ hd, h5, hl, hbad, fun H' dd fs kp he hf => ⟨true, TX.ll, fun _ a ha => ⟨_, rfl, rfl, CL, dd, fs, _, rfl, TX.xL, TX.fl, rfl, he, hf, _, rfl, CL, dd, fs, _, _, true, rfl, rfl, TX.xL, rfl, he, .own _, TX.le, (by show 3 ≤ sizeLine; decide), fun l hl => q _ l (Same.tr (made_same (Same.refl _) hr1 hr2 kp) (Same.put hl)) upd_same⟩, fun z => nomatch z⟩⟩)⟩
    · refine ⟨_, rfl, rfl, _, rfl, iteF ?_⟩
      refine fun z hz => ⟨upd_same, [(Sum.inr "a", .int 1)], rfl, by decide, ?_⟩
      have s1 : Same H (upd (upd H z (.dK [])) z (.dK (mergeK [] [(Sum.inr "a", V.int 1)]))) := fun b o e => (upd_ne (ne_of_none e hz)).trans ((upd_ne (ne_of_none e hz)).trans e)
      have hz1 : (upd (upd H z (.dK [])) z (.dK (mergeK [] [(Sum.inr "a", V.int 1)]))) z = some (.dK ([(("a" : Str), (1 : Int))].map kvI)) := upd_same
      generalize upd (upd H z (.dK [])) z (.dK (mergeK [] [(Sum.inr "a", V.int 1)])) = H1 at s1 hz1 ⊢
      intro r0 dr hr1 hr2 hne
      refine make_one hz1 ⟨by decide, by decide +kernel⟩ hr1 hr2 fun H2 rs s2 hL hv => ⟨rfl, ?_⟩
      obtain ⟨dx, gs, hr1, _⟩ := hL.ins
      refine ⟨_, rfl, r0, dx, gs, rfl, hr1, r0, rs, x, k, rfl, hL, hk.mono (Same.tr s1 s2), fun z e hz' => ?_, fun _ H' dd fs s he hf => ⟨false, TX.nl, (fun z => nomatch z), fun _ => ⟨true, TX.nn, fun _ a ha => ⟨_, rfl, rfl, CN, dd, fs, x, rfl, TX.xN, TX.fn, rfl, he, hf, _, rfl, CN, dd, fs, _, _, true, rfl, rfl, TX.xN, rfl, he, .own _, TX.ne, (by show 3 ≤ sizeLine; decide), fun l hl => q _ l (Same.tr (Same.tr s1 (Same.tr s2 s)) (Same.put hl)) upd_same⟩, fun z => nomatch z⟩⟩⟩
      rw [hn z e] at hz'
      cases hz'

end
end T31
set_option Elab.async false
set_option linter.all false
set_option maxRecDepth 100000
set_option maxHeartbeats 4000000
namespace T31
open PySem PySem.Spec PyProof.Rows L2 Tp

/-- _law_right -/
def spRight (C : Addr) : Sp := fun vs H Q _ => ∃ (p d : Addr) (ls rs : List (Str × Int)), vs = [.ref p, .ref d] ∧ LagAt H C p ls ∧ DicAt H d rs ∧ (∀ n, val rs n = val ls n) ∧ (∀ n, (val ls n).natAbs ≤ 10 ^ 31) ∧ ∀ H', Same H H' → Q (.bl true) H'
theorem log_of {i : Int} {k : Nat} (h : i.natAbs < 2 ^ k) (hk : k ≤ 1000) : i.natAbs.log2 < 1920 := by
  by_cases z : i.natAbs = 0
  · rw [z]; decide
  · exact Nat.lt_of_lt_of_le ((Nat.log2_lt z).mpr h) (by omega)
theorem log_bd {i : Int} (h : i.natAbs ≤ 10 ^ 32) : i.natAbs.log2 < 1920 := log_of (k := 200) (Nat.lt_of_le_of_lt h (by decide +kernel)) (by omega)
theorem pairs_perm {as bs : List (Str × Int)} (ha : OkL as) (hb : OkL bs) (na : NzL as) (nb : NzL bs) (h : ∀ n, val as n = val bs n) : as.Perm bs := by
  have nd : ∀ {ls : List (Str × Int)}, OkL ls → ls.Nodup := fun {ls} hl => by
    have := hl.nd
    rw [List.nodup_iff_pairwise_ne, List.pairwise_map] at this
    rw [List.nodup_iff_pairwise_ne]
    exact this.imp fun h e => h (by rw [e])
  refine (List.perm_ext_iff_of_nodup (nd ha) (nd hb)).mpr fun p => ?_
  have key : ∀ {as bs : List (Str × Int)}, OkL as → NzL as → NzL bs → (∀ n, val as n = val bs n) → p ∈ as → p ∈ bs := fun {as bs} ha na nb h hp => by
    have e := lk_of_mem ha.nd hp
    have e2 : lk bs p.1 = some p.2 := by rw [nz_lk nb, ← h p.1, val_pos e, if_neg (na p hp)]
    exact lk_mem e2
  exact ⟨key ha na nb h, key hb nb na fun n => (h n).symm⟩
theorem sum_perm {as bs : List Int} (h : as.Perm bs) : as.sum = bs.sum := by
  induction h with
  | nil => rfl
  | cons x _ ih => rw [List.sum_cons, List.sum_cons, ih]
  | swap x y l => simp only [List.sum_cons]; omega
  | trans _ _ h1 h2 => exact h1.trans h2
theorem asum_eq {as bs : List (Str × Int)} (ha : OkL as) (hb : OkL bs) (na : NzL as) (nb : NzL bs) (h : ∀ n, val as n = val bs n) : (as.map fun p => absI p.2).sum = (bs.map fun p => absI p.2).sum := sum_perm ((pairs_perm ha hb na nb h).map _)
theorem asum_bd : ∀ {as : List (Str × Int)} {b : Nat}, (∀ p ∈ as, p.2.natAbs ≤ b) → ((as.map fun p => absI p.2).sum).natAbs ≤ as.length * b
  | [], _, _ => by simp
  | p :: as, b, h => by
    have ih := asum_bd (as := as) (b := b) fun q hq => h q (List.mem_cons_of_mem _ hq)
    have h1 := h p List.mem_cons_self
    rw [List.map_cons, List.sum_cons, List.length_cons, Nat.succ_mul]
    have h2 : (absI p.2).natAbs ≤ b := by
      unfold absI
      split <;> omega
    omega
theorem mem_bd {ls : List (Str × Int)} {b : Nat} (ok : OkL ls) (h : ∀ n, (val ls n).natAbs ≤ b) : ∀ p ∈ ls, p.2.natAbs ≤ b := fun p hp => by
  have := h p.1
  rwa [val_pos (lk_of_mem ok.nd hp)] at this
theorem item_any {K : PySem.W.Frag} {C CN p : Addr} {G : Hp} {ls : List (Str × Int)} {n : Str} {Q : VK} {E : XK} (hL : LagAt G C p ls) (hn : nameB (TL.tl n) = true ∧ n.length ≤ 8) (q : ∀ G2, Same G G2 → Q (.int (val ls n)) G2) : spItem K C CN [.ref p, .str n] G Q E := by
  refine ⟨p, ls, .str n, "str", rfl, hL, vk_str n (by omega), fun z e _ G2 s2 => ?_, fun bad => ?_⟩
  · cases e
    exact q G2 s2
  · have := bad n rfl
    rw [hn.1] at this
    cases this
def seven : List Str := ["a", "aa", "b1", "g0", "zzzzzzzz", "x", "q"]
theorem name_seven {n : Str} (h : n ∈ seven) : nameB (TL.tl n) = true ∧ n.length ≤ 8 := by
  have : ∀ n ∈ seven, nameB (TL.tl n) = true ∧ n.length ≤ 8 := by decide +kernel
  exact this n h
theorem nice_names {ys ks : List Str} (h : ys.Perm ks) (h6 : ∀ n ∈ ks, n ∈ six) (hl : ks.length ≤ 6) : Nice 100 1 (.list (ys.map PyData.str)) := by
  have hy : ∀ y ∈ ys, y ∈ six := fun y hy => h6 y (h.mem_iff.mp hy)
  have hn := niceAll_strs (ys := ys) fun y hy' => six_sm y (hy y hy')
  have hl2 : ys.length ≤ 6 := by rw [h.length_eq]; exact hl
  have hs : ∀ {zs : List Str}, (∀ y ∈ zs, y ∈ six) → (zs.map (·.length)).sum ≤ zs.length * 8 := fun {zs} => by
    induction zs with
    | nil => intro _; simp
    | cons z zs ih =>
      intro hz
      have h1 := (name_six (hz z List.mem_cons_self)).2
      have h2 := ih fun y hy => hz y (List.mem_cons_of_mem _ hy)
      rw [List.map_cons, List.sum_cons, List.length_cons, Nat.succ_mul]
      omega
  have := hs hy
  exact (hn.mono (by omega) (Nat.le_refl _)).list
theorem beq_self_str (z : Str) : decide (V.str z = V.str z) = true := decide_eq_true rfl

section
variable {P : Program} {w : World} {K : PySem.W.Frag} {mg : Str → Option Value} {base : Heap} {f : Addr} {fd : FuncData}

abbrev sWri : Stmt := top 22
abbrev nWri : List Str := ["_law_lags", "_law_rows_here", "_law_due", "_law_turn", "_law_found", "_law_name", "_law_back"]
theorem scWri : FnScope nWri ["_law_lags", "_law_rows_here"] (defScope sWri) := ⟨rfl, rfl, rfl, by decide +kernel, rfl, by decide +kernel, by decide +kernel⟩

theorem ok_right {C CL CN : Addr} (F : Fun K "_law_right" "_law_right" sWri f fd) (S : Sm K) (T : TxtW mg) (T2g : TxtLg K C) (T2 : TxtL2 K C) (LR : Cg P w K mg base 1 "_law_rows" spLRows) (RW : Ct P w K mg base 1 C "rows" [] (spRows C)) (GI : Ctr P w K mg base 3 C "__getitem__" [] (spItem K C CN)) (CM : Cmr P w K mg base 3 "Lags" C [] (spInit K C CL))
    (NG : Ct P w K mg base 5 C "__neg__" [] (spNeg C)) (AB : Ct P w K mg base 5 C "__abs__" [] (spAbs C)) (EQ : Ct P w K mg base 1 C "__eq__" [] (spEqL K C)) : FnG P w K mg base CX0 7 f fd ["_law_lags", "_law_rows_here"] (spRight C) := by
  refine FunG.ok F scWri (fun vs H Q E h => ?_) (fun cdv B out s H vs Q E hr hG h => ?_)
  · obtain ⟨p, d, ls, rs, rfl, _⟩ := h
    rfl
  · obtain ⟨p, d, ls, rs, rfl, hL, hD, hv, hbd, q⟩ := h
    refine ⟨_, (pss_cons (ps_set (i := 2) scWri.nd rfl (.inr rfl) (pe_g LR hr hG (by decide) (by rfl) (pa_cons (pv 1) pa_nil)))
      (pss_cons (ps_for PassesOwn.never rfl (pi_range1 (by rfl) T.range (pa_cons pe_int pa_nil)) (pg_name (i := 3) scWri.nd rfl (Or.inl rfl)) (pss_cons (ps_set (i := 4) scWri.nd rfl (.inl rfl) (pe_ct0 (pv 0) RW hr hG (by decide)))
        (pss_cons (ps_if (PW.pt (pw_or (pt_not (pt_val (pe_callB call_isd (by rfl) T.isinstance (by decide +kernel) (pa_cons (pv 4) (pa_cons (pe_bltn (by rfl) T.dict (by decide +kernel) (show RelV (.ty "dict") _ from rfl)) pa_nil))))) (pw_or (pt_cmpR (op_neDI (hu_of2 hr)) (pv 4) (pv 2) (nomark _)) (pw_or1 (pt_cmpR op_ne (pe_callB (call_reprD S hr hG) (by rfl) T.repr (by decide +kernel) (pa_cons (pe_callB (call_sortedD rfl) (by rfl) T.sorted (by decide +kernel) (pa_cons (pv 4) pa_nil)) pa_nil)) (pe_callB (call_reprD S hr hG) (by rfl) T.repr (by decide +kernel) (pa_cons (pe_callB (call_sortedD rfl) (by rfl) T.sorted (by decide +kernel) (pa_cons (pv 2) pa_nil)) pa_nil)) (nomark _)))))) (pss_one (ps_ret pe_bl)) pss_nil)
        (pss_one (ps_dput (hu_of hr) (pv 4) pe_str pe_int rfl)))))
      (pss_cons (ps_for PassesOwn.never rfl (pi_list (pe_lst (pa_cons pe_str (pa_cons pe_str (pa_cons pe_str (pa_cons pe_str (pa_cons pe_str (pa_cons pe_str (pa_cons pe_str pa_nil))))))))) (pg_name (i := 5) scWri.nd rfl (Or.inl rfl)) (pss_one (ps_if (pt_cmpR op_ne (pe_callB SkE.call_repr_int (by rfl) T.repr (by decide +kernel) (pa_cons (pe_getL GI T2.gi (hr.mono (by decide)) hG takes0 (pv 0) (pv 5)) pa_nil)) (pe_callB SkE.call_repr_int (by rfl) T.repr (by decide +kernel) (pa_cons (pe_dget2 (hu_of hr) (pv 2) (pv 5) pe_int ⟨rfl, rfl, rfl, rfl⟩) pa_nil)) (nomark _)) (pss_one (ps_ret pe_bl)) pss_nil)))
      (pss_cons (ps_set (i := 6) scWri.nd rfl (.inl rfl) pe_dnewK)
      (pss_cons (ps_lock (ps_for PassesOwn.never rfl (pi_keys (pv 2)) (pg_name (i := 5) scWri.nd rfl (Or.inl rfl)) (pss_one (ps_dput (hu_of hr) (pv 6) (pv 5) (pe_op op_sub pe_int (pe_dget (hu_of hr) (pv 2) (pv 5) (fun _ _ => rfl))) rfl))))
      (pss_cons (ps_if (PW.pt (pw_or (pt_cmpR (op_neDI (hu_of2 hr)) (pe_ct0 (pe_un (un_negO NG (hr.mono (by decide)) hG) (pv 0)) RW hr hG (by decide)) (pv 6) (nomark _)) (pw_or1 (pt_cmpR op_ne (pe_callB SkE.call_repr_int (by rfl) T.repr (by decide +kernel) (pa_cons (pe_callB (call_absO AB (hr.mono (by decide)) hG) (by rfl) T.abs (by decide +kernel) (pa_cons (pv 0) pa_nil)) pa_nil)) (pe_callB SkE.call_repr_int (by rfl) T.repr (by decide +kernel) (pa_cons (pe_callB (cr_sum rfl) (by rfl) T.sum (by decide +kernel) (pa_cons (pe_lock (pe_lc (own := [("_law_name", 5)]) (g := gName 5) (tt := tYes) rfl scWri.nd (pi_keys (pv 2)) (blkOk_by (N := nWri) (sc := defScope sWri) (by decide +kernel)) (fun _ _ _ _ _ => pg_name (i := 5) scWri.nd rfl (Or.inl rfl)) (fun _ _ _ _ _ => pts_nil) (fun _ _ _ _ _ => (pe_callB call_abs (by rfl) T.abs (by decide +kernel) (pa_cons (pe_dget (hu_of hr) (pv 2) (pv 5) (fun _ _ => rfl)) pa_nil))))) pa_nil)) pa_nil)) (nomark _))))) (pss_one (ps_ret pe_bl)) pss_nil)
      (pss_one (ps_ret (pe_and (pe_cmpR (op_eqO EQ (hr.mono (by decide)) hG) (pv 0) (pe_cmr CM hr hG (by decide) takes0 (by rfl) (pa_cons (pv 2) pa_nil)) (nomark _)) (pe_and (pe_cmpR (op_eqO EQ (hr.mono (by decide)) hG) (pv 0) (pe_un (un_negO NG (hr.mono (by decide)) hG) (pe_un (un_negO NG (hr.mono (by decide)) hG) (pv 0))) (nomark _)) (pe_and (pe_not (pe_cmpR (op_eqO EQ (hr.mono (by decide)) hG) (pv 0) (pv 2) (nomark _))) (pe_one (pe_not (pe_cmpR (op_neO EQ T2g.ne T2g.ob (hr.mono (by decide)) hG) (pv 0) (pe_cmr CM hr hG (by decide) takes0 (by rfl) (pa_cons (pv 1) pa_nil)) (nomark _))))))))))))))), ?_⟩
    obtain ⟨okl, nzl⟩ := hL.ok
    have l6 := okl.len
    refine ⟨_, rfl, d, rs, rfl, hD, fun H1 e cs s1 hE nzc hcv => ?_⟩
    have okc := hE.2
    have c6 := okc.len
    have hcl : ∀ n, val cs n = val ls n := fun n => (hcv n).trans (hv n)
    have heq : eqI ls cs = true := eqI_val okl okc nzl nzc fun n => (hcl n).symm
    have hL1 := hL.up s1
    have hD1 := hD.up s1
    have mL := mem_bd okl hbd
    have mC := mem_bd okc fun n => by rw [hcl]; exact hbd n
    dsimp only [gName]
    refine ⟨2, rfl, by decide, by decide, ?_⟩
    refine for_it (walk_range (lo := 0) (n := 2)) (fun j σ G => Same H1 G ∧ ∃ o3 o4, σ = [some (.ref p), some (.ref d), some (.ref e), o3, o4, none, none]) ⟨Same.refl _, _, _, rfl⟩ (fun _ _ _ _ _ => trivial) ?_ ?_
    · rintro i x σ G G' hi ⟨sm, o3, o4, rfl⟩ ⟨rfl, rfl⟩
      have hLG := hL1.up sm
      have hEG := hE.up sm
      obtain ⟨dx, fs, h1, h3⟩ := hLG.ins
      refine ⟨_, rfl, p, dx, fs, rfl, h1, h3 _ (by decide), p, ls, rfl, hLG, fun qa hqa => ?_⟩
      have sq := Same.put (o := .dK (ls.map kvI)) hqa
      have hq1 : upd G' qa (.dK (ls.map kvI)) qa = some (.dK (ls.map kvI)) := upd_same
      have hE2 := hEG.up sq
      have sm2 : ∀ b o, H1 b = some o → b ≠ qa ∧ upd G' qa (.dK (ls.map kvI)) b = some o := fun b o h => ⟨ne_of_none (sm _ _ h) hqa, sq _ _ (sm _ _ h)⟩
      generalize upd G' qa (.dK (ls.map kvI)) = G2 at sq hq1 hE2 sm2 ⊢
      dsimp only [gName]
      refine ⟨_, rfl, _, _, _, _, rfl, .ty _, (vk_dict hq1).kd.is "dict" (by decide), _, rfl, iteF ?_⟩
      refine ⟨_, rfl, _, rfl, qa, e, ls, cs, rfl, rfl, hq1, hE2.1, _, rfl, ?_⟩
      rw [heq]
      refine iteF ?_
      refine ⟨_, rfl, qa, ls.map kvI, ls.map (·.1), rfl, .inl hq1, by rw [List.map_map, List.map_map]; rfl, by rw [List.length_map]; omega, fun ys y1 hp1 hs1 e1 => ?_⟩
      dsimp only [tNil]
      refine rReprD_of (.lst (SqL.of upd_same) (ddAll_strs _)) (nice_names hp1 okl.six (by rw [List.length_map]; exact l6)) (by omega) (by omega) ?_
      have s3 := Same.put (o := .lst (ys.map V.str)) e1
      generalize upd G2 y1 (.lst (ys.map V.str)) = G3 at s3 ⊢
      refine ⟨_, rfl, e, cs.map kvI, cs.map (·.1), rfl, .inl (s3 _ _ hE2.1), by rw [List.map_map, List.map_map]; rfl, by rw [List.length_map]; omega, fun zs z1 hp2 hs2 e2 => ?_⟩
      dsimp only [tNil]
      refine rReprD_of (.lst (SqL.of upd_same) (ddAll_strs _)) (nice_names hp2 okc.six (by rw [List.length_map]; exact c6)) (by omega) (by omega) ?_
      rw [sorted_eq hp1 hp2 (keys_perm okl okc nzl nzc fun n => (hcl n).symm) hs1 hs2]
      have s4 := Same.put (o := .lst (zs.map V.str)) e2
      generalize upd G3 z1 (.lst (zs.map V.str)) = G4 at s4 ⊢
      refine ⟨rfl, _, rfl, ?_⟩
      rw [beq_self_str]
      refine iteF ?_
      refine ⟨_, rfl, qa, _, rfl, DPut.k (k := Sum.inr "late1") (s4 _ _ (s3 _ _ hq1)) (len_six okl), ?_⟩
      refine ⟨fun b o h => ?_, _, _, rfl⟩
      obtain ⟨n1, n2⟩ := sm2 b o h
      exact (upd_ne n1).trans (s4 _ _ (s3 _ _ n2))
    rintro σ G ⟨sm, o3, o4, rfl⟩
    have hLG := hL1.up sm
    have hEG := hE.up sm
    refine ⟨(by show 7 ≤ sizeLine; decide), fun l hl => ⟨l, rfl, ⟨_, SqL.of upd_same⟩, ?_⟩⟩
    have e7 : [V.str "a", V.str "aa", V.str "b1", V.str "g0", V.str "zzzzzzzz", V.str "x", V.str "q"] = seven.map V.str := rfl
    rw [e7]
    have s2 := Same.put (o := .lst (seven.map V.str)) hl
    have hl1 : upd G l (.lst (seven.map V.str)) l = some (.lst (seven.map V.str)) := upd_same
    have sH2 := Same.tr sm s2
    generalize upd G l (.lst (seven.map V.str)) = H2 at s2 hl1 sH2 ⊢
    refine for_it (walk_list (xs := seven.map V.str)) (fun j σ G => Same H2 G ∧ ∃ o5, σ = [some (.ref p), some (.ref d), some (.ref e), o3, o4, o5, none]) ⟨Same.refl _, _, rfl⟩ (fun _ _ _ _ h => SqL.of (h.1 _ _ hl1)) ?_ ?_
    · rintro j x σ G G' hj ⟨sm3, o5, rfl⟩ ⟨rfl, hx⟩
      rw [List.getElem?_map] at hx
      obtain ⟨n, hn, rfl⟩ := Option.map_eq_some_iff.mp hx
      have sg := Same.tr sH2 sm3
      have hLG := hL1.up sg
      obtain ⟨dx, fs, h1, h3⟩ := hLG.ins
      have ev : ∀ rs : List (Str × Int), (Option.map V.int (lk rs n)).getD (V.int 0) = V.int (val rs n) := fun rs => by
        unfold val
        cases lk rs n <;> rfl
      have lb : (val ls n).natAbs.log2 < 1920 := log_bd (Nat.le_trans (hbd n) (by decide +kernel))
      dsimp only [gName]
      refine ⟨_, rfl, _, rfl, p, dx, fs, rfl, h1, item_any hLG (name_seven (List.mem_of_getElem? hn)) fun G2 s3 => ⟨_, rfl, lb, ?_⟩⟩
      have hE2 := (hE.up sg).up s3
      refine ⟨_, rfl, e, rfl, .inl ⟨_, .inl hE2.1⟩, _, rfl, _, dget_I (.inl hE2.1), ?_⟩
      rw [ev, hcl n]
      refine ⟨_, rfl, lb, rfl, _, rfl, ?_⟩
      rw [beq_self_str]
      exact iteF ⟨Same.tr sm3 s3, _, rfl⟩
    rintro σ G ⟨sm3, o5, rfl⟩
    have sg := Same.tr sH2 sm3
    have hLG := hL1.up sg
    have hEG := hE.up sg
    have hDG := hD1.up sg
    refine fun bk hbk => ?_
    have s4 := Same.put (o := .dK []) hbk
    have hb1 : upd G bk (.dK []) bk = some (.dK (([] : List (Str × Int)).map kvI)) := upd_same
    have hLB := hLG.up s4
    have hEB := hEG.up s4
    have hDB := hDG.up s4
    have sg4 := Same.tr s1 (Same.tr sg s4)
    have hbe : bk ≠ e := (ne_of_none hEG.1 hbk).symm
    have hap : ∀ b o, b ≠ bk → upd G bk (.dK []) b = some o → G b = some o := fun b o h e => by rwa [upd_ne h] at e
    generalize upd G bk (.dK []) = H4 at s4 hb1 hLB hEB hDB sg4 hap ⊢
    refine ⟨e, _, hEB.1, trivial, fun od => ?_⟩
    refine ⟨_, rfl, e, od, rfl, .inl ⟨_, upd_same, ?_⟩⟩
    refine for_it walk_keys (fun j σ M => SameX e G M ∧ M e = some (.frz od (.dK (cs.map kvI))) ∧ (∃ bs, M bk = some (.dK (bs.map kvI)) ∧ Bld bs ((cs.map (·.1)).take j) (fun _ => true) (fun n => 0 - val cs n)) ∧ ∃ o, σ = [some (.ref p), some (.ref d), some (.ref e), o3, o4, o, some (.ref bk)])
      ⟨fun b o hb h => (upd_ne hb).trans (s4 _ _ h), upd_same, ⟨[], (upd_ne hbe).trans hb1, by rw [List.take_zero]; exact bld_nil⟩, _, rfl⟩ (fun _ _ _ _ h => h.2.1) ?_ ?_
    · rintro j x σ M M' hj ⟨sm5, hMe, ⟨bs, hMb, hB⟩, o, rfl⟩ ⟨rfl, kx, vx, hx, rfl⟩
      rw [List.getElem?_map] at hx
      obtain ⟨r, hr', hee⟩ := Option.map_eq_some_iff.mp hx
      cases hee
      have hn6 := okc.six _ (List.mem_map.mpr ⟨r, List.mem_of_getElem? hr', rfl⟩)
      have hlk := lk_of_mem okc.nd (List.mem_of_getElem? hr')
      have hval := val_pos hlk
      have htk : (cs.map (·.1)).take (j + 1) = (cs.map (·.1)).take j ++ [r.1] := by rw [List.take_add_one, List.getElem?_map, hr']; rfl
      have hget : DGet M' e (.str r.1) (some (.int r.2)) := by have := dget_I (n := r.1) (Rd.l hMe); rwa [hlk] at this
      have hb := hB.add hn6 rfl
      rw [hval, ← htk] at hb
      refine ⟨_, rfl, _, rfl, e, _, rfl, hget, _, _, rfl, rfl, _, rfl, _, rfl, bk, _, rfl, DPut.k (k := Sum.inr r.1) hMb (len_six hB.ok), ?_⟩
      refine ⟨fun b o h1 h2 => (upd_ne (ne_of_none h2 hbk)).trans (sm5 b o h1 h2), (upd_ne hbe.symm).trans hMe, ⟨_, ?_, hb⟩, _, rfl⟩
      rw [upd_same, putK_I]
    rintro σ M ⟨sm5, hMe, ⟨bs, hMb, hB⟩, o, rfl⟩
    have hal : (cs.map (·.1)).take (cs.map kvI).length = cs.map (·.1) := List.take_of_length_le (by rw [List.length_map, List.length_map]; exact Nat.le_refl _)
    rw [hal] at hB
    refine ⟨hMe, ?_⟩
    have hM2 : Same G (upd M e (.dK (cs.map kvI))) := sm5.fin hEG.1
    have hMb2 := (upd_ne (o := .dK (cs.map kvI)) hbe).trans hMb
    have hbv : ∀ n, val bs n = 0 - val ls n := fun n => by
      rw [hB.val fun m hm => ?_, hcl]
      rcases hm with hm | hm
      · rw [val_out hm]; rfl
      · cases hm
    have nzb : NzL bs := fun r hr' => by
      have h1 := lk_of_mem hB.ok.nd hr'
      rw [hB.at_] at h1
      split at h1
      · rename_i h2
        obtain ⟨c, hc, hc2⟩ := List.mem_map.mp h2.1
        have := val_pos (lk_of_mem okc.nd hc)
        rw [hc2] at this
        have h0 := nzc c hc
        rw [← Option.some.inj h1]
        show 0 - val cs r.1 ≠ 0
        omega
      · cases h1
    generalize upd M e (.dK (cs.map kvI)) = M2 at hM2 hMb2 ⊢
    have hL2 := hLG.up hM2
    have hE2 := hEG.up hM2
    have hD2 := hDG.up hM2
    have sM2 := Same.tr s1 (Same.tr sg hM2)
    obtain ⟨dx, fs, h1, h3⟩ := hL2.ins
    refine ⟨_, rfl, p, dx, fs, rfl, h1, p, ls, rfl, hL2, fun M3 r ns s5 hR hnv => ?_⟩
    obtain ⟨dxr, fsr, hr1, hr3⟩ := hR.ins
    refine ⟨r, dxr, fsr, rfl, hr1, hr3 _ (by decide), r, ns, rfl, hR, fun qb hqb => ?_⟩
    obtain ⟨okn, nzn⟩ := hR.ok
    have s6 := Same.put (o := .dK (ns.map kvI)) hqb
    have hqb1 : upd M3 qb (.dK (ns.map kvI)) qb = some (.dK (ns.map kvI)) := upd_same
    have hMb6 := s6 _ _ (s5 _ _ hMb2)
    have s56 := Same.tr s5 s6
    generalize upd M3 qb (.dK (ns.map kvI)) = M4 at s6 hqb1 hMb6 s56 ⊢
    refine ⟨_, rfl, qb, bk, ns, bs, rfl, rfl, hqb1, hMb6, _, rfl, ?_⟩
    rw [eqI_val okn hB.ok nzn nzb fun n => by rw [hnv, hbv]; omega]
    refine iteF ?_
    have hL4 := hL2.up s56
    have hE4 := hE2.up s56
    have hD4 := hD2.up s56
    obtain ⟨dx4, fs4, h14, h34⟩ := hL4.ins
    have as1 := asum_bd mL
    have as2 : ((ls.map fun p => absI p.2).sum).natAbs ≤ 10 ^ 32 := Nat.le_trans as1 (Nat.le_trans (Nat.mul_le_mul_right _ l6) (by decide +kernel))
    refine ⟨_, rfl, p, dx4, fs4, rfl, h14, p, ls, rfl, hL4, fun M5 s7 => ⟨_, rfl, log_bd as2, ?_⟩⟩
    have hE5 := hE4.up s7
    refine ⟨e, _, hE5.1, trivial, fun od => ?_⟩
    refine ⟨_, rfl, e, od, rfl, .inl ⟨_, upd_same, fun D hD => ?_⟩⟩
    have hDe : D ≠ e := fun z => by rw [z, upd_same] at hD; cases hD
    have hDn : M5 D = none := by rwa [upd_ne hDe] at hD
    refine lc_it walk_keys (fun j W => SameX e M5 W ∧ W e = some (.frz od (.dK (cs.map kvI))) ∧ W D = some (.lst (((cs.take j).map fun r => absI r.2).map V.int))) ⟨sameX_lock.put hDn, (upd_ne hDe.symm).trans upd_same, upd_same⟩ (fun _ _ _ h => h.2.1) ?_ ?_
    · rintro j x W W' hj ⟨smw, hWe, hWD⟩ ⟨rfl, kx, vx, hx, rfl⟩
      rw [List.getElem?_map] at hx
      obtain ⟨r', hr', hee⟩ := Option.map_eq_some_iff.mp hx
      cases hee
      have hlk := lk_of_mem okc.nd (List.mem_of_getElem? hr')
      have hget : DGet W' e (.str r'.1) (some (.int r'.2)) := by have := dget_I (n := r'.1) (Rd.l hWe); rwa [hlk] at this
      refine ⟨rfl, _, rfl, _, rfl, e, _, rfl, hget, _, rfl, _, hWD, ?_, smw.put hDn, (upd_ne hDe.symm).trans hWe, ?_⟩
      · rw [List.length_map, List.length_map, List.length_take, PySem.sizeLine_eq]
        omega
      · rw [upd_same, List.take_add_one, hr']
        simp [absI]
    rintro W ⟨smw, hWe, hWD⟩
    have hal2 : cs.take (cs.map kvI).length = cs := List.take_of_length_le (by rw [List.length_map]; exact Nat.le_refl _)
    rw [hal2] at hWD
    refine ⟨hWe, D, _, rfl, SqL.of ((upd_ne hDe).trans hWD), ?_⟩
    have s8 := smw.fin hE5.1
    generalize upd W e (.dK (cs.map kvI)) = M6 at s8 ⊢
    rw [asum_eq okc okl nzc nzl hcl]
    refine ⟨_, rfl, log_bd as2, rfl, _, rfl, ?_⟩
    rw [beq_self_str]
    refine iteF ?_
    have s48 := Same.tr s7 s8
    have hL6 := hL4.up s48
    have hE6 := hE4.up s48
    have hD6 := hD4.up s48
    have sF := Same.tr sM2 (Same.tr s56 s48)
    refine ⟨_, rfl, _, rfl, fun r1 dr1 k1 k2 hne1 => ?_⟩
    refine make_one hE6.1 okc k1 k2 fun N1 as s9 hA hav => ⟨rfl, ?_⟩
    obtain ⟨dx7, fs7, h17, _⟩ := (hL6.up s9).ins
    obtain ⟨dxa, fsa, ha1, _⟩ := hA.ins
    refine ⟨p, dx7, fs7, rfl, h17, .inl ⟨r1, _, _, rfl, ha1⟩, p, ls, .ref r1, rfl, hL6.up s9, .inl ⟨r1, as, rfl, hA, _, rfl, _, rfl, ?_⟩⟩
    rw [Bool.bne_false, eqI_val okl hA.ok.1 nzl hA.ok.2 fun n => by rw [hav, hcl]]
    refine iteT ?_
    have hL7 := hL6.up s9
    refine ⟨_, rfl, _, rfl, p, dx7, fs7, rfl, h17, p, ls, rfl, hL7, fun N2 r2 n2 s10 hR2 hv2 => ?_⟩
    obtain ⟨dx2, fs2, h12, _⟩ := hR2.ins
    refine ⟨r2, dx2, fs2, rfl, h12, r2, n2, rfl, hR2, fun N3 r3 n3 s11 hR3 hv3 => ?_⟩
    obtain ⟨dx3, fs3, h13, _⟩ := hR3.ins
    have hL8 := (hL7.up s10).up s11
    obtain ⟨dx8, fs8, h18, _⟩ := hL8.ins
    refine ⟨p, dx8, fs8, rfl, h18, .inl ⟨r3, _, _, rfl, h13⟩, p, ls, .ref r3, rfl, hL8, .inl ⟨r3, n3, rfl, hR3, _, rfl, _, rfl, ?_⟩⟩
    rw [Bool.bne_false, eqI_val okl hR3.ok.1 nzl hR3.ok.2 fun n => by rw [hv3, hv2]; omega]
    refine iteT ?_
    have s9b := Same.tr s9 (Same.tr s10 s11)
    have hE8 := hE6.up s9b
    have hD8 := hD6.up s9b
    refine ⟨_, rfl, _, rfl, p, dx8, fs8, rfl, h18, .inr ⟨_, .base (.dK hE8.1), T2.sd⟩, p, ls, .ref e, rfl, hL8, .inr ⟨.inl ⟨_, .base (.dK hE8.1), T2.dk⟩, _, rfl, _, rfl, _, rfl, iteT ?_⟩⟩
    refine ⟨_, rfl, _, rfl, fun r4 dr4 k3 k4 hne4 => ?_⟩
    refine make_one hD8.1 hD8.2 k3 k4 fun N4 as4 s12 hA4 hav4 => ⟨rfl, ?_⟩
    have hL9 := hL8.up s12
    obtain ⟨dx9, fs9, h19, _⟩ := hL9.ins
    obtain ⟨dxb, fsb, hb41, _⟩ := hA4.ins
    refine ⟨p, dx9, fs9, rfl, h19, .inl ⟨r4, _, _, rfl, hb41⟩, p, ls, .ref r4, rfl, hL9, .inl ⟨r4, as4, rfl, hA4, _, rfl, _, rfl, ?_⟩⟩
    rw [eqI_val okl hA4.ok.1 nzl hA4.ok.2 fun n => by rw [hav4, hv]]
    exact q _ (Same.tr sF (Same.tr s9b s12))

end
end T31
set_option Elab.async false
set_option linter.all false
set_option maxRecDepth 100000
set_option maxHeartbeats 4000000
namespace T31
open PySem PySem.Spec PyProof.Rows L2 Tp

section
variable {X : Cx}
/-- two lists of the same things are not unequal -/
def rNeSame (K : PySem.W.Frag) : R2 := fun x y H Q => ∃ a b xs, x = .ref a ∧ y = .ref b ∧ SqL K H a xs ∧ SqL K H b xs ∧ (∀ v ∈ xs, flatB v = true ∨ ∃ r, v = .ref r) ∧ Q (.bl false) H
theorem op_neSame (hu : X.A.units < cLine) : OpR X (compareOp .NotEq) (rNeSame X.K) := by
  intro pins s σ H x y v u Q I rx ry h
  obtain ⟨a, b, xs, rfl, rfl, ha, hb, hx, q⟩ := h
  cases (show v = Value.ref a from rx)
  cases (show u = Value.ref b from ry)
  obtain ⟨us, r1, p1, _⟩ := I.list ha
  obtain ⟨ws, r2, p2, _⟩ := I.list hb
  have hsz : us.toArray.size = ws.toArray.size := by
    rw [List.size_toArray, List.size_toArray, ← r1.length, ← r2.length]
  have key := SeqAt.RcNeAt.lists (A := X.A) (e := fun _ => true) p1.isList p2.isList hsz hu fun j h1 h2 => by
    have hj : j < xs.length := by rw [r1.length]; simpa using h1
    obtain ⟨u1, e1, q1⟩ := r1.get (List.getElem?_eq_getElem hj)
    obtain ⟨u2, e2, q2⟩ := r2.get (List.getElem?_eq_getElem hj)
    have g1 : us.toArray[j] = u1 := by
      have : us.toArray[j]? = some u1 := by simpa using e1
      rw [Array.getElem?_eq_getElem h1] at this
      exact Option.some.inj this
    have g2 : ws.toArray[j] = u2 := by
      have : ws.toArray[j]? = some u2 := by simpa using e2
      rw [Array.getElem?_eq_getElem h2] at this
      exact Option.some.inj this
    rw [g1, g2]
    rcases hx _ (List.getElem_mem hj) with hf | ⟨r, hr⟩
    · exact eqAt_same q1 q2 hf
    · rw [hr] at q1 q2
      cases (show u1 = Value.ref r from q1)
      cases (show u2 = Value.ref r from q2)
      exact SeqAt.EqAt.same _
  refine key _ _ _ _ ?_
  rw [show ((List.range us.toArray.size).all fun _ => true) = true from List.all_eq_true.mpr fun _ _ => rfl]
  exact ⟨.bl false, H, I, rfl, q⟩
end
theorem call_dictPK {X : Cx} {K : PySem.W.Frag} (h : X.K = K) (hc : X.calm = true) : CallR X (.type "dict") (fun xs H Q => ∃ (a : Addr) (ps : List Addr) (kvs : List (Key × V)), xs = [.ref a] ∧ SqL K H a (ps.map V.ref) ∧ Paired (fun p kv => SqT K H p [kV kv.1, kv.2]) ps kvs ∧
    ∀ p, H p = none → Q (.ref p) (upd H p (.dK (mergeK [] kvs)))) := by
  subst h
  exact call_dictP hc
theorem paired_imp {α β : Type} {R S : α → β → Prop} (h : ∀ a b, R a b → S a b) : ∀ {as : List α} {bs : List β}, Paired R as bs → Paired S as bs
  | _, _, .nil => .nil
  | _, _, .cons x y => .cons (h _ _ x) (paired_imp h y)
theorem nodup_ix {α : Type} : ∀ {l : List α} {i j : Nat} {a : α}, l.Nodup → l[i]? = some a → l[j]? = some a → i = j
  | x :: l, 0, 0, _, _, _, _ => rfl
  | x :: l, 0, j + 1, a, h, h1, h2 => by
    cases h1
    exact absurd (List.mem_of_getElem? (l := l) (i := j) h2) (List.nodup_cons.mp h).1
  | x :: l, i + 1, 0, a, h, h1, h2 => by
    cases h2
    exact absurd (List.mem_of_getElem? (l := l) (i := i) h1) (List.nodup_cons.mp h).1
  | x :: l, i + 1, j + 1, a, h, h1, h2 => congrArg Nat.succ (nodup_ix (l := l) (List.nodup_cons.mp h).2 h1 h2)
theorem below_eq {y1 y2 x1 x2 : List (Str × Int)} (v1 : ∀ n, val y1 n = val x1 n) (v2 : ∀ n, val y2 n = val x2 n) :
    ((y1.map (·.1) ++ y2.map (·.1)).all fun n => decide (val y1 n ≤ val y2 n)) = ((x1.map (·.1) ++ x2.map (·.1)).filter fun n => decide (val x1 n > val x2 n)).isEmpty := by
  have out : ∀ {a b : List (Str × Int)} {n : Str}, n ∉ a.map (·.1) ++ b.map (·.1) → val a n = 0 ∧ val b n = 0 := fun {a b n} h => ⟨val_out fun z => h (List.mem_append_left _ z), val_out fun z => h (List.mem_append_right _ z)⟩
  rw [Bool.eq_iff_iff, List.all_eq_true, List.isEmpty_iff, List.filter_eq_nil_iff]
  refine ⟨fun h n hn => ?_, fun h n hn => ?_⟩
  · have hle : val y1 n ≤ val y2 n := by
      by_cases z : n ∈ y1.map (·.1) ++ y2.map (·.1)
      · exact of_decide_eq_true (h n z)
      · obtain ⟨a, b⟩ := out z
        omega
    rw [v1, v2] at hle
    simpa using hle
  · refine decide_eq_true ?_
    rw [v1, v2]
    by_cases z : n ∈ x1.map (·.1) ++ x2.map (·.1)
    · have := h n z
      simpa using this
    · obtain ⟨a, b⟩ := out z
      omega
theorem disp_at {O : Hp} {d : Addr} {kvs kv2 : List (Key × V)} (h : O d = none) (e : mergeK [] kvs = kv2) : Same O (upd (upd O d (.dK [])) d (.dK (mergeK [] kvs))) ∧ (upd (upd O d (.dK [])) d (.dK (mergeK [] kvs))) d = some (.dK kv2) := by
  refine ⟨fun b o hb => (upd_ne (ne_of_none hb h)).trans ((upd_ne (ne_of_none hb h)).trans hb), ?_⟩
  rw [upd_same, e]
theorem BadRows.up {K : PySem.W.Frag} {H H' : Hp} {x : V} (s : Same H H') (h : BadRows K H x) : BadRows K H' x := by
  rcases h with ⟨k, v, hk⟩ | ⟨d, kvs, rfl, hd, h5, hl, hb⟩
  · exact .inl ⟨k, v.mono s, hk⟩
  · exact .inr ⟨d, kvs, rfl, s _ _ hd, h5, hl, hb⟩
def litB (p : Key × V) : Bool := (match p.1 with
  | .inl _ => true
  | .inr z => decide (z.length ≤ 5000)) && match p.2 with
  | .non => true
  | .bl _ => true
  | .int _ => true
  | .str z => decide (z.length ≤ 5000)
  | _ => false
theorem lit_of {kvs : List (Key × V)} (h : kvs.all litB = true) : ∀ q ∈ kvs, (∀ z, q.1 = .inr z → z.length ≤ 5000) ∧ litV q.2 := fun q hq => by
  have := List.all_eq_true.mp h q hq
  unfold litB at this
  rw [Bool.and_eq_true] at this
  obtain ⟨h1, h2⟩ := this
  obtain ⟨k, v⟩ := q
  refine ⟨fun z e => ?_, ?_⟩
  · dsimp only at e h1
    rw [e] at h1
    exact of_decide_eq_true h1
  · dsimp only at h2 ⊢
    cases v with
    | non => exact .inl rfl
    | bl b => exact .inr (.inl ⟨b, rfl⟩)
    | int i => exact .inr (.inr (.inl ⟨i, rfl⟩))
    | str z => exact .inr (.inr (.inr ⟨z, rfl, of_decide_eq_true h2⟩))
    | _ => cases h2
theorem put_new {ls : List (Str × Int)} {n : Str} {i : Int} (h : n ∉ ls.map (·.1)) : putI ls n i = ls ++ [(n, i)] := by
  unfold putI
  rw [lk_none h]
  rfl
theorem merge_app : ∀ (bs as : List (Str × Int)), ((as ++ bs).map (·.1)).Nodup → mergeK (as.map kvI) (bs.map kvI) = (as ++ bs).map kvI
  | [], as, _ => by rw [List.append_nil]; rfl
  | b :: bs, as, h => by
    have e : as ++ b :: bs = (as ++ [b]) ++ bs := by simp
    have hn : b.1 ∉ as.map (·.1) := by
      rw [List.map_append, List.nodup_append] at h
      exact fun z => h.2.2 _ z _ (by simp) rfl
    show mergeK (putK (as.map kvI) (kvI b).1 (kvI b).2) (bs.map kvI) = _
    rw [show putK (as.map kvI) (kvI b).1 (kvI b).2 = (as ++ [b]).map kvI from by
      show putK (as.map kvI) (Sum.inr b.1) (V.int b.2) = _
      rw [putK_I, put_new hn]]
    rw [e] at h ⊢
    exact merge_app bs (as ++ [b]) h
theorem merge_I {rs : List (Str × Int)} (h : OkL rs) : mergeK [] (rs.map kvI) = rs.map kvI := by
  have := merge_app rs [] (by simpa using h.nd)
  simpa using this
theorem eqI_refl {rs : List (Str × Int)} (h : OkL rs) : eqI rs rs = true := by
  unfold eqI
  rw [Bool.and_eq_true]
  exact ⟨beq_self_eq_true _, List.all_eq_true.mpr fun p hp => decide_eq_true (lk_of_mem h.nd hp)⟩
/-- the heap without some addresses -/
def msk (qs : List Addr) (H : Hp) : Hp := fun b => if b ∈ qs then none else H b
section
variable {qs : List Addr} {H H' : Hp} {a : Addr} {o : HO}
theorem msk_same : Same (msk qs H) H := fun b u e => by
  unfold msk at e
  split at e
  · cases e
  · exact e
theorem msk_up (s : Same H H') : Same (msk qs H) (msk qs H') := fun b u e => by
  unfold msk at e ⊢
  split at e
  · cases e
  · rename_i h
    rw [if_neg h]
    exact s _ _ e
theorem msk_at (h : a ∉ qs) (e : H a = some o) : msk qs H a = some o := by
  unfold msk
  rw [if_neg h]
  exact e
theorem msk_put (h : a ∈ qs) : msk qs (upd H a o) = msk qs H := by
  funext b
  unfold msk
  split
  · rfl
  · rename_i z
    exact upd_ne (fun w => z (by rw [w]; exact h))
theorem msk_more {q : Addr} (h : H q = none) : Same (msk qs H) (msk (qs ++ [q]) H) := fun b u e => by
  unfold msk at e ⊢
  split at e
  · cases e
  · rename_i z
    rw [if_neg]
    · exact e
    · intro w
      rcases List.mem_append.mp w with w | w
      · exact z w
      · rw [List.mem_singleton.mp w, h] at e
        cases e
end
def spLaw (K : PySem.W.Frag) : Sp := fun vs H Q _ => ∃ (a : Addr) (ns : List Int), vs = [.ref a] ∧ SqL K H a (ns.map V.int) ∧ ns.length ≤ 63 ∧ ∀ H', Q (.bl true) H'
/-- what the law knows of the drawn dicts -/
def Dr (G : Hp) (ds : List (Addr × List (Str × Int))) : Prop := ∀ x ∈ ds, DicAt G x.1 x.2 ∧ ∀ n, (val x.2 n).natAbs ≤ 10 ^ 30
theorem Dr.up {G G' : Hp} {ds : List (Addr × List (Str × Int))} (s : Same G G') (h : Dr G ds) : Dr G' ds := fun x hx => ⟨(h x hx).1.up s, (h x hx).2⟩
theorem Dr.add {G : Hp} {ds : List (Addr × List (Str × Int))} {q : Addr} {rs : List (Str × Int)} (h : Dr G ds) (h1 : DicAt G q rs) (h2 : ∀ n, (val rs n).natAbs ≤ 10 ^ 30) : Dr G (ds ++ [(q, rs)]) := fun x hx => by
  rcases List.mem_append.mp hx with z | z
  · exact h x z
  · rw [List.mem_singleton.mp z]
    exact ⟨h1, h2⟩

theorem Dr.keep {M M1 : Hp} {p : Addr} {n : Nat} {ds : List (Addr × List (Str × Int))} (b : BoxAt M p n) (k : Keep p M M1) (h : Dr M ds) : Dr M1 ds := fun x hx => by
  obtain ⟨⟨h1, h2⟩, h3⟩ := h x hx
  obtain ⟨_, _, _, e, _⟩ := b
  exact ⟨⟨k _ _ (fun z => by rw [z, e] at h1; cases h1) h1, h2⟩, h3⟩
theorem Dr.putl {M : Hp} {D : Addr} {xs ys : List V} {ds : List (Addr × List (Str × Int))} (hD : M D = some (.lst xs)) (h : Dr M ds) : Dr (upd M D (.lst ys)) ds := fun x hx => by
  obtain ⟨⟨h1, h2⟩, h3⟩ := h x hx
  exact ⟨⟨(upd_ne fun z => by rw [z, hD] at h1; cases h1).trans h1, h2⟩, h3⟩
theorem same_nn {G M : Hp} {D : Addr} (s : Same G M) (e : M D = none) : G D = none := by
  cases h : G D with
  | none => rfl
  | some o => rw [s _ _ h] at e; cases e

section
variable {P : Program} {w : World} {K : PySem.W.Frag} {mg : Str → Option Value} {base : Heap} {f : Addr} {fd : FuncData}

abbrev sWl : Stmt := top 23
abbrev nWl : List Str := ["_law_script", "_law_index", "_law_bag_here", "_law_drawn_here", "_law_rows_here", "_law_passed", "_law_made", "_law_given", "_law_one", "_law_left", "_law_other", "_law_right_here", "_law_below", "_law_odds", "_law_odd", "_law_turn", "_law_name"]
theorem scWl : FnScope nWl ["_law_script"] (defScope sWl) := ⟨rfl, rfl, rfl, by decide +kernel, rfl, by decide +kernel, by decide +kernel⟩

theorem ok_law {C CEe CL CN : Addr} (F : Fun K "law" "law" sWl f fd) (S : Sm K) (T : TxtW mg) (TB : TxtLg K C) (T2 : TxtL2 K C) (CE : Cg P w K mg base 1 "_law_cell" (spCellT K)) (BG : Cg P w K mg base 1 "_law_bag" spBox) (TK : Cg P w K mg base 1 "_law_take" spTake) (DR : Cg P w K mg base 2 "_law_drawn" spDrawn) (LR : Cg P w K mg base 1 "_law_rows" spLRows) (JO : Cg P w K mg base 2 "_law_joined" spJoin) (CA : Cg P w K mg base 5 "_law_caught" (spCaught K)) (RI : Cg P w K mg base 7 "_law_right" (spRight C))
    (RW : Ct P w K mg base 1 C "rows" [] (spRows C)) (CM : Cmr P w K mg base 3 "Lags" C [] (spInit K C CL)) (AB : Ct P w K mg base 5 C "__abs__" [] (spAbs C)) (EQ : Ct P w K mg base 1 C "__eq__" [] (spEqL K C)) (BL : Ct P w K mg base 5 C "is_below" [] (spBelow C))
    (OR : Ct P w K mg base 5 C "__or__" [] (spBin C (fun a b => if b > a then b else a))) (AN : Ct P w K mg base 5 C "__and__" [] (spBin C (fun a b => if b < a then b else a))) (AD : Ct P w K mg base 5 C "__add__" [] (spBin C (fun a b => a + b))) (SU : Ct P w K mg base 5 C "__sub__" [] (spBin C (fun a b => a - b))) : FnG P w K mg base CX0 8 f fd ["_law_script"] (spLaw K) := by
  refine FunG.ok F scWl (fun vs H Q E h => ?_) (fun cdv B out s H vs Q E hr hG h => ?_)
  · obtain ⟨a, ns, rfl, _⟩ := h
    rfl
  · obtain ⟨a, ns, rfl, hS, hl, q⟩ := h
    refine ⟨_, (pss_cons (ps_for PassesOwn.never rfl (pi_range1 (by rfl) T.range (pa_cons (pe_callB (call_max2 rfl) (by rfl) T.max (by decide +kernel) (pa_cons pe_int (pa_cons (pe_callB (call_min2 rfl) (by rfl) T.min (by decide +kernel) (pa_cons pe_int (pa_cons (pe_callB call_len (by rfl) T.len PySem.boot_len (pa_cons (pv 0) pa_nil)) pa_nil))) pa_nil))) pa_nil)) (pg_name (i := 1) scWl.nd rfl (Or.inl rfl)) (pss_cons (ps_set (i := 2) scWl.nd rfl (.inr rfl) (pe_g BG hr hG (by decide) (by rfl) (pa_cons (pe_g CE hr hG (by decide) (by rfl) (pa_cons (pv 0) (pa_cons (pv 1) pa_nil))) pa_nil)))
        (pss_cons (ps_setLc (i := 3) (own := [("_law_turn", 15)]) (g := gName 15) (tt := tYes) rfl scWl.nd rfl rfl (sw_true rfl rfl rfl (by decide +kernel)) (pi_range1 (by rfl) T.range (pa_cons (pe_op op_add pe_int (pe_g TK hr hG (by decide) (by rfl) (pa_cons (pv 2) (pa_cons pe_int pa_nil)))) pa_nil)) (blkOk_by (N := nWl) (sc := defScope sWl) (by decide +kernel)) (fun _ _ _ _ _ => pg_name (i := 15) scWl.nd rfl (Or.inl rfl)) (fun _ _ _ _ _ => pts_nil) (fun _ _ _ _ _ => (pe_g DR hr hG (by decide) (by rfl) (pa_cons (pv 2) pa_nil))))
        (pss_cons (ps_setLc (i := 5) (own := [("_law_rows_here", 4)]) (g := gName 4) (tt := tYes) rfl scWl.nd rfl rfl (sw_true rfl rfl rfl (by decide +kernel)) (pi_list (pv 3)) (blkOk_by (N := nWl) (sc := defScope sWl) (by decide +kernel)) (fun _ _ _ _ _ => pg_name (i := 4) scWl.nd rfl (Or.inl rfl)) (fun _ _ _ _ _ => pts_nil) (fun _ _ _ _ _ => (pe_callTy (call_dictPK (K := K) rfl rfl) (by rfl) T.dict (by decide +kernel) (pa_cons (LiI.pe_listItems rfl (pv 4) (by rfl) T.list (by decide +kernel)) pa_nil))))
        (pss_cons (ps_setLc (i := 6) (own := [("_law_rows_here", 4)]) (g := gName 4) (tt := tYes) rfl scWl.nd rfl rfl (sw_true rfl rfl rfl (by decide +kernel)) (pi_list (pv 5)) (blkOk_by (N := nWl) (sc := defScope sWl) (by decide +kernel)) (fun _ _ _ _ _ => pg_name (i := 4) scWl.nd rfl (Or.inl rfl)) (fun _ _ _ _ _ => pts_nil) (fun _ _ _ _ _ => (pe_cmr CM hr hG (by decide) takes0 (by rfl) (pa_cons (pv 4) pa_nil))))
        (pss_cons (ps_for PassesOwn.never rfl (pi_zip (by rfl) T.zip (pa_cons (pv 5) (pa_cons (pv 3) pa_nil))) (pg_tup rfl (pgs_cons (pg_name (i := 4) scWl.nd rfl (Or.inl rfl)) (pgs_cons (pg_name (i := 7) scWl.nd rfl (Or.inl rfl)) pgs_nil))) (pss_cons (ps_if (PW.pt (pw_or (pt_cmpR (op_neDI (hu_of2 hr)) (pv 4) (pv 7) (nomark _)) (pw_or1 (pt_cmpR (op_neD hr.units) (pe_callTy (call_listD rfl) (by rfl) T.list (by decide +kernel) (pa_cons (pv 4) pa_nil)) (pe_callTy (call_listD rfl) (by rfl) T.list (by decide +kernel) (pa_cons (pv 7) pa_nil)) (nomark _))))) (pss_one (ps_ret pe_bl)) pss_nil)
          (pss_one (ps_dput (hu_of hr) (pv 4) pe_str pe_int rfl))))
        (pss_cons (ps_for PassesOwn.never rfl (pi_zip (by rfl) T.zip (pa_cons (pv 6) (pa_cons (pv 3) pa_nil))) (pg_tup rfl (pgs_cons (pg_name (i := 8) scWl.nd rfl (Or.inl rfl)) (pgs_cons (pg_name (i := 9) scWl.nd rfl (Or.inr rfl)) pgs_nil))) (pss_cons (ps_for PassesOwn.never rfl (pi_zip (by rfl) T.zip (pa_cons (pv 6) (pa_cons (pv 3) pa_nil))) (pg_tup rfl (pgs_cons (pg_name (i := 10) scWl.nd rfl (Or.inl rfl)) (pgs_cons (pg_name (i := 11) scWl.nd rfl (Or.inr rfl)) pgs_nil))) (pss_cons (ps_if (pt_not (pt_val (pe_g RI hr hG (by decide) (by rfl) (pa_cons (pe_op (op_binO (op := .BitOr) (n := "__or__") OR TB.sf (by rfl) (hr.mono (by decide)) hG) (pv 8) (pv 10)) (pa_cons (pe_g JO hr hG (by decide) (by rfl) (pa_cons (pv 9) (pa_cons (pv 11) (pa_cons pe_int pa_nil)))) pa_nil))))) (pss_one (ps_ret pe_bl)) pss_nil)
            (pss_cons (ps_if (pt_not (pt_val (pe_g RI hr hG (by decide) (by rfl) (pa_cons (pe_op (op_binO (op := .BitAnd) (n := "__and__") AN TB.sf (by rfl) (hr.mono (by decide)) hG) (pv 8) (pv 10)) (pa_cons (pe_g JO hr hG (by decide) (by rfl) (pa_cons (pv 9) (pa_cons (pv 11) (pa_cons pe_int pa_nil)))) pa_nil))))) (pss_one (ps_ret pe_bl)) pss_nil)
            (pss_cons (ps_if (pt_not (pt_val (pe_g RI hr hG (by decide) (by rfl) (pa_cons (pe_op (op_binO (op := .Add) (n := "__add__") AD TB.sf (by rfl) (hr.mono (by decide)) hG) (pv 8) (pv 10)) (pa_cons (pe_g JO hr hG (by decide) (by rfl) (pa_cons (pv 9) (pa_cons (pv 11) (pa_cons pe_int pa_nil)))) pa_nil))))) (pss_one (ps_ret pe_bl)) pss_nil)
            (pss_cons (ps_if (pt_not (pt_val (pe_g RI hr hG (by decide) (by rfl) (pa_cons (pe_op (op_binO (op := .Sub) (n := "__sub__") SU TB.sf (by rfl) (hr.mono (by decide)) hG) (pv 8) (pv 10)) (pa_cons (pe_g JO hr hG (by decide) (by rfl) (pa_cons (pv 9) (pa_cons (pv 11) (pa_cons pe_int pa_nil)))) pa_nil))))) (pss_one (ps_ret pe_bl)) pss_nil)
            (pss_cons (ps_setLc (i := 12) (own := [("_law_name", 16)]) (g := gName 16) rfl scWl.nd rfl rfl (sw_true rfl rfl rfl (by decide +kernel)) (pi_list (pe_op op_cat (pe_callTy (call_listD rfl) (by rfl) T.list (by decide +kernel) (pa_cons (pv 9) pa_nil)) (pe_callTy (call_listD rfl) (by rfl) T.list (by decide +kernel) (pa_cons (pv 11) pa_nil)))) (blkOk_by (N := nWl) (sc := defScope sWl) (by decide +kernel)) (fun _ _ _ _ _ => pg_name (i := 16) scWl.nd rfl (Or.inl rfl)) (fun _ _ _ _ _ => (pts_one (pt_cmpR op_gt (pe_dget2 (hu_of hr) (pv 9) (pv 16) pe_int ⟨rfl, rfl, rfl, rfl⟩) (pe_dget2 (hu_of hr) (pv 11) (pv 16) pe_int ⟨rfl, rfl, rfl, rfl⟩) (nomark _)))) (fun _ _ _ _ _ => (pv 16)))
            (pss_one (ps_if (PW.pt (pw_or (pt_cmpR op_ne (pe_ct (pv 8) BL hr hG (by decide) (pa_cons (pv 10) pa_nil)) (pe_cmpR (op_eqD hr.units) (pv 12) (pe_lst pa_nil) (nomark _)) (nomark _)) (pw_or1 (pt_cmpR op_ne (pe_cmpR (op_eqO EQ (hr.mono (by decide)) hG) (pv 8) (pv 10) (nomark _)) (pe_cmpR (op_eqDI (hu_of2 hr)) (pe_g LR hr hG (by decide) (by rfl) (pa_cons (pv 9) pa_nil)) (pe_g LR hr hG (by decide) (by rfl) (pa_cons (pv 11) pa_nil)) (nomark _)) (nomark _))))) (pss_one (ps_ret pe_bl)) pss_nil))))))))
          (pss_one (ps_if (pt_not (pt_val (pe_g RI hr hG (by decide) (by rfl) (pa_cons (pv 8) (pa_cons (pv 9) pa_nil))))) (pss_one (ps_ret pe_bl)) pss_nil))))
        (pss_cons (ps_set (i := 13) scWl.nd rfl (.inl rfl) (pe_lst (pa_cons (pe_disp (pps_cons pe_str pe_int pps_nil) (by rfl) (by rfl) (fun z => by cases z) (by decide)) (pa_cons (pe_disp (pps_cons pe_str pe_bl pps_nil) (by rfl) (by rfl) (fun z => by cases z) (by decide)) (pa_cons (pe_disp (pps_cons pe_str pe_non pps_nil) (by rfl) (by rfl) (fun z => by cases z) (by decide)) (pa_cons (pe_disp (pps_cons pe_int pe_int pps_nil) (by rfl) (by rfl) (fun z => by cases z) (by decide)) (pa_cons (pe_disp (pps_cons pe_str pe_int (pps_cons pe_str pe_int pps_nil)) (by rfl) (by rfl) (fun z => by cases z) (by decide)) (pa_cons (pe_disp (pps_cons pe_str pe_str pps_nil) (by rfl) (by rfl) (fun z => by cases z) (by decide)) (pa_cons (pe_ix ix_list (pv 6) pe_int fun _ _ => rfl) pa_nil)))))))))
        (pss_cons (ps_for PassesOwn.never rfl (pi_list (pe_op op_cat (pe_lst (pa_cons pe_non (pa_cons pe_bl (pa_cons pe_int (pa_cons pe_str (pa_cons (pe_lst pa_nil) pa_nil)))))) (pv 13))) (pg_name (i := 14) scWl.nd rfl (Or.inl rfl)) (pss_one (ps_if (pt_cmpR (op_neSame (hu_of2 hr)) (pe_g CA hr hG (by decide) (by rfl) (pa_cons pe_int (pa_cons (pv 14) pa_nil))) (pe_lst (pa_cons pe_str (pa_cons (pv 14) (pa_cons pe_bl pa_nil)))) (nomark _)) (pss_one (ps_ret pe_bl)) pss_nil)))
        (pss_one (ps_for PassesOwn.never rfl (pi_list (pe_lst (pa_cons pe_non (pa_cons pe_bl (pa_cons pe_int (pa_cons pe_str (pa_cons pe_str (pa_cons pe_str (pa_cons (pe_lst pa_nil) (pa_cons (pe_lst (pa_cons pe_str pa_nil)) (pa_cons pe_dnewK pa_nil))))))))))) (pg_name (i := 14) scWl.nd rfl (Or.inl rfl)) (pss_one (ps_if (pt_cmpR op_ne (pe_callB (call_reprD S hr hG) (by rfl) T.repr (by decide +kernel) (pa_cons (pe_g CA hr hG (by decide) (by rfl) (pa_cons pe_int (pa_cons (pv 14) pa_nil))) pa_nil)) (pe_callB (call_reprD S hr hG) (by rfl) T.repr (by decide +kernel) (pa_cons (pe_lst (pa_cons pe_str (pa_cons (pv 14) (pa_cons pe_bl pa_nil)))) pa_nil)) (nomark _)) (pss_one (ps_ret pe_bl)) pss_nil)))))))))))))
      (pss_one (ps_ret (pe_and (pe_cmpR (op_eqDI (hu_of2 hr)) (pe_ct0 (pe_cmr CM hr hG (by decide) takes0 (by rfl) (pa_cons pe_dnewK pa_nil)) RW hr hG (by decide)) pe_dnewK (nomark _)) (pe_and (pe_cmpR op_eq (pe_callB (call_absO AB (hr.mono (by decide)) hG) (by rfl) T.abs (by decide +kernel) (pa_cons (pe_cmr CM hr hG (by decide) takes0 (by rfl) (pa_cons (pe_disp (pps_cons pe_str pe_int pps_nil) (by rfl) (by rfl) (fun z => by cases z) (by decide)) pa_nil)) pa_nil)) pe_int (nomark _)) (pe_one (pe_cmpR (op_eqO EQ (hr.mono (by decide)) hG) (pe_cmr CM hr hG (by decide) takes0 (by rfl) (pa_cons pe_dnewK pa_nil)) (pe_cmr CM hr hG (by decide) takes0 (by rfl) (pa_cons (pe_disp (pps_cons pe_str pe_int pps_nil) (by rfl) (by rfl) (fun z => by cases z) (by decide)) pa_nil)) (nomark _)))))))), ?_⟩
    refine ⟨_, rfl, _, _, rfl, .inl ⟨_, hS, rfl⟩, _, _, rfl, _, _, rfl, ?_⟩
    obtain ⟨M, eM, hM1, hM2⟩ : ∃ M : Int, M = (if (if (((ns.map V.int).length : Nat) : Int) < 8 then (((ns.map V.int).length : Nat) : Int) else 8) > 2 then (if (((ns.map V.int).length : Nat) : Int) < 8 then (((ns.map V.int).length : Nat) : Int) else 8) else 2) ∧ 0 ≤ M ∧ M ≤ 8 := ⟨_, rfl, by split <;> omega, by split <;> (try split) <;> omega⟩
    rw [← eM]
    refine ⟨_, rfl, by omega, by omega, ?_⟩
    refine for_it (walk_range (lo := 0) (n := M.toNat)) (fun j σ G => Same H G ∧ ∃ o1 o2 o3 o4 o5 o6 o7 o8 o9 o10 o11 o12 o13 o14 o15 o16, σ = [some (.ref a), o1, o2, o3, o4, o5, o6, o7, o8, o9, o10, o11, o12, o13, o14, o15, o16])
      ⟨Same.refl _, _, _, _, _, _, _, _, _, _, _, _, _, _, _, _, _, rfl⟩ (fun _ _ _ _ _ => trivial) ?_ ?_
    · rintro i x σ G0 G hi ⟨sm, o1, o2, o3, o4, o5, o6, o7, o8, o9, o10, o11, o12, o13, o14, o15, o16, rfl⟩ ⟨rfl, hx⟩
      dsimp only at hx
      rw [Int.zero_add] at hx
      subst hx
      dsimp only [gName]
      refine ⟨_, rfl, _, rfl, a, ns, i, rfl, SqL.up sm hS, by omega, by omega, fun z => ⟨z, rfl, fun p G1 hp b1 kp1 => ?_⟩⟩
      dsimp only [gName]
      have sG1 : Same G G1 := fun b o h => kp1 b o (ne_of_none h hp) h
      refine ⟨_, rfl, p, 3, 0, rfl, b1, by decide, by decide, by omega, fun d G2 a0 a1 b2 k2 => ⟨_, _, rfl, rfl, _, rfl, by omega, by omega, fun D hD => ?_⟩⟩
      have sG2 : Same G G2 := fun b o h => (k2 b (ne_of_none h hp)).trans (sG1 b o h)
      have hDG := same_nn sG2 hD
      have pD : p ≠ D := b2.ne hD
      refine lc_range (lo := 0) (n := (2 + d).toNat) (fun j M => BoxAt M p (1 + 41 * j) ∧ Same G M ∧ ∃ ds : List (Addr × List (Str × Int)), M D = some (.lst (ds.map fun x => V.ref x.1)) ∧ ds.length = j ∧ Dr M ds)
        ⟨(b2.new hD).mono (by omega), Same.tr sG2 (Same.put hD), [], upd_same, rfl, fun x hx => absurd hx List.not_mem_nil⟩ ?_ ?_
      · rintro j M hj ⟨mb, ms, ds, mD, ml, md⟩
        refine ⟨rfl, _, rfl, p, _, rfl, mb, by omega, fun M1 q1 rs b3 k3 hq1 hdq hbd => ?_⟩
        have mD1 := k3 D _ pD.symm mD
        have ms1 : Same G M1 := fun b o h => k3 b o (ne_of_none h hp) (ms b o h)
        refine ⟨_, mD1, by rw [List.length_map, PySem.sizeLine_eq]; omega, (b3.mono (by omega)).put pD.symm, fun b o h => (upd_ne (ne_of_none h hDG)).trans (ms1 b o h), ds ++ [(q1, rs)], ?_, ?_, ?_⟩
        · rw [upd_same, List.map_append]
          rfl
        · rw [List.length_append, ml]
          rfl
        · exact Dr.putl mD1 ((md.keep mb k3).add hdq hbd)
      rintro M ⟨mb, ms, ds, mD, ml, md⟩
      have hdl : 2 ≤ ds.length ∧ ds.length ≤ 4 := by omega
      dsimp only [gName]
      -- passed
      refine ⟨_, rfl, D, rfl, ⟨_, SqL.of mD⟩, fun E hE => ?_⟩
      have DE := ne_of_none mD hE
      have hMq : ∀ x ∈ ds, M x.1 ≠ none := fun x hx => by rw [(md x hx).1.1]; exact fun z => by cases z
      refine lc_it (walk_list (xs := ds.map fun x => V.ref x.1)) (fun j N => Same M N ∧ ∃ qs : List Addr, N E = some (.lst (qs.map V.ref)) ∧ qs.length = j ∧ qs.Nodup ∧ (∀ q ∈ qs, M q = none ∧ q ≠ E) ∧ ∀ (k : Nat) (q : Addr) (x : Addr × List (Str × Int)), qs[k]? = some q → ds[k]? = some x → N q = some (.dK (x.2.map kvI)))
        ⟨Same.put hE, [], upd_same, rfl, List.nodup_nil, fun q hq => absurd hq List.not_mem_nil, fun k q x e => by cases e⟩ (fun _ _ _ h => SqL.of (h.1 _ _ mD)) ?_ ?_
      · rintro j x N0 N hj ⟨sN, qs, hNE, hql, hqn, hqm, hqd⟩ ⟨rfl, hx⟩
        rw [List.getElem?_map] at hx
        obtain ⟨x, hx2, rfl⟩ := Option.map_eq_some_iff.mp hx
        have hdx := ((md x (List.mem_of_getElem? hx2)).1).up sN
        refine ⟨rfl, _, rfl, x.1, x.2.map kvI, rfl, hdx.1, fun N1 p2 ts s1 hp2 hts hnt hl1 hpd => ⟨p2, ts, x.2.map kvI, rfl, SqL.of hl1, paired_imp (fun _ _ h => SqT.of h) hpd, fun q hq => ?_⟩⟩
        rw [merge_I hdx.2]
        have hNE1 := s1 _ _ hNE
        have sM1 := Same.tr sN s1
        have nqE : q ≠ E := fun z => by rw [z, hNE1] at hq; cases hq
        have hqM := same_nn sM1 hq
        have hq1 : ∀ q' ∈ qs, q' ≠ q := fun q' hq' z => by
          obtain ⟨k, hk⟩ := List.mem_iff_getElem?.mp hq'
          have hkl : k < ds.length := by
            have := (List.getElem?_eq_some_iff.mp hk).1
            have : j < ds.length := by simpa using hj
            omega
          have := s1 _ _ (hqd k q' _ hk (List.getElem?_eq_getElem hkl))
          rw [z, hq] at this
          cases this
        have hNE2 : upd N1 q (.dK (x.2.map kvI)) E = some (.lst (qs.map V.ref)) := (upd_ne nqE.symm).trans hNE1
        have hjd : j < ds.length := by simpa using hj
        refine ⟨_, hNE2, by rw [List.length_map, hql, PySem.sizeLine_eq]; omega, ?_, qs ++ [q], ?_, by rw [List.length_append, hql]; rfl, ?_, ?_, ?_⟩
        · intro b o h
          exact (upd_ne (ne_of_none h hE)).trans ((upd_ne (ne_of_none h hqM)).trans (sM1 b o h))
        · rw [upd_same, List.map_append]
          rfl
        · exact List.nodup_append.mpr ⟨hqn, by simp, fun a ha b hb => by rw [List.mem_singleton.mp hb]; exact hq1 a ha⟩
        · intro q' hq'
          rcases List.mem_append.mp hq' with w | w
          · exact hqm q' w
          · rw [List.mem_singleton.mp w]
            exact ⟨hqM, nqE⟩
        · intro k q' y hk hy
          rw [List.getElem?_append] at hk
          split at hk
          · rename_i hkl
            have hq'E := (hqm q' (List.mem_of_getElem? hk)).2
            exact (upd_ne hq'E).trans ((upd_ne (hq1 q' (List.mem_of_getElem? hk))).trans (s1 _ _ (hqd k q' y hk hy)))
          · rename_i hkl
            have hk0 : k - qs.length = 0 := by
              have := (List.getElem?_eq_some_iff.mp hk).1
              simpa using this
            have ek : k = j := by omega
            rw [hk0] at hk
            cases hk
            rw [ek, hx2] at hy
            cases hy
            exact (upd_ne nqE).trans upd_same
      rintro N ⟨sN, qs, hNE, hql, hqn, hqm, hqd⟩
      rw [List.length_map] at hql
      have hND := sN _ _ mD
      have hqt : ∀ q ∈ qs, ∃ x : List (Str × Int), N q = some (.dK (x.map kvI)) := fun q hq => by
        obtain ⟨k, hk⟩ := List.mem_iff_getElem?.mp hq
        have hkl : k < ds.length := by
          have := (List.getElem?_eq_some_iff.mp hk).1
          omega
        exact ⟨_, hqd k q _ hk (List.getElem?_eq_getElem hkl)⟩
      dsimp only [gName]
      -- made
      refine ⟨_, rfl, E, rfl, ⟨_, SqL.of hNE⟩, fun E2 hE2 => ?_⟩
      have sGN := Same.tr ms sN
      refine lc_it (walk_list (xs := qs.map V.ref)) (fun j L => Same N L ∧ ∃ mk : List (Addr × List (Str × Int)), L E2 = some (.lst (mk.map fun x => V.ref x.1)) ∧ mk.length = j ∧ (∀ y ∈ mk, y.1 ≠ E2) ∧ ∀ (k : Nat) (y x : Addr × List (Str × Int)), mk[k]? = some y → ds[k]? = some x → LagAt (msk (qs ++ [E2]) L) C y.1 y.2 ∧ ∀ n, val y.2 n = val x.2 n)
        ⟨Same.put hE2, [], upd_same, rfl, fun y hy => absurd hy List.not_mem_nil, fun k y x e => by cases e⟩ (fun _ _ _ h => SqL.of (h.1 _ _ hNE)) ?_ ?_
      · rintro j x L0 L hj ⟨sL, mk, hLE, hml, hme, hmd⟩ ⟨rfl, hx⟩
        rw [List.getElem?_map] at hx
        obtain ⟨q, hq, rfl⟩ := Option.map_eq_some_iff.mp hx
        have hjd : j < ds.length := by
          have : j < qs.length := by simpa using hj
          omega
        have hLq := sL _ _ (hqd j q _ hq (List.getElem?_eq_getElem hjd))
        have okx := (md _ (List.getElem_mem hjd)).1.2
        refine ⟨rfl, _, rfl, fun r dr hr1 hr2 hne => ?_⟩
        have n1 : q ≠ r := ne_of_none hLq hr1
        have n2 : q ≠ dr := ne_of_none hLq hr2
        refine ⟨r, dr, .ref q, rfl, upd_same, .inr (.inr ⟨q, _, rfl, n1, (upd_ne n1).trans ((upd_ne n2).trans hLq), okx, fun L1 ls kp hL hfr hv => ⟨rfl, ?_⟩⟩)⟩
        have sL1 := made_same (Same.refl L) hr1 hr2 kp
        have hLE1 := sL1 _ _ hLE
        have hr2n : r ≠ E2 := fun z => by rw [z, hLE] at hr1; cases hr1
        refine ⟨_, hLE1, by rw [List.length_map, hml, PySem.sizeLine_eq]; omega, fun b o h => (upd_ne (ne_of_none h hE2)).trans (sL1 _ _ (sL b o h)), mk ++ [(r, ls)], ?_, by rw [List.length_append, hml]; rfl, ?_, ?_⟩
        · rw [upd_same, List.map_append]
          rfl
        · intro y hy
          rcases List.mem_append.mp hy with w | w
          · exact hme y w
          · rw [List.mem_singleton.mp w]
            exact hr2n
        · intro k y x hk hy
          rw [msk_put (List.mem_append_right _ (List.mem_singleton.mpr rfl))]
          rw [List.getElem?_append] at hk
          split at hk
          · obtain ⟨h1, h2⟩ := hmd k y x hk hy
            exact ⟨h1.up (msk_up sL1), h2⟩
          · have hk0 : k - mk.length = 0 := by
              have := (List.getElem?_eq_some_iff.mp hk).1
              simpa using this
            have ek : k = j := by omega
            rw [hk0] at hk
            cases hk
            rw [ek, List.getElem?_eq_getElem hjd] at hy
            cases hy
            refine ⟨?_, hv⟩
            obtain ⟨dx', d', fs', g1, g2, g3, g4, g5⟩ := hL
            have hd' := hfr _ _ _ g1 g2
            have hd2 : L d' = none := by
              cases e : L d' with
              | none => rfl
              | some o =>
                rw [upd_ne (ne_of_none e hr1), upd_ne (ne_of_none e hr2), e] at hd'
                cases hd'
            have out : ∀ b, L b = none → b ∉ qs ++ [E2] := fun b hb hm => by
              rcases List.mem_append.mp hm with w | w
              · obtain ⟨x', hx'⟩ := hqt b w
                rw [sL _ _ hx'] at hb
                cases hb
              · rw [List.mem_singleton.mp w, hLE] at hb
                cases hb
            exact ⟨dx', d', fs', msk_at (out _ hr1) g1, g2, g3, msk_at (out _ hd2) g4, g5⟩
      rintro L ⟨sL, mk, hLE, hml, hme, hmd⟩
      rw [List.length_map, hql] at hml
      have hLN := sL _ _ hNE
      have hLD := sL _ _ hND
      dsimp only [gName]
      have hqE2 : ∀ q ∈ qs, q ≠ E2 := fun q hq z => by
        obtain ⟨x', hx'⟩ := hqt q hq
        rw [z, hE2] at hx'
        cases hx'
      have outZ : ∀ b o, M b = some o → b ∉ qs ++ [E2] := fun b o hb hm => by
        rcases List.mem_append.mp hm with w | w
        · rw [(hqm b w).1] at hb
          cases hb
        · rw [List.mem_singleton.mp w] at hb
          rw [sN _ _ hb] at hE2
          cases hE2
      have outE : E ∉ qs ++ [E2] := fun hm => by
        rcases List.mem_append.mp hm with w | w
        · exact (hqm E w).2 rfl
        · rw [← List.mem_singleton.mp w, hNE] at hE2
          cases hE2
      have ZG : Same M (msk (qs ++ [E2]) L) := fun b o h => msk_at (outZ b o h) (sL _ _ (sN _ _ h))
      have ZE : msk (qs ++ [E2]) L E = some (.lst (qs.map V.ref)) := msk_at outE hLN
      have hqL : ∀ (k : Nat) (q : Addr) (x : Addr × List (Str × Int)), qs[k]? = some q → ds[k]? = some x → L q = some (.dK (x.2.map kvI)) := fun k q x h1 h2 => sL _ _ (hqd k q x h1 h2)
      clear sL hLN hLD hNE hND hqd hqt sGN
      generalize hZ : qs ++ [E2] = Z at *
      have qZ : ∀ q ∈ qs, q ∈ Z := fun q hq => by rw [← hZ]; exact List.mem_append_left _ hq
      -- the passed ones are as the drawn ones
      refine ⟨_, rfl, _, rfl, E, D, qs.map V.ref, ds.map (fun x => V.ref x.1), rfl, SqL.of (msk_same _ _ ZE), SqL.of (msk_same _ _ (ZG _ _ mD)), ?_⟩
      refine for_it (walk_zip (n := ds.length) (by rw [List.length_map, List.length_map, hql]; omega)) (fun j σ N => Same (msk Z L) (msk Z N) ∧ N E2 = some (.lst (mk.map fun x => V.ref x.1)) ∧ (∀ q ∈ qs, N q ≠ none) ∧ (∀ (k : Nat) (q : Addr) (x : Addr × List (Str × Int)), j ≤ k → qs[k]? = some q → ds[k]? = some x → N q = some (.dK (x.2.map kvI))) ∧ ∃ p4 p7, σ = [some (.ref a), some (.int (i : Nat)), some (.ref p), some (.ref D), p4, some (.ref E), some (.ref E2), p7, o8, o9, o10, o11, o12, o13, o14, o15, o16])
        ⟨Same.refl _, hLE, fun q hq => ?_, fun k q x _ h1 h2 => hqL k q x h1 h2, _, _, rfl⟩ (fun _ _ _ _ h => ⟨SqL.of (msk_same _ _ (h.1 _ _ ZE)), SqL.of (msk_same _ _ (h.1 _ _ (ZG _ _ mD)))⟩) ?_ ?_
      · obtain ⟨k, hk⟩ := List.mem_iff_getElem?.mp hq
        have hkl : k < ds.length := by
          have := (List.getElem?_eq_some_iff.mp hk).1
          omega
        rw [hqL k q _ hk (List.getElem?_eq_getElem hkl)]
        exact fun z => by cases z
      · rintro j x σ N0 N hj ⟨sZ, hNE2, hqn', hqj, p4, p7, rfl⟩ ⟨t, x0, y, rfl, ht, rfl, h0, h1⟩
        dsimp only at h0 h1
        rw [List.getElem?_map] at h0 h1
        obtain ⟨q, hq, rfl⟩ := Option.map_eq_some_iff.mp h0
        obtain ⟨x, hx, rfl⟩ := Option.map_eq_some_iff.mp h1
        have hqm' := List.mem_of_getElem? hq
        have okx := (md x (List.mem_of_getElem? hx)).1.2
        have hNq := hqj j q x (Nat.le_refl _) hq hx
        have hNx : N0 x.1 = some (.dK (x.2.map kvI)) := msk_same _ _ (sZ _ _ (ZG _ _ (md x (List.mem_of_getElem? hx)).1.1))
        have s1 := Same.put (o := .tup [V.ref q, V.ref x.1]) ht
        have e1 : upd N0 t (.tup [V.ref q, V.ref x.1]) t = some (.tup [V.ref q, V.ref x.1]) := upd_same
        refine ⟨t, _, rfl, SqT.of e1, rfl, _, _, rfl, _, _, rfl, rfl, ?_⟩
        generalize upd N0 t (.tup [V.ref q, V.ref x.1]) = N1 at s1 ⊢
        refine ⟨_, rfl, _, rfl, q, x.1, x.2, x.2, rfl, rfl, s1 _ _ hNq, s1 _ _ hNx, _, rfl, ?_⟩
        rw [eqI_refl okx]
        refine iteF ?_
        refine ⟨_, rfl, q, _, rfl, .inl (s1 _ _ hNq), fun l1 e1 => ?_⟩
        rw [keys_I]
        have s2 := Same.put (o := .lst ((x.2.map (·.1)).map V.str)) e1
        have hl1 : upd N1 l1 (.lst ((x.2.map (·.1)).map V.str)) l1 = some (.lst ((x.2.map (·.1)).map V.str)) := upd_same
        generalize upd N1 l1 (.lst ((x.2.map (·.1)).map V.str)) = N2 at s2 hl1 ⊢
        refine ⟨_, rfl, x.1, _, rfl, .inl (s2 _ _ (s1 _ _ hNx)), fun l2 e2 => ?_⟩
        rw [keys_I]
        have s3 := Same.put (o := .lst ((x.2.map (·.1)).map V.str)) e2
        have hl2 : upd N2 l2 (.lst ((x.2.map (·.1)).map V.str)) l2 = some (.lst ((x.2.map (·.1)).map V.str)) := upd_same
        generalize upd N2 l2 (.lst ((x.2.map (·.1)).map V.str)) = N3 at s3 hl2 ⊢
        have hsm : ∀ y ∈ x.2.map (·.1), ∀ c ∈ TL.tl y, c < 256 := fun y hy => six_sm y (okx.six y hy)
        refine ⟨_, _, .lst (SqL.of (s3 _ _ hl1)) (dpAll_strs _), .lst (SqL.of hl2) (dpAll_strs _), shaped_strs hsm, shaped_strs hsm, _, rfl, ?_⟩
        rw [SeqAt.eqv_refl _ (by simpa only [PyData.canLay0] using canLay_strs _ hsm)]
        refine iteF ?_
        have s13 := Same.tr s1 (Same.tr s2 s3)
        refine ⟨_, rfl, q, _, rfl, DPut.k (k := Sum.inr "late2") (s13 _ _ hNq) (len_six okx), ?_⟩
        refine ⟨?_, (upd_ne (hqE2 q hqm').symm).trans (s13 _ _ hNE2), fun q' hq' => ?_, fun k q' x' hk h2 h3 => ?_, _, _, rfl⟩
        · rw [msk_put (qZ q hqm')]
          exact Same.tr sZ (msk_up s13)
        · by_cases e : q' = q
          · rw [e, upd_same]
            exact fun z => by cases z
          · rw [upd_ne e]
            obtain ⟨o, ho⟩ := Option.ne_none_iff_exists'.mp (hqn' q' hq')
            rw [s13 _ _ ho]
            exact fun z => by cases z
        · have hne : q' ≠ q := fun e => by
            rw [e] at h2
            have := nodup_ix hqn h2 hq
            omega
          exact (upd_ne hne).trans (s13 _ _ (hqj k q' x' (by omega) h2 h3))
      rintro σ N ⟨sZ, hNE2, _, _, p4, p7, rfl⟩
      have sZN : Same (msk Z L) N := Same.tr sZ msk_same
      have hND := sZN _ _ (ZG _ _ mD)
      have dN := md.up (Same.tr ZG sZN)
      have mN : ∀ (k : Nat) (y x : Addr × List (Str × Int)), mk[k]? = some y → ds[k]? = some x → LagAt N C y.1 y.2 ∧ ∀ n, val y.2 n = val x.2 n := fun k y x h1 h2 => ⟨((hmd k y x h1 h2).1).up sZN, (hmd k y x h1 h2).2⟩
      have sGN := Same.tr ms (Same.tr ZG sZN)
      clear hmd sZN ZG ZE sZ
      -- all pairs
      refine ⟨_, rfl, _, rfl, E2, D, mk.map (fun x => V.ref x.1), ds.map (fun x => V.ref x.1), rfl, SqL.of hNE2, SqL.of hND, ?_⟩
      refine for_it (walk_zip (n := ds.length) (by rw [List.length_map, List.length_map, hml]; omega)) (fun j σ N' => Same N N' ∧ ∃ p8 p9 p10 p11 p12 p16, σ = [some (.ref a), some (.int (i : Nat)), some (.ref p), some (.ref D), p4, some (.ref E), some (.ref E2), p7, p8, p9, p10, p11, p12, o13, o14, o15, p16])
        ⟨Same.refl _, _, _, _, _, _, _, rfl⟩ (fun _ _ _ _ h => ⟨SqL.of (h.1 _ _ hNE2), SqL.of (h.1 _ _ hND)⟩) ?_ ?_
      · rintro j x σ N0 N' hj ⟨sN0, p8, p9, p10, p11, p12, p16, rfl⟩ ⟨t, x0, y, rfl, ht, rfl, h0, h1⟩
        dsimp only at h0 h1
        rw [List.getElem?_map] at h0 h1
        obtain ⟨y1, hy1, rfl⟩ := Option.map_eq_some_iff.mp h0
        obtain ⟨x1, hx1, rfl⟩ := Option.map_eq_some_iff.mp h1
        obtain ⟨B1, v1⟩ := mN j y1 x1 hy1 hx1
        obtain ⟨D1, bd1⟩ := dN x1 (List.mem_of_getElem? hx1)
        have s1 := Same.put (o := .tup [V.ref y1.1, V.ref x1.1]) ht
        have e1 : upd N0 t (.tup [V.ref y1.1, V.ref x1.1]) t = some (.tup [V.ref y1.1, V.ref x1.1]) := upd_same
        refine ⟨t, _, rfl, SqT.of e1, rfl, _, _, rfl, _, _, rfl, rfl, ?_⟩
        have sN1 := Same.tr sN0 s1
        generalize upd N0 t (.tup [V.ref y1.1, V.ref x1.1]) = N1 at sN1 ⊢
        clear sN0 s1 e1 ht
        refine ⟨_, rfl, _, rfl, E2, D, mk.map (fun x => V.ref x.1), ds.map (fun x => V.ref x.1), rfl, SqL.of (sN1 _ _ hNE2), SqL.of (sN1 _ _ hND), ?_⟩
        refine for_it (walk_zip (n := ds.length) (by rw [List.length_map, List.length_map, hml]; omega)) (fun j σ N' => Same N N' ∧ ∃ p10 p11 p12 p16, σ = [some (.ref a), some (.int (i : Nat)), some (.ref p), some (.ref D), p4, some (.ref E), some (.ref E2), p7, some (.ref y1.1), some (.ref x1.1), p10, p11, p12, o13, o14, o15, p16])
          ⟨sN1, _, _, _, _, rfl⟩ (fun _ _ _ _ h => ⟨SqL.of (h.1 _ _ hNE2), SqL.of (h.1 _ _ hND)⟩) ?_ ?_
        · rintro k x σ K0 K' hk ⟨sK0, p10, p11, p12, p16, rfl⟩ ⟨t, x0, y, rfl, ht, rfl, h0, h1⟩
          dsimp only at h0 h1
          rw [List.getElem?_map] at h0 h1
          obtain ⟨y2, hy2, rfl⟩ := Option.map_eq_some_iff.mp h0
          obtain ⟨x2, hx2, rfl⟩ := Option.map_eq_some_iff.mp h1
          obtain ⟨B2, v2⟩ := mN k y2 x2 hy2 hx2
          obtain ⟨D2, bd2⟩ := dN x2 (List.mem_of_getElem? hx2)
          have s2 := Same.put (o := .tup [V.ref y2.1, V.ref x2.1]) ht
          have e2 : upd K0 t (.tup [V.ref y2.1, V.ref x2.1]) t = some (.tup [V.ref y2.1, V.ref x2.1]) := upd_same
          refine ⟨t, _, rfl, SqT.of e2, rfl, _, _, rfl, _, _, rfl, rfl, ?_⟩
          have sC0 := Same.tr sK0 s2
          generalize upd K0 t (.tup [V.ref y2.1, V.ref x2.1]) = K1 at sC0 ⊢
          clear sK0 s2 e2 ht
          obtain ⟨dx0, fs0, h10, _⟩ := (B1.up sC0).ins
          obtain ⟨ex0, gs0, g10, _⟩ := (B2.up sC0).ins
          refine ⟨_, rfl, _, rfl, y1.1, dx0, fs0, y2.1, ex0, gs0, rfl, h10, rfl, g10, y1.1, y2.1, y1.2, y2.2, rfl, B1.up sC0, B2.up sC0, fun Na r rs sa hR hv => ⟨⟨r, rfl⟩, ?_⟩⟩
          refine ⟨_, rfl, _, rfl, x1.1, x2.1, 0, x1.2, x2.2, rfl, by decide, D1.up (Same.tr sC0 sa), D2.up (Same.tr sC0 sa), fun Nb qq cs sb hQ hw => ?_⟩
          refine ⟨r, qq, rs, cs, rfl, hR.up sb, hQ, fun n => ?_, fun n => ?_, fun Nc sc => ⟨_, rfl, iteF ?_⟩⟩
          · rw [hw, hv, v1, v2]
            rfl
          · rw [hv, v1, v2]
            have c1 := bd1 n
            have c2 := bd2 n
            have e31 : (10 : Nat) ^ 31 = 10 * 10 ^ 30 := by decide +kernel
            rw [e31]
            dsimp only
            generalize (10 : Nat) ^ 30 = T30 at c1 c2 ⊢
            try split
            all_goals omega
          have sC1 := Same.tr sC0 (Same.tr sa (Same.tr sb sc))
          clear hR hQ hv hw
          obtain ⟨dx1, fs1, h11, _⟩ := (B1.up sC1).ins
          obtain ⟨ex1, gs1, g11, _⟩ := (B2.up sC1).ins
          refine ⟨_, rfl, _, rfl, y1.1, dx1, fs1, y2.1, ex1, gs1, rfl, h11, rfl, g11, y1.1, y2.1, y1.2, y2.2, rfl, B1.up sC1, B2.up sC1, fun Na r rs sa hR hv => ⟨⟨r, rfl⟩, ?_⟩⟩
          refine ⟨_, rfl, _, rfl, x1.1, x2.1, 1, x1.2, x2.2, rfl, by decide, D1.up (Same.tr sC1 sa), D2.up (Same.tr sC1 sa), fun Nb qq cs sb hQ hw => ?_⟩
          refine ⟨r, qq, rs, cs, rfl, hR.up sb, hQ, fun n => ?_, fun n => ?_, fun Nc sc => ⟨_, rfl, iteF ?_⟩⟩
          · rw [hw, hv, v1, v2]
            rfl
          · rw [hv, v1, v2]
            have c1 := bd1 n
            have c2 := bd2 n
            have e31 : (10 : Nat) ^ 31 = 10 * 10 ^ 30 := by decide +kernel
            rw [e31]
            dsimp only
            generalize (10 : Nat) ^ 30 = T30 at c1 c2 ⊢
            try split
            all_goals omega
          have sC2 := Same.tr sC1 (Same.tr sa (Same.tr sb sc))
          clear hR hQ hv hw
          obtain ⟨dx2, fs2, h12, _⟩ := (B1.up sC2).ins
          obtain ⟨ex2, gs2, g12, _⟩ := (B2.up sC2).ins
          refine ⟨_, rfl, _, rfl, y1.1, dx2, fs2, y2.1, ex2, gs2, rfl, h12, rfl, g12, y1.1, y2.1, y1.2, y2.2, rfl, B1.up sC2, B2.up sC2, fun Na r rs sa hR hv => ⟨⟨r, rfl⟩, ?_⟩⟩
          refine ⟨_, rfl, _, rfl, x1.1, x2.1, 2, x1.2, x2.2, rfl, by decide, D1.up (Same.tr sC2 sa), D2.up (Same.tr sC2 sa), fun Nb qq cs sb hQ hw => ?_⟩
          refine ⟨r, qq, rs, cs, rfl, hR.up sb, hQ, fun n => ?_, fun n => ?_, fun Nc sc => ⟨_, rfl, iteF ?_⟩⟩
          · rw [hw, hv, v1, v2]
            rfl
          · rw [hv, v1, v2]
            have c1 := bd1 n
            have c2 := bd2 n
            have e31 : (10 : Nat) ^ 31 = 10 * 10 ^ 30 := by decide +kernel
            rw [e31]
            dsimp only
            generalize (10 : Nat) ^ 30 = T30 at c1 c2 ⊢
            try split
            all_goals omega
          have sC3 := Same.tr sC2 (Same.tr sa (Same.tr sb sc))
          clear hR hQ hv hw
          obtain ⟨dx3, fs3, h13, _⟩ := (B1.up sC3).ins
          obtain ⟨ex3, gs3, g13, _⟩ := (B2.up sC3).ins
          refine ⟨_, rfl, _, rfl, y1.1, dx3, fs3, y2.1, ex3, gs3, rfl, h13, rfl, g13, y1.1, y2.1, y1.2, y2.2, rfl, B1.up sC3, B2.up sC3, fun Na r rs sa hR hv => ⟨⟨r, rfl⟩, ?_⟩⟩
          refine ⟨_, rfl, _, rfl, x1.1, x2.1, 3, x1.2, x2.2, rfl, by decide, D1.up (Same.tr sC3 sa), D2.up (Same.tr sC3 sa), fun Nb qq cs sb hQ hw => ?_⟩
          refine ⟨r, qq, rs, cs, rfl, hR.up sb, hQ, fun n => ?_, fun n => ?_, fun Nc sc => ⟨_, rfl, iteF ?_⟩⟩
          · rw [hw, hv, v1, v2]
            rfl
          · rw [hv, v1, v2]
            have c1 := bd1 n
            have c2 := bd2 n
            have e31 : (10 : Nat) ^ 31 = 10 * 10 ^ 30 := by decide +kernel
            rw [e31]
            dsimp only
            generalize (10 : Nat) ^ 30 = T30 at c1 c2 ⊢
            try split
            all_goals omega
          have sC4 := Same.tr sC3 (Same.tr sa (Same.tr sb sc))
          clear hR hQ hv hw
          dsimp only [tNext]
          have D1c := D1.up sC4
          have D2c := D2.up sC4
          have ok1 := D1.2
          have ok2 := D2.2
          have len1 := ok1.len
          have len2 := ok2.len
          refine ⟨_, rfl, x1.1, _, rfl, .inl D1c.1, fun l1 e1 => ?_⟩
          rw [keys_I]
          have t1 := Same.put (o := .lst ((x1.2.map (·.1)).map V.str)) e1
          have hl1 : upd Nc l1 (.lst ((x1.2.map (·.1)).map V.str)) l1 = some (.lst ((x1.2.map (·.1)).map V.str)) := upd_same
          generalize upd Nc l1 (.lst ((x1.2.map (·.1)).map V.str)) = R1 at t1 hl1 ⊢
          refine ⟨_, rfl, x2.1, _, rfl, .inl (t1 _ _ D2c.1), fun l2 e2 => ?_⟩
          rw [keys_I]
          have t2 := Same.put (o := .lst ((x2.2.map (·.1)).map V.str)) e2
          have hl2 : upd R1 l2 (.lst ((x2.2.map (·.1)).map V.str)) l2 = some (.lst ((x2.2.map (·.1)).map V.str)) := upd_same
          generalize upd R1 l2 (.lst ((x2.2.map (·.1)).map V.str)) = R2 at t2 hl2 ⊢
          refine ⟨l1, l2, _, _, rfl, rfl, t2 _ _ hl1, hl2, by rw [List.length_map, List.length_map, List.length_map, List.length_map, PySem.sizeLine_eq]; omega, fun l e3 => ?_⟩
          rw [← List.map_append]
          have hks : ∀ n ∈ x1.2.map (·.1) ++ x2.2.map (·.1), n ∈ six := fun n hn => six_of ok1 ok2 hn
          have hkl : (x1.2.map (·.1) ++ x2.2.map (·.1)).length ≤ 12 := by rw [List.length_append, List.length_map, List.length_map]; omega
          have hbel := below_eq (y1 := y1.2) (y2 := y2.2) (x1 := x1.2) (x2 := x2.2) v1 v2
          generalize x1.2.map (·.1) ++ x2.2.map (·.1) = ks at hks hkl hbel ⊢
          have t3 := Same.put (o := .lst (ks.map V.str)) e3
          have hl : upd R2 l (.lst (ks.map V.str)) l = some (.lst (ks.map V.str)) := upd_same
          generalize upd R2 l (.lst (ks.map V.str)) = R3 at t3 hl ⊢
          have sR3 := Same.tr sC4 (Same.tr t1 (Same.tr t2 t3))
          refine ⟨l, rfl, ⟨_, SqL.of hl⟩, fun F1 hF1 => ?_⟩
          refine lc_it (walk_list (xs := ks.map V.str)) (fun j W => Same R3 W ∧ W F1 = some (.lst (((ks.take j).filter fun n => decide (val x1.2 n > val x2.2 n)).map V.str))) ⟨Same.put hF1, upd_same⟩ (fun _ _ _ h => SqL.of (h.1 _ _ hl)) ?_ ?_
          · rintro j x W W' hj ⟨sW, hWF⟩ ⟨rfl, hx⟩
            rw [List.getElem?_map] at hx
            obtain ⟨n, hn, rfl⟩ := Option.map_eq_some_iff.mp hx
            have ev : ∀ rs : List (Str × Int), (Option.map V.int (lk rs n)).getD (V.int 0) = V.int (val rs n) := fun rs => by
              unfold val
              cases lk rs n <;> rfl
            have d1 := (D1.up (Same.tr sR3 sW)).1
            have d2 := (D2.up (Same.tr sR3 sW)).1
            have htk : ks.take (j + 1) = ks.take j ++ [n] := by rw [List.take_add_one, hn]; rfl
            refine ⟨rfl, _, rfl, x1.1, rfl, .inl ⟨_, .inl d1⟩, _, rfl, _, dget_I (.inl d1), ?_⟩
            rw [ev]
            refine ⟨_, rfl, x2.1, rfl, .inl ⟨_, .inl d2⟩, _, rfl, _, dget_I (.inl d2), ?_⟩
            rw [ev]
            refine ⟨_, _, rfl, rfl, _, rfl, ?_⟩
            refine ite2 (fun h1 => ?_) (fun h1 => ?_)
            · refine ⟨_, rfl, _, hWF, ?_, fun b o e => (upd_ne (ne_of_none e hF1)).trans (sW b o e), ?_⟩
              · have := List.length_filter_le (fun n => decide (val x1.2 n > val x2.2 n)) (ks.take j)
                rw [List.length_take] at this
                rw [List.length_map, PySem.sizeLine_eq]
                omega
              · rw [upd_same, htk, List.filter_append, List.map_append]
                have : List.filter (fun n => decide (val x1.2 n > val x2.2 n)) [n] = [n] := by
                  rw [List.filter_cons]
                  have h1' : decide (val x1.2 n > val x2.2 n) = true := h1
                  rw [h1']
                  rfl
                rw [this]
                rfl
            · refine ⟨sW, ?_⟩
              rw [hWF, htk, List.filter_append]
              have : List.filter (fun n => decide (val x1.2 n > val x2.2 n)) [n] = [] := by
                rw [List.filter_cons]
                have h1' : decide (val x1.2 n > val x2.2 n) = false := Bool.eq_false_iff.mpr h1
                rw [h1']
                rfl
              rw [this, List.append_nil]
          rintro W ⟨sW, hWF⟩
          rw [List.length_map, List.take_length] at hWF
          have sCW := Same.tr sR3 sW
          dsimp only [gName]
          obtain ⟨dx5, fs5, h15, h35⟩ := (B1.up sCW).ins
          refine ⟨_, rfl, y1.1, dx5, fs5, rfl, h15, h35 _ (by decide), _, rfl, y1.1, y2.1, y1.2, y2.2, rfl, B1.up sCW, B2.up sCW, fun Nd sd => ?_⟩
          refine ⟨_, rfl, (by show 0 ≤ sizeLine; decide), fun t ht => ?_⟩
          have sCd := Same.tr sCW (Same.tr sd (Same.put (o := .lst []) ht))
          have hfl : ∀ y ∈ ks.filter (fun n => decide (val x1.2 n > val x2.2 n)), ∀ c ∈ TL.tl y, c < 256 := fun y hy => six_sm y (hks y (List.mem_filter.mp hy).1)
          refine ⟨_, _, .lst (SqL.of ((upd_ne (ne_of_none (sd _ _ hWF) ht)).trans (sd _ _ hWF))) (dpAll_strs _), .lst (SqL.of upd_same) .nil, shaped_strs hfl, rfl, rfl, _, rfl, ?_⟩
          rw [eqv_nil, List.isEmpty_map, ← hbel]
          generalize upd Nd t (.lst []) = R4 at sCd ⊢
          rw [show ∀ b : Bool, decide (V.bl b = V.bl b) = true from fun b => decide_eq_true rfl]
          refine iteF ?_
          obtain ⟨dx6, fs6, h16, _⟩ := (B1.up sCd).ins
          obtain ⟨ex6, gs6, g16, _⟩ := (B2.up sCd).ins
          refine ⟨_, rfl, _, rfl, y1.1, dx6, fs6, rfl, h16, .inl ⟨y2.1, ex6, gs6, rfl, g16⟩, y1.1, y1.2, .ref y2.1, rfl, B1.up sCd, .inl ⟨y2.1, y2.2, rfl, B2.up sCd, _, rfl, ?_⟩⟩
          rw [Bool.bne_false]
          refine ⟨_, rfl, x1.1, x1.2, rfl, D1.up sCd, fun Ne q1 c1 se hC1 nz1 hv1 => ?_⟩
          refine ⟨_, rfl, x2.1, x2.2, rfl, D2.up (Same.tr sCd se), fun Nf q2 c2 sf hC2 nz2 hv2 => ?_⟩
          refine ⟨q1, q2, c1, c2, rfl, rfl, (hC1.up sf).1, hC2.1, rfl, _, rfl, ?_⟩
          rw [Bool.bne_false]
          have heq : eqI y1.2 y2.2 = eqI c1 c2 := by
            rw [Bool.eq_iff_iff, eqI_of B1.ok.1 B2.ok.1 B1.ok.2 B2.ok.2, eqI_of hC1.2 hC2.2 nz1 nz2]
            refine ⟨fun h n => ?_, fun h n => ?_⟩
            · rw [hv1, hv2, ← v1, ← v2]
              exact h n
            · rw [v1, v2, ← hv1, ← hv2]
              exact h n
          rw [heq, show ∀ b : Bool, decide (V.bl b = V.bl b) = true from fun b => decide_eq_true rfl]
          exact iteF ⟨Same.tr sCd (Same.tr se sf), _, _, _, _, rfl⟩
        · rintro σ K' ⟨sK, p10, p11, p12, p16, rfl⟩
          refine ⟨_, rfl, _, rfl, y1.1, x1.1, y1.2, x1.2, rfl, B1.up sK, D1.up sK, fun n => (v1 n).symm, fun n => ?_, fun Ng sg => ⟨_, rfl, iteF ⟨Same.tr sK sg, _, _, _, _, _, _, rfl⟩⟩⟩
          rw [v1]
          exact Nat.le_trans (bd1 n) (by decide +kernel)
      · rintro σ N' ⟨sN', p8, p9, p10, p11, p12, p16, rfl⟩
        have sGN' := Same.tr sGN sN'
        have hNE3 := sN' _ _ hNE2
        have hm0 : 0 < mk.length := by omega
        obtain ⟨B0, _⟩ := mN 0 _ _ (List.getElem?_eq_getElem hm0) (List.getElem?_eq_getElem (show 0 < ds.length by omega))
        have B0' := B0.up sN'
        have hy0 : mk[0]? = some mk[0] := List.getElem?_eq_getElem hm0
        generalize mk[0] = y0 at B0 B0' hy0
        clear hqE2 outZ outE qZ hZ hqL mN dN md
        refine fun d1 hd1 => ⟨upd_same, [(Sum.inr "", V.int 1)], rfl, by decide, ?_⟩
        obtain ⟨u1, g1⟩ := disp_at (kvs := [(Sum.inr "", V.int 1)]) (kv2 := [(Sum.inr "", V.int 1)]) hd1 (by rfl)
        generalize upd (upd N' d1 (.dK [])) d1 (.dK (mergeK [] [(Sum.inr "", V.int 1)])) = O1 at u1 g1 ⊢
        have q1 : BadRows K O1 (.ref d1) := .inr ⟨d1, _, rfl, g1, by decide, lit_of (by decide +kernel), by decide +kernel⟩
        refine fun d2 hd2 => ⟨upd_same, [(Sum.inr "a", V.bl true)], rfl, by decide, ?_⟩
        obtain ⟨u2, g2⟩ := disp_at (kvs := [(Sum.inr "a", V.bl true)]) (kv2 := [(Sum.inr "a", V.bl true)]) hd2 (by rfl)
        generalize upd (upd O1 d2 (.dK [])) d2 (.dK (mergeK [] [(Sum.inr "a", V.bl true)])) = O2 at u2 g2 ⊢
        have q2 : BadRows K O2 (.ref d2) := .inr ⟨d2, _, rfl, g2, by decide, lit_of (by decide +kernel), by decide +kernel⟩
        refine fun d3 hd3 => ⟨upd_same, [(Sum.inr "a", V.non)], rfl, by decide, ?_⟩
        obtain ⟨u3, g3⟩ := disp_at (kvs := [(Sum.inr "a", V.non)]) (kv2 := [(Sum.inr "a", V.non)]) hd3 (by rfl)
        generalize upd (upd O2 d3 (.dK [])) d3 (.dK (mergeK [] [(Sum.inr "a", V.non)])) = O3 at u3 g3 ⊢
        have q3 : BadRows K O3 (.ref d3) := .inr ⟨d3, _, rfl, g3, by decide, lit_of (by decide +kernel), by decide +kernel⟩
        refine fun d4 hd4 => ⟨upd_same, [(Sum.inl 1, V.int 1)], rfl, by decide, ?_⟩
        obtain ⟨u4, g4⟩ := disp_at (kvs := [(Sum.inl 1, V.int 1)]) (kv2 := [(Sum.inl 1, V.int 1)]) hd4 (by rfl)
        generalize upd (upd O3 d4 (.dK [])) d4 (.dK (mergeK [] [(Sum.inl 1, V.int 1)])) = O4 at u4 g4 ⊢
        have q4 : BadRows K O4 (.ref d4) := .inr ⟨d4, _, rfl, g4, by decide, lit_of (by decide +kernel), by decide +kernel⟩
        refine fun d5 hd5 => ⟨upd_same, [(Sum.inr "b", V.int 2), (Sum.inr "A", V.int 1)], rfl, by decide, ?_⟩
        obtain ⟨u5, g5⟩ := disp_at (kvs := [(Sum.inr "b", V.int 2), (Sum.inr "A", V.int 1)]) (kv2 := [(Sum.inr "b", V.int 2), (Sum.inr "A", V.int 1)]) hd5 (by rfl)
        generalize upd (upd O4 d5 (.dK [])) d5 (.dK (mergeK [] [(Sum.inr "b", V.int 2), (Sum.inr "A", V.int 1)])) = O5 at u5 g5 ⊢
        have q5 : BadRows K O5 (.ref d5) := .inr ⟨d5, _, rfl, g5, by decide, lit_of (by decide +kernel), by decide +kernel⟩
        refine fun d6 hd6 => ⟨upd_same, [(Sum.inr "a", V.str "1")], rfl, by decide, ?_⟩
        obtain ⟨u6, g6⟩ := disp_at (kvs := [(Sum.inr "a", V.str "1")]) (kv2 := [(Sum.inr "a", V.str "1")]) hd6 (by rfl)
        generalize upd (upd O5 d6 (.dK [])) d6 (.dK (mergeK [] [(Sum.inr "a", V.str "1")])) = O6 at u6 g6 ⊢
        have q6 : BadRows K O6 (.ref d6) := .inr ⟨d6, _, rfl, g6, by decide, lit_of (by decide +kernel), by decide +kernel⟩
        have uA := Same.tr u1 (Same.tr u2 (Same.tr u3 (Same.tr u4 (Same.tr u5 u6))))
        obtain ⟨dxy, fsy, hy1, _⟩ := (B0'.up uA).ins
        refine ⟨_, rfl, E2, _, 0, V.ref y0.1, rfl, rfl, SqL.of (uA _ _ hNE3), ?_, (by show 7 ≤ sizeLine; decide), fun ol hol => ?_⟩
        · exact atI_nat (j := 0) (by rw [List.getElem?_map, hy0]; rfl)
        have qy : BadRows K O6 (.ref y0.1) := .inl ⟨_, vk_ins T2.ik hy1, by decide⟩
        have sO := Same.tr sGN' (Same.tr uA (Same.put (o := .lst [V.ref d1, V.ref d2, V.ref d3, V.ref d4, V.ref d5, V.ref d6, V.ref y0.1]) hol))
        have u7 := Same.put (o := .lst [V.ref d1, V.ref d2, V.ref d3, V.ref d4, V.ref d5, V.ref d6, V.ref y0.1]) hol
        have ho1 : upd O6 ol (.lst [V.ref d1, V.ref d2, V.ref d3, V.ref d4, V.ref d5, V.ref d6, V.ref y0.1]) ol = some (.lst [V.ref d1, V.ref d2, V.ref d3, V.ref d4, V.ref d5, V.ref d6, V.ref y0.1]) := upd_same
        generalize upd O6 ol (.lst [V.ref d1, V.ref d2, V.ref d3, V.ref d4, V.ref d5, V.ref d6, V.ref y0.1]) = O7 at sO u7 ho1 ⊢
        dsimp only [gName]
        refine ⟨(by show 0 ≤ sizeLine; decide), fun e0 he0 => ⟨(by show 5 ≤ sizeLine; decide), fun e1 he1 => ?_⟩⟩
        have he0O : O7 e0 = none := he0
        have w1 : Same O7 (upd O7 e0 (.lst [])) := Same.put he0
        have w2 := Same.tr w1 (Same.put (o := .lst [V.non, V.bl true, V.int 0, V.str "a", V.ref e0]) he1)
        have g0 : (upd (upd O7 e0 (.lst [])) e1 (.lst [V.non, V.bl true, V.int 0, V.str "a", V.ref e0])) e0 = some (.lst []) := (upd_ne (ne_of_none (upd_same (H := O7) (a := e0)) he1)).trans upd_same
        have g1' : (upd (upd O7 e0 (.lst [])) e1 (.lst [V.non, V.bl true, V.int 0, V.str "a", V.ref e0])) e1 = some (.lst [V.non, V.bl true, V.int 0, V.str "a", V.ref e0]) := upd_same
        generalize upd (upd O7 e0 (.lst [])) e1 (.lst [V.non, V.bl true, V.int 0, V.str "a", V.ref e0]) = O8 at w2 g0 g1' ⊢
        refine ⟨_, rfl, e1, ol, _, _, rfl, rfl, g1', w2 _ _ ho1, by show 5 + 7 ≤ sizeLine; decide, fun xl hxl => ?_⟩
        have w3 := Same.put (o := .lst ([V.non, V.bl true, V.int 0, V.str "a", V.ref e0] ++ [V.ref d1, V.ref d2, V.ref d3, V.ref d4, V.ref d5, V.ref d6, V.ref y0.1])) hxl
        have hx1 : upd O8 xl (.lst ([V.non, V.bl true, V.int 0, V.str "a", V.ref e0] ++ [V.ref d1, V.ref d2, V.ref d3, V.ref d4, V.ref d5, V.ref d6, V.ref y0.1])) xl = some (.lst ([V.non, V.bl true, V.int 0, V.str "a", V.ref e0] ++ [V.ref d1, V.ref d2, V.ref d3, V.ref d4, V.ref d5, V.ref d6, V.ref y0.1])) := upd_same
        have w78 : Same O7 (upd O8 xl (.lst ([V.non, V.bl true, V.int 0, V.str "a", V.ref e0] ++ [V.ref d1, V.ref d2, V.ref d3, V.ref d4, V.ref d5, V.ref d6, V.ref y0.1]))) := Same.tr w2 w3
        have hbad : ∀ v ∈ ([V.non, V.bl true, V.int 0, V.str "a", V.ref e0] ++ [V.ref d1, V.ref d2, V.ref d3, V.ref d4, V.ref d5, V.ref d6, V.ref y0.1]), BadRows K (upd O8 xl (.lst ([V.non, V.bl true, V.int 0, V.str "a", V.ref e0] ++ [V.ref d1, V.ref d2, V.ref d3, V.ref d4, V.ref d5, V.ref d6, V.ref y0.1]))) v ∧ (flatB v = true ∨ ∃ r, v = .ref r) := by
          have c7 := Same.tr u7 w78
          intro v hv
          simp only [List.mem_append, List.mem_cons, List.not_mem_nil, or_false] at hv
          rcases hv with (rfl | rfl | rfl | rfl | rfl) | (rfl | rfl | rfl | rfl | rfl | rfl | rfl)
          · exact ⟨.inl ⟨_, vk_non, by decide⟩, .inl rfl⟩
          · exact ⟨.inl ⟨_, vk_bl _, by decide⟩, .inl rfl⟩
          · exact ⟨.inl ⟨_, vk_int _, by decide⟩, .inl rfl⟩
          · exact ⟨.inl ⟨_, vk_str _ (by decide), by decide⟩, .inl rfl⟩
          · exact ⟨.inl ⟨_, vk_list (SqL.of (w3 _ _ g0)), by decide⟩, .inr ⟨_, rfl⟩⟩
          · exact ⟨q1.up (Same.tr u2 (Same.tr u3 (Same.tr u4 (Same.tr u5 (Same.tr u6 c7))))), .inr ⟨_, rfl⟩⟩
          · exact ⟨q2.up (Same.tr u3 (Same.tr u4 (Same.tr u5 (Same.tr u6 c7)))), .inr ⟨_, rfl⟩⟩
          · exact ⟨q3.up (Same.tr u4 (Same.tr u5 (Same.tr u6 c7))), .inr ⟨_, rfl⟩⟩
          · exact ⟨q4.up (Same.tr u5 (Same.tr u6 c7)), .inr ⟨_, rfl⟩⟩
          · exact ⟨q5.up (Same.tr u6 c7), .inr ⟨_, rfl⟩⟩
          · exact ⟨q6.up c7, .inr ⟨_, rfl⟩⟩
          · exact ⟨qy.up c7, .inr ⟨_, rfl⟩⟩
        have sO9 := Same.tr sO w78
        generalize [V.non, V.bl true, V.int 0, V.str "a", V.ref e0] ++ [V.ref d1, V.ref d2, V.ref d3, V.ref d4, V.ref d5, V.ref d6, V.ref y0.1] = xs at w3 hx1 w78 hbad sO9 ⊢
        generalize upd O8 xl (.lst xs) = O9 at w3 hx1 w78 hbad sO9 ⊢
        clear q1 q2 q3 q4 q5 q6 qy u1 u2 u3 u4 u5 u6 u7 g1 g2 g3 g4 g5 g6 w1 w2 g0 g1' w3 w78 he0O
        refine ⟨xl, rfl, ⟨_, SqL.of hx1⟩, ?_⟩
        refine for_it (walk_list (xs := xs)) (fun j σ W => Same O9 W ∧ ∃ p14, σ = [some (.ref a), some (.int (i : Nat)), some (.ref p), some (.ref D), p4, some (.ref E), some (.ref E2), p7, p8, p9, p10, p11, p12, some (.ref ol), p14, o15, p16])
          ⟨Same.refl _, _, rfl⟩ (fun _ _ _ _ h => SqL.of (h.1 _ _ hx1)) ?_ ?_
        · rintro j v σ W0 W hj ⟨sW, p14, rfl⟩ ⟨rfl, hv⟩
          obtain ⟨bad, hfl⟩ := hbad v (List.mem_of_getElem? hv)
          dsimp only [gName]
          refine ⟨_, rfl, v, .inl ⟨rfl, bad.up sW, fun W1 l1 s1 hl1 => ?_⟩⟩
          refine ⟨_, rfl, (by show 3 ≤ sizeLine; decide), fun l2 hl2 => ?_⟩
          refine ⟨l1, l2, [V.str "lags", v, V.bl true], rfl, rfl, SqL.of ((upd_ne (ne_of_none hl1 hl2)).trans hl1), SqL.of upd_same, fun u hu => ?_, _, rfl, iteF ⟨Same.tr sW (Same.tr s1 (Same.put hl2)), _, rfl⟩⟩
          simp only [List.mem_cons, List.not_mem_nil, or_false] at hu
          rcases hu with rfl | rfl | rfl
          · exact .inl rfl
          · exact hfl
          · exact .inl rfl
        rintro σ W ⟨sW, p14, rfl⟩
        have sGW := Same.tr sO9 sW
        clear hbad hx1 sO9
        refine ⟨(by show 0 ≤ sizeLine; decide), fun f0 hf0 => ⟨(by show 1 ≤ sizeLine; decide), fun f1 hf1 => fun f2 hf2 => ⟨(by show 9 ≤ sizeLine; decide), fun fl hfl => ?_⟩⟩⟩
        have a1 := Same.put (o := .lst []) hf0
        have b1 : upd W f0 (.lst []) f0 = some (.lst []) := upd_same
        generalize upd W f0 (.lst []) = W1 at a1 b1 hf1 hf2 hfl ⊢
        have a2 := Same.put (o := .lst [V.str "a"]) hf1
        have b2 : upd W1 f1 (.lst [V.str "a"]) f1 = some (.lst [V.str "a"]) := upd_same
        generalize upd W1 f1 (.lst [V.str "a"]) = W2 at a2 b2 hf2 hfl ⊢
        have a3 := Same.put (o := .dK []) hf2
        have b3 : upd W2 f2 (.dK []) f2 = some (.dK []) := upd_same
        generalize upd W2 f2 (.dK []) = W3 at a3 b3 hfl ⊢
        have a4 := Same.put (o := .lst [V.non, V.bl true, V.int 0, V.str "", V.str "A", V.str "abcdefghi", V.ref f0, V.ref f1, V.ref f2]) hfl
        have b4 : upd W3 fl (.lst [V.non, V.bl true, V.int 0, V.str "", V.str "A", V.str "abcdefghi", V.ref f0, V.ref f1, V.ref f2]) fl = some (.lst [V.non, V.bl true, V.int 0, V.str "", V.str "A", V.str "abcdefghi", V.ref f0, V.ref f1, V.ref f2]) := upd_same
        have hodd : ∀ v ∈ [V.non, V.bl true, V.int 0, V.str "", V.str "A", V.str "abcdefghi", V.ref f0, V.ref f1, V.ref f2], (∃ k, Vk K (upd W3 fl (.lst [V.non, V.bl true, V.int 0, V.str "", V.str "A", V.str "abcdefghi", V.ref f0, V.ref f1, V.ref f2])) v k) ∧ (∀ z, v = .str z → nameB (TL.tl z) = false) ∧ ∃ dv, Dd K (upd W3 fl (.lst [V.non, V.bl true, V.int 0, V.str "", V.str "A", V.str "abcdefghi", V.ref f0, V.ref f1, V.ref f2])) v dv ∧ Nice 1000 2 dv := by
          intro v hv
          simp only [List.mem_cons, List.not_mem_nil, or_false] at hv
          rcases hv with rfl | rfl | rfl | rfl | rfl | rfl | rfl | rfl | rfl
          · exact ⟨⟨_, vk_non⟩, (fun z e => nomatch e), _, .non, nice_none.mono (by omega) (by omega)⟩
          · exact ⟨⟨_, vk_bl _⟩, (fun z e => nomatch e), _, .bl _, (nice_bool _).mono (by omega) (by omega)⟩
          · exact ⟨⟨_, vk_int _⟩, (fun z e => nomatch e), _, .int _, (nice_int (by decide)).mono (by omega) (by omega)⟩
          · exact ⟨⟨_, vk_str _ (by decide)⟩, (fun z e => by cases e; decide +kernel), _, .str _, (nice_str (n := 10) ⟨by decide +kernel, by decide +kernel⟩).mono (by omega) (by omega)⟩
          · exact ⟨⟨_, vk_str _ (by decide)⟩, (fun z e => by cases e; decide +kernel), _, .str _, (nice_str (n := 10) ⟨by decide +kernel, by decide +kernel⟩).mono (by omega) (by omega)⟩
          · exact ⟨⟨_, vk_str _ (by decide)⟩, (fun z e => by cases e; decide +kernel), _, .str _, (nice_str (n := 10) ⟨by decide +kernel, by decide +kernel⟩).mono (by omega) (by omega)⟩
          · exact ⟨⟨_, vk_list (SqL.of (a4 _ _ (a3 _ _ (a2 _ _ b1))))⟩, (fun z e => nomatch e), _, .lst (SqL.of (a4 _ _ (a3 _ _ (a2 _ _ b1)))) .nil, niceAll_nil.list.mono (by omega) (by omega)⟩
          · exact ⟨⟨_, vk_list (SqL.of (a4 _ _ (a3 _ _ b2)))⟩, (fun z e => nomatch e), _, .lst (SqL.of (a4 _ _ (a3 _ _ b2))) (.cons (.str _) .nil), ((nice_str (n := 10) ⟨by decide +kernel, by decide +kernel⟩ : Nice 10 0 (.str "a")) |> fun h => (NiceAll.cons h niceAll_nil).list).mono (by omega) (by omega)⟩
          · refine ⟨⟨_, vk_dict (a4 _ _ b3)⟩, (fun z e => nomatch e), .dict [], .dct (a4 _ _ b3) rfl .nil, ?_⟩
            exact ⟨by decide +kernel, by decide +kernel, by decide +kernel, by decide +kernel⟩
        have sGX := Same.tr sGW (Same.tr a1 (Same.tr a2 (Same.tr a3 a4)))
        generalize [V.non, V.bl true, V.int 0, V.str "", V.str "A", V.str "abcdefghi", V.ref f0, V.ref f1, V.ref f2] = ys at a4 b4 hodd sGX ⊢
        generalize upd W3 fl (.lst ys) = X1 at a4 b4 hodd sGX ⊢
        refine ⟨fl, rfl, ⟨_, SqL.of b4⟩, ?_⟩
        refine for_it (walk_list (xs := ys)) (fun j σ Y => Same X1 Y ∧ ∃ p14, σ = [some (.ref a), some (.int (i : Nat)), some (.ref p), some (.ref D), p4, some (.ref E), some (.ref E2), p7, p8, p9, p10, p11, p12, some (.ref ol), p14, o15, p16])
          ⟨Same.refl _, _, rfl⟩ (fun _ _ _ _ h => SqL.of (h.1 _ _ b4)) ?_ ?_
        · rintro j v σ Y0 Y hj ⟨sY, p14, rfl⟩ ⟨rfl, hv⟩
          obtain ⟨⟨k, vk⟩, hnm, dv, hdv, hnc⟩ := hodd v (List.mem_of_getElem? hv)
          dsimp only [gName]
          refine ⟨_, rfl, v, .inr ⟨rfl, ⟨k, vk.mono sY⟩, hnm, fun Y1 l1 s1 hl1 => ?_⟩⟩
          have nice3 : Nice 2000 5 (.list [.str "name", dv, .bool true]) := ((NiceAll.cons (nice_str (n := 10) ⟨by decide +kernel, by decide +kernel⟩ : Nice 10 0 (.str "name")) (NiceAll.cons hnc (NiceAll.cons (nice_bool true) niceAll_nil))).list).mono (by omega) (by omega)
          have hdY := hdv.mono (Same.tr sY s1)
          dsimp only [tNil]
          refine rReprD_of (.lst (SqL.of hl1) (.cons (.str _) (.cons hdY (.cons (.bl _) .nil)))) nice3 (by omega) (by omega) ?_
          refine ⟨_, rfl, (by show 3 ≤ sizeLine; decide), fun l2 hl2 => ?_⟩
          dsimp only [tNil]
          refine rReprD_of (.lst (SqL.of upd_same) (.cons (.str _) (.cons (hdY.mono (Same.put hl2)) (.cons (.bl _) .nil)))) nice3 (by omega) (by omega) ?_
          refine ⟨rfl, _, rfl, ?_⟩
          rw [beq_self_str]
          exact iteF ⟨Same.tr sY (Same.tr s1 (Same.put hl2)), _, rfl⟩
        rintro σ Y ⟨sY, p14, rfl⟩
        exact ⟨Same.tr sm (Same.tr sGX sY), _, _, _, _, _, _, _, _, _, _, _, _, _, _, _, _, rfl⟩
    rintro σ G ⟨sm, o1, o2, o3, o4, o5, o6, o7, o8, o9, o10, o11, o12, o13, o14, o15, o16, rfl⟩
    refine fun d1 hd1 => ?_
    intro r1 dr1 hr1 hr2 hne1
    refine make_one (cs := []) upd_same okL_nil hr1 hr2 fun G1 ls s1 hL hv => ⟨rfl, ?_⟩
    obtain ⟨dx1, fs1, h11, h31⟩ := hL.ins
    refine ⟨r1, dx1, fs1, rfl, h11, h31 _ (by decide), r1, ls, rfl, hL, fun qa hqa => ?_⟩
    refine fun d2 hd2 => ?_
    refine ⟨qa, d2, ls, [], rfl, rfl, (upd_ne (ne_of_none upd_same hd2)).trans upd_same, upd_same, _, rfl, ?_⟩
    rw [Bool.bne_false, eqI_val hL.ok.1 okL_nil hL.ok.2 (fun p hp => absurd hp List.not_mem_nil) hv]
    refine iteT ?_
    have vz : ∀ n, val [(("a" : Str), (0 : Int))] n = 0 := fun n => by
      unfold val
      rw [lk_cons]
      split <;> rfl
    refine fun d3 hd3 => ⟨upd_same, [(Sum.inr "a", .int 0)], rfl, by decide, ?_⟩
    intro r2 dr2 hr3 hr4 hne2
    refine make_one (cs := [(("a" : Str), (0 : Int))]) upd_same ⟨by decide, by decide +kernel⟩ hr3 hr4 fun G2 ms s2 hM hw => ⟨rfl, ?_⟩
    obtain ⟨dx2, fs2, h12, h32⟩ := hM.ins
    have ms0 : ms = [] := by
      cases ms with
      | nil => rfl
      | cons p ms =>
        have h1 := hM.ok.2 p List.mem_cons_self
        have h2 := val_pos (lk_of_mem hM.ok.1.nd (p := p) List.mem_cons_self)
        rw [hw, vz] at h2
        exact absurd h2.symm h1
    refine ⟨r2, dx2, fs2, rfl, h12, r2, ms, rfl, hM, fun G3 s3 => ?_⟩
    rw [ms0]
    refine ⟨rfl, _, rfl, iteT ?_⟩
    refine fun d4 hd4 => ?_
    intro r3 dr3 hr5 hr6 hne3
    refine make_one (cs := []) upd_same okL_nil hr5 hr6 fun G4 ks s4 hK hk => ⟨rfl, ?_⟩
    refine fun d5 hd5 => ⟨upd_same, [(Sum.inr "a", .int 0)], rfl, by decide, ?_⟩
    have s5 : Same G4 (upd (upd G4 d5 (.dK [])) d5 (.dK (mergeK [] [(Sum.inr "a", V.int 0)]))) := (disp_at (kvs := [(Sum.inr "a", V.int 0)]) hd5 rfl).1
    intro r4 dr4 hr7 hr8 hne4
    refine make_one (cs := [(("a" : Str), (0 : Int))]) upd_same ⟨by decide, by decide +kernel⟩ hr7 hr8 fun G5 js s6 hJ hj => ⟨rfl, ?_⟩
    have hK2 := (hK.up s5).up s6
    obtain ⟨dx4, fs4, h14, h34⟩ := hK2.ins
    obtain ⟨dx5, fs5, h15, h35⟩ := hJ.ins
    refine ⟨r3, dx4, fs4, rfl, h14, .inl ⟨r4, dx5, fs5, rfl, h15⟩, r3, ks, .ref r4, rfl, hK2, .inl ⟨r4, js, rfl, hJ, _, rfl, ?_⟩⟩
    rw [Bool.bne_false, eqI_val hK2.ok.1 hJ.ok.1 hK2.ok.2 hJ.ok.2 fun n => by rw [hk, hj, vz]; rfl]
    exact q _

end
end T31
set_option Elab.async false
set_option linter.all false
set_option maxRecDepth 100000
set_option maxHeartbeats 8000000
/-! the head of a law by facts: what is read off the written part, and how it is told -/
namespace Tp
open PySem PySem.Spec PyProof.Rows L2
def dfn (x : Str) (st : Stmt) (dfl : List He.Dv := []) (kwd : List (Str × He.Dv) := []) : He.DefD := ⟨(x, none), x, x, defArgs st, defBody st, defScope st, dfl, kwd⟩
def dmt (c m q : Str) (st : Stmt) (dfl : List He.Dv := []) (kwd : List (Str × He.Dv) := []) : He.DefD := ⟨(c, some m), m, q, defArgs st, defBody st, defScope st, dfl, kwd⟩
theorem fun_of {K : PySem.W.Frag} {x qual : Str} {st : Stmt} {f : Addr} {fd : FuncData} (F : FunD K x qual (defArgs st) (defBody st) (defScope st) [] [] f fd) : Fun K x qual st f fd := by
  obtain ⟨oc, od, dV, kV, doc, pm, an, cdv, ct, osl, e, lk, hcd, hD, _⟩ := F.ex
  rcases hD with ⟨_, e2⟩ | ⟨z, _⟩
  · subst e2
    exact ⟨⟨oc, od, kV, doc, pm, an, cdv, ct, osl, e, lk, hcd⟩, F.kp⟩
  · exact absurd rfl z
theorem kb_of {K : PySem.W.Frag} {x q : Str} {st : Stmt} {f : Addr} {fd : FuncData} {ps ks : List Str} {n : Nat} {g : List Value → List Value → List Value} {gV : List V → List V → List V} (G : Fun K x q st f fd)
    (h : ∀ (kV doc pm : Value) (an : Option Addr) (cdv ct : Value) (us ws : List Value), us.length = n → ws.length = ks.length → bindArgs (PySem.W.fnOf x q (defArgs st) (defBody st) (defScope st) .none kV doc pm an cdv ct) ⟨us, ks.zip ws⟩ = pure (ps.zip (g us ws)))
    (rel : ∀ {vs : List V} {us : List Value} {zs : List V} {ws : List Value}, Vals vs us → Vals zs ws → Vals (gV vs zs) (g us ws)) : KBn K fd ps n ks g gV := by
  obtain ⟨oc, od, kV, doc, pm, an, cdv, ct, osl, rfl, lk, hcd⟩ := G.ex
  exact ⟨fun s us ws _ l1 l2 => .of_eq (h kV doc pm an cdv ct us ws l1 l2), rel⟩
/-- the goal that such a head leaves -/
theorem walkGE {l : PySem.W.OpenLaw} {n k : Nat} {q : Program} {loose : List Str} {XP : (Str → Option Value) → Heap → Prop} {YP : World → Heap → Prop} {d : DefRec} {x : Str}
    (hn : l.most = some n) (hn2 : n ≤ sizeLine) (hdf : d.params.defaults = []) (hr : Room k callerA)
    (F : ∀ (w : World) (mg : Str → Option Value) (fa : Addr) (h : Heap), YP w h → h.Ns mainGlobals mg → mg d.name = some (.ref fa) →
      ∃ (K : PySem.W.Frag) (fd : FuncData) (sp : Sp), K.In h ∧ (∀ (s : Shared) (u : Value), BindsTo s fd ⟨[u], []⟩ [(x, u)]) ∧ (∀ base : Heap, K.In base → base.Ns mainGlobals mg → FnG l.prog w K mg base CX0 k fa fd [x] sp) ∧
        ∀ (H : Hp) (a : Addr) (ns : List Int), ns.length ≤ n → Only H → SqL K H a (ns.map V.int) → sp [.ref a] H (fun v _ => v = .bl true) E0) :
    PySem.W.WalkO q loose XP YP l.row.toRowW d [] (fun f vs => PySem.call f vs) := by
  refine Att.attach_call hn hdf fun w s0 s1 mg mb fa o pm cd doc a vs ns G Y ho hd hcd hmg hobj hints hlen hg => ?_
  obtain ⟨K, fd, sp, KX, hb, hF, hsp⟩ := F w mg fa _ Y G.T.g hmg
  exact law_callG KX G.T.g G.T.b G.T.builtins G.T.nolimit hg hobj hints (Nat.le_trans hlen hn2) hr hF hb fun H hO hS => hsp H a ns hlen hO hS
/-! ### facts by one Bool -/
def emB (K : PySem.W.Frag) (a : Addr) : Bool := match K.lookup a with
  | some ⟨.type t, _, .seq its _, _⟩ => decide (t = "tuple") && decide (its = #[])
  | _ => false
theorem emB_ok {K : PySem.W.Frag} {a : Addr} (h : emB K a = true) : ∃ (o : Obj) (n : Nat), K.lookup a = some o ∧ o.cls = .type "tuple" ∧ o.data = .seq #[] n := by
  unfold emB at h
  split at h
  · rename_i t od its n sl e
    rw [Bool.and_eq_true, decide_eq_true_eq, decide_eq_true_eq] at h
    obtain ⟨rfl, rfl⟩ := h
    exact ⟨_, n, e, rfl, rfl⟩
  · cases h
def smB (K : PySem.W.Frag) : Bool := match K.lookup sysModules with
  | some ⟨.type t, _, _, _⟩ => decide (t = "dict")
  | _ => false
theorem smB_ok {K : PySem.W.Frag} (h : smB K = true) : Sm K := by
  unfold smB at h
  split at h
  · rename_i t od dt sl e
    rw [decide_eq_true_eq] at h
    subst h
    exact ⟨_, e, rfl⟩
  · cases h
/-- what all instances and exceptions share -/
def glB (K : PySem.W.Frag) : Bool := He.eqO (PySem.W.specialIn K (.builtin "object.__class__") "__get__") (some (some (.builtin "getset_descriptor.__get__"))) && decide (PySem.W.takesIn K (.builtin "object.__class__") = some true)
def insB (K : PySem.W.Frag) (C : Addr) : Bool := He.eqO (PySem.W.findIn K (.ref C) "__class__") (some (some (.builtin "object.__class__"))) && (decide (PySem.W.mroIn K C (.type "object") = some true) && tys6.all fun u => decide (PySem.W.subIn K (.ref C) (.type u) = some false))
theorem kit_sub {K : PySem.W.Frag} {C : Addr} {u : String} {b : Bool} (hu : u ∈ tys6) (h : PySem.W.subIn K (.ref C) (.type u) = some b) : PySem.W.kitOne K (.ref C) (.type u) = some b := by
  have km : ∀ u ∈ tys6, PySem.W.kitMeta u = true := by decide +kernel
  unfold PySem.W.kitOne
  rw [if_neg (show ¬ (Value.ref C == Value.type u) = true from fun z => by cases z)]
  show (if PySem.W.kitMeta u = true then PySem.W.subIn K (.ref C) (.type u) else none) = some b
  rw [if_pos (km u hu)]
  exact h
theorem insB_ok {K : PySem.W.Frag} {C : Addr} (g : glB K = true) (c : Cls K C) (h : insB K C = true) : InsK K C := by
  unfold insB at h
  unfold glB at g
  simp only [Bool.and_eq_true, decide_eq_true_eq, List.all_eq_true] at g h
  exact ⟨c, He.eqO_ok h.1, He.eqO_ok g.1, g.2, h.2.1, fun u hu => kit_sub hu (h.2.2 u hu)⟩
/-! ### exceptions -/
def classB (K : PySem.W.Frag) (C : Addr) (tl : List Value) (newId : String) : Bool := match K.lookup C with
  | some ⟨.type t, _, .cls cd, sl⟩ => decide (t = "type") && (cd.hasDict && (!cd.hasDel && (decide (cd.mro = .ref C :: tl) && (match sl.toList with
    | [_, _, _, _, some (.builtin n), _] => decide (n = newId)
    | _ => false))))
  | _ => false
/-- how a class is written -/
def Lin (K : PySem.W.Frag) (C : Addr) (tl : List Value) (newId : String) : Prop := ∃ (nm qn : Str) (N : Addr) (bs : List Value) (sn : List Str) (sub : List Value) (ab : Bool) (col : Option Bool) (dd : Option Addr) (k0 k1 k2 k3 k5 : Option Value),
  K.lookup C = some (excClassObj nm qn C N bs tl true sn sub ab col dd k0 k1 k2 k3 k5 newId)
theorem classB_ok {K : PySem.W.Frag} {C : Addr} {tl : List Value} {newId : String} (h : classB K C tl newId = true) : Lin K C tl newId := by
  unfold classB at h
  split at h
  · rename_i t dd cd sl ho
    simp only [Bool.and_eq_true, decide_eq_true_eq, Bool.not_eq_true'] at h
    obtain ⟨rfl, h1, h2, h3, h4⟩ := h
    split at h4
    · rename_i k0 k1 k2 k3 n k5 hs
      have en := of_decide_eq_true h4
      obtain ⟨nm, bs, mro, ns, qn, hd, sn, sub, ab, col, del⟩ := cd
      dsimp only at h1 h2 h3
      subst h1 h2 h3
      have hsl : sl = #[k0, k1, k2, k3, some (.builtin n), k5] := by
        obtain ⟨l⟩ := sl
        simp only at hs
        rw [hs]
      subst hsl
      exact ⟨nm, qn, ns, bs, sn, sub, ab, col, dd, k0, k1, k2, k3, k5, by rw [ho, en]⟩
    · cases h4
  · cases h
section
variable {K : PySem.W.Frag} {C Bc : Addr} {tl line : List Value} {newId : String}
theorem Lin.cls (h : Lin K C tl newId) : ∃ cd, PySem.W.clsIn K C = some cd ∧ cd.mro = .ref C :: tl ∧ cd.hasDict = true ∧ PySem.W.typeIn K (.ref C) = some (.type "type") := by
  obtain ⟨nm, qn, N, bs, sn, sub, ab, col, dd, k0, k1, k2, k3, k5, h⟩ := h
  refine ⟨_, (by unfold PySem.W.clsIn; rw [h]), rfl, rfl, ?_⟩
  show (K.lookup C).map (·.cls) = _
  rw [h]
  rfl
theorem Lin.own (h : Lin K C tl newId) (t : Value) {b : Bool} (e : (Value.ref C :: tl).contains t = b) : PySem.W.subIn K (.ref C) t = some b := by
  obtain ⟨cd, hc, hm, _⟩ := h.cls
  show PySem.W.mroIn K C t = some b
  unfold PySem.W.mroIn
  rw [hc, Option.bind_some, hm, e]
  rfl
theorem Lin.two (h : Lin K C tl newId) (ht : PySem.W.excTail line tl = true) : PySem.W.excInitIn K C line newId = true ∧ PySem.W.excOver K C line = true := by
  constructor
  · obtain ⟨nm, qn, N, bs, sn, sub, ab, col, dd, k0, k1, k2, k3, k5, h⟩ := h
    unfold PySem.W.excInitIn
    rw [h]
    simp [ht]
  · obtain ⟨cd, hc, hm, _⟩ := h.cls
    unfold PySem.W.excOver
    rw [hc, Option.any_some]
    simp only [hm]
    simp [ht]
/-- the three lines behind the package's bases -/
def lnN (i : Nat) : List Value := if i = 0 then valLine else if i = 1 then keyLine else lookLine
def nwN (i : Nat) : String := if i = 0 then "ValueError.__new__" else "LookupError.__new__"
theorem ln_ref (i : Nat) (a : Addr) (r : List Value) : lnN i ≠ .ref a :: r := fun z => by
  unfold lnN at z
  split at z
  · cases z
  · split at z <;> cases z
theorem ln_tail (i : Nat) : PySem.W.excTail (lnN i) (.ref Bc :: lnN i) = true := by
  show PySem.W.excTail (lnN i) (lnN i) = true
  unfold lnN
  split
  · decide +kernel
  · split <;> decide +kernel
theorem ln_base (i : Nat) : BaseX (nwN i) (lnN i) := by
  unfold nwN lnN
  split
  · exact baseV
  · split
    · exact baseK
    · exact baseL
/-- all that is asked of class C below Bc, kind i, the fields fs -/
def excB (K : PySem.W.Frag) (C Bc : Addr) (i : Nat) (fs : List Str) (fI : Addr) : Bool := classB K C (.ref Bc :: lnN i) (nwN i) && (He.eqO (PySem.W.findIn K (.ref C) "__setattr__") (some (some (.builtin "object.__setattr__"))) &&
  (He.eqO (PySem.W.findIn K (.ref C) "__getattribute__") (some (some (.builtin "BaseException.__getattribute__"))) && (He.eqO (PySem.W.findIn K (.ref C) "__getattr__") (some none) && (PySem.W.keepIn K (.ref C) &&
  (He.eqO (PySem.W.findIn K (.ref C) "__class__") (some (some (.builtin "object.__class__"))) && (He.eqO (PySem.W.findIn K (.ref C) "__init__") (some (some (.ref fI))) && (decide (PySem.W.typeIn K (.ref fI) = some (.type "function")) && fs.all fun f => He.eqO (PySem.W.findIn K (.ref C) f) (some none))))))))
/-- what is told of it -/
structure ExcK (K : PySem.W.Frag) (C Bc : Addr) (i : Nat) (fs : List Str) (fI : Addr) : Prop where
  ex : ExK K C
  no : ∀ f ∈ fs, PySem.W.findIn K (.ref C) f = some none
  ini : PySem.W.findIn K (.ref C) "__init__" = some (some (.ref fI))
  fn : PySem.W.typeIn K (.ref fI) = some (.type "function")
  lin : Lin K C (.ref Bc :: lnN i) (nwN i)
theorem ln_no (i : Nat) (C Bc : Addr) : ∀ u ∈ tys6, (Value.ref C :: Value.ref Bc :: lnN i).contains (.type u) = false := by
  have a1 : ∀ u ∈ tys6, ∀ l ∈ [valLine, keyLine, lookLine], l.contains (.type u) = false := by decide +kernel
  intro u hu
  have e1 : (Value.type u == Value.ref C) = false := rfl
  have e2 : (Value.type u == Value.ref Bc) = false := rfl
  rw [List.contains_cons, e1, Bool.false_or, List.contains_cons, e2, Bool.false_or]
  refine a1 u hu _ ?_
  unfold lnN
  split
  · simp
  · split <;> simp
theorem ExcK.kit {i : Nat} {fs : List Str} {fI : Addr} (h : ExcK K C Bc i fs fI) : ∀ u ∈ tys6, PySem.W.kitOne K (.ref C) (.type u) = some false := fun u hu => kit_sub hu (h.lin.own _ (ln_no i C Bc u hu))
theorem excB_ok {i : Nat} {fs : List Str} {fI : Addr} (g : glB K = true) (h : excB K C Bc i fs fI = true) : ExcK K C Bc i fs fI := by
  unfold excB at h
  unfold glB at g
  simp only [Bool.and_eq_true, decide_eq_true_eq, List.all_eq_true] at g h
  obtain ⟨h1, sa, ga, gg, kc, ha, hi, hf, hfs⟩ := h
  have L := classB_ok h1
  obtain ⟨cd, hc, hm, hd, hty⟩ := L.cls
  have lb : ∀ l ∈ [valLine, keyLine, lookLine], l.contains (.type "BaseException") = true ∧ l.contains (.type "object") = true := by decide +kernel
  have hl : lnN i ∈ [valLine, keyLine, lookLine] := by
    unfold lnN
    split
    · simp
    · split <;> simp
  have up : ∀ t, (lnN i).contains (.type t) = true → (Value.ref C :: Value.ref Bc :: lnN i).contains (.type t) = true := fun t e => by
    rw [List.contains_cons, List.contains_cons, e]
    simp
  refine ⟨⟨⟨_, _, ln_base i, L.two (ln_tail i)⟩, He.eqO_ok sa, He.eqO_ok ga, He.eqO_ok gg, L.own _ (up _ (lb _ hl).1), hty, ?_, kc, He.eqO_ok ha, He.eqO_ok g.1, g.2, L.own _ (up _ (lb _ hl).2)⟩, fun f hf => He.eqO_ok (hfs f hf), He.eqO_ok hi, hf, L⟩
  unfold PySem.W.hasDictIn
  rw [hc, Option.any_some]
  exact hd
end
/-! ### the run's hook -/
/-- the addresses that are looked at: the module's names, their classes' bodies, what stands in them, code, defaults, the table of modules -/
def refsR (o : Obj) : List Addr := match o.data with
  | .cls cd => [cd.ns]
  | .func fd => He.refV fd.code ++ (He.refV fd.defaults ++ He.refV fd.kwdefaults)
  | .seq its _ => its.toList.flatMap He.refV
  | _ => []
def dictR (o : Obj) : List Addr := match o.data with
  | .dict es _ => es.toList.flatMap fun e => He.refV e.val
  | _ => []
def viaR (g : Addr → Option Obj) (f : Obj → List Addr) (as : List Addr) : List Addr := as.flatMap fun a => match g a with
  | some o => f o
  | none => []
def asR (g : Addr → Option Obj) : List Addr :=
  let l1 := viaR g dictR [mainGlobals]
  let l2 := viaR g refsR l1
  let l3 := viaR g dictR l2
  let l4 := viaR g refsR l2
  let l5 := viaR g refsR l3
  sysModules :: mainGlobals :: (l1 ++ (l2 ++ (l3 ++ (l4 ++ (l5 ++ viaR g refsR l5)))))
abbrev AlR : Type := He.AlD × Bool
def obsR (fa : List He.Fa) (fn : List He.DefD) (ex : PySem.W.Frag → Bool) (g : Addr → Option Obj) : AlR := (He.obsD fa fn (He.frG g (asR g)), ex (He.frG g (asR g)))
def hookR (fa : List He.Fa) (fn : List He.DefD) (ex : PySem.W.Frag → Bool) : PySem.W.Hook where
  α := AlR
  obs := fun s => obsR fa fn ex s.heap.get?
  val := fun _ => (He.valD fn, true)
  says := fun _ h => ∃ K : PySem.W.Frag, K.In h ∧ He.SaysD fa fn K ∧ ex K = true
  of := fun _ s e => ⟨_, He.frG_in, congrArg (fun z : AlR => z.1) e, congrArg (fun z : AlR => z.2) e⟩
  keeps := fun _ _ _ ⟨K, hK, c⟩ k => ⟨K, PySem.W.Frag.In.keeps hK k, c⟩
theorem obsR_eq {fa : List He.Fa} {fn : List He.DefD} {ex : PySem.W.Frag → Bool} {g : Addr → Option Obj} {s : Shared} (h : ∀ a, g a = s.heap.get? a) : obsR fa fn ex g = (hookR fa fn ex).obs s := by
  have e : g = s.heap.get? := funext h
  rw [e] <;> rfl
end Tp
set_option Elab.async false
set_option linter.all false
set_option maxRecDepth 100000
set_option maxHeartbeats 4000000
namespace T31
open PySem PySem.Spec PyProof.Rows L2 Tp
abbrev sEn : Stmt := inClass (top 2) 0
abbrev sEl : Stmt := inClass (top 3) 0
section
variable {P : Program} {w : World} {K : PySem.W.Frag} {mg : Str → Option Value} {base : Heap} {f : Addr} {fd : FuncData}
theorem scEn : FnScope ["self", "value"] ["self", "value"] (defScope sEn) := ⟨rfl, rfl, rfl, by decide +kernel, rfl, by decide +kernel, by decide +kernel⟩
theorem ok_En {C : Addr} (F : Fun K "__init__" "InvalidName.__init__" sEn f fd) (T : ExK K C) (n0 : PySem.W.findIn K (.ref C) "value" = some none) : FnOk P w K mg base CX0 1 f fd ["self", "value"] (spI C ["value"]) := by
  exact F.ok scEn (fun vs H Q E h => ini_len h) (fun cdv A outer s H vs Q E hr h => by
    obtain ⟨a, x, rfl, q⟩ := ini1 h
    exact ⟨_, PSs.nox (pss_one (ps_osx (pv 0) (pv 1))), _, rfl, _, rfl, q T n0⟩)
theorem scEl : FnScope ["self", "value"] ["self", "value"] (defScope sEl) := ⟨rfl, rfl, rfl, by decide +kernel, rfl, by decide +kernel, by decide +kernel⟩
theorem ok_El {C : Addr} (F : Fun K "__init__" "InvalidLags.__init__" sEl f fd) (T : ExK K C) (n0 : PySem.W.findIn K (.ref C) "value" = some none) : FnOk P w K mg base CX0 1 f fd ["self", "value"] (spI C ["value"]) := by
  exact F.ok scEl (fun vs H Q E h => ini_len h) (fun cdv A outer s H vs Q E hr h => by
    obtain ⟨a, x, rfl, q⟩ := ini1 h
    exact ⟨_, PSs.nox (pss_one (ps_osx (pv 0) (pv 1))), _, rfl, _, rfl, q T n0⟩)
end
def giB (K : PySem.W.Frag) (C : Addr) : Bool := match PySem.W.findIn K (.ref C) "__getitem__" with
  | some (some (.ref f)) => PySem.W.fnIn K f
  | _ => false
def lagB (K : PySem.W.Frag) (C : Addr) : Bool := PySem.W.selfFirst K C && (He.eqO (PySem.W.findIn K (.ref C) "__ne__") (some (some (.builtin "object.__ne__"))) && (decide (PySem.W.subIn K (.ref C) (.type "object") = some true) && (decide (PySem.W.kitOne K (.ref C) (.ref C) = some true) &&
  (decide (PySem.W.kitOne K (.type "dict") (.ref C) = some false) && (decide (PySem.W.subIn K (.type "dict") (.ref C) = some false) && giB K C)))))
def xcB (K : PySem.W.Frag) (CE CL CN : Addr) : Bool := decide (PySem.W.exmOne K (.ref CL) (.ref CL) = some true) && (decide (PySem.W.exmOne K (.ref CN) (.ref CL) = some false) && (decide (PySem.W.exmOne K (.ref CN) (.ref CN) = some true) && (decide (PySem.W.kitOne K (.ref CL) (.ref CE) = some true) && decide (PySem.W.kitOne K (.ref CN) (.ref CE) = some true))))
theorem lagB_1 {K : PySem.W.Frag} {C : Addr} (h : lagB K C = true) (cl : Cls K C) (no : NoAttr K C "_rows") : TxtLg K C := by
  unfold lagB at h
  simp only [Bool.and_eq_true, decide_eq_true_eq] at h
  obtain ⟨h1, h2, h3, h4, h5, h6, h7⟩ := h
  exact ⟨cl, no, h1, He.eqO_ok h2, h3⟩
theorem lagB_2 {K : PySem.W.Frag} {C : Addr} (h : lagB K C = true) (ik : InsK K C) : TxtL2 K C := by
  unfold lagB at h
  simp only [Bool.and_eq_true, decide_eq_true_eq] at h
  obtain ⟨h1, h2, h3, h4, h5, h6, h7⟩ := h
  refine ⟨ik, h4, h5, h6, fun f hf => ?_⟩
  unfold giB at h7
  rw [hf] at h7
  exact h7
theorem xcB_ok {K : PySem.W.Frag} {CE CL CN : Addr} (h : xcB K CE CL CN = true) (xL : ExK K CL) (xN : ExK K CN) (fl : PySem.W.findIn K (.ref CL) "value" = some none) (fn : PySem.W.findIn K (.ref CN) "value" = some none) : TxtX K CE CL CN := by
  unfold xcB at h
  simp only [Bool.and_eq_true, decide_eq_true_eq] at h
  obtain ⟨h1, h2, h3, h4, h5⟩ := h
  exact ⟨xL, xN, h1, h2, h3, h4, h5, fl, fn⟩
end T31
set_option Elab.async false
set_option linter.all false
set_option maxRecDepth 100000
set_option maxHeartbeats 8000000
namespace T31
open PySem PySem.Spec PyProof.Rows L2 Tp
theorem rel_int {mg : Str → Option Value} {x : Str} {i : Int} (h : ∃ t, mg x = some (.int i t)) : ∃ u, mg x = some u ∧ RelV (.int i) u := let ⟨t, e⟩ := h; ⟨_, e, t, rfl⟩
theorem rel_str {mg : Str → Option Value} {x z : Str} (h : ∃ t, mg x = some (.str z t)) : ∃ u, mg x = some u ∧ RelV (.str z) u := let ⟨t, e⟩ := h; ⟨_, e, t, rfl⟩
def fnL : List He.DefD := [dfn "_law_cell" sCell,
  dfn "_law_bag" sBox,
  dfn "_law_take" sTake,
  dfn "_law_drawn" sWdr,
  dfn "_law_rows" sWlr,
  dfn "_law_joined" sWjo,
  dfn "_law_caught" sWca,
  dfn "_law_right" sWri,
  dfn "law" sWl,
  dfn "is_whole" sVw,
  dfn "is_name" sVn,
  dfn "_are_lags" sLar,
  dfn "_names_of" sLno,
  dmt "Lags" "__init__" "Lags.__init__" sLin,
  dmt "Lags" "__getitem__" "Lags.__getitem__" sLgi,
  dmt "Lags" "rows" "Lags.rows" sLro,
  dmt "Lags" "__eq__" "Lags.__eq__" sLeq,
  dmt "Lags" "__or__" "Lags.__or__" sLor,
  dmt "Lags" "__and__" "Lags.__and__" sLan,
  dmt "Lags" "__add__" "Lags.__add__" sLad,
  dmt "Lags" "__sub__" "Lags.__sub__" sLsu,
  dmt "Lags" "__neg__" "Lags.__neg__" sLng,
  dmt "Lags" "__abs__" "Lags.__abs__" sLab,
  dmt "Lags" "is_below" "Lags.is_below" sLbl,
  dmt "InvalidName" "__init__" "InvalidName.__init__" sEn,
  dmt "InvalidLags" "__init__" "InvalidLags.__init__" sEl]
def fa0 : List He.Fa := [.free "isinstance", .free "int", .free "bool", .free "str", .free "dict", .free "len", .free "all", .free "sum", .str "LETTERS" "abcdefghijklmnopqrstuvwxyz", .str "DIGITS" "0123456789", .int "LONGEST_NAME" 8, .free "range", .free "max", .free "min", .free "zip", .free "list", .free "repr", .free "sorted", .free "abs", .cls "Lags", .noat "Lags" "_rows", .glo "InvalidName", .glo "InvalidLags", .glo "is_whole", .glo "is_name", .glo "_are_lags", .mkr "Lags", .glo "Lags", .meth "Lags" "__getitem__", .meth "Lags" "rows"]
def fa1 : List He.Fa := [.meth "Lags" "__eq__", .glo "_names_of", .meth "Lags" "__or__", .meth "Lags" "__and__", .meth "Lags" "__add__", .meth "Lags" "__sub__", .meth "Lags" "__neg__", .meth "Lags" "__abs__", .meth "Lags" "is_below", .glo "_law_cell", .glo "_law_bag", .glo "_law_take", .glo "_law_drawn", .glo "_law_rows", .glo "_law_joined", .glo "NetError", .glo "_law_caught", .glo "_law_right", .glo "law"]
def faL : List He.Fa := fa0 ++ (fa1)
def exB (K : PySem.W.Frag) : Bool := (glB K) && ((smB K) && ((insB K (He.ga K "Lags")) && ((lagB K (He.ga K "Lags")) && ((xcB K (He.ga K "NetError") (He.ga K "InvalidLags") (He.ga K "InvalidName")) && ((excB K (He.ga K "InvalidName") (He.ga K "NetError") 0 ["value"] (He.fAd K ("InvalidName", some "__init__"))) && ((excB K (He.ga K "InvalidLags") (He.ga K "NetError") 0 ["value"] (He.fAd K ("InvalidLags", some "__init__")))))))))
theorem all2 {l : PySem.W.OpenLaw} {w : World} {K : PySem.W.Frag} {h : Heap} {mg : Str → Option Value} {fa : Addr} (X : K.In h) (G : h.Ns mainGlobals mg) (hfa : mg "law" = some (.ref fa)) (cd : He.SaysD faL fnL K) (ex : exB K = true) :
    ∃ fd : FuncData, (∀ (s : Shared) (v : Value), BindsTo s fd ⟨[v], []⟩ [("_law_script", v)]) ∧ ∀ base : Heap, K.In base → base.Ns mainGlobals mg → FnG l.prog w K mg base CX0 8 fa fd ["_law_script"] (spLaw K) := by
  obtain ⟨fd_cell, D_cell⟩ := cd.def_ 0 (d := dfn "_law_cell" sCell) rfl
  have F_cell : Fun K "_law_cell" "_law_cell" sCell (He.ga K "_law_cell") fd_cell := fun_of D_cell
  have b_cell := F_cell.binds (ps := ["_law_script", "_law_index"]) fun _ _ _ _ _ _ us hl => match us, hl with | [_, _], _ => rfl
  obtain ⟨fd_bag, D_bag⟩ := cd.def_ 1 (d := dfn "_law_bag" sBox) rfl
  have F_bag : Fun K "_law_bag" "_law_bag" sBox (He.ga K "_law_bag") fd_bag := fun_of D_bag
  have b_bag := F_bag.binds (ps := ["_law_cell_here"]) fun _ _ _ _ _ _ us hl => match us, hl with | [_], _ => rfl
  obtain ⟨fd_take, D_take⟩ := cd.def_ 2 (d := dfn "_law_take" sTake) rfl
  have F_take : Fun K "_law_take" "_law_take" sTake (He.ga K "_law_take") fd_take := fun_of D_take
  have b_take := F_take.binds (ps := ["_law_bag_here", "_law_many"]) fun _ _ _ _ _ _ us hl => match us, hl with | [_, _], _ => rfl
  obtain ⟨fd_drawn, D_drawn⟩ := cd.def_ 3 (d := dfn "_law_drawn" sWdr) rfl
  have F_drawn : Fun K "_law_drawn" "_law_drawn" sWdr (He.ga K "_law_drawn") fd_drawn := fun_of D_drawn
  have b_drawn := F_drawn.binds (ps := ["_law_bag_here"]) fun _ _ _ _ _ _ us hl => match us, hl with | [_], _ => rfl
  obtain ⟨fd_lrows, D_lrows⟩ := cd.def_ 4 (d := dfn "_law_rows" sWlr) rfl
  have F_lrows : Fun K "_law_rows" "_law_rows" sWlr (He.ga K "_law_rows") fd_lrows := fun_of D_lrows
  have b_lrows := F_lrows.binds (ps := ["_law_rows_here"]) fun _ _ _ _ _ _ us hl => match us, hl with | [_], _ => rfl
  obtain ⟨fd_join, D_join⟩ := cd.def_ 5 (d := dfn "_law_joined" sWjo) rfl
  have F_join : Fun K "_law_joined" "_law_joined" sWjo (He.ga K "_law_joined") fd_join := fun_of D_join
  have b_join := F_join.binds (ps := ["_law_one", "_law_other", "_law_way"]) fun _ _ _ _ _ _ us hl => match us, hl with | [_, _, _], _ => rfl
  obtain ⟨fd_caught, D_caught⟩ := cd.def_ 6 (d := dfn "_law_caught" sWca) rfl
  have F_caught : Fun K "_law_caught" "_law_caught" sWca (He.ga K "_law_caught") fd_caught := fun_of D_caught
  have b_caught := F_caught.binds (ps := ["_law_door", "_law_thing"]) fun _ _ _ _ _ _ us hl => match us, hl with | [_, _], _ => rfl
  obtain ⟨fd_right, D_right⟩ := cd.def_ 7 (d := dfn "_law_right" sWri) rfl
  have F_right : Fun K "_law_right" "_law_right" sWri (He.ga K "_law_right") fd_right := fun_of D_right
  have b_right := F_right.binds (ps := ["_law_lags", "_law_rows_here"]) fun _ _ _ _ _ _ us hl => match us, hl with | [_, _], _ => rfl
  obtain ⟨fd_law, D_law⟩ := cd.def_ 8 (d := dfn "law" sWl) rfl
  have F_law : Fun K "law" "law" sWl (He.ga K "law") fd_law := fun_of D_law
  have b_law := F_law.binds (ps := ["_law_script"]) fun _ _ _ _ _ _ us hl => match us, hl with | [_], _ => rfl
  obtain ⟨fd_whole, D_whole⟩ := cd.def_ 9 (d := dfn "is_whole" sVw) rfl
  have F_whole : Fun K "is_whole" "is_whole" sVw (He.ga K "is_whole") fd_whole := fun_of D_whole
  have b_whole := F_whole.binds (ps := ["value"]) fun _ _ _ _ _ _ us hl => match us, hl with | [_], _ => rfl
  obtain ⟨fd_name, D_name⟩ := cd.def_ 10 (d := dfn "is_name" sVn) rfl
  have F_name : Fun K "is_name" "is_name" sVn (He.ga K "is_name") fd_name := fun_of D_name
  have b_name := F_name.binds (ps := ["value"]) fun _ _ _ _ _ _ us hl => match us, hl with | [_], _ => rfl
  obtain ⟨fd_are, D_are⟩ := cd.def_ 11 (d := dfn "_are_lags" sLar) rfl
  have F_are : Fun K "_are_lags" "_are_lags" sLar (He.ga K "_are_lags") fd_are := fun_of D_are
  have b_are := F_are.binds (ps := ["value"]) fun _ _ _ _ _ _ us hl => match us, hl with | [_], _ => rfl
  obtain ⟨fd_names, D_names⟩ := cd.def_ 12 (d := dfn "_names_of" sLno) rfl
  have F_names : Fun K "_names_of" "_names_of" sLno (He.ga K "_names_of") fd_names := fun_of D_names
  have b_names := F_names.binds (ps := ["one", "other"]) fun _ _ _ _ _ _ us hl => match us, hl with | [_, _], _ => rfl
  obtain ⟨fd_init, D_init⟩ := cd.def_ 13 (d := dmt "Lags" "__init__" "Lags.__init__" sLin) rfl
  have F_init : Fun K "__init__" "Lags.__init__" sLin (He.fAd K ("Lags", some "__init__")) fd_init := fun_of D_init
  have b_init := F_init.binds (ps := ["self", "rows"]) fun _ _ _ _ _ _ us hl => match us, hl with | [_, _], _ => rfl
  obtain ⟨fd_gi, D_gi⟩ := cd.def_ 14 (d := dmt "Lags" "__getitem__" "Lags.__getitem__" sLgi) rfl
  have F_gi : Fun K "__getitem__" "Lags.__getitem__" sLgi (He.fAd K ("Lags", some "__getitem__")) fd_gi := fun_of D_gi
  have b_gi := F_gi.binds (ps := ["self", "name"]) fun _ _ _ _ _ _ us hl => match us, hl with | [_, _], _ => rfl
  obtain ⟨fd_ro, D_ro⟩ := cd.def_ 15 (d := dmt "Lags" "rows" "Lags.rows" sLro) rfl
  have F_ro : Fun K "rows" "Lags.rows" sLro (He.fAd K ("Lags", some "rows")) fd_ro := fun_of D_ro
  have b_ro := F_ro.binds (ps := ["self"]) fun _ _ _ _ _ _ us hl => match us, hl with | [_], _ => rfl
  obtain ⟨fd_eq, D_eq⟩ := cd.def_ 16 (d := dmt "Lags" "__eq__" "Lags.__eq__" sLeq) rfl
  have F_eq : Fun K "__eq__" "Lags.__eq__" sLeq (He.fAd K ("Lags", some "__eq__")) fd_eq := fun_of D_eq
  have b_eq := F_eq.binds (ps := ["self", "other"]) fun _ _ _ _ _ _ us hl => match us, hl with | [_, _], _ => rfl
  obtain ⟨fd_or, D_or⟩ := cd.def_ 17 (d := dmt "Lags" "__or__" "Lags.__or__" sLor) rfl
  have F_or : Fun K "__or__" "Lags.__or__" sLor (He.fAd K ("Lags", some "__or__")) fd_or := fun_of D_or
  have b_or := F_or.binds (ps := ["self", "other"]) fun _ _ _ _ _ _ us hl => match us, hl with | [_, _], _ => rfl
  obtain ⟨fd_an, D_an⟩ := cd.def_ 18 (d := dmt "Lags" "__and__" "Lags.__and__" sLan) rfl
  have F_an : Fun K "__and__" "Lags.__and__" sLan (He.fAd K ("Lags", some "__and__")) fd_an := fun_of D_an
  have b_an := F_an.binds (ps := ["self", "other"]) fun _ _ _ _ _ _ us hl => match us, hl with | [_, _], _ => rfl
  obtain ⟨fd_ad, D_ad⟩ := cd.def_ 19 (d := dmt "Lags" "__add__" "Lags.__add__" sLad) rfl
  have F_ad : Fun K "__add__" "Lags.__add__" sLad (He.fAd K ("Lags", some "__add__")) fd_ad := fun_of D_ad
  have b_ad := F_ad.binds (ps := ["self", "other"]) fun _ _ _ _ _ _ us hl => match us, hl with | [_, _], _ => rfl
  obtain ⟨fd_su, D_su⟩ := cd.def_ 20 (d := dmt "Lags" "__sub__" "Lags.__sub__" sLsu) rfl
  have F_su : Fun K "__sub__" "Lags.__sub__" sLsu (He.fAd K ("Lags", some "__sub__")) fd_su := fun_of D_su
  have b_su := F_su.binds (ps := ["self", "other"]) fun _ _ _ _ _ _ us hl => match us, hl with | [_, _], _ => rfl
  obtain ⟨fd_ng, D_ng⟩ := cd.def_ 21 (d := dmt "Lags" "__neg__" "Lags.__neg__" sLng) rfl
  have F_ng : Fun K "__neg__" "Lags.__neg__" sLng (He.fAd K ("Lags", some "__neg__")) fd_ng := fun_of D_ng
  have b_ng := F_ng.binds (ps := ["self"]) fun _ _ _ _ _ _ us hl => match us, hl with | [_], _ => rfl
  obtain ⟨fd_ab, D_ab⟩ := cd.def_ 22 (d := dmt "Lags" "__abs__" "Lags.__abs__" sLab) rfl
  have F_ab : Fun K "__abs__" "Lags.__abs__" sLab (He.fAd K ("Lags", some "__abs__")) fd_ab := fun_of D_ab
  have b_ab := F_ab.binds (ps := ["self"]) fun _ _ _ _ _ _ us hl => match us, hl with | [_], _ => rfl
  obtain ⟨fd_bl, D_bl⟩ := cd.def_ 23 (d := dmt "Lags" "is_below" "Lags.is_below" sLbl) rfl
  have F_bl : Fun K "is_below" "Lags.is_below" sLbl (He.fAd K ("Lags", some "is_below")) fd_bl := fun_of D_bl
  have b_bl := F_bl.binds (ps := ["self", "other"]) fun _ _ _ _ _ _ us hl => match us, hl with | [_, _], _ => rfl
  obtain ⟨fd_en, D_en⟩ := cd.def_ 24 (d := dmt "InvalidName" "__init__" "InvalidName.__init__" sEn) rfl
  have F_en : Fun K "__init__" "InvalidName.__init__" sEn (He.fAd K ("InvalidName", some "__init__")) fd_en := fun_of D_en
  have b_en := F_en.binds (ps := ["self", "value"]) fun _ _ _ _ _ _ us hl => match us, hl with | [_, _], _ => rfl
  obtain ⟨fd_el, D_el⟩ := cd.def_ 25 (d := dmt "InvalidLags" "__init__" "InvalidLags.__init__" sEl) rfl
  have F_el : Fun K "__init__" "InvalidLags.__init__" sEl (He.fAd K ("InvalidLags", some "__init__")) fd_el := fun_of D_el
  have b_el := F_el.binds (ps := ["self", "value"]) fun _ _ _ _ _ _ us hl => match us, hl with | [_, _], _ => rfl
  have e := hfa.symm.trans (He.glo_ok X G (cd.fact 48 (f := .glo "law") rfl))
  cases e
  unfold exB at ex
  simp only [Bool.and_eq_true] at ex
  obtain ⟨x_gl, x_sm, x_ins, x_lag, x_xc, x_xn, x_xl⟩ := ex
  refine ⟨fd_law, fun s v => ?_, fun base _ _ => ?_⟩
  · obtain ⟨oc, od, kV, doc, pm, an, cdv, ct, osl, rfl, lk, hcd⟩ := F_law.ex
    exact .of_eq rfl
  · have S : Sm K := smB_ok x_sm
    have TV : TxtV mg := ⟨He.free_ok X G (cd.fact 0 (f := .free "isinstance") rfl), He.free_ok X G (cd.fact 1 (f := .free "int") rfl), He.free_ok X G (cd.fact 2 (f := .free "bool") rfl), He.free_ok X G (cd.fact 3 (f := .free "str") rfl), He.free_ok X G (cd.fact 4 (f := .free "dict") rfl), He.free_ok X G (cd.fact 5 (f := .free "len") rfl), He.free_ok X G (cd.fact 6 (f := .free "all") rfl), He.free_ok X G (cd.fact 7 (f := .free "sum") rfl), rel_str (He.str_ok X G (cd.fact 8 (f := .str "LETTERS" "abcdefghijklmnopqrstuvwxyz") rfl)), rel_str (He.str_ok X G (cd.fact 9 (f := .str "DIGITS" "0123456789") rfl)), rel_int (He.int_ok X G (cd.fact 10 (f := .int "LONGEST_NAME" 8) rfl))⟩
    have TW : TxtW mg := ⟨He.free_ok X G (cd.fact 11 (f := .free "range") rfl), He.free_ok X G (cd.fact 12 (f := .free "max") rfl), He.free_ok X G (cd.fact 13 (f := .free "min") rfl), He.free_ok X G (cd.fact 5 (f := .free "len") rfl), He.free_ok X G (cd.fact 14 (f := .free "zip") rfl), He.free_ok X G (cd.fact 15 (f := .free "list") rfl), He.free_ok X G (cd.fact 0 (f := .free "isinstance") rfl), He.free_ok X G (cd.fact 4 (f := .free "dict") rfl), He.free_ok X G (cd.fact 16 (f := .free "repr") rfl), He.free_ok X G (cd.fact 17 (f := .free "sorted") rfl), He.free_ok X G (cd.fact 18 (f := .free "abs") rfl), He.free_ok X G (cd.fact 7 (f := .free "sum") rfl)⟩
    have cl : Cls K (He.ga K "Lags") := He.cls_ok (cd.fact 19 (f := .cls "Lags") rfl)
    have TB : TxtLg K (He.ga K "Lags") := lagB_1 x_lag cl (He.noat_ok (cd.fact 20 (f := .noat "Lags" "_rows") rfl))
    have T2 : TxtL2 K (He.ga K "Lags") := lagB_2 x_lag (insB_ok x_gl cl x_ins)
    have eN := excB_ok x_gl x_xn
    have eL := excB_ok x_gl x_xl
    have TX : TxtX K (He.ga K "NetError") (He.ga K "InvalidLags") (He.ga K "InvalidName") := xcB_ok x_xc eL.ex eN.ex (eL.no _ (by simp)) (eN.no _ (by simp))
    have XN : Cx1 l.prog w K mg base "InvalidName" (He.ga K "InvalidName") 1 [] (spI (He.ga K "InvalidName") ["value"]) (fun vs _ => vs) := ⟨⟨_, _, _, _, eN.ex, He.glo_ok X G (cd.fact 21 (f := .glo "InvalidName") rfl), eN.ini, eN.fn, ok_En F_en eN.ex (eN.no _ (by simp)), kb_of F_en (fun _ _ _ _ _ _ us ws l1 l2 => match us, ws, l1, l2 with | [_, _], [], _, _ => rfl) (g := fun us _ => us) fun r1 r2 => r1⟩⟩
    have XL : Cx1 l.prog w K mg base "InvalidLags" (He.ga K "InvalidLags") 1 [] (spI (He.ga K "InvalidLags") ["value"]) (fun vs _ => vs) := ⟨⟨_, _, _, _, eL.ex, He.glo_ok X G (cd.fact 22 (f := .glo "InvalidLags") rfl), eL.ini, eL.fn, ok_El F_el eL.ex (eL.no _ (by simp)), kb_of F_el (fun _ _ _ _ _ _ us ws l1 l2 => match us, ws, l1, l2 with | [_, _], [], _, _ => rfl) (g := fun us _ => us) fun r1 r2 => r1⟩⟩
    have cW : Cg l.prog w K mg base 1 "is_whole" (spWhole K) := .mk' F_whole (ok_whole F_whole TV) (He.glo_ok X G (cd.fact 23 (f := .glo "is_whole") rfl)) b_whole
    have cN : Cg l.prog w K mg base 1 "is_name" (spName K) := .mk' F_name (ok_name F_name TV) (He.glo_ok X G (cd.fact 24 (f := .glo "is_name") rfl)) b_name
    have cA : Cg l.prog w K mg base 2 "_are_lags" (spAre K) := .mk' F_are (ok_are F_are TV cN cW) (He.glo_ok X G (cd.fact 25 (f := .glo "_are_lags") rfl)) b_are
    have CM : Cmr l.prog w K mg base 3 "Lags" (He.ga K "Lags") [] (spInit K (He.ga K "Lags") (He.ga K "InvalidLags")) := ⟨⟨_, _, _, _, He.mkr_ok (cd.fact 26 (f := .mkr "Lags") rfl), ok_linit F_init TB cA XL, He.glo_ok X G (cd.fact 27 (f := .glo "Lags") rfl), b_init, .nil⟩⟩
    have GI : Ctr l.prog w K mg base 3 (He.ga K "Lags") "__getitem__" [] (spItem K (He.ga K "Lags") (He.ga K "InvalidName")) := ⟨⟨_, _, _, _, cl, He.meth_ok (cd.fact 28 (f := .meth "Lags" "__getitem__") rfl), ok_item F_gi TB cN XN, b_gi, .nil⟩⟩
    have RW : Ct l.prog w K mg base 1 (He.ga K "Lags") "rows" [] (spRows (He.ga K "Lags")) := ⟨⟨_, _, _, _, cl, He.meth_ok (cd.fact 29 (f := .meth "Lags" "rows") rfl), ok_rows F_ro TV TB, b_ro, .nil⟩⟩
    have EQ : Ct l.prog w K mg base 1 (He.ga K "Lags") "__eq__" [] (spEqL K (He.ga K "Lags")) := ⟨⟨_, _, _, _, cl, He.meth_ok (cd.fact 30 (f := .meth "Lags" "__eq__") rfl), ok_leq F_eq TV TB T2 (He.glo_ok X G (cd.fact 27 (f := .glo "Lags") rfl)), b_eq, .nil⟩⟩
    have NO : Cg l.prog w K mg base 1 "_names_of" (spNames (He.ga K "Lags")) := .mk' F_names (ok_names F_names TB) (He.glo_ok X G (cd.fact 31 (f := .glo "_names_of") rfl)) b_names
    have OR : Ct l.prog w K mg base 5 (He.ga K "Lags") "__or__" [] (spBin (He.ga K "Lags") (fun a b => if b > a then b else a)) := ⟨⟨_, _, _, _, cl, He.meth_ok (cd.fact 32 (f := .meth "Lags" "__or__") rfl), ok_or F_or TW.max TB T2 NO GI CM, b_or, .nil⟩⟩
    have AN : Ct l.prog w K mg base 5 (He.ga K "Lags") "__and__" [] (spBin (He.ga K "Lags") (fun a b => if b < a then b else a)) := ⟨⟨_, _, _, _, cl, He.meth_ok (cd.fact 33 (f := .meth "Lags" "__and__") rfl), ok_an F_an TW.min TB T2 NO GI CM, b_an, .nil⟩⟩
    have AD : Ct l.prog w K mg base 5 (He.ga K "Lags") "__add__" [] (spBin (He.ga K "Lags") (fun a b => a + b)) := ⟨⟨_, _, _, _, cl, He.meth_ok (cd.fact 34 (f := .meth "Lags" "__add__") rfl), ok_ad F_ad TB T2 NO GI CM, b_ad, .nil⟩⟩
    have SU : Ct l.prog w K mg base 5 (He.ga K "Lags") "__sub__" [] (spBin (He.ga K "Lags") (fun a b => a - b)) := ⟨⟨_, _, _, _, cl, He.meth_ok (cd.fact 35 (f := .meth "Lags" "__sub__") rfl), ok_su F_su TB T2 NO GI CM, b_su, .nil⟩⟩
    have NG : Ct l.prog w K mg base 5 (He.ga K "Lags") "__neg__" [] (spNeg (He.ga K "Lags")) := ⟨⟨_, _, _, _, cl, He.meth_ok (cd.fact 36 (f := .meth "Lags" "__neg__") rfl), ok_neg F_ng TB T2 NO GI CM, b_ng, .nil⟩⟩
    have AB : Ct l.prog w K mg base 5 (He.ga K "Lags") "__abs__" [] (spAbs (He.ga K "Lags")) := ⟨⟨_, _, _, _, cl, He.meth_ok (cd.fact 37 (f := .meth "Lags" "__abs__") rfl), ok_abs F_ab TV TW.abs TB, b_ab, .nil⟩⟩
    have BL : Ct l.prog w K mg base 5 (He.ga K "Lags") "is_below" [] (spBelow (He.ga K "Lags")) := ⟨⟨_, _, _, _, cl, He.meth_ok (cd.fact 38 (f := .meth "Lags" "is_below") rfl), ok_below F_bl TV TB T2 NO GI CM, b_bl, .nil⟩⟩
    have CE : Cg l.prog w K mg base 1 "_law_cell" (Tp.spCellT K) := .mk' F_cell (ok_cell F_cell TW.len) (He.glo_ok X G (cd.fact 39 (f := .glo "_law_cell") rfl)) b_cell
    have BG : Cg l.prog w K mg base 1 "_law_bag" spBox := .mk' F_bag (ok_box F_bag TW.max) (He.glo_ok X G (cd.fact 40 (f := .glo "_law_bag") rfl)) b_bag
    have TK : Cg l.prog w K mg base 1 "_law_take" spTake := .mk' F_take (ok_take F_take) (He.glo_ok X G (cd.fact 41 (f := .glo "_law_take") rfl)) b_take
    have DR : Cg l.prog w K mg base 2 "_law_drawn" spDrawn := .mk' F_drawn (ok_drawn F_drawn TW TK) (He.glo_ok X G (cd.fact 42 (f := .glo "_law_drawn") rfl)) b_drawn
    have LR : Cg l.prog w K mg base 1 "_law_rows" spLRows := .mk' F_lrows (ok_lrows F_lrows) (He.glo_ok X G (cd.fact 43 (f := .glo "_law_rows") rfl)) b_lrows
    have JO : Cg l.prog w K mg base 2 "_law_joined" spJoin := .mk' F_join (ok_join F_join TW LR) (He.glo_ok X G (cd.fact 44 (f := .glo "_law_joined") rfl)) b_join
    have CA : Cg l.prog w K mg base 5 "_law_caught" (spCaught K) := .mk' F_caught (ok_caught F_caught TW T2 TX (He.glo_ok X G (cd.fact 45 (f := .glo "NetError") rfl)) (He.glo_ok X G (cd.fact 22 (f := .glo "InvalidLags") rfl)) (He.glo_ok X G (cd.fact 21 (f := .glo "InvalidName") rfl)) CM RW GI) (He.glo_ok X G (cd.fact 46 (f := .glo "_law_caught") rfl)) b_caught
    have RI : Cg l.prog w K mg base 7 "_law_right" (spRight (He.ga K "Lags")) := .mk' F_right (ok_right F_right S TW TB T2 LR RW GI CM NG AB EQ) (He.glo_ok X G (cd.fact 47 (f := .glo "_law_right") rfl)) b_right
    exact ok_law (CEe := 0) (CN := 0) F_law S TW TB T2 CE BG TK DR LR JO CA RI RW CM AB EQ BL OR AN AD SU
end T31
set_option Elab.async false
set_option linter.all false
set_option maxRecDepth 100000
set_option maxHeartbeats 0
namespace T31
open PySem PySem.Spec PyProof.Rows L2
abbrev R : PySem.W.OpenRow := PySem.W.OpenLaw.row PySem.Challenge.rw_toldpast_k31_rows_of_lags
def lo0 : List PySem.Str := ["NetError", "InvalidName", "InvalidLags", "LETTERS", "DIGITS", "LONGEST_NAME", "is_whole", "is_name", "Lags", "_are_lags", "_names_of", "_law_cell", "_law_bag", "_law_take", "_law_drawn", "_law_rows", "_law_joined", "_law_caught", "_law_right"]
abbrev hk : PySem.W.Hook := Tp.hookR faL fnL exB
def ob (s : PySem.W.SharedT) : Tp.AlR := Tp.obsR faL fnL exB (HandSHeadRun.getT s)
theorem ob_eq (s : PySem.W.SharedT) : ob s = hk.obs s.abs := Tp.obsR_eq (HandSHeadRun.getT_eq s)
theorem run (w : World) : HandSHeadRun.RunEq R (PySem.W.view R.prog [23]) hk ob 20000 (T31.lo0) w := by
  intro os
  kernel_rfl
end T31
open PySem PySem.W PySem.Calls PyProof.Rows
theorem PySem.Challenge.cw_toldpast_k31_rows_of_lags_holds : PySem.Challenge.rw_toldpast_k31_rows_of_lags.Holds := by
  w_on; o_law
  refine HandSHeadRun.head_any (r := OpenLaw.row PySem.Challenge.rw_toldpast_k31_rows_of_lags) (q := view (OpenLaw.row PySem.Challenge.rw_toldpast_k31_rows_of_lags).prog [23]) (H := T31.hk) (ob := T31.ob) (M := 20000) (loose := (T31.lo0)) (d := HandSHeadRun.topDef (OpenLaw.row PySem.Challenge.rw_toldpast_k31_rows_of_lags).prog 23) (kwd := []) T31.ob_eq
    (by kernel_rfl) (fun s => by kernel_rfl) T31.run (by kernel_rfl) (by kernel_rfl) (by kernel_rfl) (by rfl) (by first | assumption | decide +kernel) (by decide +kernel) ⟨rfl, rfl, rfl, rfl, rfl, by decide +kernel⟩ ?hw ?hc
  case hw => w_witness2
  case hc =>
    refine Tp.walkGE (l := PySem.Challenge.rw_toldpast_k31_rows_of_lags) (n := 63) (k := 8) (x := "_law_script") rfl (by decide) (by kernel_rfl) ⟨rfl, by decide, by decide⟩ ?F
    intro w mg fa h Y G hmg0
    obtain ⟨K, KX, c⟩ := Y
    have hmg : mg ("law" : PySem.Str) = some (.ref fa) := by
      have e : (HandSHeadRun.topDef (OpenLaw.row PySem.Challenge.rw_toldpast_k31_rows_of_lags).prog 23).name = ("law" : PySem.Str) := by kernel_rfl
      rw [← e]
      exact hmg0
    obtain ⟨fd, hb, hF⟩ := T31.all2 (l := PySem.Challenge.rw_toldpast_k31_rows_of_lags) (w := w) KX G hmg c.1 c.2
    exact ⟨K, fd, T31.spLaw K, KX, hb, hF, fun H a ns hl _ hS => ⟨a, ns, rfl, hS, hl, fun _ => rfl⟩⟩
#print axioms PySem.Challenge.cw_toldpast_k31_rows_of_lags_holds
