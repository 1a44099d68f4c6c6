import PyProof.Rows.All
import Wide.All
import OpenK.AllK
import Wide.FinOn
import PyProof.EqAt
import PyProof.EqKinds
import PyProof.TupleCall
import PyProof.Rows.ReprR
import HandS.Base
import HandS.Call
import HandS.List
import HandS.Comp
import HandS.Ends
import HandS.Dict
import HandS.Iter
import HandS.Text
import HandS.Words
import HandS.WordsList
import HandS.Defaults
import PyProof.StrBlock2
import HandS.Wide
import HandS.Codes
import PyProof.ReprLen
import PyProof.FitsInt
import HandS.Exc
import HandS.ExcInit
import HandS.ExcValue
import HandS.IsInst
import KE.KExcInit
import KE.KExcIs
import HandS.ExcField
import HandS.ExcIs
import HandS.MakeKwOnly
import HandS.ForDict
import HandS.Walk
import KE.GoesEnum
import KE.GoesMore
import HandS.DictComp
import HandS.Conv
import HandS.TryMany
import HandS.ExcOwn
import HandS.WordsExc
import HandS.CallSlots
import PyProof.P3Eq
import PyProof.TupleKey
import PyProof.DictKinds
import HandS.FStr
import HandS.SortKw
import KE.DatumOrd
import HandS.Style
import HandS.TryOnly
import HandS.More
import HandS.Deep
import HandS.TupAny
import PyProof.P3In
import KE.DataEq
import HandS.DeepEq
import HandS.Head0
import HandS.Head1
import HandS.Head2
import HandS.HeadEnd
import HandS.HeadHook1
import HandS.HeadHook2
import HandS.HeadHook3
import HandS.HeadHook4
import KE.KStateDown
import PySem.Challenge.RW_toldpast_k04_books_of_distinct_rows
set_option Elab.async false
set_option linter.all false
set_option maxRecDepth 100000
set_option maxHeartbeats 4000000
/-! what the laws of this set share: promises of defs that are called where no repr is under way, and repr itself -/
namespace Tp
open PySem PySem.Spec PyProof.Rows L2

/-- a def keeps its promise wherever no repr is under way -/
structure FnG (P : Program) (w : World) (K : PySem.W.Frag) (mg : Str → Option Value) (base : Heap) (CX : CXT) (k : Nat)
    (f : Addr) (fd : FuncData) (ps : List Str) (sp : Sp) : Prop where
  len : ∀ vs H Q E, sp vs H Q E → vs.length = ps.length
  run : ∀ (B : Around) (out : List Env) (s : Shared) (H : Hp) (args : Args) (us : List Value) (vs : List V) (Q : VK) (E : XK),
    Room k B → B.guards = some [] → Env0 P w K mg base B out s H → BindsTo s fd args (ps.zip us) → Vals vs us → sp vs H Q E →
    codeAny (model P w) B (.call (.ref f) args) (CR CX out P w H s Q E) s

section
variable {P : Program} {w : World} {K : PySem.W.Frag} {mg : Str → Option Value} {base : Heap} {CX : CXT} {j k : Nat}
variable {f : Addr} {fd : FuncData} {ps : List Str} {sp sp' : Sp}
theorem FnG.of (F : FnOk P w K mg base CX k f fd ps sp) : FnG P w K mg base CX k f fd ps sp :=
  ⟨F.len, fun B out s H args us vs Q E hr _ he => F.run B out s H args us vs Q E hr he⟩
theorem FnG.up (F : FnG P w K mg base CX j f fd ps sp) (h : j ≤ k) : FnG P w K mg base CX k f fd ps sp :=
  ⟨F.len, fun B out s H args us vs Q E hr => F.run B out s H args us vs Q E (hr.mono h)⟩
theorem deeper_guards {B : Around} {env : Env} {g : List Code} (h : B.guards = some g) : (B.deeper env).guards = some g := h

/-- a body's reading gives the promise -/
theorem fnG_of {nm qual : Str} {params : Arguments} {body : List Stmt} {sc : Scope} {dV kV doc pm cdv ct oc : Value} {an od : Option Addr}
    {osl : Array (Option Value)} {N : List Str} (lk : K.lookup f = some ⟨oc, od, .func (PySem.W.fnOf nm qual params body sc dV kV doc pm an cdv ct), osl⟩)
    (hcd : PySem.W.codeIn K cdv qual = true) (S : FnScope N ps sc) (len : ∀ vs H Q E, sp vs H Q E → vs.length = ps.length)
    (hbody : ∀ (B : Around) (out : List Env) (s : Shared) (H : Hp) (vs : List V) (Q : VK) (E : XK),
      Room k (B.deeper (envOfC qual sc s.heap.objs.size f cdv)) → (B.deeper (envOfC qual sc s.heap.objs.size f cdv)).guards = some [] → sp vs H Q E →
      ∃ t, PSs (cxOf CX P w K mg base N qual sc f cdv B out s H E) body t ∧ t { nx := fun _ H' => Q .non H', rt := Q } (start N vs) H) :
    FnG P w K mg base CX (k + 1) f (PySem.W.fnOf nm qual params body sc dV kV doc pm an cdv ct) ps sp := by
  refine ⟨len, fun B out s H args us vs Q E hr hg e0 hb rv hsp => ?_⟩
  obtain ⟨t, ht, hq⟩ := hbody B out s H vs Q E (hr.deeper _) (deeper_guards hg) hsp
  have hl := len _ _ _ _ hsp
  have KX : K.In s.heap := e0.mod.kin.keeps fun b o e => (e0.bs b o e).1
  have lim : s.heap.NoLimit := e0.mod.nolimit.keeps fun b o e => (e0.bs b o e).1
  have hkind : ∀ y ∈ ps.zip us, sc.names.lookup y.1 = some .local ∨
      (sc.names.lookup y.1 = some .cell ∧ ((cellsFrom (s.heap.objs.size + 1) sc.names []).lookup y.1).isSome = true) := by
    rintro ⟨n, v⟩ hy
    exact (S.par n (List.of_mem_zip hy).1).imp id fun q => ⟨q, PySem.W.cellsFrom_some _ _ _ (.inl q)⟩
  refine codeAny_call_function hr.depth (KX _ _ lk) rfl S.co S.gen rfl (PySem.W.codeRec_of KX hcd) (hb _ _ _ _ ?_)
  refine wpAny_newFunctionEnv_cells S.kind hkind fun env he s1 x => ?_
  subst he
  refine ⟨lim.keeps x.toInCall.keep, codeAny_func ?_⟩
  have I : Inv (cxOf CX P w K mg base N qual sc f cdv B out s H E) [] (start N vs) H s1 := inv_start S hr.hd e0 hl rv x
  refine wpAny_mono (ht.run [] s1 (start N vs) H _ I hq) (fun fl s' hs => ?_) fun e s' hs => hs
  cases fl with
  | ret u =>
    obtain ⟨v, τ, G, J, rw', q⟩ := hs
    exact ⟨v, G, J.os, J.bare, J.base, J.hok, rw', q⟩
  | next =>
    obtain ⟨τ, G, J, q⟩ := hs
    exact ⟨V.non, G, J.os, J.bare, J.base, J.hok, rfl, q⟩
  | brk => exact hs.elim fun _ z => z.elim fun _ z => z.2.elim
  | cont => exact hs.elim fun _ z => z.elim fun _ z => z.2.elim

/-- a def of the text, its body walked -/
theorem FunG.ok {x qual : Str} {st : Stmt} {N : List Str} (F : Fun K x qual st f fd) (S : FnScope N ps (defScope st)) (len : ∀ vs H Q E, sp vs H Q E → vs.length = ps.length)
    (hb : ∀ (cdv : Value) (B : Around) (out : List Env) (s : Shared) (H : Hp) (vs : List V) (Q : VK) (E : XK),
      Room k (B.deeper (envOfC qual (defScope st) s.heap.objs.size f cdv)) → (B.deeper (envOfC qual (defScope st) s.heap.objs.size f cdv)).guards = some [] → sp vs H Q E →
      ∃ t, PSs (cxOf CX0 P w K mg base N qual (defScope st) f cdv B out s H E).nox (defBody st) t ∧ t { nx := fun _ H' => Q .non H', rt := Q } (start N vs) H) :
    FnG P w K mg base CX0 (k + 1) f fd ps sp := by
  obtain ⟨oc, od, kV, doc, pm, an, cdv, ct, osl, rfl, lk, hcd⟩ := F.ex
  refine fnG_of lk hcd S len fun B out s H vs Q E hr hg hsp => ?_
  obtain ⟨t, h, q⟩ := hb cdv B out s H vs Q E hr hg hsp
  exact ⟨t, h.nox, q⟩
end

/-- what a caller knows of a def of the module: its promise, where it stands -/
structure Cg (P : Program) (w : World) (K : PySem.W.Frag) (mg : Str → Option Value) (base : Heap) (k : Nat) (x : Str) (sp : Sp) : Prop where
  ex : ∃ (f : Addr) (fd : FuncData) (ps : List Str), FnG P w K mg base CX0 k f fd ps sp ∧ mg x = some (.ref f) ∧ PySem.W.keepIn K (.ref f) = true ∧ Binds K fd ps []
theorem Cg.mk' {P : Program} {w : World} {K : PySem.W.Frag} {mg : Str → Option Value} {base : Heap} {k : Nat} {x qual : Str} {sp : Sp} {f : Addr} {fd : FuncData} {ps : List Str} {st : Stmt}
    (F : Fun K x qual st f fd) (G : FnG P w K mg base CX0 k f fd ps sp) (hm : mg x = some (.ref f)) (hb : Binds K fd ps []) : Cg P w K mg base k x sp := ⟨⟨f, fd, ps, G, hm, F.kp, hb⟩⟩
def tCl (sp : Sp) (t : TA) : TE := fun σ H Q => t σ H fun vs H1 => sp vs H1 Q E0
section
variable {X : Cx} {j k : Nat} {x : Str} {p pos : Pos} {e : Expr} {es : List Expr} {t : TA} {sp : Sp}
theorem pe_g (c : Cg X.prog X.w X.K X.mg X.base j x sp) (hr : Room k X.A) (hG : X.A.guards = some []) (hk : j ≤ k) (hg : Gl X x) (ha : PA X (e :: es) t)
    (hdb : (x == ("__debug__" : Str)) = false := by decide) (he : starEach (e :: es) X.env = (false, eval e X.env) :: starEach es X.env := by rfl)
    (hpl : (backTo pos (starEach es X.env)).any (·.1) = false := by rfl) : PE X (.Call (.Name x p) (e :: es) [] pos) (tCl sp t) := by
  obtain ⟨f, fd, ps, F, hm, hkp, hb⟩ := c.ex
  refine ⟨fun pins s σ H Q I h => wpAny_Call_Name_kw (ld_glob I hg hm ?_ hdb)⟩
  refine PySem.W.callWith_K (h₀ := X.base) I.ok.mod.kin hkp (thn (ha.run pos pins s σ H _ I h) fun us s1 hh => ?_) he hpl
  obtain ⟨vs, H1, I1, r, q⟩ := hh
  refine ⟨I1.kIn, ?_⟩
  have hl : (us ++ []).length = ps.length := by
    rw [List.append_nil, ← r.length]
    exact F.len _ _ _ _ q
  have hbt := hb s1 us I1.kIn hl
  rw [List.append_nil] at hbt
  refine wpAny_call (codeAny_mono (F.run X.A X.stack s1 H1 ⟨us, []⟩ us vs Q E0 (hr.mono hk) hG I1.env0 hbt r q) fun r' s' hq => ?_)
  cases r' with
  | error e' => exact (show False from hq).elim
  | ok fl =>
    cases fl with
    | ret u => exact I1.after hq
    | next => exact (show False from hq).elim
    | brk => exact (show False from hq).elim
    | cont => exact (show False from hq).elim
end

/-! ### repr of plain data -/
mutual
theorem Dp.plain {K : PySem.W.Frag} {H : Hp} : ∀ (d : PyData) (v : V), Dp K H v d → d.hasDict = false
  | .none, _, _ => by simp only [PyData.hasDict]
  | .bool _, _, _ => by simp only [PyData.hasDict]
  | .int _, _, _ => by simp only [PyData.hasDict]
  | .str _, _, _ => by simp only [PyData.hasDict]
  | .list ds, _, h => by
    cases h with
    | lst _ ha => simpa only [PyData.hasDict] using Dp.plainAll ds _ ha
  | .tuple ds, _, h => by
    cases h with
    | tup _ ha => simpa only [PyData.hasDict] using Dp.plainAll ds _ ha
  | .dict _, _, h => by cases h
theorem Dp.plainAll {K : PySem.W.Frag} {H : Hp} : ∀ (ds : List PyData) (vs : List V), DpAll K H vs ds → PyData.hasDictAll ds = false
  | [], _, _ => by simp only [PyData.hasDictAll]
  | d :: ds, _, h => by
    cases h with
    | cons h1 h2 =>
      simp only [PyData.hasDictAll, Bool.or_eq_false_iff]
      exact ⟨Dp.plain d _ h1, Dp.plainAll ds _ h2⟩
end
def rRepr (K : PySem.W.Frag) : List V → Hp → VK → Prop := fun xs H Q => ∃ (a : Addr) (d : PyData), xs = [.ref a] ∧ Dp K H (.ref a) d ∧ d.showable = true ∧ d.depth ≤ 60 ∧ d.shown.length ≤ sizeLine ∧ Q (.str d.shown) H
theorem call_repr {X : Cx} {k : Nat} (hr : Room k X.A) (hG : X.A.guards = some []) : CallR X (.builtin "repr") (rRepr X.K) := by
  intro pins s σ H xs us Q I r h
  obtain ⟨a, d, rfl, hd, hs, hdep, hz, q⟩ := h
  obtain ⟨u, rfl, r1⟩ := vals1 r
  cases (show u = Value.ref a from r1)
  obtain ⟨as, hrd⟩ := Dp.reads I d _ _ hd rfl
  have hu := hr.units
  exact repr_of_reads' hrd hs (PyData.noDict_hsm (Dp.plain d _ hd)) hG (by omega) (fun _ _ e => e) (fun h' u tk hk => ⟨.str d.shown, H, I.kept hk, ⟨u, rfl⟩, q⟩) hz

/-! ### the law's call -/
theorem law_callG {P : Program} {w : World} {K : PySem.W.Frag} {mg mb : Str → Option Value} {k : Nat} {fa a : Addr} {fd : FuncData} {x : Str} {sp : Sp} {s1 : Shared} {vs : List Value} {ns : List Int}
    (KX : K.In s1.heap) (hns : s1.heap.Ns mainGlobals mg) (hb : s1.heap.Ns builtinsNs mb) (hbb : ∀ x : Str, x ≠ "__name__" → mb x = bootBuiltins x) (hlim : s1.heap.NoLimit) (hg : s1.gens = #[])
    (ha : s1.heap.get? a = some { cls := .type "list", data := .seq vs.toArray }) (hi : IntsAre vs ns) (hl : ns.length ≤ sizeLine) (hr : Room k callerA)
    (F : ∀ base : Heap, K.In base → base.Ns mainGlobals mg → FnG P w K mg base CX0 k fa fd [x] sp) (hbind : ∀ (s : Shared) (u : Value), BindsTo s fd ⟨[u], []⟩ [(x, u)])
    (hsp : ∀ H : Hp, Only H → SqL K H a (ns.map V.int) → sp [.ref a] H (fun v _ => v = .bl true) E0) :
    codeAny (model P w) callerA (.call (.ref fa) ⟨[.ref a], []⟩) (fun r s' => r = .ok (.ret (.bool true)) ∧ OldK s1.heap s'.heap ∧ s'.os = s1.os ∧ AllBare s'.gens) s1 := by
  -- the layer's own end, asked of a promise that holds of this one call alone, by a def that keeps none elsewhere
  have rv := vals_ints hi
  have lv := hi.length
  have core : ∀ H : Hp, Only H → SqL K H a (ns.map V.int) → HOk P w H s1.heap → (∀ b, H b ≠ none → b = a) → (H a ≠ none → K.lookup a = none) →
      codeAny (model P w) callerA (.call (.ref fa) ⟨[.ref a], []⟩) (fun r s' => r = .ok (.ret (.bool true)) ∧ OldK s1.heap s'.heap ∧ s'.os = s1.os ∧ AllBare s'.gens) s1 := by
    intro H hO hS hok hA hK
    have noA : ∀ {b : Addr} {o : Obj} {es : Array DictEntry} {ep : Nat}, s1.heap.get? b = some o → o.data = .dict es ep → H b = none := by
      intro b o es ep e d
      cases q : H b with
      | none => rfl
      | some u =>
        have eb := hA b (by rw [q]; exact Option.some_ne_none _)
        rw [eb, ha] at e
        cases e
        cases (show Data.seq vs.toArray _ = Data.dict es ep from d)
    have nsK : ∀ {b : Addr} {m : Str → Option Value}, s1.heap.Ns b m → (hidT s1.heap H).Ns b m := by
      intro b m hm
      obtain ⟨o, es, ep, e, d, r⟩ := hm
      exact ⟨o, es, ep, hidT_get e (noA e d), d, r⟩
    have hKb : K.In (hidT s1.heap H) := by
      intro b o e
      refine hidT_get (KX b o e) ?_
      cases q : H b with
      | none => rfl
      | some u =>
        have eb := hA b (by rw [q]; exact Option.some_ne_none _)
        rw [eb] at e q
        rw [hK (by rw [q]; exact Option.some_ne_none _)] at e
        cases e
    obtain ⟨mc, l1, l2⟩ := hlim
    have hM : Mod K mg (hidT s1.heap H) := ⟨hKb, nsK hns, ⟨mb, nsK hb, hbb⟩, ⟨mc, nsK l1, l2⟩⟩
    have e0 : Env0 P w K mg (hidT s1.heap H) callerA [] s1 H :=
      ⟨rfl, hM, fun b o e => of_hidT e, Nat.le_of_eq (hidT_size _ _), trivial, fun b hb => (List.not_mem_nil hb).elim, hok, .of_eq hg⟩
    refine codeAny_mono ((F _ hKb (nsK hns)).run callerA [] s1 H ⟨[.ref a], []⟩ [.ref a] [.ref a] _ _ hr rfl e0 (hbind s1 (.ref a)) (.cons rfl .nil) (hsp H hO hS)) ?_
    intro r s' h
    cases r with
    | error e => exact (show False from h).elim
    | ok fl =>
      cases fl with
      | next => exact (show False from h).elim
      | brk => exact (show False from h).elim
      | cont => exact (show False from h).elim
      | ret u =>
        obtain ⟨v, H', os, bare, un, hok', r', q⟩ := h
        cases (show v = .bl true from q)
        cases (show u = Value.bool true from r')
        refine ⟨rfl, OldK.of_keep fun b o e => ?_, os, bare⟩
        cases q : H b with
        | none => exact un.keep b o e q (fun z => (List.not_mem_nil z).elim) (fun z => (List.not_mem_nil z).elim)
        | some u =>
          rcases hO b with z | ⟨ob, xs, z⟩
          · rw [q] at z
            cases z
          · have e1 := (hok b _ z).1
            have e2 := (hok' b _ (un.frzs b ob _ z)).1
            rw [e] at e1
            cases e1
            exact e2
  cases hk : K.lookup a with
  | some o =>
    have e := KX a o hk
    rw [ha] at e
    cases e
    refine core (fun _ => none) (fun _ => .inl rfl) (.inr ⟨_, vs.toArray, _, hk, rfl, rfl, rfl, ?_, ?_⟩) (fun b u z => by cases (show (none : Option HO) = some u from z)) (fun b z => (z rfl).elim) fun z => (z rfl).elim
    · rw [List.size_toArray, lv]
      exact hl
    · simpa using rv
  | none =>
    refine core (fun b => if b = a then some (.frz { cls := .type "list", data := .seq vs.toArray } (.lst (ns.map V.int))) else none) (fun b => ?_) (.inl (.inr ⟨_, if_pos rfl⟩)) (fun b u z => ?_) (fun b z => ?_) fun _ => hk
    · by_cases hb : b = a
      · exact .inr ⟨_, _, if_pos hb⟩
      · exact .inl (if_neg hb)
    · by_cases hb : b = a
      · cases (if_pos hb).symm.trans z
        cases hb
        refine ⟨ha, ?_, vs, _, rv, ha⟩
        rw [List.length_map]
        exact hl
      · cases (if_neg hb).symm.trans z
    · by_cases hb : b = a
      · exact hb
      · exact (z (if_neg hb)).elim

/-- the goal that the head leaves, from the law's promise -/
theorem walkG {l : PySem.W.OpenLaw} {n k : Nat} {q : Program} {loose : List Str} {XP : (Str → Option Value) → Heap → Prop} {YP : World → Heap → Prop} {d : DefRec} {K : Params → PySem.W.Frag} {sp : PySem.W.Frag → Sp} {x : Str}
    (hn : l.most = some n) (hn2 : n ≤ sizeLine) (hdf : d.params.defaults = []) (hr : Room k callerA) (hY : ∀ (w : World) (h : Heap), YP w h → (K w.params).In h)
    (F : ∀ (w : World) (mg : Str → Option Value) (fa : Addr) (h : Heap), (K w.params).In h → h.Ns mainGlobals mg → mg d.name = some (.ref fa) →
      ∃ fd : FuncData, (∀ (s : Shared) (u : Value), BindsTo s fd ⟨[u], []⟩ [(x, u)]) ∧
        ∀ base : Heap, (K w.params).In base → base.Ns mainGlobals mg → FnG l.prog w (K w.params) mg base CX0 k fa fd [x] (sp (K w.params)))
    (hsp : ∀ (K : PySem.W.Frag) (H : Hp) (a : Addr) (ns : List Int), ns.length ≤ n → Only H → SqL K H a (ns.map V.int) → sp K [.ref a] H (fun v _ => v = .bl true) E0) :
    PySem.W.WalkO q loose XP YP l.row.toRowW d [] (fun f vs => PySem.call f vs) := by
  refine Att.attach_call hn hdf fun w s0 s1 mg mb fa o pm cd doc a vs ns G Y ho hd hcd hmg hobj hints hlen hg => ?_
  have KX := hY w _ Y
  obtain ⟨fd, hb, hF⟩ := F w mg fa _ KX G.T.g hmg
  exact law_callG KX G.T.g G.T.b G.T.builtins G.T.nolimit hg hobj hints (Nat.le_trans hlen hn2) hr hF hb fun H hO hS => hsp (K w.params) H a ns hlen hO hS
end Tp
set_option Elab.async false
set_option linter.all false
set_option maxRecDepth 100000
set_option maxHeartbeats 4000000
/-! the draws: a box of three ints, of which each draw takes some -/
namespace Tp
open PySem PySem.Spec PyProof.Rows L2
/-- a box at p, from which at most n draws were mixed -/
def BoxAt (H : Hp) (p : Addr) (n : Nat) : Prop := ∃ a b c : Int, H p = some (.lst [.int a, .int b, .int c]) ∧ 0 ≤ a ∧ 0 ≤ b ∧ b < 2147483629 ∧ 0 ≤ c ∧ c ≤ (n : Int)
theorem BoxAt.mono {H : Hp} {p : Addr} {n m : Nat} (h : BoxAt H p n) (hl : n ≤ m) : BoxAt H p m := by
  obtain ⟨a, b, c, h1, h2, h3, h4, h5, h6⟩ := h
  exact ⟨a, b, c, h1, h2, h3, h4, h5, by omega⟩
/-- all that was tracked is as it was, but at p -/
def Keep (p : Addr) (H H' : Hp) : Prop := ∀ b o, b ≠ p → H b = some o → H' b = some o
theorem Keep.refl (p : Addr) (H : Hp) : Keep p H H := fun _ _ _ e => e
theorem Keep.trans {p : Addr} {H H1 H2 : Hp} (a : Keep p H H1) (b : Keep p H1 H2) : Keep p H H2 := fun c o hc e => b c o hc (a c o hc e)
theorem Keep.of {p : Addr} {H H' : Hp} (a : Same H H') : Keep p H H' := fun c o _ e => a c o e
theorem Keep.put {p : Addr} {H : Hp} {o : HO} : Keep p H (upd H p o) := fun c u hc e => by rw [upd_ne hc]; exact e
theorem Same.put {H : Hp} {q : Addr} {o : HO} (h : H q = none) : Same H (upd H q o) := fun c u e => by rw [upd_ne (ne_of_none e h)]; exact e
theorem Keep.new {p q : Addr} {H : Hp} {o : HO} (h : H q = none) : Keep p H (upd H q o) := .of (Same.put h)
theorem BoxAt.keep {H H' : Hp} {p : Addr} {n : Nat} (h : BoxAt H p n) (k : Same H H') : BoxAt H' p n := by
  obtain ⟨a, b, c, h1, h2⟩ := h
  exact ⟨a, b, c, k _ _ h1, h2⟩
theorem BoxAt.ne {H : Hp} {p q : Addr} {n : Nat} (h : BoxAt H p n) (hq : H q = none) : p ≠ q := by
  obtain ⟨a, b, c, h1, _⟩ := h
  exact ne_of_none h1 hq
theorem BoxAt.new {H : Hp} {p q : Addr} {n : Nat} {o : HO} (h : BoxAt H p n) (hq : H q = none) : BoxAt (upd H q o) p n := h.keep (Same.put hq)
theorem BoxAt.put {H : Hp} {p q : Addr} {n : Nat} {o : HO} (h : BoxAt H p n) (hq : q ≠ p) : BoxAt (upd H q o) p n := by
  obtain ⟨a, b, c, h1, h2⟩ := h
  exact ⟨a, b, c, (upd_ne hq.symm).trans h1, h2⟩
/-- all that was tracked is as it was, but at p and at d -/
def Keep2 (p d : Addr) (H H' : Hp) : Prop := ∀ b o, b ≠ p → b ≠ d → H b = some o → H' b = some o
theorem Keep2.of {p d : Addr} {H H' : Hp} (k : Keep p H H') : Keep2 p d H H' := fun b o h1 _ e => k b o h1 e
theorem Keep2.put {p d : Addr} {H G : Hp} {o : HO} (k : Keep2 p d H G) : Keep2 p d H (upd G d o) := fun b u h1 h2 e => (upd_ne h2).trans (k b u h1 h2 e)
theorem Keep2.next {p d : Addr} {H G G' : Hp} (k : Keep2 p d H G) (j : Keep p G G') : Keep2 p d H G' := fun b u h1 h2 e => j b u h1 (k b u h1 h2 e)
theorem Keep2.fin {p d : Addr} {H G : Hp} (k : Keep2 p d H G) (hd : H d = none) : Keep p H G := fun b u h1 e => k b u h1 (ne_of_none e hd) e
theorem keep_of {p : Addr} {H H' : Hp} (h : ∀ b, b ≠ p → H' b = H b) : Keep p H H' := fun b o hb e => by rw [h b hb]; exact e
/-- a list that is read stands on, but at p -/
theorem Keep.seq {K : PySem.W.Frag} {p a : Addr} {H H' : Hp} {xs : List V} (k : Keep p H H') (ha : a ≠ p) (h : SqL K H a xs) : SqL K H' a xs := by
  rcases h with (h | ⟨o, h⟩) | h
  · exact .inl (.inl (k _ _ ha h))
  · exact .inl (.inr ⟨o, k _ _ ha h⟩)
  · exact .inr h

/-- _law_cell: some int of the script, or some other -/
def spCellT (K : PySem.W.Frag) : Sp := fun vs H Q _ => ∃ (a : Addr) (ns : List Int) (k : Nat), vs = [.ref a, .int k] ∧ SqL K H a (ns.map V.int) ∧ ns.length ≤ 63 ∧ k ≤ 1000 ∧ ∀ z : Int, Q (.int z) H
/-- _law_box -/
def spBox : Sp := fun vs H Q _ => ∃ z : Int, vs = [.int z] ∧ ∀ p H', H p = none → BoxAt H' p 0 → Keep p H H' → Q (.ref p) H'
/-- _law_take -/
def spTake : Sp := fun vs H Q _ => ∃ (p : Addr) (m : Int) (n : Nat), vs = [.ref p, .int m] ∧ BoxAt H p n ∧ 0 < m ∧ m.natAbs.log2 < 1000 ∧ n ≤ 1000000 ∧
  ∀ (d : Int) (H' : Hp), 0 ≤ d → d < m → BoxAt H' p (n + 1) → (∀ b, b ≠ p → H' b = H b) → Q (.int d) H'

end Tp
set_option Elab.async false
set_option linter.all false
set_option maxRecDepth 100000
set_option maxHeartbeats 4000000
namespace T04
open PySem PySem.Spec PyProof.Rows L2 Tp
def top (i : Nat) : Stmt := PySem.Challenge.pw_toldpast_k04_books_of_distinct_rows.main.body.getD i (.Pass ⟨0, 0, 0, 0⟩)
abbrev sCell : Stmt := top 38
abbrev sBox : Stmt := top 39
abbrev sTake : Stmt := top 40
section
variable {P : Program} {w : World} {K : PySem.W.Frag} {mg : Str → Option Value} {base : Heap} {f : Addr} {fd : FuncData}
theorem scCell : FnScope ["_law_script", "_law_k"] ["_law_script", "_law_k"] (defScope sCell) := ⟨rfl, rfl, rfl, by decide +kernel, rfl, by decide +kernel, by decide +kernel⟩
theorem ok_cell (F : Fun K "_law_cell" "_law_cell" sCell f fd) (mL : mg "len" = none) : FnG P w K mg base CX0 1 f fd ["_law_script", "_law_k"] (spCellT K) := by
  refine FunG.ok F scCell (fun vs H Q E h => ?_) (fun cdv B out s H vs Q E hr hG h => ?_)
  · obtain ⟨a, ns, k, rfl, _⟩ := h
    rfl
  · obtain ⟨a, ns, k, rfl, hs, hl, hk, q⟩ := h
    refine ⟨_, pss_cons (ps_if (pt_cmpR op_lt (pv 1) (pe_callB call_len (by rfl) mL PySem.boot_len (pa_cons (pv 0) pa_nil)) (nomark _)) (pss_one (ps_ret (pe_ix ix_list (pv 0) (pv 1) fun _ _ => rfl))) pss_nil)
      (pss_one (ps_ret (pe_op op_add (pe_op op_mul pe_int (pv 1)) pe_int))), ?_⟩
    refine ⟨_, rfl, _, rfl, _, _, rfl, .inl ⟨_, hs, rfl⟩, _, _, rfl, rfl, _, rfl, ?_⟩
    refine ite2 (fun hlt => ?_) (fun hge => ?_)
    · have hlt' := of_decide_eq_true hlt
      rw [List.length_map] at hlt'
      have hkl : k < ns.length := by omega
      refine ⟨_, rfl, _, rfl, a, _, _, .int (ns[k]), rfl, rfl, hs, atI_nat ?_, q _⟩
      rw [List.getElem?_map, List.getElem?_eq_getElem hkl]
      rfl
    · refine ⟨_, rfl, _, _, rfl, rfl, .inl ⟨by decide, by decide⟩, _, _, rfl, rfl, q _⟩
theorem scBox : FnScope ["_law_cell_here"] ["_law_cell_here"] (defScope sBox) := ⟨rfl, rfl, rfl, by decide +kernel, rfl, by decide +kernel, by decide +kernel⟩
theorem ok_box (F : Fun K "_law_box" "_law_box" sBox f fd) (mM : mg "max" = none) : FnG P w K mg base CX0 1 f fd ["_law_cell_here"] spBox := by
  refine FunG.ok F scBox (fun vs H Q E h => ?_) (fun cdv B out s H vs Q E hr hG h => ?_)
  · obtain ⟨z, rfl, _⟩ := h
    rfl
  · obtain ⟨z, rfl, q⟩ := h
    refine ⟨_, pss_one (ps_ret (pe_lst (pa_cons (pe_callB (call_max2 rfl) (by rfl) mM (by decide +kernel) (pa_cons pe_int (pa_cons (pe_op op_sub (pv 0) (pe_op op_pow pe_int pe_int)) pa_nil)))
      (pa_cons (pe_op op_mod (pv 0) pe_int) (pa_cons pe_int pa_nil))))), ?_⟩
    refine ⟨_, rfl, _, _, rfl, rfl, ⟨by decide, by decide, by decide⟩, _, _, rfl, rfl, _, _, rfl, _, rfl, _, _, rfl, rfl, (by decide : (0:Int) < 2147483629), ?_⟩
    refine ⟨(by show 3 ≤ sizeLine; decide), fun p hp => ?_⟩
    refine q p _ hp ⟨_, _, _, upd_same, ?_, Int.emod_nonneg _ (by decide), Int.emod_lt_of_pos _ (by decide), by decide, by decide⟩ Keep.put
    split <;> omega
theorem scTake : FnScope ["_law_box_here", "_law_many", "_law_digit", "_law_mixed"] ["_law_box_here", "_law_many"] (defScope sTake) := ⟨rfl, rfl, rfl, by decide +kernel, rfl, by decide +kernel, by decide +kernel⟩
theorem pow_small {x : Int} {b : Nat} (h0 : 0 ≤ x) (h : x < 2 ^ 63) : x.natAbs < 2 ^ 64 := by omega
theorem ok_take (F : Fun K "_law_take" "_law_take" sTake f fd) : FnG P w K mg base CX0 1 f fd ["_law_box_here", "_law_many"] spTake := by
  refine FunG.ok F scTake (fun vs H Q E h => ?_) (fun cdv B out s H vs Q E hr hG h => ?_)
  · obtain ⟨p, m, n, rfl, _⟩ := h
    rfl
  · obtain ⟨p, m, n, rfl, ⟨a, b, c, hp, ha, hb, hb2, hc, hcn⟩, hm, hm2, hn, q⟩ := h
    refine ⟨_, pss_cons (ps_if (pt_cmpR op_gt (pe_ix ix_list (pv 0) pe_int fun _ _ => rfl) pe_int (nomark _))
        (pss_cons (ps_set (i := 2) scTake.nd rfl (.inl rfl) (pe_op op_mod (pe_ix ix_list (pv 0) pe_int fun _ _ => rfl) (pv 1)))
          (pss_cons (ps_asg (pe_op op_fdivW (pe_ix ix_list (pv 0) pe_int fun _ _ => rfl) (pv 1)) (pg_sub (pv 0) pe_int set_list))
            (pss_one (ps_ret (pv 2))))) pss_nil)
      (pss_cons (ps_asg (pe_op op_add (pe_ix ix_list (pv 0) pe_int fun _ _ => rfl) pe_int) (pg_sub (pv 0) pe_int set_list))
        (pss_cons (ps_set (i := 3) scTake.nd rfl (.inl rfl) (pe_op op_mod (pe_op op_pow (pe_op op_add (pe_op op_add (pe_ix ix_list (pv 0) pe_int fun _ _ => rfl) (pe_op op_mul pe_int (pe_ix ix_list (pv 0) pe_int fun _ _ => rfl))) pe_int) pe_int) pe_int))
          (pss_cons (ps_set (i := 3) scTake.nd rfl (.inl rfl) (pe_op op_mod (pe_op op_pow (pe_op op_add (pv 3) (pe_op op_mul pe_int (pe_ix ix_list (pv 0) pe_int fun _ _ => rfl))) pe_int) pe_int))
            (pss_one (ps_ret (pe_op op_mod (pe_op op_fdiv (pv 3) pe_int) (pv 1))))))), ?_⟩
    have sq : SqL K H p [V.int a, V.int b, V.int c] := SqL.of hp
    refine ⟨_, rfl, p, _, _, .int a, rfl, rfl, sq, rfl, _, _, rfl, rfl, _, rfl, ?_⟩
    refine ite2 (fun h1 => ?_) (fun h1 => ?_)
    · have h1' := of_decide_eq_true h1
      refine ⟨_, rfl, p, _, _, .int a, rfl, rfl, sq, rfl, _, rfl, _, _, rfl, rfl, hm, ?_⟩
      refine ⟨_, rfl, p, _, _, .int a, rfl, rfl, sq, rfl, _, rfl, _, _, rfl, rfl, ⟨hm, by omega⟩, _, rfl, p, _, _, 0, rfl, rfl, hp, rfl, ?_⟩
      refine ⟨_, rfl, q _ _ (Int.emod_nonneg _ (by omega)) (Int.emod_lt_of_pos _ hm) ⟨_, _, _, upd_same, ?_, hb, hb2, hc, by omega⟩ fun x hx => upd_ne hx⟩
      exact Int.ediv_nonneg (by omega) (by omega)
    · have sq2 : SqL K (upd H p (.lst [.int a, .int b, .int (c + 1)])) p [V.int a, V.int b, V.int (c + 1)] := SqL.of upd_same
      refine ⟨_, rfl, p, _, _, .int c, rfl, rfl, sq, rfl, _, _, rfl, rfl, _, rfl, p, _, _, 2, rfl, rfl, hp, rfl, ?_⟩
      refine ⟨_, rfl, p, _, _, .int b, rfl, rfl, sq2, rfl, _, rfl, p, _, _, .int (c + 1), rfl, rfl, sq2, rfl, _, _, rfl, rfl, .inl ⟨by decide, by decide⟩, _, _, rfl, rfl, _, _, rfl, rfl, _, _, rfl, rfl, ⟨by decide, by decide, by omega⟩, _, _, rfl, rfl, (by decide : (0 : Int) < 2147483647), ?_⟩
      have hx1 := Int.emod_nonneg ((b + 15486173 * (c + 1) + 1249) ^ (5 : Int).toNat) (by decide : (2147483647 : Int) ≠ 0)
      have hx2 := Int.emod_lt_of_pos ((b + 15486173 * (c + 1) + 1249) ^ (5 : Int).toNat) (by decide : (0 : Int) < 2147483647)
      generalize (b + 15486173 * (c + 1) + 1249) ^ (5 : Int).toNat % 2147483647 = y at hx1 hx2 ⊢
      refine ⟨_, rfl, _, rfl, p, _, _, .int (c + 1), rfl, rfl, sq2, rfl, _, _, rfl, rfl, .inl ⟨by decide, by decide⟩, _, _, rfl, rfl, _, _, rfl, rfl, ⟨by decide, by decide, by omega⟩, _, _, rfl, rfl, (by decide : (0 : Int) < 2147483587), ?_⟩
      generalize (y + 104711 * (c + 1)) ^ (3 : Int).toNat % 2147483587 = z
      refine ⟨_, rfl, _, _, rfl, rfl, ⟨by decide, by decide⟩, _, rfl, _, _, rfl, rfl, hm, ?_⟩
      exact q _ _ (Int.emod_nonneg _ (by omega)) (Int.emod_lt_of_pos _ hm) ⟨_, _, _, upd_same, ha, hb, hb2, by omega, by omega⟩ fun x hx => upd_ne hx
end
end T04
set_option Elab.async false
set_option linter.all false
set_option maxRecDepth 100000
set_option maxHeartbeats 4000000
/-! texts of bounded length, data whose repr fits -/
namespace Tp
open PySem PySem.Spec PyProof.Rows L2
/-! ### texts -/
structure Tz (n : Nat) (z : Str) : Prop where
  le : (TL.tl z).length ≤ n
  sm : ∀ c ∈ TL.tl z, c < 256
theorem Tz.mono {n m : Nat} {z : Str} (h : Tz n z) (hl : n ≤ m) : Tz m z := ⟨Nat.le_trans h.le hl, h.sm⟩
theorem Tz.len {n : Nat} {z : Str} (h : Tz n z) : z.length ≤ n := by
  rw [TL.len_tl]
  exact h.le
theorem Tz.app {n m : Nat} {x y : Str} (a : Tz n x) (b : Tz m y) : Tz (n + m) (x ++ y) := by
  have e := TL.tl_append x y
  refine ⟨?_, fun c hc => ?_⟩
  · rw [e, List.length_append]
    exact Nat.add_le_add a.le b.le
  · rw [e] at hc
    exact (List.mem_append.mp hc).elim (a.sm c) (b.sm c)
theorem Tz.one {c : Nat} (h : c < 256) : Tz 1 ⟨#[c]⟩ := ⟨Nat.le_refl 1, fun d hd => by
  have e : d = c := by simpa using hd
  rw [e]
  exact h⟩
theorem Tz.cut {n : Nat} {z : Str} (h : Tz n z) (lo hi : Option Int) : Tz n (cutS z lo hi) := by
  have e : TL.tl (cutS z lo hi) = ((TL.tl z).drop (HT.sIx z.length 0 lo)).take (HT.sIx z.length z.length hi - HT.sIx z.length 0 lo) := rfl
  refine ⟨?_, fun c hc => ?_⟩
  · rw [e, List.length_take, List.length_drop]
    have := h.le
    omega
  · rw [e] at hc
    exact h.sm c (List.mem_of_mem_drop (List.mem_of_mem_take hc))
theorem joinL_len (S : List Nat) (m k : Nat) (hS : S.length ≤ k) : ∀ ps : List (List Nat), (∀ q ∈ ps, q.length ≤ m) → (TL.joinL S ps).length ≤ ps.length * (m + k)
  | [], _ => Nat.zero_le _
  | [q], h => by
    have := h q List.mem_cons_self
    show q.length ≤ 1 * (m + k)
    omega
  | q :: r :: rs, h => by
    have h1 := h q List.mem_cons_self
    have ih := joinL_len S m k hS (r :: rs) fun x hx => h x (List.mem_cons_of_mem _ hx)
    show (q ++ (S ++ TL.joinL S (r :: rs))).length ≤ ((r :: rs).length + 1) * (m + k)
    rw [List.length_append, List.length_append, Nat.succ_mul]
    omega
theorem joinL_mem {S : List Nat} : ∀ {ps : List (List Nat)} {c : Nat}, c ∈ TL.joinL S ps → c ∈ S ∨ ∃ q ∈ ps, c ∈ q
  | [], _, h => absurd h List.not_mem_nil
  | [q], _, h => .inr ⟨q, List.mem_cons_self, h⟩
  | q :: r :: rs, c, h => by
    have h' : c ∈ q ++ (S ++ TL.joinL S (r :: rs)) := h
    rcases List.mem_append.mp h' with z | z
    · exact .inr ⟨q, List.mem_cons_self, z⟩
    · rcases List.mem_append.mp z with z | z
      · exact .inl z
      · rcases joinL_mem z with z | ⟨x, hx, z⟩
        · exact .inl z
        · exact .inr ⟨x, List.mem_cons_of_mem _ hx, z⟩
theorem tl_joinT (s : Str) (ys : List Str) : TL.tl (Txt.join s ys) = TL.joinL (TL.tl s) (ys.map TL.tl) := (congrArg TL.tl (TL.join_eq s ys)).trans (TL.tl_join s ys)
theorem Tz.join {k m : Nat} {s : Str} {ys : List Str} (hs : Tz k s) (hy : ∀ y ∈ ys, Tz m y) : Tz (ys.length * (m + k)) (Txt.join s ys) := by
  refine ⟨?_, fun c hc => ?_⟩
  · rw [tl_joinT]
    have h := joinL_len (TL.tl s) m k hs.le (ys.map TL.tl) fun q hq => by
      obtain ⟨y, hy', rfl⟩ := List.mem_map.mp hq
      exact (hy y hy').le
    rwa [List.length_map] at h
  · rw [tl_joinT] at hc
    rcases joinL_mem hc with z | ⟨q, hq, z⟩
    · exact hs.sm c z
    · obtain ⟨y, hy', rfl⟩ := List.mem_map.mp hq
      exact (hy y hy').sm c z
/-- the sum that join wants -/
theorem sum_le {m : Nat} : ∀ {ys : List Str}, (∀ y ∈ ys, Tz m y) → (ys.map (·.length)).sum ≤ ys.length * m
  | [], _ => Nat.zero_le _
  | y :: ys, h => by
    have h1 := (h y List.mem_cons_self).len
    have ih := sum_le (m := m) (ys := ys) fun z hz => h z (List.mem_cons_of_mem _ hz)
    rw [List.map_cons, List.sum_cons, List.length_cons, Nat.succ_mul]
    omega
/-- parts between separators -/
theorem spl_len (S : List Nat) : ∀ (l : List Nat) (k : Nat) (acc : List Nat), ((TL.spl S k acc l).map (·.length)).sum ≤ acc.length + l.length ∧ (TL.spl S k acc l).length ≤ l.length + 1 ∧ ∀ q ∈ TL.spl S k acc l, ∀ c ∈ q, c ∈ acc ∨ c ∈ l
  | [], k, acc => by
    rw [TL.spl_nil]
    refine ⟨by simp, by simp, fun q hq c hc => ?_⟩
    rw [List.mem_singleton.mp hq] at hc
    exact .inl hc
  | c :: r, 0, acc => by
    cases h : TL.pre S (c :: r) with
    | true =>
      rw [TL.spl_hit h]
      obtain ⟨h1, h2, h3⟩ := spl_len S r (S.length - 1) []
      refine ⟨?_, ?_, fun q hq d hd => ?_⟩
      · rw [List.map_cons, List.sum_cons, List.length_cons]
        rw [List.length_nil] at h1
        omega
      · rw [List.length_cons, List.length_cons]
        omega
      · rcases List.mem_cons.mp hq with e | e
        · rw [e] at hd
          exact .inl hd
        · rcases h3 q e d hd with z | z
          · exact absurd z List.not_mem_nil
          · exact .inr (List.mem_cons_of_mem _ z)
    | false =>
      rw [TL.spl_miss h]
      obtain ⟨h1, h2, h3⟩ := spl_len S r 0 (acc ++ [c])
      refine ⟨?_, ?_, fun q hq d hd => ?_⟩
      · rw [List.length_append] at h1
        rw [List.length_cons]
        have e : [c].length = 1 := rfl
        omega
      · rw [List.length_cons]
        omega
      · rcases h3 q hq d hd with z | z
        · rcases List.mem_append.mp z with z | z
          · exact .inl z
          · rw [List.mem_singleton.mp z]
            exact .inr List.mem_cons_self
        · exact .inr (List.mem_cons_of_mem _ z)
  | c :: r, k + 1, acc => by
    have e : TL.spl S (k + 1) acc (c :: r) = TL.spl S k acc r := by
      rw [TL.spl_pass S (k + 1), TL.spl_pass S k]
      rfl
    rw [e]
    obtain ⟨h1, h2, h3⟩ := spl_len S r k acc
    refine ⟨?_, ?_, fun q hq d hd => (h3 q hq d hd).imp id (List.mem_cons_of_mem _)⟩
    · rw [List.length_cons]
      omega
    · rw [List.length_cons]
      omega
theorem split_len {z m : Str} {n : Nat} (hz : Tz n z) (hm : (TL.tl m).length = 1) (h2 : ∀ c ∈ TL.tl m, c < 256) :
    ((Txt.split z m).map (·.length)).sum ≤ n ∧ (Txt.split z m).length ≤ n + 1 ∧ ∀ y ∈ Txt.split z m, ∀ c ∈ TL.tl y, c < 256 := by
  have hne : TL.tl m ≠ [] := fun e => by
    rw [e] at hm
    cases hm
  have hk : ¬ Builtin.Str.strKind z < Builtin.Str.strKind m := TL.kind_ok (by
    rw [← Array.all_toList]
    exact List.all_eq_true.mpr fun c hc => decide_eq_true (h2 c hc))
  have e := TL.split_spl z m hne hk
  obtain ⟨h3, h4, h5⟩ := spl_len (TL.tl m) (TL.tl z) 0 []
  rw [← e] at h3 h4 h5
  rw [List.map_map] at h3
  have e2 : ((fun l : List Nat => l.length) ∘ TL.tl) = fun y : Str => y.length := funext fun y => (TL.len_tl y).symm
  have hzl := hz.le
  refine ⟨?_, ?_, fun y hy c hc => ?_⟩
  · rw [e2, List.length_nil] at h3
    omega
  · rw [List.length_map] at h4
    omega
  · rcases h5 (TL.tl y) (List.mem_map.mpr ⟨y, hy, rfl⟩) c hc with x | x
    · exact absurd x List.not_mem_nil
    · exact hz.sm c x
/-- an item of a list at a drawn place -/
theorem atI_in {α : Type} {xs : List α} {d : Int} (h0 : 0 ≤ d) (h : d < (xs.length : Int)) : ∃ v, v ∈ xs ∧ atI xs d = some v := by
  have hj : d.toNat < xs.length := by omega
  have e : d = ((d.toNat : Nat) : Int) := by omega
  exact ⟨xs[d.toNat], List.getElem_mem hj, (congrArg (atI xs) e).trans (atI_nat (List.getElem?_eq_getElem hj))⟩

/-! ### data whose repr fits -/
structure Nice (n k : Nat) (d : PyData) : Prop where
  sh : d.showable = true
  ls : d.leavesShort 2000 = true
  wt : d.weight ≤ n
  dp : d.depth ≤ k
structure NiceAll (n k : Nat) (ds : List PyData) : Prop where
  sh : PyData.showableAll ds = true
  ls : PyData.leavesShortAll 2000 ds = true
  wt : PyData.weightAll ds ≤ n
  dp : PyData.depthAll ds ≤ k
theorem Nice.fits {n k : Nat} {d : PyData} (h : Nice n k d) (hn : n ≤ 8000) : d.shown.length ≤ sizeLine := by
  have h1 := PyData.shown_le 2000 (by decide) d h.ls
  have h2 : (2000 + 2) * d.weight ≤ 2002 * 8000 := Nat.mul_le_mul (Nat.le_refl _) (Nat.le_trans h.wt hn)
  rw [PySem.sizeLine_eq]
  omega
theorem Nice.mono {n k m j : Nat} {d : PyData} (h : Nice n k d) (h1 : n ≤ m) (h2 : k ≤ j) : Nice m j d := ⟨h.sh, h.ls, Nat.le_trans h.wt h1, Nat.le_trans h.dp h2⟩
theorem nice_none : Nice 0 0 .none := ⟨rfl, rfl, Nat.le_refl _, Nat.le_refl _⟩
theorem nice_bool (b : Bool) : Nice 0 0 (.bool b) := ⟨rfl, rfl, Nat.le_refl _, Nat.le_refl _⟩
theorem nice_int {i : Int} (h : i.natAbs.log2 < 1000) : Nice 1000 0 (.int i) := by
  refine ⟨?_, ?_, ?_, by simp only [PyData.depth]; exact Nat.le_refl _⟩
  · simp only [PyData.showable]
    exact decide_eq_true (by omega)
  · simp only [PyData.leavesShort]
    refine decide_eq_true ?_
    have e := int_text_length_le (a := i) (k := 1920) (by decide) (by omega)
    show (Str.ofString (toString i)).length ≤ 2000
    rw [PySem.ofString_length]
    omega
  · simp only [PyData.weight]
    split <;> omega
theorem nice_str {n : Nat} {z : Str} (h : Tz n z) : Nice n 0 (.str z) := by
  refine ⟨by simp only [PyData.showable], ?_, ?_, by simp only [PyData.depth]; exact Nat.le_refl _⟩
  · simp only [PyData.leavesShort]
    refine List.all_eq_true.mpr fun c hc => decide_eq_true ?_
    exact Nat.lt_of_lt_of_le (h.sm c hc) (by decide)
  · simp only [PyData.weight]
    exact h.len
theorem niceAll_nil : NiceAll 0 0 [] := ⟨rfl, rfl, Nat.le_refl _, Nat.le_refl _⟩
theorem NiceAll.cons {n m k j : Nat} {d : PyData} {ds : List PyData} (h : Nice n k d) (hs : NiceAll m j ds) : NiceAll (n + 1 + m) (max k j) (d :: ds) := by
  refine ⟨?_, ?_, ?_, ?_⟩
  · simp only [PyData.showableAll, h.sh, hs.sh, Bool.and_self]
  · simp only [PyData.leavesShortAll, h.ls, hs.ls, Bool.and_self]
  · simp only [PyData.weightAll]
    have := h.wt
    have := hs.wt
    omega
  · simp only [PyData.depthAll]
    have := h.dp
    have := hs.dp
    omega
theorem NiceAll.list {n k : Nat} {ds : List PyData} (h : NiceAll n k ds) : Nice n (k + 1) (.list ds) := by
  refine ⟨?_, ?_, ?_, ?_⟩
  · simp only [PyData.showable]
    exact h.sh
  · simp only [PyData.leavesShort]
    exact h.ls
  · simp only [PyData.weight]
    exact h.wt
  · simp only [PyData.depth]
    have := h.dp
    omega
theorem NiceAll.tuple {n k : Nat} {ds : List PyData} (h : NiceAll n k ds) : Nice n (k + 1) (.tuple ds) := by
  refine ⟨?_, ?_, ?_, ?_⟩
  · simp only [PyData.showable]
    exact h.sh
  · simp only [PyData.leavesShort]
    exact h.ls
  · simp only [PyData.weight]
    exact h.wt
  · simp only [PyData.depth]
    have := h.dp
    omega
theorem NiceAll.mono {n k m j : Nat} {ds : List PyData} (h : NiceAll n k ds) (h1 : n ≤ m) (h2 : k ≤ j) : NiceAll m j ds := ⟨h.sh, h.ls, Nat.le_trans h.wt h1, Nat.le_trans h.dp h2⟩
theorem niceAll_strs : ∀ {ys : List Str}, (∀ y ∈ ys, ∀ c ∈ TL.tl y, c < 256) → NiceAll ((ys.map (·.length)).sum + ys.length) 0 (ys.map PyData.str)
  | [], _ => niceAll_nil
  | y :: ys, h => by
    have h1 := NiceAll.cons (nice_str (n := y.length) (z := y) ⟨Nat.le_of_eq (TL.len_tl y).symm, h y List.mem_cons_self⟩) (niceAll_strs (ys := ys) fun z hz => h z (List.mem_cons_of_mem _ hz))
    refine h1.mono ?_ (Nat.le_refl _)
    rw [List.map_cons, List.sum_cons, List.length_cons]
    omega
/-- repr(x), x plain data -/
theorem rRepr_of {K : PySem.W.Frag} {H : Hp} {a : Addr} {d : PyData} {n k : Nat} {Q : VK} (h : Dp K H (.ref a) d) (hn : Nice n k d) (h1 : n ≤ 8000) (h2 : k ≤ 60) (q : Q (.str d.shown) H) : rRepr K [.ref a] H Q :=
  ⟨a, d, rfl, h, hn.sh, Nat.le_trans hn.dp h2, hn.fits h1, q⟩
/-- flat values as data -/
def dV : V → PyData
  | .bl b => .bool b
  | .int i => .int i
  | .str x => .str x
  | _ => .none
def isFlat : V → Bool
  | .non => true
  | .bl _ => true
  | .int _ => true
  | .str _ => true
  | _ => false
theorem dp_flat {K : PySem.W.Frag} {H : Hp} : ∀ {v : V}, isFlat v = true → Dp K H v (dV v)
  | .non, _ => .non
  | .bl b, _ => .bl b
  | .int i, _ => .int i
  | .str x, _ => .str x
theorem dpAll_flat {K : PySem.W.Frag} {H : Hp} : ∀ {vs : List V}, vs.all isFlat = true → DpAll K H vs (vs.map dV)
  | [], _ => .nil
  | v :: vs, h => by
    rw [List.all_cons, Bool.and_eq_true] at h
    exact .cons (dp_flat h.1) (dpAll_flat h.2)
theorem dpAll_strs {K : PySem.W.Frag} {H : Hp} : ∀ (ys : List Str), DpAll K H (ys.map V.str) (ys.map PyData.str)
  | [] => .nil
  | y :: ys => .cons (.str y) (dpAll_strs ys)
end Tp
set_option Elab.async false
set_option linter.all false
set_option maxRecDepth 100000
set_option maxHeartbeats 4000000
/-! exceptions of the program's own classes over any built-in base: how one is made, by position and by keyword -/
namespace Tp
open PySem HandSPX
/-- what is asked of the line behind an own class that is made by newId of B -/
structure LineX (B : String) (bm : List Value) : Prop where
  hB : bm.contains (.type B) = true
  hA : bm.contains (.type "AttributeError") = false
  hN : bm.contains (.type "NameError") = false
section
variable {prog : Program} {w : World} {A : Around} {E : Value → Shared → Prop} {R : Result → Shared → Prop} {h : Heap} {g : Array GenState} {d : Drawn} {t : Nat} {os : OsState}
variable {nm q : Str} {C N : Addr} {bs bm bmB : List Value} {hdct : Bool} {sn : List Str} {sub : List Value} {ab : Bool} {col : Option Bool} {dd : Option Addr} {k0 k1 k2 k3 k5 : Option Value} {B newId initId : String}
/-- may newId make it? -/
theorem mk_check {M : Model} (F : ExcBaseFacts B newId initId bmB) (L : LineX B bm) {rest : List Value} {kw : List (Str × Value)} {Q : Unit → Shared → Prop}
    (hC : h.get? C = some (excClassObj nm q C N bs bm hdct sn sub ab col dd k0 k1 k2 k3 k5 newId))
    (hq : Q () ⟨h, g, d, t, os⟩) : wpAny M A (checkBuiltinCall newId ⟨.ref C :: rest, kw⟩) Q E ⟨h, g, d, t, os⟩ := by
  have hc : (Value.ref C :: bm).contains (.type B) = true := by
    rw [List.contains_cons]
    exact Bool.or_eq_true_iff.mpr (.inr L.hB)
  have hst := F.noStar
  simp only [checkBuiltinCall, F.newSplit, F.newKind, F.newRow]
  repeat (first
    | refine wpAny_loadPart_at hC ?_
    | (refine wpAny_isSubtype_exc hC ?_; rw [hc])
    | refine wpAny_staticBase_exc hC ?_
    | refine wpAny_madeBy_exc hC ?_
    | simp only [Bool.false_eq_true, bne_self_eq_false, if_false]
    | wp_step)
  exact hq
/-- newId itself -/
theorem mk_new (F : ExcBaseFacts B newId initId bmB) (L : LineX B bm) {rest : List Value} {kw : List (Str × Value)}
    (hC : h.get? C = some (excClassObj nm q C N bs bm hdct sn sub ab col dd k0 k1 k2 k3 k5 newId)) (hz : rest.length ≤ sizeLine)
    (hq : R (.ok (.ret (.ref (h.objs.size + 1)))) ⟨(h.push (PySem.W.kdv_tup rest)).push (excO C h.objs.size), g, d, t, os⟩) :
    codeAny (model prog w) A (.builtin newId ⟨.ref C :: rest, kw⟩) R ⟨h, g, d, t, os⟩ := by
  have hends := F.ends
  have up : ∀ {X : String} {b : Bool}, bm.contains (.type X) = b → (Value.ref C :: bm).contains (.type X) = b := fun {X b} e => by
    rw [List.contains_cons, e]
    cases b <;> rfl
  have h1 := up L.hB
  have h2 := up L.hA
  have h3 := up L.hN
  refine codeAny_builtinAt F.entry ?_
  unfold Builtin.«BaseException.__new__»
  refine wpAt_bind ?_
  show wpAt _ _ _ (stack >>= _) _ _ _
  refine wpAt_bind (wpAt_stack fun p below => wpAt_of_wpAny ?_)
  wp_walk
  refine wpAt_of_wpAny ?_
  rw [F.owner]
  repeat (first
    | with_reducible refine wpAny_loadPart_at hC ?_
    | with_reducible refine wpAny_madeHere_exc F.canon hC ?_
    | (with_reducible refine wpAny_isSubtype_exc hC ?_; first | rw [h1] | rw [h2] | rw [h3])
    | wp_step)
  show R _ _
  rw [Heap.size_push]
  exact hq
/-- type.__call__ on it, up to its own __init__ -/
theorem mk_type (F : ExcBaseFacts B newId initId bmB) (L : LineX B bm) {rest : List Value} {kw : List (Str × Value)} {iv : Value} {Q : Fin → Shared → Prop}
    (hC : h.get? C = some (excClassObj nm q C N bs bm hdct sn sub ab col dd k0 k1 k2 k3 k5 newId)) (hz : rest.length ≤ sizeLine)
    (hi : W.Looks (model prog w) h (typeLookup (.ref C) "__init__") (some iv))
    (hb : ∀ self, W.Looks (model prog w) h (bindSpecial iv self) (iv, [self]))
    (hq : codeAny (model prog w) A (.call iv ⟨.ref (h.objs.size + 1) :: rest, kw⟩)
      (fun r s' => match r with
        | .ok (.ret v) => v = .none ∧ Q (.done (.ret (.ref (h.objs.size + 1)))) s'
        | .ok _ => False
        | .error e => E e s') ⟨(h.push (W.kdv_tup rest)).push (excO C h.objs.size), g, d, t, os⟩) :
    wpAny (model prog w) A (Builtin.«type.__call__» ⟨.ref C :: rest, kw⟩) Q E ⟨h, g, d, t, os⟩ := by
  repeat (first
    | with_reducible refine wpAny_madeBy_exc hC ?_
    | with_reducible refine wpAny_loadPart_at hC ?_
    | wp_step)
  refine codeAny_call_builtin_code (Code.quiet_builtin _ F.quiet) (mk_check F L hC ?_)
  refine mk_new F L hC hz ?_
  show wpAny _ _ _ _ _ _
  have kp : ∀ b o, h.get? b = some o → ((h.push (W.kdv_tup rest)).push (excO C h.objs.size)).get? b = some o :=
    fun b o e => Heap.get?_push_of_some _ (Heap.get?_push_of_some _ e)
  have hC' := kp _ _ hC
  have hx : ((h.push (W.kdv_tup rest)).push (excO C h.objs.size)).get? (h.objs.size + 1) = some (excO C h.objs.size) := by heap_get
  have hcC : (Value.ref C :: bm).contains (.ref C) = true := by simp
  unfold isInstance
  repeat (first
    | with_reducible refine wpAny_loadPart_at hx ?_
    | (with_reducible refine wpAny_isSubtype_exc hC' ?_; rw [hcC])
    | wp_step)
  show wpAny _ _ (typeLookup (.ref C) _) _ _ _
  refine (hi.keeps kp).at (wpAny_holding (wpAny_bind (((hb (.ref (h.objs.size + 1))).keeps kp).at ?_)))
  refine wpAny_bind (wpAny_call (codeAny_mono hq fun r s' z => ?_))
  cases r with
  | error e => exact z
  | ok fl =>
    cases fl with
    | ret v =>
      obtain ⟨ev, z'⟩ := z
      subst ev
      first
        | exact wpAny_pure (wpAny_pure z')
        | (wp_walk; exact z')
    | next => exact False.elim z
    | brk => exact False.elim z
    | cont => exact False.elim z
/-- the call C(..) -/
theorem mk_call (F : ExcBaseFacts B newId initId bmB) (L : LineX B bm) {rest : List Value} {kw : List (Str × Value)} {iv : Value}
    (hC : h.get? C = some (excClassObj nm q C N bs bm hdct sn sub ab col dd k0 k1 k2 k3 k5 newId)) (hz : rest.length ≤ sizeLine)
    (hi : W.Looks (model prog w) h (typeLookup (.ref C) "__init__") (some iv))
    (hb : ∀ self, W.Looks (model prog w) h (bindSpecial iv self) (iv, [self]))
    (hq : codeAny (model prog w) (A.under (.builtin "type.__call__" ⟨.ref C :: rest, kw⟩)) (.call iv ⟨.ref (h.objs.size + 1) :: rest, kw⟩) (W.InitBack (h.objs.size + 1) R)
      ⟨(h.push (W.kdv_tup rest)).push (excO C h.objs.size), g, d, t, os⟩) :
    codeAny (model prog w) A (.call (.ref C) ⟨rest, kw⟩) R ⟨h, g, d, t, os⟩ := by
  have f1 := tc_lookup
  have f2 := tc_bind (.ref C)
  have hTy : (⟨h, g, d, t, os⟩ : Shared).TypeIs (.ref C) "type" := ⟨_, hC, rfl⟩
  refine codeAny_of_tree ?_
  show wpAny _ _ (callAny (.ref C) _) _ _ _
  repeat (any_goals (first | assumption | with_reducible refine wpAny_loadPart_at hC ?_ | wp_step))
  refine ⟨rfl, codeAny_call_builtin_at (Code.quiet_builtin _ (by decide +kernel)) entry_typeCall (wpAny_check_type_call_sub hC (mk_type F L hC hz hi hb ?_))⟩
  refine codeAny_mono hq fun r s' z => ?_
  cases r with
  | error e => exact z
  | ok fl => cases fl <;> exact z
end
end Tp
set_option Elab.async false
set_option linter.all false
set_option maxRecDepth 100000
set_option maxHeartbeats 4000000
/-! exceptions of the program's own classes, over any built-in base: made as values, stored into, read, asked for their class, raised -/
namespace Tp
open PySem PySem.Spec PyProof.Rows L2
abbrev valLine : List Value := [.type "ValueError", .type "Exception", .type "BaseException", .type "object"]
abbrev keyLine : List Value := [.type "KeyError", .type "LookupError", .type "Exception", .type "BaseException", .type "object"]
abbrev lookLine : List Value := [.type "LookupError", .type "Exception", .type "BaseException", .type "object"]
local macro_rules | `(tactic| walk_at "factX") => `(tactic| first | decide +kernel | kernel_rfl | (rw [isSubtype_type]; kernel_rfl) | (rw [mroOf_type]; kernel_rfl) | (intro z; kernel_rfl) | (intro z1 z2 z3; unfold argsOk; kernel_rfl))
theorem storeKey : StoreFacts "KeyError" keyLine "object.__setattr__" "object" :=
  { mro := by walk_at "factX"
    slot := .of (owner := "object") (n := "__setattr__")
      (by rw [typeLookup_type, builtinLookup_eq_fast]; kernel_rfl) (by walk_at "factX") (by walk_at "factX")
      (by walk_at "factX") (by first | exact .inl (by walk_at "factX") | exact .inr (by walk_at "factX")) (by walk_at "factX")
    entry := F.store_object.entry
    kind := by walk_at "factX"
    split := by walk_at "factX"
    hasOwner := by walk_at "factX"
    args := by walk_at "factX"
    passes := by walk_at "factX" }
/-- a base: what makes its instances, what line stands behind its classes -/
structure BaseX (newId : String) (line : List Value) : Prop where
  ex : ∃ (B initId S : String) (bmB : List Value), ExcBaseFacts B newId initId bmB ∧ StoreFacts S line "object.__setattr__" "object" ∧ LineX B line
theorem baseV : BaseX "ValueError.__new__" valLine := ⟨_, _, _, _, F.excBase_ValueError, F.store_ValueError, ⟨by decide +kernel, by decide +kernel, by decide +kernel⟩⟩
theorem baseK : BaseX "LookupError.__new__" keyLine := ⟨_, _, _, _, F.excBase_LookupError, storeKey, ⟨by decide +kernel, by decide +kernel, by decide +kernel⟩⟩
theorem baseL : BaseX "LookupError.__new__" lookLine := ⟨_, _, _, _, F.excBase_LookupError, F.store_LookupError, ⟨by decide +kernel, by decide +kernel, by decide +kernel⟩⟩
/-- what the written part says of an own class of exceptions -/
structure ExK (K : PySem.W.Frag) (C : Addr) : Prop where
  ln : ∃ (newId : String) (line : List Value), BaseX newId line ∧ PySem.W.excInitIn K C line newId = true ∧ PySem.W.excOver K C line = true
  sa : PySem.W.findIn K (.ref C) "__setattr__" = some (some (.builtin "object.__setattr__"))
  ga : PySem.W.findIn K (.ref C) "__getattribute__" = some (some (.builtin "BaseException.__getattribute__"))
  gg : PySem.W.findIn K (.ref C) "__getattr__" = some none
  exC : PySem.W.subIn K (.ref C) (.type "BaseException") = some true
  tyC : PySem.W.typeIn K (.ref C) = some (.type "type")
  hdC : PySem.W.hasDictIn K C = true
  kC : PySem.W.keepIn K (.ref C) = true
  ha : PySem.W.findIn K (.ref C) "__class__" = some (some (.builtin "object.__class__"))
  hn : PySem.W.specialIn K (.builtin "object.__class__") "__get__" = some (some (.builtin "getset_descriptor.__get__"))
  ht : PySem.W.takesIn K (.builtin "object.__class__") = some true
  hm : PySem.W.mroIn K C (.type "object") = some true
/-- a class for which name f is free -/
def freeB (K : PySem.W.Frag) (C : Addr) (f : Str) : Bool := decide (PySem.W.findIn K (.ref C) f = some none)
theorem freeB_ok {K : PySem.W.Frag} {C : Addr} {f : Str} (h : freeB K C f = true) : PySem.W.findIn K (.ref C) f = some none := of_decide_eq_true h
def exkB (K : PySem.W.Frag) (C : Addr) (newId : String) (line : List Value) : Bool :=
  PySem.W.excInitIn K C line newId && (PySem.W.excOver K C line &&
  (decide (PySem.W.findIn K (.ref C) "__setattr__" = some (some (.builtin "object.__setattr__"))) &&
  (decide (PySem.W.findIn K (.ref C) "__getattribute__" = some (some (.builtin "BaseException.__getattribute__"))) &&
  (decide (PySem.W.findIn K (.ref C) "__getattr__" = some none) &&
  (decide (PySem.W.subIn K (.ref C) (.type "BaseException") = some true) &&
  (decide (PySem.W.typeIn K (.ref C) = some (.type "type")) &&
  (PySem.W.hasDictIn K C && (PySem.W.keepIn K (.ref C) &&
  (decide (PySem.W.findIn K (.ref C) "__class__" = some (some (.builtin "object.__class__"))) &&
  (decide (PySem.W.specialIn K (.builtin "object.__class__") "__get__" = some (some (.builtin "getset_descriptor.__get__"))) &&
  (decide (PySem.W.takesIn K (.builtin "object.__class__") = some true) && decide (PySem.W.mroIn K C (.type "object") = some true))))))))))))
theorem exkB_ok {K : PySem.W.Frag} {C : Addr} {newId : String} {line : List Value} (b : BaseX newId line) (h : exkB K C newId line = true) : ExK K C := by
  unfold exkB at h
  simp only [Bool.and_eq_true, decide_eq_true_eq] at h
  obtain ⟨h1, h2, h3, h4, h5, h6, h7, h8, h9, h10, h11, h12, h13⟩ := h
  exact ⟨⟨newId, line, b, h1, h2⟩, h3, h4, h5, h6, h7, h8, h9, h10, h11, h12, h13⟩

/-- an exception that stands as a value at a: its class, its fields -/
def ExAt (H : Hp) (a C : Addr) (fs : List (Str × V)) : Prop := (fs = [] ∧ H a = some (exo a C none)) ∨ ∃ dx, dx ≠ a ∧ H a = some (exo a C (some dx)) ∧ H dx = some (exd dx fs)

theorem ne_of_none' {H : Hp} {a b : Addr} {o : HO} (n : H b = none) (e : H a = some o) : b ≠ a := fun z => by
  rw [z, e] at n
  cases n
section

variable {prog : Program} {w : World} {A : Around} {E : Value → Shared → Prop} {R : Result → Shared → Prop} {hp : Heap} {g : Array GenState} {d : Drawn} {t : Nat} {os : OsState}
variable {K : PySem.W.Frag} {name : Str} {tk : Tok} {v : Value} {x C t1 : Addr} {B : String} {line : List Value}
theorem taker_none (h : PySem.W.findIn K (.ref C) name = some none) : PySem.W.takerIn K C name = some none := by
  unfold PySem.W.takerIn
  rw [h]
  rfl
/-- the first field -/
theorem osa_first (SF : StoreFacts B line "object.__setattr__" "object") (X : K.In hp) (hx : hp.get? x = some (PySem.W.excObj C t1 none .none)) (hl : PySem.W.excOver K C line = true) (hh : PySem.W.hasDictIn K C = true) (ha : PySem.W.findIn K (.ref C) name = some none)
    (hq : ∀ h' tk' dx, (∀ b o, b ≠ x → hp.get? b = some o → h'.get? b = some o) → hp.objs.size ≤ dx → dx ≠ x → h'.get? x = some (PySem.W.excObj C t1 (some dx) .none) →
      h'.Ns1 dx (fun y => if y = name then some v else none) → R (.ok (.ret .none)) ⟨h', g, d, tk', os⟩) :
    codeAny (model prog w) A (.call (.builtin "object.__setattr__") ⟨[.ref x, .str name tk, v], []⟩) R ⟨hp, g, d, t, os⟩ := by
  refine PySem.W.osa_openX (od := none) SF X ⟨hx, rfl, rfl, trivial⟩ hl (taker_none ha) fun b => ?_
  obtain ⟨cd, hc, hd'⟩ := PySem.W.any_some hh
  refine wpAny_bind (wpAny_pure (wpAny_bind (PySem.W.instanceDict_exc hx (PySem.W.looks_clsIn X hc) hd' ?_)))
  show wpAny _ _ (Builtin.ObjectAttr.storeInDict hp.objs.size (.str name tk) name v) _ _ _
  have hxs : x ≠ hp.objs.size := Nat.ne_of_lt (Heap.lt_size hx)
  refine HandSPX.store_in_new ?_ fun h' tk' hn' hs => ?_
  · exact ⟨_, #[], _, (Heap.get?_update_ne _ _ _ _ hxs.symm).trans (Heap.get?_push_at rfl rfl), rfl, fun e he => absurd he (by simp), fun _ => rfl⟩
  · refine hq h' tk' hp.objs.size (fun b o hb ho => ?_) (Nat.le_refl _) hxs.symm ?_ hn'
    · exact (hs.2 b (Nat.ne_of_lt (Heap.lt_size ho))).trans ((Heap.get?_update_ne _ _ _ _ hb).trans (Heap.get?_push_of_some _ ho))
    · exact (hs.2 x hxs).trans (Heap.get?_update_self _ (Heap.get?_push_of_some _ hx) rfl)
/-- a further one -/
theorem osa_next {dx : Addr} {m0 : Str → Option Value} {nl : List Str} (SF : StoreFacts B line "object.__setattr__" "object") (X : K.In hp) (hx : hp.get? x = some (PySem.W.excObj C t1 (some dx) .none)) (hl : PySem.W.excOver K C line = true) (hh : PySem.W.hasDictIn K C = true) (ha : PySem.W.findIn K (.ref C) name = some none)
    (hns : hp.Ns1 dx m0) (hw : Within m0 nl) (hz : nl.length ≤ 1000)
    (hq : ∀ h' tk', (∀ b o, b ≠ dx → hp.get? b = some o → h'.get? b = some o) → h'.Ns1 dx (fun y => if y = name then some v else m0 y) → R (.ok (.ret .none)) ⟨h', g, d, tk', os⟩) :
    codeAny (model prog w) A (.call (.builtin "object.__setattr__") ⟨[.ref x, .str name tk, v], []⟩) R ⟨hp, g, d, t, os⟩ := by
  obtain ⟨oD, _, _, hoD, _, _⟩ := hns.count hw
  refine PySem.W.osa_openX (od := some oD) SF X ⟨hx, rfl, rfl, hoD⟩ hl (taker_none ha) fun b => ?_
  obtain ⟨cd, hc, hd'⟩ := PySem.W.any_some hh
  refine wpAny_bind (wpAny_pure (wpAny_bind (wpAny_bind (wpAny_loadPart hx (wpAny_bind ((PySem.W.looks_clsIn X hc).here ?_))))))
  rw [hd']
  refine wpAny_pure (a := some dx) ?_
  exact PySem.OEX.store_in_old hns hw hz fun h' tk' hn' hs => hq h' tk' (fun b o hb ho => (hs.2 b hb).trans ho) hn'
end
section
variable {X : Cx} {pins : List (Addr × Obj)} {σ : L2.St} {H : Hp} {s : Shared} {a C dx : Addr} {f : Str} {y : V} {u : Value} {fs : List (Str × V)} {E : Value → Shared → Prop} {A : Around}
theorem st_first {Q : Unit → Shared → Prop} (T : ExK X.K C) (I : Inv X pins σ H s) (e : H a = some (exo a C none)) (hno : PySem.W.findIn X.K (.ref C) f = some none) (ry : RelV y u)
    (h : ∀ dx s', H dx = none → dx ≠ a → Inv X pins σ (upd (upd H dx (exd dx [(f, y)])) a (exo a C (some dx))) s' → Q () s') : wpAny (model X.prog X.w) A (setAttr (.ref a) f u) Q E s := by
  obtain ⟨newId, line, ⟨B, initId, S, bmB, FB, SF, L⟩, hi, hl⟩ := T.ln
  obtain ⟨t1, ho⟩ := exo_at I.hok e
  obtain ⟨hp, g, d, t, os⟩ := s
  refine PySem.W.set_plain I.kIn (ox := PySem.W.excObj C t1 none .none) (od := none) ⟨ho, rfl, rfl, trivial⟩ T.sa ?_
  refine osa_first SF I.kIn ho hl T.hdC hno (fun h' tk' dx k dn dne hx hn => ?_)
  have hnd : H dx = none := I.hok.fresh dn
  have nd : ∀ {b : Addr} {o : Obj}, hp.get? b = some o → b ≠ dx := fun {b o} q => Nat.ne_of_lt (Nat.lt_of_lt_of_le (Heap.lt_size q) dn)
  have na : ∀ {b : Addr}, H b = none → b ≠ a := fun {b} n => ne_of_none' n e
  have U : Un X.fs [] H (upd (upd H dx (exd dx [(f, y)])) a (exo a C (some dx))) hp h' :=
    ⟨fun b o q n _ _ => k b o (na n) q, fun b o q n _ _ => ⟨o.slots, k b o (na n) q⟩,
      fun b o q n _ => (upd_ne (na n)).trans ((upd_ne (nd q)).trans n),
      fun b o q _ => if hb : b = a then ⟨_, hb ▸ hx⟩ else ⟨o, k b o hb q⟩,
      fun b xs q => (upd_ne (at_ne e q exo_tup)).trans ((upd_ne (ne_of_none q hnd)).trans q),
      fun b o v q => (upd_ne (at_ne e q exo_frz)).trans ((upd_ne (ne_of_none q hnd)).trans q),
      fun b ps q => ⟨#[], by
        rw [upd_ne (at_ne e q exo_tbl), upd_ne (ne_of_none q hnd), q]
        simp⟩⟩
  refine h dx _ hnd dne (I.un (t' := tk') U fun b o q => ?_)
  by_cases hb : b = a
  · subst hb
    cases upd_same.symm.trans q
    exact exo_ok hx
  · rw [upd_ne hb] at q
    by_cases hd : b = dx
    · subst hd
      cases upd_same.symm.trans q
      exact exd_ok hn (relO_put (fs := []) ry fun g => True.intro)
    · rw [upd_ne hd] at q
      have stay : ∀ {c : Addr}, H c = some (.own b) → c ≠ a := fun hc => at_ne e hc exo_own
      refine (I.hok b o q).stay (fun c v hc z => k c v (hc.elim (fun ec => ec ▸ hb) stay) z) (fun c hc => ?_) (fun c xs hc => ?_)
      · exact (upd_ne (stay hc)).trans ((upd_ne (ne_of_none hc hnd)).trans hc)
      · exact (upd_ne (at_ne e hc exo_tup)).trans ((upd_ne (ne_of_none hc hnd)).trans hc)
theorem st_next {Q : Unit → Shared → Prop} (T : ExK X.K C) (I : Inv X pins σ H s) (e : H a = some (exo a C (some dx))) (ed : H dx = some (exd dx fs)) (hl : fs.length ≤ 900) (hno : PySem.W.findIn X.K (.ref C) f = some none) (ry : RelV y u)
    (h : ∀ s', Inv X pins σ (upd H dx (exd dx ((f, y) :: fs))) s' → Q () s') : wpAny (model X.prog X.w) A (setAttr (.ref a) f u) Q E s := by
  obtain ⟨newId, line, ⟨B, initId, S, bmB, FB, SF, L⟩, hi, hlo⟩ := T.ln
  obtain ⟨t1, ho⟩ := exo_at I.hok e
  obtain ⟨mA, hns, rel⟩ := exd_at I.hok ed
  have hw := within_of rel
  obtain ⟨hp, g, d, t, os⟩ := s
  obtain ⟨oD, _, _, hoD, _, _⟩ := hns.count hw
  refine PySem.W.set_plain I.kIn (ox := PySem.W.excObj C t1 (some dx) .none) (od := some oD) ⟨ho, rfl, rfl, hoD⟩ T.sa ?_
  refine osa_next SF I.kIn ho hlo T.hdC hno hns hw (by rw [List.length_map]; omega) (fun h' tk' k hn => ?_)
  have hd : ∃ o, h'.get? dx = some o := by
    obtain ⟨o, _, _, e', _⟩ := hn
    exact ⟨o, e'⟩
  exact h _ (I.write (t' := tk') (x := dx) (e := dx) (o := exd dx ((f, y) :: fs)) (by rw [ed]; exact True.intro) (.inl rfl) k hd (exd_ok hn (relO_put ry rel)))
end
end Tp
set_option Elab.async false
set_option linter.all false
set_option maxRecDepth 100000
set_option maxHeartbeats 4000000
/-! rules for exceptions that stand as values -/
namespace Tp
open PySem PySem.Spec PyProof.Rows L2
section
variable {X : Cx} {pins : List (Addr × Obj)} {σ : L2.St} {H : Hp} {s : Shared} {a D C : Addr} {fs : List (Str × V)}
theorem ex_inst (I : Inv X pins σ H s) (h : ExAt H a D fs) : ∃ (ox : Obj) (od : Option Obj), PySem.W.InstAt s.heap a ox D od ∧ ∀ f v, fs.lookup f = some v → ∃ o u, od = some o ∧ PySem.W.lookIn f o = some (some u) ∧ RelV v u := by
  rcases h with ⟨rfl, e⟩ | ⟨dx, _, e, ed⟩
  · obtain ⟨t1, ho⟩ := exo_at I.hok e
    exact ⟨_, none, ⟨ho, rfl, rfl, trivial⟩, fun f v z => by cases z⟩
  · obtain ⟨t1, ho⟩ := exo_at I.hok e
    obtain ⟨mA, hns, rel⟩ := exd_at I.hok ed
    obtain ⟨oD, hoD, hl⟩ := lookIn_ns hns
    refine ⟨_, some oD, ⟨ho, rfl, rfl, hoD⟩, fun f v z => ?_⟩
    obtain ⟨u, hu, ru⟩ := RelO.some_of (v := v) (o := mA f) (by rw [← z]; exact rel f)
    exact ⟨oD, u, rfl, by rw [hl, hu], ru⟩
theorem ex_kit (T : ExK X.K D) {ox : Obj} {od : Option Obj} : PySem.W.KitX X.K (.ref a) (.ref D) (fun h => PySem.W.InstAt h a ox D od) :=
  PySem.W.kitx_exc (by obtain ⟨cd, hc, _⟩ := PySem.W.any_some T.hdC; rw [hc]; rfl) T.ga T.gg T.exC T.ha T.hn T.ht T.hm
end
/-- isinstance(e, c) -/
def rIsx (K : PySem.W.Frag) : List V → Hp → VK → Prop := fun xs H Q => ∃ (a D : Addr) (fs : List (Str × V)) (c : V) (cv : Value) (b : Bool), xs = [.ref a, c] ∧ ExAt H a D fs ∧ ExK K D ∧ ClsV c cv ∧ PySem.W.kitOne K (.ref D) cv = some b ∧ Q (.bl b) H
/-- isinstance(e, (c, ..)) -/
def rIsxT (K : PySem.W.Frag) : List V → Hp → VK → Prop := fun xs H Q => ∃ (a D : Addr) (fs : List (Str × V)) (tp : Addr) (cs : List V) (us : List Value) (b : Bool), xs = [.ref a, .ref tp] ∧ ExAt H a D fs ∧ ExK K D ∧ H tp = some (.tup cs) ∧ Paired ClsV cs us ∧ PySem.W.kitAny K (.ref D) us = some b ∧ Q (.bl b) H
section
variable {X : Cx}
theorem call_isx : CallR X (.builtin "isinstance") (rIsx X.K) := by
  intro pins s σ H xs us Q I r h
  obtain ⟨a, D, fs, c, cv, b, rfl, ha, T, k, e, q⟩ := h
  obtain ⟨u1, u2, rfl, r1, r2⟩ := vals2 r
  cases (show u1 = Value.ref a from r1)
  have e2 := k.eq r2
  subst e2
  obtain ⟨ox, od, J, _⟩ := ex_inst I ha
  exact PySem.W.kia_one (ex_kit T) I.kIn J e (fun z => nomatch z) fun tk => ⟨.bl b, H, I.tok tk, rfl, q⟩
theorem call_isxT : CallR X (.builtin "isinstance") (rIsxT X.K) := by
  intro pins s σ H xs us Q I r h
  obtain ⟨a, D, fs, tp, cs, ws, b, rfl, ha, T, hT, k, e, q⟩ := h
  obtain ⟨u1, u2, rfl, r1, r2⟩ := vals2 r
  cases (show u1 = Value.ref a from r1)
  cases (show u2 = Value.ref tp from r2)
  obtain ⟨ox, od, J, _⟩ := ex_inst I ha
  obtain ⟨_, its, rv, o, h1, h2, n, h3⟩ := (show ObjOk X.prog X.w H s.heap tp (.tup cs) from I.hok tp _ hT)
  have e3 := ClsV.all k rv
  subst e3
  obtain ⟨oc, od', dt, sl⟩ := o
  simp only at h2 h3
  subst h2 h3
  exact PySem.W.kia_tup (ex_kit T) I.kIn J h1 e (fun z => nomatch z) fun tk => ⟨.bl b, H, I.tok tk, rfl, q⟩
end
/-- e.f -/
def tXg (K : PySem.W.Frag) (f : Str) (te : TE) : TE := fun σ H Q => te σ H fun x H1 => ∃ (a D : Addr) (fs : List (Str × V)) (v : V), x = .ref a ∧ ExAt H1 a D fs ∧ ExK K D ∧ PySem.W.findIn K (.ref D) f = some none ∧ fs.lookup f = some v ∧ Q v H1
/-- o.f = e -/
def tOsx (K : PySem.W.Frag) (f : Str) (to te : TE) : TS := fun D σ H => te σ H fun y H1 => to σ H1 fun x H2 => ∃ a C : Addr, x = .ref a ∧ ExK K C ∧ PySem.W.findIn K (.ref C) f = some none ∧
  ((H2 a = some (exo a C none) ∧ ∀ dx, H2 dx = none → dx ≠ a → D.nx σ (upd (upd H2 dx (exd dx [(f, y)])) a (exo a C (some dx)))) ∨
    ∃ (dx : Addr) (fs : List (Str × V)), H2 a = some (exo a C (some dx)) ∧ H2 dx = some (exd dx fs) ∧ fs.length ≤ 900 ∧ D.nx σ (upd H2 dx (exd dx ((f, y) :: fs))))
/-- C(..): its __init__ keeps sp -/
def tMkx (C : Addr) (n m : Nat) (sp : Sp) (gV : List V → List V → List V) (t tk : TA) : TE := fun σ H Q => t σ H fun vs H1 => tk σ H1 fun zs H2 => vs.length = n ∧ zs.length = m ∧ n ≤ 1000 ∧
  ∀ a, H2 a = none → sp (gV (.ref a :: vs) zs) (upd H2 a (exo a C none)) (fun v H3 => v = .non ∧ Q (.ref a) H3) E0
section
variable {X : Cx} {k n : Nat} {C fI : Addr} {fd : FuncData} {ps ks : List Str} {sp : Sp} {x f : Str} {p pos p' : Pos} {e o : Expr} {es : List Expr} {kws : List Keyword} {te to : TE} {t tk : TA}
variable {g : List Value → List Value → List Value} {gV : List V → List V → List V}
theorem pe_xg (he : PE X e te) (hb : attributeBase e f X.env (eval e X.env) = eval e X.env := by rfl) : PE X (.Attribute e f pos) (tXg X.K f te) := by
  refine ⟨fun pins s σ H Q I h => attr_of hb (thn (he.run pins s σ H _ I h) fun u s1 hh => ?_)⟩
  obtain ⟨x, H1, I1, rx, a, D, fs, v, rfl, hA, T, hno, l, q⟩ := hh
  cases (show u = Value.ref a from rx)
  obtain ⟨ox, od, J, hl⟩ := ex_inst I1 hA
  obtain ⟨o, w, rfl, lo, ru⟩ := hl f v l
  exact HandSPX.exc_get I1.kIn J T.ga T.gg T.exC (PySem.W.findObj_own T.hdC hno rfl lo) (handed_of ru) ⟨v, H1, I1.tok _, ru, q⟩
theorem ps_osx (ho : PE X o to) (he : PE X e te) (hs : swapsWith e (some (.Attribute o f p')) pos.line X.env = pure false := by rfl) : PS X (.Assign [.Attribute o f p'] e pos) (tOsx X.K f to te) := by
  refine ⟨fun pins s σ H D I h => ?_⟩
  refine plainObj_wpAny_Assign_Attribute (thn (he.run pins s σ H _ I h) fun v s1 ⟨y, H1, I1, r1, q1⟩ => thn (ho.run pins s1 σ H1 _ I1 q1) fun u s2 hh => ?_) hs
  obtain ⟨x, H2, I2, r2, a, C, rfl, T, hno, q⟩ := hh
  cases (show u = Value.ref a from r2)
  rcases q with ⟨ea, q⟩ | ⟨dx, fs, ea, ed, hl, q⟩
  · exact st_first T I2 ea hno r1 fun dx s' n ne J => ⟨σ, _, J, q dx n ne⟩
  · exact st_next T I2 ea ed hl hno r1 fun s' J => ⟨σ, _, J, q⟩
/-- the call of the class, its arguments told -/
theorem run_mkx {pins : List (Addr × Obj)} {σ : L2.St} {H : Hp} {s : Shared} {Q : VK} {us ws : List Value} {vs zs : List V} (T : ExK X.K C) (iC : PySem.W.findIn X.K (.ref C) "__init__" = some (some (.ref fI))) (tI : PySem.W.typeIn X.K (.ref fI) = some (.type "function"))
    (F : FnOk X.prog X.w X.K X.mg X.base CX0 k fI fd ps sp) (hr : Room (k + 1) X.A) (hb : KBn X.K fd ps (n + 1) ks g gV) (I : Inv X pins σ H s) (r : Vals vs us) (rz : Vals zs ws) (l1 : vs.length = n) (l2 : zs.length = ks.length) (hn : n ≤ 1000)
    (h : ∀ a, H a = none → sp (gV (.ref a :: vs) zs) (upd H a (exo a C none)) (fun v H3 => v = .non ∧ Q (.ref a) H3) E0) :
    wpAny (model X.prog X.w) X.A (call (.ref C) us (ks.zip ws)) (EP X pins σ Q) X.xe s := by
  obtain ⟨newId, line, ⟨B, initId, S, bmB, FB, SF, L⟩, hi, hl⟩ := T.ln
  obtain ⟨nm, N, qn, bs, bm, hdct, sn, sub, ab, col, dd, k0, k1, k2, k3, k5, hC, hT⟩ := PySem.W.excInit_of I.kIn hi
  have L' : LineX B bm := ⟨(hT _).trans L.hB, (hT _).trans L.hA, (hT _).trans L.hN⟩
  obtain ⟨hp, gg, dr, tk, os⟩ := s
  have hsz : hp.objs.size ≤ hp.objs.size + 1 := Nat.le_succ _
  have kk : ∀ b o, hp.get? b = some o → ((hp.push (PySem.W.kdv_tup us)).push (PySem.HandSPX.excO C hp.objs.size)).get? b = some o := fun b o z => Heap.get?_push_of_some _ (Heap.get?_push_of_some _ z)
  have hget : ((hp.push (PySem.W.kdv_tup us)).push (PySem.HandSPX.excO C hp.objs.size)).get? (hp.objs.size + 1) = some (PySem.HandSPX.excO C hp.objs.size) := by heap_get
  have I2 : Inv X pins σ (upd H (hp.objs.size + 1) (exo (hp.objs.size + 1) C none)) ⟨(hp.push (PySem.W.kdv_tup us)).push (PySem.HandSPX.excO C hp.objs.size), gg, dr, tk, os⟩ :=
    I.laid (t' := tk) kk hsz (exo_ok hget)
  have hq := h (hp.objs.size + 1) (I.hok.fresh hsz)
  have r1 : Vals (V.ref (hp.objs.size + 1) :: vs) (Value.ref (hp.objs.size + 1) :: us) := .cons rfl r
  have lu : us.length = n := r.length.symm.trans l1
  have hus : us.length ≤ sizeLine := by
    rw [lu, sizeLine_eq]
    omega
  have e1 : (Value.ref (hp.objs.size + 1) :: us).length = n + 1 := congrArg Nat.succ lu
  have e2 : ws.length = ks.length := rz.length.symm.trans l2
  refine wpAny_call (mk_call FB L' hC hus (PySem.W.looks_findIn I.kIn iC) (fun self => PySem.W.bind_fn I.kIn self tI)
    (codeAny_mono (F.run _ X.stack _ _ ⟨Value.ref (hp.objs.size + 1) :: us, ks.zip ws⟩ (g (Value.ref (hp.objs.size + 1) :: us) ws) _ _ E0 (hr.make C us (ks.zip ws))
      (I2.env0.make C us (ks.zip ws)) (hb.to _ (Value.ref (hp.objs.size + 1) :: us) ws I2.kIn e1 e2) (hb.rel r1 rz) hq) fun r' s' hq' => ?_))
  cases r' with
  | error e => exact False.elim hq'
  | ok fl =>
    cases fl with
    | ret u =>
      obtain ⟨v, H', I3, rv, ev, q3⟩ := I2.after hq'
      subst ev
      exact ⟨rv, ⟨V.ref (hp.objs.size + 1), H', I3, rfl, q3⟩⟩
    | next => exact False.elim hq'
    | brk => exact False.elim hq'
    | cont => exact False.elim hq'
/-- what a caller knows of an own class of exceptions: its __init__ -/
structure Cx1 (P : Program) (w : World) (K : PySem.W.Frag) (mg : Str → Option Value) (base : Heap) (x : Str) (C : Addr) (n : Nat) (ks : List Str) (sp : Sp) (gV : List V → List V → List V) : Prop where
  ex : ∃ (fI : Addr) (fd : FuncData) (ps : List Str) (g : List Value → List Value → List Value), ExK K C ∧ mg x = some (.ref C) ∧ PySem.W.findIn K (.ref C) "__init__" = some (some (.ref fI)) ∧ PySem.W.typeIn K (.ref fI) = some (.type "function") ∧
    FnOk P w K mg base CX0 1 fI fd ps sp ∧ KBn K fd ps (n + 1) ks g gV
/-- C(e, ..) -/
theorem pe_mkx (c : Cx1 X.prog X.w X.K X.mg X.base x C n [] sp gV) (hr : Room 2 X.A) (hg : Gl X x) (ha : PA X (e :: es) t)
    (hdb : (x == ("__debug__" : Str)) = false := by decide) (he : starEach (e :: es) X.env = (false, eval e X.env) :: starEach es X.env := by rfl) (hpl : (backTo pos (starEach es X.env)).any (·.1) = false := by rfl) :
    PE X (.Call (.Name x p) (e :: es) [] pos) (tMkx C n 0 sp gV t tNil) := by
  obtain ⟨fI, fd, ps, g, T, hm, iC, tI, F, hb⟩ := c.ex
  refine ⟨fun pins s σ H Q I h => wpAny_Call_Name_kw (ld_glob I hg hm ?_ hdb)⟩
  refine PySem.W.callWith_K (h₀ := X.base) I.ok.mod.kin T.kC (thn (ha.run pos pins s σ H _ I h) fun us s1 hh => ?_) he hpl
  obtain ⟨vs, H1, I1, r, l1, _, hn, q⟩ := hh
  exact ⟨I1.kIn, run_mkx T iC tI F hr hb I1 r (ws := []) .nil l1 rfl hn q⟩
/-- C(k = e, ..) -/
theorem pe_mkk (c : Cx1 X.prog X.w X.K X.mg X.base x C 0 ks sp gV) (hr : Room 2 X.A) (hg : Gl X x) (hkw : PK X kws tk)
    (hall : (backToKw pos (keywordEach kws X.env)).all (·.1.isSome) = true := by rfl) (hks : (backToKw pos (keywordEach kws X.env)).filterMap (·.1) = ks := by rfl) (hdb : (x == ("__debug__" : Str)) = false := by decide)
    (hpl : ((backTo pos (starEach [] X.env)).any (·.1) || (backToKw pos (keywordEach kws X.env)).any (·.1.isNone)) = false := by rfl) :
    PE X (.Call (.Name x p) [] kws pos) (tMkx C 0 ks.length sp gV tNil tk) := by
  obtain ⟨fI, fd, ps, g, T, hm, iC, tI, F, hb⟩ := c.ex
  refine ⟨fun pins s σ H Q I h => wpAny_Call_Name_kw (ld_glob I hg hm ?_ hdb)⟩
  refine PySem.W.callWith_KW0 (h₀ := X.base) I.ok.mod.kin T.kC hall (thn (hkw.run pos pins s σ H _ I h) fun ws s2 hh => ?_) hpl
  obtain ⟨zs, H2, I2, rz, l1, l2, hn, q⟩ := hh
  refine ⟨I2.kIn, ?_⟩
  rw [hks]
  exact run_mkx T iC tI F hr hb I2 .nil rz l1 l2 hn q
/-- C() -/
theorem pe_mk0 (c : Cx1 X.prog X.w X.K X.mg X.base x C 0 [] sp gV) (hr : Room 2 X.A) (hg : Gl X x) (hdb : (x == ("__debug__" : Str)) = false := by decide) :
    PE X (.Call (.Name x p) [] [] pos) (tMkx C 0 0 sp gV tNil tNil) := by
  obtain ⟨fI, fd, ps, g, T, hm, iC, tI, F, hb⟩ := c.ex
  refine ⟨fun pins s σ H Q I h => wpAny_Call_Name_kw (ld_glob I hg hm ?_ hdb)⟩
  obtain ⟨_, _, hn, q⟩ := h
  exact PySem.W.callWith_K0 (I.tok _).kIn T.kC (run_mkx T iC tI F hr hb (I.tok _) .nil (ws := []) .nil rfl rfl hn q)
/-- what makes an exception as a value may be raised -/
theorem pmk_x (hx : X.ex = []) (he : PE X e te) :
    PMk X e (fun σ H Q => te σ H fun x H1 => ∃ (a C : Addr) (d : Option Addr), x = .ref a ∧ H1 a = some (exo a C d) ∧ Fr0 X.H_0 a ∧ ExK X.K C ∧ Q (.ref C) d (delH H1 a)) := by
  intro pins s σ H Q I h
  refine wpAny_mono (he.run pins s σ H _ I h) (fun u s1 hu => ?_) fun _ _ x => x
  obtain ⟨v, H1, I1, r1, a, C, d, rfl, ha, h0, T, q⟩ := hu
  cases (show u = Value.ref a from r1)
  obtain ⟨t1, ho⟩ := exo_at I1.hok ha
  obtain ⟨G, gs, ga, J⟩ := I1.untrack ha h0 hx
  exact ⟨a, _, _, { s1 with heap := G }, delH H1 a, .ref C, d, rfl, J, gs, ga, ho, ⟨rfl, rfl⟩, rfl, rfl, delH_same, rfl, I1.bare, raises_own T.exC T.tyC, q⟩
end
end Tp
set_option Elab.async false
set_option linter.all false
set_option maxRecDepth 100000
set_option maxHeartbeats 4000000
/-! what an __init__ that stores its arguments leaves; making such an exception -/
namespace Tp
open PySem PySem.Spec PyProof.Rows L2
def Has (fs : List (Str × V)) (ns : List Str) (vs : List V) : Prop := ∀ (k : Nat) (n : Str) (v : V), ns[k]? = some n → vs[k]? = some v → fs.lookup n = some v
def ExI (H : Hp) (a C : Addr) (ns : List Str) (vs : List V) : Prop := ∃ fs, ExAt H a C fs ∧ Has fs ns vs
theorem ExAt.mono {H H' : Hp} {a C : Addr} {fs : List (Str × V)} (k : Same H H') (h : ExAt H a C fs) : ExAt H' a C fs := by
  rcases h with ⟨e, h⟩ | ⟨dx, n, h1, h2⟩
  · exact .inl ⟨e, k _ _ h⟩
  · exact .inr ⟨dx, n, k _ _ h1, k _ _ h2⟩
theorem ExI.mono {H H' : Hp} {a C : Addr} {ns : List Str} {vs : List V} (k : Same H H') (h : ExI H a C ns vs) : ExI H' a C ns vs := by
  obtain ⟨fs, h1, h2⟩ := h
  exact ⟨fs, h1.mono k, h2⟩
/-- an __init__ that stores its arguments under the names ns -/
def spI (C : Addr) (ns : List Str) : Sp := fun vs H Q _ => ∃ (a : Addr) (xs : List V), vs = .ref a :: xs ∧ xs.length = ns.length ∧ H a = some (exo a C none) ∧ ∀ H', Keep a H H' → ExI H' a C ns xs → Q .non H'
section
variable {K : PySem.W.Frag} {C : Addr} {vs : List V} {H : Hp} {Q : VK} {E : XK} {n m : Str}
theorem ini_len {ns : List Str} (h : spI C ns vs H Q E) : vs.length = (("self" : Str) :: ns).length := by
  obtain ⟨a, xs, rfl, hl, _⟩ := h
  exact congrArg Nat.succ hl
theorem ini0 (h : spI C [] vs H Q E) : ∃ a, vs = [.ref a] ∧ Q .non H := by
  obtain ⟨a, xs, rfl, hl, ha, q⟩ := h
  cases xs with
  | cons x xs => cases hl
  | nil => exact ⟨a, rfl, q H (fun b o _ e => e) ⟨[], .inl ⟨rfl, ha⟩, fun k n v z _ => by cases z⟩⟩
theorem ini1 (h : spI C [n] vs H Q E) : ∃ (a : Addr) (x : V), vs = [.ref a, x] ∧ (ExK K C → PySem.W.findIn K (.ref C) n = some none →
    ∃ a' C' : Addr, V.ref a = .ref a' ∧ ExK K C' ∧ PySem.W.findIn K (.ref C') n = some none ∧ ((H a' = some (exo a' C' none) ∧ ∀ dx, H dx = none → dx ≠ a' → Q .non (upd (upd H dx (exd dx [(n, x)])) a' (exo a' C' (some dx)))) ∨
      ∃ (dx : Addr) (fs : List (Str × V)), H a' = some (exo a' C' (some dx)) ∧ H dx = some (exd dx fs) ∧ fs.length ≤ 900 ∧ Q .non (upd H dx (exd dx ((n, x) :: fs))))) := by
  obtain ⟨a, xs, rfl, hl, ha, q⟩ := h
  match xs, hl with
  | [x], _ =>
    refine ⟨a, x, rfl, fun T hn => ⟨a, C, rfl, T, hn, .inl ⟨ha, fun dx hd hne => q _ (fun b o hb e => ?_) ⟨[(n, x)], .inr ⟨dx, hne, upd_same, ?_⟩, fun k n' v h1 h2 => ?_⟩⟩⟩⟩
    · exact (upd_ne hb).trans ((upd_ne (ne_of_none e hd)).trans e)
    · exact (upd_ne hne).trans upd_same
    · cases k with
      | zero =>
        cases h1
        cases h2
        rw [lookup_put, if_pos rfl]
      | succ k => cases h1
theorem ini2 (hnm : n ≠ m) (h : spI C [n, m] vs H Q E) : ∃ (a : Addr) (x y : V), vs = [.ref a, x, y] ∧ (ExK K C → PySem.W.findIn K (.ref C) n = some none → PySem.W.findIn K (.ref C) m = some none → ∀ N : Hp → Prop,
    (∀ H2, (∃ a' C' : Addr, V.ref a = .ref a' ∧ ExK K C' ∧ PySem.W.findIn K (.ref C') m = some none ∧ ((H2 a' = some (exo a' C' none) ∧ ∀ dx, H2 dx = none → dx ≠ a' → Q .non (upd (upd H2 dx (exd dx [(m, y)])) a' (exo a' C' (some dx)))) ∨
      ∃ (dx : Addr) (fs : List (Str × V)), H2 a' = some (exo a' C' (some dx)) ∧ H2 dx = some (exd dx fs) ∧ fs.length ≤ 900 ∧ Q .non (upd H2 dx (exd dx ((m, y) :: fs))))) → N H2) →
    ∃ a' C' : Addr, V.ref a = .ref a' ∧ ExK K C' ∧ PySem.W.findIn K (.ref C') n = some none ∧ ((H a' = some (exo a' C' none) ∧ ∀ dx, H dx = none → dx ≠ a' → N (upd (upd H dx (exd dx [(n, x)])) a' (exo a' C' (some dx)))) ∨
      ∃ (dx : Addr) (fs : List (Str × V)), H a' = some (exo a' C' (some dx)) ∧ H dx = some (exd dx fs) ∧ fs.length ≤ 900 ∧ N (upd H dx (exd dx ((n, x) :: fs))))) := by
  obtain ⟨a, xs, rfl, hl, ha, q⟩ := h
  match xs, hl with
  | [x, y], _ =>
    refine ⟨a, x, y, rfl, fun T hn hm N hN => ⟨a, C, rfl, T, hn, .inl ⟨ha, fun dx hd hne => hN _ ⟨a, C, rfl, T, hm, .inr ⟨dx, _, upd_same, (upd_ne hne).trans upd_same, Nat.le_of_ble_eq_true rfl, ?_⟩⟩⟩⟩⟩
    have hne' : a ≠ dx := Ne.symm hne
    refine q _ (fun b o hb e => ?_) ⟨[(m, y), (n, x)], .inr ⟨dx, hne, (upd_ne hne').trans upd_same, upd_same⟩, fun k n' v h1 h2 => ?_⟩
    · have e1 : b ≠ dx := ne_of_none e hd
      exact (upd_ne e1).trans ((upd_ne hb).trans ((upd_ne e1).trans e))
    · match k with
      | 0 =>
        cases h1
        cases h2
        rw [lookup_put, if_neg hnm, lookup_put, if_pos rfl]
      | 1 =>
        cases h1
        cases h2
        rw [lookup_put, if_pos rfl]
      | k + 2 => cases h1
end
/-- an exception of C is made, its fields the values -/
def tMke (C : Addr) (ns : List Str) (t : TA) : TE := fun σ H Q => t σ H fun vs H1 => vs.length = ns.length ∧ ns.length ≤ 1000 ∧ ∀ a H', H1 a = none → Same H1 H' → ExI H' a C ns vs → Q (.ref a) H'
theorem PE.of {X : Cx} {e : Expr} {t t' : TE} (h : PE X e t) (k : ∀ σ H Q, t' σ H Q → t σ H Q) : PE X e t' := ⟨fun pins s σ H Q I q => h.run pins s σ H Q I (k σ H Q q)⟩
/-- by keywords: pm puts their values in the fields' order -/
def tMkk (C : Addr) (ns : List Str) (m : Nat) (pm : List V → List V) (tk : TA) : TE := fun σ H Q => tk σ H fun zs H1 => zs.length = m ∧ (pm zs).length = ns.length ∧ ∀ a H', H1 a = none → Same H1 H' → ExI H' a C ns (pm zs) → Q (.ref a) H'
theorem spI_of {C a : Addr} {ns : List Str} {H1 : Hp} {Q : VK} {ws : List V} (hl : ws.length = ns.length) (ha : H1 a = none) (q : ∀ a H', H1 a = none → Same H1 H' → ExI H' a C ns ws → Q (.ref a) H') : spI C ns (.ref a :: ws) (upd H1 a (exo a C none)) (fun v H3 => v = .non ∧ Q (.ref a) H3) E0 :=
  ⟨a, ws, rfl, hl, upd_same, fun H' k h => ⟨rfl, q a H' ha (fun b o eb => k b o (ne_of_none eb ha) ((upd_ne (ne_of_none eb ha)).trans eb)) h⟩⟩
section
variable {X : Cx} {n : Nat} {C : Addr} {ks ns : List Str} {x : Str} {p pos : Pos} {e : Expr} {es : List Expr} {kws : List Keyword} {t tk : TA} {pm : List V → List V}
/-- C(e, ..) -/
theorem pe_mke (c : Cx1 X.prog X.w X.K X.mg X.base x C ns.length [] (spI C ns) (fun vs _ => vs)) (hr : Room 2 X.A) (hg : Gl X x) (ha : PA X (e :: es) t)
    (hdb : (x == ("__debug__" : Str)) = false := by decide) (he : starEach (e :: es) X.env = (false, eval e X.env) :: starEach es X.env := by rfl) (hpl : (backTo pos (starEach es X.env)).any (·.1) = false := by rfl) :
    PE X (.Call (.Name x p) (e :: es) [] pos) (tMke C ns t) := by
  obtain ⟨fI, fd, ps, g, T, hm, iC, tI, F, hb⟩ := c.ex
  refine ⟨fun pins s σ H Q I h => wpAny_Call_Name_kw (ld_glob I hg hm ?_ hdb)⟩
  refine PySem.W.callWith_K (h₀ := X.base) I.ok.mod.kin T.kC (thn (ha.run pos pins s σ H _ I h) fun us s1 hh => ?_) he hpl
  obtain ⟨vs, H1, I1, r, l1, hn, q⟩ := hh
  exact ⟨I1.kIn, run_mkx T iC tI F hr hb I1 r (ws := []) .nil l1 rfl hn fun a ha => spI_of l1 ha q⟩
/-- C(k = e, ..) -/
theorem pe_mkke (c : Cx1 X.prog X.w X.K X.mg X.base x C 0 ks (spI C ns) (fun vs zs => vs ++ pm zs)) (hr : Room 2 X.A) (hg : Gl X x) (hkw : PK X kws tk)
    (hall : (backToKw pos (keywordEach kws X.env)).all (·.1.isSome) = true := by rfl) (hks : (backToKw pos (keywordEach kws X.env)).filterMap (·.1) = ks := by rfl) (hdb : (x == ("__debug__" : Str)) = false := by decide)
    (hpl : ((backTo pos (starEach [] X.env)).any (·.1) || (backToKw pos (keywordEach kws X.env)).any (·.1.isNone)) = false := by rfl) :
    PE X (.Call (.Name x p) [] kws pos) (tMkk C ns ks.length pm tk) := by
  obtain ⟨fI, fd, ps, g, T, hm, iC, tI, F, hb⟩ := c.ex
  refine ⟨fun pins s σ H Q I h => wpAny_Call_Name_kw (ld_glob I hg hm ?_ hdb)⟩
  refine PySem.W.callWith_KW0 (h₀ := X.base) I.ok.mod.kin T.kC hall (thn (hkw.run pos pins s σ H _ I h) fun ws s2 hh => ?_) hpl
  obtain ⟨zs, H2, I2, rz, l2, l3, q⟩ := hh
  refine ⟨I2.kIn, ?_⟩
  rw [hks]
  exact run_mkx T iC tI F hr hb I2 .nil rz rfl l2 (Nat.zero_le _) fun a ha => spI_of l3 ha q
/-- C() -/
theorem pe_mk0e (c : Cx1 X.prog X.w X.K X.mg X.base x C 0 [] (spI C []) (fun vs _ => vs)) (hr : Room 2 X.A) (hg : Gl X x) (hdb : (x == ("__debug__" : Str)) = false := by decide) :
    PE X (.Call (.Name x p) [] [] pos) (tMke C [] tNil) := by
  obtain ⟨fI, fd, ps, g, T, hm, iC, tI, F, hb⟩ := c.ex
  refine ⟨fun pins s σ H Q I h => wpAny_Call_Name_kw (ld_glob I hg hm ?_ hdb)⟩
  obtain ⟨_, _, q⟩ := h
  exact PySem.W.callWith_K0 (I.tok _).kIn T.kC (run_mkx T iC tI F hr hb (I.tok _) .nil (ws := []) .nil rfl rfl (Nat.zero_le _) fun a ha => spI_of rfl ha q)
/-- many made at once: what each is -/
def Many (H : Hp) : List Addr → List (Addr × List Str × List V) → Prop
  | [], [] => True
  | a :: as, c :: cs => ExI H a c.1 c.2.1 c.2.2 ∧ Many H as cs
  | _, _ => False
theorem Many.mono {H H' : Hp} (k : Same H H') : ∀ {as : List Addr} {cs : List (Addr × List Str × List V)}, Many H as cs → Many H' as cs
  | [], [], _ => True.intro
  | a :: as, c :: cs, h => ⟨h.1.mono k, Many.mono k h.2⟩
  | [], _ :: _, h => h.elim
  | _ :: _, [], h => h.elim
theorem Many.app {H : Hp} {bs : List Addr} {ds : List (Addr × List Str × List V)} (k : Many H bs ds) : ∀ {as : List Addr} {cs : List (Addr × List Str × List V)}, Many H as cs → Many H (as ++ bs) (cs ++ ds)
  | [], [], _ => k
  | a :: as, c :: cs, h => ⟨h.1, Many.app k h.2⟩
  | [], _ :: _, h => h.elim
  | _ :: _, [], h => h.elim
theorem Many.len {H : Hp} : ∀ {as : List Addr} {cs : List (Addr × List Str × List V)}, Many H as cs → as.length = cs.length
  | [], [], _ => rfl
  | a :: as, c :: cs, h => congrArg Nat.succ (Many.len h.2)
  | [], _ :: _, h => h.elim
  | _ :: _, [], h => h.elim
theorem Many.get {H : Hp} : ∀ {as : List Addr} {cs : List (Addr × List Str × List V)} (i : Nat) (a : Addr) (c : Addr × List Str × List V), Many H as cs → as[i]? = some a → cs[i]? = some c → ExI H a c.1 c.2.1 c.2.2
  | [], [], i, a, c, _, h1, _ => by cases h1
  | a :: as, c :: cs, 0, _, _, h, h1, h2 => by
    cases h1
    cases h2
    exact h.1
  | a :: as, c :: cs, i + 1, _, _, h, h1, h2 => Many.get i _ _ h.2 h1 h2
  | [], _ :: _, _, _, _, h, _, _ => h.elim
  | _ :: _, [], _, _, _, h, _, _ => h.elim
/-- a row of arguments, each of which makes an exception of what σ tells -/
def tMany (cs : L2.St → Option (List (Addr × List Str × List V))) : TA := fun σ H Q => ∃ c, cs σ = some c ∧ ∀ as H', Same H H' → Many H' as c → Q (as.map V.ref) H'
/-- one expression that makes one -/
def tOne (c : L2.St → Option (Addr × List Str × List V)) : TE := fun σ H Q => ∃ d, c σ = some d ∧ ∀ a H', H a = none → Same H H' → ExI H' a d.1 d.2.1 d.2.2 → Q (.ref a) H'
theorem pa_many0 : PA X [] (tMany fun _ => some []) := ⟨fun pos pins s σ H Q I h => by
  obtain ⟨c, e, q⟩ := h
  cases e
  exact pa_nil.run pos pins s σ H Q I (q [] H (fun _ _ e => e) True.intro)⟩
theorem pa_many {c : L2.St → Option (Addr × List Str × List V)} {cs : L2.St → Option (List (Addr × List Str × List V))} (h1 : PE X e (tOne c)) (h2 : PA X es (tMany cs)) (he : starEach (e :: es) X.env = (false, eval e X.env) :: starEach es X.env := by rfl) :
    PA X (e :: es) (tMany fun σ => (c σ).bind fun d => (cs σ).map fun ds => d :: ds) := ⟨fun pos pins s σ H Q I h => by
  obtain ⟨l, el, q⟩ := h
  obtain ⟨d, ed, el⟩ := Option.bind_eq_some_iff.mp el
  obtain ⟨ds, eds, rfl⟩ := Option.map_eq_some_iff.mp el
  refine (pa_cons h1 h2 he).run pos pins s σ H Q I ⟨d, ed, fun a H1 _ k1 x1 => ⟨ds, eds, fun as H2 k2 x2 => q (a :: as) H2 (fun b o eb => k2 b o (k1 b o eb)) ⟨x1.mono k2, x2⟩⟩⟩⟩
/-- the value of slot i, m times -/
theorem pa_rep {i : Nat} : ∀ {es : List Expr}, True → True := fun _ => True.intro
end
end Tp
set_option Elab.async false
set_option linter.all false
set_option maxRecDepth 100000
set_option maxHeartbeats 4000000
/-! isinstance of any value: plain data, an instance, an exception -/
namespace Tp
open PySem PySem.Spec PyProof.Rows L2
def IsR (K : PySem.W.Frag) (H : Hp) (v : V) (cv : Value) (b : Bool) : Prop := (∃ t, TyX K H v t ∧ PySem.W.kitOne K t cv = some b) ∨ ∃ (a D : Addr) (fs : List (Str × V)), v = .ref a ∧ ExAt H a D fs ∧ ExK K D ∧ PySem.W.kitOne K (.ref D) cv = some b
def IsA (K : PySem.W.Frag) (H : Hp) (v : V) (cs : List Value) (b : Bool) : Prop := (∃ t, TyX K H v t ∧ PySem.W.kitAny K t cs = some b) ∨ ∃ (a D : Addr) (fs : List (Str × V)), v = .ref a ∧ ExAt H a D fs ∧ ExK K D ∧ PySem.W.kitAny K (.ref D) cs = some b
def rIsD (K : PySem.W.Frag) : List V → Hp → VK → Prop := fun xs H Q => ∃ (v c : V) (cv : Value) (b : Bool), xs = [v, c] ∧ ClsV c cv ∧ IsR K H v cv b ∧ Q (.bl b) H
def rIsDT (K : PySem.W.Frag) : List V → Hp → VK → Prop := fun xs H Q => ∃ (v : V) (tp : Addr) (cs : List V) (us : List Value) (b : Bool), xs = [v, .ref tp] ∧ H tp = some (.tup cs) ∧ Paired ClsV cs us ∧ IsA K H v us b ∧ Q (.bl b) H
theorem call_isd {X : Cx} : CallR X (.builtin "isinstance") (rIsD X.K) := by
  intro pins s σ H xs us Q I r h
  obtain ⟨v, c, cv, b, e, k, hr, q⟩ := h
  rcases hr with ⟨t, ty, e1⟩ | ⟨a, D, fs, rfl, hA, T, e1⟩
  · exact call_isi pins s σ H xs us Q I r ⟨v, c, t, cv, b, e, k, ty, e1, q⟩
  · exact call_isx pins s σ H xs us Q I r ⟨a, D, fs, c, cv, b, e, hA, T, k, e1, q⟩
theorem call_isdT {X : Cx} : CallR X (.builtin "isinstance") (rIsDT X.K) := by
  intro pins s σ H xs us Q I r h
  obtain ⟨v, tp, cs, ws, b, e, hT, k, hr, q⟩ := h
  rcases hr with ⟨t, ty, e1⟩ | ⟨a, D, fs, rfl, hA, T, e1⟩
  · exact call_isiT pins s σ H xs us Q I r ⟨v, tp, cs, t, ws, b, e, hT, k, ty, e1, q⟩
  · exact call_isxT pins s σ H xs us Q I r ⟨a, D, fs, tp, cs, ws, b, e, hA, T, hT, k, e1, q⟩
theorem TyX.up {K : PySem.W.Frag} {H H' : Hp} (k : Same H H') {v : V} {t : Value} (h : TyX K H v t) : TyX K H' v t := by
  cases h with
  | base b =>
    cases b with
    | non => exact .base .non
    | bl x => exact .base (.bl x)
    | int i => exact .base (.int i)
    | str x => exact .base (.str x)
    | flt x => exact .base (.flt x)
    | lst e => exact .base (.lst (k _ _ e))
    | frz e => exact .base (.frz (k _ _ e))
    | tup e => exact .base (.tup (k _ _ e))
    | dK e => exact .base (.dK (k _ _ e))
    | dT e => exact .base (.dT (k _ _ e))
    | ins e cl ha hn htk hm => exact .base (.ins (k _ _ e) cl ha hn htk hm)
  | byt b => exact .byt b
  | set e => exact .set (k _ _ e)
  | kList e c => exact .kList e c
  | kTuple e c => exact .kTuple e c
  | kDict e c => exact .kDict e c
  | fTuple e => exact .fTuple (k _ _ e)
  | fDict e => exact .fDict (k _ _ e)
theorem IsA.mono {K : PySem.W.Frag} {H H' : Hp} {v : V} {cs : List Value} {b : Bool} (k : Same H H') (h : IsA K H v cs b) : IsA K H' v cs b := by
  rcases h with ⟨t, ty, e⟩ | ⟨a, D, fs, e1, hA, T, e⟩
  · exact .inl ⟨t, TyX.up k ty, e⟩
  · exact .inr ⟨a, D, fs, e1, hA.mono k, T, e⟩
theorem IsR.mono {K : PySem.W.Frag} {H H' : Hp} {v : V} {c : Value} {b : Bool} (k : Same H H') (h : IsR K H v c b) : IsR K H' v c b := by
  rcases h with ⟨t, ty, e⟩ | ⟨a, D, fs, e1, hA, T, e⟩
  · exact .inl ⟨t, TyX.up k ty, e⟩
  · exact .inr ⟨a, D, fs, e1, hA.mono k, T, e⟩
theorem none_put {H : Hp} {p q : Addr} {o : HO} (hq : H q = none) (hp : upd H q o p = none) : H p = none := by
  by_cases e : p = q
  · rw [e]
    exact hq
  · rwa [upd_ne e] at hp
end Tp
set_option Elab.async false
set_option linter.all false
set_option maxRecDepth 100000
set_option maxHeartbeats 4000000
/-! a list or a tuple as what is walked; enumerate of a tuple -/
namespace Tp
open PySem PySem.Spec PyProof.Rows L2
open Sem (wp)
theorem meets_enum_one {v : Value} {o : Obj} {H : Heap → Prop} (B : Begins v o H) :
    Meets (Builtin.«enumerate.__new__» ⟨[.type "enumerate", v], []⟩) (fun _ R s => H s.heap ∧
      R (.ok (.ret (.ref (s.heap.push o).objs.size))) { s with heap := (s.heap.push o).push { cls := .type "enumerate", data := .fields #[.none, .bool false, .ref s.heap.objs.size, rawInt 0, .none, .none] } }) :=
  .of_wp fun prog w A R s h => by
    obtain ⟨hp, g, d, tk, os⟩ := s; obtain ⟨h1, h⟩ := h
    have hsub := sub_enumerate
    have q1 : ∀ {A' : Around} {E : Value → Shared → Prop} {Q : Value → Shared → Prop}, Q (.ref hp.objs.size) ⟨hp.push o, g, d, tk, os⟩ → wpAny (model prog w) A' (pyIter v) Q E ⟨hp, g, d, tk, os⟩ :=
      fun q => B.iter prog w _ _ ⟨hp, g, d, tk, os⟩ _ h1 q
    wp_walk using q1
    refine wpAny_stack_any fun st => wpAny_pure ?_
    split
    · rename_i c _ _ _ _ _
      cases (c == Value.type "enumerate")
      · wp_walk using q1
        exact ⟨_, rfl, h⟩
      · wp_walk using q1
        exact ⟨_, rfl, h⟩
    · wp_walk using q1
      exact ⟨_, rfl, h⟩
section
variable {prog : Program} {w : World} {A : Around} {E : Value → Shared → Prop} {s : Shared}
theorem enum_one {v : Value} {o : Obj} {H : Heap → Prop} {Q : Value → Shared → Prop} (B : Begins v o H) (h1 : H s.heap) (hn : ∀ obj, argsOk "object.__init__" ⟨[obj, v], []⟩)
    (ht : checkTypeCall "enumerate" ⟨[v], []⟩ = pure ()) (hc : checkBuiltinCall "enumerate.__new__" ⟨[.type "enumerate", v], []⟩ = pure ())
    (h : ∀ h', IsEnum h' (s.heap.objs.size + 1) s.heap.objs.size 0 .none → h'.get? s.heap.objs.size = some o → h'.objs.size = s.heap.objs.size + 2 →
      (∀ b o, s.heap.get? b = some o → h'.get? b = some o) → Q (.ref (s.heap.objs.size + 1)) { s with heap := h' }) :
    wpAny (model prog w) A (call (.type "enumerate") [v]) Q E s := by
  refine callType_new F.called_enumerate (by decide) ht hc hn F.entry_enumerate_new
    (meets_enum_one B) ⟨h1, ?_⟩
  have hz : (s.heap.push o).objs.size = s.heap.objs.size + 1 := Heap.size_push ..
  show _ ∧ _
  rw [hz]
  have he : IsEnum ((s.heap.push o).push { cls := .type "enumerate", data := .fields #[.none, .bool false, .ref s.heap.objs.size, rawInt 0, .none, .none] }) (s.heap.objs.size + 1) s.heap.objs.size 0 .none := by
    have := Heap.get?_push_size (s.heap.push o) (o := { cls := .type "enumerate", data := .fields #[.none, .bool false, .ref s.heap.objs.size, rawInt 0, .none, .none] }) rfl
    rw [hz] at this; exact this
  refine ⟨⟨_, he, rfl⟩, h _ he (Heap.get?_push_of_some _ (Heap.get?_push_size _ B.free)) (by rw [Heap.size_push, hz]) fun b o x => Heap.get?_push_of_some _ (Heap.get?_push_of_some _ x)⟩
end
theorem enum_endT {prog : Program} {w : World} {A : Around} {E : Value → Shared → Prop} {s : Shared} {e it l : Addr} {i : Nat} {items : Array Value} {old : Value} {Q : Option Value → Shared → Prop} (hh : A.handled = none)
    (he : IsEnum s.heap e it i old) (hit : s.heap.IsTupleIter it l i) (hl : s.heap.IsTuple l items) (hx : items[i]? = none)
    (hQ : ∀ h', Heap.ExtBut it s.heap h' → Q none { s with heap := h' }) : wpAny (model prog w) A (pyNext (.ref e)) Q E s := by
  have hT : s.TypeIs (.ref e) "enumerate" := ⟨_, he, rfl⟩
  unfold pyNext
  refine wpAny_bind (wpAny_attempt (wpAny_callSpecial?_slot (name := Str.ofString "__next__") hT F.slot_enumerate_next
    (wpAny_call_entry F.slot_enumerate_next hT F.entry_enumerate_next ?_ (F.args_enumerate_next_1 _))))
  show wpAny _ _ (field (.ref e) 2 >>= _) _ _ _
  refine wpAny_bind (wpAny_field he rfl (x := .ref it) rfl ?_)
  refine wpAny_bind (wpAny_nextOf_tuple_end hh hit hl hx fun h' x he' hx' => ?_)
  obtain ⟨o, ho, hc⟩ := hx'
  refine wpAny_bind (wpAny_isInstance (T := "StopIteration") (b := true) ⟨o, ho, hc⟩ isSubtype_stop ?_)
  exact wpAny_pure (hQ _ he')
/-- the tuple at a as it stands at each turn, each item in a new pair -/
def IteT (K : PySem.W.Frag) (a : Addr) : It :=
  ⟨fun i H => ∃ (xs : List V) (x : V), SqT K H a xs ∧ xs[i]? = some x, fun i H v H' => ∃ T x, v = .ref T ∧ H T = none ∧ H' = upd H T (.tup [.int (i : Nat), x]) ∧ ∀ xs, SqT K H a xs → xs[i]? = some x, fun i H => ∃ xs : List V, SqT K H a xs ∧ xs.length ≤ i⟩
/-- how the iterator of a tuple stands, that of enumerate ahead of it -/
def DrT (t : Addr) (items : Array Value) (i : Nat) (h : Heap) (it : Addr) : Prop := h.IsTupleIter it t i ∧ h.IsTuple t items
theorem turn_enumT {P : Program} {w : World} {K : PySem.W.Frag} {elts : List Expr} {kk : Nat} {tpos : Pos} (a e it : Addr) (ha : a ≠ it) (hae : a ≠ e) :
    Turn P w K (.Tuple elts kk tpos) (IteT K a) [e, it] e (fun i h => (∃ old, IsEnum h e it ((i : Nat) : Int) old) ∧ h.IsTupleIter it a i ∧ e ≠ it) where
  mem := by simp
  obj := fun i h st b hb => by
    obtain ⟨⟨old, he⟩, ⟨o, ho, hc, hd⟩, _⟩ := st
    have e' : b = e ∨ b = it := by simpa using hb
    rcases e' with z | z
    · rw [z]; exact ⟨_, he, fun v q => nomatch q⟩
    · rw [z]; exact ⟨o, ho, fun v q => by rw [hd] at q; cases q⟩
  keep := fun i h h' st k => let ⟨⟨old, he⟩, hi, hne⟩ := st; ⟨⟨old, k e (by simp) _ he⟩, hi.at fun o q => k it (by simp) o q, hne⟩
  item := by
    intro X hP hw hK hc i pins s σ H E I hf st hg
    subst hP hw hK
    obtain ⟨⟨old, he⟩, hit, hne⟩ := st
    obtain ⟨xs, x, hq, hx⟩ := hg
    obtain ⟨its, rv, p, hz⟩ := I.tuple hq
    obtain ⟨u, hu, ru⟩ := rv.get hx
    have hel : e < s.heap.objs.size := Heap.lt_size he
    have hil : it < s.heap.objs.size := by obtain ⟨_, q, _⟩ := hit; exact Heap.lt_size q
    have hi : i < its.toArray.size := by
      have := (List.getElem?_eq_some_iff.mp hu).1
      simpa using this
    refine wpAny_pyNext_enum_itemD (i := i) (Draws.tuple (A := X.A.in1) (I.ok.hd hc) it a ha its.toArray) he ⟨hit, p⟩ hi hne (by simp [hne, hae.symm]) fun u' h' tk hu' ho st' hT hsz hk => ?_
    have eu : u' = u := by
      have h1 : its.toArray[i]? = some u' := hu'
      have h2 : its.toArray[i]? = some u := by simpa using hu
      rw [h1] at h2
      exact Option.some.inj h2
    subst eu
    refine ⟨_, rfl, wpAny_letOwnedTupleGo_enum (s := { s with heap := h', toks := tk + 1 }) ho fun h'' he' sb => ?_⟩
    have hT2 : h''.get? s.heap.objs.size = some { cls := .type "tuple", data := .seq #[.int i tk, u'] } := (sb.2 _ (Nat.ne_of_gt hel)).trans hT
    have new : ObjOk X.prog X.w (upd H s.heap.objs.size (.tup [.int (i : Nat), x])) h'' s.heap.objs.size (.tup [.int (i : Nat), x]) :=
      ⟨by show 2 ≤ sizeLine; decide, [.int i tk, u'], .cons ⟨_, rfl⟩ (.cons ru .nil), ⟨_, hT2, rfl, _, rfl⟩⟩
    have I1 : Inv X pins σ (upd H s.heap.objs.size (.tup [.int (i : Nat), x])) { s with heap := h'', toks := tk + 1 } :=
      I.turnedNew (ch := [e, it]) (fun b ob hb q => (sb.2 b (fun z => hb (by simp [z]))).trans (hk b ob (fun z => hb (by simp [z])) (fun z => hb (by simp [z])) q)) hf (Nat.le_refl _) new
    refine ⟨.ref s.heap.objs.size, _, I1, rfl, ⟨_, x, rfl, I.hok.fresh (Nat.le_refl _), rfl, fun ys hy => by rw [I.tuple_inj hy hq]; exact hx⟩, ⟨⟨u', ?_⟩, st'.1.at fun o q => (sb.2 it (Ne.symm hne)).trans q, hne⟩, fun b hb => ?_⟩
    · have e1 : ((i + 1 : Nat) : Int) = (i : Int) + 1 := by omega
      rw [e1]; exact he'
    · have hb' : b < s.heap.objs.size := by
        have e' : b = e ∨ b = it := by simpa using hb
        rcases e' with z | z
        · rw [z]; exact hel
        · rw [z]; exact hil
      rw [upd_ne (Nat.ne_of_lt hb')]
      exact (hf b hb).1
  done := by
    intro X hP hw hK hc i pins s σ H E I hf st hg
    subst hP hw hK
    obtain ⟨⟨old, he⟩, hit, hne⟩ := st
    obtain ⟨xs, hq, hx⟩ := hg
    obtain ⟨its, rv, p, hz⟩ := I.tuple hq
    obtain ⟨f0, f1, f2, f3, f4, f5⟩ := hf it (by simp)
    have hl := rv.length
    exact enum_endT (I.ok.hd hc) he hit p (by simp; omega) fun h' eb => ⟨rfl, I.turned (t' := s.toks) (fun b o hb q => eb b o hb q) f0 f1 f3 f4 f5⟩
  self := fun A i s Q E st h => let ⟨⟨_, he⟩, _⟩ := st; wpAny_pyIter_enum he h
def iEnumT (K : PySem.W.Frag) (ta : TA) : TI := fun σ H R => ta σ H fun vs H1 => ∃ a xs, vs = [.ref a] ∧ SqT K H1 a xs ∧ R (IteT K a) H1
theorem pi_enumT {X : Cx} {e : Expr} {ta : TA} {p pos tpos : Pos} {elts : List Expr} {kk : Nat} (hg : Gl X "enumerate") (hm : X.mg "enumerate" = none) (ha : PA X [e] ta) (hs : starEach [e] X.env = [(false, eval e X.env)] := by rfl) :
    PI X (.Tuple elts kk tpos) (.Call (.Name "enumerate" p) [e] [] pos) (iEnumT X.K ta) := by
  refine ⟨fun pins s σ H R I h => ?_⟩
  refine Call_ (ld_blt I hg hm boot_enumerate (PyProof.Rows.callWith_type1 (thn (ha.run pos pins s σ H _ I h) fun us s1 ⟨vs, H1, I1, r1, q1⟩ => ?_) hs rfl))
  obtain ⟨a, xs, ex, hq, q⟩ := q1
  subst ex
  cases r1 with
  | cons r rr =>
    cases rr
    cases r
    obtain ⟨its, rv, p', hz⟩ := I1.tuple hq
    have hal : a < s1.heap.objs.size := by obtain ⟨_, q, _⟩ := id p'; exact Heap.lt_size q
    refine enum_one (begins_tuple a its.toArray) p' (fun obj => F.args_object_init_2 obj _) (F.typeCall_enumerate_1 _) (F.newCall_enumerate_1 _) fun h' he hit hsz hk => wpAny_pyIter_enum he ?_
    have I2 : Inv X pins σ H1 { s1 with heap := h' } := I1.kept (t' := s1.toks) hk
    refine ⟨s1.heap.objs.size + 1, [s1.heap.objs.size + 1, s1.heap.objs.size], _, _, H1, rfl, I2, turn_enumT a (s1.heap.objs.size + 1) s1.heap.objs.size (Nat.ne_of_lt hal) (Nat.ne_of_lt (Nat.lt_succ_of_lt hal)), ⟨⟨.none, he⟩, ⟨_, hit, rfl, rfl⟩, Nat.succ_ne_self _⟩, fun b hb => ?_, q⟩
    have e' : b = s1.heap.objs.size + 1 ∨ b = s1.heap.objs.size := by simpa using hb
    have hle : s1.heap.objs.size ≤ b := by
      rcases e' with z | z
      · rw [z]; exact Nat.le_add_right _ _
      · rw [z]; exact Nat.le_refl _
    exact I1.fpOk hle (I1.hok.fresh hle)
theorem walk_enumT {K : PySem.W.Frag} {a : Addr} {xs : List V} : Walk (IteT K a) xs.length (fun H => SqT K H a xs) (YPair (fun i => some (.int (i : Nat))) (fun i => xs[i]?)) := by
  refine ⟨fun i _ hi q => ⟨xs, xs[i], q, by simp [hi]⟩, fun _ q => ⟨xs, q, Nat.le_refl _⟩, fun i H v H' _ q y => ?_⟩
  obtain ⟨T, x, h1, h2, h3, h4⟩ := y
  exact ⟨T, .int (i : Nat), x, h1, h2, h3, rfl, h4 xs q⟩
/-- one of two walks -/
def iOr (w1 w2 : TI) : TI := fun σ H R => w1 σ H R ∨ w2 σ H R
theorem pi_or {X : Cx} {tg iter : Expr} {w1 w2 : TI} (h1 : PI X tg iter w1) (h2 : PI X tg iter w2) : PI X tg iter (iOr w1 w2) :=
  ⟨fun pins s σ H R I h => h.elim (h1.run pins s σ H R I) (h2.run pins s σ H R I)⟩
/-- a list or a tuple stands there -/
def SqA (K : PySem.W.Frag) (H : Hp) (a : Addr) (xs : List V) : Prop := SqL K H a xs ∨ SqT K H a xs
def SeqR (K : PySem.W.Frag) (a : Addr) (H : Hp) (R : It → Hp → Prop) : Prop := ((∃ xs, SqL K H a xs) ∧ R (Itl K a) H) ∨ ((∃ xs, SqT K H a xs) ∧ R (Itt K a) H)
def EnumR (K : PySem.W.Frag) (a : Addr) (H : Hp) (R : It → Hp → Prop) : Prop := ((∃ xs, SqL K H a xs) ∧ R (Ite K a) H) ∨ ((∃ xs, SqT K H a xs) ∧ R (IteT K a) H)
/-- what is walked: a list or a tuple -/
def iSeq (K : PySem.W.Frag) (te : TE) : TI := fun σ H R => te σ H fun x H1 => ∃ a, x = .ref a ∧ SeqR K a H1 R
theorem pi_seq {X : Cx} {tg l : Expr} {tl : TE} (hl : PE X l tl) : PI X tg l (iSeq X.K tl) := by
  refine ⟨fun pins s σ H R I h => ?_⟩
  refine thn (hl.run pins s σ H _ I h) fun v s1 ⟨x, H1, I1, r1, q1⟩ => ?_
  obtain ⟨a, e, q⟩ := q1
  subst e
  cases r1
  rcases q with ⟨⟨xs, hq⟩, q⟩ | ⟨⟨xs, hq⟩, q⟩
  · obtain ⟨its, rv, p, hz⟩ := I1.list hq
    refine wpAny_pyIter_list p.isList ?_
    refine ⟨s1.heap.objs.size, [s1.heap.objs.size], _, _, H1, rfl, I1.kept (t' := s1.toks) fun b o e => Heap.get?_push_of_some _ e, turn_list a _, ⟨_, Heap.get?_push_size _ rfl, rfl, rfl⟩, fun b hb => ?_, q⟩
    have e : b = s1.heap.objs.size := by simpa using hb
    subst e
    exact I1.fpOk (Nat.le_refl _) (I1.hok.fresh (Nat.le_refl _))
  · obtain ⟨its, rv, p, hz⟩ := I1.tuple hq
    refine wpAny_pyIter_tuple (show s1.heap.IsTuple a its.toArray from p) ?_
    refine ⟨s1.heap.objs.size, [s1.heap.objs.size], _, _, H1, rfl, I1.kept (t' := s1.toks) fun b o e => Heap.get?_push_of_some _ e, turn_tuple a _, ⟨_, Heap.get?_push_size _ rfl, rfl, rfl⟩, fun b hb => ?_, q⟩
    have e : b = s1.heap.objs.size := by simpa using hb
    subst e
    exact I1.fpOk (Nat.le_refl _) (I1.hok.fresh (Nat.le_refl _))
/-- enumerate of a list or a tuple -/
def iEnumS (K : PySem.W.Frag) (ta : TA) : TI := fun σ H R => ta σ H fun vs H1 => ∃ a, vs = [.ref a] ∧ EnumR K a H1 R
theorem pi_enumS {X : Cx} {e : Expr} {ta : TA} {p pos tpos : Pos} {elts : List Expr} {kk : Nat} (hg : Gl X "enumerate") (hm : X.mg "enumerate" = none) (ha : PA X [e] ta) (hs : starEach [e] X.env = [(false, eval e X.env)] := by rfl) :
    PI X (.Tuple elts kk tpos) (.Call (.Name "enumerate" p) [e] [] pos) (iEnumS X.K ta) := by
  refine ⟨fun pins s σ H R I h => ?_⟩
  refine Call_ (ld_blt I hg hm boot_enumerate (PyProof.Rows.callWith_type1 (thn (ha.run pos pins s σ H _ I h) fun us s1 ⟨vs, H1, I1, r1, q1⟩ => ?_) hs rfl))
  obtain ⟨a, ex, hq⟩ := q1
  subst ex
  cases r1 with
  | cons r rr =>
    cases rr
    cases r
    have fin : ∀ b, b ∈ [s1.heap.objs.size + 1, s1.heap.objs.size] → s1.heap.objs.size ≤ b := fun b hb => by
      have e' : b = s1.heap.objs.size + 1 ∨ b = s1.heap.objs.size := by simpa using hb
      rcases e' with z | z
      · rw [z]; exact Nat.le_add_right _ _
      · rw [z]; exact Nat.le_refl _
    rcases hq with ⟨⟨xs, hq⟩, q⟩ | ⟨⟨xs, hq⟩, q⟩
    · obtain ⟨its, rv, p', hz⟩ := I1.list hq
      refine call_enumerate_list p'.isList fun h' he hit hsz hk => wpAny_pyIter_enum he ?_
      have I2 : Inv X pins σ H1 { s1 with heap := h' } := I1.kept (t' := s1.toks) hk
      exact ⟨s1.heap.objs.size + 1, [s1.heap.objs.size + 1, s1.heap.objs.size], _, _, H1, rfl, I2, turn_enum a (s1.heap.objs.size + 1) s1.heap.objs.size, ⟨⟨.none, he⟩, hit, Nat.succ_ne_self _⟩, fun b hb => I1.fpOk (fin b hb) (I1.hok.fresh (fin b hb)), q⟩
    · obtain ⟨its, rv, p', hz⟩ := I1.tuple hq
      have hal : a < s1.heap.objs.size := by obtain ⟨_, q, _⟩ := id p'; exact Heap.lt_size q
      refine enum_one (begins_tuple a its.toArray) p' (fun obj => F.args_object_init_2 obj _) (F.typeCall_enumerate_1 _) (F.newCall_enumerate_1 _) fun h' he hit hsz hk => wpAny_pyIter_enum he ?_
      have I2 : Inv X pins σ H1 { s1 with heap := h' } := I1.kept (t' := s1.toks) hk
      exact ⟨s1.heap.objs.size + 1, [s1.heap.objs.size + 1, s1.heap.objs.size], _, _, H1, rfl, I2, turn_enumT a (s1.heap.objs.size + 1) s1.heap.objs.size (Nat.ne_of_lt hal) (Nat.ne_of_lt (Nat.lt_succ_of_lt hal)), ⟨⟨.none, he⟩, ⟨_, hit, rfl, rfl⟩, Nat.succ_ne_self _⟩, fun b hb => I1.fpOk (fin b hb) (I1.hok.fresh (fin b hb)), q⟩
section
variable {K : PySem.W.Frag} {H H' : Hp} {a : Addr} {xs : List V}
theorem SqA.up (k : Same H H') (h : SqA K H a xs) : SqA K H' a xs := by
  rcases h with h | h
  · refine .inl ?_
    rcases h with (h | ⟨o, h⟩) | h
    · exact .inl (.inl (k _ _ h))
    · exact .inl (.inr ⟨o, k _ _ h⟩)
    · exact .inr h
  · refine .inr ?_
    rcases h with (h | ⟨o, h⟩) | h
    · exact .inl (.inl (k _ _ h))
    · exact .inl (.inr ⟨o, k _ _ h⟩)
    · exact .inr h
theorem upL (k : Same H H') (h : SqL K H a xs) : SqL K H' a xs := by
  rcases h with (h | ⟨o, h⟩) | h
  · exact .inl (.inl (k _ _ h))
  · exact .inl (.inr ⟨o, k _ _ h⟩)
  · exact .inr h
theorem upT (k : Same H H') (h : SqT K H a xs) : SqT K H' a xs := by
  rcases h with (h | ⟨o, h⟩) | h
  · exact .inl (.inl (k _ _ h))
  · exact .inl (.inr ⟨o, k _ _ h⟩)
  · exact .inr h
/-- the walk of a list or a tuple while all stands as it stood -/
theorem seq_it {R : It → Hp → Prop} (h : SqA K H a xs) (hR : ∀ J, Walk J xs.length (fun G => Same H G) (YAt xs) → R J H) : SeqR K a H R := by
  rcases h with h | h
  · exact .inl ⟨⟨xs, h⟩, hR _ (walk_list.mono (fun G k => upL k h) fun _ _ _ _ _ _ y => y)⟩
  · exact .inr ⟨⟨xs, h⟩, hR _ (walk_tup.mono (fun G k => upT k h) fun _ _ _ _ _ _ y => y)⟩
theorem enum_it {R : It → Hp → Prop} (h : SqA K H a xs) (hR : ∀ J, Walk J xs.length (fun G => Same H G) (YPair (fun i => some (.int (i : Nat))) (fun i => xs[i]?)) → R J H) : EnumR K a H R := by
  rcases h with h | h
  · exact .inl ⟨⟨xs, h⟩, hR _ (walk_enum.mono (fun G k => upL k h) fun _ _ _ _ _ _ y => y)⟩
  · exact .inr ⟨⟨xs, h⟩, hR _ (walk_enumT.mono (fun G k => upT k h) fun _ _ _ _ _ _ y => y)⟩
end
end Tp
namespace Tp
open PySem PySem.Spec PyProof.Rows L2
theorem lenA {K : PySem.W.Frag} {H : Hp} {a : Addr} {xs : List V} (h : SqA K H a xs) : LenV K (.ref a) H xs.length := h.elim (fun h => .inl ⟨xs, h, rfl⟩) fun h => .inr ⟨xs, h, rfl⟩
theorem ixA {K : PySem.W.Frag} {H : Hp} {a : Addr} {xs : List V} {i : Int} {v : V} {Q : VK} (h : SqA K H a xs) (e : atI xs i = some v) (q : Q v H) : rIxL K (.ref a) (.int i) H Q ∨ rIxT K (.ref a) (.int i) H Q :=
  h.elim (fun h => .inl ⟨a, xs, i, v, rfl, rfl, h, e, q⟩) fun h => .inr ⟨a, xs, i, v, rfl, rfl, h, e, q⟩
end Tp
set_option Elab.async false
set_option linter.all false
set_option maxRecDepth 100000
set_option maxHeartbeats 4000000
/-! data of any depth with dicts in it, and its repr -/
namespace Tp
open PySem PySem.Spec PyProof.Rows L2
/-- a key as data -/
def kD : Key → PyData
  | .inl i => .int i
  | .inr x => .str x
mutual
inductive Dd (K : PySem.W.Frag) (H : Hp) : V → PyData → Prop
  | non : Dd K H .non .none
  | bl (b : Bool) : Dd K H (.bl b) (.bool b)
  | int (i : Int) : Dd K H (.int i) (.int i)
  | str (x : Str) : Dd K H (.str x) (.str x)
  | lst {a : Addr} {xs : List V} {ds : List PyData} : SqL K H a xs → DdAll K H xs ds → Dd K H (.ref a) (.list ds)
  | tup {a : Addr} {xs : List V} {ds : List PyData} : SqT K H a xs → DdAll K H xs ds → Dd K H (.ref a) (.tuple ds)
  | dct {a : Addr} {kvs : List (Key × V)} {es : List (PyData × PyData)} : H a = some (.dK kvs) → es.map (·.1) = kvs.map (fun kv => kD kv.1) → DdAll K H (kvs.map (·.2)) (es.map (·.2)) → Dd K H (.ref a) (.dict es)
inductive DdAll (K : PySem.W.Frag) (H : Hp) : List V → List PyData → Prop
  | nil : DdAll K H [] []
  | cons {v : V} {vs : List V} {d : PyData} {ds : List PyData} : Dd K H v d → DdAll K H vs ds → DdAll K H (v :: vs) (d :: ds)
end
/-- the table of modules is a dict of the written part -/
def Sm (K : PySem.W.Frag) : Prop := ∃ o : Obj, K.lookup sysModules = some o ∧ o.cls = .type "dict"
theorem reads_pairs {P : Program} {w : World} {h : Heap} : ∀ {es : List DictEntry} {kvs : List (Key × Value)}, Pairs (mixKind P w) es kvs → ReadsAll h (es.map (·.key)) (kvs.map fun kv => kD kv.1) [] ∧ es.map (·.val) = kvs.map (·.2)
  | _, _, .nil => ⟨.nil, rfl⟩
  | _, _, .cons h1 h2 h3 => by
    obtain ⟨ih1, ih2⟩ := reads_pairs (h := h) h3
    have e1 := keyIs_shape (show keyIs _ _ = true from h1)
    refine ⟨?_, ?_⟩
    · rcases e1 with ⟨i, t, e, e'⟩ | ⟨x, t, e, e'⟩
      · rw [List.map_cons, List.map_cons, e', e]
        exact ReadsAll.cons (as := []) (bs := []) (.int i t) ih1
      · rw [List.map_cons, List.map_cons, e', e]
        exact ReadsAll.cons (as := []) (bs := []) (.str x t) ih1
    · rw [List.map_cons, List.map_cons, ih2, h2]
theorem kv_keys : ∀ {kvs : List (Key × V)} {vs : List (Key × Value)}, KV kvs vs → vs.map (fun kv => kD kv.1) = kvs.map (fun kv => kD kv.1)
  | _, _, .nil => rfl
  | _, _, .cons a b => by rw [List.map_cons, List.map_cons, kv_keys b, a.1]
theorem kv_vals : ∀ {kvs : List (Key × V)} {vs : List (Key × Value)}, KV kvs vs → Vals (kvs.map (·.2)) (vs.map (·.2))
  | _, _, .nil => .nil
  | _, _, .cons a b => .cons a.2 (kv_vals b)
section
variable {X : Cx} {pins : List (Addr × Obj)} {σ : L2.St} {H : Hp} {s : Shared}
theorem not_list_sm (I : Inv X pins σ H s) (S : Sm X.K) {a : Addr} {o : Obj} (ho : s.heap.get? a = some o) (hc : o.cls = .type "list") : sysModules ≠ a := fun e => by
  obtain ⟨o2, hk, c2⟩ := S
  have h2 := I.kIn _ _ hk
  rw [e, ho] at h2
  have e3 := Option.some.inj h2
  rw [← e3, hc] at c2
  exact absurd (Value.type.inj c2) (by decide)
mutual
theorem Dd.reads (I : Inv X pins σ H s) (S : Sm X.K) : ∀ (d : PyData) (v : V) (u : Value), Dd X.K H v d → RelV v u → ∃ as, Reads s.heap u d as ∧ sysModules ∉ as
  | .none, _, _, h, r => by
    cases h
    cases r
    exact ⟨_, Reads.none, List.not_mem_nil⟩
  | .bool b, _, _, h, r => by
    cases h
    cases r
    exact ⟨_, Reads.bool b, List.not_mem_nil⟩
  | .int i, _, _, h, r => by
    cases h
    obtain ⟨t, rfl⟩ := r
    exact ⟨_, Reads.int i t, List.not_mem_nil⟩
  | .str x, _, _, h, r => by
    cases h
    obtain ⟨t, rfl⟩ := r
    exact ⟨_, Reads.str x t, List.not_mem_nil⟩
  | .list ds, _, _, h, r => by
    cases h with
    | lst hs ha =>
      cases r
      obtain ⟨its, rv, ⟨o, n, ho, hc, _, hd⟩, _⟩ := I.list hs
      obtain ⟨as, hr, hm⟩ := Dd.readsAll I S ds _ its ha rv
      refine ⟨_, Reads.list ho hc hd hr, fun z => ?_⟩
      rcases List.mem_cons.mp z with e | e
      · exact not_list_sm I S ho hc e
      · exact hm e
  | .tuple ds, _, _, h, r => by
    cases h with
    | tup hs ha =>
      cases r
      obtain ⟨its, rv, ⟨o, ho, hc, n, hd⟩, _⟩ := I.tuple hs
      obtain ⟨as, hr, hm⟩ := Dd.readsAll I S ds _ its ha rv
      exact ⟨_, Reads.tuple ho hc hd hr, hm⟩
  | .dict es, _, _, h, r => by
    cases h with
    | @dct a kvs _ ha he hv =>
      cases r
      obtain ⟨_, hsm, vs, rel, o, des, ep, ho, hx, hdat, _, hpr, _⟩ := dk_of I.hok ha
      obtain ⟨p1, p2⟩ := reads_pairs (h := s.heap) hpr
      have hkeys := kv_keys rel
      have hvals := kv_vals rel
      rw [← p2] at hvals
      obtain ⟨bs, hr, hm⟩ := Dd.readsPairs I S es _ _ hv hvals
      refine ⟨_, Reads.dict (as := []) (bs := bs) ho hx.1 hdat ?_ hr, fun z => ?_⟩
      · rw [he, ← hkeys]
        exact p1
      · rcases List.mem_cons.mp z with e | e
        · rw [← e] at hsm
          cases hsm
        · exact hm e
theorem Dd.readsAll (I : Inv X pins σ H s) (S : Sm X.K) : ∀ (ds : List PyData) (vs : List V) (us : List Value), DdAll X.K H vs ds → Vals vs us → ∃ as, ReadsAll s.heap us ds as ∧ sysModules ∉ as
  | [], _, _, h, r => by
    cases h
    cases r
    exact ⟨_, ReadsAll.nil, List.not_mem_nil⟩
  | d :: ds, _, _, h, r => by
    cases h with
    | cons h1 h2 =>
      cases r with
      | cons r1 r2 =>
        obtain ⟨as, q1, n1⟩ := Dd.reads I S d _ _ h1 r1
        obtain ⟨bs, q2, n2⟩ := Dd.readsAll I S ds _ _ h2 r2
        exact ⟨_, ReadsAll.cons q1 q2, fun z => (List.mem_append.mp z).elim n1 n2⟩
theorem Dd.readsPairs (I : Inv X pins σ H s) (S : Sm X.K) : ∀ (es : List (PyData × PyData)) (vs : List V) (us : List Value), DdAll X.K H vs (es.map (·.2)) → Vals vs us → ∃ as, ReadsAll s.heap us (es.map (·.2)) as ∧ sysModules ∉ as
  | [], _, _, h, r => by
    cases h
    cases r
    exact ⟨_, ReadsAll.nil, List.not_mem_nil⟩
  | (k, d) :: ds, _, _, h, r => by
    cases h with
    | cons h1 h2 =>
      cases r with
      | cons r1 r2 =>
        obtain ⟨as, q1, n1⟩ := Dd.reads I S d _ _ h1 r1
        obtain ⟨bs, q2, n2⟩ := Dd.readsPairs I S ds _ _ h2 r2
        exact ⟨_, ReadsAll.cons q1 q2, fun z => (List.mem_append.mp z).elim n1 n2⟩
end
end
/-- repr(x) of data -/
def rReprD (K : PySem.W.Frag) : List V → Hp → VK → Prop := fun xs H Q => ∃ (a : Addr) (d : PyData), xs = [.ref a] ∧ Dd K H (.ref a) d ∧ d.showable = true ∧ d.depth ≤ 60 ∧ d.shown.length ≤ sizeLine ∧ Q (.str d.shown) H
theorem call_reprD {X : Cx} {k : Nat} (S : Sm X.K) (hr : Room k X.A) (hG : X.A.guards = some []) : CallR X (.builtin "repr") (rReprD X.K) := by
  intro pins s σ H xs us Q I r h
  obtain ⟨a, d, rfl, hd, hs, hdep, hz, q⟩ := h
  obtain ⟨u, rfl, r1⟩ := vals1 r
  cases (show u = Value.ref a from r1)
  obtain ⟨as, hrd, hm⟩ := Dd.reads I S d _ _ hd rfl
  have hu := hr.units
  exact repr_of_reads' hrd hs (fun _ => hm) hG (by omega) (fun _ _ e => e) (fun h' u tk hk => ⟨.str d.shown, H, I.kept hk, ⟨u, rfl⟩, q⟩) hz
section
variable {K : PySem.W.Frag} {H H' : Hp}
theorem SqL.up (k : Same H H') {a : Addr} {xs : List V} (h : SqL K H a xs) : SqL K H' a xs := by
  rcases h with (h | ⟨o, h⟩) | h
  · exact .inl (.inl (k _ _ h))
  · exact .inl (.inr ⟨o, k _ _ h⟩)
  · exact .inr h
theorem SqT.up (k : Same H H') {a : Addr} {xs : List V} (h : SqT K H a xs) : SqT K H' a xs := by
  rcases h with (h | ⟨o, h⟩) | h
  · exact .inl (.inl (k _ _ h))
  · exact .inl (.inr ⟨o, k _ _ h⟩)
  · exact .inr h
mutual
theorem Dd.up (k : Same H H') : ∀ (d : PyData) (v : V), Dd K H v d → Dd K H' v d
  | .none, _, h => by cases h; exact .non
  | .bool _, _, h => by cases h; exact .bl _
  | .int _, _, h => by cases h; exact .int _
  | .str _, _, h => by cases h; exact .str _
  | .list ds, _, h => by
    cases h with
    | lst hs ha => exact .lst (SqL.up k hs) (Dd.upAll k ds _ ha)
  | .tuple ds, _, h => by
    cases h with
    | tup hs ha => exact .tup (SqT.up k hs) (Dd.upAll k ds _ ha)
  | .dict es, _, h => by
    cases h with
    | dct ha he hv => exact .dct (k _ _ ha) he (Dd.upPairs k es _ hv)
theorem Dd.upAll (k : Same H H') : ∀ (ds : List PyData) (vs : List V), DdAll K H vs ds → DdAll K H' vs ds
  | [], _, h => by cases h; exact .nil
  | d :: ds, _, h => by
    cases h with
    | cons h1 h2 => exact .cons (Dd.up k d _ h1) (Dd.upAll k ds _ h2)
theorem Dd.upPairs (k : Same H H') : ∀ (es : List (PyData × PyData)) (vs : List V), DdAll K H vs (es.map (·.2)) → DdAll K H' vs (es.map (·.2))
  | [], _, h => by cases h; exact .nil
  | (_, d) :: ds, _, h => by
    cases h with
    | cons h1 h2 => exact .cons (Dd.up k d _ h1) (Dd.upPairs k ds _ h2)
end
theorem Dd.mono {v : V} {d : PyData} (k : Same H H') (h : Dd K H v d) : Dd K H' v d := Dd.up k d v h
theorem DdAll.mono {vs : List V} {ds : List PyData} (k : Same H H') (h : DdAll K H vs ds) : DdAll K H' vs ds := Dd.upAll k ds vs h
theorem DdAll.len : ∀ {vs : List V} {ds : List PyData}, DdAll K H vs ds → vs.length = ds.length
  | _, _, .nil => rfl
  | _, _, .cons _ h => congrArg Nat.succ (DdAll.len h)
theorem DdAll.get : ∀ {vs : List V} {ds : List PyData} {i : Nat} {v : V}, DdAll K H vs ds → vs[i]? = some v → ∃ d, ds[i]? = some d ∧ Dd K H v d
  | _, _, 0, _, .cons h _, e => by
    cases e
    exact ⟨_, rfl, h⟩
  | _, _, i + 1, _, .cons _ h, e => DdAll.get (i := i) h e
  | _, _, _, _, .nil, e => by cases e
theorem DdAll.set : ∀ {vs : List V} {ds : List PyData} {i : Nat} {v : V} {d : PyData}, DdAll K H vs ds → Dd K H v d → DdAll K H (vs.set i v) (ds.set i d)
  | _, _, 0, _, _, .cons _ h, e => .cons e h
  | _, _, i + 1, _, _, .cons h1 h, e => .cons h1 (DdAll.set (i := i) h e)
  | _, _, _, _, _, .nil, _ => .nil
theorem DdAll.app : ∀ {vs ws : List V} {ds es : List PyData}, DdAll K H vs ds → DdAll K H ws es → DdAll K H (vs ++ ws) (ds ++ es)
  | _, _, _, _, .nil, h => h
  | _, _, _, _, .cons h1 h2, h => .cons h1 (DdAll.app h2 h)
theorem ddAll_flat : ∀ {vs : List V}, vs.all isFlat = true → DdAll K H vs (vs.map dV)
  | [], _ => .nil
  | v :: vs, h => by
    rw [List.all_cons, Bool.and_eq_true] at h
    refine .cons ?_ (ddAll_flat h.2)
    match v, h.1 with
    | .non, _ => exact .non
    | .bl b, _ => exact .bl b
    | .int i, _ => exact .int i
    | .str x, _ => exact .str x
end
end Tp
set_option Elab.async false
set_option linter.all false
set_option maxRecDepth 100000
set_option maxHeartbeats 4000000
/-! kinds of any value, and what the four questions of the document answer -/
namespace Tp
open PySem PySem.Spec PyProof.Rows L2
def tys6 : List String := ["int", "bool", "str", "list", "tuple", "dict"]
/-- the answer of isinstance, by the kind's name -/
def ansB (k t : String) : Bool := k == t || (k == "bool" && t == "int")
/-- all that isinstance answers of a value, by its kind -/
def Knd (K : PySem.W.Frag) (H : Hp) (x : V) (k : String) : Prop := (∃ t, TyX K H x t ∧ ∀ u ∈ tys6, PySem.W.kitOne K t (.type u) = some (ansB k u)) ∨
  ∃ (a D : Addr) (fs : List (Str × V)), x = .ref a ∧ ExAt H a D fs ∧ ExK K D ∧ ∀ u ∈ tys6, PySem.W.kitOne K (.ref D) (.type u) = some (ansB k u)
theorem Knd.mono {K : PySem.W.Frag} {H H' : Hp} {x : V} {k : String} (s : Same H H') (h : Knd K H x k) : Knd K H' x k := by
  rcases h with ⟨t, ty, e⟩ | ⟨a, D, fs, e1, hA, T, e⟩
  · exact .inl ⟨t, TyX.up s ty, e⟩
  · exact .inr ⟨a, D, fs, e1, hA.mono s, T, e⟩
theorem Knd.is {K : PySem.W.Frag} {H : Hp} {x : V} {k : String} (h : Knd K H x k) (u : String) (hu : u ∈ tys6) : IsR K H x (.type u) (ansB k u) := by
  rcases h with ⟨t, ty, e⟩ | ⟨a, D, fs, e1, hA, T, e⟩
  · exact .inl ⟨t, ty, e u hu⟩
  · exact .inr ⟨a, D, fs, e1, hA, T, e u hu⟩
theorem any2 {K : PySem.W.Frag} {t a b : Value} {p q : Bool} (h1 : PySem.W.kitOne K t a = some p) (h2 : PySem.W.kitOne K t b = some q) : PySem.W.kitAny K t [a, b] = some (p || q) :=
  kitAny_cons h1 (fun z => by
    rw [z, Bool.false_or]
    exact kitAny_cons h2 (fun z => by rw [z]; rfl) fun z => z) fun z => by rw [z, Bool.true_or]
theorem Knd.lt {K : PySem.W.Frag} {H : Hp} {x : V} {k : String} (h : Knd K H x k) : IsA K H x [.type "list", .type "tuple"] (ansB k "list" || ansB k "tuple") := by
  rcases h with ⟨t, ty, e⟩ | ⟨a, D, fs, e1, hA, T, e⟩
  · exact .inl ⟨t, ty, any2 (e _ (by decide)) (e _ (by decide))⟩
  · exact .inr ⟨a, D, fs, e1, hA, T, any2 (e _ (by decide)) (e _ (by decide))⟩
theorem knd_ty {K : PySem.W.Frag} {H : Hp} {x : V} (t : String) (h : TyX K H x (.type t)) (e : tys6.all (fun u => decide (kitB t u = some (ansB t u))) = true) : Knd K H x t :=
  .inl ⟨_, h, fun u hu => kit_ty (of_decide_eq_true (List.all_eq_true.mp e u hu))⟩
/-- a value with its kind; what an int and a text are -/
structure Vk (K : PySem.W.Frag) (H : Hp) (x : V) (k : String) : Prop where
  kd : Knd K H x k
  i : k = "int" → ∃ i, x = .int i
  s : k = "str" → ∃ z : Str, x = .str z ∧ z.length ≤ 5000
theorem Vk.mono {K : PySem.W.Frag} {H H' : Hp} {x : V} {k : String} (s : Same H H') (h : Vk K H x k) : Vk K H' x k := ⟨h.kd.mono s, h.i, h.s⟩
theorem vk_of {K : PySem.W.Frag} {H : Hp} {x : V} (k : String) (h : Knd K H x k) (h1 : k ≠ "int" := by decide) (h2 : k ≠ "str" := by decide) : Vk K H x k := ⟨h, fun e => absurd e h1, fun e => absurd e h2⟩
section
variable {K : PySem.W.Frag} {H : Hp}
theorem vk_non : Vk K H .non "NoneType" := vk_of _ (knd_ty _ (.base .non) (by decide +kernel))
theorem vk_bl (b : Bool) : Vk K H (.bl b) "bool" := vk_of _ (knd_ty _ (.base (.bl b)) (by decide +kernel))
theorem vk_int (i : Int) : Vk K H (.int i) "int" := ⟨knd_ty _ (.base (.int i)) (by decide +kernel), fun _ => ⟨i, rfl⟩, fun e => absurd e (by decide)⟩
theorem vk_str (z : Str) (h : z.length ≤ 5000) : Vk K H (.str z) "str" := ⟨knd_ty _ (.base (.str z)) (by decide +kernel), fun e => absurd e (by decide), fun _ => ⟨z, rfl, h⟩⟩
theorem tyx_list {a : Addr} {xs : List V} (h : SqL K H a xs) : TyX K H (.ref a) (.type "list") := by
  rcases h with (h | ⟨o, h⟩) | ⟨o, _, _, h, c, _⟩
  · exact .base (.lst h)
  · exact .base (.frz h)
  · exact .kList h c
theorem tyx_tuple {a : Addr} {xs : List V} (h : SqT K H a xs) : TyX K H (.ref a) (.type "tuple") := by
  rcases h with (h | ⟨o, h⟩) | ⟨o, _, _, h, c, _⟩
  · exact .base (.tup h)
  · exact .fTuple h
  · exact .kTuple h c
theorem vk_list {a : Addr} {xs : List V} (h : SqL K H a xs) : Vk K H (.ref a) "list" := vk_of _ (knd_ty _ (tyx_list h) (by decide +kernel))
theorem vk_tuple {a : Addr} {xs : List V} (h : SqT K H a xs) : Vk K H (.ref a) "tuple" := vk_of _ (knd_ty _ (tyx_tuple h) (by decide +kernel))
theorem vk_dict {a : Addr} {kvs : List (Key × V)} (h : H a = some (.dK kvs)) : Vk K H (.ref a) "dict" := vk_of _ (knd_ty _ (.base (.dK h)) (by decide +kernel))
/-- what isinstance asks of an instance of an own class -/
structure InsK (K : PySem.W.Frag) (C : Addr) : Prop where
  cl : Cls K C
  ha : PySem.W.findIn K (.ref C) "__class__" = some (some (.builtin "object.__class__"))
  hn : PySem.W.specialIn K (.builtin "object.__class__") "__get__" = some (some (.builtin "getset_descriptor.__get__"))
  ht : PySem.W.takesIn K (.builtin "object.__class__") = some true
  hm : PySem.W.mroIn K C (.type "object") = some true
  no : ∀ u ∈ tys6, PySem.W.kitOne K (.ref C) (.type u) = some false
theorem vk_ins {C a dx : Addr} {fs : List (Str × V)} (I : InsK K C) (h : H a = some (.ins C dx fs)) : Vk K H (.ref a) "object" :=
  vk_of _ (.inl ⟨_, .base (.ins h I.cl I.ha I.hn I.ht I.hm), fun u hu => by
    rw [I.no u hu]
    have : ∀ u ∈ tys6, ansB "object" u = false := by decide
    rw [this u hu]⟩)
theorem vk_exc {C a : Addr} {fs : List (Str × V)} (T : ExK K C) (no : ∀ u ∈ tys6, PySem.W.kitOne K (.ref C) (.type u) = some false) (h : ExAt H a C fs) : Vk K H (.ref a) "object" :=
  vk_of _ (.inr ⟨a, C, fs, rfl, h, T, fun u hu => by
    rw [no u hu]
    have : ∀ u ∈ tys6, ansB "object" u = false := by decide
    rw [this u hu]⟩)
end
/-! ### the answers -/
def lowB (c : Nat) : Bool := decide (97 ≤ c ∧ c ≤ 122)
def digB (c : Nat) : Bool := decide (48 ≤ c ∧ c ≤ 57)
/-- is it a name? -/
def nameB (l : List Nat) : Bool := decide (1 ≤ l.length ∧ l.length ≤ 8) && (l.head?.any lowB && l.all fun c => lowB c || digB c)
def nameV : V → Bool
  | .str z => nameB (TL.tl z)
  | _ => false
def intB (lo hi : Int) : V → Bool
  | .int i => decide (lo ≤ i ∧ i ≤ hi)
  | _ => false
/-- is_whole -/
def spWhole (K : PySem.W.Frag) : Sp := fun vs H Q _ => ∃ (x : V) (k : String), vs = [x] ∧ Vk K H x k ∧ Q (.bl (k == "int")) H
/-- is_integer -/
def spInteger (K : PySem.W.Frag) : Sp := fun vs H Q _ => ∃ (x : V) (lo hi : Int) (k : String), vs = [x, .int lo, .int hi] ∧ Vk K H x k ∧ (k ≠ "int" → Q (.bl false) H) ∧ ∀ i, x = .int i → Q (.bl (decide (lo ≤ i ∧ i ≤ hi))) H
/-- is_name -/
def spName (K : PySem.W.Frag) : Sp := fun vs H Q _ => ∃ (x : V) (k : String), vs = [x] ∧ Vk K H x k ∧ (k ≠ "str" → Q (.bl false) H) ∧ ∀ z, x = .str z → ∀ H', Same H H' → Q (.bl (nameB (TL.tl z))) H'
/-- is_list -/
def spList (K : PySem.W.Frag) : Sp := fun vs H Q _ => ∃ (x : V) (k : String), vs = [x] ∧ Vk K H x k ∧ ∀ H', Same H H' → Q (.bl (k == "list" || k == "tuple")) H'
theorem low_mem (c : Nat) : decide (c ∈ (("abcdefghijklmnopqrstuvwxyz" : Str)).cps.toList) = lowB c := by
  have e : (("abcdefghijklmnopqrstuvwxyz" : Str)).cps.toList = (List.range 26).map (· + 97) := by decide +kernel
  rw [e]
  unfold lowB
  refine decide_eq_decide.mpr ⟨fun h => ?_, fun h => ?_⟩
  · obtain ⟨i, hi, rfl⟩ := List.mem_map.mp h
    have := List.mem_range.mp hi
    omega
  · exact List.mem_map.mpr ⟨c - 97, List.mem_range.mpr (by omega), by omega⟩
theorem dig_mem' (c : Nat) : decide (c ∈ (("0123456789" : Str)).cps.toList) = digB c := by
  have e : (("0123456789" : Str)).cps.toList = (List.range 10).map (· + 48) := by decide +kernel
  rw [e]
  unfold digB
  refine decide_eq_decide.mpr ⟨fun h => ?_, fun h => ?_⟩
  · obtain ⟨i, hi, rfl⟩ := List.mem_map.mp h
    have := List.mem_range.mp hi
    omega
  · exact List.mem_map.mpr ⟨c - 48, List.mem_range.mpr (by omega), by omega⟩
/-! data: the kind, and the shape of a term row -/
def kindD : PyData → String
  | .none => "NoneType"
  | .bool _ => "bool"
  | .int _ => "int"
  | .str _ => "str"
  | .list _ => "list"
  | .tuple _ => "tuple"
  | .dict _ => "dict"
mutual
def shortD : PyData → Bool
  | .str z => decide (z.length ≤ 5000)
  | .list ds => shortAll ds
  | .tuple ds => shortAll ds
  | .none => true
  | .bool _ => true
  | .int _ => true
  | .dict _ => true
def shortAll : List PyData → Bool
  | [] => true
  | d :: ds => shortD d && shortAll ds
end
theorem shortAll_get : ∀ {ds : List PyData} {i : Nat} {d : PyData}, shortAll ds = true → ds[i]? = some d → shortD d = true
  | d :: ds, 0, _, h, e => by
    cases e
    simp only [shortAll, Bool.and_eq_true] at h
    exact h.1
  | d :: ds, i + 1, _, h, e => by
    simp only [shortAll, Bool.and_eq_true] at h
    exact shortAll_get (i := i) h.2 e
theorem vk_dd {K : PySem.W.Frag} {H : Hp} : ∀ {v : V} {d : PyData}, Dd K H v d → shortD d = true → Vk K H v (kindD d)
  | _, _, .non, _ => vk_non
  | _, _, .bl b, _ => vk_bl b
  | _, _, .int i, _ => vk_int i
  | _, _, .str z, h => vk_str z (of_decide_eq_true (by simpa only [shortD] using h))
  | _, _, .lst h _, _ => vk_list h
  | _, _, .tup h _, _ => vk_tuple h
  | _, _, .dct h _ _, _ => vk_dict h
/-- the items of a list or a tuple -/
def seqD : PyData → Option (List PyData)
  | .list ds => some ds
  | .tuple ds => some ds
  | _ => none
def nameD : PyData → Bool
  | .str z => nameB (TL.tl z)
  | _ => false
def idxD (i : Nat) : PyData → Bool
  | .int n => decide (0 ≤ n ∧ n ≤ (i : Int) - 1)
  | _ => false
def numsB (i : Nat) (d : PyData) : Bool := match seqD d with
  | some ns => decide (ns.length ≤ 3) && ns.all (idxD i)
  | none => false
/-- may it stand at index i as a term row? -/
def rowB (i : Nat) (d : PyData) : Bool := match seqD d with
  | some [a, b] => nameD a && numsB i b
  | _ => false
def rowsB : Nat → List PyData → Bool
  | _, [] => true
  | i, d :: ds => rowB i d && rowsB (i + 1) ds
def termsB (d : PyData) : Bool := match seqD d with
  | some ds => rowsB 0 ds
  | none => false
/-- _is_term_row -/
def spTermRow (K : PySem.W.Frag) : Sp := fun vs H Q _ => ∃ (x : V) (i : Nat) (d : PyData), vs = [x, .int (i : Nat)] ∧ Dd K H x d ∧ shortD d = true ∧ i ≤ 5000 ∧ ∀ H', Same H H' → Q (.bl (rowB i d)) H'
/-- is_terms of data, or of what is no list -/
def spTerms (K : PySem.W.Frag) : Sp := fun vs H Q _ => ∃ x : V, vs = [x] ∧ ((∃ d, Dd K H x d ∧ shortD d = true ∧ (∀ ds, seqD d = some ds → ds.length ≤ 5000) ∧ ∀ H', Same H H' → Q (.bl (termsB d)) H') ∨ (∃ k, Vk K H x k ∧ (k == "list" || k == "tuple") = false ∧ ∀ H', Same H H' → Q (.bl false) H'))
end Tp
namespace Tp
open PySem PySem.Spec PyProof.Rows L2
theorem ans_int {k : String} (h : ansB k "int" = true) : (!ansB k "bool") = (k == "int") := by
  unfold ansB at h ⊢
  by_cases e : k = "int"
  · subst e
    decide
  · have e2 : k = "bool" := by simpa [e] using h
    subst e2
    decide
theorem ans_int0 {k : String} (h : ansB k "int" = false) : (k == "int") = false := by
  unfold ansB at h
  simp only [Bool.or_eq_false_iff] at h
  exact h.1
theorem ans_lt (k : String) : (ansB k "list" || ansB k "tuple") = (k == "list" || k == "tuple") := by
  unfold ansB
  have h1 : ("list" == "int") = false := by decide
  have h2 : ("tuple" == "int") = false := by decide
  rw [h1, h2, Bool.and_false, Bool.or_false, Bool.or_false]
theorem ans_str (k : String) : ansB k "str" = (k == "str") := by
  unfold ansB
  have h1 : ("str" == "int") = false := by decide
  rw [h1, Bool.and_false, Bool.or_false]
theorem if_true_of {c : Bool} {A B : Prop} (hc : c = true) (h : A) : if c = true then A else B := by
  rw [hc]
  exact iteT h
theorem if_false_of {c : Bool} {A B : Prop} (hc : c = false) (h : B) : if c = true then A else B := by
  rw [hc]
  exact iteF h
theorem gl_c {X : Cx} {x : Str} {v : V} {pos : Pos} (hg : Gl X x) (h : ∃ u, X.mg x = some u ∧ RelV v u) (hd : (x == ("__debug__" : Str)) = false := by decide) : PE X (.Name x pos) (tC v) := by
  obtain ⟨u, h1, h2⟩ := h
  exact pe_glob hg h1 h2 hd
end Tp
namespace Tp
open PySem PySem.Spec PyProof.Rows L2
theorem dd_seq {K : PySem.W.Frag} {H : Hp} {x : V} {d : PyData} {ds : List PyData} (h : Dd K H x d) (e : seqD d = some ds) : ∃ a xs, x = .ref a ∧ SqA K H a xs ∧ DdAll K H xs ds := by
  cases h with
  | lst hs ha =>
    cases e
    exact ⟨_, _, rfl, .inl hs, ha⟩
  | tup hs ha =>
    cases e
    exact ⟨_, _, rfl, .inr hs, ha⟩
  | _ => cases e
theorem kind_seq (d : PyData) : (kindD d == "list" || kindD d == "tuple") = (seqD d).isSome := by
  cases d <;> first | rfl | simp [kindD, seqD]
theorem short_seq {d : PyData} {ds : List PyData} (h : shortD d = true) (e : seqD d = some ds) : shortAll ds = true := by
  cases d with
  | list xs =>
    cases e
    simpa only [shortD] using h
  | tuple xs =>
    cases e
    simpa only [shortD] using h
  | _ => cases e
theorem kind_str {K : PySem.W.Frag} {H : Hp} {x : V} {d : PyData} (h : Dd K H x d) : kindD d ≠ "str" → nameD d = false := by
  cases h <;> first | (intro _; rfl) | (intro e; exact absurd rfl e)
theorem kind_int {K : PySem.W.Frag} {H : Hp} {x : V} {d : PyData} (h : Dd K H x d) (i : Nat) : kindD d ≠ "int" → idxD i d = false := by
  cases h <;> first | (intro _; rfl) | (intro e; exact absurd rfl e)
/-- is_name of data -/
theorem name_dd {K : PySem.W.Frag} {H : Hp} {x : V} {d : PyData} {Q : VK} {E : XK} (h : Dd K H x d) (hs : shortD d = true) (q : ∀ H', Same H H' → Q (.bl (nameD d)) H') : spName K [x] H Q E :=
  ⟨x, kindD d, rfl, vk_dd h hs, fun e => by
    have := q H (Same.refl _)
    rwa [kind_str h e] at this, fun z e H' s => by
    subst e
    cases h
    exact q H' s⟩
/-- is_integer of data -/
theorem int_dd {K : PySem.W.Frag} {H : Hp} {x : V} {d : PyData} {i : Nat} {Q : VK} {E : XK} (h : Dd K H x d) (hs : shortD d = true) (q : Q (.bl (idxD i d)) H) : spInteger K [x, .int 0, .int ((i : Nat) - 1)] H Q E :=
  ⟨x, 0, (i : Nat) - 1, kindD d, rfl, vk_dd h hs, fun e => by
    rwa [kind_int h i e] at q, fun n e => by
    subst e
    cases h
    exact q⟩
theorem DdAll.at {K : PySem.W.Frag} {H : Hp} : ∀ {vs : List V} {ds : List PyData} {i : Nat} {d : PyData}, DdAll K H vs ds → ds[i]? = some d → ∃ v, vs[i]? = some v ∧ Dd K H v d
  | _, _, 0, _, .cons h _, e => by
    cases e
    exact ⟨_, rfl, h⟩
  | _, _, i + 1, _, .cons _ h, e => DdAll.at (i := i) h e
  | _, _, _, _, .nil, e => by cases e
def rowsAt (k : Nat) : List PyData → List Bool
  | [] => []
  | d :: ds => rowB k d :: rowsAt (k + 1) ds
theorem rowsAt_len (k : Nat) : ∀ ds : List PyData, (rowsAt k ds).length = ds.length
  | [] => rfl
  | _ :: ds => congrArg Nat.succ (rowsAt_len (k + 1) ds)
theorem rowsAt_all (k : Nat) : ∀ ds : List PyData, (rowsAt k ds).all id = rowsB k ds
  | [] => rfl
  | d :: ds => by
    rw [rowsAt, List.all_cons, rowsAt_all (k + 1) ds]
    rfl
theorem rowsAt_take : ∀ (k : Nat) (ds : List PyData) (i : Nat) (d : PyData), ds[i]? = some d → (rowsAt k ds).take (i + 1) = (rowsAt k ds).take i ++ [rowB (k + i) d]
  | k, [], i, d, e => by cases e
  | k, x :: ds, 0, d, e => by
    cases e
    rfl
  | k, x :: ds, i + 1, d, e => by
    have ih := rowsAt_take (k + 1) ds i d e
    rw [rowsAt, List.take_succ_cons, ih, List.take_succ_cons]
    rw [show k + 1 + i = k + (i + 1) by omega]
    rfl
end Tp
namespace Tp
open PySem PySem.Spec PyProof.Rows L2
theorem Same.tr {A B D : Hp} (a : Same A B) (b : Same B D) : Same A D := fun x o e => b x o (a x o e)
theorem ne_dec1 {n : Nat} {z : Int} (h : ¬ ((n : Nat) : Int) = z) : (!decide (V.int ((n : Nat) : Int) = V.int z)) = true := by
  rw [decide_eq_false fun e => h (V.int.inj e)]
  rfl
theorem ne_dec2 {n : Nat} {z : Int} (h : ((n : Nat) : Int) = z) : (!decide (V.int ((n : Nat) : Int) = V.int z)) = false := by
  rw [decide_eq_true (congrArg V.int h)]
  rfl
end Tp
namespace Tp
open PySem PySem.Spec PyProof.Rows L2
/-- an empty or any list or tuple is a list -/
theorem vk_seqA {K : PySem.W.Frag} {H : Hp} {a : Addr} {xs : List V} (h : SqA K H a xs) : ∃ k, Vk K H (.ref a) k ∧ (k == "list" || k == "tuple") = true :=
  h.elim (fun h => ⟨_, vk_list h, by decide⟩) fun h => ⟨_, vk_tuple h, by decide⟩
end Tp
set_option Elab.async false
set_option linter.all false
set_option maxRecDepth 100000
set_option maxHeartbeats 4000000
namespace T04
open PySem PySem.Spec PyProof.Rows L2 Tp

/-- the built-ins and constants that the checks name -/
structure TxtV (mg : Str → Option Value) : Prop where
  isinstance : mg "isinstance" = none
  int : mg "int" = none
  bool : mg "bool" = none
  str : mg "str" = none
  list : mg "list" = none
  tuple : mg "tuple" = none
  len : mg "len" = none
  all : mg "all" = none
  enumerate : mg "enumerate" = none
  letters : ∃ u, mg "LETTERS" = some u ∧ RelV (.str "abcdefghijklmnopqrstuvwxyz") u
  digits : ∃ u, mg "DIGITS" = some u ∧ RelV (.str "0123456789") u
  longest : ∃ u, mg "LONGEST_NAME" = some u ∧ RelV (.int 8) u
  most : ∃ u, mg "MOST_ARGUMENTS" = some u ∧ RelV (.int 3) u

section
variable {P : Program} {w : World} {K : PySem.W.Frag} {mg : Str → Option Value} {base : Heap} {f : Addr} {fd : FuncData}

abbrev sVw : Stmt := top 20
abbrev nVw : List Str := ["value"]
theorem scVw : FnScope nVw ["value"] (defScope sVw) := ⟨rfl, rfl, rfl, by decide +kernel, rfl, by decide +kernel, by decide +kernel⟩

theorem ok_whole (F : Fun K "is_whole" "is_whole" sVw f fd) (T : TxtV mg) : FnG P w K mg base CX0 1 f fd ["value"] (spWhole K) := by
  refine FunG.ok F scVw (fun vs H Q E h => ?_) (fun cdv B out s H vs Q E hr hG h => ?_)
  · obtain ⟨x, k, rfl, _⟩ := h
    rfl
  · obtain ⟨x, k, rfl, v, q⟩ := h
    refine ⟨_, (pss_one (ps_ret (pe_and (pe_callB call_isd (by rfl) T.isinstance (by decide +kernel) (pa_cons (pv 0) (pa_cons (pe_bltn (by rfl) T.int (by decide +kernel) (show RelV (.ty "int") _ from rfl)) pa_nil))) (pe_one (pe_not (pe_callB call_isd (by rfl) T.isinstance (by decide +kernel) (pa_cons (pv 0) (pa_cons (pe_bltn (by rfl) T.bool (by decide +kernel) (show RelV (.ty "bool") _ from rfl)) pa_nil)))))))), ?_⟩
    refine ⟨_, rfl, _, _, _, _, rfl, .ty _, v.kd.is "int" (by decide), _, rfl, ?_⟩
    refine ite2 (fun h1 => ?_) (fun h1 => ?_)
    · refine ⟨_, rfl, _, _, _, _, rfl, .ty _, v.kd.is "bool" (by decide), _, rfl, ?_⟩
      have e : (!ansB k "bool") = (k == "int") := ans_int h1
      rw [e]
      exact q
    · have e : (k == "int") = false := ans_int0 (Bool.eq_false_iff.mpr h1)
      rw [e] at q
      exact q

abbrev sVi : Stmt := top 19
abbrev nVi : List Str := ["value", "low", "high"]
theorem scVi : FnScope nVi ["value", "low", "high"] (defScope sVi) := ⟨rfl, rfl, rfl, by decide +kernel, rfl, by decide +kernel, by decide +kernel⟩

theorem ok_integer (F : Fun K "is_integer" "is_integer" sVi f fd) (W : Cg P w K mg base 1 "is_whole" (spWhole K)) : FnG P w K mg base CX0 2 f fd ["value", "low", "high"] (spInteger K) := by
  refine FunG.ok F scVi (fun vs H Q E h => ?_) (fun cdv B out s H vs Q E hr hG h => ?_)
  · obtain ⟨x, lo, hi, k, rfl, _⟩ := h
    rfl
  · obtain ⟨x, lo, hi, k, rfl, v, q0, q1⟩ := h
    refine ⟨_, (pss_one (ps_ret (pe_and (pe_g W hr hG (by decide) (by rfl) (pa_cons (pv 0) pa_nil)) (pe_one (pe_chain op_le op_le (pv 1) (pv 0) (pv 2)))))), ?_⟩
    refine ⟨_, rfl, _, k, rfl, v, _, rfl, ?_⟩
    refine ite2 (fun h1 => ?_) (fun h1 => ?_)
    · obtain ⟨i, rfl⟩ := v.i (by simpa using h1)
      refine ⟨_, rfl, _, rfl, _, _, rfl, rfl, _, rfl, ?_⟩
      have q := q1 i rfl
      refine ite2 (fun h2 => ?_) (fun h2 => ?_)
      · refine ⟨_, rfl, _, _, rfl, rfl, ?_⟩
        have e : decide (lo ≤ i ∧ i ≤ hi) = decide (i ≤ hi) := decide_eq_decide.mpr ⟨fun z => z.2, fun z => ⟨of_decide_eq_true h2, z⟩⟩
        rw [e] at q
        exact q
      · have e : decide (lo ≤ i ∧ i ≤ hi) = false := decide_eq_false fun z => h2 (decide_eq_true z.1)
        rw [e] at q
        exact q
    · exact q0 fun e => h1 (by rw [e]; rfl)

abbrev sVl : Stmt := top 22
abbrev nVl : List Str := ["value"]
theorem scVl : FnScope nVl ["value"] (defScope sVl) := ⟨rfl, rfl, rfl, by decide +kernel, rfl, by decide +kernel, by decide +kernel⟩

theorem ok_list (F : Fun K "is_list" "is_list" sVl f fd) (T : TxtV mg) : FnG P w K mg base CX0 1 f fd ["value"] (spList K) := by
  refine FunG.ok F scVl (fun vs H Q E h => ?_) (fun cdv B out s H vs Q E hr hG h => ?_)
  · obtain ⟨x, k, rfl, _⟩ := h
    rfl
  · obtain ⟨x, k, rfl, v, q⟩ := h
    refine ⟨_, (pss_one (ps_ret (pe_callB call_isdT (by rfl) T.isinstance (by decide +kernel) (pa_cons (pv 0) (pa_cons (pe_tup (pa_cons (pe_bltn (by rfl) T.list (by decide +kernel) (show RelV (.ty "list") _ from rfl)) (pa_cons (pe_bltn (by rfl) T.tuple (by decide +kernel) (show RelV (.ty "tuple") _ from rfl)) pa_nil))) pa_nil))))), ?_⟩
    have prs : Paired ClsV [V.ty "list", V.ty "tuple"] [.type "list", .type "tuple"] := .cons (.ty _) (.cons (.ty _) .nil)
    refine ⟨_, rfl, (by show 2 ≤ sizeLine; decide), fun p hp => ⟨_, p, _, _, _, rfl, upd_same, prs, v.kd.lt.mono (Same.put hp), ?_⟩⟩
    rw [ans_lt]
    exact q _ (Same.put hp)

abbrev sVn : Stmt := top 21
abbrev nVn : List Str := ["value", "character"]
theorem scVn : FnScope nVn ["value"] (defScope sVn) := ⟨rfl, rfl, rfl, by decide +kernel, rfl, by decide +kernel, by decide +kernel⟩

theorem ok_name (F : Fun K "is_name" "is_name" sVn f fd) (T : TxtV mg) : FnG P w K mg base CX0 1 f fd ["value"] (spName K) := by
  refine FunG.ok F scVn (fun vs H Q E h => ?_) (fun cdv B out s H vs Q E hr hG h => ?_)
  · obtain ⟨x, k, rfl, _⟩ := h
    rfl
  · obtain ⟨x, k, rfl, v, q0, q1⟩ := h
    refine ⟨_, (pss_cons (ps_if (PW.pt (pw_or (pt_not (pt_val (pe_callB call_isd (by rfl) T.isinstance (by decide +kernel) (pa_cons (pv 0) (pa_cons (pe_bltn (by rfl) T.str (by decide +kernel) (show RelV (.ty "str") _ from rfl)) pa_nil))))) (pw_or1 (pt_not (pt_chain op_le op_le pe_int (pe_callB call_len (by rfl) T.len PySem.boot_len (pa_cons (pv 0) pa_nil)) (gl_c (by rfl) T.longest)))))) (pss_one (ps_ret pe_bl)) pss_nil)
      (pss_one (ps_ret (pe_and (pe_cmpR op_in_sign (pe_ix ix_str (pv 0) pe_int fun _ _ => rfl) (gl_c (by rfl) T.letters) rfl) (pe_one (pe_callB (cr_all rfl) (by rfl) T.all (by decide +kernel) (pa_cons (pe_lc (own := [("character", 1)]) (g := gName 1) (tt := tYes) rfl scVn.nd (pi_str (pv 0)) (blkOk_by (N := nVn) (sc := defScope sVn) (by decide +kernel)) (fun _ _ _ _ _ => pg_name (i := 1) scVn.nd rfl (Or.inl rfl)) (fun _ _ _ _ _ => pts_nil) (fun _ _ _ _ _ => (pe_or (pe_cmpR op_in_sign (pv 1) (gl_c (by rfl) T.letters) rfl) (pe_one (pe_cmpR op_in_sign (pv 1) (gl_c (by rfl) T.digits) rfl))))) pa_nil))))))), ?_⟩
    refine ⟨_, rfl, _, _, _, _, rfl, .ty _, v.kd.is "str" (by decide), _, rfl, ?_⟩
    rw [ans_str]
    cases hk : (k == "str") with
    | false => exact iteT (iteT (q0 fun e => by rw [e] at hk; cases hk))
    | true =>
      obtain ⟨z, rfl, hz⟩ := v.s (by simpa using hk)
      have q := q1 z rfl
      have hzl : z.length = (TL.tl z).length := TL.len_tl z
      refine iteF ⟨_, rfl, _, _, rfl, ⟨by rw [PySem.sizeLine_eq]; omega, rfl⟩, _, _, rfl, rfl, _, rfl, ?_⟩
      have bad : ¬ (1 ≤ (TL.tl z).length ∧ (TL.tl z).length ≤ 8) → Q (.bl false) H := fun hn => by
        have q' := q H (Same.refl _)
        unfold nameB at q'
        rw [decide_eq_false hn] at q'
        exact q'
      refine ite2 (fun h1 => ?_) (fun h1 => ?_)
      · have h1' := of_decide_eq_true h1
        refine ⟨_, _, rfl, rfl, _, rfl, ?_⟩
        by_cases h2 : ((z.length : Nat) : Int) ≤ 8
        · refine if_false_of (by rw [decide_eq_true h2]; rfl) ?_
          have hpos : 0 < (TL.tl z).length := by omega
          have h0 : (TL.tl z)[0]? = some ((TL.tl z)[0]) := List.getElem?_eq_getElem hpos
          have hh : (TL.tl z).head? = some ((TL.tl z)[0]) := by rw [List.head?_eq_getElem?, h0]
          refine ⟨_, rfl, _, _, _, rfl, rfl, by rw [PySem.sizeLine_eq]; omega, atI_nat (j := 0) h0, _, _, rfl, rfl, _, rfl, ?_⟩
          rw [low_mem]
          cases h3 : lowB ((TL.tl z)[0]) with
          | false =>
            refine iteF ?_
            have q' := q H (Same.refl _)
            unfold nameB at q'
            rw [hh, Option.any_some, h3, Bool.false_and, Bool.and_false] at q'
            exact q'
          | true =>
            refine iteT ⟨_, rfl, _, rfl, fun D hD => ?_⟩
            refine lc_it walk_str (fun i G => Same H G ∧ G D = some (.lst ((((TL.tl z).take i).map fun c => lowB c || digB c).map V.bl))) ⟨Same.put hD, upd_same⟩ (fun _ _ _ _ => trivial) ?_ ?_
            · rintro i x G G' hi ⟨sm, hGD⟩ ⟨rfl, c, hc, rfl⟩
              have hi' : i < (TL.tl z).length := by rw [← hzl]; exact hi
              have hc' : (TL.tl z)[i]? = some c := by rw [← hc]; simp
              have fin : ∃ acc, G' D = some (.lst acc) ∧ acc.length < sizeLine ∧ Same H (upd G' D (.lst (acc ++ [V.bl (lowB c || digB c)]))) ∧ (upd G' D (.lst (acc ++ [V.bl (lowB c || digB c)]))) D = some (.lst ((((TL.tl z).take (i + 1)).map fun c => lowB c || digB c).map V.bl)) := by
                refine ⟨_, hGD, ?_, fun b o e => ?_, ?_⟩
                · rw [List.length_map, List.length_map, List.length_take, PySem.sizeLine_eq]
                  omega
                · rw [upd_ne (ne_of_none e hD)]
                  exact sm b o e
                · rw [upd_same, List.take_add_one, hc']
                  simp
              refine ⟨rfl, _, rfl, c, _, rfl, rfl, _, rfl, ?_⟩
              rw [low_mem]
              cases h4 : lowB c with
              | true =>
                refine iteT ?_
                rw [h4, Bool.true_or] at fin
                exact fin
              | false =>
                refine iteF ⟨_, rfl, c, _, rfl, rfl, ?_⟩
                rw [dig_mem']
                rw [h4, Bool.false_or] at fin
                exact fin
            · rintro G ⟨sm, hGD⟩
              have ez : (TL.tl z).take z.cps.size = TL.tl z := List.take_of_length_le (by rw [← hzl]; exact Nat.le_refl _)
              rw [ez] at hGD
              refine ⟨D, _, rfl, SqL.of hGD, ?_⟩
              have q' := q G sm
              unfold nameB at q'
              rw [hh, Option.any_some, h3, Bool.true_and, decide_eq_true (show 1 ≤ (TL.tl z).length ∧ (TL.tl z).length ≤ 8 from ⟨by omega, by omega⟩), Bool.true_and] at q'
              rw [List.all_map]
              exact q'
        · refine if_true_of (by rw [decide_eq_false h2]; rfl) ?_
          exact bad (by omega)
      · refine ⟨_, rfl, ?_⟩
        exact bad (by have h1' : ¬ (1 : Int) ≤ ((z.length : Nat) : Int) := fun e => h1 (decide_eq_true e); omega)

end
end T04
set_option Elab.async false
set_option linter.all false
set_option maxRecDepth 100000
set_option maxHeartbeats 4000000
/-! calls of defs whose promises know the guards: by keywords, by methods, a new instance; parts that are never reached -/
namespace Tp
open PySem PySem.Spec PyProof.Rows L2
section
variable {X : Cx} {CX : CXT} {k n : Nat} {f C : Addr} {fd : FuncData} {ps ks : List Str} {sp : Sp} {E : XK} {x m : Str} {p pos apos : Pos} {e o : Expr} {es : List Expr} {kws : List Keyword} {te ta : TE} {t tk : TA}
variable {dvs : List V} {ds : List Value} {g : List Value → List Value → List Value} {gV : List V → List V → List V}
theorem run_g {pins : List (Addr × Obj)} {σ : L2.St} {H : Hp} {s : Shared} {Q : VK} {us : List Value} {vs : List V} (F : FnG X.prog X.w X.K X.mg X.base CX k f fd ps sp) (hr : Room k X.A) (hG : X.A.guards = some []) (hb : Binds X.K fd ps ds) (hd : Vals dvs ds) (hx : Passes CX X E)
    (I : Inv X pins σ H s) (r : Vals vs us) (h : sp (vs ++ dvs) H Q E) : wpAny (model X.prog X.w) X.A (call (.ref f) us) (EP X pins σ Q) X.xe s := by
  have r2 : Vals (vs ++ dvs) (us ++ ds) := r.append hd
  have hl : (us ++ ds).length = ps.length := by rw [← r2.length]; exact F.len _ _ _ _ h
  refine wpAny_call (codeAny_mono (F.run X.A X.stack s H ⟨us, []⟩ (us ++ ds) (vs ++ dvs) Q E hr hG I.env0 (hb s us I.kIn hl) r2 h) fun r s' hq => ?_)
  cases r with
  | error e => exact hx pins σ H s e s' I hq
  | ok fl =>
    cases fl with
    | ret u => exact I.after hq
    | next => exact False.elim hq
    | brk => exact False.elim hq
    | cont => exact False.elim hq
theorem run_gN {pins : List (Addr × Obj)} {σ : L2.St} {H : Hp} {s : Shared} {Q : VK} {us ws : List Value} {vs zs : List V} (F : FnG X.prog X.w X.K X.mg X.base CX k f fd ps sp) (hr : Room k X.A) (hG : X.A.guards = some []) (hb : KBn X.K fd ps n ks g gV) (hx : Passes CX X E)
    (I : Inv X pins σ H s) (r : Vals vs us) (rz : Vals zs ws) (l1 : vs.length = n) (l2 : zs.length = ks.length) (h : sp (gV vs zs) H Q E) : wpAny (model X.prog X.w) X.A (call (.ref f) us (ks.zip ws)) (EP X pins σ Q) X.xe s := by
  have r2 := hb.rel r rz
  refine wpAny_call (codeAny_mono (F.run X.A X.stack s H ⟨us, ks.zip ws⟩ (g us ws) (gV vs zs) Q E hr hG I.env0 (hb.to s us ws I.kIn (r.length.symm.trans l1) (rz.length.symm.trans l2)) r2 h) fun r s' hq => ?_)
  cases r with
  | error e => exact hx pins σ H s e s' I hq
  | ok fl =>
    cases fl with
    | ret u => exact I.after hq
    | next => exact False.elim hq
    | brk => exact False.elim hq
    | cont => exact False.elim hq
theorem run_gmake {pins : List (Addr × Obj)} {σ : L2.St} {H : Hp} {s : Shared} {Q : VK} {us : List Value} {vs : List V} (M : Mk X.K C f) (F : FnG X.prog X.w X.K X.mg X.base CX k f fd ps sp) (hr : Room (k + 1) X.A) (hG : X.A.guards = some []) (hb : Binds X.K fd ps ds) (hd : Vals dvs ds)
    (hx : Passes CX X E) (I : Inv X pins σ H s) (r : Vals vs us)
    (h : ∀ x dx, H x = none → H dx = none → dx ≠ x → sp (.ref x :: (vs ++ dvs)) (upd (upd H dx (.own x)) x (.ins C dx [])) (fun v H2 => v = .non ∧ Q (.ref x) H2) E) :
    wpAny (model X.prog X.w) X.A (call (.ref C) us) (EP X pins σ Q) X.xe s := by
  have hq := h (s.heap.objs.size + 1) s.heap.objs.size (I.hok.fresh (Nat.le_succ _)) (I.hok.fresh (Nat.le_refl _)) (Nat.ne_of_lt (Nat.lt_succ_self _))
  have I2 := Inv.made (C := C) I
  have r2 : Vals (V.ref (s.heap.objs.size + 1) :: (vs ++ dvs)) (Value.ref (s.heap.objs.size + 1) :: (us ++ ds)) := .cons rfl (r.append hd)
  have hl : (Value.ref (s.heap.objs.size + 1) :: us ++ ds).length = ps.length := by
    have e := r2.length
    rw [F.len _ _ _ _ hq] at e
    exact e.symm
  refine wpAny_call (make_map (f := f) I.kIn M.makes M.init (beq_iff_eq.mp M.fn) (codeAny_mono (F.run _ X.stack _ _ ⟨Value.ref (s.heap.objs.size + 1) :: us, []⟩ (Value.ref (s.heap.objs.size + 1) :: (us ++ ds)) _ _ E (hr.make C us []) hG
    (I2.env0.make C us []) (hb _ (Value.ref (s.heap.objs.size + 1) :: us) I2.kIn hl) r2 hq) fun r s' hq' => ?_))
  cases r with
  | error e => exact hx pins σ _ _ e s' I2 hq'
  | ok fl =>
    cases fl with
    | ret u =>
      obtain ⟨v, H', I3, rv, ev, q3⟩ := I2.after hq'
      subst ev
      exact ⟨rv, ⟨V.ref (s.heap.objs.size + 1), H', I3, rfl, q3⟩⟩
    | next => exact False.elim hq'
    | brk => exact False.elim hq'
    | cont => exact False.elim hq'
theorem pe_gd (F : FnG X.prog X.w X.K X.mg X.base CX k f fd ps sp) (hr : Room k X.A) (hG : X.A.guards = some []) (hg : Gl X x) (hm : X.mg x = some (.ref f)) (hk : PySem.W.keepIn X.K (.ref f) = true) (hb : Binds X.K fd ps ds) (hd : Vals dvs ds) (hx : Passes CX X E)
    (ha : PA X (e :: es) t) (hdb : (x == ("__debug__" : Str)) = false := by decide) (he : starEach (e :: es) X.env = (false, eval e X.env) :: starEach es X.env := by rfl) (hpl : (backTo pos (starEach es X.env)).any (·.1) = false := by rfl) :
    PE X (.Call (.Name x p) (e :: es) [] pos) (tCall sp dvs E t) := by
  refine ⟨fun pins s σ H Q I h => ?_⟩
  refine wpAny_Call_Name_kw (ld_glob I hg hm ?_ hdb)
  refine PySem.W.callWith_K (h₀ := X.base) I.ok.mod.kin hk (thn (ha.run pos pins s σ H _ I h) fun us s1 ⟨vs, H1, I1, r, q⟩ => ⟨I1.kIn, ?_⟩) he hpl
  exact run_g F hr hG hb hd hx I1 r q
theorem pe_gmake (M : Mk X.K C f) (F : FnG X.prog X.w X.K X.mg X.base CX k f fd ps sp) (hr : Room (k + 1) X.A) (hG : X.A.guards = some []) (hg : Gl X x) (hm : X.mg x = some (.ref C)) (hb : Binds X.K fd ps ds) (hd : Vals dvs ds) (hx : Passes CX X E)
    (ha : PA X (e :: es) t) (hdb : (x == ("__debug__" : Str)) = false := by decide) (he : starEach (e :: es) X.env = (false, eval e X.env) :: starEach es X.env := by rfl) (hpl : (backTo pos (starEach es X.env)).any (·.1) = false := by rfl) :
    PE X (.Call (.Name x p) (e :: es) [] pos) (tMake C sp dvs E t) := by
  refine ⟨fun pins s σ H Q I h => ?_⟩
  refine wpAny_Call_Name_kw (ld_glob I hg hm ?_ hdb)
  refine PySem.W.callWith_K (h₀ := X.base) I.ok.mod.kin M.kp (thn (ha.run pos pins s σ H _ I h) fun us s1 ⟨vs, H1, I1, r, q⟩ => ⟨I1.kIn, ?_⟩) he hpl
  exact run_gmake M F hr hG hb hd hx I1 r q
theorem pe_gmake0 (M : Mk X.K C f) (F : FnG X.prog X.w X.K X.mg X.base CX k f fd ps sp) (hr : Room (k + 1) X.A) (hG : X.A.guards = some []) (hg : Gl X x) (hm : X.mg x = some (.ref C)) (hb : Binds X.K fd ps ds) (hd : Vals dvs ds) (hx : Passes CX X E)
    (hdb : (x == ("__debug__" : Str)) = false := by decide) : PE X (.Call (.Name x p) [] [] pos) (tMake C sp dvs E tNil) := by
  refine ⟨fun pins s σ H Q I h => ?_⟩
  refine wpAny_Call_Name_kw (ld_glob I hg hm ?_ hdb)
  exact PySem.W.callWith_K0 I.kIn M.kp (run_gmake (us := []) M F hr hG hb hd hx I .nil h)
theorem pe_gmeth {pl : Sem Bool} (he : PE X o ta) (c : Cls X.K C) (hm : Meth X.K C m f) (F : FnG X.prog X.w X.K X.mg X.base CX k f fd ps sp) (hr : Room k X.A) (hG : X.A.guards = some []) (hb : Binds X.K fd ps ds) (hd : Vals dvs ds) (hx : Passes CX X E) (ha : PA X (e :: es) t)
    (hst : starEach (e :: es) X.env = (false, eval e X.env) :: starEach es X.env := by rfl) (hpl : (backTo pos (starEach es X.env)).any (·.1) = false := by rfl)
    (ht : eval (.Call (.Attribute o m apos) (e :: es) [] pos) X.env = (do
      let ov ← eval o X.env
      standAt apos.atName
      let (f, first) ← holding [ov] (getMethod ov m pl)
      callWith pos f first (backTo pos (starEach (e :: es) X.env)) (backToKw pos (keywordEach [] X.env))) := by rfl) :
    PE X (.Call (.Attribute o m apos) (e :: es) [] pos) (tMeth C m sp dvs E ta t) := by
  refine ⟨fun pins s σ H Q I h => ?_⟩
  refine PySem.W.methodCall_KW (pl := pl) (thn (he.run pins s σ H _ I h) fun u s1 ⟨x, H1, I1, rx, a, dx, fs, ex, ea, l, q⟩ => ?_) ht
  subst ex
  obtain rfl : u = Value.ref a := rx
  refine getmeth_ok I1 ea c hm l ?_
  refine PySem.W.callWith_K (first := [.ref a]) (h₀ := X.base) I.ok.mod.kin hm.kp (thn (ha.run pos pins s1 σ H1 _ I1 q) fun us s2 ⟨vs, H2, I2, r, q2⟩ => ⟨I2.kIn, ?_⟩) hst hpl
  exact run_g (us := .ref a :: us) (vs := .ref a :: vs) F hr hG hb hd hx I2 (.cons rfl r) q2
theorem pe_gmeth0 {pl : Sem Bool} (he : PE X o ta) (c : Cls X.K C) (hm : Meth X.K C m f) (F : FnG X.prog X.w X.K X.mg X.base CX k f fd ps sp) (hr : Room k X.A) (hG : X.A.guards = some []) (hb : Binds X.K fd ps ds) (hd : Vals dvs ds) (hx : Passes CX X E)
    (ht : eval (.Call (.Attribute o m apos) [] [] pos) X.env = (do
      let ov ← eval o X.env
      standAt apos.atName
      let (f, first) ← holding [ov] (getMethod ov m pl)
      callWith pos f first (backTo pos (starEach [] X.env)) (backToKw pos (keywordEach [] X.env))) := by rfl) :
    PE X (.Call (.Attribute o m apos) [] [] pos) (tMeth C m sp dvs E ta tNil) := by
  refine ⟨fun pins s σ H Q I h => ?_⟩
  refine PySem.W.methodCall_KW (pl := pl) (thn (he.run pins s σ H _ I h) fun u s1 ⟨x, H1, I1, rx, a, dx, fs, ex, ea, l, q⟩ => ?_) ht
  subst ex
  obtain rfl : u = Value.ref a := rx
  refine getmeth_ok I1 ea c hm l ?_
  exact PySem.W.callWith_K0 (first := [.ref a]) I1.kIn hm.kp (run_g (us := [.ref a]) (vs := [.ref a]) F hr hG hb hd hx I1 (.cons rfl .nil) q)
theorem pe_gN (F : FnG X.prog X.w X.K X.mg X.base CX k f fd ps sp) (hr : Room k X.A) (hG : X.A.guards = some []) (hg : Gl X x) (hm : X.mg x = some (.ref f)) (hk : PySem.W.keepIn X.K (.ref f) = true) (hb : KBn X.K fd ps n ks g gV) (hx : Passes CX X E)
    (ha : PA X (e :: es) t) (hkw : PK X kws tk) (hall : (backToKw pos (keywordEach kws X.env)).all (·.1.isSome) = true := by rfl) (hks : (backToKw pos (keywordEach kws X.env)).filterMap (·.1) = ks := by rfl)
    (hdb : (x == ("__debug__" : Str)) = false := by decide) (he : starEach (e :: es) X.env = (false, eval e X.env) :: starEach es X.env := by rfl)
    (hpl : ((backTo pos (starEach (e :: es) X.env)).any (·.1) || (backToKw pos (keywordEach kws X.env)).any (·.1.isNone)) = false := by rfl) :
    PE X (.Call (.Name x p) (e :: es) kws pos) (tCallN n ks.length sp gV E t tk) := by
  refine ⟨fun pins s σ H Q I h => ?_⟩
  refine wpAny_Call_Name_kw (ld_glob I hg hm ?_ hdb)
  refine PySem.W.callWith_KW (h₀ := X.base) I.ok.mod.kin hk hall (thn (ha.run pos pins s σ H _ I h) fun us s1 ⟨vs, H1, I1, r, q⟩ => ?_) hpl he
  refine thn (hkw.run pos pins s1 σ H1 _ I1 q) fun ws s2 ⟨zs, H2, I2, rz, l1, l2, q2⟩ => ⟨I2.kIn, ?_⟩
  rw [hks]
  exact run_gN F hr hG hb hx I2 r rz l1 l2 q2
theorem pe_gN0 (F : FnG X.prog X.w X.K X.mg X.base CX k f fd ps sp) (hr : Room k X.A) (hG : X.A.guards = some []) (hg : Gl X x) (hm : X.mg x = some (.ref f)) (hk : PySem.W.keepIn X.K (.ref f) = true) (hb : KBn X.K fd ps 0 ks g gV) (hx : Passes CX X E) (hkw : PK X kws tk)
    (hall : (backToKw pos (keywordEach kws X.env)).all (·.1.isSome) = true := by rfl) (hks : (backToKw pos (keywordEach kws X.env)).filterMap (·.1) = ks := by rfl) (hdb : (x == ("__debug__" : Str)) = false := by decide)
    (hpl : ((backTo pos (starEach [] X.env)).any (·.1) || (backToKw pos (keywordEach kws X.env)).any (·.1.isNone)) = false := by rfl) :
    PE X (.Call (.Name x p) [] kws pos) (tCallN 0 ks.length sp gV E tNil tk) := by
  refine ⟨fun pins s σ H Q I h => wpAny_Call_Name_kw (ld_glob I hg hm ?_ hdb)⟩
  refine PySem.W.callWith_KW0 (h₀ := X.base) I.ok.mod.kin hk hall (thn (hkw.run pos pins s σ H _ I h) fun ws s2 hh => ?_) hpl
  obtain ⟨zs, H2, I2, rz, l1, l2, q2⟩ := hh
  refine ⟨I2.kIn, ?_⟩
  rw [hks]
  exact run_gN F hr hG hb hx I2 .nil rz l1 l2 q2
end
/-- what a caller knows of a def that is called by keywords too -/
structure Cn (P : Program) (w : World) (K : PySem.W.Frag) (mg : Str → Option Value) (base : Heap) (k : Nat) (x : Str) (n : Nat) (ks : List Str) (gV : List V → List V → List V) (sp : Sp) : Prop where
  ex : ∃ (f : Addr) (fd : FuncData) (ps : List Str) (g : List Value → List Value → List Value), FnG P w K mg base CX0 k f fd ps sp ∧ mg x = some (.ref f) ∧ PySem.W.keepIn K (.ref f) = true ∧ KBn K fd ps n ks g gV
section
variable {X : Cx} {j k n : Nat} {ks : List Str} {sp : Sp} {x : Str} {p pos : Pos} {e : Expr} {es : List Expr} {kws : List Keyword} {t tk : TA} {gV : List V → List V → List V}
theorem pe_cn (c : Cn X.prog X.w X.K X.mg X.base j x n ks gV sp) (hr : Room k X.A) (hG : X.A.guards = some []) (hk : j ≤ k) (hg : Gl X x)
    (ha : PA X (e :: es) t) (hkw : PK X kws tk) (hall : (backToKw pos (keywordEach kws X.env)).all (·.1.isSome) = true := by rfl) (hks : (backToKw pos (keywordEach kws X.env)).filterMap (·.1) = ks := by rfl)
    (hdb : (x == ("__debug__" : Str)) = false := by decide) (he : starEach (e :: es) X.env = (false, eval e X.env) :: starEach es X.env := by rfl)
    (hpl : ((backTo pos (starEach (e :: es) X.env)).any (·.1) || (backToKw pos (keywordEach kws X.env)).any (·.1.isNone)) = false := by rfl) :
    PE X (.Call (.Name x p) (e :: es) kws pos) (tCallN n ks.length sp gV E0 t tk) := by
  obtain ⟨f, fd, ps, g, F, hm, hkp, hb⟩ := c.ex
  exact pe_gN F (hr.mono hk) hG hg hm hkp hb pass0 ha hkw hall hks hdb he hpl
theorem pe_cn0 (c : Cn X.prog X.w X.K X.mg X.base j x 0 ks gV sp) (hr : Room k X.A) (hG : X.A.guards = some []) (hk : j ≤ k) (hg : Gl X x) (hkw : PK X kws tk)
    (hall : (backToKw pos (keywordEach kws X.env)).all (·.1.isSome) = true := by rfl) (hks : (backToKw pos (keywordEach kws X.env)).filterMap (·.1) = ks := by rfl) (hdb : (x == ("__debug__" : Str)) = false := by decide)
    (hpl : ((backTo pos (starEach [] X.env)).any (·.1) || (backToKw pos (keywordEach kws X.env)).any (·.1.isNone)) = false := by rfl) :
    PE X (.Call (.Name x p) [] kws pos) (tCallN 0 ks.length sp gV E0 tNil tk) := by
  obtain ⟨f, fd, ps, g, F, hm, hkp, hb⟩ := c.ex
  exact pe_gN0 F (hr.mono hk) hG hg hm hkp hb pass0 hkw hall hks hdb hpl
end
/-- what a caller knows of a class of the text: how an instance is made -/
structure Cm (P : Program) (w : World) (K : PySem.W.Frag) (mg : Str → Option Value) (base : Heap) (k : Nat) (x : Str) (C : Addr) (dvs : List V) (sp : Sp) : Prop where
  ex : ∃ (f : Addr) (fd : FuncData) (ps : List Str) (ds : List Value), Mk K C f ∧ FnG P w K mg base CX0 k f fd ps sp ∧ mg x = some (.ref C) ∧ Binds K fd ps ds ∧ Vals dvs ds
section
variable {X : Cx} {j k n : Nat} {sp : Sp} {x : Str} {C : Addr} {dvs : List V} {p pos : Pos} {e : Expr} {es : List Expr} {t : TA}
theorem pe_cm (c : Cm X.prog X.w X.K X.mg X.base j x C dvs sp) (hr : Room k X.A) (hG : X.A.guards = some []) (hk : j + 1 ≤ k) (hg : Gl X x)
    (ha : PA X (e :: es) t) (hdb : (x == ("__debug__" : Str)) = false := by decide) (he : starEach (e :: es) X.env = (false, eval e X.env) :: starEach es X.env := by rfl) (hpl : (backTo pos (starEach es X.env)).any (·.1) = false := by rfl) :
    PE X (.Call (.Name x p) (e :: es) [] pos) (tMake C sp dvs E0 t) := by
  obtain ⟨f, fd, ps, ds, M, F, hm, hb, hd⟩ := c.ex
  exact pe_gmake M F (hr.mono hk) hG hg hm hb hd pass0 ha hdb he hpl
theorem pe_cm0 (c : Cm X.prog X.w X.K X.mg X.base j x C dvs sp) (hr : Room k X.A) (hG : X.A.guards = some []) (hk : j + 1 ≤ k) (hg : Gl X x)
    (hdb : (x == ("__debug__" : Str)) = false := by decide) : PE X (.Call (.Name x p) [] [] pos) (tMake C sp dvs E0 tNil) := by
  obtain ⟨f, fd, ps, ds, M, F, hm, hb, hd⟩ := c.ex
  exact pe_gmake0 M F (hr.mono hk) hG hg hm hb hd pass0 hdb
end
/-- what a caller knows of a method -/
structure Ct (P : Program) (w : World) (K : PySem.W.Frag) (mg : Str → Option Value) (base : Heap) (k : Nat) (C : Addr) (m : Str) (dvs : List V) (sp : Sp) : Prop where
  ex : ∃ (f : Addr) (fd : FuncData) (ps : List Str) (ds : List Value), Cls K C ∧ Meth K C m f ∧ FnG P w K mg base CX0 k f fd ps sp ∧ Binds K fd ps ds ∧ Vals dvs ds
section
variable {X : Cx} {j k n : Nat} {sp : Sp} {m : Str} {C : Addr} {dvs : List V} {p pos apos : Pos} {e o : Expr} {es : List Expr} {t : TA} {ta : TE}
theorem pe_ct {pl : Sem Bool} (he : PE X o ta) (c : Ct X.prog X.w X.K X.mg X.base j C m dvs sp) (hr : Room k X.A) (hG : X.A.guards = some []) (hk : j ≤ k) (ha : PA X (e :: es) t)
    (hst : starEach (e :: es) X.env = (false, eval e X.env) :: starEach es X.env := by rfl) (hpl : (backTo pos (starEach es X.env)).any (·.1) = false := by rfl)
    (ht : eval (.Call (.Attribute o m apos) (e :: es) [] pos) X.env = (do
      let ov ← eval o X.env
      standAt apos.atName
      let (f, first) ← holding [ov] (getMethod ov m pl)
      callWith pos f first (backTo pos (starEach (e :: es) X.env)) (backToKw pos (keywordEach [] X.env))) := by rfl) :
    PE X (.Call (.Attribute o m apos) (e :: es) [] pos) (tMeth C m sp dvs E0 ta t) := by
  obtain ⟨f, fd, ps, ds, cl, hm, F, hb, hd⟩ := c.ex
  exact pe_gmeth (pl := pl) he cl hm F (hr.mono hk) hG hb hd pass0 ha hst hpl ht
theorem pe_ct0 {pl : Sem Bool} (he : PE X o ta) (c : Ct X.prog X.w X.K X.mg X.base j C m dvs sp) (hr : Room k X.A) (hG : X.A.guards = some []) (hk : j ≤ k)
    (ht : eval (.Call (.Attribute o m apos) [] [] pos) X.env = (do
      let ov ← eval o X.env
      standAt apos.atName
      let (f, first) ← holding [ov] (getMethod ov m pl)
      callWith pos f first (backTo pos (starEach [] X.env)) (backToKw pos (keywordEach [] X.env))) := by rfl) :
    PE X (.Call (.Attribute o m apos) [] [] pos) (tMeth C m sp dvs E0 ta tNil) := by
  obtain ⟨f, fd, ps, ds, cl, hm, F, hb, hd⟩ := c.ex
  exact pe_gmeth0 (pl := pl) he cl hm F (hr.mono hk) hG hb hd pass0 ht
end
/-! ### name = {k: v for ..} on one line, the name a local -/
section
variable {X : Cx}
theorem ps_setDc {i : Nat} {y : Str} {py : Pos} {kx vx tg iter : Expr} {ifs : List Expr} {scope : Scope} {own : List (Str × Nat)} {pos spos : Pos} {wi : TI} {g : TG} {tt : TT} {tk tv : TE} (hc : X.calm = true) (hN : X.N.Nodup) (hy : X.N[i]? = some y) (hyl : X.env.scope.names.lookup y = some .local)
    (hsw : swapsWith (.DictComp kx vx [⟨tg, iter, ifs, 0⟩] scope pos) (some (.Name y py)) spos.line X.env = pure true) (hi : PI X tg iter wi) (ok : BlkOk X.N X.env.scope scope own)
    (hg : ∀ (s : Shared) (H : Hp) (C : Addr) (cl : List (Str × Addr)) (fp : List Addr), PG (X.blk s H scope (compEnvC scope cl C X.env) fp) tg g) (ht : ∀ (s : Shared) (H : Hp) (C : Addr) (cl : List (Str × Addr)) (fp : List Addr), PTs (X.blk s H scope (compEnvC scope cl C X.env) fp) ifs tt)
    (hk : ∀ (s : Shared) (H : Hp) (C : Addr) (cl : List (Str × Addr)) (fp : List Addr), PE (X.blk s H scope (compEnvC scope cl C X.env) fp) kx tk)
    (he : ∀ (s : Shared) (H : Hp) (C : Addr) (cl : List (Str × Addr)) (fp : List Addr), PE (X.blk s H scope (compEnvC scope cl C X.env) fp) vx tv) (hs : ∀ x, foldedSetIterable iter X.env x = pure x := by intro _; rfl) :
    PS X (.Assign [.Name y py] (.DictComp kx vx [⟨tg, iter, ifs, 0⟩] scope pos) spos) (tAsg (tDc wi g tt tk tv (own.map (·.2))) (gName i)) := by
  refine ⟨fun pins s σ H D I h => ?_⟩
  rw [exec_Assign_Name_used _ _ _ _ hsw]
  refine wpAny_bind (wpAny_standAt (wpAny_bind ?_))
  show wpAny _ X.A (do let _ ← comprehension (.DictComp kx vx [⟨tg, iter, ifs, 0⟩] scope pos) scope X.env (firstIterPos [⟨tg, iter, ifs, 0⟩] pos) newDict false (eval iter X.env) (some (assign (.Name y py) X.env))) _ _ s
  have h : tDc wi g tt tk tv (own.map (·.2)) σ H (fun x H1 => gName i x σ H1 D.nx) := h
  refine wpAny_bind (thn (dc_core (Qf := fun _ s' => SP X pins D .next s') hc hN I hi ok hg ht hk he hs h fun L C s' m H' I' q hn f => ?_) fun _ s' hq => wpAny_pure (wpAny_pure hq))
  show wpAny _ _ (assign (.Name y py) X.env (.ref L)) _ _ _
  refine wpAny_assign_Name (store_ok2 (v := V.ref L) I' hN hy (.inl hyl) rfl (fun s2 I2 ⟨a, sb, ha⟩ => ?_) (.inr hyl))
  obtain ⟨f0, f1, f2, f3, f4, f5⟩ := f
  have haC : C ≠ a := by
    rcases ha with z | z
    · rw [z]; exact f1
    · exact fun e => f4 y a z e.symm
  refine ⟨m, hn.sameBut sb haC, fun h3 sb3 => ?_⟩
  exact ⟨_, H', I2.turned (t' := s2.toks) (fun b o hb e => (sb3.2 b hb).trans e) f0 f1 f3 f4 f5, q⟩
theorem sw_trueD {kx vx : Expr} {gs : List Comprehension} {scope : Scope} {pos py : Pos} {y : Str} {l : Nat} {env : Env} (hk : env.scope.kind = .function) (hy : env.scope.names.lookup y = some .local) (hl : (py.line == pos.line) = true)
    (ha : (scope.names.any fun (n, k) => n == y && (k == .local || k == .cell)) = false) : swapsWith (.DictComp kx vx gs scope pos) (some (.Name y py)) l env = pure true := by
  have ky : env.kindOf y = some .local := hy
  have hb : env.blockKind = .function := by unfold Env.blockKind; rw [hk]; rfl
  unfold swapsWith
  simp only [hb, ky, ha, Expr.pos, hl]
  rfl
end
/-! ### never reached -/
def tNev : TE := fun _ _ _ => False
theorem pe_never {X : Cx} {e : Expr} : PE X e tNev := ⟨fun _ _ _ _ _ _ h => h.elim⟩
def gNev : TG := fun _ _ _ _ => False
theorem pg_never {X : Cx} {e : Expr} : PG X e gNev := ⟨fun _ _ _ _ _ _ _ _ _ h => h.elim⟩
def tNevT : TT := fun _ _ _ => False
theorem pts_never {X : Cx} {es : List Expr} : PTs X es tNevT := ⟨fun _ _ _ _ _ _ h => h.elim⟩
/-- nothing is walked: an empty list or tuple -/
theorem dc_it {J : It} {n : Nat} {G : Hp → Prop} {Y : Nat → Hp → V → Hp → Prop} (w : Walk J n G Y) {g : TG} {tt : TT} {tk tv : TE} {vs : List Nat} {σ : L2.St} {H1 : Hp} {D : Addr} {Qd : Hp → Prop} (Pv : Nat → Hp → Prop) (h0 : Pv 0 (upd H1 D (.dK []))) (hG : ∀ i H, i ≤ n → Pv i H → G H)
    (hs : ∀ i x H H', i < n → Pv i H → Y i H x H' → g x (wipe σ vs) H' fun σ2 H2 => wipe σ2 vs = wipe σ vs ∧ tt σ2 H2 fun b H3 =>
      if b = true then tk σ2 H3 fun y H4 => tv σ2 H4 fun z H5 => ∃ kvs k, y = kV k ∧ H5 D = some (.dK kvs) ∧ kvs.length < sizeLine ∧ Pv (i + 1) (upd H5 D (.dK (putK kvs k z))) else Pv (i + 1) H3) (hd : ∀ H, Pv n H → Qd H) :
    ∃ W : Nat → Nat → Hp → Prop, (∃ m, W 0 m (upd H1 D (.dK []))) ∧ ∀ i m H, W i m H →
      (J.stop i H ∧ Qd H) ∨ (J.go i H ∧ ∃ Nx : Hp → Prop, (∀ H', Nx H' → ∃ m', m' < m ∧ W (i + 1) m' H') ∧ ∀ x H', J.yld i H x H' → g x (wipe σ vs) H' fun σ2 H2 => wipe σ2 vs = wipe σ vs ∧ tt σ2 H2 fun b H3 =>
        if b = true then tk σ2 H3 fun y H4 => tv σ2 H4 fun z H5 => ∃ kvs k, y = kV k ∧ H5 D = some (.dK kvs) ∧ kvs.length < sizeLine ∧ Nx (upd H5 D (.dK (putK kvs k z))) else Nx H3) := by
  refine ⟨fun i m H => m = n - i ∧ i ≤ n ∧ Pv i H, ⟨n, by simp, Nat.zero_le _, h0⟩, ?_⟩
  rintro i m H ⟨rfl, hi, p⟩
  have q := hG i H hi p
  by_cases hlt : i < n
  · refine .inr ⟨w.goes i H hlt q, Pv (i + 1), fun H' p' => ⟨n - (i + 1), by omega, rfl, hlt, p'⟩, fun x H' y => hs i x H H' hlt p (w.yields i H x H' hlt q y)⟩
  · have e : i = n := by omega
    subst e
    exact .inl ⟨w.stops H q, hd H p⟩
end Tp
namespace Tp
open PySem PySem.Spec PyProof.Rows L2
/-- a while that does not begin -/
theorem while_no {c : TT} {tb : TS} {D : Ends} {σ : L2.St} {H : Hp} (hc : ∀ Q : Bool → Hp → Prop, Q false H → c σ H Q) (hd : D.nx σ H) : tWhile c tb D σ H :=
  ⟨fun m σ' H' => m = 0 ∧ σ' = σ ∧ H' = H, ⟨0, rfl, rfl, rfl⟩, fun m σ' H' e => by
    obtain ⟨rfl, rfl, rfl⟩ := e
    exact hc _ hd⟩
end Tp
namespace Tp
open PySem PySem.Spec PyProof.Rows L2
/-- a def with defaults, its promise where the guards are known -/
theorem FunDG.ok {P : Program} {w : World} {K : PySem.W.Frag} {mg : Str → Option Value} {base : Heap} {x qual : Str} {params : Arguments} {body : List Stmt} {scope : Scope} {dvs : List V} {kws : List (Str × V)} {f : Addr} {fd : FuncData} {N ps : List Str} {k : Nat} {sp : Sp}
    (F : FunD K x qual params body scope dvs kws f fd) (S : FnScope N ps scope) (len : ∀ vs H Q E, sp vs H Q E → vs.length = ps.length)
    (hb : ∀ (cdv : Value) (B : Around) (out : List Env) (s : Shared) (H : Hp) (vs : List V) (Q : VK) (E : XK),
      Room k (B.deeper (envOfC qual scope s.heap.objs.size f cdv)) → (B.deeper (envOfC qual scope s.heap.objs.size f cdv)).guards = some [] → sp vs H Q E →
      ∃ t, PSs (cxOf CX0 P w K mg base N qual scope f cdv B out s H E).nox body t ∧ t { nx := fun _ H' => Q .non H', rt := Q } (start N vs) H) :
    FnG P w K mg base CX0 (k + 1) f fd ps sp := by
  obtain ⟨oc, od, dV, kV, doc, pm, an, cdv, ct, osl, rfl, lk, hcd, _, _⟩ := F.ex
  refine fnG_of lk hcd S len fun B out s H vs Q E hr hg hsp => ?_
  obtain ⟨t, h, q⟩ := hb cdv B out s H vs Q E hr hg hsp
  exact ⟨t, h.nox, q⟩
end Tp
namespace Tp
open PySem PySem.Spec PyProof.Rows L2
/-- a + b, the sum handed on as a letter -/
def rAddL : R2 := fun x y H Q => ∃ i j : Int, x = .int i ∧ y = .int j ∧ ∀ z : Int, z = i + j → Q (.int z) H
theorem op_addL {X : Cx} : OpR X (binaryOp .Add) rAddL := by
  intro pins s σ H x y v u Q I rx ry h
  obtain ⟨i, j, e1, e2, q⟩ := h
  exact op_add pins s σ H x y v u Q I rx ry ⟨i, j, e1, e2, q _ rfl⟩
def rSubL : R2 := fun x y H Q => ∃ i j : Int, x = .int i ∧ y = .int j ∧ ∀ z : Int, z = i - j → Q (.int z) H
theorem op_subL {X : Cx} : OpR X (binaryOp .Sub) rSubL := by
  intro pins s σ H x y v u Q I rx ry h
  obtain ⟨i, j, e1, e2, q⟩ := h
  exact op_sub pins s σ H x y v u Q I rx ry ⟨i, j, e1, e2, q _ rfl⟩
end Tp
set_option Elab.async false
set_option linter.all false
set_option maxRecDepth 100000
set_option maxHeartbeats 4000000
/-! len(o), o[k], x in o, o == x, o != x by an own class's own methods, whose promises know the guards -/
namespace Tp
open PySem PySem.Spec PyProof.Rows L2
section
variable {X : Cx} {pins : List (Addr × Obj)} {σ : L2.St} {H : Hp} {s : Shared} {j k : Nat} {f C a dx : Addr} {fd : FuncData} {ps : List Str} {ds : List Value} {dvs : List V} {sp : Sp} {fs : List (Str × V)}
theorem run_at {A : Around} {Q : VK} {us : List Value} {vs : List V} (F : FnG X.prog X.w X.K X.mg X.base CX0 k f fd ps sp) (hr : Room k A) (hG : A.guards = some []) (hf : A.frames = X.A.frames) (hb : Binds X.K fd ps ds) (hd : Vals dvs ds)
    (I : Inv X pins σ H s) (r : Vals vs us) (h : sp (vs ++ dvs) H Q E0) : wpAny (model X.prog X.w) A (call (.ref f) us) (EP X pins σ Q) X.xe s := by
  have r2 : Vals (vs ++ dvs) (us ++ ds) := r.append hd
  have hl : (us ++ ds).length = ps.length := by rw [← r2.length]; exact F.len _ _ _ _ h
  have e0 : Env0 X.prog X.w X.K X.mg X.base A X.stack s H := by
    have e := I.env0
    exact ⟨by rw [hf]; exact e.frames, e.mod, e.bs, e.bsz, e.funs, e.frf, e.hok, e.bare⟩
  refine wpAny_call (codeAny_mono (F.run A X.stack s H ⟨us, []⟩ (us ++ ds) (vs ++ dvs) Q E0 hr hG e0 (hb s us I.kIn hl) r2 h) fun r s' hq => ?_)
  cases r with
  | error e => exact (show False from hq).elim
  | ok fl =>
    cases fl with
    | ret u => exact I.after hq
    | next => exact False.elim hq
    | brk => exact False.elim hq
    | cont => exact False.elim hq
theorem ins_at (I : Inv X pins σ H s) (e : H a = some (.ins C dx fs)) : ∃ ox od, PySem.W.InstAt s.heap a ox C od := by
  obtain ⟨mA, J, _⟩ := ins_get I.hok e
  obtain ⟨od, J, _⟩ := J.look
  exact ⟨_, _, J⟩
/-- len(o) -/
def rLenO (C : Addr) (sp : Sp) : List V → Hp → VK → Prop := fun xs H Q => ∃ a dx fs, xs = [.ref a] ∧ H a = some (.ins C dx fs) ∧ sp [.ref a] H (fun v H' => ∃ n : Nat, v = .int n ∧ n ≤ sizeLine ∧ Q v H') E0
theorem call_lenO (c : Ct X.prog X.w X.K X.mg X.base j C "__len__" [] sp) (hr : Room (j + 1) X.A) (hG : X.A.guards = some []) : CallR X (.builtin "len") (rLenO C sp) := by
  intro pins s σ H xs us Q I r h
  obtain ⟨a, dx, fs, rfl, ha, q⟩ := h
  obtain ⟨u, rfl, r1⟩ := vals1 r
  cases (show u = Value.ref a from r1)
  obtain ⟨f, fd, ps, ds, cl, hm, F, hb, hd⟩ := c.ex
  cases hd
  obtain ⟨ox, od, J⟩ := ins_at I ha
  obtain ⟨m, hF⟩ := I.fr
  refine PySem.W.len_K hF I.ok.mod.kin J hm.at_ hm.fn (wpAny_mono (run_at (A := X.A.in1) (us := [.ref a]) (vs := [.ref a]) F hr.in1 hG rfl hb .nil I (.cons rfl .nil) q) (fun u s' hv => ?_) fun _ _ x => x)
  obtain ⟨v, H', I', rv, n, rfl, hn, q'⟩ := hv
  obtain ⟨t, rfl⟩ := rv
  refine ⟨⟨by omega, by rw [PySem.sizeLine_eq] at hn; omega⟩, .int n, H', I'.tok _, ⟨_, rfl⟩, q'⟩
/-- x in o -/
def rInO (C : Addr) (sp : Sp) (no : Bool) : R2 := fun x y H Q => ∃ a dx fs, y = .ref a ∧ H a = some (.ins C dx fs) ∧ sp [.ref a, x] H (fun v H' => ∃ b, v = .bl b ∧ Q (.bl (b != no)) H') E0
theorem op_inO (c : Ct X.prog X.w X.K X.mg X.base j C "__contains__" [] sp) (hr : Room j X.A) (hG : X.A.guards = some []) : OpR X (compareOp .In) (rInO C sp false) := by
  intro pins s σ H x y v u Q I rx ry h
  obtain ⟨a, dx, fs, rfl, ha, q⟩ := h
  cases (show u = Value.ref a from ry)
  obtain ⟨f, fd, ps, ds, cl, hm, F, hb, hd⟩ := c.ex
  cases hd
  obtain ⟨ox, od, J⟩ := ins_at I ha
  obtain ⟨m, hF⟩ := I.fr
  refine PySem.W.in_K hF I.ok.mod.kin J hm.at_ hm.fn (wpAny_mono (run_at (A := X.A) (us := [.ref a, v]) (vs := [.ref a, x]) F hr hG rfl hb .nil I (.cons rfl (.cons rx .nil)) q) (fun u s' hv => ?_) fun _ _ x => x)
  obtain ⟨w, H', I', rv, b, rfl, q'⟩ := hv
  cases (show u = Value.bool b from rv)
  rw [Bool.bne_false] at q'
  exact wpAny_truthy_bool ⟨.bl b, H', I', rfl, q'⟩
theorem op_notInO (c : Ct X.prog X.w X.K X.mg X.base j C "__contains__" [] sp) (hr : Room j X.A) (hG : X.A.guards = some []) : OpR X (compareOp .NotIn) (rInO C sp true) := by
  intro pins s σ H x y v u Q I rx ry h
  obtain ⟨a, dx, fs, rfl, ha, q⟩ := h
  cases (show u = Value.ref a from ry)
  obtain ⟨f, fd, ps, ds, cl, hm, F, hb, hd⟩ := c.ex
  cases hd
  obtain ⟨ox, od, J⟩ := ins_at I ha
  obtain ⟨m, hF⟩ := I.fr
  refine PySem.W.notIn_K hF I.ok.mod.kin J hm.at_ hm.fn (wpAny_mono (run_at (A := X.A) (us := [.ref a, v]) (vs := [.ref a, x]) F hr hG rfl hb .nil I (.cons rfl (.cons rx .nil)) q) (fun u s' hv => ?_) fun _ _ x => x)
  obtain ⟨w, H', I', rv, b, rfl, q'⟩ := hv
  cases (show u = Value.bool b from rv)
  rw [Bool.bne_true] at q'
  exact wpAny_truthy_bool ⟨.bl (!b), H', I', rfl, q'⟩
/-- o[k] -/
def tGetO (C : Addr) (sp : Sp) (E : XK) (to ti : TE) : TE := fun σ H Q => to σ H fun y H1 => ti σ H1 fun x H2 => ∃ a dx fs, y = .ref a ∧ H2 a = some (.ins C dx fs) ∧ sp [.ref a, x] H2 Q E
theorem pe_getO {o i : Expr} {pos : Pos} {to ti : TE} (c : Ct X.prog X.w X.K X.mg X.base j C "__getitem__" [] sp) (hfn : ∀ f, PySem.W.isFn X.K (.ref f) = true → PySem.W.fnIn X.K f = true) (hr : Room (j + 1) X.A) (hG : X.A.guards = some []) (ho : PE X o to) (hi : PE X i ti)
    (hsl : ∀ (a : Addr) (v : Value), subscripted i true (.ref a) v = runValue (.builtin "lifetime.subscript" ⟨[.ref a, v], []⟩) := by (intro _ _; with_unfolding_all rfl)) : PE X (.Subscript o i pos) (tGetO C sp E0 to ti) := by
  refine ⟨fun pins s σ H Q I h => ?_⟩
  refine Subscript_ (thn (ho.run pins s σ H _ I h) fun u s1 ⟨y, H1, I1, r1, q1⟩ => thn (hi.run pins s1 σ H1 _ I1 q1) fun v s2 ⟨x, H2, I2, r2, a, dx, fs, ey, ha, q2⟩ => ?_)
  subst ey
  cases (show u = Value.ref a from r1)
  obtain ⟨f, fd, ps, ds, cl, hm, F, hb, hd⟩ := c.ex
  cases hd
  obtain ⟨ox, od, J⟩ := ins_at I2 ha
  obtain ⟨m, hF⟩ := I2.fr
  exact PySem.W.sub_K hF I2.ok.mod.kin J hm.at_ (hfn _ hm.fn) hm.fn (run_at (A := X.A.in1) (us := [.ref a, v]) (vs := [.ref a, x]) F hr.in1 hG rfl hb .nil I2 (.cons rfl (.cons r2 .nil)) q2) (hsl _ _)
/-- o == x -/
def rEqO (K : PySem.W.Frag) (C : Addr) (sp : Sp) (no : Bool) : R2 := fun x y H Q => ∃ a dx fs, x = .ref a ∧ H a = some (.ins C dx fs) ∧ ((∃ b dy gs, y = .ref b ∧ H b = some (.ins C dy gs)) ∨ ∃ t, TyX K H y t ∧ PySem.W.subIn K t (.ref C) = some false) ∧
  sp [.ref a, y] H (fun v H' => ∃ b, v = .bl b ∧ Q (.bl (b != no)) H') E0
theorem ty_own {x : V} {u : Value} (I : Inv X pins σ H s) (rx : RelV x u) (h : (∃ b dy gs, x = .ref b ∧ H b = some (.ins C dy gs)) ∨ ∃ t, TyX X.K H x t ∧ PySem.W.subIn X.K t (.ref C) = some false) : ∃ tb, PySem.W.Looks (model X.prog X.w) s.heap (typeOf u) tb ∧ PySem.W.notFirst X.K C tb = true := by
  rcases h with ⟨b, dy, gs, rfl, hb⟩ | ⟨t, ty, ht⟩
  · cases (show u = Value.ref b from rx)
    obtain ⟨ox, od, J⟩ := ins_at I hb
    exact ⟨_, J.type, by simp [PySem.W.notFirst]⟩
  · obtain ⟨P, Z, hp, _⟩ := kit_of I rx ty
    refine ⟨t, Z.ty _ _ I.kIn hp, ?_⟩
    unfold PySem.W.notFirst
    rw [ht]
    simp
theorem op_eqO (c : Ct X.prog X.w X.K X.mg X.base j C "__eq__" [] sp) (hr : Room j X.A) (hG : X.A.guards = some []) : OpR X (compareOp .Eq) (rEqO X.K C sp false) := by
  intro pins s σ H x y v u Q I rx ry h
  obtain ⟨a, dx, fs, rfl, ha, hy, q⟩ := h
  cases (show v = Value.ref a from rx)
  obtain ⟨f, fd, ps, ds, cl, hm, F, hb, hd⟩ := c.ex
  cases hd
  obtain ⟨ox, od, J⟩ := ins_at I ha
  obtain ⟨m, hF⟩ := I.fr
  obtain ⟨tb, L1, L2⟩ := ty_own I ry hy
  show wpAny (model X.prog X.w) X.A (richCompare .Eq (.ref a) u) (EP X pins σ Q) X.xe s
  refine PySem.W.cmp_K (op := .Eq) hr.units0 hF I.ok.mod.kin J L1 L2 hm.at_ hm.fn (wpAny_mono (run_at (A := X.A) (us := [.ref a, u]) (vs := [.ref a, y]) F hr hG rfl hb .nil I (.cons rfl (.cons ry .nil)) q) (fun r s' hv => ?_) fun _ _ x => x)
  obtain ⟨w, H', I', rv, b, rfl, q'⟩ := hv
  cases (show r = Value.bool b from rv)
  rw [Bool.bne_false] at q'
  exact ⟨.bl b, H', I', rfl, q'⟩
end
section
open PySem.W PySem.Calls
variable {prog : Program} {w : World} {A : Around} {E : Value → Shared → Prop} {s : Shared} {K : Frag} {x C L f : Addr} {h₀ : Heap} {m : Str → Option Value} {ox : Obj} {od : Option Obj} {b tb : Value}
theorem ifBound_B {M : Model} {name : Str} {i : String} {args : List Value} {Q : Option Value → Shared → Prop} (X : K.In s.heap) (I : InstAt s.heap x ox C od) (hs : findIn K (.ref C) name = some (some (.builtin i))) (hbd : bindSpecial (.builtin i) (.ref x) = pure (.builtin i, [.ref x]))
    (h : wpAny M A (call (.builtin i) (.ref x :: args)) (fun v => Q (some v)) E s) : wpAny M A (callSpecialIfBound? (.ref x) name args) Q E s := by
  simp only [callSpecialIfBound?, bindSpecialIfBound?]
  refine wpAny_holding (wpAny_bind (wpAny_bind (wpAny_bind (I.type.here ((looks_findIn X hs).here ?_)))))
  simp only [hbd]
  refine wpAny_bind (wpAny_askSetting (wpAny_ite ?_))
  have fin : wpAny M A (call (.builtin i) ([.ref x] ++ args) >>= fun v => pure (some v)) Q E s := wpAny_bind (wpAny_mono h (fun v s' h' => wpAny_pure h') fun _ _ h' => h')
  split
  · exact wpAny_bind (wpAny_pure (wpAny_pure (by exact fin)))
  · exact wpAny_tryCatch (wpAny_bind (wpAny_pure (wpAny_pure (by exact fin))))
theorem ne_K {Q : Value → Shared → Prop} (hu : A.units + 1 < cLine) (F : Fr h₀ L s.heap m) (X₀ : K.In h₀) (I : InstAt s.heap x ox C od) (hb : Looks (model prog w) s.heap (typeOf b) tb) (hn : notFirst K C tb = true)
    (hne : findIn K (.ref C) "__ne__" = some (some (.builtin "object.__ne__"))) (hob : subIn K (.ref C) (.type "object") = some true) (hs : findIn K (.ref C) "__eq__" = some (some (.ref f))) (hf : isFn K (.ref f) = true)
    (h : wpAny (model prog w) A.in1 (call (.ref f) [.ref x, b]) (fun v s' => ∃ r, v = .bool r ∧ Q (.bool (!r)) s') E s) : wpAny (model prog w) A (richCompare .NotEq (.ref x) b) Q E s := by
  have X := X₀.keeps F.keep
  have one : wpAny (model prog w) A (tryCompare (.ref x) "__ne__" b) (fun r s' => ∃ v, r = some v ∧ Q v s') E s := by
    unfold tryCompare
    refine wpAny_bind (ifBound_B X I hne (PySem.F.cmp_object.ne.bind _) (wpAny_call (codeAny_call_builtin PySem.F.cmp_object.ne.plain PySem.F.cmpEntry_ne (PySem.W.check_slot PySem.F.cmpKind_ne PySem.F.cmpSplit_ne (I.type.andThen (looks_subIn X hob)) (PySem.F.cmpArgs_ne _ _) ?_))))
    unfold Builtin.«object.__ne__»
    repeat (first | with_reducible refine wpAny_cRoomFor hu ?_ | (with_reducible refine ifBound_K X I hs hf ?_; refine wpAny_mono h (fun v s' hv => ?_) (fun _ _ e => e); obtain ⟨r, rfl, q⟩ := hv; refine wpAny_bind (wpAny_truthy_bool ?_)) | wp_step)
    exact ⟨_, rfl, q⟩
  unfold richCompare
  simp only [oneThing_ref]
  refine wpAny_holding (wpAny_bind (wpAny_cRoomFor (by omega) ?_))
  refine wpAny_bind (I.type.here (wpAny_bind (hb.here ?_)))
  split
  · rename_i q
    have e : subIn K tb (.ref C) = some false := by
      rcases Bool.or_eq_true_iff.mp hn with e | e
      · rw [beq_iff_eq.mp e] at q; simp at q
      · exact beq_iff_eq.mp e
    refine wpAny_bind ((looks_subIn X e).here ?_)
    simp only [Bool.false_eq_true, if_false]
    refine wpAny_bind (wpAny_mono one (fun r s' z => ?_) fun _ _ e => e)
    obtain ⟨v, rfl, hq⟩ := z
    exact wpAny_pure hq
  · refine wpAny_bind (wpAny_pure ?_)
    simp only [Bool.false_eq_true, if_false]
    refine wpAny_bind (wpAny_mono one (fun r s' z => ?_) fun _ _ e => e)
    obtain ⟨v, rfl, hq⟩ := z
    exact wpAny_pure hq
end
section
variable {X : Cx} {pins : List (Addr × Obj)} {σ : L2.St} {H : Hp} {s : Shared} {j k : Nat} {C : Addr} {sp : Sp}
theorem op_neO (c : Ct X.prog X.w X.K X.mg X.base j C "__eq__" [] sp) (hne : PySem.W.findIn X.K (.ref C) "__ne__" = some (some (.builtin "object.__ne__"))) (hob : PySem.W.subIn X.K (.ref C) (.type "object") = some true) (hr : Room (j + 1) X.A) (hG : X.A.guards = some []) : OpR X (compareOp .NotEq) (rEqO X.K C sp true) := by
  intro pins s σ H x y v u Q I rx ry h
  obtain ⟨a, dx, fs, rfl, ha, hy, q⟩ := h
  cases (show v = Value.ref a from rx)
  obtain ⟨f, fd, ps, ds, cl, hm, F, hb, hd⟩ := c.ex
  cases hd
  obtain ⟨ox, od, J⟩ := ins_at I ha
  obtain ⟨m, hF⟩ := I.fr
  obtain ⟨tb, L1, L2⟩ := ty_own I ry hy
  show wpAny (model X.prog X.w) X.A (richCompare .NotEq (.ref a) u) (EP X pins σ Q) X.xe s
  refine ne_K (by have := hr.un; omega) hF I.ok.mod.kin J L1 L2 hne hob hm.at_ hm.fn (wpAny_mono (run_at (A := X.A.in1) (us := [.ref a, u]) (vs := [.ref a, y]) F hr.in1 hG rfl hb .nil I (.cons rfl (.cons ry .nil)) q) (fun r s' hv => ?_) fun _ _ x => x)
  obtain ⟨w, H', I', rv, b, rfl, q'⟩ := hv
  cases (show r = Value.bool b from rv)
  rw [Bool.bne_true] at q'
  exact ⟨b, rfl, .bl (!b), H', I', rfl, q'⟩
end
end Tp
set_option Elab.async false
set_option linter.all false
set_option maxRecDepth 100000
set_option maxHeartbeats 4000000
/-! try with several clauses, each of which may name the exception; the field of a caught one -/
namespace Tp
open PySem PySem.Spec PyProof.Rows L2
/-- a clause: its class, the slot of its name (none: no name), what its suite wishes -/
abbrev Cla : Type := Value × Option Nat × (Addr → Value → Option Addr → TS)
def offSlot (j : Option Nat) (D : Ends) : Ends := match j with
  | none => D
  | some i => { nx := fun σ H => D.nx (σ.set i none) H, rt := D.rt, bk := fun σ H => D.bk (σ.set i none) H, ct := fun σ H => D.ct (σ.set i none) H }
def onSlot (j : Option Nat) (a : Addr) (σ : L2.St) : L2.St := match j with
  | none => σ
  | some i => σ.set i (some (.ref a))
/-- what an exception of the body must meet: the first clause that takes it, or the way out -/
def wCla (K : PySem.W.Frag) (out : WX) (D : Ends) : List Cla → WX
  | [] => out
  | (c, j, t) :: more => fun cls d σ H => ∃ b, PySem.W.exmOne K cls c = some b ∧ (b = true → ∀ a, H a = none → t a cls d (offSlot j D) (onSlot j a σ) H) ∧ (b = false → wCla K out D more cls d σ H)
inductive ClaOk (X : Cx) : List ExceptHandler → List Cla → Prop
  | nil : ClaOk X [] []
  | bare {x : Str} {c : Value} {t : Addr → Value → Option Addr → TS} {b : Stmt} {bs : List Stmt} {p q : Pos} {hs : List ExceptHandler} {l : List Cla} (hc : Names X x c)
      (hb : ∀ (a : Addr) (oe : Obj) (cls : Value) (d : Option Addr) (pn : List (Addr × Obj)), Zc cls d oe → (∃ vs, oe.data = .fields vs) → PSs (X.suite a ((a, oe) :: pn)) (b :: bs) (t a cls d)) (more : ClaOk X hs l) :
      ClaOk X (.ExceptHandler (some (.Name x p)) none (b :: bs) q :: hs) ((c, none, t) :: l)
  | named {x n : Str} {i : Nat} {c : Value} {t : Addr → Value → Option Addr → TS} {b : Stmt} {bs : List Stmt} {p q : Pos} {hs : List ExceptHandler} {l : List Cla} (hc : Names X x c) (hi : X.N[i]? = some n) (hn : X.env.kindOf n = some .local)
      (hb : ∀ (a : Addr) (oe : Obj) (cls : Value) (d : Option Addr) (pn : List (Addr × Obj)), Zc cls d oe → (∃ vs, oe.data = .fields vs) → PSs (X.suite a ((a, oe) :: pn)) (b :: bs) (t a cls d)) (more : ClaOk X hs l) :
      ClaOk X (.ExceptHandler (some (.Name x p)) (some n) (b :: bs) q :: hs) ((c, some i, t) :: l)
section
variable {X : Cx} {D : Ends} {out : WX} {pins : List (Addr × Obj)} {σ : L2.St} {H : Hp} {sI s : Shared} {B : Heap} {a : Addr} {cls : Value} {d : Option Addr}
/-- the clauses, asked one after the other of an exception that lies noted on the ground -/
theorem run_cla (stk : X.stack = X.env :: X.outer) (loc : X.env.frame = some X.env.locals) (nd : X.N.Nodup) (tk : Takes X out) (ok : X.Ok) (J : Inv X pins σ H sI) (gB : ∀ b o, sI.heap.get? b = some o → b ∉ frs X.stack → B.get? b = some o) (up : sI.heap.UpToSlots s.heap)
    (fly : HandSPX.FlyingZ B (X.env :: X.outer) a (Zc cls d) s.heap) (na : H a = none) (os : s.os = sI.os) (bare : AllBare s.gens) :
    ∀ {hds : List ExceptHandler} {l : List Cla}, ClaOk X hds l → wCla X.K out D l cls d σ H → wpAny (model X.prog X.w) X.A (handleBy (.ref a) X.env hds) (SP X pins D) X.xe s := by
  have away : ∀ {h : Heap}, HandSPX.FlyingZ B (X.env :: X.outer) a (Zc cls d) h → a ∉ frs (X.env :: X.outer) := fun {h} f m => by
    obtain ⟨o1, w1, p1, _, p2⟩ := f.there
    obtain ⟨_, o2, p3, p4⟩ := f.2.2.1.mem m
    cases p1.symm.trans p3
    exact p4 _ p2
  have out1 := away fly
  have neL : a ≠ X.env.locals := fun z => out1 (List.mem_filterMap.mpr ⟨X.env, List.mem_cons_self, by rw [loc, z]⟩)
  have neF : a ∉ X.fs := fun m => by
    obtain ⟨e, he, q⟩ := List.mem_filterMap.mp m
    exact out1 (List.mem_filterMap.mpr ⟨e, List.mem_cons_of_mem _ he, q⟩)
  have here : Inv X pins σ H s := J.landed gB fly.1 up os bare
  obtain ⟨oe, ws, ho, hz, hd⟩ := fly.there
  have inS := here.suite ho hd na neL neF
  have kind : PySem.W.Looks (model X.prog X.w) s.heap (typeOf (.ref a)) cls := fun A' Q' E' s' k q => wpAny_typeOf_ref (k _ _ ho) (by rw [hz.1]; exact q)
  -- the class of a clause is read
  have read : ∀ {x : Str} {p : Pos} {c : Value} {Q' : Value → Shared → Prop} {E' : Value → Shared → Prop}, Names X x c → Q' c s → wpAny (model X.prog X.w) (X.A.mark (some (.ref a))) (eval (.Name x p) X.env) Q' E' s := fun {x p c Q' E'} hc q => by
    obtain ⟨g1, g2, g3⟩ := hc
    rcases g3 with g3 | ⟨g3, g4, g5⟩
    · exact ld_glob (X := X.suite a ((a, oe) :: (X.pn ++ pins))) inS g1 g3 q g2
    · exact ld_blt (X := X.suite a ((a, oe) :: (X.pn ++ pins))) inS g1 g3 g4 q g5 g2
  -- a suite is entered
  have enter : ∀ {h2 : Heap}, HandSPX.FlyingZ B (X.env :: X.outer) a (Zc cls d) h2 → s.heap.UpToSlots h2 → ∃ o2, Zc cls d o2 ∧ (∃ vs, o2.data = .fields vs) ∧ Inv (X.suite a ((a, o2) :: (X.pn ++ pins))) [] σ H { s with heap := h2 } := fun {h2} f2 u2 => by
    obtain ⟨o2, w2, p1, p2, p3⟩ := f2.there
    have J2 : Inv X pins σ H { s with heap := h2 } := J.landed gB f2.1 (up.trans u2) os bare
    exact ⟨o2, p2, ⟨_, p3⟩, J2.suite p1 p3 na neL neF⟩
  intro hds l hk
  induction hk with
  | nil =>
    intro hw
    refine wpAny_handleBy_nil ?_
    obtain ⟨_, _, _, o1, w1, T, _, _, p1, _, p2, p3, _⟩ := id fly
    unfold PySem.passOn
    refine wpAny_bind (wpAny_field p1 p2 p3 ?_)
    rw [if_neg (show ¬ ((Value.ref T == Value.none) = true) from by simp)]
    have last : wpAny (model X.prog X.w) X.A (setFlight (.ref a) X.env.frame) (fun _ s' => wpAny (model X.prog X.w) X.A (throw (.ref a) : Sem Flow) (SP X pins D) X.xe s') X.xe s := by
      rw [loc]
      refine HandSPX.setFlight_upZ fly fun h2 f2 u2 => wpAny_throw (tk _ _ ⟨a, B, sI, pins, σ, H, cls, d, rfl, J, gB, up.trans u2, .inr (.inr ?_), na, os, bare, hw⟩)
      rw [stk]
      exact f2
    first
      | exact wpAny_bind last
      | exact wpAny_bind (wpAny_pure (wpAny_bind last))
  | bare hc hb more ih =>
    rintro ⟨b, e1, yes, no⟩
    refine wpAny_handleBy_cons (codeAny_handlers_test ?_) (fun z => by cases z)
    refine read hc ((PySem.W.exm_one (M := model X.prog X.w) here.kIn kind e1).here ?_)
    cases b with
    | false => exact ih (no rfl)
    | true =>
      refine codeAny_handlers_suite (HandSPX.lands_againZ fly fun h2 f2 u2 => ?_)
      obtain ⟨o2, z2, dd2, I2⟩ := enter f2 u2
      refine wpAny_mono ((hb a o2 cls d (X.pn ++ pins) z2 dd2).run [] _ _ H _ I2 (yes rfl a na)) (fun f s' q => ?_) fun _ _ z => False.elim z
      cases f with
      | next =>
        obtain ⟨σ', H', I', q⟩ := q
        exact ⟨σ', H', I'.unsuite ok, q⟩
      | brk =>
        obtain ⟨σ', H', I', q⟩ := q
        exact ⟨σ', H', I'.unsuite ok, q⟩
      | cont =>
        obtain ⟨σ', H', I', q⟩ := q
        exact ⟨σ', H', I'.unsuite ok, q⟩
      | ret u =>
        obtain ⟨v, σ', H', I', r, q⟩ := q
        exact ⟨v, σ', H', I'.unsuite ok, r, q⟩
  | @named x n i c t b0 bs p q0 hs l hc hi hn hb more ih =>
    rintro ⟨b, e1, yes, no⟩
    refine wpAny_handleBy_cons (codeAny_handlers_test ?_) (fun z => by cases z)
    refine read hc ((PySem.W.exm_one (M := model X.prog X.w) here.kIn kind e1).here ?_)
    cases b with
    | false => exact ih (no rfl)
    | true =>
      refine codeAny_handlers_suite_as (HandSPX.lands_againZ fly fun h2 f2 u2 => ?_)
      obtain ⟨o2, z2, dd2, I2⟩ := enter f2 u2
      refine store_ok (X := X.suite a ((a, o2) :: (X.pn ++ pins))) (v := .ref a) I2 nd hi (.inl hn) rfl (fun s3 I3 => ?_) (.inr hn)
      refine wpAny_mono ((hb a o2 cls d (X.pn ++ pins) z2 dd2).run [] s3 _ H _ I3 (yes rfl a na)) (fun f s' q => ?_) fun _ _ z => False.elim z
      have gone : ∀ {σ' : L2.St} {H' : Hp} {Q' : Shared → Prop}, Inv (X.suite a ((a, o2) :: (X.pn ++ pins))) [] σ' H' s' → (∀ s4, Inv X pins (σ'.set i none) H' s4 → Q' s4) →
          wpAny (model X.prog X.w) X.A (do bindName X.env n .none; unbindBehindTheSuite X.env n q0) (fun _ s4 => Q' s4) X.xe s' := fun {σ' H' Q'} I' k => gone_ok (I'.unsuite ok) nd hi hn k
      cases f with
      | next =>
        obtain ⟨σ', H', I', q⟩ := q
        exact gone I' fun s4 I4 => ⟨_, _, I4, q⟩
      | brk =>
        obtain ⟨σ', H', I', q⟩ := q
        exact gone I' fun s4 I4 => ⟨_, _, I4, q⟩
      | cont =>
        obtain ⟨σ', H', I', q⟩ := q
        exact gone I' fun s4 I4 => ⟨_, _, I4, q⟩
      | ret u =>
        obtain ⟨v, σ', H', I', r, q⟩ := q
        exact gone I' fun s4 I4 => ⟨_, _, _, I4, r, q⟩
end
section
variable {X : Cx} {body : List Stmt} {h0 : ExceptHandler} {hds : List ExceptHandler} {l : List Cla} {pos : Pos} {tb : WX → TS} {out : WX}
/-- try: body, with such clauses -/
theorem ps_try_cla (stk : X.stack = X.env :: X.outer) (loc : X.env.frame = some X.env.locals) (nd : X.N.Nodup) (tk : Takes X out)
    (hb : ∀ (W : WX) (pn : List (Addr × Obj)) (xe : Value → Shared → Prop), Takes (X.tr pn xe) W → PassesOwn (model X.prog X.w) X.A X.env xe → PSs (X.tr pn xe) body (tb W))
    (hk : ClaOk X (h0 :: hds) l) : PS X (.Try body (h0 :: hds) [] [] pos) (fun D σ H => tb (wCla X.K out D l) D σ H) := by
  refine ⟨fun pins s σ H D I h => wpAny_Try_except ?_⟩
  have ok := I.ok
  have fr : X.A.frames = some (X.env :: X.outer) := ok.frames.trans (congrArg some stk)
  have run := (hb (wCla X.K out D l) (X.pn ++ pins) (fun e s1 => wpAny (model X.prog X.w) X.A (noteFrame e X.env) (fun _ s2 => wpAny (model X.prog X.w) X.A (setFlight e none)
    (fun _ s3 => wpAny (model X.prog X.w) X.A (handleBy e X.env (h0 :: hds)) (SP X pins D) X.xe s3) X.xe s2) X.xe s1) (fun u s' x => ?_) PassesOwn.looking).run [] s σ H D (I.toTry _) h
  · refine wpAny_mono run (fun f s1 q => ?_) fun _ _ q => q
    cases f with
    | next =>
      obtain ⟨σ', H', J, q⟩ := q
      exact wpAny_execs_nil ⟨σ', H', J.ofTry ok, q⟩
    | brk =>
      obtain ⟨σ', H', J, q⟩ := q
      exact ⟨σ', H', J.ofTry ok, q⟩
    | cont =>
      obtain ⟨σ', H', J, q⟩ := q
      exact ⟨σ', H', J.ofTry ok, q⟩
    | ret u =>
      obtain ⟨v, σ', H', J, r, q⟩ := q
      exact ⟨v, σ', H', J.ofTry ok, r, q⟩
  · obtain ⟨a, B, sI, pins', σ', H', cls, d, rfl, J', gB, up, sky, na, os, bare, hw⟩ := x
    have J : Inv X pins σ' H' sI := J'.ofTry ok
    have sky' : Sky B (X.env :: X.outer) a (Zc cls d) X.env.locals s'.heap := stk ▸ sky
    show wpAny (model X.prog X.w) X.A (noteFrame (.ref a) X.env) _ _ _
    exact Sky.land Zc.steady fr loc sky' fun h3 f3 u3 => run_cla (s := { s' with heap := h3 }) stk loc nd tk ok J gB (up.trans u3) f3 na os bare hk hw
/-- e.f of a caught exception that was raised by pmk_x: its dict lies at d -/
def tXh (a : Addr) (cls : Value) (d : Option Addr) (f : Str) (te : TE) : TE := fun σ H Q => te σ H fun x H1 => x = .ref a ∧ ∃ (C dd : Addr) (fs : List (Str × V)) (v : V), cls = .ref C ∧ d = some dd ∧ H1 dd = some (exd dd fs) ∧ fs.lookup f = some v ∧ Q v H1
theorem pe_xh {a C : Addr} {oe : Obj} {cls : Value} {d : Option Addr} {pn : List (Addr × Obj)} {e : Expr} {te : TE} {f : Str} (hT : ∀ C, cls = .ref C → ExK X.K C ∧ PySem.W.findIn X.K (.ref C) f = some none)
    (hz : Zc cls d oe) (hf : ∃ vs, oe.data = .fields vs) (he : PE (X.suite a ((a, oe) :: pn)) e te) (hb : attributeBase e f X.env (eval e X.env) = eval e X.env := by rfl) :
    PE (X.suite a ((a, oe) :: pn)) (.Attribute e f pos) (tXh a cls d f te) := by
  refine ⟨fun pins s σ H Q I h => attr_of hb (thn (he.run pins s σ H _ I h) fun u s1 hh => ?_)⟩
  obtain ⟨x, H1, I1, rx, rfl, C, dd, fs, v, ec, ed, ea, l, q⟩ := hh
  cases (show u = Value.ref a from rx)
  obtain ⟨T, hno⟩ := hT C ec
  obtain ⟨ha, _⟩ := I1.pin (a, oe) (List.mem_append_left _ List.mem_cons_self)
  obtain ⟨ws, hd⟩ := hf
  obtain ⟨mA, hns, rel⟩ := exd_at I1.hok ea
  obtain ⟨od, ho, hl⟩ := lookIn_ns hns
  obtain ⟨w', hw, rw'⟩ := RelO.some_of (v := v) (o := mA f) (by rw [← l]; exact rel f)
  have J : PySem.W.InstAt s1.heap a oe C (some od) := ⟨ha, hz.1.trans ec, by unfold PySem.W.notCls; rw [hd] <;> rfl, by rw [hz.2, ed]; exact ho⟩
  exact HandSPX.exc_get I1.kIn J T.ga T.gg T.exC (PySem.W.findObj_own T.hdC hno rfl (by rw [hl, hw])) (handed_of rw') ⟨v, H1, I1.tok _, rw', q⟩
end
end Tp
set_option Elab.async false
set_option linter.all false
set_option maxRecDepth 100000
set_option maxHeartbeats 4000000
/-! defs whose promises know the guards and that may raise: their bodies, their calls (what is raised is wished for at the caller's slots) -/
namespace Tp
open PySem PySem.Spec PyProof.Rows L2
section
variable {P : Program} {w : World} {K : PySem.W.Frag} {mg : Str → Option Value} {base : Heap} {k : Nat} {f : Addr} {fd : FuncData} {N ps : List Str} {sp : Sp}
theorem FunG.okX {x qual : Str} {st : Stmt} (F : Fun K x qual st f fd) (S : FnScope N ps (defScope st)) (len : ∀ vs H Q E, sp vs H Q E → vs.length = ps.length)
    (hb : ∀ (cdv : Value) (B : Around) (out : List Env) (s : Shared) (H : Hp) (vs : List V) (Q : VK) (E : XK),
      Room k (B.deeper (envOfC qual (defScope st) s.heap.objs.size f cdv)) → (B.deeper (envOfC qual (defScope st) s.heap.objs.size f cdv)).guards = some [] → sp vs H Q E →
      ∃ t, PSs (cxOf (L2.CX P w) P w K mg base N qual (defScope st) f cdv B out s H E) (defBody st) t ∧ t { nx := fun _ H' => Q .non H', rt := Q } (start N vs) H) :
    FnG P w K mg base (L2.CX P w) (k + 1) f fd ps sp := by
  obtain ⟨oc, od, kV, doc, pm, an, cdv, ct, osl, rfl, lk, hcd⟩ := F.ex
  exact fnG_of lk hcd S len fun B out s H vs Q E hr hg hsp => hb cdv B out s H vs Q E hr hg hsp
theorem FunDG.okX {x qual : Str} {params : Arguments} {body : List Stmt} {scope : Scope} {dvs : List V} {kws : List (Str × V)}
    (F : FunD K x qual params body scope dvs kws f fd) (S : FnScope N ps scope) (len : ∀ vs H Q E, sp vs H Q E → vs.length = ps.length)
    (hb : ∀ (cdv : Value) (B : Around) (out : List Env) (s : Shared) (H : Hp) (vs : List V) (Q : VK) (E : XK),
      Room k (B.deeper (envOfC qual scope s.heap.objs.size f cdv)) → (B.deeper (envOfC qual scope s.heap.objs.size f cdv)).guards = some [] → sp vs H Q E →
      ∃ t, PSs (cxOf (L2.CX P w) P w K mg base N qual scope f cdv B out s H E) body t ∧ t { nx := fun _ H' => Q .non H', rt := Q } (start N vs) H) :
    FnG P w K mg base (L2.CX P w) (k + 1) f fd ps sp := by
  obtain ⟨oc, od, dV, kV, doc, pm, an, cdv, ct, osl, rfl, lk, hcd, _, _⟩ := F.ex
  exact fnG_of lk hcd S len fun B out s H vs Q E hr hg hsp => hb cdv B out s H vs Q E hr hg hsp
end
/-! within a comprehension: the written part by its own letter -/
theorem ix_listK {X : Cx} {K : PySem.W.Frag} (h : X.K = K) : IxR X (rIxL K) := by
  subst h
  exact ix_list
theorem ix_tupK {X : Cx} {K : PySem.W.Frag} (h : X.K = K) : IxR X (rIxT K) := by
  subst h
  exact ix_tup
theorem pe_fldK {X : Cx} {K : PySem.W.Frag} {e : Expr} {f : Str} {pos : Pos} {ta : TE} (h : X.K = K) (he : PE X e ta) (hb : attributeBase e f X.env (eval e X.env) = eval e X.env) : PE X (.Attribute e f pos) (tFld K ta f) := by
  subst h
  exact pe_fld he hb
theorem hu65 {k : Nat} {A : Around} (hr : Room k A) : A.units + 65 < cLine := by
  have := hr.un
  omega
/-- what a caller knows of a method that may raise; of a def; of a class -/
structure Ctr (P : Program) (w : World) (K : PySem.W.Frag) (mg : Str → Option Value) (base : Heap) (k : Nat) (C : Addr) (m : Str) (dvs : List V) (sp : Sp) : Prop where
  ex : ∃ (f : Addr) (fd : FuncData) (ps : List Str) (ds : List Value), Cls K C ∧ Meth K C m f ∧ FnG P w K mg base (L2.CX P w) k f fd ps sp ∧ Binds K fd ps ds ∧ Vals dvs ds
structure Cgr (P : Program) (w : World) (K : PySem.W.Frag) (mg : Str → Option Value) (base : Heap) (k : Nat) (x : Str) (dvs : List V) (sp : Sp) : Prop where
  ex : ∃ (f : Addr) (fd : FuncData) (ps : List Str) (ds : List Value), FnG P w K mg base (L2.CX P w) k f fd ps sp ∧ mg x = some (.ref f) ∧ PySem.W.keepIn K (.ref f) = true ∧ Binds K fd ps ds ∧ Vals dvs ds
structure Cmr (P : Program) (w : World) (K : PySem.W.Frag) (mg : Str → Option Value) (base : Heap) (k : Nat) (x : Str) (C : Addr) (dvs : List V) (sp : Sp) : Prop where
  ex : ∃ (f : Addr) (fd : FuncData) (ps : List Str) (ds : List Value), Mk K C f ∧ FnG P w K mg base (L2.CX P w) k f fd ps sp ∧ mg x = some (.ref C) ∧ Binds K fd ps ds ∧ Vals dvs ds
/-- wished for at the caller's slots -/
def tCallX (sp : Sp) (dvs : List V) (W : WX) (t : TA) : TE := fun σ H Q => t σ H fun vs H1 => sp (vs ++ dvs) H1 Q (WE W σ)
def tMethX (C : Addr) (m : Str) (sp : Sp) (dvs : List V) (W : WX) (ta : TE) (t : TA) : TE := fun σ H Q => ta σ H fun x H1 => ∃ a dx fs, x = .ref a ∧ H1 a = some (.ins C dx fs) ∧ fs.lookup m = none ∧
  t σ H1 fun vs H2 => sp (x :: (vs ++ dvs)) H2 Q (WE W σ)
def tMakeX (C : Addr) (sp : Sp) (dvs : List V) (W : WX) (t : TA) : TE := fun σ H Q => t σ H fun vs H1 => ∀ x dx, H1 x = none → H1 dx = none → dx ≠ x →
  sp (.ref x :: (vs ++ dvs)) (upd (upd H1 dx (.own x)) x (.ins C dx [])) (fun v H2 => v = .non ∧ Q (.ref x) H2) (WE W σ)
def tGetX (C : Addr) (sp : Sp) (W : WX) (to ti : TE) : TE := fun σ H Q => to σ H fun y H1 => ti σ H1 fun x H2 => ∃ a dx fs, y = .ref a ∧ H2 a = some (.ins C dx fs) ∧ sp [.ref a, x] H2 Q (WE W σ)
section
variable {X : Cx} {j k : Nat} {f C : Addr} {fd : FuncData} {ps : List Str} {sp : Sp} {x m : Str} {p pos apos : Pos} {e o i : Expr} {es : List Expr} {ta to ti : TE} {t : TA} {dvs : List V} {ds : List Value} {W : WX}
theorem run_gX {A : Around} {pins : List (Addr × Obj)} {σ : L2.St} {H : Hp} {s : Shared} {Q : VK} {us : List Value} {vs : List V} (F : FnG X.prog X.w X.K X.mg X.base (L2.CX X.prog X.w) k f fd ps sp) (hr : Room k A) (hG : A.guards = some []) (hf : A.frames = X.A.frames) (hb : Binds X.K fd ps ds) (hd : Vals dvs ds)
    (tk : Takes X W) (I : Inv X pins σ H s) (r : Vals vs us) (h : sp (vs ++ dvs) H Q (WE W σ)) : wpAny (model X.prog X.w) A (call (.ref f) us) (EP X pins σ Q) X.xe s := by
  have r2 : Vals (vs ++ dvs) (us ++ ds) := r.append hd
  have hl : (us ++ ds).length = ps.length := by rw [← r2.length]; exact F.len _ _ _ _ h
  have e0 : Env0 X.prog X.w X.K X.mg X.base A X.stack s H := by
    have e := I.env0
    exact ⟨by rw [hf]; exact e.frames, e.mod, e.bs, e.bsz, e.funs, e.frf, e.hok, e.bare⟩
  refine wpAny_call (codeAny_mono (F.run A X.stack s H ⟨us, []⟩ (us ++ ds) (vs ++ dvs) Q (WE W σ) hr hG e0 (hb s us I.kIn hl) r2 h) fun r s' hq => ?_)
  cases r with
  | error e => exact passAt tk σ pins H s e s' I hq
  | ok fl =>
    cases fl with
    | ret u => exact I.after hq
    | next => exact False.elim hq
    | brk => exact False.elim hq
    | cont => exact False.elim hq
theorem run_gmakeX {pins : List (Addr × Obj)} {σ : L2.St} {H : Hp} {s : Shared} {Q : VK} {us : List Value} {vs : List V} (M : Mk X.K C f) (F : FnG X.prog X.w X.K X.mg X.base (L2.CX X.prog X.w) k f fd ps sp) (hr : Room (k + 1) X.A) (hG : X.A.guards = some []) (hb : Binds X.K fd ps ds) (hd : Vals dvs ds)
    (tk : Takes X W) (I : Inv X pins σ H s) (r : Vals vs us)
    (h : ∀ x dx, H x = none → H dx = none → dx ≠ x → sp (.ref x :: (vs ++ dvs)) (upd (upd H dx (.own x)) x (.ins C dx [])) (fun v H2 => v = .non ∧ Q (.ref x) H2) (WE W σ)) :
    wpAny (model X.prog X.w) X.A (call (.ref C) us) (EP X pins σ Q) X.xe s := by
  have hq := h (s.heap.objs.size + 1) s.heap.objs.size (I.hok.fresh (Nat.le_succ _)) (I.hok.fresh (Nat.le_refl _)) (Nat.ne_of_lt (Nat.lt_succ_self _))
  have I2 := Inv.made (C := C) I
  have r2 : Vals (V.ref (s.heap.objs.size + 1) :: (vs ++ dvs)) (Value.ref (s.heap.objs.size + 1) :: (us ++ ds)) := .cons rfl (r.append hd)
  have hl : (Value.ref (s.heap.objs.size + 1) :: us ++ ds).length = ps.length := by
    have e := r2.length
    rw [F.len _ _ _ _ hq] at e
    exact e.symm
  refine wpAny_call (make_map (f := f) I.kIn M.makes M.init (beq_iff_eq.mp M.fn) (codeAny_mono (F.run _ X.stack _ _ ⟨Value.ref (s.heap.objs.size + 1) :: us, []⟩ (Value.ref (s.heap.objs.size + 1) :: (us ++ ds)) _ _ (WE W σ) (hr.make C us []) hG
    (I2.env0.make C us []) (hb _ (Value.ref (s.heap.objs.size + 1) :: us) I2.kIn hl) r2 hq) fun r s' hq' => ?_))
  cases r with
  | error e => exact passAt tk σ pins _ _ e s' I2 hq'
  | ok fl =>
    cases fl with
    | ret u =>
      obtain ⟨v, H', I3, rv, ev, q3⟩ := I2.after hq'
      subst ev
      exact ⟨rv, ⟨V.ref (s.heap.objs.size + 1), H', I3, rfl, q3⟩⟩
    | next => exact False.elim hq'
    | brk => exact False.elim hq'
    | cont => exact False.elim hq'
theorem pe_cgr (c : Cgr X.prog X.w X.K X.mg X.base j x dvs sp) (hr : Room k X.A) (hG : X.A.guards = some []) (hk : j ≤ k) (tk : Takes X W) (hg : Gl X x)
    (ha : PA X (e :: es) t) (hdb : (x == ("__debug__" : Str)) = false := by decide) (he : starEach (e :: es) X.env = (false, eval e X.env) :: starEach es X.env := by rfl) (hpl : (backTo pos (starEach es X.env)).any (·.1) = false := by rfl) :
    PE X (.Call (.Name x p) (e :: es) [] pos) (tCallX sp dvs W t) := by
  obtain ⟨f, fd, ps, ds, F, hm, hkp, hb, hd⟩ := c.ex
  refine ⟨fun pins s σ H Q I h => ?_⟩
  refine wpAny_Call_Name_kw (ld_glob I hg hm ?_ hdb)
  refine PySem.W.callWith_K (h₀ := X.base) I.ok.mod.kin hkp (thn (ha.run pos pins s σ H _ I h) fun us s1 ⟨vs, H1, I1, r, q⟩ => ⟨I1.kIn, ?_⟩) he hpl
  exact run_gX F (hr.mono hk) hG rfl hb hd tk I1 r q
theorem pe_cmr (c : Cmr X.prog X.w X.K X.mg X.base j x C dvs sp) (hr : Room k X.A) (hG : X.A.guards = some []) (hk : j + 1 ≤ k) (tk : Takes X W) (hg : Gl X x)
    (ha : PA X (e :: es) t) (hdb : (x == ("__debug__" : Str)) = false := by decide) (he : starEach (e :: es) X.env = (false, eval e X.env) :: starEach es X.env := by rfl) (hpl : (backTo pos (starEach es X.env)).any (·.1) = false := by rfl) :
    PE X (.Call (.Name x p) (e :: es) [] pos) (tMakeX C sp dvs W t) := by
  obtain ⟨f, fd, ps, ds, M, F, hm, hb, hd⟩ := c.ex
  refine ⟨fun pins s σ H Q I h => ?_⟩
  refine wpAny_Call_Name_kw (ld_glob I hg hm ?_ hdb)
  refine PySem.W.callWith_K (h₀ := X.base) I.ok.mod.kin M.kp (thn (ha.run pos pins s σ H _ I h) fun us s1 ⟨vs, H1, I1, r, q⟩ => ⟨I1.kIn, ?_⟩) he hpl
  exact run_gmakeX M F (hr.mono hk) hG hb hd tk I1 r q
theorem pe_cmr0 (c : Cmr X.prog X.w X.K X.mg X.base j x C dvs sp) (hr : Room k X.A) (hG : X.A.guards = some []) (hk : j + 1 ≤ k) (tk : Takes X W) (hg : Gl X x)
    (hdb : (x == ("__debug__" : Str)) = false := by decide) : PE X (.Call (.Name x p) [] [] pos) (tMakeX C sp dvs W tNil) := by
  obtain ⟨f, fd, ps, ds, M, F, hm, hb, hd⟩ := c.ex
  refine ⟨fun pins s σ H Q I h => ?_⟩
  refine wpAny_Call_Name_kw (ld_glob I hg hm ?_ hdb)
  exact PySem.W.callWith_K0 I.kIn M.kp (run_gmakeX (us := []) M F (hr.mono hk) hG hb hd tk I .nil h)
theorem pe_ctr {pl : Sem Bool} (he : PE X o ta) (c : Ctr X.prog X.w X.K X.mg X.base j C m dvs sp) (hr : Room k X.A) (hG : X.A.guards = some []) (hk : j ≤ k) (tk : Takes X W) (ha : PA X (e :: es) t)
    (hst : starEach (e :: es) X.env = (false, eval e X.env) :: starEach es X.env := by rfl) (hpl : (backTo pos (starEach es X.env)).any (·.1) = false := by rfl)
    (ht : eval (.Call (.Attribute o m apos) (e :: es) [] pos) X.env = (do
      let ov ← eval o X.env
      standAt apos.atName
      let (f, first) ← holding [ov] (getMethod ov m pl)
      callWith pos f first (backTo pos (starEach (e :: es) X.env)) (backToKw pos (keywordEach [] X.env))) := by rfl) :
    PE X (.Call (.Attribute o m apos) (e :: es) [] pos) (tMethX C m sp dvs W ta t) := by
  obtain ⟨f, fd, ps, ds, cl, hm, F, hb, hd⟩ := c.ex
  refine ⟨fun pins s σ H Q I h => ?_⟩
  refine PySem.W.methodCall_KW (pl := pl) (thn (he.run pins s σ H _ I h) fun u s1 ⟨x, H1, I1, rx, a, dx, fs, ex, ea, l, q⟩ => ?_) ht
  subst ex
  obtain rfl : u = Value.ref a := rx
  refine getmeth_ok I1 ea cl hm l ?_
  refine PySem.W.callWith_K (first := [.ref a]) (h₀ := X.base) I.ok.mod.kin hm.kp (thn (ha.run pos pins s1 σ H1 _ I1 q) fun us s2 ⟨vs, H2, I2, r, q2⟩ => ⟨I2.kIn, ?_⟩) hst hpl
  exact run_gX (us := .ref a :: us) (vs := .ref a :: vs) F (hr.mono hk) hG rfl hb hd tk I2 (.cons rfl r) q2
theorem pe_ctr0 {pl : Sem Bool} (he : PE X o ta) (c : Ctr X.prog X.w X.K X.mg X.base j C m dvs sp) (hr : Room k X.A) (hG : X.A.guards = some []) (hk : j ≤ k) (tk : Takes X W)
    (ht : eval (.Call (.Attribute o m apos) [] [] pos) X.env = (do
      let ov ← eval o X.env
      standAt apos.atName
      let (f, first) ← holding [ov] (getMethod ov m pl)
      callWith pos f first (backTo pos (starEach [] X.env)) (backToKw pos (keywordEach [] X.env))) := by rfl) :
    PE X (.Call (.Attribute o m apos) [] [] pos) (tMethX C m sp dvs W ta tNil) := by
  obtain ⟨f, fd, ps, ds, cl, hm, F, hb, hd⟩ := c.ex
  refine ⟨fun pins s σ H Q I h => ?_⟩
  refine PySem.W.methodCall_KW (pl := pl) (thn (he.run pins s σ H _ I h) fun u s1 ⟨x, H1, I1, rx, a, dx, fs, ex, ea, l, q⟩ => ?_) ht
  subst ex
  obtain rfl : u = Value.ref a := rx
  refine getmeth_ok I1 ea cl hm l ?_
  exact PySem.W.callWith_K0 (first := [.ref a]) I1.kIn hm.kp (run_gX (us := [.ref a]) (vs := [.ref a]) F (hr.mono hk) hG rfl hb hd tk I1 (.cons rfl .nil) q)
theorem pe_getX (c : Ctr X.prog X.w X.K X.mg X.base j C "__getitem__" dvs sp) (h0 : dvs = []) (hfn : ∀ f, PySem.W.isFn X.K (.ref f) = true → PySem.W.fnIn X.K f = true) (hr : Room (j + 1) X.A) (hG : X.A.guards = some []) (tk : Takes X W) (ho : PE X o to) (hi : PE X i ti)
    (hsl : ∀ (a : Addr) (v : Value), subscripted i true (.ref a) v = runValue (.builtin "lifetime.subscript" ⟨[.ref a, v], []⟩) := by (intro _ _; with_unfolding_all rfl)) : PE X (.Subscript o i pos) (tGetX C sp W to ti) := by
  subst h0
  refine ⟨fun pins s σ H Q I h => ?_⟩
  refine Subscript_ (thn (ho.run pins s σ H _ I h) fun u s1 ⟨y, H1, I1, r1, q1⟩ => thn (hi.run pins s1 σ H1 _ I1 q1) fun v s2 ⟨x, H2, I2, r2, a, dx, fs, ey, ha, q2⟩ => ?_)
  subst ey
  cases (show u = Value.ref a from r1)
  obtain ⟨f, fd, ps, ds, cl, hm, F, hb, hd⟩ := c.ex
  cases hd
  obtain ⟨ox, od, J⟩ := ins_at I2 ha
  obtain ⟨m, hF⟩ := I2.fr
  exact PySem.W.sub_K hF I2.ok.mod.kin J hm.at_ (hfn _ hm.fn) hm.fn (run_gX (A := X.A.in1) (us := [.ref a, v]) (vs := [.ref a, x]) F hr.in1 hG rfl hb .nil tk I2 (.cons rfl (.cons r2 .nil)) q2) (hsl _ _)
end
end Tp
set_option Elab.async false
set_option linter.all false
set_option maxRecDepth 100000
set_option maxHeartbeats 4000000
/-! the rows of a book as keys of a dict: a text, and an int or a tuple of ints -/
namespace Tp
open PySem
/-- a row: its name, and its turn or the numbers of its arguments -/
abbrev RowK : Type := Str × Sum Int (List Int)
def rowD : RowK → PyData
  | (x, .inl n) => .tuple [.str x, .int n]
  | (x, .inr ns) => .tuple [.str x, .tuple (ns.map PyData.int)]
def IsRow (h : Heap) (k : RowK) (a : Addr) : Prop := Reads h (.ref a) (rowD k) [] ∧ PyData.strOk k.1 = true
theorem can_ints : ∀ ns : List Int, PyData.canLayAll0 (ns.map PyData.int) = true
  | [] => rfl
  | n :: ns => by
    simp only [List.map_cons, PyData.canLayAll0, PyData.canLay0, can_ints ns, Bool.and_self]
theorem can_row (k : RowK) (hk : PyData.strOk k.1 = true) : (rowD k).canLay0 = true := by
  obtain ⟨x, n | ns⟩ := k
  · have hk' : PyData.strOk x = true := hk
    simp [rowD, PyData.canLay0, PyData.canLayAll0, hk']
  · have hk' : PyData.strOk x = true := hk
    simp [rowD, PyData.canLay0, PyData.canLayAll0, can_ints ns, hk']
theorem ints_inj : ∀ {ns ms : List Int}, ns.map PyData.int = ms.map PyData.int → ns = ms
  | [], [], _ => rfl
  | [], _ :: _, e => by cases e
  | _ :: _, [], e => by cases e
  | n :: ns, m :: ms, e => by
    rw [List.map_cons, List.map_cons] at e
    injection e with e1 e2
    injection e1 with e3
    rw [e3, ints_inj e2]
theorem rowD_inj : ∀ {k j : RowK}, rowD k = rowD j → k = j := by
  rintro ⟨x, n | ns⟩ ⟨y, m | ms⟩ e
  · simp only [rowD, PyData.tuple.injEq, List.cons.injEq, PyData.str.injEq, PyData.int.injEq, and_true] at e
    rw [e.1, e.2]
  · simp [rowD] at e
  · simp [rowD] at e
  · simp only [rowD, PyData.tuple.injEq, List.cons.injEq, PyData.str.injEq, and_true] at e
    rw [e.1, ints_inj e.2]
theorem isRow_inj {h : Heap} {a : Addr} {k j : RowK} (hk : IsRow h k a) (hj : IsRow h j a) : k = j := rowD_inj (SeqAt.Reads.unique _ _ _ _ _ (can_row k hk.2) hk.1 hj.1)
theorem eqv_ints : ∀ ns ms : List Int, PyData.eqvAll (ns.map PyData.int) (ms.map PyData.int) = decide (ns = ms)
  | [], [] => rfl
  | [], _ :: _ => rfl
  | _ :: _, [] => rfl
  | n :: ns, m :: ms => by
    rw [List.map_cons, List.map_cons, PyData.eqvAll, PyData.eqv, eqv_ints ns ms, Bool.eq_iff_iff]
    simp
theorem eqv_row (k j : RowK) : PyData.eqv (rowD k) (rowD j) = decide (k = j) := by
  obtain ⟨x, n | ns⟩ := k <;> obtain ⟨y, m | ms⟩ := j <;> rw [Bool.eq_iff_iff] <;> simp [rowD, PyData.eqv, PyData.eqvAll, eqv_ints]
section
variable {prog : Program} {w : World} {A : Around} {E : Value → Shared → Prop} {s : Shared}
theorem row_eq {x y : RowK} {a b : Addr} {Q : Bool → Shared → Prop} (hu : A.units + 64 < cLine) (hx : IsRow s.heap x a) (hy : IsRow s.heap y b) (h : Q (decide (x = y)) s) : wpAny (model prog w) A (eqBool (.ref a) (.ref b)) Q E s := by
  have hd : ∀ k : RowK, (rowD k).depth ≤ 10 := fun k => by
    obtain ⟨x, n | ns⟩ := k
    · simp [rowD, PyData.depth, PyData.depthAll]
    · have : ∀ ns : List Int, PyData.depthAll (ns.map PyData.int) = 0 := fun ns => by
        induction ns with
        | nil => rfl
        | cons n ns ih => simp [PyData.depthAll, PyData.depth, ih]
      simp [rowD, PyData.depth, PyData.depthAll, this]
  refine SeqAt.eqAt_reads (rowD x) (rowD y) A s _ _ [] [] hx.1 hy.1 (can_row x hx.2) (can_row y hy.2) ?_ prog w E Q ?_
  · have h1 := hd x
    have h2 : min (rowD x).depth (rowD y).depth ≤ (rowD x).depth := Nat.min_le_left _ _
    omega
  · rw [eqv_row]
    exact h
theorem ints_any {h h' : Heap} : ∀ (ns : List Int) (vs : List Value) (as : List Addr), ReadsAll h vs (ns.map PyData.int) as → ReadsAll h' vs (ns.map PyData.int) as
  | [], _, _, r => by
    cases r
    exact .nil
  | n :: ns, _, _, r => by
    rw [List.map_cons] at r ⊢
    cases r with
    | cons h1 h2 =>
      cases h1
      exact .cons (.int _ _) (ints_any ns _ _ h2)
/-- a row's own parts -/
theorem row_parts {h : Heap} {k : RowK} {a : Addr} (r : IsRow h k a) : ∃ (o : Obj) (t : Tok) (u : Value) (items : Array Value) (n : Nat), h.get? a = some o ∧ o.cls = .type "tuple" ∧ o.data = .seq items n ∧ items.toList = [.str k.1 t, u] ∧
    ((∃ (i : Int) (t2 : Tok), k.2 = .inl i ∧ u = .int i t2) ∨ ∃ (ns : List Int) (b : Addr) (ob : Obj) (its : Array Value) (m : Nat), k.2 = .inr ns ∧ u = .ref b ∧ h.get? b = some ob ∧ ob.cls = .type "tuple" ∧ ob.data = .seq its m ∧ ReadsAll h its.toList (ns.map PyData.int) []) := by
  obtain ⟨r, _⟩ := r
  obtain ⟨x, i | ns⟩ := k
  · generalize e : rowD (x, .inl i) = d at r
    generalize e0 : ([] : List Addr) = as at r
    cases r with
    | tuple h1 h2 h3 h4 =>
      simp only [rowD, PyData.tuple.injEq] at e
      subst e
      generalize ev : (_ : Array Value).toList = l at h4
      cases h4 with
      | cons g1 g2 =>
        cases g1
        cases g2 with
        | cons g3 g4 =>
          cases g3
          cases g4
          exact ⟨_, _, _, _, _, h1, h2, h3, ev, .inl ⟨i, _, rfl, rfl⟩⟩
    | _ => cases e
  · generalize e : rowD (x, .inr ns) = d at r
    generalize e0 : ([] : List Addr) = as at r
    cases r with
    | tuple h1 h2 h3 h4 =>
      simp only [rowD, PyData.tuple.injEq] at e
      subst e
      generalize ev : (_ : Array Value).toList = l at h4
      cases h4 with
      | cons g1 g2 =>
        cases g1
        cases g2 with
        | cons g3 g4 =>
          cases g4
          cases g3 with
          | tuple k1 k2 k3 k4 =>
            rw [List.nil_append, List.append_nil] at e0
            subst e0
            exact ⟨_, _, _, _, _, h1, h2, h3, ev, .inr ⟨ns, _, _, _, _, rfl, rfl, k1, k2, k3, k4⟩⟩
    | _ => cases e
theorem row_of {h : Heap} {k : RowK} {a : Addr} (hk : PyData.strOk k.1 = true) {o : Obj} {t : Tok} {u : Value} {items : Array Value} {n : Nat} (h1 : h.get? a = some o) (h2 : o.cls = .type "tuple") (h3 : o.data = .seq items n) (h4 : items.toList = [.str k.1 t, u])
    (h5 : (∃ (i : Int) (t2 : Tok), k.2 = .inl i ∧ u = .int i t2) ∨ ∃ (ns : List Int) (b : Addr) (ob : Obj) (its : Array Value) (m : Nat), k.2 = .inr ns ∧ u = .ref b ∧ h.get? b = some ob ∧ ob.cls = .type "tuple" ∧ ob.data = .seq its m ∧ ReadsAll h its.toList (ns.map PyData.int) []) : IsRow h k a := by
  refine ⟨?_, hk⟩
  obtain ⟨x, y⟩ := k
  rcases h5 with ⟨i, t2, e, rfl⟩ | ⟨ns, b, ob, its, m, e, rfl, g1, g2, g3, g4⟩
  · have e' : y = .inl i := e
    subst e'
    exact .tuple (as := []) h1 h2 h3 (by rw [h4]; exact ReadsAll.cons (as := []) (bs := []) (.str x t) (ReadsAll.cons (as := []) (bs := []) (.int i t2) .nil))
  · have e' : y = .inr ns := e
    subst e'
    exact .tuple (as := []) h1 h2 h3 (by rw [h4]; exact ReadsAll.cons (as := []) (bs := []) (.str x t) (ReadsAll.cons (as := []) (bs := []) (.tuple g1 g2 g3 g4) .nil))
theorem row_keeps {h h' : Heap} {k : RowK} {a d : Addr} {o : Obj} {es : Array DictEntry} {ep : Nat} (r : IsRow h k a) (ho : h.get? d = some o) (hd : o.data = .dict es ep) (hs : Heap.SameBut d h h') : IsRow h' k a := by
  have ne : ∀ {b : Addr} {ob : Obj} {its : Array Value} {m : Nat}, h.get? b = some ob → ob.data = .seq its m → b ≠ d := fun {b ob its m} e1 e2 z => by
    rw [z, ho] at e1
    cases e1
    rw [hd] at e2
    cases e2
  obtain ⟨o1, t, u, items, n, h1, h2, h3, h4, h5⟩ := row_parts r
  refine row_of r.2 ((hs.2 a (ne h1 h3)).trans h1) h2 h3 h4 (h5.imp id ?_)
  rintro ⟨ns, b, ob, its, m, e, eu, g1, g2, g3, g4⟩
  exact ⟨ns, b, ob, its, m, e, eu, (hs.2 b (ne g1 g3)).trans g1, g2, g3, ints_any ns _ _ g4⟩
/-- a tuple all of whose items are quiet is so -/
theorem quiet_tup {k : Nat} {a : Addr} {o : Obj} {items : Array Value} {n : Nat} {Q : Bool → Shared → Prop} (ho : s.heap.get? a = some o) (hc : o.cls = .type "tuple") (hd : o.data = .seq items n)
    (hq : ∀ v ∈ items.toList, ∀ (E' : Value → Shared → Prop) (Q' : Bool → Shared → Prop), Q' true s → wpAny (model prog w) A (eqIsQuiet k v) Q' E' s) (h : Q true s) : wpAny (model prog w) A (eqIsQuiet (k + 1) (.ref a)) Q E s := by
  have ty : s.TypeIs (.ref a) "tuple" := ⟨o, ho, hc⟩
  unfold eqIsQuiet
  refine wpAny_bind (wpAny_specialOf ty F.slot_tuple_eq.lookup ?_)
  show wpAny _ _ (isInstance (.ref a) (.type "tuple") >>= fun _ => _) _ _ s
  refine wpAny_bind (wpAny_isInstance ty isSubtype_tuple_tuple ?_)
  simp only [Bool.false_eq_true, Bool.not_true, if_false]
  refine wpAny_bind (wpAny_seqItems ho hd (wpAny_bind ?_))
  show wpAny _ _ (forIn items _ _) _ _ s
  rw [← Array.forIn_toList]
  refine wpAny_forIn_list _ (fun left acc s1 => acc.1 = none ∧ s1 = s ∧ ∀ v ∈ left, v ∈ items.toList) _ ?_ ?_ _ _ ⟨rfl, rfl, fun _ m => m⟩
  · rintro v left acc s1 ⟨e1, e2, hm⟩
    subst e2
    refine wpAny_bind (hq v (hm v List.mem_cons_self) _ _ ?_)
    simp only [Bool.false_eq_true, Bool.not_true, if_false]
    exact wpAny_pure ⟨rfl, rfl, fun u hu => hm u (List.mem_cons_of_mem _ hu)⟩
  · rintro ⟨acc1, acc2⟩ s1 ⟨e1, e2, _⟩
    subst e2
    have e1' : acc1 = none := e1
    subst e1'
    exact wpAny_pure h
theorem ints_items {h : Heap} : ∀ (ns : List Int) (vs : List Value) (as : List Addr), ReadsAll h vs (ns.map PyData.int) as → ItemsAre (intKind prog w) ns vs
  | [], _, _, r => by
    cases r
    exact .nil
  | n :: ns, _, _, r => by
    rw [List.map_cons] at r
    cases r with
    | cons h1 h2 =>
      cases h1
      exact .cons (by simp [intKind, Value.isInt]) (ints_items ns _ _ h2)
theorem row_quiet {k : RowK} {a : Addr} {Q : Bool → Shared → Prop} (r : IsRow s.heap k a) (h : Q true s) : wpAny (model prog w) A (eqIsQuiet 8 (.ref a)) Q E s := by
  obtain ⟨o, t, u, items, n, h1, h2, h3, h4, h5⟩ := row_parts r
  refine quiet_tup h1 h2 h3 (fun v hv E' Q' q => ?_) h
  rw [h4] at hv
  rcases List.mem_cons.mp hv with e | hv
  · rw [e, eqIsQuiet_byValue _ rfl]
    exact wpAny_pure q
  · rw [List.mem_singleton.mp hv]
    rcases h5 with ⟨i, t2, _, eu⟩ | ⟨ns, b, ob, its, m, _, eu, g1, g2, g3, g4⟩
    · rw [eu, eqIsQuiet_byValue _ rfl]
      exact wpAny_pure q
    · rw [eu]
      refine quiet_tup g1 g2 g3 (fun v hv E'' Q'' q' => ?_) q
      have by1 := (ints_items (prog := prog) (w := w) ns _ _ g4).byValue v hv
      rw [eqIsQuiet_byValue _ by1]
      exact wpAny_pure q'
/-- hash of a row -/
def rowH (w : World) : RowK → Int
  | (x, .inl i) => reduceHash (Builtin.Tuple.tupleHashOf [hashStr w x, hashInt i])
  | (x, .inr ns) => reduceHash (Builtin.Tuple.tupleHashOf [hashStr w x, reduceHash (Builtin.Tuple.tupleHashOf (ns.map hashInt))])
def rowN : RowK → Nat
  | (_, .inl _) => 3
  | (_, .inr ns) => 1 + (ns.length + 1) + 1
/-- v's hash is z, found with n new marks, wherever there is room -/
def HashTo (r : Nat) (prog : Program) (w : World) (h : Heap) (v : Value) (z : Int) (n : Nat) : Prop := ∀ (A : Around) (E : Value → Shared → Prop) (s : Shared) (Q : Int → Shared → Prop), A.units + r < cLine → s.heap = h → Q z { s with toks := s.toks + n } → wpAny (model prog w) A (pyHash v) Q E s
inductive AllHash (r : Nat) (prog : Program) (w : World) (h : Heap) : List Value → List Int → Nat → Prop
  | nil : AllHash r prog w h [] [] 0
  | cons {v : Value} {vs : List Value} {z : Int} {zs : List Int} {n m : Nat} : HashTo r prog w h v z n → AllHash r prog w h vs zs m → AllHash r prog w h (v :: vs) (z :: zs) (n + m)
theorem hash_tup {r : Nat} {a : Addr} {o : Obj} {items : Array Value} {n m : Nat} {zs : List Int} {Q : Int → Shared → Prop} (hu : A.units + (r + 3) < cLine) (ho : s.heap.get? a = some o) (hc : o.cls = .type "tuple") (hd : o.data = .seq items n)
    (hz : AllHash r prog w s.heap items.toList zs m) (h : Q (reduceHash (Builtin.Tuple.tupleHashOf zs)) { s with toks := s.toks + (m + 1) }) : wpAny (model prog w) A (pyHash (.ref a)) Q E s := by
  have ty : s.TypeIs (.ref a) "tuple" := ⟨o, ho, hc⟩
  unfold pyHash pyHashByItsType
  refine wpAny_bind (wpAny_cRoomFor_or (.inr (by omega)) (wpAny_bind (wpAny_specialOf ty F.slot_tuple_hash.lookup ?_)))
  show wpAny _ _ (if (some (Value.builtin "tuple.__hash__") == some Value.none) = true then _ else _) _ _ _
  rw [beq_builtin_none, if_neg Bool.false_ne_true]
  refine wpAny_bind (wpAny_specialOf ty F.slot_tuple_hash.lookup ?_)
  show wpAny _ _ (callSpecialIfBoundUnlessNone? (.ref a) "__hash__" _ >>= fun _ => _) _ _ _
  refine wpAny_bind (wpAny_callSpecialIfBoundUnlessNone?_slot ty F.slot_tuple_hash (wpAny_call_entry F.slot_tuple_hash ty F.entry_tuple_hash ?_ (F.args_tuple_hash_1 _)))
  show wpAny _ _ (Builtin.Tuple.tupleItemsOf (.ref a) >>= fun _ => _) _ _ _
  refine wpAny_bind (wpAny_tupleItemsOf ho hd (wpAny_bind ?_))
  rw [← Array.forIn_toList]
  refine wpAny_forIn_list _ (fun left (acc : Array Int) s1 => ∃ (d l : List Int) (i j : Nat), zs = d ++ l ∧ acc.toList = d ∧ i + j = m ∧ AllHash r prog w s.heap left l j ∧ s1 = { s with toks := s.toks + i }) _ ?_ ?_ _ _ ⟨[], zs, 0, m, rfl, rfl, Nat.zero_add m, hz, rfl⟩
  · rintro v left acc s1 ⟨d, l, i, j, e1, e2, e3, hl, rfl⟩
    cases hl with
    | @cons _ _ z zs' n' m' g1 g2 =>
      refine wpAny_bind (g1 _ _ _ _ ?_ rfl ?_)
      · show _ + 1 + r < cLine
        omega
      · have fin : ∃ (d' l' : List Int) (i' j' : Nat), zs = d' ++ l' ∧ (acc.push z).toList = d' ∧ i' + j' = m ∧ AllHash r prog w s.heap left l' j' ∧ ({ s with toks := s.toks + i + n' } : Shared) = { s with toks := s.toks + i' } :=
          ⟨d ++ [z], zs', i + n', m', by rw [e1]; simp, by rw [Array.toList_push, e2], by omega, g2, by rw [Nat.add_assoc]⟩
        first
          | exact wpAny_pure fin
          | exact wpAny_bind (wpAny_pure (wpAny_pure fin))
  · rintro acc s1 ⟨d, l, i, j, e1, e2, e3, hl, rfl⟩
    cases hl
    rw [List.append_nil] at e1
    subst e1
    show wpAny _ _ (retInt (Builtin.Tuple.tupleHashOf acc.toList)) _ _ _
    rw [e2]
    refine wpAny_ret_mkInt ?_
    show wpAny _ _ (if (decide (-(2 : Int) ^ 63 ≤ Builtin.Tuple.tupleHashOf zs) && decide (Builtin.Tuple.tupleHashOf zs < 2 ^ 63)) = true then _ else _) _ _ _
    have em : s.toks + i + 1 = s.toks + (m + 1) := by omega
    unfold reduceHash at h
    split
    · rename_i hr
      rw [if_pos hr] at h
      refine wpAny_pure ?_
      rw [show ({ s with toks := s.toks + i + 1 } : Shared) = { s with toks := s.toks + (m + 1) } from by rw [em]]
      exact h
    · rename_i hr
      rw [if_neg hr] at h
      refine wpAny_bind (wpAny_rule (wpAny_pure ?_))
      rw [show ({ s with toks := s.toks + i + 1 } : Shared) = { s with toks := s.toks + (m + 1) } from by rw [em]]
      exact h
theorem hash_int {r : Nat} {h : Heap} (i : Int) (t : Tok) : HashTo r prog w h (.int i t) (hashInt i) 1 := fun A E s Q _ _ q => (intKind prog w).pyHash (k := i) (by simp [intKind, Value.isInt]) q
theorem hash_str {r : Nat} {h : Heap} (x : Str) (t : Tok) : HashTo r prog w h (.str x t) (hashStr w x) 1 := fun A E s Q _ _ q => (strKind prog w).pyHash (k := x) (by simp [strKind, Value.isStrOf]) q
theorem ints_hash {r : Nat} {h : Heap} : ∀ (ns : List Int) (vs : List Value) (as : List Addr), ReadsAll h vs (ns.map PyData.int) as → AllHash r prog w h vs (ns.map hashInt) ns.length
  | [], _, _, r => by
    cases r
    exact .nil
  | n :: ns, _, _, r => by
    rw [List.map_cons] at r
    cases r with
    | cons h1 h2 =>
      cases h1
      rw [List.length_cons, Nat.add_comm]
      exact .cons (hash_int _ _) (ints_hash ns _ _ h2)
theorem row_hash {k : RowK} {a : Addr} {Q : Int → Shared → Prop} (hu : A.units + 10 < cLine) (r : IsRow s.heap k a) (h : Q (rowH w k) { s with toks := s.toks + rowN k }) : wpAny (model prog w) A (pyHash (.ref a)) Q E s := by
  obtain ⟨o, t, u, items, n, h1, h2, h3, h4, h5⟩ := row_parts r
  obtain ⟨x, y⟩ := k
  rcases h5 with ⟨i, t2, e, rfl⟩ | ⟨ns, b, ob, its, m, e, rfl, g1, g2, g3, g4⟩
  · have e' : y = .inl i := e
    subst e'
    refine hash_tup (r := 5) (m := 2) (by omega) h1 h2 h3 (zs := [hashStr w x, hashInt i]) ?_ h
    rw [h4]
    exact AllHash.cons (hash_str x t) (AllHash.cons (hash_int i t2) .nil)
  · have e' : y = .inr ns := e
    subst e'
    refine hash_tup (r := 5) (m := 1 + (ns.length + 1)) (by omega) h1 h2 h3 (zs := [hashStr w x, reduceHash (Builtin.Tuple.tupleHashOf (ns.map hashInt))]) ?_ h
    rw [h4]
    refine AllHash.cons (hash_str x t) ?_
    have z : AllHash 5 prog w s.heap [Value.ref b] [reduceHash (Builtin.Tuple.tupleHashOf (ns.map hashInt))] ((ns.length + 1) + 0) := .cons (fun A' E' s' Q' hu' hs' q' => ?_) .nil
    · exact z
    · rw [← hs'] at g1 g4
      exact hash_tup (r := 1) (by omega) g1 g2 g3 (ints_hash ns _ _ g4) q'
end
/-- rows as keys -/
def rowKind (prog : Program) (w : World) : HeapKind prog w RowK where
  is := IsRow
  hash := rowH w
  draws := rowN
  room := fun A => A.units + 64 < cLine
  inj := isRow_inj
  keeps := row_keeps
  pyHash := fun hu hk h => row_hash (by omega) hk h
  eqBool := fun hu hx hy h => row_eq hu hx hy h
  quiet := fun hk h => row_quiet hk h
end Tp
set_option Elab.async false
set_option linter.all false
set_option maxRecDepth 100000
set_option maxHeartbeats 4000000
/-! a dict the keys of which are rows of a book -/
namespace Tp
open PySem PySem.Spec PyProof.Rows L2
/-- a tuple is the row k -/
def RowAt (K : PySem.W.Frag) (H : Hp) (k : RowK) (a : Addr) : Prop := PyData.strOk k.1 = true ∧ ((∃ n : Int, k.2 = .inl n ∧ SqT K H a [.str k.1, .int n]) ∨ ∃ (ns : List Int) (b : Addr), k.2 = .inr ns ∧ SqT K H a [.str k.1, .ref b] ∧ SqT K H b (ns.map V.int))
theorem RowAt.mono {K : PySem.W.Frag} {H H' : Hp} {k : RowK} {a : Addr} (ht : ∀ b ys, SqT K H b ys → SqT K H' b ys) (h : RowAt K H k a) : RowAt K H' k a := by
  obtain ⟨h1, h2⟩ := h
  refine ⟨h1, ?_⟩
  rcases h2 with ⟨n, e, h⟩ | ⟨ns, b, e, g1, g2⟩
  · exact .inl ⟨n, e, ht _ _ h⟩
  · exact .inr ⟨ns, b, e, ht _ _ g1, ht _ _ g2⟩
theorem vals_intsR {h : Heap} : ∀ (ns : List Int) (us : List Value), Vals (ns.map V.int) us → ReadsAll h us (ns.map PyData.int) []
  | [], us, r => by
    cases us with
    | nil => exact .nil
    | cons u us => cases r
  | n :: ns, us, r => by
    rw [List.map_cons] at r ⊢
    cases r with
    | cons r1 r2 =>
      obtain ⟨t, rfl⟩ := r1
      exact ReadsAll.cons (as := []) (bs := []) (.int n t) (vals_intsR ns _ r2)
theorem row_is {X : Cx} {pins : List (Addr × Obj)} {σ : L2.St} {s : Shared} {H : Hp} {k : RowK} {a : Addr} (I : Inv X pins σ H s) (r : RowAt X.K H k a) : IsRow s.heap k a := by
  obtain ⟨h0, h1⟩ := r
  rcases h1 with ⟨n, e, ea⟩ | ⟨ns, b, e, ea, eb⟩
  · obtain ⟨its, rv, ⟨o, g1, g2, m, g3⟩, _⟩ := I.tuple ea
    obtain ⟨u1, u2, rfl, ⟨t1, rfl⟩, ⟨t2, rfl⟩⟩ := vals2 rv
    exact row_of h0 g1 g2 g3 (t := t1) (by simp) (.inl ⟨n, t2, e, rfl⟩)
  · obtain ⟨its, rv, ⟨o, g1, g2, m, g3⟩, _⟩ := I.tuple ea
    obtain ⟨jts, rj, ⟨ob, j1, j2, mj, j3⟩, _⟩ := I.tuple eb
    obtain ⟨u1, u2, rfl, ⟨t1, rfl⟩, r2⟩ := vals2 rv
    cases (show u2 = Value.ref b from r2)
    exact row_of h0 g1 g2 g3 (t := t1) (by simp) (.inr ⟨ns, b, ob, jts.toArray, mj, e, rfl, j1, j2, j3, by simpa using vals_intsR ns jts rj⟩)
/-- keys, where they lie, values -/
abbrev RowE : Type := RowK × Addr × V
abbrev KR : List RowE → List (RowK × Addr × Value) → Prop := Paired fun p q => p.1 = q.1 ∧ p.2.1 = q.2.1 ∧ RelV p.2.2 q.2.2
/-- the dict at d -/
def dRow (P : Program) (w : World) (d : Addr) (xs : List RowE) : HO := .ext fun h => xs.length ≤ sizeLine ∧ (d == sysModules) = false ∧ ∃ (ys : List (RowK × Addr × Value)) (o : Obj) (es : Array DictEntry) (ep : Nat), KR xs ys ∧ h.get? d = some o ∧ o.ExactDict ∧ o.data = .dict es ep ∧
  es.toList = ys.map (entryOfKey (rowKind P w)) ∧ (ys.map (·.1)).Nodup
def RowsIn (K : PySem.W.Frag) (H : Hp) (xs : List RowE) : Prop := ∀ x ∈ xs, RowAt K H x.1 x.2.1
def findR (xs : List RowE) (k : RowK) : Option V := (xs.find? fun x => decide (x.1 = k)).map (·.2.2)
section
variable {P : Program} {w : World} {H : Hp} {h : Heap} {d : Addr} {xs : List RowE}
theorem dRow_ok {ys : List (RowK × Addr × Value)} {o : Obj} {es : Array DictEntry} {ep : Nat} (z : xs.length ≤ sizeLine) (hd : (d == sysModules) = false) (r : KR xs ys) (h1 : h.get? d = some o) (h2 : o.ExactDict) (h3 : o.data = .dict es ep) (h4 : es.toList = ys.map (entryOfKey (rowKind P w))) (h5 : (ys.map (·.1)).Nodup) : ObjOk P w H h d (dRow P w d xs) :=
  ⟨⟨z, hd, ys, o, es, ep, r, h1, h2, h3, h4, h5⟩, ⟨o, h1⟩, fun g1 g2 q k => by
    obtain ⟨z, hd, ys, o, es, ep, r, h1, h2⟩ := q
    exact ⟨z, hd, ys, o, es, ep, r, k _ h1, h2⟩⟩
theorem find_rel (k : RowK) : ∀ {xs : List RowE} {ys : List (RowK × Addr × Value)}, KR xs ys → RelO (findR xs k) ((atKey ys k).map (·.2))
  | _, _, .nil => True.intro
  | x :: xs, y :: ys, .cons hq t => by
    have ih := find_rel k t
    unfold findR atKey at ih ⊢
    rw [List.find?_cons, List.find?_cons, hq.1]
    by_cases e : y.1 = k
    · simp only [e, decide_true]
      exact hq.2.2
    · simp only [e, decide_false]
      exact ih
end
section
variable {X : Cx} {pins : List (Addr × Obj)} {σ : L2.St} {H : Hp} {s : Shared} {d a : Addr} {xs : List RowE} {k : RowK} {A : Around} {E : Value → Shared → Prop}
theorem dRow_at (I : Inv X pins σ H s) (e : H d = some (dRow X.prog X.w d xs)) (hr : RowsIn X.K H xs) : xs.length ≤ sizeLine ∧ (d == sysModules) = false ∧ ∃ ys, KR xs ys ∧ s.heap.DictOfH (rowKind X.prog X.w) d ys := by
  have x : ObjOk X.prog X.w H s.heap d (.ext _) := I.hok d _ e
  obtain ⟨z, hd, ys, o, es, ep, r, h1, h2, h3, h4, h5⟩ := x.1
  refine ⟨z, hd, ys, r, o, es, ep, h1, h2, h3, h4, ?_, h5⟩
  have all : ∀ {l : List RowE} {m : List (RowK × Addr × Value)}, KR l m → (∀ x ∈ l, RowAt X.K H x.1 x.2.1) → ∀ y ∈ m, IsRow s.heap y.1 y.2.1 := by
    intro l m q
    induction q with
    | nil => exact fun _ y hy => absurd hy List.not_mem_nil
    | @cons p q ps qs hq t ih =>
      intro hl y hy
      rcases List.mem_cons.mp hy with e | hy
      · have := row_is I (hl p List.mem_cons_self)
        rw [e, ← hq.1, ← hq.2.1]
        exact this
      · exact ih (fun x hx => hl x (List.mem_cons_of_mem _ hx)) y hy
  exact all r hr
theorem rd_in {Q : Value → Shared → Prop} (hu : A.units + 65 < cLine) (I : Inv X pins σ H s) (e : H d = some (dRow X.prog X.w d xs)) (hr : RowsIn X.K H xs) (ek : RowAt X.K H k a) (h : ∀ s', Inv X pins σ H s' → Q (.bool (findR xs k).isSome) s') :
    wpAny (model X.prog X.w) A (compareOp .In (.ref a) (.ref d)) Q E s := by
  obtain ⟨z, hd, ys, rel, dd⟩ := dRow_at I e hr
  refine wpAny_in_heap (knd := rowKind X.prog X.w) (k := k) (show A.units + 1 + 64 < cLine from by omega) (row_is I ek) hd dd ?_
  have q := (find_rel k rel).isSome_eq
  rw [Option.isSome_map] at q
  rw [← q]
  exact h _ (I.tok _)
theorem rd_get {v : V} {Q : Value → Shared → Prop} (hu : A.units + 65 < cLine) (I : Inv X pins σ H s) (e : H d = some (dRow X.prog X.w d xs)) (hr : RowsIn X.K H xs) (ek : RowAt X.K H k a) (l : findR xs k = some v) (h : ∀ w' s', Inv X pins σ H s' → RelV v w' → Q w' s') :
    wpAny (model X.prog X.w) A (getItem (.ref d) (.ref a)) Q E s := by
  obtain ⟨z, hd, ys, rel, dd⟩ := dRow_at I e hr
  obtain ⟨w', hw, rw'⟩ := RelO.some_of (v := v) (o := (atKey ys k).map (·.2)) (by rw [← l]; exact find_rel k rel)
  obtain ⟨p, hp, hp2⟩ := Option.map_eq_some_iff.mp hw
  refine wpAny_getItem_heap (knd := rowKind X.prog X.w) (k := k) (show A.units + 1 + 64 < cLine from by omega) (row_is I ek) dd hp ?_
  rw [hp2]
  exact h w' _ (I.tok _) rw'
/-- a new row -/
theorem rd_put {v : V} {r : Value} {Q : Unit → Shared → Prop} (hu : A.units + 65 < cLine) (I : Inv X pins σ H s) (e : H d = some (dRow X.prog X.w d xs)) (hr : RowsIn X.K H xs) (ek : RowAt X.K H k a) (l : findR xs k = none) (hz : xs.length < sizeLine) (rv : RelV v r)
    (h : ∀ s', Inv X pins σ (upd H d (dRow X.prog X.w d (xs ++ [(k, a, v)]))) s' → Q () s') : wpAny (model X.prog X.w) A (setItem (.ref d) (.ref a) r) Q E s := by
  obtain ⟨z, hd, ys, rel, dd⟩ := dRow_at I e hr
  have hn : atKey ys k = none := Option.map_eq_none_iff.mp (RelO.none_of (by rw [← l]; exact find_rel k rel))
  have hzy : ys.length ≤ sizeLine := by rw [← Paired.length rel]; exact z
  refine wpAny_setItem_heap (knd := rowKind X.prog X.w) (k := k) (hsz := hzy) (show A.units + 1 + 64 < cLine from by omega) (row_is I ek) dd fun h' dd' hs => h _ ?_
  obtain ⟨o, es, ep, h1, h2, h3, h4, _, h5⟩ := dd'
  rw [storedH_new hn] at h4 h5
  exact d_write I (by rw [e]; exact True.intro) hs ⟨o, h1⟩ (dRow_ok (by rw [List.length_append, List.length_singleton]; omega) hd (Paired.snoc rel ⟨rfl, rfl, rv⟩) h1 h2 h3 h4 h5)
end
end Tp
set_option Elab.async false
set_option linter.all false
set_option maxRecDepth 100000
set_option maxHeartbeats 4000000
/-! rules: {}, row in d, row not in d, d[row], d[row] = v -/
namespace Tp
open PySem PySem.Spec PyProof.Rows L2
def tRNew (P : Program) (w : World) : TE := fun _ H Q => ∀ p, H p = none → Q (.ref p) (upd H p (dRow P w p []))
/-- what is asked of the row at a and the dict at d -/
def RowIn (P : Program) (w : World) (K : PySem.W.Frag) (H : Hp) (x y : V) (xs : List RowE) (k : RowK) (a d : Addr) : Prop := x = .ref a ∧ y = .ref d ∧ H d = some (dRow P w d xs) ∧ RowsIn K H xs ∧ RowAt K H k a
def rRIn (P : Program) (w : World) (K : PySem.W.Frag) (no : Bool) : R2 := fun x y H Q => ∃ xs k a d, RowIn P w K H x y xs k a d ∧ Q (.bl ((findR xs k).isSome != no)) H
def tRGet (P : Program) (w : World) (K : PySem.W.Frag) (td ty : TE) : TE := fun σ H Q => td σ H fun y H1 => ty σ H1 fun x H2 => ∃ xs k a d v, RowIn P w K H2 x y xs k a d ∧ findR xs k = some v ∧ Q v H2
def tRPut (P : Program) (w : World) (K : PySem.W.Frag) (td ty tv : TE) : TS := fun D σ H => tv σ H fun v H1 => td σ H1 fun y H2 => ty σ H2 fun x H3 => ∃ xs k a d, RowIn P w K H3 x y xs k a d ∧ findR xs k = none ∧ xs.length < sizeLine ∧ D.nx σ (upd H3 d (dRow P w d (xs ++ [(k, a, v)])))
section
variable {X : Cx} {o i value : Expr} {pos pos' : Pos} {td ty tv : TE}
theorem pe_rnew : PE X (.Dict [] [] pos) (tRNew X.prog X.w) := ⟨fun pins s σ H Q I h =>
  wpAny_Dict_empty ⟨.ref s.heap.objs.size, _, I.laid (a := s.heap.objs.size) (o := dRow X.prog X.w s.heap.objs.size []) (t' := s.toks) (fun _ _ q => Heap.get?_push_of_some _ q) (Nat.le_refl _)
    (dRow_ok (Nat.zero_le _) (beq_eq_false_iff_ne.mpr (Ne.symm (Nat.ne_of_lt I.big))) .nil (Heap.get?_push_size _ rfl) ⟨rfl, rfl, rfl⟩ rfl rfl List.nodup_nil), rfl, h _ (I.hok.fresh (Nat.le_refl _))⟩⟩
theorem op_rin (hu : X.A.units + 65 < cLine) : OpR X (compareOp .In) (rRIn X.prog X.w X.K false) := by
  intro pins s σ H x y u v Q I rx ry h
  obtain ⟨xs, k, a, d, ⟨rfl, rfl, ed, hr, ek⟩, q⟩ := h
  cases (show u = Value.ref a from rx)
  cases (show v = Value.ref d from ry)
  refine rd_in hu I ed hr ek fun s' J => ⟨.bl (findR xs k).isSome, H, J, rfl, ?_⟩
  rwa [Bool.bne_false] at q
theorem op_rnotIn (hu : X.A.units + 65 < cLine) : OpR X (compareOp .NotIn) (rRIn X.prog X.w X.K true) := by
  intro pins s σ H x y u v Q I rx ry h
  obtain ⟨xs, k, a, d, ⟨rfl, rfl, ed, hr, ek⟩, q⟩ := h
  cases (show u = Value.ref a from rx)
  cases (show v = Value.ref d from ry)
  obtain ⟨z, hd, ys, rel, dd⟩ := dRow_at I ed hr
  refine wpAny_notIn_heap (knd := rowKind X.prog X.w) (k := k) (show X.A.units + 1 + 64 < cLine from by omega) (row_is I ek) hd dd ⟨.bl (!(findR xs k).isSome), H, I.tok _, ?_, ?_⟩
  · have e := (find_rel k rel).isSome_eq
    rw [Option.isSome_map] at e
    rw [← e]
    rfl
  · rwa [Bool.bne_true] at q
theorem pe_rget (hu : X.A.units + 65 < cLine) (ho : PE X o td) (hi : PE X i ty) (hs : NoSl i) : PE X (.Subscript o i pos) (tRGet X.prog X.w X.K td ty) := by
  refine ⟨fun pins s σ H Q I h => ?_⟩
  refine subD_of PySem.F.slot_dict_getitem.lookup hs (thn (ho.run pins s σ H _ I h) fun u s1 ⟨y, H1, I1, r1, q1⟩ => thn (hi.run pins s1 σ H1 _ I1 q1) fun v s2 ⟨x, H2, I2, r2, xs, k, a, d, c, ⟨ex, ey, ed, hr, ek⟩, l, q2⟩ => ?_)
  subst ex ey
  cases (show u = Value.ref d from r1)
  cases (show v = Value.ref a from r2)
  obtain ⟨z, hd, ys, rel, dd⟩ := dRow_at I2 ed hr
  exact ⟨dd.typeIs, rd_get hu I2 ed hr ek l fun w' s3 I3 rw' => ⟨c, H2, I3, rw', q2⟩⟩
theorem ps_rput (hu : X.A.units + 65 < cLine) (ho : PE X o td) (hi : PE X i ty) (hv : PE X value tv) (hs : swapsWith value (some (.Subscript o i pos')) pos.line X.env = pure false) :
    PS X (.Assign [.Subscript o i pos'] value pos) (tRPut X.prog X.w X.K td ty tv) := by
  refine ⟨fun pins s σ H D I h => ?_⟩
  refine wpAny_Assign_Subscript (thn (hv.run pins s σ H _ I h) fun r s1 ⟨v, H1, I1, rv, q1⟩ => thn (ho.run pins s1 σ H1 _ I1 q1) fun u s2 ⟨y, H2, I2, r2, q2⟩ => thn (hi.run pins s2 σ H2 _ I2 q2) fun iv s3 ⟨x, H3, I3, r3, xs, k, a, d, ⟨ex, ey, ed, hr, ek⟩, l, hz, q3⟩ => ?_) hs
  subst ex ey
  cases (show u = Value.ref d from r2)
  cases (show iv = Value.ref a from r3)
  exact rd_put hu I3 ed hr ek l hz rv fun s4 I4 => ⟨σ, _, I4, q3⟩
theorem ps_rputK {P : Program} {w : World} {K : PySem.W.Frag} (eP : X.prog = P) (ew : X.w = w) (eK : X.K = K) (hu : X.A.units + 65 < cLine) (ho : PE X o td) (hi : PE X i ty) (hv : PE X value tv) (hs : swapsWith value (some (.Subscript o i pos')) pos.line X.env = pure false) :
    PS X (.Assign [.Subscript o i pos'] value pos) (tRPut P w K td ty tv) := by
  subst eP
  subst ew
  subst eK
  exact ps_rput hu ho hi hv hs
theorem pe_rnewK {P : Program} {w : World} (eP : X.prog = P) (ew : X.w = w) : PE X (.Dict [] [] pos) (tRNew P w) := by
  subst eP
  subst ew
  exact pe_rnew
end
end Tp
set_option Elab.async false
set_option linter.all false
set_option maxRecDepth 100000
set_option maxHeartbeats 4000000
/-! more on data whose repr fits; equality with an empty list -/
namespace Tp
open PySem PySem.Spec PyProof.Rows L2
theorem nice_small {i : Int} {k : Nat} (h : i.natAbs < 2 ^ k) (hk : k ≤ 999) : Nice k 0 (.int i) := by
  have hl : i.natAbs.log2 < 1000 ∧ (¬ i = 0 → i.natAbs.log2 < k) := by
    by_cases z : i.natAbs = 0
    · have : i = 0 := by omega
      subst this
      exact ⟨by decide, fun e => absurd rfl e⟩
    · have := (Nat.log2_lt z).mpr h
      exact ⟨by omega, fun _ => this⟩
  have n := nice_int hl.1
  refine ⟨n.sh, n.ls, ?_, n.dp⟩
  simp only [PyData.weight]
  split
  · omega
  · rename_i hz
    have := hl.2 (by simpa using hz)
    omega
theorem NiceAll.app {n m k j : Nat} : ∀ {ds es : List PyData}, NiceAll n k ds → NiceAll m j es → NiceAll (n + m) (max k j) (ds ++ es)
  | [], es, _, h => h.mono (by omega) (by omega)
  | d :: ds, es, h1, h2 => by
    obtain ⟨a, b, c, e⟩ := h1
    obtain ⟨a', b', c', e'⟩ := h2
    simp only [PyData.showableAll, Bool.and_eq_true] at a
    simp only [PyData.leavesShortAll, Bool.and_eq_true] at b
    simp only [PyData.weightAll] at c
    simp only [PyData.depthAll] at e
    have ih := NiceAll.app (n := PyData.weightAll ds) (k := PyData.depthAll ds) (ds := ds) ⟨a.2, b.2, Nat.le_refl _, Nat.le_refl _⟩ ⟨a', b', c', e'⟩
    refine ⟨?_, ?_, ?_, ?_⟩
    · simp only [List.cons_append, PyData.showableAll, a.1, ih.sh, Bool.and_self]
    · simp only [List.cons_append, PyData.leavesShortAll, b.1, ih.ls, Bool.and_self]
    · have := ih.wt
      simp only [List.cons_append, PyData.weightAll]
      omega
    · have := ih.dp
      simp only [List.cons_append, PyData.depthAll]
      omega
theorem niceAll_of {n k : Nat} : ∀ {ds : List PyData}, (∀ d ∈ ds, Nice n k d) → NiceAll (ds.length * (n + 1)) k ds
  | [], _ => niceAll_nil.mono (by omega) (by omega)
  | d :: ds, h => (NiceAll.cons (h d List.mem_cons_self) (niceAll_of (ds := ds) fun x hx => h x (List.mem_cons_of_mem _ hx))).mono (by rw [List.length_cons, Nat.succ_mul]; omega) (by omega)
theorem niceAll_bools : ∀ (bs : List Bool), NiceAll bs.length 0 (bs.map PyData.bool)
  | [] => niceAll_nil
  | b :: bs => (NiceAll.cons (nice_bool b) (niceAll_bools bs)).mono (by rw [List.length_cons]; omega) (by omega)
theorem ddAll_bools {K : PySem.W.Frag} {H : Hp} : ∀ (bs : List Bool), DdAll K H (bs.map V.bl) (bs.map PyData.bool)
  | [] => .nil
  | b :: bs => .cons (.bl b) (ddAll_bools bs)
theorem ddAll_strs {K : PySem.W.Frag} {H : Hp} : ∀ (bs : List Str), DdAll K H (bs.map V.str) (bs.map PyData.str)
  | [] => .nil
  | b :: bs => .cons (.str b) (ddAll_strs bs)
/-- repr(x), x data -/
theorem rReprD_of {K : PySem.W.Frag} {H : Hp} {a : Addr} {d : PyData} {n k : Nat} {Q : VK} (h : Dd K H (.ref a) d) (hn : Nice n k d) (h1 : n ≤ 8000) (h2 : k ≤ 60) (q : Q (.str d.shown) H) : rReprD K [.ref a] H Q :=
  ⟨a, d, rfl, h, hn.sh, Nat.le_trans hn.dp h2, hn.fits h1, q⟩
theorem NiceAll.mem {n k : Nat} : ∀ {ds : List PyData}, NiceAll n k ds → ∀ d ∈ ds, Nice n k d
  | d :: ds, h, x, hx => by
    obtain ⟨a, b, c, e⟩ := h
    simp only [PyData.showableAll, Bool.and_eq_true] at a
    simp only [PyData.leavesShortAll, Bool.and_eq_true] at b
    simp only [PyData.weightAll] at c
    simp only [PyData.depthAll] at e
    rcases List.mem_cons.mp hx with z | z
    · subst z
      exact ⟨a.1, b.1, by omega, by omega⟩
    · exact NiceAll.mem (ds := ds) (n := n) (k := k) ⟨a.2, b.2, by omega, by omega⟩ x z
theorem NiceAll.set {n k m j : Nat} {d : PyData} (hd : Nice m j d) : ∀ {ds : List PyData} {i : Nat}, NiceAll n k ds → NiceAll (n + m) (max k j) (ds.set i d)
  | [], i, h => h.mono (by omega) (by omega)
  | x :: ds, 0, h => by
    obtain ⟨a, b, c, e⟩ := h
    simp only [PyData.showableAll, Bool.and_eq_true] at a
    simp only [PyData.leavesShortAll, Bool.and_eq_true] at b
    simp only [PyData.weightAll] at c
    simp only [PyData.depthAll] at e
    exact (NiceAll.cons hd (m := PyData.weightAll ds) (j := PyData.depthAll ds) ⟨a.2, b.2, Nat.le_refl _, Nat.le_refl _⟩).mono (by omega) (by omega)
  | x :: ds, i + 1, h => by
    obtain ⟨a, b, c, e⟩ := h
    simp only [PyData.showableAll, Bool.and_eq_true] at a
    simp only [PyData.leavesShortAll, Bool.and_eq_true] at b
    simp only [PyData.weightAll] at c
    simp only [PyData.depthAll] at e
    have ih := NiceAll.set hd (ds := ds) (i := i) (n := PyData.weightAll ds) (k := PyData.depthAll ds) ⟨a.2, b.2, Nat.le_refl _, Nat.le_refl _⟩
    exact (NiceAll.cons (d := x) ⟨a.1, b.1, Nat.le_refl _, Nat.le_refl _⟩ ih).mono (by omega) (by omega)
/-! a short text lies in a light datum -/
mutual
theorem short_of_weight : ∀ (d : PyData), d.weight ≤ 5000 → shortD d = true
  | .none, _ => rfl
  | .bool _, _ => rfl
  | .int _, _ => rfl
  | .dict _, _ => rfl
  | .str z, h => by
    simp only [shortD]
    refine decide_eq_true ?_
    simp only [PyData.weight] at h
    exact h
  | .list ds, h => by
    simp only [PyData.weight] at h
    simp only [shortD]
    exact short_of_weightAll ds h
  | .tuple ds, h => by
    simp only [PyData.weight] at h
    simp only [shortD]
    exact short_of_weightAll ds h
theorem short_of_weightAll : ∀ (ds : List PyData), PyData.weightAll ds ≤ 5000 → shortAll ds = true
  | [], _ => rfl
  | d :: ds, h => by
    simp only [PyData.weightAll] at h
    simp only [shortAll, Bool.and_eq_true]
    exact ⟨short_of_weight d (by omega), short_of_weightAll ds (by omega)⟩
end
theorem len_of_weight : ∀ (ds : List PyData), ds.length ≤ PyData.weightAll ds
  | [] => Nat.le_refl _
  | d :: ds => by
    have := len_of_weight ds
    simp only [PyData.weightAll, List.length_cons]
    omega
theorem eqv_nil (ds : List PyData) : PyData.eqv (.list ds) (.list []) = ds.isEmpty := by
  cases ds <;> simp [PyData.eqv, PyData.eqvAll]
theorem canLay_strs : ∀ (ys : List Str), (∀ y ∈ ys, ∀ c ∈ TL.tl y, c < 256) → PyData.canLayAll0 (ys.map PyData.str) = true
  | [], _ => rfl
  | y :: ys, h => by
    simp only [List.map_cons, PyData.canLayAll0, Bool.and_eq_true]
    refine ⟨?_, canLay_strs ys fun z hz => h z (List.mem_cons_of_mem _ hz)⟩
    simp only [PyData.canLay0, PyData.strOk]
    rw [← Array.all_toList]
    exact List.all_eq_true.mpr fun c hc => decide_eq_true (Nat.lt_trans (h y List.mem_cons_self c hc) (by decide))
theorem depth_strs : ∀ (ys : List Str), PyData.depthAll (ys.map PyData.str) = 0
  | [] => rfl
  | y :: ys => by
    simp only [List.map_cons, PyData.depthAll, PyData.depth, depth_strs ys]
    rfl
theorem shaped_strs {ys : List Str} (h : ∀ y ∈ ys, ∀ c ∈ TL.tl y, c < 256) : SeqAt.shaped (.list (ys.map PyData.str)) = true := by
  unfold SeqAt.shaped
  rw [Bool.and_eq_true]
  refine ⟨by simpa only [PyData.canLay0] using canLay_strs ys h, decide_eq_true ?_⟩
  simp only [PyData.depth, depth_strs]
  decide
end Tp
set_option Elab.async false
set_option linter.all false
set_option maxRecDepth 100000
set_option maxHeartbeats 4000000
/-! books: the rows, the tables beside them, where they stand; max with a default -/
namespace Tp
open PySem PySem.Spec PyProof.Rows L2
/-! ### max(xs, default=k) -/
def rMaxDef (K : PySem.W.Frag) : List V → List V → Hp → VK → Prop := fun vs zs H Q => ∃ (a : Addr) (ns : List Int) (k : Int), vs = [.ref a] ∧ zs = [.int k] ∧ SqL K H a (ns.map V.int) ∧ ∀ m : Int, (ns = [] ∧ m = k ∨ m ∈ ns ∧ ∀ n ∈ ns, n ≤ m) → Q (.int m) H
open PySem.W (maxOf DatumOrd Datum max_list_datum_default) in
theorem maxOf_is : ∀ (ys : List Int) (y : Int), (maxOf y ys ∈ y :: ys) ∧ ∀ n ∈ y :: ys, n ≤ maxOf y ys
  | [], y => ⟨List.mem_cons_self, fun n hn => by
      have : n = y := by simpa using hn
      rw [this]
      exact Int.le_refl _⟩
  | z :: ys, y => by
    have e : maxOf y (z :: ys) = maxOf (if DatumOrd.lt y z = true then z else y) ys := rfl
    have lt : DatumOrd.lt y z = decide (y < z) := rfl
    rw [e, lt]
    by_cases h : y < z
    · rw [decide_eq_true h, if_pos rfl]
      obtain ⟨h1, h2⟩ := maxOf_is ys z
      refine ⟨List.mem_cons_of_mem _ h1, fun n hn => ?_⟩
      rcases List.mem_cons.mp hn with rfl | hn
      · exact Int.le_trans (Int.le_of_lt h) (h2 z List.mem_cons_self)
      · exact h2 n hn
    · rw [decide_eq_false h, if_neg (by decide)]
      obtain ⟨h1, h2⟩ := maxOf_is ys y
      refine ⟨?_, fun n hn => ?_⟩
      · rcases List.mem_cons.mp h1 with e | e
        · rw [e]
          exact List.mem_cons_self
        · exact List.mem_cons_of_mem _ (List.mem_cons_of_mem _ e)
      · rcases List.mem_cons.mp hn with rfl | hn
        · exact h2 n List.mem_cons_self
        · rcases List.mem_cons.mp hn with rfl | hn
          · exact Int.le_trans (Int.not_lt.mp h) (h2 y List.mem_cons_self)
          · exact h2 n (List.mem_cons_of_mem _ hn)
open PySem.W (Datum) in
theorem ints_hold {h : Heap} : ∀ {its : List Value} {ns : List Int}, Vals (ns.map V.int) its → ReadsAll h its (ns.map Datum.toD) []
  | its, [], r => by
    cases its with
    | nil => exact .nil
    | cons u us => cases r
  | its, n :: ns, r => by
    rw [List.map_cons] at r ⊢
    cases r with
    | cons r1 r2 =>
      obtain ⟨t, rfl⟩ := r1
      exact ReadsAll.cons (as := []) (bs := []) (.int n t) (ints_hold r2)
open PySem.W (maxOf DatumOrd Datum max_list_datum_default) in
theorem cr_maxDef {X : Cx} (hc : X.calm = true) (hu : X.A.units + 64 < cLine) : CallRK X (.builtin "max") [Str.ofString "default"] (rMaxDef X.K) := by
  intro pins s σ H vs zs us ws Q I r rz h
  obtain ⟨a, ns, k, rfl, rfl, hs, q⟩ := h
  obtain ⟨its, rv, hl, _⟩ := I.list hs
  rw [Vals.ref1 r]
  obtain ⟨w1, rfl, t, rfl⟩ := vals1 rz
  refine max_list_datum_default (xs := ns) (I.ok.hd hc) hl.isList ⟨_, ints_hold (by simpa using rv)⟩ ?_ (fun e h' tk hk => ⟨.int k, H, I.kept hk, ⟨_, rfl⟩, q k (.inl ⟨e, rfl⟩)⟩) fun y ys i v h' tk e hi hv hk => ?_
  · show X.A.units + 1 + 0 < cLine
    omega
  · obtain ⟨as, hr⟩ := hv
    have hr : Reads h' v (.int (maxOf y ys)) as := hr
    cases hr
    subst e
    exact ⟨.int _, H, I.kept hk, ⟨_, rfl⟩, q _ (.inr (maxOf_is ys y))⟩
/-! ### the rows of a book, and the tables beside them -/
/-- the numbers of the arguments -/
def argsK : RowK → List Int
  | (_, .inl _) => []
  | (_, .inr ns) => ns
/-- a term as a text, from the texts of its arguments -/
def textK : RowK → List Str → Str
  | (x, .inl n), _ => x ++ "@" ++ toString n
  | (x, .inr []), _ => x
  | (x, .inr (_ :: _)), ts => x ++ "(" ++ Txt.join "," ts ++ ")"
def atL (l : List Int) (i : Int) : Int := l.getD i.toNat 0
def sumAt (l : List Int) (k : RowK) : Int := ((argsK k).map (atL l)).sum
def maxAt (l : List Int) (k : RowK) : Int := ((argsK k).map (atL l)).foldl max 0
def bareK (k : RowK) : Int := ((textK k (List.replicate (argsK k).length ("" : Str))).length : Nat)
def szs : List RowK → List Int := fun rs => rs.foldl (fun l k => l ++ [1 + sumAt l k]) []
def dps : List RowK → List Int := fun rs => rs.foldl (fun l k => l ++ [1 + maxAt l k]) []
def lns : List RowK → List Int := fun rs => rs.foldl (fun l k => l ++ [bareK k + sumAt l k]) []
theorem szs_snoc (rs : List RowK) (k : RowK) : szs (rs ++ [k]) = szs rs ++ [1 + sumAt (szs rs) k] := by unfold szs; rw [List.foldl_append]; rfl
theorem dps_snoc (rs : List RowK) (k : RowK) : dps (rs ++ [k]) = dps rs ++ [1 + maxAt (dps rs) k] := by unfold dps; rw [List.foldl_append]; rfl
theorem lns_snoc (rs : List RowK) (k : RowK) : lns (rs ++ [k]) = lns rs ++ [bareK k + sumAt (lns rs) k] := by unfold lns; rw [List.foldl_append]; rfl
theorem fold_len {g : List Int → RowK → Int} : ∀ (rs : List RowK) (l : List Int), (rs.foldl (fun l k => l ++ [g l k]) l).length = l.length + rs.length
  | [], _ => rfl
  | k :: rs, l => by
    rw [List.foldl_cons, fold_len rs, List.length_append, List.length_singleton, List.length_cons]
    omega
theorem szs_len (rs : List RowK) : (szs rs).length = rs.length := by unfold szs; rw [fold_len (g := fun l k => 1 + sumAt l k)]; simp
theorem dps_len (rs : List RowK) : (dps rs).length = rs.length := by unfold dps; rw [fold_len (g := fun l k => 1 + maxAt l k)]; simp
theorem lns_len (rs : List RowK) : (lns rs).length = rs.length := by unfold lns; rw [fold_len (g := fun l k => bareK k + sumAt l k)]; simp
theorem max_fold : ∀ (ns : List Int) (m b : Int), (∀ n ∈ ns, n ≤ m) → b ≤ m → (m = b ∨ m ∈ ns) → ns.foldl max b = m
  | [], m, b, _, _, h => h.elim (fun e => e.symm) fun z => absurd z List.not_mem_nil
  | n :: ns, m, b, h, hb, hm => by
    have h0 := h n List.mem_cons_self
    refine max_fold ns m (max b n) (fun x hx => h x (List.mem_cons_of_mem _ hx)) (by omega) ?_
    rcases hm with e | e
    · exact .inl (by omega)
    · rcases List.mem_cons.mp e with e | e
      · exact .inl (by omega)
      · exact .inr e
theorem max_is {ns : List Int} {m : Int} (h : ns = [] ∧ m = 0 ∨ m ∈ ns ∧ ∀ n ∈ ns, n ≤ m) (h0 : ∀ n ∈ ns, 0 ≤ n) : m = ns.foldl max 0 := by
  rcases h with ⟨rfl, rfl⟩ | ⟨h1, h2⟩
  · rfl
  · exact (max_fold ns m 0 h2 (h0 m h1) (.inr h1)).symm
theorem fold_ge : ∀ (ns : List Int) (b : Int), b ≤ ns.foldl max b
  | [], b => Int.le_refl b
  | n :: ns, b => by
    have := fold_ge ns (max b n)
    show b ≤ ns.foldl max (max b n)
    omega
theorem fold_pos {g : List Int → RowK → Int} (hg : ∀ l k, 0 ≤ g l k) : ∀ (rs : List RowK) (l : List Int), (∀ x ∈ l, 0 ≤ x) → ∀ x ∈ rs.foldl (fun l k => l ++ [g l k]) l, 0 ≤ x
  | [], _, h => h
  | k :: rs, l, h => fold_pos hg rs _ fun x hx => by
    rcases List.mem_append.mp hx with e | e
    · exact h x e
    · rw [List.mem_singleton.mp e]
      exact hg l k
theorem dps_pos (rs : List RowK) : ∀ x ∈ dps rs, 0 ≤ x := fold_pos (g := fun l k => 1 + maxAt l k) (fun l k => by
  have := fold_ge ((argsK k).map (atL l)) 0
  unfold maxAt
  omega) rs [] fun x hx => absurd hx List.not_mem_nil
theorem atL_pos {l : List Int} (h : ∀ x ∈ l, 0 ≤ x) (i : Int) : 0 ≤ atL l i := by
  unfold atL
  rw [List.getD_eq_getElem?_getD]
  cases e : l[i.toNat]? with
  | none => exact Int.le_refl 0
  | some x => exact h x (List.mem_of_getElem? e)
/-- may the row stand behind n rows? -/
def OkK (n : Nat) (k : RowK) : Prop := nameB (TL.tl k.1) = true ∧ match k.2 with
  | .inl t => 0 ≤ t ∧ t.natAbs.log2 < 1000
  | .inr ns => ns.length ≤ 3 ∧ ∀ i ∈ ns, 0 ≤ i ∧ i < (n : Int)
def OkRows (rs : List RowK) : Prop := ∀ i k, rs[i]? = some k → OkK i k
theorem okRows_nil : OkRows [] := fun i k e => by simp at e
theorem okRows_snoc {rs : List RowK} {k : RowK} (h : OkRows rs) (hk : OkK rs.length k) : OkRows (rs ++ [k]) := fun i j e => by
  rcases Nat.lt_or_ge i rs.length with hi | hi
  · rw [List.getElem?_append_left hi] at e
    exact h i j e
  · rw [List.getElem?_append_right hi] at e
    have h0 : i - rs.length = 0 := by
      rcases Nat.eq_zero_or_pos (i - rs.length) with z | z
      · exact z
      · rw [List.getElem?_eq_none (by rw [List.length_singleton]; omega)] at e
        cases e
    rw [h0] at e
    cases e
    have : i = rs.length := by omega
    rw [this]
    exact hk
theorem name_ok {x : Str} (h : nameB (TL.tl x) = true) : PyData.strOk x = true ∧ x.length ≤ 8 := by
  unfold nameB at h
  simp only [Bool.and_eq_true, decide_eq_true_eq] at h
  obtain ⟨⟨_, h1⟩, _, h2⟩ := h
  refine ⟨?_, by rw [TL.len_tl]; exact h1⟩
  have h3 : ∀ c ∈ TL.tl x, c < 0x110000 := fun c hc => by
    have := (List.all_eq_true.mp h2) c hc
    simp only [lowB, digB, Bool.or_eq_true, decide_eq_true_eq] at this
    omega
  show x.cps.all _ = true
  rw [← Array.all_toList]
  exact List.all_eq_true.mpr fun c hc => decide_eq_true (h3 c hc)
/-- what the dict holds -/
def entR : Nat → List RowK → List Addr → List RowE
  | i, k :: ks, a :: as => (k, a, .int (i : Nat)) :: entR (i + 1) ks as
  | _, _, _ => []
theorem entR_snoc : ∀ (i : Nat) (ks : List RowK) (as : List Addr) (k : RowK) (a : Addr), ks.length = as.length → entR i (ks ++ [k]) (as ++ [a]) = entR i ks as ++ [(k, a, .int ((i + ks.length : Nat)))]
  | i, [], [], k, a, _ => rfl
  | i, x :: ks, y :: as, k, a, h => by
    have ih := entR_snoc (i + 1) ks as k a (by simpa using h)
    show (x, y, V.int (i : Nat)) :: entR (i + 1) (ks ++ [k]) (as ++ [a]) = _
    rw [ih]
    have e : i + 1 + ks.length = i + (x :: ks).length := by rw [List.length_cons]; omega
    rw [e]
    rfl
  | _, [], _ :: _, _, _, h => by cases h
  | _, _ :: _, [], _, _, h => by cases h
theorem entR_len : ∀ (i : Nat) (ks : List RowK) (as : List Addr), ks.length = as.length → (entR i ks as).length = ks.length
  | i, [], [], _ => rfl
  | i, x :: ks, y :: as, h => congrArg Nat.succ (entR_len (i + 1) ks as (by simpa using h))
  | _, [], _ :: _, h => by cases h
  | _, _ :: _, [], h => by cases h
theorem findR_none : ∀ (i : Nat) (ks : List RowK) (as : List Addr) (k : RowK), k ∉ ks → findR (entR i ks as) k = none
  | i, [], _, k, _ => rfl
  | i, x :: ks, [], k, _ => rfl
  | i, x :: ks, y :: as, k, h => by
    have ih := findR_none (i + 1) ks as k fun z => h (List.mem_cons_of_mem _ z)
    unfold findR at ih ⊢
    show (List.find? _ ((x, y, V.int (i : Nat)) :: entR (i + 1) ks as)).map _ = none
    rw [List.find?_cons, show decide (x = k) = false from decide_eq_false fun z => h (by rw [z]; exact List.mem_cons_self)]
    exact ih
theorem findR_some : ∀ (i : Nat) (ks : List RowK) (as : List Addr) (k : RowK) (j : Nat), ks.length = as.length → ks[j]? = some k → (∀ m, m < j → ks[m]? ≠ some k) → findR (entR i ks as) k = some (.int ((i + j : Nat)))
  | i, x :: ks, y :: as, k, 0, hl, e, _ => by
    have e' : x = k := by simpa using e
    unfold findR
    show (List.find? _ ((x, y, V.int (i : Nat)) :: entR (i + 1) ks as)).map _ = _
    rw [List.find?_cons, show decide (x = k) = true from decide_eq_true e']
    rfl
  | i, x :: ks, y :: as, k, j + 1, hl, e, hn => by
    have ih := findR_some (i + 1) ks as k j (by simpa using hl) (by simpa using e) fun m hm => by
      have := hn (m + 1) (by omega)
      simpa using this
    unfold findR at ih ⊢
    show (List.find? _ ((x, y, V.int (i : Nat)) :: entR (i + 1) ks as)).map _ = _
    have hx : x ≠ k := fun z => hn 0 (by omega) (by rw [z]; rfl)
    rw [List.find?_cons, show decide (x = k) = false from decide_eq_false hx]
    have e2 : i + 1 + j = i + (j + 1) := by omega
    rw [← e2]
    exact ih
  | _, [], _, _, _, _, e, _ => by simp at e
  | _, _ :: _, [], _, _, h, _, _ => by cases h
end Tp
set_option Elab.async false
set_option linter.all false
set_option maxRecDepth 100000
set_option maxHeartbeats 4000000
/-! where a book stands, and that it stands on -/
namespace Tp
open PySem PySem.Spec PyProof.Rows L2
def NotTup (H : Hp) (b : Addr) : Prop := ∀ xs, ¬ Rd H b (.tup xs)
/-- all that was tracked is as it was, but at S -/
def Frame (S : List Addr) (H H' : Hp) : Prop := ∀ b o, b ∉ S → H b = some o → H' b = some o
theorem Frame.of {S : List Addr} {H H' : Hp} (s : Same H H') : Frame S H H' := fun b o _ e => s b o e
theorem Frame.tr {S : List Addr} {A B D : Hp} (a : Frame S A B) (b : Frame S B D) : Frame S A D := fun x o h e => b x o h (a x o h e)
theorem Frame.wide {S T : List Addr} {H H' : Hp} (h : Frame S H H') (hs : ∀ b ∈ S, b ∈ T) : Frame T H H' := fun b o hb e => h b o (fun z => hb (hs b z)) e
theorem Frame.put {S : List Addr} {H : Hp} {l : Addr} {o : HO} (h : l ∈ S) : Frame S H (upd H l o) := fun b u hb e => by
  rw [upd_ne fun z => hb (by rw [z]; exact h)]
  exact e
theorem SqT.fr {K : PySem.W.Frag} {S : List Addr} {H H' : Hp} {a : Addr} {xs : List V} (f : Frame S H H') (hS : ∀ b ∈ S, NotTup H b) (h : SqT K H a xs) : SqT K H' a xs := by
  rcases h with h | h
  · have hn : a ∉ S := fun z => hS a z xs h
    rcases h with h | ⟨o, h⟩
    · exact .inl (.inl (f _ _ hn h))
    · exact .inl (.inr ⟨o, f _ _ hn h⟩)
  · exact .inr h
theorem not_lst {H : Hp} {b : Addr} {xs : List V} (h : H b = some (.lst xs)) : NotTup H b := fun ys r => by
  rcases r with r | ⟨o, r⟩
  · rw [h] at r
    cases r
  · rw [h] at r
    cases r
theorem not_ext {H : Hp} {b : Addr} {p : Heap → Prop} (h : H b = some (.ext p)) : NotTup H b := fun ys r => by
  rcases r with r | ⟨o, r⟩
  · rw [h] at r
    cases r
  · rw [h] at r
    cases r
abbrev bkF : List Str := ["_rows", "_numbers", "_sizes", "_depths", "_lengths"]
/-- a book at p; its lists and its dict at fp; its rows -/
structure BookAt (P : Program) (w : World) (K : PySem.W.Frag) (H : Hp) (C p : Addr) (fp : List Addr) (rs : List RowK) : Prop where
  ex : ∃ (dx l1 d l2 l3 l4 : Addr) (as : List Addr) (fs : List (Str × V)), fp = [l1, d, l2, l3, l4] ∧ fp.Nodup ∧ H p = some (.ins C dx fs) ∧
    fs.lookup ("_rows" : Str) = some (.ref l1) ∧ fs.lookup ("_numbers" : Str) = some (.ref d) ∧ fs.lookup ("_sizes" : Str) = some (.ref l2) ∧ fs.lookup ("_depths" : Str) = some (.ref l3) ∧ fs.lookup ("_lengths" : Str) = some (.ref l4) ∧ (∀ m, m ∉ bkF → fs.lookup m = none) ∧
    as.length = rs.length ∧ (∀ (i : Nat) (k : RowK) (a : Addr), rs[i]? = some k → as[i]? = some a → RowAt K H k a) ∧
    H l1 = some (.lst (as.map V.ref)) ∧ H d = some (dRow P w d (entR 0 rs as)) ∧ H l2 = some (.lst ((szs rs).map V.int)) ∧ H l3 = some (.lst ((dps rs).map V.int)) ∧ H l4 = some (.lst ((lns rs).map V.int)) ∧
    rs.Nodup ∧ OkRows rs ∧ rs.length ≤ 5000
section
variable {P : Program} {w : World} {K : PySem.W.Frag} {H H' : Hp} {C p : Addr} {fp : List Addr} {rs : List RowK}
theorem BookAt.notTup (B : BookAt P w K H C p fp rs) : ∀ b ∈ fp, NotTup H b := by
  obtain ⟨dx, l1, d, l2, l3, l4, as, fs, rfl, _, _, _, _, _, _, _, _, _, _, h1, h2, h3, h4, h5, _⟩ := B.ex
  intro b hb
  simp only [List.mem_cons, List.not_mem_nil, or_false] at hb
  rcases hb with rfl | rfl | rfl | rfl | rfl
  · exact not_lst h1
  · exact not_ext h2
  · exact not_lst h3
  · exact not_lst h4
  · exact not_lst h5
theorem BookAt.off (B : BookAt P w K H C p fp rs) : p ∉ fp := by
  obtain ⟨dx, l1, d, l2, l3, l4, as, fs, rfl, _, hp, _, _, _, _, _, _, _, _, h1, h2, h3, h4, h5, _⟩ := B.ex
  intro hb
  simp only [List.mem_cons, List.not_mem_nil, or_false] at hb
  rcases hb with rfl | rfl | rfl | rfl | rfl
  · rw [h1] at hp; cases hp
  · rw [h2] at hp; cases hp
  · rw [h3] at hp; cases hp
  · rw [h4] at hp; cases hp
  · rw [h5] at hp; cases hp
theorem BookAt.fr {S : List Addr} (B : BookAt P w K H C p fp rs) (f : Frame S H H') (hS : ∀ b ∈ S, NotTup H b) (hp : p ∉ S) (hf : ∀ b ∈ fp, b ∉ S) : BookAt P w K H' C p fp rs := by
  obtain ⟨dx, l1, d, l2, l3, l4, as, fs, rfl, nd, h0, a1, a2, a3, a4, a5, a6, b1, b2, h1, h2, h3, h4, h5, b3⟩ := B.ex
  exact ⟨⟨dx, l1, d, l2, l3, l4, as, fs, rfl, nd, f _ _ hp h0, a1, a2, a3, a4, a5, a6, b1, fun i k a e1 e2 => (b2 i k a e1 e2).mono fun b ys => SqT.fr f hS,
    f _ _ (hf _ (by simp)) h1, f _ _ (hf _ (by simp)) h2, f _ _ (hf _ (by simp)) h3, f _ _ (hf _ (by simp)) h4, f _ _ (hf _ (by simp)) h5, b3⟩⟩
theorem BookAt.up (B : BookAt P w K H C p fp rs) (s : Same H H') : BookAt P w K H' C p fp rs :=
  B.fr (S := []) (Frame.of s) (fun _ h => absurd h List.not_mem_nil) List.not_mem_nil fun _ _ => List.not_mem_nil
theorem BookAt.there (B : BookAt P w K H C p fp rs) : ∃ dx fs, H p = some (.ins C dx fs) ∧ ∀ m, m ∉ bkF → fs.lookup m = none := by
  obtain ⟨dx, l1, d, l2, l3, l4, as, fs, rfl, nd, h0, a1, a2, a3, a4, a5, a6, _⟩ := B.ex
  exact ⟨dx, fs, h0, a6⟩
end
/-- the rows with one more, if it is new -/
def hasR (rs : List RowK) (k : RowK) : Bool := rs.any fun j => decide (j = k)
theorem hasR_iff {rs : List RowK} {k : RowK} : hasR rs k = true ↔ k ∈ rs := by
  unfold hasR
  rw [List.any_eq_true]
  exact ⟨fun ⟨j, hj, e⟩ => by rw [← of_decide_eq_true e]; exact hj, fun h => ⟨k, h, decide_eq_true rfl⟩⟩
theorem hasR_not {rs : List RowK} {k : RowK} (h : hasR rs k = false) : k ∉ rs := fun z => by rw [hasR_iff.mpr z] at h; cases h
def addR (rs : List RowK) (k : RowK) : List RowK := if hasR rs k = true then rs else rs ++ [k]
def posR (rs : List RowK) (k : RowK) : Nat := (addR rs k).findIdx fun j => decide (j = k)
theorem posR_old {rs : List RowK} {k : RowK} (h : hasR rs k = true) : addR rs k = rs ∧ rs[posR rs k]? = some k ∧ ∀ m, m < posR rs k → rs[m]? ≠ some k := by
  have e : addR rs k = rs := by unfold addR; rw [if_pos h]
  unfold posR
  rw [e]
  have hl : rs.findIdx (fun j => decide (j = k)) < rs.length := List.findIdx_lt_length_of_exists ⟨k, hasR_iff.mp h, decide_eq_true rfl⟩
  refine ⟨rfl, ?_, fun m hm z => ?_⟩
  · rw [List.getElem?_eq_getElem hl]
    exact congrArg some (of_decide_eq_true (List.findIdx_getElem (p := fun j => decide (j = k)) (w := hl)))
  · have hlt : m < rs.length := by omega
    rw [List.getElem?_eq_getElem hlt] at z
    have z' := Option.some.inj z
    have := List.not_of_lt_findIdx (p := fun j => decide (j = k)) (xs := rs) (i := m) hm
    rw [decide_eq_true z'] at this
    cases this
theorem posR_new {rs : List RowK} {k : RowK} (h : hasR rs k = false) : addR rs k = rs ++ [k] ∧ posR rs k = rs.length := by
  have e : addR rs k = rs ++ [k] := by unfold addR; rw [if_neg (by rw [h]; decide)]
  unfold posR
  rw [e]
  refine ⟨rfl, ?_⟩
  rw [List.findIdx_append, List.findIdx_eq_length_of_false fun x hx => decide_eq_false fun z => hasR_not h (by rw [← z]; exact hx)]
  simp [List.findIdx_cons]
/-- what the written part says of the class -/
structure TxtBk (K : PySem.W.Frag) (C : Addr) : Prop where
  cl : Cls K C
  no : ∀ f ∈ bkF, NoAttr K C f
theorem raise_e {K : PySem.W.Frag} {H0 H1 : Hp} {C : Addr} {n : Str} {ns : List Str} {vs : List V} {Q : XK} (hT : ExK K C) (s : Same H0 H1) (hl : vs.length = (n :: ns).length) (hn : (n :: ns).length ≤ 1000) (q : ∀ H' dd fs, Same H1 H' → H' dd = some (exd dd fs) → Has fs (n :: ns) vs → Q (.ref C) (some dd) H') :
    vs.length = (n :: ns).length ∧ (n :: ns).length ≤ 1000 ∧ ∀ a H', H1 a = none → Same H1 H' → ExI H' a C (n :: ns) vs → ∃ (a' C' : Addr) (d : Option Addr), V.ref a = .ref a' ∧ H' a' = some (exo a' C' d) ∧ Fr0 H0 a' ∧ ExK K C' ∧ Q (.ref C') d (delH H' a') := by
  refine ⟨hl, hn, fun a H' ha sm he => ?_⟩
  obtain ⟨fs, hA, hf⟩ := he
  have fr : Fr0 H0 a := fun o ho => by
    rw [s a o ho] at ha
    cases ha
  rcases hA with ⟨rfl, hA⟩ | ⟨dx, ne, hA, hd⟩
  · match vs, hl with
    | v :: vs, _ => exact absurd (hf 0 n v rfl rfl) (by simp)
  · exact ⟨a, C, some dx, rfl, hA, fr, hT, q _ dx fs (fun b o e => (delH_ne (ne_of_none e ha)).trans (sm b o e)) ((delH_ne ne).trans hd) hf⟩
theorem Vk.int_k {K : PySem.W.Frag} {H : Hp} {i : Int} {k : String} (h : Vk K H (.int i) k) : k = "int" := by
  have e1 : ∀ u ∈ tys6, ansB k u = ansB "int" u := by
    rcases h.kd with ⟨t, ty, e⟩ | ⟨a, D, fs, e1, _⟩
    · have et : t = .type "int" := by
        cases ty with
        | base b => cases b; rfl
      subst et
      intro u hu
      have h1 := e u hu
      have h2 : PySem.W.kitOne K (.type "int") (.type u) = some (ansB "int" u) := kit_ty (of_decide_eq_true (List.all_eq_true.mp (show tys6.all (fun u => decide (kitB "int" u = some (ansB "int" u))) = true by decide +kernel) u hu))
      rw [h1] at h2
      exact Option.some.inj h2
    · cases e1
  have a1 := e1 "int" (by decide)
  have a2 := e1 "bool" (by decide)
  have := ans_int (k := k) (by rw [a1]; decide)
  rw [a2] at this
  have h3 : (k == "int") = true := by rw [← this]; decide
  exact eq_of_beq h3
theorem Vk.str_k {K : PySem.W.Frag} {H : Hp} {z : Str} {k : String} (h : Vk K H (.str z) k) : k = "str" := by
  have e1 : ∀ u ∈ tys6, ansB k u = ansB "str" u := by
    rcases h.kd with ⟨t, ty, e⟩ | ⟨a, D, fs, e1, _⟩
    · have et : t = .type "str" := by
        cases ty with
        | base b => cases b; rfl
      subst et
      intro u hu
      have h1 := e u hu
      have h2 : PySem.W.kitOne K (.type "str") (.type u) = some (ansB "str" u) := kit_ty (of_decide_eq_true (List.all_eq_true.mp (show tys6.all (fun u => decide (kitB "str" u = some (ansB "str" u))) = true by decide +kernel) u hu))
      rw [h1] at h2
      exact Option.some.inj h2
    · cases e1
  have a1 := e1 "str" (by decide)
  rw [ans_str, ans_str] at a1
  exact eq_of_beq (a1.trans rfl)
theorem name_to {K : PySem.W.Frag} {H : Hp} {x : V} {k : String} {Q : VK} {E : XK} (hv : Vk K H x k) (q : ∀ H1, Same H H1 → Q (.bl (nameV x)) H1) : spName K [x] H Q E :=
  ⟨x, k, rfl, hv, fun hk => by
    have e : nameV x = false := by
      cases x with
      | str z => exact absurd hv.str_k hk
      | _ => rfl
    have := q H (Same.refl _)
    rwa [e] at this, fun z hz H1 s1 => by
    subst hz
    exact q H1 s1⟩
/-- the methods that ask for numbers -/
def numV (n : Nat) : V → Bool
  | .int i => decide (0 ≤ i ∧ i < (n : Int))
  | _ => false
def spHas (P : Program) (w : World) (K : PySem.W.Frag) (C : Addr) : Sp := fun vs H Q _ => ∃ (p : Addr) (fp : List Addr) (rs : List RowK) (x : V) (k : String), vs = [.ref p, x] ∧ BookAt P w K H C p fp rs ∧ Vk K H x k ∧ Q (.bl (numV rs.length x)) H
def spHasAll (P : Program) (w : World) (K : PySem.W.Frag) (C : Addr) : Sp := fun vs H Q _ => ∃ (p b : Addr) (fp : List Addr) (rs : List RowK) (ys : List V), vs = [.ref p, .ref b] ∧ BookAt P w K H C p fp rs ∧ SqA K H b ys ∧ ys.length ≤ 5000 ∧ (∀ y ∈ ys, ∃ k, Vk K H y k) ∧ ∀ H', Same H H' → Q (.bl (ys.all (numV rs.length))) H'
/-- raised: a class, a field, its value -/
def Rsd (E : XK) (H : Hp) (C : Addr) (n : Str) (x : V) : Prop := ∀ H' dd fs, Same H H' → H' dd = some (exd dd fs) → fs.lookup n = some x → E (.ref C) (some dd) H'
def spReq (P : Program) (w : World) (K : PySem.W.Frag) (C CU : Addr) : Sp := fun vs H Q E => ∃ (p : Addr) (fp : List Addr) (rs : List RowK) (x : V) (k : String), vs = [.ref p, x] ∧ BookAt P w K H C p fp rs ∧ Vk K H x k ∧ (numV rs.length x = true → Q .non H) ∧ (numV rs.length x = false → Rsd E H CU "number" x)
theorem nd_ne {l : List Addr} {x y : Addr} (h : l.Nodup) (i j : Nat) (e1 : l[i]? = some x) (e2 : l[j]? = some y) (hij : i ≠ j) : x ≠ y := fun z => by
  subst z
  have hi : i < l.length := by
    rcases Nat.lt_or_ge i l.length with h | h
    · exact h
    · rw [List.getElem?_eq_none h] at e1
      cases e1
  exact hij ((List.getElem?_inj hi h).mp (e1.trans e2.symm))
theorem SqT_row {K : PySem.W.Frag} {S : List Addr} {H H' : Hp} {k : RowK} {a : Addr} (h : RowAt K H k a) (f : Frame S H H') (hS : ∀ b ∈ S, NotTup H b) : RowAt K H' k a := h.mono fun _ _ => SqT.fr f hS
theorem rowsIn_of {K : PySem.W.Frag} {H : Hp} : ∀ {i : Nat} {rs : List RowK} {as : List Addr}, as.length = rs.length → (∀ (i : Nat) (k : RowK) (a : Addr), rs[i]? = some k → as[i]? = some a → RowAt K H k a) → RowsIn K H (entR i rs as)
  | i, [], [], _, _ => fun x hx => absurd hx List.not_mem_nil
  | i, k :: rs, a :: as, hl, h => fun x hx => by
    rcases List.mem_cons.mp hx with rfl | hx
    · exact h 0 k a rfl rfl
    · exact rowsIn_of (i := i + 1) (by simpa using hl) (fun j k' a' e1 e2 => h (j + 1) k' a' (by simpa using e1) (by simpa using e2)) x hx
  | _, [], _ :: _, h, _ => by cases h
  | _, _ :: _, [], h, _ => by cases h
theorem atI_at {l : List Int} {i : Int} {n : Nat} (hl : l.length = n) (h0 : 0 ≤ i) (h1 : i < (n : Int)) : atI (l.map V.int) i = some (.int (atL l i)) := by
  have e : i = ((i.toNat : Nat) : Int) := by omega
  have hlt : i.toNat < l.length := by omega
  have h2 : (l.map V.int)[i.toNat]? = some (.int (atL l i)) := by
    unfold atL
    rw [List.getElem?_map, List.getElem?_eq_getElem hlt, List.getD_eq_getElem?_getD, List.getElem?_eq_getElem hlt]
    rfl
  rw [e]
  exact atI_nat (j := i.toNat) (by rw [h2, ← e])
/-- a row is added, unless it is there -/
def spEnt (P : Program) (w : World) (K : PySem.W.Frag) (C : Addr) : Sp := fun vs H Q _ => ∃ (p a : Addr) (fp : List Addr) (rs : List RowK) (k : RowK), vs = [.ref p, .ref a] ∧ BookAt P w K H C p fp rs ∧ RowAt K H k a ∧ OkK rs.length k ∧ rs.length < 5000 ∧
  ∀ H', Frame fp H H' → BookAt P w K H' C p fp (addR rs k) → Q (.int (posR rs k : Nat)) H'
/-- the methods that add -/
def Added (P : Program) (w : World) (K : PySem.W.Frag) (C p : Addr) (fp : List Addr) (rs : List RowK) (H : Hp) (Q : VK) (k : RowK) : Prop := ∀ H', Frame fp H H' → BookAt P w K H' C p fp (addR rs k) → Q (.int (posR rs k : Nat)) H'
def spConst (P : Program) (w : World) (K : PySem.W.Frag) (C CN : Addr) : Sp := fun vs H Q E => ∃ (p : Addr) (fp : List Addr) (rs : List RowK) (x : V) (k : String), vs = [.ref p, x] ∧ BookAt P w K H C p fp rs ∧ rs.length < 5000 ∧ Vk K H x k ∧
  (nameV x = false → Rsd E H CN "value" x) ∧ ∀ z, x = .str z → nameB (TL.tl z) = true → Added P w K C p fp rs H Q (z, .inr [])
def spSample (P : Program) (w : World) (K : PySem.W.Frag) (C CN CT : Addr) : Sp := fun vs H Q E => ∃ (p : Addr) (fp : List Addr) (rs : List RowK) (x y : V) (k ky : String), vs = [.ref p, x, y] ∧ BookAt P w K H C p fp rs ∧ rs.length < 5000 ∧ Vk K H x k ∧ Vk K H y ky ∧
  (nameV x = false → Rsd E H CN "value" x) ∧ ∀ z, x = .str z → nameB (TL.tl z) = true → ((∀ i, y = .int i → ¬ 0 ≤ i) → Rsd E H CT "value" y) ∧ ∀ i, y = .int i → 0 ≤ i → i.natAbs.log2 < 1000 ∧ Added P w K C p fp rs H Q (z, .inl i)
def spApply (P : Program) (w : World) (K : PySem.W.Frag) (C CN CP CU : Addr) : Sp := fun vs H Q E => ∃ (p : Addr) (fp : List Addr) (rs : List RowK) (x y : V) (k ky : String), vs = [.ref p, x, y] ∧ BookAt P w K H C p fp rs ∧ rs.length < 5000 ∧ Vk K H x k ∧ Vk K H y ky ∧
  (nameV x = false → Rsd E H CN "value" x) ∧ ∀ z, x = .str z → nameB (TL.tl z) = true → ((ky == "list" || ky == "tuple") = false → Rsd E H CP "value" y) ∧ ((ky == "list" || ky == "tuple") = true → ∃ (b : Addr) (ys : List V), y = .ref b ∧ SqA K H b ys ∧
    (¬ (1 ≤ ys.length ∧ ys.length ≤ 3) → Rsd E H CP "value" y) ∧ (1 ≤ ys.length ∧ ys.length ≤ 3 → (∀ v ∈ ys, ∃ kv, Vk K H v kv) ∧ (∀ (i : Nat) v, ys[i]? = some v → numV rs.length v = false → (∀ (j : Nat) u, j < i → ys[j]? = some u → numV rs.length u = true) → Rsd E H CU "number" v) ∧
      ∀ ns : List Int, ys = ns.map V.int → (∀ i ∈ ns, 0 ≤ i ∧ i < (rs.length : Int)) → Added P w K C p fp rs H Q (z, .inr ns)))
theorem Rsd.up {E : XK} {H H1 : Hp} {C : Addr} {n : Str} {x : V} (h : Rsd E H C n x) (s : Same H H1) : Rsd E H1 C n x := fun H' dd fs s' he hf => h H' dd fs (Same.tr s s') he hf
theorem numV_ints {n : Nat} : ∀ {ys : List V}, (∀ y ∈ ys, numV n y = true) → ∃ ns : List Int, ys = ns.map V.int ∧ ∀ i ∈ ns, 0 ≤ i ∧ i < (n : Int)
  | [], _ => ⟨[], rfl, fun i hi => absurd hi List.not_mem_nil⟩
  | y :: ys, h => by
    obtain ⟨ns, rfl, h2⟩ := numV_ints fun x hx => h x (List.mem_cons_of_mem _ hx)
    have h0 := h y List.mem_cons_self
    cases y with
    | int i =>
      refine ⟨i :: ns, rfl, fun j hj => ?_⟩
      rcases List.mem_cons.mp hj with rfl | hj
      · exact of_decide_eq_true h0
      · exact h2 j hj
    | _ => cases h0
/-- the small defs -/
def spTurn (K : PySem.W.Frag) : Sp := fun vs H Q _ => ∃ (x : V) (k : String), vs = [x] ∧ Vk K H x k ∧ (k ≠ "int" → Q (.bl false) H) ∧ ∀ i, x = .int i → Q (.bl (decide (0 ≤ i))) H
def spArgs (K : PySem.W.Frag) : Sp := fun vs H Q _ => ∃ (r : Addr) (u v : V) (k : String), vs = [.ref r] ∧ SqA K H r [u, v] ∧ Vk K H v k ∧ ((k == "list" || k == "tuple") = true → ∀ H', Same H H' → Q v H') ∧ ((k == "list" || k == "tuple") = false → ∀ b H', Same H H' → SqT K H' b [] → Q (.ref b) H')
/-- a name, and an int or a list or tuple of ints -/
def PreRow (K : PySem.W.Frag) (H : Hp) (r : Addr) (k : RowK) : Prop := PyData.strOk k.1 = true ∧ k.1.length ≤ 5000 ∧ ((∃ n : Int, k.2 = .inl n ∧ SqA K H r [.str k.1, .int n]) ∨ ∃ (ns : List Int) (b : Addr), k.2 = .inr ns ∧ SqA K H r [.str k.1, .ref b] ∧ SqA K H b (ns.map V.int))
theorem args_row {K : PySem.W.Frag} {H : Hp} {k : RowK} {a : Addr} {Q : VK} {E : XK} (hA : RowAt K H k a) (q : ∀ b H1, Same H H1 → SqT K H1 b ((argsK k).map V.int) → Q (.ref b) H1) : spArgs K [.ref a] H Q E := by
  obtain ⟨x, y⟩ := k
  obtain ⟨_, h⟩ := hA
  rcases h with ⟨n, e, h⟩ | ⟨ns, b, e, h1, h2⟩
  · have e' : y = .inl n := e
    subst e'
    exact ⟨a, _, _, "int", rfl, .inr h, vk_int n, (fun z => absurd z (by decide)), fun _ b H' s hb => q b H' s hb⟩
  · have e' : y = .inr ns := e
    subst e'
    exact ⟨a, _, _, "tuple", rfl, .inr h1, vk_tuple h2, (fun _ H' s => q b H' s (upT s h2)), fun z => absurd z (by decide)⟩
theorem rep_flat (n : Nat) (x : Str) : (List.replicate n [V.str x]).flatten = (List.replicate n x).map V.str := by
  induction n with
  | zero => rfl
  | succ n ih => rw [List.replicate_succ, List.replicate_succ, List.flatten_cons, ih]; rfl
def spKept (K : PySem.W.Frag) : Sp := fun vs H Q _ => ∃ (r : Addr) (k : RowK), vs = [.ref r] ∧ PreRow K H r k ∧ ∀ a H', Same H H' → RowAt K H' k a → Q (.ref a) H'
def spRowText (K : PySem.W.Frag) : Sp := fun vs H Q _ => ∃ (a l : Addr) (k : RowK) (ts : List Str), vs = [.ref a, .ref l] ∧ RowAt K H k a ∧ SqL K H l (ts.map V.str) ∧ k.1.length ≤ 8 ∧ (∀ n, k.2 = .inl n → n.natAbs.log2 < 1000) ∧ ts.length ≤ 3 ∧ (∀ t ∈ ts, t.length ≤ 400) ∧ ∀ H', Same H H' → Q (.str (textK k ts)) H'
theorem lens_le : ∀ ts : List Str, (∀ t ∈ ts, t.length ≤ 400) → (ts.map (fun x => x.length)).sum ≤ ts.length * 400
  | [], _ => Nat.le_refl _
  | t :: ts, h => by
    have ih := lens_le ts fun x hx => h x (List.mem_cons_of_mem _ hx)
    have h0 := h t List.mem_cons_self
    rw [List.map_cons, List.sum_cons, List.length_cons]
    omega
theorem joins_le (ts : List Str) (hl : ts.length ≤ 3) (h : ∀ t ∈ ts, t.length ≤ 400) : (Txt.join ("," : Str) ts).length ≤ 1203 := by
  rw [TL.len_tl, tl_joinT]
  have := joinL_len (TL.tl ",") 400 1 (by decide) (ts.map TL.tl) fun q hq => by
    obtain ⟨t, ht, rfl⟩ := List.mem_map.mp hq
    rw [← TL.len_tl]
    exact h t ht
  rw [List.length_map] at this
  have h2 : ts.length * (400 + 1) ≤ 3 * 401 := Nat.mul_le_mul hl (Nat.le_refl _)
  omega
theorem textK_le {k : RowK} {ts : List Str} (hx : k.1.length ≤ 8) (hn : ∀ n, k.2 = .inl n → n.natAbs.log2 < 1000) (hl : ts.length ≤ 3) (h : ∀ t ∈ ts, t.length ≤ 400) : (textK k ts).length ≤ 3000 := by
  obtain ⟨x, y⟩ := k
  have hx : x.length ≤ 8 := hx
  cases y with
  | inl n =>
    have hi : (Str.ofString (toString n)).length ≤ 1001 := by
      rw [PySem.ofString_length]
      exact int_text_length_le (k := 1000) (by decide) (hn n rfl)
    have ea : (("@" : Str)).length = 1 := rfl
    show (x ++ ("@" : Str) ++ Str.ofString (toString n)).length ≤ _
    rw [Str.length_append, Str.length_append, ea]
    omega
  | inr ns =>
    cases ns with
    | nil => show x.length ≤ _; omega
    | cons n ns =>
      have hj := joins_le ts hl h
      have ea : (("(" : Str)).length = 1 := rfl
      have eb : ((")" : Str)).length = 1 := rfl
      show (x ++ ("(" : Str) ++ Txt.join "," ts ++ (")" : Str)).length ≤ _
      rw [Str.length_append, Str.length_append, Str.length_append, ea, eb]
      omega
def secB (b : PyData) : Bool := match seqD b with
  | some ns => decide (ns.length ≤ 3)
  | none => (match b with
    | .int n => decide (0 ≤ n)
    | _ => false)
def formB (d : PyData) : Bool := match seqD d with
  | some [_, b] => secB b
  | _ => false
def spForm (K : PySem.W.Frag) : Sp := fun vs H Q _ => ∃ x : V, vs = [x] ∧ ((∃ d, Dd K H x d ∧ shortD d = true ∧ ∀ H', Same H H' → Q (.bl (formB d)) H') ∨ (∃ k, Vk K H x k ∧ (k == "list" || k == "tuple") = false ∧ ∀ H', Same H H' → Q (.bl false) H'))
end Tp
set_option Elab.async false
set_option linter.all false
set_option maxRecDepth 100000
set_option maxHeartbeats 4000000
namespace T04
open PySem PySem.Spec PyProof.Rows L2 Tp
section
variable {P : Program} {w : World} {K : PySem.W.Frag} {mg : Str → Option Value} {base : Heap} {f : Addr} {fd : FuncData}

abbrev sBit : Stmt := top 30
abbrev nBit : List Str := ["value"]
theorem scBit : FnScope nBit ["value"] (defScope sBit) := ⟨rfl, rfl, rfl, by decide +kernel, rfl, by decide +kernel, by decide +kernel⟩

theorem ok_turn (F : Fun K "_is_turn" "_is_turn" sBit f fd) (W : Cg P w K mg base 1 "is_whole" (spWhole K)) : FnG P w K mg base CX0 2 f fd ["value"] (spTurn K) := by
  refine FunG.ok F scBit (fun vs H Q E h => ?_) (fun cdv B out s H vs Q E hr hG h => ?_)
  · obtain ⟨x, k, rfl, _⟩ := h
    rfl
  · obtain ⟨x, k, rfl, v, q0, q1⟩ := h
    refine ⟨_, (pss_one (ps_ret (pe_and (pe_g W hr hG (by decide) (by rfl) (pa_cons (pv 0) pa_nil)) (pe_one (pe_cmpR op_ge (pv 0) pe_int (nomark _)))))), ?_⟩
    refine ⟨_, rfl, _, k, rfl, v, _, rfl, ?_⟩
    refine ite2 (fun h1 => ?_) (fun h1 => ?_)
    · obtain ⟨i, rfl⟩ := v.i (by simpa using h1)
      exact ⟨_, rfl, _, _, rfl, rfl, q1 i rfl⟩
    · exact q0 fun e => h1 (by rw [e]; rfl)

abbrev sBao : Stmt := top 25
abbrev nBao : List Str := ["row"]
theorem scBao : FnScope nBao ["row"] (defScope sBao) := ⟨rfl, rfl, rfl, by decide +kernel, rfl, by decide +kernel, by decide +kernel⟩

theorem ok_args (F : Fun K "arguments_of" "arguments_of" sBao f fd) (L : Cg P w K mg base 1 "is_list" (spList K)) : FnG P w K mg base CX0 2 f fd ["row"] (spArgs K) := by
  refine FunG.ok F scBao (fun vs H Q E h => ?_) (fun cdv B out s H vs Q E hr hG h => ?_)
  · obtain ⟨r, u, v, k, rfl, _⟩ := h
    rfl
  · obtain ⟨r, u, v, k, rfl, hA, hv, q1, q0⟩ := h
    refine ⟨_, (pss_one (ps_ret (pe_ifExp (pt_val (pe_g L hr hG (by decide) (by rfl) (pa_cons (pe_ix (ix_list.or ix_tup) (pv 0) pe_int fun _ _ => rfl) pa_nil))) (pe_ix (ix_list.or ix_tup) (pv 0) pe_int fun _ _ => rfl) (pe_tup pa_nil)))), ?_⟩
    refine ⟨_, rfl, ixA hA (atI_nat (j := 1) rfl) ?_⟩
    refine ⟨v, k, rfl, hv, fun H1 s1 => ⟨_, rfl, ?_⟩⟩
    cases hk : (k == "list" || k == "tuple") with
    | true => exact iteT ⟨_, rfl, ixA (hA.up s1) (atI_nat (j := 1) rfl) (q1 hk _ s1)⟩
    | false => exact iteF ⟨(by show 0 ≤ sizeLine; decide), fun t ht => q0 hk _ _ (Same.tr s1 (Same.put ht)) (SqT.of upd_same)⟩

abbrev sBhf : Stmt := top 31
abbrev nBhf : List Str := ["value"]
theorem scBhf : FnScope nBhf ["value"] (defScope sBhf) := ⟨rfl, rfl, rfl, by decide +kernel, rfl, by decide +kernel, by decide +kernel⟩

theorem ok_form (F : Fun K "_has_row_form" "_has_row_form" sBhf f fd) (T : TxtV mg) (L : Cg P w K mg base 1 "is_list" (spList K)) (U : Cg P w K mg base 2 "_is_turn" (spTurn K)) : FnG P w K mg base CX0 3 f fd ["value"] (spForm K) := by
  refine FunG.ok F scBhf (fun vs H Q E h => ?_) (fun cdv B out s H vs Q E hr hG h => ?_)
  · obtain ⟨x, rfl, _⟩ := h
    rfl
  · obtain ⟨x, rfl, h⟩ := h
    refine ⟨_, (pss_cons (ps_if (PW.pt (pw_or (pt_not (pt_val (pe_g L hr hG (by decide) (by rfl) (pa_cons (pv 0) pa_nil)))) (pw_or1 (pt_cmpR op_ne (pe_callB call_len (by rfl) T.len PySem.boot_len (pa_cons (pv 0) pa_nil)) pe_int (nomark _))))) (pss_one (ps_ret pe_bl)) pss_nil)
      (pss_cons (ps_if (pt_val (pe_g L hr hG (by decide) (by rfl) (pa_cons (pe_ix (ix_list.or ix_tup) (pv 0) pe_int fun _ _ => rfl) pa_nil))) (pss_one (ps_ret (pe_cmpR op_le (pe_callB call_len (by rfl) T.len PySem.boot_len (pa_cons (pe_ix (ix_list.or ix_tup) (pv 0) pe_int fun _ _ => rfl) pa_nil)) (gl_c (by rfl) T.most) (nomark _)))) pss_nil)
      (pss_one (ps_ret (pe_g U hr hG (by decide) (by rfl) (pa_cons (pe_ix (ix_list.or ix_tup) (pv 0) pe_int fun _ _ => rfl) pa_nil)))))), ?_⟩
    rcases h with ⟨d, hd, hs, q⟩ | ⟨k, v, hk, q⟩
    · refine ⟨_, rfl, x, kindD d, rfl, vk_dd hd hs, fun H1 s1 => ⟨_, rfl, ?_⟩⟩
      rw [kind_seq]
      have no : formB d = false → ∀ H', Same H H' → Q (.bl false) H' := fun e H' s => by
        have q' := q H' s
        rwa [e] at q'
      cases hq : seqD d with
      | none => exact iteT (iteT (no (by unfold formB; rw [hq]) _ s1))
      | some ds =>
        obtain ⟨a, xs, rfl, hA, hall⟩ := dd_seq hd hq
        have hlen := hall.len
        have hsh := short_seq hs hq
        refine iteF ⟨_, rfl, _, _, rfl, lenA (hA.up s1), rfl, _, rfl, ?_⟩
        by_cases h2 : ds.length = 2
        · obtain ⟨d0, d1, rfl⟩ : ∃ d0 d1, ds = [d0, d1] := by
            match ds, h2 with
            | [a, b], _ => exact ⟨a, b, rfl⟩
          obtain ⟨v1, hv1, hd1⟩ := hall.at (i := 1) rfl
          have sh1 : shortD d1 = true := shortAll_get (i := 1) hsh rfl
          refine if_false_of (ne_dec2 (by rw [hlen]; rfl)) ?_
          have er : formB d = secB d1 := by unfold formB; rw [hq]
          unfold secB at er
          refine ⟨_, rfl, ixA (hA.up s1) (atI_nat (j := 1) hv1) ?_⟩
          refine ⟨v1, kindD d1, rfl, vk_dd (hd1.mono s1) sh1, fun H3 s3 => ⟨_, rfl, ?_⟩⟩
          have s13 := Same.tr s1 s3
          rw [kind_seq]
          cases hq1 : seqD d1 with
          | none =>
            rw [hq1] at er
            refine iteF ⟨_, rfl, ixA (hA.up s13) (atI_nat (j := 1) hv1) ?_⟩
            refine ⟨v1, kindD d1, rfl, vk_dd (hd1.mono s13) sh1, fun e => ?_, fun i e => ?_⟩
            · refine no ?_ _ s13
              rw [er]
              cases d1 <;> first | rfl | exact absurd rfl e
            · subst e
              cases hd1
              have q' := q _ s13
              rw [er] at q'
              exact q'
          | some ns =>
            rw [hq1] at er
            obtain ⟨a1, ys, rfl, hA1, hall1⟩ := dd_seq hd1 hq1
            have hlen1 := hall1.len
            refine iteT ⟨_, rfl, ixA (hA.up s13) (atI_nat (j := 1) hv1) ⟨_, _, rfl, lenA (hA1.up s13), _, _, rfl, rfl, ?_⟩⟩
            have q' := q _ s13
            rw [er] at q'
            have e3 : decide (((ys.length : Nat) : Int) ≤ 3) = decide (ns.length ≤ 3) := decide_eq_decide.mpr (by rw [hlen1]; omega)
            have q2 : Q (.bl (decide (ns.length ≤ 3))) H3 := q'
            rw [← e3] at q2
            exact q2
        · refine if_true_of (ne_dec1 (by omega)) ?_
          refine no ?_ _ s1
          unfold formB
          rw [hq]
          match ds, h2 with
          | [], _ => rfl
          | [_], _ => rfl
          | [_, _], h2 => exact absurd rfl h2
          | _ :: _ :: _ :: _, _ => rfl
    · refine ⟨_, rfl, x, k, rfl, v, fun H1 s1 => ⟨_, rfl, ?_⟩⟩
      rw [hk]
      exact iteT (iteT (q _ s1))

abbrev sBkr : Stmt := top 32
abbrev nBkr : List Str := ["row", "last"]
theorem scBkr : FnScope nBkr ["row"] (defScope sBkr) := ⟨rfl, rfl, rfl, by decide +kernel, rfl, by decide +kernel, by decide +kernel⟩

theorem ok_kept (F : Fun K "_kept_row" "_kept_row" sBkr f fd) (T : TxtV mg) (L : Cg P w K mg base 1 "is_list" (spList K)) : FnG P w K mg base CX0 2 f fd ["row"] (spKept K) := by
  refine FunG.ok F scBkr (fun vs H Q E h => ?_) (fun cdv B out s H vs Q E hr hG h => ?_)
  · obtain ⟨r, k, rfl, _⟩ := h
    rfl
  · obtain ⟨r, ⟨x, y⟩, rfl, ⟨h0, hx, hp⟩, q⟩ := h
    refine ⟨_, (pss_cons (ps_set (i := 1) scBkr.nd rfl (.inl rfl) (pe_ifExp (pt_val (pe_g L hr hG (by decide) (by rfl) (pa_cons (pe_ix (ix_list.or ix_tup) (pv 0) pe_int fun _ _ => rfl) pa_nil))) (pe_callTy call_tuple_of (by rfl) T.tuple (by decide +kernel) (pa_cons (pe_ix (ix_list.or ix_tup) (pv 0) pe_int fun _ _ => rfl) pa_nil)) (pe_ix (ix_list.or ix_tup) (pv 0) pe_int fun _ _ => rfl)))
      (pss_one (ps_ret (pe_tup (pa_cons (pe_ix (ix_list.or ix_tup) (pv 0) pe_int fun _ _ => rfl) (pa_cons (pv 1) pa_nil)))))), ?_⟩
    rcases hp with ⟨n, e, hA⟩ | ⟨ns, b, e, hA, hB⟩
    · have e' : y = .inl n := e
      subst e'
      refine ⟨_, rfl, ixA hA (atI_nat (j := 1) rfl) ?_⟩
      refine ⟨.int n, "int", rfl, vk_int n, fun H1 s1 => ⟨_, rfl, iteF ?_⟩⟩
      refine ⟨_, rfl, ixA (hA.up s1) (atI_nat (j := 1) rfl) ?_⟩
      refine ⟨_, rfl, ixA (hA.up s1) (atI_nat (j := 0) rfl) ⟨_, rfl, (by show 2 ≤ sizeLine; decide), fun t ht => ?_⟩⟩
      exact q t _ (Same.tr s1 (Same.put ht)) ⟨h0, .inl ⟨n, rfl, SqT.of upd_same⟩⟩
    · have e' : y = .inr ns := e
      subst e'
      obtain ⟨kk, vk, hk⟩ := vk_seqA hB
      refine ⟨_, rfl, ixA hA (atI_nat (j := 1) rfl) ?_⟩
      refine ⟨.ref b, kk, rfl, vk, fun H1 s1 => ⟨_, rfl, ?_⟩⟩
      rw [hk]
      refine iteT ?_
      rcases hB with hB | hB
      · refine ⟨_, rfl, ixA (hA.up s1) (atI_nat (j := 1) rfl) ⟨_, _, rfl, .inl ⟨upL s1 hB, fun l hl => ?_⟩⟩⟩
        have s2 := Same.put (o := .tup (ns.map V.int)) hl
        exact ⟨_, rfl, ixA ((hA.up s1).up s2) (atI_nat (j := 0) rfl) ⟨_, rfl, (by show 2 ≤ sizeLine; decide), fun t ht => q t _ (Same.tr s1 (Same.tr s2 (Same.put ht))) ⟨h0, .inr ⟨ns, l, rfl, SqT.of upd_same, upT (Same.put ht) (SqT.of upd_same)⟩⟩⟩⟩
      · refine ⟨_, rfl, ixA (hA.up s1) (atI_nat (j := 1) rfl) ⟨_, _, rfl, .inr ⟨upT s1 hB, ?_⟩⟩⟩
        exact ⟨_, rfl, ixA (hA.up s1) (atI_nat (j := 0) rfl) ⟨_, rfl, (by show 2 ≤ sizeLine; decide), fun t ht => q t _ (Same.tr s1 (Same.put ht)) ⟨h0, .inr ⟨ns, b, rfl, SqT.of upd_same, upT (Same.put ht) (upT s1 hB)⟩⟩⟩⟩

abbrev sBrt : Stmt := top 33
abbrev nBrt : List Str := ["row", "texts", "name", "last", "inner"]
theorem scBrt : FnScope nBrt ["row", "texts"] (defScope sBrt) := ⟨rfl, rfl, rfl, by decide +kernel, rfl, by decide +kernel, by decide +kernel⟩

theorem ok_rtext (F : Fun K "_row_text" "_row_text" sBrt f fd) (L : Cg P w K mg base 1 "is_list" (spList K)) : FnG P w K mg base CX0 2 f fd ["row", "texts"] (spRowText K) := by
  refine FunG.ok F scBrt (fun vs H Q E h => ?_) (fun cdv B out s H vs Q E hr hG h => ?_)
  · obtain ⟨a, l, k, ts, rfl, _⟩ := h
    rfl
  · obtain ⟨a, l, ⟨x, y⟩, ts, rfl, ⟨h0, hp⟩, hl, hx, hn, ht3, ht, q⟩ := h
    refine ⟨_, (pss_cons (ps_asg (pv 0) (pg_tup rfl (pgs_cons (pg_name (i := 2) scBrt.nd rfl (Or.inl rfl)) (pgs_cons (pg_name (i := 3) scBrt.nd rfl (Or.inl rfl)) pgs_nil))))
      (pss_cons (ps_if (pt_not (pt_val (pe_g L hr hG (by decide) (by rfl) (pa_cons (pv 3) pa_nil)))) (pss_one (ps_ret (pe_joined (.cons (pe_fmt (pv 2)) (.cons pe_str (.cons (pe_fmt (pv 3)) .nil)))))) pss_nil)
      (pss_cons (ps_if (pt_not (pt_truth (pv 3) (by intro _; rfl))) (pss_one (ps_ret (pv 2))) pss_nil)
      (pss_cons (ps_set (i := 4) scBrt.nd rfl (.inl rfl) (pe_join pe_str (pv 1)))
      (pss_one (ps_ret (pe_joined (.cons (pe_fmt (pv 2)) (.cons pe_str (.cons (pe_fmt (pv 4)) (.cons pe_str .nil))))))))))), ?_⟩
    have hx : x.length ≤ 8 := hx
    have e8 := PySem.sizeLine_eq
    rcases hp with ⟨n, e, hA⟩ | ⟨ns, b, e, hA, hB⟩
    · have e' : y = .inl n := e
      subst e'
      have hn := hn n rfl
      have hi : (Str.ofString (toString n)).length ≤ 1001 := by
        rw [PySem.ofString_length]
        exact int_text_length_le (k := 1000) (by decide) hn
      refine ⟨_, rfl, a, _, rfl, hA, rfl, _, _, rfl, _, _, rfl, ?_⟩
      refine ⟨rfl, _, rfl, .int n, "int", rfl, vk_int n, fun H1 s1 => ⟨_, rfl, iteT ?_⟩⟩
      have l1 : (Str.empty ++ x).length ≤ sizeLine := by rw [Str.length_append]; show 0 + x.length ≤ _; omega
      have ea : (("@" : Str)).length = 1 := rfl
      have l2 : (Str.empty ++ x ++ ("@" : Str)).length ≤ sizeLine := by rw [Str.length_append, Str.length_append, ea]; show 0 + x.length + 1 ≤ _; omega
      have l3 : (Str.empty ++ x ++ ("@" : Str) ++ Str.ofString (toString n)).length ≤ sizeLine := by rw [Str.length_append, Str.length_append, Str.length_append, ea]; show 0 + x.length + 1 + _ ≤ _; omega
      have ex : Str.empty ++ x = x := Str.append_left_empty rfl
      refine ⟨_, rfl, .inl ⟨x, rfl, by omega, ⟨x, rfl, l1, ⟨_, rfl, l2, _, rfl, .inr ⟨n, rfl, by omega, _, rfl, l3, ?_⟩⟩⟩⟩⟩
      rw [ex]
      exact q _ s1
    · have e' : y = .inr ns := e
      subst e'
      refine ⟨_, rfl, a, _, rfl, hA, rfl, _, _, rfl, _, _, rfl, ?_⟩
      refine ⟨rfl, _, rfl, ⟨.ref b, "tuple", rfl, vk_tuple hB, fun H1 s1 => ⟨_, rfl, iteF ?_⟩⟩⟩
      have hB1 := upT s1 hB
      refine ⟨_, rfl, !(ns.map V.int).isEmpty, .inr (.inl ⟨_, hB1, rfl⟩), ?_⟩
      cases ns with
      | nil => exact iteT ⟨_, rfl, q _ s1⟩
      | cons n0 ns =>
        refine iteF ?_
        have hsum := lens_le ts ht
        have h3 : ts.length * 400 ≤ 3 * 400 := Nat.mul_le_mul ht3 (Nat.le_refl _)
        have hj := joins_le ts ht3 ht
        refine ⟨⟨_, rfl⟩, _, rfl, _, _, ts, rfl, rfl, .inl (upL s1 hl), ?_, ?_⟩
        · show _ + ts.length * 1 ≤ _
          omega
        · have l1 : (Str.empty ++ x).length ≤ sizeLine := by rw [Str.length_append]; show 0 + x.length ≤ _; omega
          have ea : (("(" : Str)).length = 1 := rfl
          have eb : ((")" : Str)).length = 1 := rfl
          have l2 : (Str.empty ++ x ++ ("(" : Str)).length ≤ sizeLine := by rw [Str.length_append, Str.length_append, ea]; show 0 + x.length + 1 ≤ _; omega
          have l3 : (Str.empty ++ x ++ ("(" : Str) ++ Txt.join "," ts).length ≤ sizeLine := by rw [Str.length_append, Str.length_append, Str.length_append, ea]; show 0 + x.length + 1 + _ ≤ _; omega
          have l4 : (Str.empty ++ x ++ ("(" : Str) ++ Txt.join "," ts ++ (")" : Str)).length ≤ sizeLine := by rw [Str.length_append, Str.length_append, Str.length_append, Str.length_append, ea, eb]; show 0 + x.length + 1 + _ + 1 ≤ _; omega
          have ex : Str.empty ++ x = x := Str.append_left_empty rfl
          refine ⟨_, rfl, .inl ⟨x, rfl, by omega, ⟨x, rfl, l1, ⟨_, rfl, l2, _, rfl, .inl ⟨_, rfl, by omega, _, rfl, l3, ⟨_, rfl, l4, ?_⟩⟩⟩⟩⟩⟩
          rw [ex]
          exact q _ s1

end
end T04
set_option Elab.async false
set_option linter.all false
set_option maxRecDepth 100000
set_option maxHeartbeats 4000000
namespace T04
open PySem PySem.Spec PyProof.Rows L2 Tp
section
variable {P : Program} {w : World} {K : PySem.W.Frag} {mg : Str → Option Value} {base : Heap} {f : Addr} {fd : FuncData}

abbrev sBha : Stmt := inClass (top 29) 2
abbrev nBha : List Str := ["self", "number"]
theorem scBha : FnScope nBha ["self", "number"] (defScope sBha) := ⟨rfl, rfl, rfl, by decide +kernel, rfl, by decide +kernel, by decide +kernel⟩

theorem ok_has {C : Addr} (F : Fun K "_has" "Book._has" sBha f fd) (T : TxtV mg) (TB : TxtBk K C) (IT : Cg P w K mg base 2 "is_integer" (spInteger K)) : FnG P w K mg base CX0 3 f fd ["self", "number"] (spHas P w K C) := by
  refine FunG.ok F scBha (fun vs H Q E h => ?_) (fun cdv B out s H vs Q E hr hG h => ?_)
  · obtain ⟨p, fp, rs, x, k, rfl, _⟩ := h
    rfl
  · obtain ⟨p, fp, rs, x, k, rfl, hB, hv, q⟩ := h
    obtain ⟨dx, l1, d, l2, l3, l4, as, fs, rfl, nd, h0, a1, a2, a3, a4, a5, a6, b1, b2, h1, h2, h3, h4, h5, b3⟩ := hB.ex
    refine ⟨_, (pss_one (ps_ret (pe_g IT hr hG (by decide) (by rfl) (pa_cons (pv 1) (pa_cons pe_int (pa_cons (pe_op op_sub (pe_callB call_len (by rfl) T.len PySem.boot_len (pa_cons (pe_fld (pv 0) rfl) pa_nil)) pe_int) pa_nil)))))), ?_⟩
    refine ⟨_, rfl, _, rfl, p, C, dx, fs, _, rfl, h0, TB.cl, TB.no _ (by simp), a1, _, _, rfl, .inl ⟨_, SqL.of h1, rfl⟩, _, _, rfl, rfl, ?_⟩
    have e : (((as.map V.ref).length : Nat) : Int) - 1 = (rs.length : Int) - 1 := by rw [List.length_map, b1]
    refine ⟨x, 0, _, k, rfl, hv, fun hk => ?_, fun i hi => ?_⟩
    · have : numV rs.length x = false := by
        cases x <;> first | rfl | exact absurd hv.int_k hk
      rwa [this] at q
    · subst hi
      have e2 : decide (0 ≤ i ∧ i ≤ (((as.map V.ref).length : Nat) : Int) - 1) = decide (0 ≤ i ∧ i < (rs.length : Int)) := decide_eq_decide.mpr (by rw [e]; omega)
      show Q (.bl (decide (0 ≤ i ∧ i ≤ (((as.map V.ref).length : Nat) : Int) - 1))) H
      rw [e2]
      exact q

abbrev sBhl : Stmt := inClass (top 29) 3
abbrev nBhl : List Str := ["self", "numbers", "number"]
theorem scBhl : FnScope nBhl ["self", "numbers"] (defScope sBhl) := ⟨rfl, rfl, rfl, by decide +kernel, rfl, by decide +kernel, by decide +kernel⟩

theorem ok_hasall {C : Addr} (F : Fun K "_has_all" "Book._has_all" sBhl f fd) (T : TxtV mg) (TB : TxtBk K C) (CH : Ct P w K mg base 3 C "_has" [] (spHas P w K C)) : FnG P w K mg base CX0 4 f fd ["self", "numbers"] (spHasAll P w K C) := by
  refine FunG.ok F scBhl (fun vs H Q E h => ?_) (fun cdv B out s H vs Q E hr hG h => ?_)
  · obtain ⟨p, b, fp, rs, ys, rfl, _⟩ := h
    rfl
  · obtain ⟨p, b, fp, rs, ys, rfl, hB, hb, h5, hy, q⟩ := h
    refine ⟨_, (pss_one (ps_ret (pe_callB (cr_all rfl) (by rfl) T.all (by decide +kernel) (pa_cons (pe_lc (own := [("number", 2)]) (g := gName 2) (tt := tYes) rfl scBhl.nd (pi_seq (pv 1)) (blkOk_by (N := nBhl) (sc := defScope sBhl) (by decide +kernel)) (fun _ _ _ _ _ => pg_name (i := 2) scBhl.nd rfl (Or.inl rfl)) (fun _ _ _ _ _ => pts_nil) (fun _ _ _ _ _ => (pe_ct (pv 0) CH hr hG (by decide) (pa_cons (pv 2) pa_nil)))) pa_nil)))), ?_⟩
    refine ⟨_, rfl, b, rfl, seq_it hb fun J wk => fun D hD => ?_⟩
    refine lc_it wk (fun j G => Same H G ∧ G D = some (.lst (((ys.take j).map (numV rs.length)).map V.bl))) ⟨Same.put hD, upd_same⟩ (fun _ _ _ h => h.1) ?_ ?_
    · rintro j x G G' hj ⟨sm, hGD⟩ ⟨rfl, hx⟩
      obtain ⟨k, vk⟩ := hy x (List.mem_of_getElem? hx)
      obtain ⟨dx, fs, h0, a6⟩ := (hB.up sm).there
      refine ⟨rfl, _, rfl, p, dx, fs, rfl, h0, a6 _ (by decide), _, rfl, ?_⟩
      refine ⟨p, fp, rs, x, k, rfl, hB.up sm, vk.mono sm, ⟨_, hGD, ?_, fun b o e => ?_, ?_⟩⟩
      · rw [List.length_map, List.length_map, List.length_take, PySem.sizeLine_eq]
        omega
      · rw [upd_ne (ne_of_none e hD)]
        exact sm b o e
      · rw [upd_same, List.take_add_one, hx]
        simp
    · rintro G ⟨sm, hGD⟩
      rw [List.take_length] at hGD
      refine ⟨D, _, rfl, SqL.of hGD, ?_⟩
      rw [List.all_map]
      exact q _ sm

abbrev sBrq : Stmt := inClass (top 29) 4
abbrev nBrq : List Str := ["self", "number"]
theorem scBrq : FnScope nBrq ["self", "number"] (defScope sBrq) := ⟨rfl, rfl, rfl, by decide +kernel, rfl, by decide +kernel, by decide +kernel⟩

theorem ok_req {C CU : Addr} (F : Fun K "_require" "Book._require" sBrq f fd) (CH : Ct P w K mg base 3 C "_has" [] (spHas P w K C)) (XU : Cx1 P w K mg base "UnknownTerm" CU 1 [] (spI CU ["number"]) (fun vs _ => vs)) : FnG P w K mg base (L2.CX P w) 4 f fd ["self", "number"] (spReq P w K C CU) := by
  have hT : ExK K CU := let ⟨_, _, _, _, h, _⟩ := XU.ex; h
  refine FunG.okX F scBrq (fun vs H Q E h => ?_) (fun cdv B out s H vs Q E hr hG h => ?_)
  · obtain ⟨p, fp, rs, x, k, rfl, _⟩ := h
    rfl
  · obtain ⟨p, fp, rs, x, k, rfl, hB, hv, q1, q0⟩ := h
    obtain ⟨dx, fs, h0, a6⟩ := hB.there
    refine ⟨_, (pss_one (ps_if (pt_not (pt_val (pe_ct (pv 0) CH hr hG (by decide) (pa_cons (pv 1) pa_nil)))) (pss_one (ps_raise rfl (takes_of rfl rfl rfl rfl) (pmk_x rfl (pe_mke (ns := ["number"]) XU (hr.mono (by decide)) (by rfl) (pa_cons (pv 1) pa_nil))))) pss_nil)), ?_⟩
    refine ⟨_, rfl, p, dx, fs, rfl, h0, a6 _ (by decide), _, rfl, ?_⟩
    refine ⟨p, fp, rs, x, k, rfl, hB, hv, ⟨_, rfl, ?_⟩⟩
    cases e : numV rs.length x with
    | true => exact iteF (q1 e)
    | false => exact iteT ⟨_, rfl, raise_e hT (Same.refl _) rfl (by decide) fun H' dd fs s he hf => q0 e H' dd fs s he (hf 0 "number" x rfl rfl)⟩

abbrev sBen : Stmt := inClass (top 29) 5
abbrev nBen : List Str := ["self", "row", "numbers", "bare_text", "size", "depth", "length", "number"]
theorem scBen : FnScope nBen ["self", "row"] (defScope sBen) := ⟨rfl, rfl, rfl, by decide +kernel, rfl, by decide +kernel, by decide +kernel⟩

structure TxtM (mg : Str → Option Value) : Prop where
  sum : mg "sum" = none
  max : mg "max" = none
theorem ok_ent {C : Addr} (F : Fun K "_entered" "Book._entered" sBen f fd) (T : TxtV mg) (M : TxtM mg) (TB : TxtBk K C) (AO : Cg P w K mg base 2 "arguments_of" (spArgs K)) (RT : Cg P w K mg base 2 "_row_text" (spRowText K)) : FnG P w K mg base CX0 3 f fd ["self", "row"] (spEnt P w K C) := by
  refine FunG.ok F scBen (fun vs H Q E h => ?_) (fun cdv B out s H vs Q E hr hG h => ?_)
  · obtain ⟨p, a, fp, rs, k, rfl, _⟩ := h
    rfl
  · obtain ⟨p, a, fp, rs, k, rfl, hB, hA, hok, hlt, q⟩ := h
    obtain ⟨dx, l1, d, l2, l3, l4, as, fs, rfl, nd, h0, a1, a2, a3, a4, a5, a6, b1, b2, h1, h2, h3, h4, h5, b3, b4, b5⟩ := hB.ex
    refine ⟨_, (pss_cons (ps_if (pt_cmpR (op_rin (hu65 hr)) (pv 1) (pe_fld (pv 0) rfl) rfl) (pss_one (ps_ret (pe_rget (hu65 hr) (pe_fld (pv 0) rfl) (pv 1) (fun _ _ => rfl)))) pss_nil)
      (pss_cons (ps_set (i := 2) scBen.nd rfl (.inl rfl) (pe_g AO hr hG (by decide) (by rfl) (pa_cons (pv 1) pa_nil)))
      (pss_cons (ps_set (i := 3) scBen.nd rfl (.inl rfl) (pe_g RT hr hG (by decide) (by rfl) (pa_cons (pv 1) (pa_cons (pe_op op_rep (pe_lst (pa_cons pe_str pa_nil)) (pe_callB call_len (by rfl) T.len PySem.boot_len (pa_cons (pv 2) pa_nil))) pa_nil))))
      (pss_cons (ps_set (i := 4) scBen.nd rfl (.inl rfl) (pe_op op_addL pe_int (pe_callB (cr_sum rfl) (by rfl) M.sum (by decide +kernel) (pa_cons (pe_lc (own := [("number", 7)]) (g := gName 7) (tt := tYes) rfl scBen.nd (pi_seq (pv 2)) (blkOk_by (N := nBen) (sc := defScope sBen) (by decide +kernel)) (fun _ _ _ _ _ => pg_name (i := 7) scBen.nd rfl (Or.inl rfl)) (fun _ _ _ _ _ => pts_nil) (fun _ _ _ _ _ => (pe_ix (ix_listK (K := K) rfl) (pe_fldK (K := K) rfl (pv 0) rfl) (pv 7) fun _ _ => rfl))) pa_nil))))
      (pss_cons (ps_set (i := 5) scBen.nd rfl (.inl rfl) (pe_op op_addL pe_int (pe_callBK (cr_maxDef rfl hr.units) (by rfl) M.max (by decide +kernel) (pa_cons (pe_lc (own := [("number", 7)]) (g := gName 7) (tt := tYes) rfl scBen.nd (pi_seq (pv 2)) (blkOk_by (N := nBen) (sc := defScope sBen) (by decide +kernel)) (fun _ _ _ _ _ => pg_name (i := 7) scBen.nd rfl (Or.inl rfl)) (fun _ _ _ _ _ => pts_nil) (fun _ _ _ _ _ => (pe_ix (ix_listK (K := K) rfl) (pe_fldK (K := K) rfl (pv 0) rfl) (pv 7) fun _ _ => rfl))) pa_nil) (pk_cons pe_int pk_nil))))
      (pss_cons (ps_set (i := 6) scBen.nd rfl (.inl rfl) (pe_op op_addL (pe_callB call_len (by rfl) T.len PySem.boot_len (pa_cons (pv 3) pa_nil)) (pe_callB (cr_sum rfl) (by rfl) M.sum (by decide +kernel) (pa_cons (pe_lc (own := [("number", 7)]) (g := gName 7) (tt := tYes) rfl scBen.nd (pi_seq (pv 2)) (blkOk_by (N := nBen) (sc := defScope sBen) (by decide +kernel)) (fun _ _ _ _ _ => pg_name (i := 7) scBen.nd rfl (Or.inl rfl)) (fun _ _ _ _ _ => pts_nil) (fun _ _ _ _ _ => (pe_ix (ix_listK (K := K) rfl) (pe_fldK (K := K) rfl (pv 0) rfl) (pv 7) fun _ _ => rfl))) pa_nil))))
      (pss_cons (ps_rputK (P := P) (w := w) (K := K) rfl rfl rfl (hu65 hr) (pe_fld (pv 0) rfl) (pv 1) (pe_callB call_len (by rfl) T.len PySem.boot_len (pa_cons (pe_fld (pv 0) rfl) pa_nil)) rfl)
      (pss_cons (ps_expr (pe_bm PySem.F.plainAttrs_list PySem.F.slot_list_append PySem.F.type_list_append mt_append (pe_fld (pv 0) rfl) (pa_cons (pv 1) pa_nil)))
      (pss_cons (ps_expr (pe_bm PySem.F.plainAttrs_list PySem.F.slot_list_append PySem.F.type_list_append mt_append (pe_fld (pv 0) rfl) (pa_cons (pv 4) pa_nil)))
      (pss_cons (ps_expr (pe_bm PySem.F.plainAttrs_list PySem.F.slot_list_append PySem.F.type_list_append mt_append (pe_fld (pv 0) rfl) (pa_cons (pv 5) pa_nil)))
      (pss_cons (ps_expr (pe_bm PySem.F.plainAttrs_list PySem.F.slot_list_append PySem.F.type_list_append mt_append (pe_fld (pv 0) rfl) (pa_cons (pv 6) pa_nil)))
      (pss_one (ps_ret (pe_rget (hu65 hr) (pe_fld (pv 0) rfl) (pv 1) (fun _ _ => rfl))))))))))))))), ?_⟩
    have hin : RowsIn K H (entR 0 rs as) := rowsIn_of b1 b2
    refine ⟨_, rfl, _, rfl, p, C, dx, fs, _, rfl, h0, TB.cl, TB.no _ (by simp), a2, _, k, a, d, ⟨rfl, rfl, h2, hin, hA⟩, _, rfl, ?_⟩
    cases hk : hasR rs k with
    | true =>
      obtain ⟨e1, e2, e3⟩ := posR_old hk
      have hf := findR_some 0 rs as k (posR rs k) b1.symm e2 e3
      rw [Nat.zero_add] at hf
      rw [hf]
      refine iteT ⟨_, rfl, p, C, dx, fs, _, rfl, h0, TB.cl, TB.no _ (by simp), a2, _, rfl, _, k, a, d, _, ⟨rfl, rfl, h2, hin, hA⟩, hf, ?_⟩
      refine q H (fun _ _ _ e => e) ?_
      rw [e1]
      exact hB
    | false =>
      obtain ⟨e1, e2⟩ := posR_new hk
      have hn := findR_none 0 rs as k (hasR_not hk)
      rw [hn]
      refine iteF ?_
      have hlen : (argsK k).length ≤ 3 := by
        obtain ⟨_, hk2⟩ := hok
        obtain ⟨x, y⟩ := k
        cases y with
        | inl n => show 0 ≤ 3; omega
        | inr ns => exact hk2.1
      have hrng : ∀ i ∈ argsK k, 0 ≤ i ∧ i < (rs.length : Int) := by
        obtain ⟨_, hk2⟩ := hok
        obtain ⟨x, y⟩ := k
        cases y with
        | inl n => exact fun i hi => absurd hi List.not_mem_nil
        | inr ns => exact hk2.2
      have hturn : ∀ n, k.2 = .inl n → n.natAbs.log2 < 1000 := fun n e => by
        obtain ⟨_, hk2⟩ := hok
        rw [e] at hk2
        exact hk2.2
      have hnm := (name_ok hok.1).2
      have e8 := PySem.sizeLine_eq
      refine ⟨_, rfl, args_row (E := E0) hA fun b H1 s1 hb1 => ?_⟩
      dsimp only [gName]
      refine ⟨_, rfl, (by show 1 ≤ sizeLine; decide), fun l hl => ?_⟩
      have s2 := Same.put (o := .lst [V.str ("" : Str)]) hl
      have hb2 := upT s2 hb1
      have hl2 : upd H1 l (.lst [V.str ("" : Str)]) l = some (.lst [V.str ("" : Str)]) := upd_same
      generalize upd H1 l (.lst [V.str ("" : Str)]) = H2 at s2 hb2 hl2 ⊢
      refine ⟨_, rfl, _, _, rfl, .inr ⟨_, hb2, rfl⟩, l, _, _, rfl, rfl, hl2, by omega, by rw [List.length_map]; omega, by rw [List.length_map, Int.toNat_natCast]; show 1 * _ ≤ _; omega, fun l' hl' => ?_⟩
      rw [List.length_map, Int.toNat_natCast, rep_flat]
      have s3 := Same.put (o := .lst ((List.replicate (argsK k).length ("" : Str)).map V.str)) hl'
      have hl3 : upd H2 l' (.lst ((List.replicate (argsK k).length ("" : Str)).map V.str)) l' = some (.lst ((List.replicate (argsK k).length ("" : Str)).map V.str)) := upd_same
      generalize upd H2 l' (.lst ((List.replicate (argsK k).length ("" : Str)).map V.str)) = H3 at s3 hl3 ⊢
      have s13 := Same.tr s1 (Same.tr s2 s3)
      refine ⟨a, l', k, _, rfl, hA.mono fun _ _ => upT s13, SqL.of hl3, hnm, hturn, by rw [List.length_replicate]; omega, fun t ht => by rw [List.eq_of_mem_replicate ht]; show 0 ≤ 400; omega, fun H4 s4 => ?_⟩
      have hb4 := upT (Same.tr s2 (Same.tr s3 s4)) hb1
      have s14 := Same.tr s13 s4
      dsimp only [gName]
      refine ⟨_, rfl, b, rfl, seq_it (.inr hb4) fun J wk => fun D hD => ?_⟩
      refine lc_it wk (fun j G => Same H4 G ∧ G D = some (.lst ((((argsK k).take j).map (atL (szs rs))).map V.int))) ⟨Same.put hD, upd_same⟩ (fun _ _ _ h => h.1) ?_ ?_
      · rintro j x G G' hj ⟨sm, hGD⟩ ⟨rfl, hx⟩
        have hj' : j < (argsK k).length := by simpa using hj
        have hx' : (argsK k)[j]? = some ((argsK k)[j]) := List.getElem?_eq_getElem hj'
        rw [List.getElem?_map, hx'] at hx
        cases hx
        obtain ⟨i0, i1⟩ := hrng _ (List.getElem_mem hj')
        have sg := Same.tr s14 sm
        refine ⟨rfl, _, rfl, p, C, dx, fs, _, rfl, sg _ _ h0, TB.cl, TB.no _ (by simp), a3, _, rfl, l2, _, _, .int (atL (szs rs) ((argsK k)[j])), rfl, rfl, SqL.of (sg _ _ h3), atI_at (szs_len rs) i0 i1, ⟨_, hGD, ?_, fun b o e => ?_, ?_⟩⟩
        · rw [List.length_map, List.length_map, List.length_take]
          omega
        · rw [upd_ne (ne_of_none e hD)]
          exact sm b o e
        · rw [upd_same, List.take_add_one, hx', List.map_append, List.map_append]
          rfl
      rintro G1 ⟨sm1, hGD⟩
      rw [List.length_map, List.take_length] at hGD
      have s21 := Same.tr s14 sm1
      have hb21 := upT sm1 hb4
      refine ⟨D, _, rfl, SqL.of hGD, _, _, rfl, rfl, fun z1 hz1 => ?_⟩
      dsimp only [gName]
      refine ⟨_, rfl, b, rfl, seq_it (.inr hb21) fun J wk => fun D hD => ?_⟩
      refine lc_it wk (fun j G => Same G1 G ∧ G D = some (.lst ((((argsK k).take j).map (atL (dps rs))).map V.int))) ⟨Same.put hD, upd_same⟩ (fun _ _ _ h => h.1) ?_ ?_
      · rintro j x G G' hj ⟨sm, hGD⟩ ⟨rfl, hx⟩
        have hj' : j < (argsK k).length := by simpa using hj
        have hx' : (argsK k)[j]? = some ((argsK k)[j]) := List.getElem?_eq_getElem hj'
        rw [List.getElem?_map, hx'] at hx
        cases hx
        obtain ⟨i0, i1⟩ := hrng _ (List.getElem_mem hj')
        have sg := Same.tr s21 sm
        refine ⟨rfl, _, rfl, p, C, dx, fs, _, rfl, sg _ _ h0, TB.cl, TB.no _ (by simp), a4, _, rfl, l3, _, _, .int (atL (dps rs) ((argsK k)[j])), rfl, rfl, SqL.of (sg _ _ h4), atI_at (dps_len rs) i0 i1, ⟨_, hGD, ?_, fun b o e => ?_, ?_⟩⟩
        · rw [List.length_map, List.length_map, List.length_take]
          omega
        · rw [upd_ne (ne_of_none e hD)]
          exact sm b o e
        · rw [upd_same, List.take_add_one, hx', List.map_append, List.map_append]
          rfl
      rintro G2 ⟨sm2, hGD⟩
      rw [List.length_map, List.take_length] at hGD
      have s22 := Same.tr s21 sm2
      have hb22 := upT sm2 hb21
      refine ⟨D, _, 0, rfl, rfl, SqL.of hGD, fun m hm => ⟨_, _, rfl, rfl, fun z2 hz2 => ?_⟩⟩
      dsimp only [gName]
      have htl := textK_le (k := k) (ts := List.replicate (argsK k).length ("" : Str)) hnm hturn (by rw [List.length_replicate]; exact hlen) fun t ht => by rw [List.eq_of_mem_replicate ht]; show 0 ≤ 400; omega
      refine ⟨_, rfl, _, _, rfl, ⟨by omega, rfl⟩, _, rfl, b, rfl, seq_it (.inr hb22) fun J wk => fun D hD => ?_⟩
      refine lc_it wk (fun j G => Same G2 G ∧ G D = some (.lst ((((argsK k).take j).map (atL (lns rs))).map V.int))) ⟨Same.put hD, upd_same⟩ (fun _ _ _ h => h.1) ?_ ?_
      · rintro j x G G' hj ⟨sm, hGD⟩ ⟨rfl, hx⟩
        have hj' : j < (argsK k).length := by simpa using hj
        have hx' : (argsK k)[j]? = some ((argsK k)[j]) := List.getElem?_eq_getElem hj'
        rw [List.getElem?_map, hx'] at hx
        cases hx
        obtain ⟨i0, i1⟩ := hrng _ (List.getElem_mem hj')
        have sg := Same.tr s22 sm
        refine ⟨rfl, _, rfl, p, C, dx, fs, _, rfl, sg _ _ h0, TB.cl, TB.no _ (by simp), a5, _, rfl, l4, _, _, .int (atL (lns rs) ((argsK k)[j])), rfl, rfl, SqL.of (sg _ _ h5), atI_at (lns_len rs) i0 i1, ⟨_, hGD, ?_, fun b o e => ?_, ?_⟩⟩
        · rw [List.length_map, List.length_map, List.length_take]
          omega
        · rw [upd_ne (ne_of_none e hD)]
          exact sm b o e
        · rw [upd_same, List.take_add_one, hx', List.map_append, List.map_append]
          rfl
      rintro G3 ⟨sm3, hGD⟩
      rw [List.length_map, List.take_length] at hGD
      have s23 := Same.tr s22 sm3
      have hb23 := upT sm3 hb22
      refine ⟨D, _, rfl, SqL.of hGD, _, _, rfl, rfl, fun z3 hz3 => ?_⟩
      dsimp only [gName]
      have g0 := s23 _ _ h0
      have t0_l1 := s23 _ _ h1
      have t0_d := s23 _ _ h2
      have t0_l2 := s23 _ _ h3
      have t0_l3 := s23 _ _ h4
      have t0_l4 := s23 _ _ h5
      have gA := hA.mono fun _ _ => upT s23
      have gin : RowsIn K G3 (entR 0 rs as) := rowsIn_of b1 fun i k a e1 e2 => (b2 i k a e1 e2).mono fun _ _ => upT s23
      have hpo := hB.off
      have f0 : Frame [l1, d, l2, l3, l4] H G3 := Frame.of s23
      refine ⟨_, rfl, p, C, dx, fs, _, rfl, g0, TB.cl, TB.no _ (by simp), a1, _, _, rfl, .inl ⟨_, SqL.of t0_l1, rfl⟩, ?_⟩
      refine ⟨_, rfl, p, C, dx, fs, _, rfl, g0, TB.cl, TB.no _ (by simp), a2, _, rfl, _, k, a, d, ⟨rfl, rfl, t0_d, gin, gA⟩, hn, by rw [entR_len 0 rs as b1.symm]; omega, ?_⟩
      have ee := entR_snoc 0 rs as k a b1.symm
      rw [Nat.zero_add] at ee
      rw [List.length_map, b1, ← ee]
      have q1 : Frame [l1, d, l2, l3, l4] G3 (upd G3 d (dRow P w d (entR 0 (rs ++ [k]) (as ++ [a])))) := Frame.put (by simp)
      have t1_d : upd G3 d (dRow P w d (entR 0 (rs ++ [k]) (as ++ [a]))) d = some (dRow P w d (entR 0 (rs ++ [k]) (as ++ [a]))) := upd_same
      have t1_l1 := (show upd G3 d (dRow P w d (entR 0 (rs ++ [k]) (as ++ [a]))) l1 = G3 l1 from upd_ne (nd_ne nd 0 1 rfl rfl (by decide))).trans t0_l1
      have t1_l2 := (show upd G3 d (dRow P w d (entR 0 (rs ++ [k]) (as ++ [a]))) l2 = G3 l2 from upd_ne (nd_ne nd 2 1 rfl rfl (by decide))).trans t0_l2
      have t1_l3 := (show upd G3 d (dRow P w d (entR 0 (rs ++ [k]) (as ++ [a]))) l3 = G3 l3 from upd_ne (nd_ne nd 3 1 rfl rfl (by decide))).trans t0_l3
      have t1_l4 := (show upd G3 d (dRow P w d (entR 0 (rs ++ [k]) (as ++ [a]))) l4 = G3 l4 from upd_ne (nd_ne nd 4 1 rfl rfl (by decide))).trans t0_l4
      generalize upd G3 d (dRow P w d (entR 0 (rs ++ [k]) (as ++ [a]))) = F1 at q1 t1_l1 t1_d t1_l2 t1_l3 t1_l4 ⊢
      have f1 := f0.tr q1
      have p1 := f1 _ _ hpo h0
      refine ⟨_, rfl, p, C, dx, fs, _, rfl, p1, TB.cl, TB.no _ (by simp), a1, .inl ⟨rfl, _, SqL.of t1_l1⟩, _, rfl, l1, _, _, rfl, rfl, t1_l1, ?_, ?_⟩
      · rw [List.length_map]
        omega
      rw [show as.map V.ref ++ [V.ref a] = (as ++ [a]).map V.ref from by rw [List.map_append]; rfl]
      have q2 : Frame [l1, d, l2, l3, l4] F1 (upd F1 l1 (HO.lst ((as ++ [a]).map V.ref))) := Frame.put (by simp)
      have t2_l1 : upd F1 l1 (HO.lst ((as ++ [a]).map V.ref)) l1 = some (HO.lst ((as ++ [a]).map V.ref)) := upd_same
      have t2_d := (show upd F1 l1 (HO.lst ((as ++ [a]).map V.ref)) d = F1 d from upd_ne (nd_ne nd 1 0 rfl rfl (by decide))).trans t1_d
      have t2_l2 := (show upd F1 l1 (HO.lst ((as ++ [a]).map V.ref)) l2 = F1 l2 from upd_ne (nd_ne nd 2 0 rfl rfl (by decide))).trans t1_l2
      have t2_l3 := (show upd F1 l1 (HO.lst ((as ++ [a]).map V.ref)) l3 = F1 l3 from upd_ne (nd_ne nd 3 0 rfl rfl (by decide))).trans t1_l3
      have t2_l4 := (show upd F1 l1 (HO.lst ((as ++ [a]).map V.ref)) l4 = F1 l4 from upd_ne (nd_ne nd 4 0 rfl rfl (by decide))).trans t1_l4
      generalize upd F1 l1 (HO.lst ((as ++ [a]).map V.ref)) = F2 at q2 t2_l1 t2_d t2_l2 t2_l3 t2_l4 ⊢
      have f2 := f1.tr q2
      have p2 := f2 _ _ hpo h0
      refine ⟨_, rfl, p, C, dx, fs, _, rfl, p2, TB.cl, TB.no _ (by simp), a3, .inl ⟨rfl, _, SqL.of t2_l2⟩, _, rfl, l2, _, _, rfl, rfl, t2_l2, ?_, ?_⟩
      · rw [List.length_map, szs_len]
        omega
      rw [show (szs rs).map V.int ++ [V.int z1] = (szs (rs ++ [k])).map V.int from by rw [szs_snoc, List.map_append, hz1]; rfl]
      have q3 : Frame [l1, d, l2, l3, l4] F2 (upd F2 l2 (HO.lst ((szs (rs ++ [k])).map V.int))) := Frame.put (by simp)
      have t3_l2 : upd F2 l2 (HO.lst ((szs (rs ++ [k])).map V.int)) l2 = some (HO.lst ((szs (rs ++ [k])).map V.int)) := upd_same
      have t3_l1 := (show upd F2 l2 (HO.lst ((szs (rs ++ [k])).map V.int)) l1 = F2 l1 from upd_ne (nd_ne nd 0 2 rfl rfl (by decide))).trans t2_l1
      have t3_d := (show upd F2 l2 (HO.lst ((szs (rs ++ [k])).map V.int)) d = F2 d from upd_ne (nd_ne nd 1 2 rfl rfl (by decide))).trans t2_d
      have t3_l3 := (show upd F2 l2 (HO.lst ((szs (rs ++ [k])).map V.int)) l3 = F2 l3 from upd_ne (nd_ne nd 3 2 rfl rfl (by decide))).trans t2_l3
      have t3_l4 := (show upd F2 l2 (HO.lst ((szs (rs ++ [k])).map V.int)) l4 = F2 l4 from upd_ne (nd_ne nd 4 2 rfl rfl (by decide))).trans t2_l4
      generalize upd F2 l2 (HO.lst ((szs (rs ++ [k])).map V.int)) = F3 at q3 t3_l1 t3_d t3_l2 t3_l3 t3_l4 ⊢
      have f3 := f2.tr q3
      have p3 := f3 _ _ hpo h0
      refine ⟨_, rfl, p, C, dx, fs, _, rfl, p3, TB.cl, TB.no _ (by simp), a4, .inl ⟨rfl, _, SqL.of t3_l3⟩, _, rfl, l3, _, _, rfl, rfl, t3_l3, ?_, ?_⟩
      · rw [List.length_map, dps_len]
        omega
      rw [show (dps rs).map V.int ++ [V.int z2] = (dps (rs ++ [k])).map V.int from by rw [dps_snoc, List.map_append, hz2, max_is hm (fun n hn => by obtain ⟨i, _, rfl⟩ := List.mem_map.mp hn; exact atL_pos (dps_pos rs) i)]; rfl]
      have q4 : Frame [l1, d, l2, l3, l4] F3 (upd F3 l3 (HO.lst ((dps (rs ++ [k])).map V.int))) := Frame.put (by simp)
      have t4_l3 : upd F3 l3 (HO.lst ((dps (rs ++ [k])).map V.int)) l3 = some (HO.lst ((dps (rs ++ [k])).map V.int)) := upd_same
      have t4_l1 := (show upd F3 l3 (HO.lst ((dps (rs ++ [k])).map V.int)) l1 = F3 l1 from upd_ne (nd_ne nd 0 3 rfl rfl (by decide))).trans t3_l1
      have t4_d := (show upd F3 l3 (HO.lst ((dps (rs ++ [k])).map V.int)) d = F3 d from upd_ne (nd_ne nd 1 3 rfl rfl (by decide))).trans t3_d
      have t4_l2 := (show upd F3 l3 (HO.lst ((dps (rs ++ [k])).map V.int)) l2 = F3 l2 from upd_ne (nd_ne nd 2 3 rfl rfl (by decide))).trans t3_l2
      have t4_l4 := (show upd F3 l3 (HO.lst ((dps (rs ++ [k])).map V.int)) l4 = F3 l4 from upd_ne (nd_ne nd 4 3 rfl rfl (by decide))).trans t3_l4
      generalize upd F3 l3 (HO.lst ((dps (rs ++ [k])).map V.int)) = F4 at q4 t4_l1 t4_d t4_l2 t4_l3 t4_l4 ⊢
      have f4 := f3.tr q4
      have p4 := f4 _ _ hpo h0
      refine ⟨_, rfl, p, C, dx, fs, _, rfl, p4, TB.cl, TB.no _ (by simp), a5, .inl ⟨rfl, _, SqL.of t4_l4⟩, _, rfl, l4, _, _, rfl, rfl, t4_l4, ?_, ?_⟩
      · rw [List.length_map, lns_len]
        omega
      rw [show (lns rs).map V.int ++ [V.int z3] = (lns (rs ++ [k])).map V.int from by rw [lns_snoc, List.map_append, hz3]; rfl]
      have q5 : Frame [l1, d, l2, l3, l4] F4 (upd F4 l4 (HO.lst ((lns (rs ++ [k])).map V.int))) := Frame.put (by simp)
      have t5_l4 : upd F4 l4 (HO.lst ((lns (rs ++ [k])).map V.int)) l4 = some (HO.lst ((lns (rs ++ [k])).map V.int)) := upd_same
      have t5_l1 := (show upd F4 l4 (HO.lst ((lns (rs ++ [k])).map V.int)) l1 = F4 l1 from upd_ne (nd_ne nd 0 4 rfl rfl (by decide))).trans t4_l1
      have t5_d := (show upd F4 l4 (HO.lst ((lns (rs ++ [k])).map V.int)) d = F4 d from upd_ne (nd_ne nd 1 4 rfl rfl (by decide))).trans t4_d
      have t5_l2 := (show upd F4 l4 (HO.lst ((lns (rs ++ [k])).map V.int)) l2 = F4 l2 from upd_ne (nd_ne nd 2 4 rfl rfl (by decide))).trans t4_l2
      have t5_l3 := (show upd F4 l4 (HO.lst ((lns (rs ++ [k])).map V.int)) l3 = F4 l3 from upd_ne (nd_ne nd 3 4 rfl rfl (by decide))).trans t4_l3
      generalize upd F4 l4 (HO.lst ((lns (rs ++ [k])).map V.int)) = F5 at q5 t5_l1 t5_d t5_l2 t5_l3 t5_l4 ⊢
      have f5 := f4.tr q5
      have p5 := f5 _ _ hpo h0
      have rows5 : ∀ (i : Nat) (k' : RowK) (a' : Addr), (rs ++ [k])[i]? = some k' → (as ++ [a])[i]? = some a' → RowAt K F5 k' a' := fun i k' a' e1 e2 => by
        rcases Nat.lt_or_ge i rs.length with hi | hi
        · rw [List.getElem?_append_left hi] at e1
          rw [List.getElem?_append_left (by omega)] at e2
          exact (b2 i k' a' e1 e2).mono fun _ _ => SqT.fr f5 hB.notTup
        · rw [List.getElem?_append_right hi] at e1
          rw [List.getElem?_append_right (by omega), b1] at e2
          have h0' : i - rs.length = 0 := by
            rcases Nat.eq_zero_or_pos (i - rs.length) with z | z
            · exact z
            · rw [List.getElem?_eq_none (by rw [List.length_singleton]; omega)] at e1
              cases e1
          rw [h0'] at e1 e2
          cases e1
          cases e2
          exact hA.mono fun _ _ => SqT.fr f5 hB.notTup
      have in5 : RowsIn K F5 (entR 0 (rs ++ [k]) (as ++ [a])) := rowsIn_of (by simp [b1]) rows5
      have hf5 := findR_some 0 (rs ++ [k]) (as ++ [a]) k rs.length (by simp [b1]) (by simp) fun m hm z => by
        rw [List.getElem?_append_left hm] at z
        exact hasR_not hk (List.mem_of_getElem? z)
      rw [Nat.zero_add] at hf5
      refine ⟨_, rfl, p, C, dx, fs, _, rfl, p5, TB.cl, TB.no _ (by simp), a2, _, rfl, _, k, a, d, _, ⟨rfl, rfl, t5_d, in5, SqT_row hA f5 hB.notTup⟩, hf5, ?_⟩
      rw [e2, e1] at q
      refine q F5 f5 ⟨⟨dx, l1, d, l2, l3, l4, as ++ [a], fs, rfl, nd, p5, a1, a2, a3, a4, a5, a6, by simp [b1], rows5, t5_l1, t5_d, t5_l2, t5_l3, t5_l4, ?_, okRows_snoc b4 hok, by rw [List.length_append, List.length_singleton]; omega⟩⟩
      rw [List.nodup_append]
      exact ⟨b3, by simp, fun x hx y hy z => by rw [List.mem_singleton.mp hy] at z; exact hasR_not hk (z ▸ hx)⟩

abbrev sBco : Stmt := inClass (top 29) 6
abbrev nBco : List Str := ["self", "symbol"]
theorem scBco : FnScope nBco ["self", "symbol"] (defScope sBco) := ⟨rfl, rfl, rfl, by decide +kernel, rfl, by decide +kernel, by decide +kernel⟩

theorem ok_const {C CN : Addr} (F : Fun K "constant" "Book.constant" sBco f fd) (N : Cg P w K mg base 1 "is_name" (spName K)) (CE : Ct P w K mg base 3 C "_entered" [] (spEnt P w K C)) (XN : Cx1 P w K mg base "InvalidName" CN 1 [] (spI CN ["value"]) (fun vs _ => vs)) : FnG P w K mg base (L2.CX P w) 4 f fd ["self", "symbol"] (spConst P w K C CN) := by
  have hTN : ExK K CN := let ⟨_, _, _, _, h, _⟩ := XN.ex; h
  refine FunG.okX F scBco (fun vs H Q E h => ?_) (fun cdv B out s H vs Q E hr hG h => ?_)
  · obtain ⟨p, fp, rs, x, k, rfl, _⟩ := h
    rfl
  · obtain ⟨p, fp, rs, x, k, rfl, hB, hlt, hv, q0, q1⟩ := h
    refine ⟨_, (pss_cons (ps_if (pt_not (pt_val (pe_g N hr hG (by decide) (by rfl) (pa_cons (pv 1) pa_nil)))) (pss_one (ps_raise rfl (takes_of rfl rfl rfl rfl) (pmk_x rfl (pe_mke (ns := ["value"]) XN (hr.mono (by decide)) (by rfl) (pa_cons (pv 1) pa_nil))))) pss_nil)
      (pss_one (ps_ret (pe_ct (pv 0) CE hr hG (by decide) (pa_cons (pe_tup (pa_cons (pv 1) (pa_cons (pe_tup pa_nil) pa_nil))) pa_nil))))), ?_⟩
    refine ⟨_, rfl, ?_⟩
    dsimp only [tNil]
    refine name_to hv fun H1 s1 => ?_
    refine ⟨_, rfl, ?_⟩
    cases hn : nameV x with
    | false => exact iteT ⟨_, rfl, raise_e hTN s1 rfl (by decide) fun H' dd fs s he hf => q0 hn H' dd fs (Same.tr s1 s) he (hf 0 "value" x rfl rfl)⟩
    | true =>
      cases x with
      | str z =>
        have hz : nameB (TL.tl z) = true := hn
        have q := q1 z rfl hz
        refine iteF ?_
        obtain ⟨dx, fs, h0, a6⟩ := (hB.up s1).there
        refine ⟨_, rfl, p, dx, fs, rfl, h0, a6 _ (by decide), _, rfl, (by show 0 ≤ sizeLine; decide), fun t ht => ⟨(by show 2 ≤ sizeLine; decide), fun t2 ht2 => ?_⟩⟩
        have s2 := Same.put (o := .tup []) ht
        have s3 := Same.put (o := .tup [V.str z, V.ref t]) ht2
        have s := Same.tr s1 (Same.tr s2 s3)
        refine ⟨p, t2, fp, rs, (z, .inr []), rfl, hB.up s, ⟨(name_ok hz).1, .inr ⟨[], t, rfl, SqT.of upd_same, upT s3 (SqT.of upd_same)⟩⟩, ⟨hz, by show 0 ≤ 3; omega, fun i hi => absurd hi List.not_mem_nil⟩, hlt, fun H' f b => ?_⟩
        exact q H' ((Frame.of s).tr f) b
      | _ => cases hn

end
end T04
set_option Elab.async false
set_option linter.all false
set_option maxRecDepth 100000
set_option maxHeartbeats 4000000
namespace T04
open PySem PySem.Spec PyProof.Rows L2 Tp
section
variable {P : Program} {w : World} {K : PySem.W.Frag} {mg : Str → Option Value} {base : Heap} {f : Addr} {fd : FuncData}

abbrev sBsa : Stmt := inClass (top 29) 8
abbrev nBsa : List Str := ["self", "name", "turn"]
theorem scBsa : FnScope nBsa ["self", "name", "turn"] (defScope sBsa) := ⟨rfl, rfl, rfl, by decide +kernel, rfl, by decide +kernel, by decide +kernel⟩

theorem ok_sample {C CN CT : Addr} (F : Fun K "sample" "Book.sample" sBsa f fd) (N : Cg P w K mg base 1 "is_name" (spName K)) (U : Cg P w K mg base 2 "_is_turn" (spTurn K)) (CE : Ct P w K mg base 3 C "_entered" [] (spEnt P w K C)) (XN : Cx1 P w K mg base "InvalidName" CN 1 [] (spI CN ["value"]) (fun vs _ => vs)) (XT : Cx1 P w K mg base "InvalidTurn" CT 1 [] (spI CT ["value"]) (fun vs _ => vs)) : FnG P w K mg base (L2.CX P w) 4 f fd ["self", "name", "turn"] (spSample P w K C CN CT) := by
  have hTN : ExK K CN := let ⟨_, _, _, _, h, _⟩ := XN.ex; h
  have hTT : ExK K CT := let ⟨_, _, _, _, h, _⟩ := XT.ex; h
  refine FunG.okX F scBsa (fun vs H Q E h => ?_) (fun cdv B out s H vs Q E hr hG h => ?_)
  · obtain ⟨p, fp, rs, x, y, k, ky, rfl, _⟩ := h
    rfl
  · obtain ⟨p, fp, rs, x, y, k, ky, rfl, hB, hlt, hv, hy, q0, q1⟩ := h
    refine ⟨_, (pss_cons (ps_if (pt_not (pt_val (pe_g N hr hG (by decide) (by rfl) (pa_cons (pv 1) pa_nil)))) (pss_one (ps_raise rfl (takes_of rfl rfl rfl rfl) (pmk_x rfl (pe_mke (ns := ["value"]) XN (hr.mono (by decide)) (by rfl) (pa_cons (pv 1) pa_nil))))) pss_nil)
      (pss_cons (ps_if (pt_not (pt_val (pe_g U hr hG (by decide) (by rfl) (pa_cons (pv 2) pa_nil)))) (pss_one (ps_raise rfl (takes_of rfl rfl rfl rfl) (pmk_x rfl (pe_mke (ns := ["value"]) XT (hr.mono (by decide)) (by rfl) (pa_cons (pv 2) pa_nil))))) pss_nil)
      (pss_one (ps_ret (pe_ct (pv 0) CE hr hG (by decide) (pa_cons (pe_tup (pa_cons (pv 1) (pa_cons (pv 2) pa_nil))) pa_nil)))))), ?_⟩
    refine ⟨_, rfl, ?_⟩
    dsimp only [tNil]
    refine name_to hv fun H1 s1 => ?_
    refine ⟨_, rfl, ?_⟩
    cases hn : nameV x with
    | false => exact iteT ⟨_, rfl, raise_e hTN s1 rfl (by decide) fun H' dd fs s he hf => q0 hn H' dd fs (Same.tr s1 s) he (hf 0 "value" x rfl rfl)⟩
    | true =>
      cases x with
      | str z =>
        have hz : nameB (TL.tl z) = true := hn
        obtain ⟨r0, r1⟩ := q1 z rfl hz
        refine iteF ?_
        by_cases hg : ∃ i, y = .int i ∧ 0 ≤ i
        · obtain ⟨i, rfl, hi⟩ := hg
          obtain ⟨hi2, q⟩ := r1 i rfl hi
          refine ⟨_, rfl, .int i, ky, rfl, hy.mono s1, fun hk => absurd hy.int_k hk, fun j e => ⟨_, rfl, ?_⟩⟩
          cases e
          rw [decide_eq_true hi]
          refine iteF ?_
          obtain ⟨dx, fs, h0, a6⟩ := (hB.up s1).there
          refine ⟨_, rfl, p, dx, fs, rfl, h0, a6 _ (by decide), _, rfl, _, rfl, (by show 2 ≤ sizeLine; decide), fun t2 ht2 => ?_⟩
          have s := Same.tr s1 (Same.put (o := .tup [V.str z, V.int i]) ht2)
          refine ⟨p, t2, fp, rs, (z, .inl i), rfl, hB.up s, ⟨(name_ok hz).1, .inl ⟨i, rfl, SqT.of upd_same⟩⟩, ⟨hz, hi, hi2⟩, hlt, fun H' f b => ?_⟩
          exact q H' ((Frame.of s).tr f) b
        · have r0' := r0 fun i e hi => hg ⟨i, e, hi⟩
          refine ⟨_, rfl, y, ky, rfl, hy.mono s1, fun hk => ⟨_, rfl, ?_⟩, fun i e => ⟨_, rfl, ?_⟩⟩
          · exact iteT ⟨_, rfl, raise_e hTT s1 rfl (by decide) fun H' dd fs s he hf => r0' H' dd fs (Same.tr s1 s) he (hf 0 "value" y rfl rfl)⟩
          · rw [decide_eq_false fun hi => hg ⟨i, e, hi⟩]
            exact iteT ⟨_, rfl, raise_e hTT s1 rfl (by decide) fun H' dd fs s he hf => r0' H' dd fs (Same.tr s1 s) he (hf 0 "value" y rfl rfl)⟩
      | _ => cases hn

abbrev sBap : Stmt := inClass (top 29) 7
abbrev nBap : List Str := ["self", "symbol", "numbers", "item"]
theorem scBap : FnScope nBap ["self", "symbol", "numbers"] (defScope sBap) := ⟨rfl, rfl, rfl, by decide +kernel, rfl, by decide +kernel, by decide +kernel⟩

theorem ok_apply {C CN CP CU : Addr} (F : Fun K "apply" "Book.apply" sBap f fd) (T : TxtV mg) (N : Cg P w K mg base 1 "is_name" (spName K)) (L : Cg P w K mg base 1 "is_list" (spList K)) (CE : Ct P w K mg base 3 C "_entered" [] (spEnt P w K C)) (CR : Ctr P w K mg base 4 C "_require" [] (spReq P w K C CU)) (XN : Cx1 P w K mg base "InvalidName" CN 1 [] (spI CN ["value"]) (fun vs _ => vs)) (XP : Cx1 P w K mg base "InvalidPart" CP 1 [] (spI CP ["value"]) (fun vs _ => vs)) : FnG P w K mg base (L2.CX P w) 5 f fd ["self", "symbol", "numbers"] (spApply P w K C CN CP CU) := by
  have hTN : ExK K CN := let ⟨_, _, _, _, h, _⟩ := XN.ex; h
  have hTP : ExK K CP := let ⟨_, _, _, _, h, _⟩ := XP.ex; h
  refine FunG.okX F scBap (fun vs H Q E h => ?_) (fun cdv B out s H vs Q E hr hG h => ?_)
  · obtain ⟨p, fp, rs, x, y, k, ky, rfl, _⟩ := h
    rfl
  · obtain ⟨p, fp, rs, x, y, k, ky, rfl, hB, hlt, hv, hy, q0, q1⟩ := h
    refine ⟨_, (pss_cons (ps_if (pt_not (pt_val (pe_g N hr hG (by decide) (by rfl) (pa_cons (pv 1) pa_nil)))) (pss_one (ps_raise rfl (takes_of rfl rfl rfl rfl) (pmk_x rfl (pe_mke (ns := ["value"]) XN (hr.mono (by decide)) (by rfl) (pa_cons (pv 1) pa_nil))))) pss_nil)
      (pss_cons (ps_if (PW.pt (pw_or (pt_not (pt_val (pe_g L hr hG (by decide) (by rfl) (pa_cons (pv 2) pa_nil)))) (pw_or1 (pt_not (pt_chain op_le op_le pe_int (pe_callB call_len (by rfl) T.len PySem.boot_len (pa_cons (pv 2) pa_nil)) (gl_c (by rfl) T.most)))))) (pss_one (ps_raise rfl (takes_of rfl rfl rfl rfl) (pmk_x rfl (pe_mke (ns := ["value"]) XP (hr.mono (by decide)) (by rfl) (pa_cons (pv 2) pa_nil))))) pss_nil)
      (pss_cons (ps_for (passes_of rfl) rfl (pi_seq (pv 2)) (pg_name (i := 3) scBap.nd rfl (Or.inl rfl)) (pss_one (ps_expr (pe_ctr (pv 0) CR hr hG (by decide) (takes_of rfl rfl rfl rfl) (pa_cons (pv 3) pa_nil)))))
      (pss_one (ps_ret (pe_ct (pv 0) CE hr hG (by decide) (pa_cons (pe_tup (pa_cons (pv 1) (pa_cons (pe_callTy call_tuple_of (by rfl) T.tuple (by decide +kernel) (pa_cons (pv 2) pa_nil)) pa_nil))) pa_nil))))))), ?_⟩
    refine ⟨_, rfl, ?_⟩
    dsimp only [tNil]
    refine name_to hv fun H1 s1 => ?_
    refine ⟨_, rfl, ?_⟩
    cases hn : nameV x with
    | false => exact iteT ⟨_, rfl, raise_e hTN s1 rfl (by decide) fun H' dd fs s he hf => q0 hn H' dd fs (Same.tr s1 s) he (hf 0 "value" x rfl rfl)⟩
    | true =>
      cases x with
      | str z =>
        have hz : nameB (TL.tl z) = true := hn
        obtain ⟨r0, r1⟩ := q1 z rfl hz
        refine iteF ?_
        refine ⟨_, rfl, y, ky, rfl, hy.mono s1, fun H2 s2 => ⟨_, rfl, ?_⟩⟩
        have s12 := Same.tr s1 s2
        cases hk : (ky == "list" || ky == "tuple") with
        | false => exact iteT (iteT ⟨_, rfl, raise_e hTP s12 rfl (by decide) fun H' dd fs s he hf => r0 hk H' dd fs (Same.tr s12 s) he (hf 0 "value" y rfl rfl)⟩)
        | true =>
          obtain ⟨b, ys, rfl, hA, r2, r3⟩ := r1 hk
          have hA2 := hA.up s12
          refine iteF ?_
          refine ⟨_, rfl, _, _, rfl, lenA hA2, _, _, rfl, rfl, _, rfl, ?_⟩
          by_cases h1 : 1 ≤ ys.length
          · rw [decide_eq_true (show (1 : Int) ≤ ((ys.length : Nat) : Int) by omega)]
            refine iteT ⟨_, _, rfl, rfl, _, rfl, ?_⟩
            by_cases h3 : ys.length ≤ 3
            · rw [decide_eq_true (show ((ys.length : Nat) : Int) ≤ (3 : Int) by omega)]
              obtain ⟨r4, r5, r6⟩ := r3 ⟨h1, h3⟩
              refine iteF ?_
              refine ⟨_, rfl, b, rfl, seq_it hA2 fun J wk => ?_⟩
              refine for_it wk (fun i σ G => G = H2 ∧ (∀ (j : Nat) u, j < i → ys[j]? = some u → numV rs.length u = true) ∧ ∃ o, σ = [some (.ref p), some (.str z), some (.ref b), o]) ⟨rfl, (fun j u h => absurd h (Nat.not_lt_zero _)), none, rfl⟩ (fun _ _ _ _ h => by rw [h.1]; exact Same.refl _) ?_ ?_
              · rintro i v σ G G' hi ⟨rfl, hok, o, rfl⟩ ⟨rfl, hx⟩
                obtain ⟨kv, vk⟩ := r4 v (List.mem_of_getElem? hx)
                obtain ⟨dx, fs, h0, a6⟩ := (hB.up s12).there
                refine ⟨_, rfl, p, dx, fs, rfl, h0, a6 _ (by decide), _, rfl, ?_⟩
                refine ⟨p, fp, rs, v, kv, rfl, hB.up s12, vk.mono s12, fun e => ⟨rfl, fun j u hj hu => ?_, some v, rfl⟩, fun e => (r5 i v hx e hok).up s12⟩
                rcases Nat.lt_or_ge j i with h | h
                · exact hok j u h hu
                · have : j = i := by omega
                  subst this
                  rw [hx] at hu
                  cases hu
                  exact e
              · rintro σ G ⟨rfl, hok, o, rfl⟩
                obtain ⟨ns, rfl, hns⟩ := numV_ints (n := rs.length) fun u hu => by
                  obtain ⟨j, hj, e⟩ := List.getElem_of_mem hu
                  exact hok j u hj (by rw [List.getElem?_eq_getElem hj, e])
                have q := r6 ns rfl hns
                obtain ⟨dx, fs, h0, a6⟩ := (hB.up s12).there
                refine ⟨_, rfl, p, dx, fs, rfl, h0, a6 _ (by decide), _, rfl, _, rfl, ?_⟩
                have hl3 : ns.length ≤ 3 := by rw [List.length_map] at h3; exact h3
                rcases hA2 with hA2 | hA2
                · refine ⟨_, _, rfl, .inl ⟨hA2, fun l hl => ⟨(by show 2 ≤ sizeLine; decide), fun t2 ht2 => ?_⟩⟩⟩
                  have s2' := Same.put (o := .tup (ns.map V.int)) hl
                  have s3 := Same.put (o := .tup [V.str z, V.ref l]) ht2
                  have s := Same.tr s12 (Same.tr s2' s3)
                  refine ⟨p, t2, fp, rs, (z, .inr ns), rfl, hB.up s, ⟨(name_ok hz).1, .inr ⟨ns, l, rfl, SqT.of upd_same, upT s3 (SqT.of upd_same)⟩⟩, ⟨hz, hl3, hns⟩, hlt, fun H' f b => ?_⟩
                  exact q H' ((Frame.of s).tr f) b
                · refine ⟨_, _, rfl, .inr ⟨hA2, (by show 2 ≤ sizeLine; decide), fun t2 ht2 => ?_⟩⟩
                  have s3 := Same.put (o := .tup [V.str z, V.ref b]) ht2
                  have s := Same.tr s12 s3
                  refine ⟨p, t2, fp, rs, (z, .inr ns), rfl, hB.up s, ⟨(name_ok hz).1, .inr ⟨ns, b, rfl, SqT.of upd_same, upT s3 hA2⟩⟩, ⟨hz, hl3, hns⟩, hlt, fun H' f b => ?_⟩
                  exact q H' ((Frame.of s).tr f) b
            · rw [decide_eq_false (show ¬ ((ys.length : Nat) : Int) ≤ (3 : Int) by omega)]
              exact iteT ⟨_, rfl, raise_e hTP s12 rfl (by decide) fun H' dd fs s he hf => r2 (fun h => h3 h.2) H' dd fs (Same.tr s12 s) he (hf 0 "value" _ rfl rfl)⟩
          · rw [decide_eq_false (show ¬ (1 : Int) ≤ ((ys.length : Nat) : Int) by omega)]
            exact iteF ⟨_, rfl, iteT ⟨_, rfl, raise_e hTP s12 rfl (by decide) fun H' dd fs s he hf => r2 (fun h => h1 h.1) H' dd fs (Same.tr s12 s) he (hf 0 "value" _ rfl rfl)⟩⟩
      | _ => cases hn

end
end T04
set_option Elab.async false
set_option linter.all false
set_option maxRecDepth 100000
set_option maxHeartbeats 4000000
/-! what a book tells: its rows, len, [..], in, ==; rows as data -/
namespace Tp
open PySem PySem.Spec PyProof.Rows L2
/-- what is told of a book -/
def spRows (P : Program) (w : World) (K : PySem.W.Frag) (C : Addr) : Sp := fun vs H Q _ => ∃ (p : Addr) (fp : List Addr) (rs : List RowK), vs = [.ref p] ∧ BookAt P w K H C p fp rs ∧
  ∀ (l : Addr) (H' : Hp) (as : List Addr), H l = none → H' = upd H l (.lst (as.map V.ref)) → as.length = rs.length → (∀ (i : Nat) (k : RowK) (a : Addr), rs[i]? = some k → as[i]? = some a → RowAt K H k a) → Q (.ref l) H'
def spLen (P : Program) (w : World) (K : PySem.W.Frag) (C : Addr) : Sp := fun vs H Q _ => ∃ (p : Addr) (fp : List Addr) (rs : List RowK), vs = [.ref p] ∧ BookAt P w K H C p fp rs ∧ Q (.int (rs.length : Nat)) H
def spItem (P : Program) (w : World) (K : PySem.W.Frag) (C CU : Addr) : Sp := fun vs H Q E => ∃ (p : Addr) (fp : List Addr) (rs : List RowK) (x : V) (k : String), vs = [.ref p, x] ∧ BookAt P w K H C p fp rs ∧ Vk K H x k ∧ (numV rs.length x = false → Rsd E H CU "number" x) ∧
  ∀ (i : Nat) (k : RowK) (a : Addr), x = .int (i : Nat) → rs[i]? = some k → RowAt K H k a → Q (.ref a) H
def strD : PyData → Str
  | .str z => z
  | _ => Str.empty
def intD : PyData → Int
  | .int i => i
  | _ => 0
/-- are the numbers those of rows? -/
def allD (n : Nat) (d : PyData) : Bool := match seqD d with
  | some ns => ns.all (idxD n)
  | none => true
def keyT (d : PyData) : Sum Int (List Int) := match seqD d with
  | some ns => .inr (ns.map intD)
  | none => .inl (intD d)
/-- the row that data is, if it may be one -/
def keyD (n : Nat) (d : PyData) : Option RowK := if formB d = true then (match seqD d with
  | some [a, b] => if (nameD a && allD n b) = true then some (strD a, keyT b) else none
  | _ => none) else none
def memD (rs : List RowK) (d : PyData) : Bool := match keyD rs.length d with
  | some k => hasR rs k
  | none => false
def spCont (P : Program) (w : World) (K : PySem.W.Frag) (C : Addr) : Sp := fun vs H Q _ => ∃ (p : Addr) (fp : List Addr) (rs : List RowK) (x : V), vs = [.ref p, x] ∧ BookAt P w K H C p fp rs ∧
  ((∃ d, Dd K H x d ∧ shortD d = true ∧ ∀ H', Same H H' → Q (.bl (memD rs d)) H') ∨ ∃ k, Vk K H x k ∧ (k == "list" || k == "tuple") = false ∧ ∀ H', Same H H' → Q (.bl false) H')
def spEqB (P : Program) (w : World) (K : PySem.W.Frag) (C : Addr) : Sp := fun vs H Q _ => ∃ (p : Addr) (fp : List Addr) (rs : List RowK) (y : V), vs = [.ref p, y] ∧ BookAt P w K H C p fp rs ∧
  ((∃ q fq qs, y = .ref q ∧ BookAt P w K H C q fq qs ∧ IsR K H y (.ref C) true ∧ Q (.bl (decide (rs = qs))) H) ∨ (IsR K H y (.ref C) false ∧ Q (.bl false) H))
/-! rows as data -/
theorem row_dp {K : PySem.W.Frag} {H : Hp} {k : RowK} {a : Addr} (h : RowAt K H k a) : Dp K H (.ref a) (rowD k) := by
  obtain ⟨x, y⟩ := k
  obtain ⟨_, h⟩ := h
  rcases h with ⟨n, e, h⟩ | ⟨ns, b, e, h1, h2⟩
  · have e' : y = .inl n := e
    subst e'
    exact .tup h (.cons (.str x) (.cons (.int n) .nil))
  · have e' : y = .inr ns := e
    subst e'
    refine .tup h1 (.cons (.str x) (.cons (.tup h2 ?_) .nil))
    have all : ∀ ms : List Int, DpAll K H (ms.map V.int) (ms.map PyData.int) := fun ms => by
      induction ms with
      | nil => exact .nil
      | cons m ms ih => exact .cons (.int m) ih
    exact all ns
theorem rows_dp {K : PySem.W.Frag} {H : Hp} : ∀ {rs : List RowK} {as : List Addr}, as.length = rs.length → (∀ (i : Nat) (k : RowK) (a : Addr), rs[i]? = some k → as[i]? = some a → RowAt K H k a) → DpAll K H (as.map V.ref) (rs.map rowD)
  | [], [], _, _ => .nil
  | k :: rs, a :: as, hl, h => .cons (row_dp (h 0 k a rfl rfl)) (rows_dp (by simpa using hl) fun j k' a' e1 e2 => h (j + 1) k' a' (by simpa using e1) (by simpa using e2))
  | [], _ :: _, h, _ => by cases h
  | _ :: _, [], h, _ => by cases h
theorem rows_eqv : ∀ rs qs : List RowK, PyData.eqvAll (rs.map rowD) (qs.map rowD) = decide (rs = qs)
  | [], [] => rfl
  | [], _ :: _ => rfl
  | _ :: _, [] => rfl
  | r :: rs, q :: qs => by
    rw [List.map_cons, List.map_cons, PyData.eqvAll, eqv_row, rows_eqv rs qs, Bool.eq_iff_iff]
    simp
theorem rowD_depth (k : RowK) : (rowD k).depth ≤ 2 := by
  obtain ⟨x, n | ns⟩ := k
  · simp [rowD, PyData.depth, PyData.depthAll]
  · have : ∀ ns : List Int, PyData.depthAll (ns.map PyData.int) = 0 := fun ns => by
      induction ns with
      | nil => rfl
      | cons n ns ih => simp [PyData.depthAll, PyData.depth, ih]
    simp [rowD, PyData.depth, PyData.depthAll, this]
theorem rows_depth : ∀ rs : List RowK, PyData.depthAll (rs.map rowD) ≤ 2
  | [] => by simp [PyData.depthAll]
  | k :: rs => by
    have h1 := rows_depth rs
    have h2 := rowD_depth k
    simp only [List.map_cons, PyData.depthAll]
    omega
theorem rows_lay : ∀ {rs : List RowK}, (∀ k ∈ rs, PyData.strOk k.1 = true) → PyData.canLayAll0 (rs.map rowD) = true
  | [], _ => by simp [PyData.canLayAll0]
  | k :: rs, h => by
    simp only [List.map_cons, PyData.canLayAll0, can_row k (h k List.mem_cons_self), rows_lay fun x hx => h x (List.mem_cons_of_mem _ hx), Bool.and_self]
theorem rows_shaped {rs : List RowK} (h : ∀ k ∈ rs, PyData.strOk k.1 = true) : SeqAt.shaped (.list (rs.map rowD)) = true := by
  have h2 : PyData.depth (.list (rs.map rowD)) ≤ 64 := by
    have := rows_depth rs
    simp only [PyData.depth]
    omega
  show (PyData.canLay0 (.list (rs.map rowD)) && decide (PyData.depth (.list (rs.map rowD)) ≤ 64)) = true
  rw [Bool.and_eq_true]
  exact ⟨by simp only [PyData.canLay0]; exact rows_lay h, decide_eq_true h2⟩
theorem okRows_str {rs : List RowK} (h : OkRows rs) : ∀ k ∈ rs, PyData.strOk k.1 = true := fun k hk => by
  obtain ⟨i, hi, e⟩ := List.getElem_of_mem hk
  exact (name_ok (h i k (by rw [List.getElem?_eq_getElem hi, e])).1).1
/-! data that has the form of a row -/
theorem form_of {K : PySem.W.Frag} {H : Hp} {x : V} {d : PyData} (hd : Dd K H x d) (hs : shortD d = true) (hf : formB d = true) : ∃ (a : Addr) (v0 v1 : V) (d0 d1 : PyData), x = .ref a ∧ SqA K H a [v0, v1] ∧ Dd K H v0 d0 ∧ Dd K H v1 d1 ∧ seqD d = some [d0, d1] ∧ secB d1 = true ∧ shortD d0 = true ∧ shortD d1 = true := by
  unfold formB at hf
  split at hf
  · rename_i d0 d1 e
    obtain ⟨a, xs, rfl, hA, hall⟩ := dd_seq hd e
    have hsh := short_seq hs e
    cases hall with
    | cons h0 hr =>
      cases hr with
      | cons h1 hn =>
        cases hn
        exact ⟨a, _, _, d0, d1, rfl, hA, h0, h1, e, hf, shortAll_get (i := 0) hsh rfl, shortAll_get (i := 1) hsh rfl⟩
  · cases hf
theorem num_dd {K : PySem.W.Frag} {H : Hp} {v : V} {d : PyData} (n : Nat) (h : Dd K H v d) : numV n v = idxD n d := by
  cases h with
  | int i => exact decide_eq_decide.mpr (by omega)
  | _ => rfl
theorem nums_dd {K : PySem.W.Frag} {H : Hp} (n : Nat) : ∀ {vs : List V} {ds : List PyData}, DdAll K H vs ds → vs.all (numV n) = ds.all (idxD n)
  | _, _, .nil => rfl
  | _, _, .cons h hs => by rw [List.all_cons, List.all_cons, num_dd n h, nums_dd n hs]
theorem vks_dd {K : PySem.W.Frag} {H : Hp} : ∀ {vs : List V} {ds : List PyData}, DdAll K H vs ds → shortAll ds = true → ∀ y ∈ vs, ∃ k, Vk K H y k
  | _, _, .nil, _ => fun y hy => absurd hy List.not_mem_nil
  | _, _, .cons h hs, e => fun y hy => by
    simp only [shortAll, Bool.and_eq_true] at e
    rcases List.mem_cons.mp hy with rfl | hy
    · exact ⟨_, vk_dd h e.1⟩
    · exact vks_dd hs e.2 y hy
theorem args_dd {K : PySem.W.Frag} {H : Hp} {a : Addr} {v0 v1 : V} {d1 : PyData} {n : Nat} {Q : VK} {E : XK} (hA : SqA K H a [v0, v1]) (h1 : Dd K H v1 d1) (hs : secB d1 = true) (hsh : shortD d1 = true)
    (q : ∀ (b : Addr) (ys : List V) (H' : Hp), Same H H' → SqA K H' b ys → ys.length ≤ 3 → (∀ y ∈ ys, ∃ k, Vk K H' y k) → ys.all (numV n) = allD n d1 → Q (.ref b) H') : spArgs K [.ref a] H Q E := by
  refine ⟨a, v0, v1, kindD d1, rfl, hA, vk_dd h1 hsh, fun hk H' s => ?_, fun hk b H' s hb => ?_⟩
  · rw [kind_seq] at hk
    cases e : seqD d1 with
    | none => rw [e] at hk; cases hk
    | some ns =>
      obtain ⟨b, ys, rfl, hB, hall⟩ := dd_seq h1 e
      unfold secB at hs
      rw [e] at hs
      have hs := of_decide_eq_true hs
      refine q b ys H' s (hB.up s) (by rw [hall.len]; exact hs) (fun y hy => ?_) ?_
      · obtain ⟨k, vk⟩ := vks_dd hall (short_seq hsh e) y hy
        exact ⟨k, vk.mono s⟩
      · rw [nums_dd n hall]
        unfold allD
        rw [e]
  · rw [kind_seq] at hk
    cases e : seqD d1 with
    | some ns => rw [e] at hk; cases hk
    | none =>
      refine q b [] H' s (.inr hb) (by show 0 ≤ 3; omega) (fun y hy => absurd hy List.not_mem_nil) ?_
      unfold allD
      rw [e]
      rfl
theorem ints_dd {K : PySem.W.Frag} {H : Hp} {n : Nat} : ∀ {vs : List V} {ds : List PyData}, DdAll K H vs ds → ds.all (idxD n) = true → vs = (ds.map intD).map V.int ∧ ∀ i ∈ ds.map intD, 0 ≤ i ∧ i < (n : Int)
  | _, _, .nil, _ => ⟨rfl, fun i hi => absurd hi List.not_mem_nil⟩
  | v :: vs, d :: ds, .cons h hs, e => by
    rw [List.all_cons, Bool.and_eq_true] at e
    obtain ⟨e1, e2⟩ := ints_dd hs e.2
    have e0 := e.1
    rw [e1]
    cases h with
    | int i =>
      have e0 := of_decide_eq_true e0
      refine ⟨rfl, fun j hj => ?_⟩
      rcases List.mem_cons.mp hj with e | hj
      · have e : j = i := e
        rw [e]
        omega
      · exact e2 j hj
    | _ => cases e0
/-- such data, its name and its numbers right, is a row -/
theorem pre_row {K : PySem.W.Frag} {H : Hp} {a : Addr} {v0 v1 : V} {d0 d1 : PyData} {n : Nat} (hA : SqA K H a [v0, v1]) (h0 : Dd K H v0 d0) (h1 : Dd K H v1 d1) (hs : secB d1 = true) (hn : nameD d0 = true) (hall : allD n d1 = true) :
    PreRow K H a (strD d0, keyT d1) ∧ nameB (TL.tl (strD d0)) = true ∧ ∀ ns, keyT d1 = .inr ns → ns.length ≤ 3 ∧ ∀ i ∈ ns, 0 ≤ i ∧ i < (n : Int) := by
  cases h0 with
  | str z =>
    have hz : nameB (TL.tl z) = true := hn
    obtain ⟨k1, k2⟩ := name_ok hz
    have hz5 : z.length ≤ 5000 := by omega
    cases e : seqD d1 with
    | none =>
      have ek : keyT d1 = .inl (intD d1) := by unfold keyT; rw [e]
      have ei : v1 = .int (intD d1) := by
        unfold secB at hs
        rw [e] at hs
        cases h1 with
        | int i => rfl
        | lst _ _ => cases e
        | tup _ _ => cases e
        | _ => cases hs
      rw [ek]
      subst ei
      exact ⟨⟨k1, hz5, .inl ⟨_, rfl, hA⟩⟩, hz, fun ns e => by cases e⟩
    | some ds =>
      have ek : keyT d1 = .inr (ds.map intD) := by unfold keyT; rw [e]
      obtain ⟨b, ys, rfl, hB, hds⟩ := dd_seq h1 e
      have ha : ds.all (idxD n) = true := by unfold allD at hall; rw [e] at hall; exact hall
      obtain ⟨e1, e2⟩ := ints_dd hds ha
      unfold secB at hs
      rw [e] at hs
      have hs := of_decide_eq_true hs
      rw [ek]
      refine ⟨⟨k1, hz5, .inr ⟨_, b, rfl, hA, e1 ▸ hB⟩⟩, hz, fun ns e => ?_⟩
      cases e
      exact ⟨by rw [List.length_map]; exact hs, e2⟩
  | _ => cases hn
theorem key_some {n : Nat} {d d0 d1 : PyData} (hf : formB d = true) (e : seqD d = some [d0, d1]) : keyD n d = if (nameD d0 && allD n d1) = true then some (strD d0, keyT d1) else none := by
  unfold keyD
  rw [if_pos hf, e]
theorem find_has {rs : List RowK} {as : List Addr} (h : as.length = rs.length) (k : RowK) : (findR (entR 0 rs as) k).isSome = hasR rs k := by
  cases hk : hasR rs k with
  | true =>
    obtain ⟨_, e2, e3⟩ := posR_old hk
    rw [findR_some 0 rs as k (posR rs k) h.symm e2 e3]
    rfl
  | false =>
    rw [findR_none 0 rs as k (hasR_not hk)]
    rfl
end Tp
set_option Elab.async false
set_option linter.all false
set_option maxRecDepth 100000
set_option maxHeartbeats 4000000
namespace T04
open PySem PySem.Spec PyProof.Rows L2 Tp
section
variable {P : Program} {w : World} {K : PySem.W.Frag} {mg : Str → Option Value} {base : Heap} {f : Addr} {fd : FuncData}

abbrev sBro : Stmt := inClass (top 29) 9
abbrev nBro : List Str := ["self"]
theorem scBro : FnScope nBro ["self"] (defScope sBro) := ⟨rfl, rfl, rfl, by decide +kernel, rfl, by decide +kernel, by decide +kernel⟩

theorem ok_rows {C : Addr} (F : Fun K "rows" "Book.rows" sBro f fd) (T : TxtV mg) (TB : TxtBk K C) : FnG P w K mg base CX0 1 f fd ["self"] (spRows P w K C) := by
  refine FunG.ok F scBro (fun vs H Q E h => ?_) (fun cdv B out s H vs Q E hr hG h => ?_)
  · obtain ⟨p, fp, rs, rfl, _⟩ := h
    rfl
  · obtain ⟨p, fp, rs, rfl, hB, q⟩ := h
    obtain ⟨dx, l1, d, l2, l3, l4, as, fs, rfl, nd, h0, a1, a2, a3, a4, a5, a6, b1, b2, h1, h2, h3, h4, h5, b3, b4, b5⟩ := hB.ex
    refine ⟨_, (pss_one (ps_ret (pe_callTy call_list_of (by rfl) T.list (by decide +kernel) (pa_cons (pe_fld (pv 0) rfl) pa_nil)))), ?_⟩
    exact ⟨_, rfl, p, C, dx, fs, _, rfl, h0, TB.cl, TB.no _ (by simp), a1, l1, _, rfl, .inl (SqL.of h1), fun l hl => q l _ as hl rfl b1 b2⟩

abbrev sBle : Stmt := inClass (top 29) 10
abbrev nBle : List Str := ["self"]
theorem scBle : FnScope nBle ["self"] (defScope sBle) := ⟨rfl, rfl, rfl, by decide +kernel, rfl, by decide +kernel, by decide +kernel⟩

theorem ok_len {C : Addr} (F : Fun K "__len__" "Book.__len__" sBle f fd) (T : TxtV mg) (TB : TxtBk K C) : FnG P w K mg base CX0 1 f fd ["self"] (spLen P w K C) := by
  refine FunG.ok F scBle (fun vs H Q E h => ?_) (fun cdv B out s H vs Q E hr hG h => ?_)
  · obtain ⟨p, fp, rs, rfl, _⟩ := h
    rfl
  · obtain ⟨p, fp, rs, rfl, hB, q⟩ := h
    obtain ⟨dx, l1, d, l2, l3, l4, as, fs, rfl, nd, h0, a1, a2, a3, a4, a5, a6, b1, b2, h1, h2, h3, h4, h5, b3, b4, b5⟩ := hB.ex
    refine ⟨_, (pss_one (ps_ret (pe_callB call_len (by rfl) T.len PySem.boot_len (pa_cons (pe_fld (pv 0) rfl) pa_nil)))), ?_⟩
    refine ⟨_, rfl, p, C, dx, fs, _, rfl, h0, TB.cl, TB.no _ (by simp), a1, _, _, rfl, .inl ⟨_, SqL.of h1, rfl⟩, ?_⟩
    rw [List.length_map, b1]
    exact q

abbrev sBgi : Stmt := inClass (top 29) 11
abbrev nBgi : List Str := ["self", "number"]
theorem scBgi : FnScope nBgi ["self", "number"] (defScope sBgi) := ⟨rfl, rfl, rfl, by decide +kernel, rfl, by decide +kernel, by decide +kernel⟩

theorem ok_item {C CU : Addr} (F : Fun K "__getitem__" "Book.__getitem__" sBgi f fd) (TB : TxtBk K C) (CR : Ctr P w K mg base 4 C "_require" [] (spReq P w K C CU)) : FnG P w K mg base (L2.CX P w) 5 f fd ["self", "number"] (spItem P w K C CU) := by
  refine FunG.okX F scBgi (fun vs H Q E h => ?_) (fun cdv B out s H vs Q E hr hG h => ?_)
  · obtain ⟨p, fp, rs, x, k, rfl, _⟩ := h
    rfl
  · obtain ⟨p, fp, rs, x, k, rfl, hB, hv, q0, q1⟩ := h
    have hB0 := hB
    obtain ⟨dx, l1, d, l2, l3, l4, as, fs, rfl, nd, h0, a1, a2, a3, a4, a5, a6, b1, b2, h1, h2, h3, h4, h5, b3, b4, b5⟩ := hB.ex
    refine ⟨_, (pss_cons (ps_expr (pe_ctr (pv 0) CR hr hG (by decide) (takes_of rfl rfl rfl rfl) (pa_cons (pv 1) pa_nil)))
      (pss_one (ps_ret (pe_ix ix_list (pe_fld (pv 0) rfl) (pv 1) fun _ _ => rfl)))), ?_⟩
    refine ⟨_, rfl, p, dx, fs, rfl, h0, a6 _ (by decide), _, rfl, ?_⟩
    refine ⟨p, _, rs, x, k, rfl, hB0, hv, fun e => ?_, fun e => q0 e⟩
    cases x with
    | int i =>
      obtain ⟨i0, i1⟩ := of_decide_eq_true e
      obtain ⟨n, rfl⟩ : ∃ n : Nat, i = (n : Int) := ⟨i.toNat, by omega⟩
      have hi : n < rs.length := by omega
      have hia : n < as.length := by omega
      refine ⟨_, rfl, p, C, dx, fs, _, rfl, h0, TB.cl, TB.no _ (by simp), a1, _, rfl, l1, _, (n : Int), .ref as[n], rfl, rfl, SqL.of h1, atI_nat (j := n) (by rw [List.getElem?_map, List.getElem?_eq_getElem hia]; rfl), ?_⟩
      exact q1 n rs[n] as[n] rfl (List.getElem?_eq_getElem hi) (b2 _ _ _ (List.getElem?_eq_getElem hi) (List.getElem?_eq_getElem hia))
    | _ => cases e

abbrev sBeq : Stmt := inClass (top 29) 14
abbrev nBeq : List Str := ["self", "other"]
theorem scBeq : FnScope nBeq ["self", "other"] (defScope sBeq) := ⟨rfl, rfl, rfl, by decide +kernel, rfl, by decide +kernel, by decide +kernel⟩

theorem ok_eq {C : Addr} (F : Fun K "__eq__" "Book.__eq__" sBeq f fd) (T : TxtV mg) (TB : TxtBk K C) (hmB : mg "Book" = some (.ref C)) : FnG P w K mg base CX0 1 f fd ["self", "other"] (spEqB P w K C) := by
  refine FunG.ok F scBeq (fun vs H Q E h => ?_) (fun cdv B out s H vs Q E hr hG h => ?_)
  · obtain ⟨p, fp, rs, y, rfl, _⟩ := h
    rfl
  · obtain ⟨p, fp, rs, y, rfl, hB, h⟩ := h
    refine ⟨_, (pss_one (ps_ret (pe_and (pe_callB call_isd (by rfl) T.isinstance (by decide +kernel) (pa_cons (pv 1) (pa_cons (gl_c (v := .ref C) (by rfl) ⟨_, hmB, rfl⟩) pa_nil))) (pe_one (pe_cmpR (op_eqD hr.units) (pe_fld (pv 0) rfl) (pe_fld (pv 1) rfl) (nomark _)))))), ?_⟩
    rcases h with ⟨qa, fq, qs, rfl, hC, hI, q⟩ | ⟨hI, q⟩
    · obtain ⟨dx, l1, d, l2, l3, l4, as, fs, rfl, nd, h0, a1, a2, a3, a4, a5, a6, b1, b2, h1, h2, h3, h4, h5, b3, b4, b5⟩ := hB.ex
      obtain ⟨dx', m1, d', m2, m3, m4, cs, gs, rfl, nd', g0, c1, c2, c3, c4, c5, c6, e1, e2, k1, k2, k3, k4, k5, e3, e4, e5⟩ := hC.ex
      refine ⟨_, rfl, _, _, _, _, rfl, .own _, hI, _, rfl, iteT ?_⟩
      refine ⟨_, rfl, p, C, dx, fs, _, rfl, h0, TB.cl, TB.no _ (by simp), a1, _, rfl, qa, C, dx', gs, _, rfl, g0, TB.cl, TB.no _ (by simp), c1, .list (rs.map rowD), .list (qs.map rowD), .lst (SqL.of h1) (rows_dp b1 b2), .lst (SqL.of k1) (rows_dp e1 e2), rows_shaped (okRows_str b4), rows_shaped (okRows_str e4), ?_⟩
      rw [PyData.eqv, rows_eqv]
      exact q
    · exact ⟨_, rfl, _, _, _, _, rfl, .own _, hI, _, rfl, iteF q⟩

end
end T04
set_option Elab.async false
set_option linter.all false
set_option maxRecDepth 100000
set_option maxHeartbeats 4000000
namespace T04
open PySem PySem.Spec PyProof.Rows L2 Tp
section
variable {P : Program} {w : World} {K : PySem.W.Frag} {mg : Str → Option Value} {base : Heap} {f : Addr} {fd : FuncData}

abbrev sBct : Stmt := inClass (top 29) 13
abbrev nBct : List Str := ["self", "value"]
theorem scBct : FnScope nBct ["self", "value"] (defScope sBct) := ⟨rfl, rfl, rfl, by decide +kernel, rfl, by decide +kernel, by decide +kernel⟩

theorem ok_cont {C : Addr} (F : Fun K "__contains__" "Book.__contains__" sBct f fd) (TB : TxtBk K C) (HF : Cg P w K mg base 3 "_has_row_form" (spForm K)) (N : Cg P w K mg base 1 "is_name" (spName K)) (AO : Cg P w K mg base 2 "arguments_of" (spArgs K)) (KR : Cg P w K mg base 2 "_kept_row" (spKept K)) (CA : Ct P w K mg base 4 C "_has_all" [] (spHasAll P w K C)) : FnG P w K mg base CX0 5 f fd ["self", "value"] (spCont P w K C) := by
  refine FunG.ok F scBct (fun vs H Q E h => ?_) (fun cdv B out s H vs Q E hr hG h => ?_)
  · obtain ⟨p, fp, rs, x, rfl, _⟩ := h
    rfl
  · obtain ⟨p, fp, rs, x, rfl, hB, h⟩ := h
    refine ⟨_, (pss_cons (ps_if (PW.pt (pw_or (pt_not (pt_val (pe_g HF hr hG (by decide) (by rfl) (pa_cons (pv 1) pa_nil)))) (pw_or (pt_not (pt_val (pe_g N hr hG (by decide) (by rfl) (pa_cons (pe_ix (ix_list.or ix_tup) (pv 1) pe_int fun _ _ => rfl) pa_nil)))) (pw_or1 (pt_not (pt_val (pe_ct (pv 0) CA hr hG (by decide) (pa_cons (pe_g AO hr hG (by decide) (by rfl) (pa_cons (pv 1) pa_nil)) pa_nil)))))))) (pss_one (ps_ret pe_bl)) pss_nil)
      (pss_one (ps_ret (pe_cmpR (op_rin (hu65 hr)) (pe_g KR hr hG (by decide) (by rfl) (pa_cons (pv 1) pa_nil)) (pe_fld (pv 0) rfl) rfl)))), ?_⟩
    refine ⟨_, rfl, ?_⟩
    dsimp only [tNil]
    rcases h with ⟨d, hd, hs, q⟩ | ⟨k, v, hk, q⟩
    · have no : memD rs d = false → ∀ H', Same H H' → Q (.bl false) H' := fun e H' s => by
        have q' := q H' s
        rwa [e] at q'
      refine ⟨x, rfl, .inl ⟨d, hd, hs, fun H1 s1 => ⟨_, rfl, ?_⟩⟩⟩
      cases hf : formB d with
      | false => exact iteT (iteT (no (by unfold memD keyD; rw [hf]; rfl) _ s1))
      | true =>
        obtain ⟨a, v0, v1, d0, d1, rfl, hA, h0, h1, e, hsec, sh0, sh1⟩ := form_of hd hs hf
        have ek := key_some (n := rs.length) hf e
        refine iteF ⟨_, rfl, ixA (hA.up s1) (atI_nat (j := 0) rfl) ?_⟩
        dsimp only [tNil]
        refine name_dd (h0.mono s1) sh0 fun H2 s2 => ⟨_, rfl, ?_⟩
        have s12 := Same.tr s1 s2
        cases hn : nameD d0 with
        | false => exact iteT (iteT (no (by unfold memD; rw [ek, hn]; rfl) _ s12))
        | true =>
          refine iteF ?_
          obtain ⟨dx, fs, g0, a6⟩ := (hB.up s12).there
          refine ⟨_, rfl, p, dx, fs, rfl, g0, a6 _ (by decide), _, rfl, ?_⟩
          dsimp only [tNil]
          refine args_dd (n := rs.length) (hA.up s12) (h1.mono s12) hsec sh1 fun b ys H3 s3 hb hl3 hvk hall => ?_
          have s13 := Same.tr s12 s3
          refine ⟨p, b, fp, rs, ys, rfl, hB.up s13, hb, by omega, hvk, fun H4 s4 => ⟨_, rfl, ?_⟩⟩
          have s14 := Same.tr s13 s4
          rw [hall]
          cases hal : allD rs.length d1 with
          | false => exact iteT (no (by unfold memD; rw [ek, hn, hal]; rfl) _ s14)
          | true =>
            obtain ⟨hp, _, _⟩ := pre_row (n := rs.length) (hA.up s14) (h0.mono s14) (h1.mono s14) hsec hn hal
            refine iteF ?_
            refine ⟨_, rfl, a, _, rfl, hp, fun a2 H5 s5 hr5 => ?_⟩
            have s15 := Same.tr s14 s5
            obtain ⟨dx, l1, dd, l2, l3, l4, as, fs, rfl, nd, g0, a1, a2', a3, a4, a5, a6, b1, b2, g1, g2, g3, g4, g5, b3, b4, b5⟩ := (hB.up s15).ex
            refine ⟨_, rfl, p, C, dx, fs, _, rfl, g0, TB.cl, TB.no _ (by simp), a2', _, _, a2, dd, ⟨rfl, rfl, g2, rowsIn_of b1 b2, hr5⟩, ?_⟩
            rw [find_has b1]
            have q' := q H5 s15
            unfold memD at q'
            rw [ek, hn, hal] at q'
            have q2 : Q (.bl (hasR rs (strD d0, keyT d1))) H5 := q'
            rw [← Bool.bne_false (hasR rs (strD d0, keyT d1))] at q2
            exact q2
    · exact ⟨x, rfl, .inr ⟨k, v, hk, fun H1 s1 => ⟨_, rfl, iteT (iteT (q _ s1))⟩⟩⟩

end
end T04
set_option Elab.async false
set_option linter.all false
set_option maxRecDepth 100000
set_option maxHeartbeats 4000000
/-! the heap without some addresses: data that lies apart from a box -/
namespace Tp
open PySem PySem.Spec PyProof.Rows L2
/-- all that is tracked but at p and q -/
def rs (p q : Addr) (G : Hp) : Hp := fun b => if b = p ∨ b = q then none else G b
section
variable {p q a : Addr} {G G' : Hp} {o : HO}
theorem rs_same : Same (rs p q G) G := fun b u e => by
  unfold rs at e
  split at e
  · cases e
  · exact e
theorem rs_at (h1 : a ≠ p) (h2 : a ≠ q) (e : G a = some o) : rs p q G a = some o := by
  unfold rs
  rw [if_neg fun z => z.elim h1 h2]
  exact e
theorem rs_keep (k : Keep2 p q G G') : Same (rs p q G) (rs p q G') := fun b u e => by
  unfold rs at e ⊢
  split at e
  · cases e
  · rename_i h
    rw [if_neg h]
    exact k b u (fun z => h (.inl z)) (fun z => h (.inr z)) e
theorem rs_keep1 (k : Keep p G G') : Same (rs p p G) (rs p p G') := rs_keep (Keep2.of k)
theorem rs_more : Same (rs p q G) (rs p p G) := fun b u e => by
  unfold rs at e ⊢
  split at e
  · cases e
  · rename_i h
    rw [if_neg fun z => h (.inl (z.elim id id))]
    exact e
theorem rs_up (k : Same G G') : Same (rs p q G) (rs p q G') := rs_keep fun b u _ _ e => k b u e
/-- a new object beside a box -/
theorem alloc {n : Nat} (hb : BoxAt G p n) (e : G a = none) : BoxAt (upd G a o) p n ∧ Same (rs p p G) (rs p p (upd G a o)) ∧ rs p p (upd G a o) a = some o ∧ Keep p G (upd G a o) ∧ Same G (upd G a o) :=
  ⟨hb.new e, rs_up (Same.put e), rs_at (hb.ne e).symm (hb.ne e).symm upd_same, Keep.new e, Same.put e⟩
end
/-- one of two targets -/
def gOr (g1 g2 : TG) : TG := fun v σ H Q => g1 v σ H Q ∨ g2 v σ H Q
theorem pg_or {X : Cx} {tg : Expr} {g1 g2 : TG} (h1 : PG X tg g1) (h2 : PG X tg g2) : PG X tg (gOr g1 g2) :=
  ⟨fun pins s σ H v u Q I r hw => hw.elim (h1.run pins s σ H v u Q I r) (h2.run pins s σ H v u Q I r)⟩
theorem pair_of {K : PySem.W.Frag} {H : Hp} {a : Addr} {xs : List V} {n : Nat} {t : TGs} {σ : L2.St} {Q : L2.St → Hp → Prop} (h : SqA K H a xs) (hn : xs.length = n) (q : t xs σ H Q) : gOr (gTup K n t) (gLst K n t) (.ref a) σ H Q :=
  h.elim (fun h => .inr ⟨a, xs, rfl, h, hn, q⟩) fun h => .inl ⟨a, xs, rfl, h, hn, q⟩
mutual
/-- data whose texts have small signs -/
def smD : PyData → Bool
  | .str z => (TL.tl z).all fun c => decide (c < 256)
  | .list ds => smAll ds
  | .tuple ds => smAll ds
  | .none => true
  | .bool _ => true
  | .int _ => true
  | .dict _ => true
def smAll : List PyData → Bool
  | [] => true
  | d :: ds => smD d && smAll ds
end
theorem smAll_get : ∀ {ds : List PyData} {i : Nat} {d : PyData}, smAll ds = true → ds[i]? = some d → smD d = true
  | d :: ds, 0, _, h, e => by
    cases e
    simp only [smAll, Bool.and_eq_true] at h
    exact h.1
  | d :: ds, i + 1, _, h, e => by
    simp only [smAll, Bool.and_eq_true] at h
    exact smAll_get (i := i) h.2 e
theorem smD_seq {d : PyData} {ds : List PyData} (h : smD d = true) (e : seqD d = some ds) : smAll ds = true := by
  cases d with
  | list xs =>
    cases e
    simpa only [smD] using h
  | tuple xs =>
    cases e
    simpa only [smD] using h
  | _ => cases e
theorem smD_str {z : Str} (h : smD (.str z) = true) : ∀ c ∈ TL.tl z, c < 256 := fun c hc => by
  simp only [smD] at h
  exact of_decide_eq_true (List.all_eq_true.mp h c hc)
theorem smD_tz {n : Nat} {z : Str} (h : Tz n z) : smD (.str z) = true := by
  simp only [smD]
  exact List.all_eq_true.mpr fun c hc => decide_eq_true (h.sm c hc)
theorem smAll_of : ∀ {ds : List PyData}, (∀ d ∈ ds, smD d = true) → smAll ds = true
  | [], _ => rfl
  | d :: ds, h => by
    simp only [smAll, Bool.and_eq_true]
    exact ⟨h d List.mem_cons_self, smAll_of fun x hx => h x (List.mem_cons_of_mem _ hx)⟩
theorem smAll_mem : ∀ {ds : List PyData}, smAll ds = true → ∀ d ∈ ds, smD d = true
  | d :: ds, h, x, hx => by
    simp only [smAll, Bool.and_eq_true] at h
    rcases List.mem_cons.mp hx with e | e
    · subst e
      exact h.1
    · exact smAll_mem h.2 x e
mutual
/-- data without dicts are what the layer knows -/
theorem dp_of_dd {K : PySem.W.Frag} {H : Hp} : ∀ (d : PyData) (v : V), Dd K H v d → d.hasDict = false → Dp K H v d
  | .none, _, h, _ => by cases h; exact .non
  | .bool _, _, h, _ => by cases h; exact .bl _
  | .int _, _, h, _ => by cases h; exact .int _
  | .str _, _, h, _ => by cases h; exact .str _
  | .list ds, _, h, e => by
    cases h with
    | lst hs ha => exact .lst hs (dp_of_ddAll ds _ ha (by simpa only [PyData.hasDict] using e))
  | .tuple ds, _, h, e => by
    cases h with
    | tup hs ha => exact .tup hs (dp_of_ddAll ds _ ha (by simpa only [PyData.hasDict] using e))
  | .dict _, _, _, e => by simp [PyData.hasDict] at e
theorem dp_of_ddAll {K : PySem.W.Frag} {H : Hp} : ∀ (ds : List PyData) (vs : List V), DdAll K H vs ds → PyData.hasDictAll ds = false → DpAll K H vs ds
  | [], _, h, _ => by cases h; exact .nil
  | d :: ds, _, h, e => by
    cases h with
    | cons h1 h2 =>
      simp only [PyData.hasDictAll, Bool.or_eq_false_iff] at e
      exact .cons (dp_of_dd d _ h1 e.1) (dp_of_ddAll ds _ h2 e.2)
end
/-- data that may be shown and asked -/
structure Gd (n k : Nat) (d : PyData) : Prop where
  nc : Nice n k d
  sm : smD d = true
theorem Gd.mono {n k m j : Nat} {d : PyData} (h : Gd n k d) (h1 : n ≤ m) (h2 : k ≤ j) : Gd m j d := ⟨h.nc.mono h1 h2, h.sm⟩
end Tp
namespace Tp
open PySem PySem.Spec PyProof.Rows L2
mutual
theorem canLay_of_sm : ∀ d : PyData, smD d = true → d.hasDict = false → d.canLay0 = true
  | .none, _, _ => rfl
  | .bool _, _, _ => rfl
  | .int _, _, _ => rfl
  | .str z, h, _ => by
    simp only [PyData.canLay0, PyData.strOk]
    rw [← Array.all_toList]
    exact List.all_eq_true.mpr fun c hc => decide_eq_true (Nat.lt_trans (smD_str h c hc) (by decide))
  | .list ds, h, e => by
    simp only [smD] at h
    simp only [PyData.hasDict] at e
    simpa only [PyData.canLay0] using canLay_of_smAll ds h e
  | .tuple ds, h, e => by
    simp only [smD] at h
    simp only [PyData.hasDict] at e
    simpa only [PyData.canLay0] using canLay_of_smAll ds h e
  | .dict _, _, e => by simp [PyData.hasDict] at e
theorem canLay_of_smAll : ∀ ds : List PyData, smAll ds = true → PyData.hasDictAll ds = false → PyData.canLayAll0 ds = true
  | [], _, _ => rfl
  | d :: ds, h, e => by
    simp only [smAll, Bool.and_eq_true] at h
    simp only [PyData.hasDictAll, Bool.or_eq_false_iff] at e
    simp only [PyData.canLayAll0, Bool.and_eq_true]
    exact ⟨canLay_of_sm d h.1 e.1, canLay_of_smAll ds h.2 e.2⟩
end
theorem nodict_ints : ∀ ns : List Int, PyData.hasDictAll (ns.map PyData.int) = false
  | [] => rfl
  | n :: ns => by
    simp only [List.map_cons, PyData.hasDictAll, PyData.hasDict, Bool.false_or]
    exact nodict_ints ns
theorem gd_list {n k : Nat} {ds : List PyData} (h : ∀ d ∈ ds, Gd n k d) : Gd (ds.length * (n + 1)) (k + 1) (.list ds) :=
  ⟨(niceAll_of fun d hd => (h d hd).nc).list, by simpa only [smD] using smAll_of fun d hd => (h d hd).sm⟩
theorem gd_tup {n k : Nat} {ds : List PyData} (h : ∀ d ∈ ds, Gd n k d) : Gd (ds.length * (n + 1)) (k + 1) (.tuple ds) :=
  ⟨(niceAll_of fun d hd => (h d hd).nc).tuple, by simpa only [smD] using smAll_of fun d hd => (h d hd).sm⟩
theorem gd_none : Gd 0 0 .none := ⟨nice_none, rfl⟩
theorem gd_bool (b : Bool) : Gd 0 0 (.bool b) := ⟨nice_bool b, rfl⟩
theorem gd_int {i : Int} {k : Nat} (h : i.natAbs < 2 ^ k) (hk : k ≤ 999) : Gd k 0 (.int i) := ⟨nice_small h hk, rfl⟩
theorem gd_str {n : Nat} {z : Str} (h : Tz n z) : Gd n 0 (.str z) := ⟨nice_str h, smD_tz h⟩
end Tp
set_option Elab.async false
set_option linter.all false
set_option maxRecDepth 100000
set_option maxHeartbeats 4000000
/-! books that are made of rows -/
namespace Tp
open PySem PySem.Spec PyProof.Rows L2
/-- what becomes of an item of the list that a book is made of -/
inductive TakeR where
  | row
  | name
  | ok (k : RowK)
def takeD (rs : List RowK) (d : PyData) : TakeR := if formB d = true then (match seqD d with
  | some [a, b] => if nameD a = true then (if (!allD rs.length b || hasR rs (strD a, keyT b)) = true then .row else .ok (strD a, keyT b)) else .name
  | _ => .row) else .row
def spTakeB (P : Program) (w : World) (K : PySem.W.Frag) (C CR CN : Addr) : Sp := fun vs H Q E => ∃ (p : Addr) (fp : List Addr) (rs : List RowK) (x : V) (d : PyData), vs = [.ref p, x] ∧ BookAt P w K H C p fp rs ∧ rs.length < 5000 ∧ Dd K H x d ∧ shortD d = true ∧
  (takeD rs d = .row → Rsd E H CR "value" x) ∧ (takeD rs d = .name → ∃ a v0 v1, x = .ref a ∧ SqA K H a [v0, v1] ∧ Rsd E H CN "value" v0) ∧
  ∀ k, takeD rs d = .ok k → (∀ n, k.2 = .inl n → n.natAbs.log2 < 1000) ∧ ∀ H', Frame fp H H' → BookAt P w K H' C p fp (rs ++ [k]) → Q .non H'
theorem take_form {rs : List RowK} {d d0 d1 : PyData} (hf : formB d = true) (e : seqD d = some [d0, d1]) : takeD rs d = if nameD d0 = true then (if (!allD rs.length d1 || hasR rs (strD d0, keyT d1)) = true then .row else .ok (strD d0, keyT d1)) else .name := by
  unfold takeD
  rw [if_pos hf, e]
theorem take_no {rs : List RowK} {d : PyData} (hf : formB d = false) : takeD rs d = .row := by
  unfold takeD
  rw [if_neg (by rw [hf]; decide)]
/-- the way of a whole list: the rows, or the first item that is refused -/
def buildR : List RowK → List PyData → Sum (Nat × Bool) (List RowK)
  | rs, [] => .inr rs
  | rs, d :: ds => match takeD rs d with
    | .row => .inl (0, false)
    | .name => .inl (0, true)
    | .ok k => match buildR (rs ++ [k]) ds with
      | .inl (i, b) => .inl (i + 1, b)
      | .inr qs => .inr qs
/-- raised, all but p as it was -/
def RsdK (E : XK) (H : Hp) (p : Addr) (C : Addr) (n : Str) (x : V) : Prop := ∀ H' dd fs, Keep p H H' → H' dd = some (exd dd fs) → fs.lookup n = some x → E (.ref C) (some dd) H'
def spInitB (P : Program) (w : World) (K : PySem.W.Frag) (C CP CR CN : Addr) : Sp := fun vs H Q E => ∃ (p dx : Addr) (x : V), vs = [.ref p, x] ∧ H p = some (.ins C dx []) ∧
  ((∃ k, Vk K (rs p p H) x k ∧ (k == "list" || k == "tuple") = false ∧ RsdK E H p CP "value" x) ∨
   ∃ (b : Addr) (ys : List V) (ds : List PyData), x = .ref b ∧ SqA K (rs p p H) b ys ∧ DdAll K (rs p p H) ys ds ∧ shortAll ds = true ∧ ds.length < 5000 ∧ (∀ m qs, buildR [] (ds.take m) = .inr qs → ∀ k ∈ qs, ∀ n, k.2 = .inl n → n.natAbs.log2 < 1000) ∧
    (∀ i, buildR [] ds = .inl (i, false) → ∃ y, ys[i]? = some y ∧ RsdK E H p CR "value" y) ∧
    (∀ i, buildR [] ds = .inl (i, true) → ∃ a v0 v1, ys[i]? = some (.ref a) ∧ SqA K (rs p p H) a [v0, v1] ∧ RsdK E H p CN "value" v0) ∧
    ∀ qs, buildR [] ds = .inr qs → ∀ H' fp, Keep p H H' → (∀ b ∈ fp, H b = none) → BookAt P w K H' C p fp qs → Q .non H')
theorem build_snoc : ∀ (ds : List PyData) (d : PyData) (r0 : List RowK), buildR r0 (ds ++ [d]) = match buildR r0 ds with
    | .inl e => .inl e
    | .inr qs => match takeD qs d with
      | .row => .inl (ds.length, false)
      | .name => .inl (ds.length, true)
      | .ok k => .inr (qs ++ [k])
  | [], d, r0 => by
    show buildR r0 [d] = _
    unfold buildR
    cases e : takeD r0 d <;> simp [buildR, e]
  | x :: ds, d, r0 => by
    rw [List.cons_append]
    unfold buildR
    cases e : takeD r0 x with
    | row => rfl
    | name => rfl
    | ok k =>
      have ih := build_snoc ds d (r0 ++ [k])
      dsimp only
      rw [ih]
      cases e2 : buildR (r0 ++ [k]) ds with
      | inl z => rfl
      | inr qs =>
        dsimp only
        cases takeD qs d <;> rfl
/-- once refused, refused -/
theorem build_stop : ∀ (ds es : List PyData) (r0 : List RowK) (i : Nat) (b : Bool), buildR r0 ds = .inl (i, b) → buildR r0 (ds ++ es) = .inl (i, b)
  | [], es, r0, i, b, h => by cases h
  | x :: ds, es, r0, i, b, h => by
    rw [List.cons_append]
    unfold buildR at h ⊢
    cases e : takeD r0 x with
    | row => rw [e] at h; exact h
    | name => rw [e] at h; exact h
    | ok k =>
      rw [e] at h
      cases e2 : buildR (r0 ++ [k]) ds with
      | inr qs =>
        have h : (match buildR (r0 ++ [k]) ds with | .inl (i, b) => (.inl (i + 1, b) : Sum (Nat × Bool) (List RowK)) | .inr qs => .inr qs) = .inl (i, b) := h
        rw [e2] at h
        cases h
      | inl z =>
        obtain ⟨j, c⟩ := z
        have h : (match buildR (r0 ++ [k]) ds with | .inl (i, b) => (.inl (i + 1, b) : Sum (Nat × Bool) (List RowK)) | .inr qs => .inr qs) = .inl (i, b) := h
        rw [e2] at h
        have := build_stop ds es (r0 ++ [k]) j c e2
        show (match buildR (r0 ++ [k]) (ds ++ es) with | .inl (i, b) => (.inl (i + 1, b) : Sum (Nat × Bool) (List RowK)) | .inr qs => .inr qs) = .inl (i, b)
        rw [this]
        exact h
def spCopied (P : Program) (w : World) (K : PySem.W.Frag) (C : Addr) : Sp := fun vs H Q _ => ∃ (p : Addr) (fp : List Addr) (rs : List RowK), vs = [.ref p] ∧ BookAt P w K H C p fp rs ∧ rs.length < 5000 ∧ ∀ q H' fq, Same H H' → H q = none → (∀ b ∈ fq, H b = none) → BookAt P w K H' C q fq rs → Q (.ref q) H'
theorem sec_pos {d : PyData} {n : Int} (h : secB d = true) (e : keyT d = .inl n) : 0 ≤ n := by
  unfold secB at h
  unfold keyT at e
  cases e1 : seqD d with
  | some ns =>
    rw [e1] at e
    cases e
  | none =>
    rw [e1] at e h
    cases e
    cases d with
    | int i => exact of_decide_eq_true h
    | _ => cases h
theorem raise_g {K : PySem.W.Frag} {H0 H1 : Hp} {C : Addr} {n : Str} {ns : List Str} {vs : List V} {Q : XK} (hT : ExK K C) (g : ∀ a, H1 a = none → H0 a = none) (hl : vs.length = (n :: ns).length) (hn : (n :: ns).length ≤ 1000) (q : ∀ H' dd fs, Same H1 H' → H' dd = some (exd dd fs) → Has fs (n :: ns) vs → Q (.ref C) (some dd) H') :
    vs.length = (n :: ns).length ∧ (n :: ns).length ≤ 1000 ∧ ∀ a H', H1 a = none → Same H1 H' → ExI H' a C (n :: ns) vs → ∃ (a' C' : Addr) (d : Option Addr), V.ref a = .ref a' ∧ H' a' = some (exo a' C' d) ∧ Fr0 H0 a' ∧ ExK K C' ∧ Q (.ref C') d (delH H' a') := by
  refine ⟨hl, hn, fun a H' ha sm he => ?_⟩
  obtain ⟨fs, hA, hf⟩ := he
  have fr : Fr0 H0 a := fr0_none (g a ha)
  rcases hA with ⟨rfl, hA⟩ | ⟨dx, ne, hA, hd⟩
  · match vs, hl with
    | v :: vs, _ => exact absurd (hf 0 n v rfl rfl) (by simp)
  · exact ⟨a, C, some dx, rfl, hA, fr, hT, q _ dx fs (fun b o e => (delH_ne (ne_of_none e ha)).trans (sm b o e)) ((delH_ne ne).trans hd) hf⟩
theorem seq_itK {K : PySem.W.Frag} {H0 H : Hp} {a : Addr} {xs : List V} {R : It → Hp → Prop} (h : SqA K H0 a xs) (s : Same H0 H) (hR : ∀ (J : It) (S : Hp → Prop), Walk J xs.length S (YAt xs) → (∀ G, Same H0 G → S G) → R J H) : SeqR K a H R := by
  rcases h with h | h
  · exact .inl ⟨⟨xs, upL s h⟩, hR _ _ walk_list fun G k => upL k h⟩
  · exact .inr ⟨⟨xs, upT s h⟩, hR _ _ walk_tup fun G k => upT k h⟩
theorem build_len : ∀ (ds : List PyData) (r0 qs : List RowK), buildR r0 ds = .inr qs → qs.length ≤ r0.length + ds.length
  | [], r0, qs, h => by
    cases h
    exact Nat.le_refl _
  | d :: ds, r0, qs, h => by
    unfold buildR at h
    cases e : takeD r0 d with
    | row => rw [e] at h; cases h
    | name => rw [e] at h; cases h
    | ok k =>
      rw [e] at h
      dsimp only at h
      cases e2 : buildR (r0 ++ [k]) ds with
      | inl z => rw [e2] at h; cases h
      | inr ps =>
        rw [e2] at h
        cases h
        have := build_len ds (r0 ++ [k]) qs e2
        rw [List.length_append, List.length_singleton] at this
        rw [List.length_cons]
        omega
theorem keep_fr {p : Addr} {fp : List Addr} {H G G' : Hp} (k : Keep p H G) (f : Frame fp G G') (h : ∀ b ∈ fp, H b = none) : Keep p H G' := fun b o hb e => f b o (fun z => by rw [h b z] at e; cases e) (k b o hb e)
theorem build_at {ds : List PyData} {qs : List RowK} {i : Nat} {d : PyData} (h : buildR [] (ds.take i) = .inr qs) (e : ds[i]? = some d) :
    (takeD qs d = .row → buildR [] ds = .inl (i, false)) ∧ (takeD qs d = .name → buildR [] ds = .inl (i, true)) ∧ ∀ k, takeD qs d = .ok k → buildR [] (ds.take (i + 1)) = .inr (qs ++ [k]) := by
  have hi : i < ds.length := by
    rcases Nat.lt_or_ge i ds.length with h | h
    · exact h
    · rw [List.getElem?_eq_none h] at e
      cases e
  have e1 : ds.take (i + 1) = ds.take i ++ [d] := by rw [List.take_add_one, e]; rfl
  have e2 : ds = ds.take (i + 1) ++ ds.drop (i + 1) := (List.take_append_drop _ _).symm
  have e3 := build_snoc (ds.take i) d []
  rw [h, ← e1] at e3
  dsimp only at e3
  have el : (ds.take i).length = i := by rw [List.length_take]; omega
  rw [el] at e3
  refine ⟨fun z => ?_, fun z => ?_, fun k z => ?_⟩
  · rw [z] at e3
    rw [e2]
    exact build_stop _ _ _ _ _ e3
  · rw [z] at e3
    rw [e2]
    exact build_stop _ _ _ _ _ e3
  · rw [z] at e3
    exact e3
/-! rows of a book as data of which a book is made -/
theorem row_dd {K : PySem.W.Frag} {H : Hp} {k : RowK} {a : Addr} (h : RowAt K H k a) : Dd K H (.ref a) (rowD k) := by
  obtain ⟨x, y⟩ := k
  obtain ⟨_, h⟩ := h
  rcases h with ⟨n, e, h⟩ | ⟨ns, b, e, h1, h2⟩
  · have e' : y = .inl n := e
    subst e'
    exact .tup h (.cons (.str x) (.cons (.int n) .nil))
  · have e' : y = .inr ns := e
    subst e'
    refine .tup h1 (.cons (.str x) (.cons (.tup h2 ?_) .nil))
    have all : ∀ ms : List Int, DdAll K H (ms.map V.int) (ms.map PyData.int) := fun ms => by
      induction ms with
      | nil => exact .nil
      | cons m ms ih => exact .cons (.int m) ih
    exact all ns
theorem rows_dd {K : PySem.W.Frag} {H : Hp} : ∀ {rs : List RowK} {as : List Addr}, as.length = rs.length → (∀ (i : Nat) (k : RowK) (a : Addr), rs[i]? = some k → as[i]? = some a → RowAt K H k a) → DdAll K H (as.map V.ref) (rs.map rowD)
  | [], [], _, _ => .nil
  | k :: rs, a :: as, hl, h => .cons (row_dd (h 0 k a rfl rfl)) (rows_dd (by simpa using hl) fun j k' a' e1 e2 => h (j + 1) k' a' (by simpa using e1) (by simpa using e2))
  | [], _ :: _, h, _ => by cases h
  | _ :: _, [], h, _ => by cases h
theorem short_ints : ∀ ns : List Int, shortAll (ns.map PyData.int) = true
  | [] => rfl
  | n :: ns => by simp only [List.map_cons, shortAll, shortD, short_ints ns, Bool.and_self]
theorem short_row {n : Nat} {k : RowK} (h : OkK n k) : shortD (rowD k) = true := by
  obtain ⟨x, y⟩ := k
  have h5 : x.length ≤ 5000 := by
    have : x.length ≤ 8 := (name_ok h.1).2
    omega
  cases y with
  | inl t => simp [rowD, shortD, shortAll, h5]
  | inr ns => simp [rowD, shortD, shortAll, h5, short_ints ns]
theorem short_rows : ∀ {rs : List RowK}, (∀ k ∈ rs, ∃ n, OkK n k) → shortAll (rs.map rowD) = true
  | [], _ => rfl
  | k :: rs, h => by
    obtain ⟨n, hk⟩ := h k List.mem_cons_self
    simp only [List.map_cons, shortAll, short_row hk, short_rows fun x hx => h x (List.mem_cons_of_mem _ hx), Bool.and_self]
theorem int_back (ns : List Int) : (ns.map PyData.int).map intD = ns := by
  rw [List.map_map]
  exact List.map_id'' (fun _ => rfl) ns
theorem take_row {rs : List RowK} {k : RowK} (h : OkK rs.length k) (hn : k ∉ rs) : takeD rs (rowD k) = .ok k := by
  obtain ⟨x, y⟩ := k
  have hx : nameB (TL.tl x) = true := h.1
  have h2 := h.2
  have hh : hasR rs (x, y) = false := by
    cases e : hasR rs (x, y) with
    | false => rfl
    | true => exact absurd (hasR_iff.mp e) hn
  cases y with
  | inl t =>
    have f : formB (rowD (x, .inl t)) = true := by
      show secB (.int t) = true
      unfold secB
      exact decide_eq_true h2.1
    rw [take_form f (d0 := .str x) (d1 := .int t) rfl]
    have e1 : nameD (.str x) = true := hx
    have e2 : allD rs.length (.int t) = true := rfl
    have e3 : (strD (.str x), keyT (.int t)) = (x, Sum.inl t) := rfl
    rw [e1, e2, e3, hh]
    rfl
  | inr ns =>
    have hl : ns.length ≤ 3 := h2.1
    have f : formB (rowD (x, .inr ns)) = true := by
      show secB (.tuple (ns.map PyData.int)) = true
      unfold secB
      exact decide_eq_true (by rw [List.length_map]; exact hl)
    rw [take_form f (d0 := .str x) (d1 := .tuple (ns.map PyData.int)) rfl]
    have e1 : nameD (.str x) = true := hx
    have e2 : allD rs.length (.tuple (ns.map PyData.int)) = true := by
      show (ns.map PyData.int).all (idxD rs.length) = true
      rw [List.all_map]
      refine List.all_eq_true.mpr fun i hi => decide_eq_true ?_
      have := h2.2 i hi
      omega
    have e3 : (strD (.str x), keyT (.tuple (ns.map PyData.int))) = (x, Sum.inr ns) := by
      show (x, Sum.inr ((ns.map PyData.int).map intD)) = _
      rw [int_back]
    rw [e1, e2, e3, hh]
    rfl
theorem build_rows : ∀ (ks rs : List RowK), OkRows (rs ++ ks) → (rs ++ ks).Nodup → buildR rs (ks.map rowD) = .inr (rs ++ ks)
  | [], rs, _, _ => by rw [List.append_nil]; rfl
  | k :: ks, rs, ho, hn => by
    have hk : OkK rs.length k := ho rs.length k (by simp)
    have hnk : k ∉ rs := fun z => by
      have := (List.nodup_append.mp hn).2.2 k z k List.mem_cons_self
      exact this rfl
    have e : rs ++ k :: ks = (rs ++ [k]) ++ ks := by simp
    rw [List.map_cons]
    unfold buildR
    rw [take_row hk hnk]
    dsimp only
    rw [build_rows ks (rs ++ [k]) (e ▸ ho) (e ▸ hn), ← e]
end Tp
set_option Elab.async false
set_option linter.all false
set_option maxRecDepth 100000
set_option maxHeartbeats 4000000
namespace T04
open PySem PySem.Spec PyProof.Rows L2 Tp
section
variable {P : Program} {w : World} {K : PySem.W.Frag} {mg : Str → Option Value} {base : Heap} {f : Addr} {fd : FuncData}

abbrev sBtk : Stmt := inClass (top 29) 1
abbrev nBtk : List Str := ["self", "item"]
theorem scBtk : FnScope nBtk ["self", "item"] (defScope sBtk) := ⟨rfl, rfl, rfl, by decide +kernel, rfl, by decide +kernel, by decide +kernel⟩

theorem ok_btake {C CR CN : Addr} (F : Fun K "_take" "Book._take" sBtk f fd) (TB : TxtBk K C) (HF : Cg P w K mg base 3 "_has_row_form" (spForm K)) (N : Cg P w K mg base 1 "is_name" (spName K)) (AO : Cg P w K mg base 2 "arguments_of" (spArgs K)) (KR : Cg P w K mg base 2 "_kept_row" (spKept K)) (CA : Ct P w K mg base 4 C "_has_all" [] (spHasAll P w K C)) (CE : Ct P w K mg base 3 C "_entered" [] (spEnt P w K C)) (XR : Cx1 P w K mg base "InvalidRow" CR 1 [] (spI CR ["value"]) (fun vs _ => vs)) (XN : Cx1 P w K mg base "InvalidName" CN 1 [] (spI CN ["value"]) (fun vs _ => vs)) : FnG P w K mg base (L2.CX P w) 5 f fd ["self", "item"] (spTakeB P w K C CR CN) := by
  have hTR : ExK K CR := let ⟨_, _, _, _, h, _⟩ := XR.ex; h
  have hTN : ExK K CN := let ⟨_, _, _, _, h, _⟩ := XN.ex; h
  refine FunG.okX F scBtk (fun vs H Q E h => ?_) (fun cdv B out s H vs Q E hr hG h => ?_)
  · obtain ⟨p, fp, rs, x, d, rfl, _⟩ := h
    rfl
  · obtain ⟨p, fp, rs, x, d, rfl, hB, hlt, hd, hs, q0, q1, q2⟩ := h
    refine ⟨_, (pss_cons (ps_if (pt_not (pt_val (pe_g HF hr hG (by decide) (by rfl) (pa_cons (pv 1) pa_nil)))) (pss_one (ps_raise rfl (takes_of rfl rfl rfl rfl) (pmk_x rfl (pe_mke (ns := ["value"]) XR (hr.mono (by decide)) (by rfl) (pa_cons (pv 1) pa_nil))))) pss_nil)
      (pss_cons (ps_if (pt_not (pt_val (pe_g N hr hG (by decide) (by rfl) (pa_cons (pe_ix (ix_list.or ix_tup) (pv 1) pe_int fun _ _ => rfl) pa_nil)))) (pss_one (ps_raise rfl (takes_of rfl rfl rfl rfl) (pmk_x rfl (pe_mke (ns := ["value"]) XN (hr.mono (by decide)) (by rfl) (pa_cons (pe_ix (ix_list.or ix_tup) (pv 1) pe_int fun _ _ => rfl) pa_nil))))) pss_nil)
      (pss_cons (ps_if (PW.pt (pw_or (pt_not (pt_val (pe_ct (pv 0) CA hr hG (by decide) (pa_cons (pe_g AO hr hG (by decide) (by rfl) (pa_cons (pv 1) pa_nil)) pa_nil)))) (pw_or1 (pt_cmpR (op_rin (hu65 hr)) (pe_g KR hr hG (by decide) (by rfl) (pa_cons (pv 1) pa_nil)) (pe_fld (pv 0) rfl) rfl)))) (pss_one (ps_raise rfl (takes_of rfl rfl rfl rfl) (pmk_x rfl (pe_mke (ns := ["value"]) XR (hr.mono (by decide)) (by rfl) (pa_cons (pv 1) pa_nil))))) pss_nil)
      (pss_one (ps_expr (pe_ct (pv 0) CE hr hG (by decide) (pa_cons (pe_g KR hr hG (by decide) (by rfl) (pa_cons (pv 1) pa_nil)) pa_nil))))))), ?_⟩
    refine ⟨_, rfl, x, rfl, .inl ⟨d, hd, hs, fun H1 s1 => ⟨_, rfl, ?_⟩⟩⟩
    cases hf : formB d with
    | false => exact iteT ⟨_, rfl, raise_e hTR s1 rfl (by decide) fun H' dd fs s he hf' => q0 (take_no hf) H' dd fs (Same.tr s1 s) he (hf' 0 "value" x rfl rfl)⟩
    | true =>
      obtain ⟨a, v0, v1, d0, d1, rfl, hA, h0, h1, e, hsec, sh0, sh1⟩ := form_of hd hs hf
      have ek := take_form (rs := rs) hf e
      refine iteF ?_
      refine ⟨_, rfl, ixA (hA.up s1) (atI_nat (j := 0) rfl) ?_⟩
      dsimp only [tNil]
      refine name_dd (h0.mono s1) sh0 fun H2 s2 => ⟨_, rfl, ?_⟩
      have s12 := Same.tr s1 s2
      cases hn : nameD d0 with
      | false =>
        obtain ⟨a', w0, w1, ea, hA', r⟩ := q1 (by rw [ek, hn]; rfl)
        cases ea
        exact iteT ⟨_, rfl, ixA (hA'.up s12) (atI_nat (j := 0) rfl) (raise_e hTN s12 rfl (by decide) fun H' dd fs s he hf' => r H' dd fs (Same.tr s12 s) he (hf' 0 "value" w0 rfl rfl))⟩
      | true =>
        refine iteF ?_
        obtain ⟨dx, fs, g0, a6⟩ := (hB.up s12).there
        refine ⟨_, rfl, p, dx, fs, rfl, g0, a6 _ (by decide), _, rfl, ?_⟩
        dsimp only [tNil]
        refine args_dd (n := rs.length) (hA.up s12) (h1.mono s12) hsec sh1 fun b ys H3 s3 hb hl3 hvk hall => ?_
        have s13 := Same.tr s12 s3
        refine ⟨p, b, fp, rs, ys, rfl, hB.up s13, hb, by omega, hvk, fun H4 s4 => ⟨_, rfl, ?_⟩⟩
        have s14 := Same.tr s13 s4
        rw [hall]
        cases hal : allD rs.length d1 with
        | false => exact iteT (iteT ⟨_, rfl, raise_e hTR s14 rfl (by decide) fun H' dd fs s he hf' => q0 (by rw [ek, hn, hal]; rfl) H' dd fs (Same.tr s14 s) he (hf' 0 "value" _ rfl rfl)⟩)
        | true =>
          obtain ⟨hp, hz, hns⟩ := pre_row (n := rs.length) (hA.up s14) (h0.mono s14) (h1.mono s14) hsec hn hal
          refine iteF ?_
          refine ⟨_, rfl, a, _, rfl, hp, fun a2 H5 s5 hr5 => ?_⟩
          have s15 := Same.tr s14 s5
          obtain ⟨dx, l1, dd, l2, l3, l4, as, fs, efp, nd, g0, a1, a2', a3, a4, a5, a6, b1, b2, g1, g2, g3, g4, g5, b3, b4, b5⟩ := (hB.up s15).ex
          refine ⟨_, rfl, p, C, dx, fs, _, rfl, g0, TB.cl, TB.no _ (by simp), a2', _, _, a2, dd, ⟨rfl, rfl, g2, rowsIn_of b1 b2, hr5⟩, _, rfl, ?_⟩
          rw [find_has b1, Bool.bne_false]
          cases hk : hasR rs (strD d0, keyT d1) with
          | true => exact iteT ⟨_, rfl, raise_e hTR s15 rfl (by decide) fun H' dd fs s he hf' => q0 (by rw [ek, hn, hal, hk]; rfl) H' dd fs (Same.tr s15 s) he (hf' 0 "value" _ rfl rfl)⟩
          | false =>
            obtain ⟨ht, q⟩ := q2 (strD d0, keyT d1) (by rw [ek, hn, hal, hk]; rfl)
            refine iteF ?_
            refine ⟨_, rfl, p, dx, fs, rfl, g0, a6 _ (by decide), _, rfl, ?_⟩
            obtain ⟨hp5, _, _⟩ := pre_row (n := rs.length) (hA.up s15) (h0.mono s15) (h1.mono s15) hsec hn hal
            refine ⟨a, _, rfl, hp5, fun a3' H6 s6 hr6 => ?_⟩
            have s16 := Same.tr s15 s6
            obtain ⟨e1, e2⟩ := posR_new hk
            refine ⟨p, a3', fp, rs, _, rfl, hB.up s16, hr6, ⟨hz, ?_⟩, hlt, fun H' f b => ?_⟩
            · cases ey : keyT d1 with
              | inl n => 
                have := ht n ey
                exact ⟨sec_pos hsec ey, this⟩
              | inr ns => exact hns ns ey
            · rw [e1] at b
              exact q H' ((Frame.of s16).tr f) b

end
end T04
set_option Elab.async false
set_option linter.all false
set_option maxRecDepth 100000
set_option maxHeartbeats 4000000
namespace T04
open PySem PySem.Spec PyProof.Rows L2 Tp
section
variable {P : Program} {w : World} {K : PySem.W.Frag} {mg : Str → Option Value} {base : Heap} {f : Addr} {fd : FuncData}

abbrev sBni : Stmt := inClass (top 29) 0
abbrev nBni : List Str := ["self", "rows", "item"]
theorem scBni : FnScope nBni ["self", "rows"] (defScope sBni) := ⟨rfl, rfl, rfl, by decide +kernel, rfl, by decide +kernel, by decide +kernel⟩

theorem keep_none {p l : Addr} {H G : Hp} (k : Keep p H G) (e : G l = none) (hp : H p ≠ none → G p ≠ none) : H l = none := by
  cases h : H l with
  | none => rfl
  | some o =>
    by_cases z : l = p
    · subst z
      exact absurd e (hp (by rw [h]; exact fun z => by cases z))
    · rw [k l o z h] at e
      cases e
theorem same_none {l : Addr} {H G : Hp} (k : Same H G) (e : G l = none) : H l = none := by
  cases h : H l with
  | none => rfl
  | some o =>
    rw [k l o h] at e
    cases e
theorem ok_init {C CP CR CN : Addr} {dvs : List V} (F : FunD K "__init__" "Book.__init__" (defArgs sBni) (defBody sBni) (defScope sBni) dvs [] f fd) (TB : TxtBk K C) (L : Cg P w K mg base 1 "is_list" (spList K)) (CK : Ctr P w K mg base 5 C "_take" [] (spTakeB P w K C CR CN)) (XP : Cx1 P w K mg base "InvalidPart" CP 1 [] (spI CP ["value"]) (fun vs _ => vs)) : FnG P w K mg base (L2.CX P w) 6 f fd ["self", "rows"] (spInitB P w K C CP CR CN) := by
  have hTP : ExK K CP := let ⟨_, _, _, _, h, _⟩ := XP.ex; h
  refine FunDG.okX F scBni (fun vs H Q E h => ?_) (fun cdv B out s H vs Q E hr hG h => ?_)
  · obtain ⟨p, dx, x, rfl, _⟩ := h
    rfl
  · obtain ⟨p, dx, x, rfl, hp, h⟩ := h
    refine ⟨_, (pss_cons (ps_fld (pv 0) (pe_lst pa_nil) rfl)
      (pss_cons (ps_fld (pv 0) (pe_rnewK (P := P) (w := w) rfl rfl) rfl)
      (pss_cons (ps_fld (pv 0) (pe_lst pa_nil) rfl)
      (pss_cons (ps_fld (pv 0) (pe_lst pa_nil) rfl)
      (pss_cons (ps_fld (pv 0) (pe_lst pa_nil) rfl)
      (pss_cons (ps_if (pt_not (pt_val (pe_g L hr hG (by decide) (by rfl) (pa_cons (pv 1) pa_nil)))) (pss_one (ps_raise rfl (takes_of rfl rfl rfl rfl) (pmk_x rfl (pe_mke (ns := ["value"]) XP (hr.mono (by decide)) (by rfl) (pa_cons (pv 1) pa_nil))))) pss_nil)
      (pss_one (ps_for (passes_of rfl) rfl (pi_seq (pv 1)) (pg_name (i := 2) scBni.nd rfl (Or.inl rfl)) (pss_one (ps_expr (pe_ctr (pv 0) CK hr hG (by decide) (takes_of rfl rfl rfl rfl) (pa_cons (pv 2) pa_nil)))))))))))), ?_⟩
    have kp0 : Keep p H H := Keep.refl _ _
    obtain ⟨G0, hG0⟩ : ∃ G0, G0 = H := ⟨_, rfl⟩
    have hp0 : G0 p = some (.ins C dx []) := by rw [hG0]; exact hp
    have kp0 : Keep p H G0 := by rw [hG0]; exact Keep.refl _ _
    rw [← hG0]
    obtain ⟨f0, hf0⟩ : ∃ f0 : List (Str × V), f0 = [] := ⟨_, rfl⟩
    rw [← hf0] at hp0
    have z0 : f0.length ≤ 0 := by rw [hf0]; exact Nat.le_refl _
    refine ⟨(by show 0 ≤ sizeLine; decide), fun l1 e1 => ?_⟩
    have fr1 : H l1 = none := keep_none kp0 e1 (fun _ z => by rw [hp0] at z; cases z)
    have np1 : l1 ≠ p := ne_of_none' e1 hp0
    refine ⟨_, rfl, p, C, dx, _, rfl, (upd_ne np1.symm).trans hp0, TB.cl, TB.no _ (by simp), by omega, ?_⟩
    have z1 : (putF "_rows" (.ref l1) f0).length ≤ 1 := by have := L2.length_putF "_rows" (V.ref l1) f0; omega
    have kp1 : Keep p H (upd (upd G0 l1 (HO.lst [])) p (.ins C dx (putF "_rows" (.ref l1) f0))) := kp0.trans ((Keep.new e1).trans Keep.put)
    have hp1 : (upd (upd G0 l1 (HO.lst [])) p (.ins C dx (putF "_rows" (.ref l1) f0))) p = some (.ins C dx (putF "_rows" (.ref l1) f0)) := upd_same
    have t1_1 : (upd (upd G0 l1 (HO.lst [])) p (.ins C dx (putF "_rows" (.ref l1) f0))) l1 = some (HO.lst []) := (upd_ne np1).trans upd_same
    generalize hf1 : putF "_rows" (V.ref l1) f0 = f1 at z1 kp1 hp1 t1_1 ⊢
    generalize upd (upd G0 l1 (HO.lst [])) p (.ins C dx f1) = G1 at kp1 hp1 t1_1 ⊢
    have hf1 := hf1.symm
    refine fun d e2 => ?_
    have fr2 : H d = none := keep_none kp1 e2 (fun _ z => by rw [hp1] at z; cases z)
    have np2 : d ≠ p := ne_of_none' e2 hp1
    refine ⟨_, rfl, p, C, dx, _, rfl, (upd_ne np2.symm).trans hp1, TB.cl, TB.no _ (by simp), by omega, ?_⟩
    have z2 : (putF "_numbers" (.ref d) f1).length ≤ 2 := by have := L2.length_putF "_numbers" (V.ref d) f1; omega
    have kp2 : Keep p H (upd (upd G1 d (dRow P w d [])) p (.ins C dx (putF "_numbers" (.ref d) f1))) := kp1.trans ((Keep.new e2).trans Keep.put)
    have hp2 : (upd (upd G1 d (dRow P w d [])) p (.ins C dx (putF "_numbers" (.ref d) f1))) p = some (.ins C dx (putF "_numbers" (.ref d) f1)) := upd_same
    have t2_2 : (upd (upd G1 d (dRow P w d [])) p (.ins C dx (putF "_numbers" (.ref d) f1))) d = some (dRow P w d []) := (upd_ne np2).trans upd_same
    have t2_1 : (upd (upd G1 d (dRow P w d [])) p (.ins C dx (putF "_numbers" (.ref d) f1))) l1 = some (HO.lst []) := (upd_ne np1).trans ((upd_ne (ne_of_none t1_1 e2)).trans t1_1)
    have d1_2 : l1 ≠ d := ne_of_none t1_1 e2
    generalize hf2 : putF "_numbers" (V.ref d) f1 = f2 at z2 kp2 hp2 t2_1 t2_2 ⊢
    generalize upd (upd G1 d (dRow P w d [])) p (.ins C dx f2) = G2 at kp2 hp2 t2_1 t2_2 ⊢
    have hf2 := hf2.symm
    refine ⟨(by show 0 ≤ sizeLine; decide), fun l2 e3 => ?_⟩
    have fr3 : H l2 = none := keep_none kp2 e3 (fun _ z => by rw [hp2] at z; cases z)
    have np3 : l2 ≠ p := ne_of_none' e3 hp2
    refine ⟨_, rfl, p, C, dx, _, rfl, (upd_ne np3.symm).trans hp2, TB.cl, TB.no _ (by simp), by omega, ?_⟩
    have z3 : (putF "_sizes" (.ref l2) f2).length ≤ 3 := by have := L2.length_putF "_sizes" (V.ref l2) f2; omega
    have kp3 : Keep p H (upd (upd G2 l2 (HO.lst [])) p (.ins C dx (putF "_sizes" (.ref l2) f2))) := kp2.trans ((Keep.new e3).trans Keep.put)
    have hp3 : (upd (upd G2 l2 (HO.lst [])) p (.ins C dx (putF "_sizes" (.ref l2) f2))) p = some (.ins C dx (putF "_sizes" (.ref l2) f2)) := upd_same
    have t3_3 : (upd (upd G2 l2 (HO.lst [])) p (.ins C dx (putF "_sizes" (.ref l2) f2))) l2 = some (HO.lst []) := (upd_ne np3).trans upd_same
    have t3_1 : (upd (upd G2 l2 (HO.lst [])) p (.ins C dx (putF "_sizes" (.ref l2) f2))) l1 = some (HO.lst []) := (upd_ne np1).trans ((upd_ne (ne_of_none t2_1 e3)).trans t2_1)
    have d1_3 : l1 ≠ l2 := ne_of_none t2_1 e3
    have t3_2 : (upd (upd G2 l2 (HO.lst [])) p (.ins C dx (putF "_sizes" (.ref l2) f2))) d = some (dRow P w d []) := (upd_ne np2).trans ((upd_ne (ne_of_none t2_2 e3)).trans t2_2)
    have d2_3 : d ≠ l2 := ne_of_none t2_2 e3
    generalize hf3 : putF "_sizes" (V.ref l2) f2 = f3 at z3 kp3 hp3 t3_1 t3_2 t3_3 ⊢
    generalize upd (upd G2 l2 (HO.lst [])) p (.ins C dx f3) = G3 at kp3 hp3 t3_1 t3_2 t3_3 ⊢
    have hf3 := hf3.symm
    refine ⟨(by show 0 ≤ sizeLine; decide), fun l3 e4 => ?_⟩
    have fr4 : H l3 = none := keep_none kp3 e4 (fun _ z => by rw [hp3] at z; cases z)
    have np4 : l3 ≠ p := ne_of_none' e4 hp3
    refine ⟨_, rfl, p, C, dx, _, rfl, (upd_ne np4.symm).trans hp3, TB.cl, TB.no _ (by simp), by omega, ?_⟩
    have z4 : (putF "_depths" (.ref l3) f3).length ≤ 4 := by have := L2.length_putF "_depths" (V.ref l3) f3; omega
    have kp4 : Keep p H (upd (upd G3 l3 (HO.lst [])) p (.ins C dx (putF "_depths" (.ref l3) f3))) := kp3.trans ((Keep.new e4).trans Keep.put)
    have hp4 : (upd (upd G3 l3 (HO.lst [])) p (.ins C dx (putF "_depths" (.ref l3) f3))) p = some (.ins C dx (putF "_depths" (.ref l3) f3)) := upd_same
    have t4_4 : (upd (upd G3 l3 (HO.lst [])) p (.ins C dx (putF "_depths" (.ref l3) f3))) l3 = some (HO.lst []) := (upd_ne np4).trans upd_same
    have t4_1 : (upd (upd G3 l3 (HO.lst [])) p (.ins C dx (putF "_depths" (.ref l3) f3))) l1 = some (HO.lst []) := (upd_ne np1).trans ((upd_ne (ne_of_none t3_1 e4)).trans t3_1)
    have d1_4 : l1 ≠ l3 := ne_of_none t3_1 e4
    have t4_2 : (upd (upd G3 l3 (HO.lst [])) p (.ins C dx (putF "_depths" (.ref l3) f3))) d = some (dRow P w d []) := (upd_ne np2).trans ((upd_ne (ne_of_none t3_2 e4)).trans t3_2)
    have d2_4 : d ≠ l3 := ne_of_none t3_2 e4
    have t4_3 : (upd (upd G3 l3 (HO.lst [])) p (.ins C dx (putF "_depths" (.ref l3) f3))) l2 = some (HO.lst []) := (upd_ne np3).trans ((upd_ne (ne_of_none t3_3 e4)).trans t3_3)
    have d3_4 : l2 ≠ l3 := ne_of_none t3_3 e4
    generalize hf4 : putF "_depths" (V.ref l3) f3 = f4 at z4 kp4 hp4 t4_1 t4_2 t4_3 t4_4 ⊢
    generalize upd (upd G3 l3 (HO.lst [])) p (.ins C dx f4) = G4 at kp4 hp4 t4_1 t4_2 t4_3 t4_4 ⊢
    have hf4 := hf4.symm
    refine ⟨(by show 0 ≤ sizeLine; decide), fun l4 e5 => ?_⟩
    have fr5 : H l4 = none := keep_none kp4 e5 (fun _ z => by rw [hp4] at z; cases z)
    have np5 : l4 ≠ p := ne_of_none' e5 hp4
    refine ⟨_, rfl, p, C, dx, _, rfl, (upd_ne np5.symm).trans hp4, TB.cl, TB.no _ (by simp), by omega, ?_⟩
    have z5 : (putF "_lengths" (.ref l4) f4).length ≤ 5 := by have := L2.length_putF "_lengths" (V.ref l4) f4; omega
    have kp5 : Keep p H (upd (upd G4 l4 (HO.lst [])) p (.ins C dx (putF "_lengths" (.ref l4) f4))) := kp4.trans ((Keep.new e5).trans Keep.put)
    have hp5 : (upd (upd G4 l4 (HO.lst [])) p (.ins C dx (putF "_lengths" (.ref l4) f4))) p = some (.ins C dx (putF "_lengths" (.ref l4) f4)) := upd_same
    have t5_5 : (upd (upd G4 l4 (HO.lst [])) p (.ins C dx (putF "_lengths" (.ref l4) f4))) l4 = some (HO.lst []) := (upd_ne np5).trans upd_same
    have t5_1 : (upd (upd G4 l4 (HO.lst [])) p (.ins C dx (putF "_lengths" (.ref l4) f4))) l1 = some (HO.lst []) := (upd_ne np1).trans ((upd_ne (ne_of_none t4_1 e5)).trans t4_1)
    have d1_5 : l1 ≠ l4 := ne_of_none t4_1 e5
    have t5_2 : (upd (upd G4 l4 (HO.lst [])) p (.ins C dx (putF "_lengths" (.ref l4) f4))) d = some (dRow P w d []) := (upd_ne np2).trans ((upd_ne (ne_of_none t4_2 e5)).trans t4_2)
    have d2_5 : d ≠ l4 := ne_of_none t4_2 e5
    have t5_3 : (upd (upd G4 l4 (HO.lst [])) p (.ins C dx (putF "_lengths" (.ref l4) f4))) l2 = some (HO.lst []) := (upd_ne np3).trans ((upd_ne (ne_of_none t4_3 e5)).trans t4_3)
    have d3_5 : l2 ≠ l4 := ne_of_none t4_3 e5
    have t5_4 : (upd (upd G4 l4 (HO.lst [])) p (.ins C dx (putF "_lengths" (.ref l4) f4))) l3 = some (HO.lst []) := (upd_ne np4).trans ((upd_ne (ne_of_none t4_4 e5)).trans t4_4)
    have d4_5 : l3 ≠ l4 := ne_of_none t4_4 e5
    generalize hf5 : putF "_lengths" (V.ref l4) f4 = f5 at z5 kp5 hp5 t5_1 t5_2 t5_3 t5_4 t5_5 ⊢
    generalize upd (upd G4 l4 (HO.lst [])) p (.ins C dx f5) = G5 at kp5 hp5 t5_1 t5_2 t5_3 t5_4 t5_5 ⊢
    have hf5 := hf5.symm
    have B0 : BookAt P w K G5 C p [l1, d, l2, l3, l4] [] := by
      refine ⟨⟨dx, l1, d, l2, l3, l4, [], f5, rfl, ?_, hp5, ?_, ?_, ?_, ?_, ?_, ?_, rfl, (fun i k a e => by cases e), t5_1, t5_2, t5_3, t5_4, t5_5, List.nodup_nil, okRows_nil, by show 0 ≤ 5000; omega⟩⟩
      · simp [d1_2, d1_3, d1_4, d1_5, d2_3, d2_4, d2_5, d3_4, d3_5, d4_5]
      iterate 5 (· rw [hf5, hf4, hf3, hf2, hf1, hf0]; rfl)
      · intro m hm
        rw [hf5, hf4, hf3, hf2, hf1, hf0]
        have ne : ∀ n ∈ bkF, m ≠ n := fun n hn z => hm (by rw [z]; exact hn)
        rw [lookup_putF, if_neg (ne _ (by simp)), lookup_putF, if_neg (ne _ (by simp)), lookup_putF, if_neg (ne _ (by simp)), lookup_putF, if_neg (ne _ (by simp)), lookup_putF, if_neg (ne _ (by simp))]
        rfl
    have hfp : ∀ b ∈ [l1, d, l2, l3, l4], H b = none := by
      intro b hb
      simp only [List.mem_cons, List.not_mem_nil, or_false] at hb
      rcases hb with rfl | rfl | rfl | rfl | rfl <;> assumption
    generalize [l1, d, l2, l3, l4] = fp at B0 hfp
    have up5 : Same (rs p p H) G5 := Same.tr (rs_keep1 kp5) rs_same
    have grow : ∀ a, G5 a = none → G0 a = none := fun a ha => by
      rw [hG0]
      exact keep_none kp5 ha (fun _ z => by rw [hp5] at z; cases z)
    rcases h with ⟨k, v, hk, r⟩ | ⟨b, ys, ds, rfl, hA, hall, hsh, hl5, hturn, r0, r1, q⟩
    · refine ⟨_, rfl, x, k, rfl, v.mono up5, fun H6 s6 => ⟨_, rfl, ?_⟩⟩
      rw [hk]
      exact iteT ⟨_, rfl, raise_g hTP (fun a ha => grow a (same_none s6 ha)) rfl (by decide) fun H' dd fs s he hf' => r H' dd fs (kp5.trans (Keep.of (Same.tr s6 s))) he (hf' 0 "value" x rfl rfl)⟩
    · obtain ⟨kk, vk, hkk⟩ := vk_seqA (hA.up up5)
      refine ⟨_, rfl, _, kk, rfl, vk, fun H6 s6 => ⟨_, rfl, ?_⟩⟩
      rw [hkk]
      refine iteF ?_
      have kp6 := kp5.trans (Keep.of (p := p) s6)
      have hlen := hall.len
      have B6 := B0.up s6
      refine ⟨_, rfl, b, rfl, seq_itK hA (Same.tr up5 s6) fun J S wk hS => ?_⟩
      have upK : ∀ G, Keep p H G → Same (rs p p H) G := fun G k => Same.tr (rs_keep1 k) rs_same
      refine for_it wk (fun i σ G => (∃ qs, buildR [] (ds.take i) = .inr qs ∧ BookAt P w K G C p fp qs) ∧ Keep p H G ∧ ∃ o, σ = [some (.ref p), some (.ref b), o]) ⟨⟨[], rfl, B6⟩, kp6, none, rfl⟩ (fun i σ G _ h => hS G (upK G h.2.1)) ?_ ?_
      · rintro i y σ G G' hi ⟨⟨qs, hq, BG⟩, kG, o, rfl⟩ ⟨rfl, hy⟩
        obtain ⟨dn, hdn, hyd⟩ := hall.get hy
        obtain ⟨w1, w2, w3⟩ := build_at hq hdn
        obtain ⟨dx', fs, g0, a6⟩ := BG.there
        have hql := build_len _ _ _ hq
        have htl : (ds.take i).length ≤ i := by rw [List.length_take]; omega
        have h00 : ([] : List RowK).length = 0 := rfl
        refine ⟨_, rfl, p, dx', fs, rfl, g0, a6 _ (by decide), _, rfl, ?_⟩
        refine ⟨p, fp, qs, y, dn, rfl, BG, by omega, hyd.mono (upK _ kG), shortAll_get hsh hdn, fun e => ?_, fun e => ?_, fun k e => ⟨hturn (i + 1) _ (w3 k e) k (by simp), fun H' f B' => ?_⟩⟩
        · obtain ⟨y', hy', r⟩ := r0 i (w1 e)
          rw [hy] at hy'
          cases hy'
          exact fun H' dd fs s he hf => r H' dd fs (kG.trans (Keep.of s)) he hf
        · obtain ⟨a, v0, v1, hy', hA', r⟩ := r1 i (w2 e)
          rw [hy] at hy'
          cases hy'
          exact ⟨a, v0, v1, rfl, hA'.up (upK _ kG), fun H' dd fs s he hf => r H' dd fs (kG.trans (Keep.of s)) he hf⟩
        · exact ⟨⟨_, w3 k e, B'⟩, keep_fr kG f hfp, some y, rfl⟩
      · rintro σ G ⟨⟨qs, hq, BG⟩, kG, o, rfl⟩
        rw [hlen, List.take_length] at hq
        exact q qs hq G fp kG hfp BG

end
end T04
set_option Elab.async false
set_option linter.all false
set_option maxRecDepth 100000
set_option maxHeartbeats 4000000
namespace T04
open PySem PySem.Spec PyProof.Rows L2 Tp
section
variable {P : Program} {w : World} {K : PySem.W.Frag} {mg : Str → Option Value} {base : Heap} {f : Addr} {fd : FuncData}

abbrev sBcp : Stmt := inClass (top 29) 15
abbrev nBcp : List Str := ["self"]
theorem scBcp : FnScope nBcp ["self"] (defScope sBcp) := ⟨rfl, rfl, rfl, by decide +kernel, rfl, by decide +kernel, by decide +kernel⟩

theorem ok_copied {C CP CR CN : Addr} (F : Fun K "copied" "Book.copied" sBcp f fd) (CW : Ct P w K mg base 1 C "rows" [] (spRows P w K C)) (CM : Cmr P w K mg base 6 "Book" C [] (spInitB P w K C CP CR CN)) : FnG P w K mg base CX0 8 f fd ["self"] (spCopied P w K C) := by
  refine FunG.ok F scBcp (fun vs H Q E h => ?_) (fun cdv B out s H vs Q E hr hG h => ?_)
  · obtain ⟨p, fp, rs, rfl, _⟩ := h
    rfl
  · obtain ⟨p, fp, rs', rfl, hB, hlt, q⟩ := h
    obtain ⟨dx, fs, h0, a6⟩ := hB.there
    obtain ⟨_, _, _, _, _, _, _, _, _, _, _, _, _, _, _, _, _, _, _, _, _, _, _, _, hnd, hok, h5000⟩ := hB.ex
    refine ⟨_, (pss_one (ps_ret (pe_cmr CM hr hG (by decide) takes0 (by rfl) (pa_cons (pe_ct0 (pv 0) CW hr hG (by decide)) pa_nil)))), ?_⟩
    refine ⟨_, rfl, p, dx, fs, rfl, h0, a6 _ (by decide), p, fp, rs', rfl, hB, fun l H1 as hl e1 hlen hrows => ?_⟩
    have s1 : Same H H1 := by rw [e1]; exact Same.put hl
    have hl1 : H1 l = some (.lst (as.map V.ref)) := by rw [e1]; exact upd_same
    have rows1 : ∀ (i : Nat) (k : RowK) (a : Addr), rs'[i]? = some k → as[i]? = some a → RowAt K H1 k a := fun i k a e1 e2 => (hrows i k a e1 e2).mono fun _ _ => upT s1
    intro x dx' hx hdx ne
    have s2 : Same H1 (rs x x (upd (upd H1 dx' (.own x)) x (.ins C dx' []))) := fun b o e => by
      have n1 := ne_of_none e hx
      have n2 := ne_of_none e hdx
      exact rs_at n1 n1 ((upd_ne n1).trans ((upd_ne n2).trans e))
    have hb := build_rows rs' [] hok hnd
    have okk : ∀ k ∈ rs', ∃ n, OkK n k := fun k hk => by
      obtain ⟨i, hi, e⟩ := List.getElem_of_mem hk
      exact ⟨i, hok i k (by rw [List.getElem?_eq_getElem hi, e])⟩
    refine ⟨x, dx', _, rfl, upd_same, .inr ⟨l, _, _, rfl, .inl (upL s2 (SqL.of hl1)), (rows_dd hlen rows1).mono s2, short_rows okk, by rw [List.length_map]; exact hlt, fun m qs hq k hk n e => ?_, fun i e => ?_, fun i e => ?_, fun qs e H' fq kH hfq hBq => ?_⟩⟩
    · have hm := build_rows (rs'.take m) [] (fun i k e => hok i k (by
        rw [List.nil_append] at e
        rw [List.getElem?_take] at e
        split at e
        · exact e
        · cases e)) (by rw [List.nil_append]; exact hnd.sublist (List.take_sublist _ _))
      rw [List.map_take] at hm
      rw [hm] at hq
      cases hq
      obtain ⟨j, hj⟩ := okk k (List.mem_of_mem_take hk)
      have h2 := hj.2
      rw [e] at h2
      exact h2.2
    · rw [hb] at e
      cases e
    · rw [hb] at e
      cases e
    · rw [hb] at e
      cases e
      have none_of : ∀ {b : Addr}, upd (upd H1 dx' (.own x)) x (.ins C dx' []) b = none → H b = none := fun {b} e => by
        by_cases n1 : b = x
        · rw [n1, upd_same] at e
          cases e
        · by_cases n2 : b = dx'
          · rw [n2, upd_ne ne, upd_same] at e
            cases e
          · rw [upd_ne n1, upd_ne n2] at e
            exact same_none s1 e
      refine ⟨rfl, q x H' fq (fun b o e => ?_) (same_none s1 hx) (fun b hb => none_of (hfq b hb)) hBq⟩
      have e1 := s1 b o e
      have n1 := ne_of_none e1 hx
      have n2 := ne_of_none e1 hdx
      exact kH b o n1 ((upd_ne n1).trans ((upd_ne n2).trans e1))

end
end T04
set_option Elab.async false
set_option linter.all false
set_option maxRecDepth 100000
set_option maxHeartbeats 4000000
namespace T04
open PySem PySem.Spec PyProof.Rows L2 Tp
structure TxtL (mg : Str → Option Value) : Prop where
  range : mg "range" = none
  len : mg "len" = none
  max : mg "max" = none
  min : mg "min" = none
  isinstance : mg "isinstance" = none
  str : mg "str" = none
  int : mg "int" = none
  bool : mg "bool" = none
  list : mg "list" = none
  tuple : mg "tuple" = none
  repr : mg "repr" = none
  enumerate : mg "enumerate" = none
theorem tz_nil : Tz 0 ("" : Str) := ⟨by decide +kernel, fun c hc => by rw [show TL.tl ("" : Str) = [] from by decide +kernel] at hc; exact absurd hc List.not_mem_nil⟩
def rLenK (K : PySem.W.Frag) : List V → Hp → VK → Prop := fun xs H Q => ∃ x n, xs = [x] ∧ LenV K x H n ∧ Q (.int (n : Nat)) H
theorem call_lenK {X : Cx} {K : PySem.W.Frag} (h : X.K = K) : CallR X (.builtin "len") (rLenK K) := by
  subst h
  exact call_len
theorem small_log {m : Int} (h0 : 0 ≤ m) (h : m ≤ 100000) : m.natAbs.log2 < 1000 := by
  have := Nat.log2_le_self m.natAbs
  by_cases z : m.natAbs = 0
  · rw [z]; decide
  · exact Nat.lt_of_lt_of_le ((Nat.log2_lt z).mpr (show m.natAbs < 2 ^ 20 by omega)) (by decide)
section
variable {P : Program} {w : World} {K : PySem.W.Frag} {mg : Str → Option Value} {base : Heap} {f : Addr} {fd : FuncData}

/-- a drawn word -/
def spWord : Sp := fun vs H Q _ => ∃ (p : Addr) (n : Nat) (L : Int), vs = [.ref p, .int L] ∧ 0 ≤ L ∧ L ≤ 10 ∧ BoxAt H p n ∧ n ≤ 5000 ∧ ∀ z H', Tz 30 z → BoxAt H' p (n + 20) → Keep p H H' → Q (.str z) H'
abbrev let1 : Str := "abcdefghijklmnopqrstuvwxyz0123456789"
theorem tz_let1 : Tz 36 let1 := ⟨by decide +kernel, by decide +kernel⟩
abbrev let2 : Str := " !\"#$&'()*+,-./:;<=>?\x40ABCDEFGHIJKLMNOPQRSTUVWXYZ[]^_`{|}~"
theorem tz_let2 : Tz 57 let2 := ⟨by decide +kernel, by decide +kernel⟩
theorem len_let2 : (let2 ++ ("\n" : Str)).length = (TL.tl let2).length + 1 := by
  rw [TL.len_tl, TL.tl_append, List.length_append]
  rfl

/-- whether it is a name, by the law's own look -/
theorem one_eq {c d : Nat} : ((⟨#[c]⟩ : Str) = ⟨#[d]⟩) ↔ c = d := ⟨fun e => by cases e; rfl, fun e => by rw [e]⟩
theorem named_mem (c : Nat) : decide (c ∈ ((("abcdefghijklmnopqrstuvwxyz" : Str) ++ ("0123456789" : Str))).cps.toList) = (lowB c || digB c) := by
  have e : (("abcdefghijklmnopqrstuvwxyz" : Str) ++ ("0123456789" : Str)).cps.toList = ("abcdefghijklmnopqrstuvwxyz" : Str).cps.toList ++ ("0123456789" : Str).cps.toList := TL.tl_append _ _
  rw [e, ← low_mem, ← dig_mem']
  rw [Bool.eq_iff_iff]
  simp only [List.mem_append, decide_eq_true_eq, Bool.or_eq_true]
/-- _law_is_named -/
def spNamed (K : PySem.W.Frag) : Sp := fun vs H Q _ => ∃ (x : V) (k : String), vs = [x] ∧ Vk K H x k ∧ (∀ z, x = .str z → ∀ c ∈ TL.tl z, c < 256) ∧ (k ≠ "str" → ∀ H', Same H H' → Q (.bl false) H') ∧ ∀ z, x = .str z → ∀ H', Same H H' → Q (.bl (nameB (TL.tl z))) H'

abbrev sNm : Stmt := top 44
abbrev nNm : List Str := ["_law_word", "_law_small", "_law_sign"]
theorem scNm : FnScope nNm ["_law_word"] (defScope sNm) := ⟨rfl, rfl, rfl, by decide +kernel, rfl, by decide +kernel, by decide +kernel⟩

theorem ok_Nm (F : Fun K "_law_is_named" "_law_is_named" sNm f fd) (T : TxtL mg) : FnG P w K mg base CX0 1 f fd ["_law_word"] (spNamed K) := by
  refine FunG.ok F scNm (fun vs H Q E h => ?_) (fun cdv B out s H vs Q E hr hG h => ?_)
  · obtain ⟨x, k, rfl, _⟩ := h
    rfl
  · obtain ⟨x, k, rfl, v, hz, q0, q1⟩ := h
    refine ⟨_, (pss_cons (ps_set (i := 1) scNm.nd rfl (.inr rfl) pe_str)
      (pss_cons (ps_if (PW.pt (pw_or (pt_not (pt_val (pe_callB call_isd (by rfl) T.isinstance (by decide +kernel) (pa_cons (pv 0) (pa_cons (pe_bltn (by rfl) T.str (by decide +kernel) (show RelV (.ty "str") _ from rfl)) pa_nil))))) (pw_or (pt_cmpR op_eq (pv 0) pe_str (nomark _)) (pw_or (pt_cmpR op_gt (pe_callB call_len (by rfl) T.len PySem.boot_len (pa_cons (pv 0) pa_nil)) pe_int (nomark _)) (pw_or1 (pt_cmpR op_notIn_sign (pe_ix ix_str (pv 0) pe_int fun _ _ => rfl) (pv 1) rfl)))))) (pss_one (ps_ret pe_bl)) pss_nil)
      (pss_one (ps_ret (pe_cmpR (op_eqD hr.units) (pe_lc (own := [("_law_sign", 2)]) (g := gName 2) rfl scNm.nd (pi_str (pv 0)) (blkOk_by (N := nNm) (sc := defScope sNm) (by decide +kernel)) (fun _ _ _ _ _ => pg_name (i := 2) scNm.nd rfl (Or.inl rfl)) (fun _ _ _ _ _ => (pts_one (pt_cmpR op_notIn_sign (pv 2) (pe_op op_add_str (pv 1) pe_str) rfl))) (fun _ _ _ _ _ => (pv 2))) (pe_lst pa_nil) (nomark _)))))), ?_⟩
    refine ⟨_, rfl, _, _, _, _, rfl, .ty _, v.kd.is "str" (by decide), _, rfl, ?_⟩
    rw [ans_str]
    cases hk : (k == "str") with
    | false => exact iteT (iteT (q0 (fun e => by rw [e] at hk; cases hk) _ (Same.refl _)))
    | true =>
      obtain ⟨z, rfl, hzl0⟩ := v.s (by simpa using hk)
      have q := q1 z rfl
      have hsm := hz z rfl
      have hzl : z.length = (TL.tl z).length := TL.len_tl z
      have bad : nameB (TL.tl z) = false → Q (.bl false) H := fun e => by
        have q' := q H (Same.refl _)
        rwa [e] at q'
      refine iteF ⟨_, rfl, rfl, _, rfl, ?_⟩
      refine ite2 (fun h1 => ?_) (fun h1 => ?_)
      · refine iteT (bad ?_)
        rw [V.str.inj (of_decide_eq_true h1)]
        decide +kernel
      have hz1 : 0 < (TL.tl z).length := by
        refine Nat.pos_of_ne_zero fun e => h1 (decide_eq_true (congrArg V.str (TL.ext_tl ?_)))
        rw [List.length_eq_zero_iff.mp e]
        decide +kernel
      refine ⟨_, rfl, _, _, rfl, ⟨by rw [PySem.sizeLine_eq]; omega, rfl⟩, _, _, rfl, rfl, _, rfl, ?_⟩
      refine ite2 (fun h2 => ?_) (fun h2 => ?_)
      · have h2' := of_decide_eq_true h2
        refine iteT (bad ?_)
        unfold nameB
        rw [decide_eq_false (by omega)]
        rfl
      have h2' : (TL.tl z).length ≤ 8 := by
        have : ¬ ((z.length : Nat) : Int) > 8 := fun e => h2 (decide_eq_true e)
        omega
      have h0 : (TL.tl z)[0]? = some ((TL.tl z)[0]) := List.getElem?_eq_getElem hz1
      have hh : (TL.tl z).head? = some ((TL.tl z)[0]) := by rw [List.head?_eq_getElem?, h0]
      refine ⟨_, rfl, _, _, _, rfl, rfl, by rw [PySem.sizeLine_eq]; omega, atI_nat (j := 0) h0, _, rfl, _, _, rfl, rfl, _, rfl, ?_⟩
      rw [low_mem]
      have en : nameB (TL.tl z) = (lowB ((TL.tl z)[0]) && (TL.tl z).all fun c => lowB c || digB c) := by
        unfold nameB
        rw [hh, Option.any_some, decide_eq_true (show 1 ≤ (TL.tl z).length ∧ (TL.tl z).length ≤ 8 from ⟨by omega, h2'⟩), Bool.true_and]
      cases h3 : lowB ((TL.tl z)[0]) with
      | false => exact iteT (bad (by rw [en, h3]; rfl))
      | true =>
        rw [h3, Bool.true_and] at en
        refine iteF ⟨_, rfl, _, rfl, fun D hD => ?_⟩
        refine lc_it walk_str (fun i G => Same H G ∧ G D = some (.lst ((((TL.tl z).take i).filter (fun c => !(lowB c || digB c))).map fun c => V.str ⟨#[c]⟩))) ⟨Same.put hD, upd_same⟩ (fun _ _ _ _ => trivial) ?_ ?_
        · rintro i x G G' hi ⟨sm, hGD⟩ ⟨rfl, c, hc, rfl⟩
          have hi' : i < (TL.tl z).length := by rw [← hzl]; exact hi
          have hc' : (TL.tl z)[i]? = some c := by rw [← hc]; simp
          refine ⟨rfl, _, rfl, _, rfl, _, _, rfl, rfl, by decide +kernel, c, _, rfl, rfl, _, rfl, ?_⟩
          rw [named_mem]
          cases h4 : (lowB c || digB c) with
          | true =>
            refine iteF ⟨sm, ?_⟩
            rw [hGD, List.take_add_one, hc', List.filter_append, show List.filter (fun c => !(lowB c || digB c)) (some c).toList = [] from by show List.filter _ [c] = []; rw [List.filter_cons, h4]; rfl, List.append_nil]
          | false =>
            refine iteT ⟨_, rfl, _, hGD, ?_, fun b o e => ?_, ?_⟩
            · rw [List.length_map]
              have := List.length_filter_le (fun c => !(lowB c || digB c)) ((TL.tl z).take i)
              rw [List.length_take] at this
              rw [PySem.sizeLine_eq]
              omega
            · rw [upd_ne (ne_of_none e hD)]
              exact sm b o e
            · rw [upd_same, List.take_add_one, hc', List.filter_append, show List.filter (fun c => !(lowB c || digB c)) (some c).toList = [c] from by show List.filter _ [c] = [c]; rw [List.filter_cons, h4]; rfl, List.map_append]
              rfl
        · rintro G ⟨sm, hGD⟩
          have ez : (TL.tl z).take z.cps.size = TL.tl z := List.take_of_length_le (by rw [← hzl]; exact Nat.le_refl _)
          rw [ez] at hGD
          refine ⟨by show 0 ≤ sizeLine; decide, fun e he => ?_⟩
          have se : Same G (upd G e (.lst [])) := Same.put he
          have e1 : ((((TL.tl z).filter (fun c => !(lowB c || digB c))).map fun c => V.str ⟨#[c]⟩)) = (((TL.tl z).filter (fun c => !(lowB c || digB c))).map fun c => (⟨#[c]⟩ : Str)).map V.str := by rw [List.map_map]; rfl
          rw [e1] at hGD
          refine ⟨_, _, .lst (SqL.of (se _ _ hGD)) (dpAll_strs _), .lst (SqL.of upd_same) .nil, shaped_strs ?_, rfl, ?_⟩
          · intro y hy d hd
            obtain ⟨c, hc, rfl⟩ := List.mem_map.mp hy
            have ed : d = c := by simpa using hd
            rw [ed]
            exact hsm c (List.mem_filter.mp hc).1
          have q' := q _ (Same.tr sm se)
          rw [en] at q'
          rw [eqv_nil]
          have e2 : ((TL.tl z).all fun c => lowB c || digB c) = ((((TL.tl z).filter (fun c => !(lowB c || digB c))).map fun c => (⟨#[c]⟩ : Str)).map PyData.str).isEmpty := by
            rw [List.isEmpty_map, List.isEmpty_map]
            generalize TL.tl z = l
            induction l with
            | nil => rfl
            | cons a l ih =>
              rw [List.all_cons, List.filter_cons]
              cases (lowB a || digB a) with
              | true => simpa using ih
              | false => rfl
          rw [e2] at q'
          exact q'

end
end T04
set_option Elab.async false
set_option linter.all false
set_option maxRecDepth 100000
set_option maxHeartbeats 4000000
namespace T04
open PySem PySem.Spec PyProof.Rows L2 Tp
section
variable {P : Program} {w : World} {K : PySem.W.Frag} {mg : Str → Option Value} {base : Heap} {f : Addr} {fd : FuncData}

abbrev sIw : Stmt := top 45
abbrev nIw : List Str := ["_law_thing"]
theorem scIw : FnScope nIw ["_law_thing"] (defScope sIw) := ⟨rfl, rfl, rfl, by decide +kernel, rfl, by decide +kernel, by decide +kernel⟩

theorem ok_Iw (F : Fun K "_law_is_whole" "_law_is_whole" sIw f fd) (T : TxtL mg) : FnG P w K mg base CX0 1 f fd ["_law_thing"] (spTurn K) := by
  refine FunG.ok F scIw (fun vs H Q E h => ?_) (fun cdv B out s H vs Q E hr hG h => ?_)
  · obtain ⟨x, k, rfl, _⟩ := h
    rfl
  · obtain ⟨x, k, rfl, v, q0, q1⟩ := h
    refine ⟨_, (pss_one (ps_ret (pe_and (pe_callB call_isd (by rfl) T.isinstance (by decide +kernel) (pa_cons (pv 0) (pa_cons (pe_bltn (by rfl) T.int (by decide +kernel) (show RelV (.ty "int") _ from rfl)) pa_nil))) (pe_and (pe_not (pe_callB call_isd (by rfl) T.isinstance (by decide +kernel) (pa_cons (pv 0) (pa_cons (pe_bltn (by rfl) T.bool (by decide +kernel) (show RelV (.ty "bool") _ from rfl)) pa_nil)))) (pe_one (pe_cmpR op_ge (pv 0) pe_int (nomark _))))))), ?_⟩
    refine ⟨_, rfl, _, _, _, _, rfl, .ty _, v.kd.is "int" (by decide), _, rfl, ?_⟩
    refine ite2 (fun h1 => ?_) (fun h1 => ?_)
    · refine ⟨_, rfl, _, _, _, _, rfl, .ty _, v.kd.is "bool" (by decide), _, rfl, _, rfl, ?_⟩
      have e : (!ansB k "bool") = (k == "int") := ans_int h1
      rw [e]
      refine ite2 (fun h2 => ?_) (fun h2 => ?_)
      · obtain ⟨i, rfl⟩ := v.i (by simpa using h2)
        exact ⟨_, rfl, _, _, rfl, rfl, q1 i rfl⟩
      · exact q0 fun e => h2 (by rw [e]; rfl)
    · exact q0 fun e => by rw [e] at h1; exact h1 (by decide)

/-- a drawn name -/
def spLab : Sp := fun vs H Q _ => ∃ (p : Addr) (n : Nat), vs = [.ref p] ∧ BoxAt H p n ∧ n ≤ 100000 ∧ ∀ z H', nameB (TL.tl z) = true → BoxAt H' p (n + 20) → Keep p H H' → Q (.str z) H'
theorem let1_sm : ∀ c ∈ TL.tl let1, (lowB c || digB c) = true := by decide +kernel
theorem let1_low : ∀ j < 26, ((TL.tl let1)[j]?.any lowB) = true := by decide +kernel
theorem name_of {x : Nat} {ys : List Str} (hx : lowB x = true) (hl : ys.length ≤ 7) (hy : ∀ y ∈ ys, ∃ c, y = (⟨#[c]⟩ : Str) ∧ (lowB c || digB c) = true) : nameB (TL.tl ((⟨#[x]⟩ : Str) ++ Txt.join "" ys)) = true := by
  have e0 : TL.tl ("" : Str) = [] := by decide +kernel
  rw [TL.tl_append, tl_joinT, e0]
  have e1 : TL.tl (⟨#[x]⟩ : Str) = [x] := rfl
  rw [e1]
  have hj := joinL_len [] 1 0 (Nat.le_refl _) (ys.map TL.tl) fun q hq => by
    obtain ⟨y, hy', rfl⟩ := List.mem_map.mp hq
    obtain ⟨c, rfl, _⟩ := hy y hy'
    exact Nat.le_refl 1
  rw [List.length_map] at hj
  unfold nameB
  show (decide (1 ≤ (x :: TL.joinL [] (ys.map TL.tl)).length ∧ (x :: TL.joinL [] (ys.map TL.tl)).length ≤ 8) && (lowB x && ((lowB x || digB x) && (TL.joinL [] (ys.map TL.tl)).all fun c => lowB c || digB c))) = true
  have hall : ((TL.joinL [] (ys.map TL.tl)).all fun c => lowB c || digB c) = true := List.all_eq_true.mpr fun c hc => by
    rcases joinL_mem hc with z | ⟨q, hq, z⟩
    · exact absurd z List.not_mem_nil
    · obtain ⟨y, hy', rfl⟩ := List.mem_map.mp hq
      obtain ⟨d, rfl, hd⟩ := hy y hy'
      have : c = d := by simpa using (show c ∈ [d] from z)
      rw [this]
      exact hd
  rw [hx, hall, decide_eq_true (by rw [List.length_cons]; omega)]
  rfl

abbrev sLb : Stmt := top 41
abbrev nLb : List Str := ["_law_box_here", "_law_signs", "_law_k"]
theorem scLb : FnScope nLb ["_law_box_here"] (defScope sLb) := ⟨rfl, rfl, rfl, by decide +kernel, rfl, by decide +kernel, by decide +kernel⟩

theorem ok_Lb (F : Fun K "_law_label" "_law_label" sLb f fd) (T : TxtL mg) (C : Cg P w K mg base 1 "_law_take" spTake) : FnG P w K mg base CX0 2 f fd ["_law_box_here"] spLab := by
  refine FunG.ok F scLb (fun vs H Q E h => ?_) (fun cdv B out s H vs Q E hr hG h => ?_)
  · obtain ⟨p, n, rfl, _⟩ := h
    rfl
  · obtain ⟨p, n, rfl, hb, hn, q⟩ := h
    refine ⟨_, (pss_cons (ps_set (i := 1) scLb.nd rfl (.inr rfl) pe_str)
      (pss_cons (ps_if (pt_cmpR op_gt (pe_g C hr hG (by decide) (by rfl) (pa_cons (pv 0) (pa_cons pe_int pa_nil))) pe_int (nomark _)) (pss_one (ps_ret (pe_ix ix_list (pe_lst (pa_cons pe_str (pa_cons pe_str (pa_cons pe_str (pa_cons pe_str (pa_cons pe_str (pa_cons pe_str pa_nil))))))) (pe_g C hr hG (by decide) (by rfl) (pa_cons (pv 0) (pa_cons pe_int pa_nil))) fun _ _ => rfl))) pss_nil)
      (pss_one (ps_ret (pe_op op_add_str (pe_ix ix_str (pv 1) (pe_g C hr hG (by decide) (by rfl) (pa_cons (pv 0) (pa_cons pe_int pa_nil))) fun _ _ => rfl) (pe_join pe_str (pe_lc (own := [("_law_k", 2)]) (g := gName 2) (tt := tYes) rfl scLb.nd (pi_range1 (by rfl) T.range (pa_cons (pe_g C hr hG (by decide) (by rfl) (pa_cons (pv 0) (pa_cons pe_int pa_nil))) pa_nil)) (blkOk_by (N := nLb) (sc := defScope sLb) (by decide +kernel)) (fun _ _ _ _ _ => pg_name (i := 2) scLb.nd rfl (Or.inl rfl)) (fun _ _ _ _ _ => pts_nil) (fun _ _ _ _ _ => (pe_ix ix_str (pv 1) (pe_g C hr hG (by decide) (by rfl) (pa_cons (pv 0) (pa_cons pe_int pa_nil))) fun _ _ => rfl))))))))), ?_⟩
    have l1 : (TL.tl let1).length = 36 := by decide +kernel
    refine ⟨_, rfl, p, 3, n, rfl, hb, by decide, by decide, by omega, fun d H1 a1 b1 hb1 k1 => ⟨_, _, rfl, rfl, _, rfl, ?_⟩⟩
    have kp1 : Keep p H H1 := keep_of k1
    refine ite2 (fun h1 => ?_) (fun h1 => ?_)
    · refine ⟨(by show 6 ≤ sizeLine; decide), fun l hl => ?_⟩
      have hbl := hb1.new (o := .lst [V.str "f", V.str "g", V.str "a", V.str "b", V.str "x", V.str "f1"]) hl
      have npl : l ≠ p := (hb1.ne hl).symm
      have hll : upd H1 l (.lst [V.str "f", V.str "g", V.str "a", V.str "b", V.str "x", V.str "f1"]) l = some (.lst [V.str "f", V.str "g", V.str "a", V.str "b", V.str "x", V.str "f1"]) := upd_same
      have kl : Keep p H (upd H1 l (.lst [V.str "f", V.str "g", V.str "a", V.str "b", V.str "x", V.str "f1"])) := kp1.trans (Keep.new hl)
      generalize upd H1 l (.lst [V.str "f", V.str "g", V.str "a", V.str "b", V.str "x", V.str "f1"]) = G at hbl hll kl ⊢
      refine ⟨_, rfl, p, 6, n + 1, rfl, hbl, by decide, by decide, by omega, fun d2 H2 a2 b2 hb2 k2 => ?_⟩
      obtain ⟨j, rfl⟩ : ∃ j : Nat, d2 = (j : Int) := ⟨d2.toNat, by omega⟩
      have hj : j < 6 := by omega
      have hl2 : H2 l = some (.lst (([("f" : Str), "g", "a", "b", "x", "f1"] : List Str).map V.str)) := by rw [k2 l npl]; exact hll
      obtain ⟨z, hz, hn⟩ : ∃ z : Str, ([("f" : Str), "g", "a", "b", "x", "f1"] : List Str)[j]? = some z ∧ nameB (TL.tl z) = true := by
        match j, hj with
        | 0, _ => exact ⟨_, rfl, by decide +kernel⟩
        | 1, _ => exact ⟨_, rfl, by decide +kernel⟩
        | 2, _ => exact ⟨_, rfl, by decide +kernel⟩
        | 3, _ => exact ⟨_, rfl, by decide +kernel⟩
        | 4, _ => exact ⟨_, rfl, by decide +kernel⟩
        | 5, _ => exact ⟨_, rfl, by decide +kernel⟩
      exact ⟨l, _, _, .str z, rfl, rfl, SqL.of hl2, atI_nat (j := j) (by rw [List.getElem?_map, hz]; rfl), q z H2 hn (hb2.mono (by omega)) (kl.trans (keep_of k2))⟩
    · dsimp only [tNext]
      refine ⟨_, rfl, _, rfl, p, 26, n + 1, rfl, hb1, by decide, by decide, by omega, fun d2 H2 a2 b2 hb2 k2 => ?_⟩
      have kp2 : Keep p H H2 := kp1.trans (keep_of k2)
      obtain ⟨j, rfl⟩ : ∃ j : Nat, d2 = (j : Int) := ⟨d2.toNat, by omega⟩
      obtain ⟨x, hx, hlow⟩ : ∃ x, (TL.tl let1)[j]? = some x ∧ lowB x = true := by
        have := let1_low j (by omega)
        cases e : (TL.tl let1)[j]? with
        | none => rw [e] at this; cases this
        | some x => rw [e] at this; exact ⟨x, rfl, this⟩
      have e8 := PySem.sizeLine_eq
      refine ⟨_, _, x, rfl, rfl, by decide +kernel, atI_nat hx, ?_⟩
      refine ⟨⟨_, rfl⟩, _, rfl, p, 8, n + 2, rfl, hb2, by decide, by decide, by omega, fun d3 H3 a3 b3 hb3 k3 => ?_⟩
      have kp3 : Keep p H H3 := kp2.trans (keep_of k3)
      refine ⟨_, rfl, by omega, by omega, fun D hD => ?_⟩
      have npD : D ≠ p := (hb3.ne hD).symm
      refine lc_range (lo := 0) (n := d3.toNat) (fun j M => BoxAt M p (n + 3 + j) ∧ Keep2 p D H3 M ∧ ∃ ys : List Str, M D = some (.lst (ys.map V.str)) ∧ ys.length = j ∧ ∀ y ∈ ys, ∃ c, y = (⟨#[c]⟩ : Str) ∧ (lowB c || digB c) = true)
        ⟨hb3.new hD, Keep2.of (Keep.new hD), [], upd_same, rfl, fun y hy => absurd hy List.not_mem_nil⟩ ?_ ?_
      · rintro j M hj ⟨mb, mk, ys, mD, ml, mt⟩
        refine ⟨rfl, _, rfl, _, rfl, p, 36, n + 3 + j, rfl, mb, by decide, by decide, by omega, fun d4 M1 r1 r2 mb1 mk1 => ?_⟩
        obtain ⟨c, hc, ac⟩ := atI_in (xs := TL.tl let1) r1 (by rw [l1]; exact r2)
        have mD1 : M1 D = some (.lst (ys.map V.str)) := by rw [mk1 D npD]; exact mD
        refine ⟨_, _, _, rfl, rfl, by decide +kernel, ac, ys.map V.str, mD1, ?_, (mb1.mono (by omega)).put npD, (mk.next (keep_of mk1)).put, ys ++ [⟨#[c]⟩], ?_, ?_, ?_⟩
        · rw [List.length_map, ml]
          omega
        · rw [upd_same, List.map_append]
          rfl
        · rw [List.length_append, ml]
          rfl
        · intro y hy
          rcases List.mem_append.mp hy with z | z
          · exact mt y z
          · exact ⟨c, List.mem_singleton.mp z, let1_sm c hc⟩
      · rintro M ⟨mb, mk, ys, mD, ml, mt⟩
        have nm := name_of (x := x) hlow (by omega) mt
        have kpM : Keep p H M := kp3.trans (mk.fin hD)
        have ones : ∀ y ∈ ys, Tz 1 y := fun y hy => by
          obtain ⟨c, rfl, hc⟩ := mt y hy
          refine Tz.one ?_
          simp only [lowB, digB, Bool.or_eq_true, decide_eq_true_eq] at hc
          omega
        have sm := sum_le ones
        have nl := (name_ok nm).2
        rw [Str.length_append] at nl
        have z0 : ("" : Str).length = 0 := by decide +kernel
        refine ⟨_, D, ys, rfl, rfl, .inl (SqL.of mD), by rw [z0]; omega, _, _, rfl, rfl, by omega, ?_⟩
        exact q _ M nm (mb.mono (by omega)) kpM

end
end T04
set_option Elab.async false
set_option linter.all false
set_option maxRecDepth 100000
set_option maxHeartbeats 4000000
/-! the heap without the addresses of a predicate: data that lies apart from all that is changed -/
namespace Tp
open PySem PySem.Spec PyProof.Rows L2
open Classical in
/-- all that is tracked but where S -/
noncomputable def ms (S : Addr → Prop) (G : Hp) : Hp := fun b => if S b then none else G b
section
variable {S S' : Addr → Prop} {p a : Addr} {H G G' : Hp} {o : HO}
theorem ms_some {b : Addr} {u : HO} (e : ms S G b = some u) : ¬ S b ∧ G b = some u := by
  unfold ms at e
  split at e
  · cases e
  · rename_i h
    exact ⟨h, e⟩
theorem ms_at (h : ¬ S a) (e : G a = some o) : ms S G a = some o := by
  unfold ms
  rw [if_neg h]
  exact e
theorem ms_same : Same (ms S G) G := fun b u e => (ms_some e).2
theorem ms_of (h : ∀ b u, ¬ S b → G b = some u → G' b = some u) : Same (ms S G) (ms S G') := fun b u e => ms_at (ms_some e).1 (h b u (ms_some e).1 (ms_some e).2)
theorem ms_up (s : Same G G') : Same (ms S G) (ms S G') := ms_of fun b u _ e => s b u e
theorem ms_keep (hp : S p) (k : Keep p G G') : Same (ms S G) (ms S G') := ms_of fun b u h e => k b u (fun z => h (z ▸ hp)) e
theorem ms_fr {l : List Addr} (hl : ∀ b ∈ l, S b) (k : ∀ b o, b ∉ l → G b = some o → G' b = some o) : Same (ms S G) (ms S G') := ms_of fun b u h e => k b u (fun z => h (hl b z)) e
theorem ms_more (h : ∀ b, S' b → S b) : Same (ms S G) (ms S' G) := fun b u e => ms_at (fun z => (ms_some e).1 (h b z)) (ms_some e).2
theorem ms_put (h : S a) : ms S (upd G a o) = ms S G := by
  funext b
  unfold ms
  split
  · rfl
  · rename_i z
    exact upd_ne fun e => z (e ▸ h)
/-- one more address that is not there -/
theorem ms_to (h : G a = none) : Same (ms S G) (ms (fun b => S b ∨ b = a) G) := fun b u e => ms_at (fun z => z.elim (ms_some e).1 fun z => by have := (ms_some e).2; rw [z, h] at this; cases this) (ms_some e).2
/-- the addresses are all in use -/
def Sub (S : Addr → Prop) (H : Hp) : Prop := ∀ b, S b → H b ≠ none
theorem Sub.up (h : Sub S H) (s : Same H G) : Sub S G := fun b z => by
  obtain ⟨o, e⟩ := Option.ne_none_iff_exists'.mp (h b z)
  rw [s b o e]
  exact nofun
theorem Sub.keep {n : Nat} (h : Sub S H) (hb : BoxAt G p n) (k : Keep p H G) : Sub S G := fun b z => by
  by_cases e : b = p
  · obtain ⟨_, _, _, e1, _⟩ := hb
    rw [e, e1]
    exact nofun
  · obtain ⟨o, e1⟩ := Option.ne_none_iff_exists'.mp (h b z)
    rw [k b o e e1]
    exact nofun
theorem Sub.out (h : Sub S H) (e : H a = none) : ¬ S a := fun z => h a z e
theorem Sub.new {n : Nat} (h : Sub S H) (hb : BoxAt G p n) (k : Keep p H G) (e : G a = none) : ¬ S a := (h.keep hb k).out e
end
end Tp
set_option Elab.async false
set_option linter.all false
set_option maxRecDepth 100000
set_option maxHeartbeats 4000000
namespace T04
open PySem PySem.Spec PyProof.Rows L2 Tp
section
variable {P : Program} {w : World} {K : PySem.W.Frag} {mg : Str → Option Value} {base : Heap} {f : Addr} {fd : FuncData}

/-- the odd things -/
def oddL : List PyData := [.none, .bool true, .int (0 - 1), .str "A", .str "", .list [], .list [.str "a"], .tuple [], .dict [], .int (10 ^ (29 : Int).toNat), .str "abcdefghi", .str "1a", .list [.bool true], .list [.int 0, .none], .list [.list [.int 0]], .list [.int 0, .int 0, .int 0, .int 0]]
/-- the good one, or an odd one -/
def spOdd (K : PySem.W.Frag) : Sp := fun vs H Q _ => ∃ (p : Addr) (n : Nat) (g : V) (S : Addr → Prop), vs = [.ref p, g] ∧ BoxAt H p n ∧ n ≤ 100000 ∧ S p ∧ Sub S H ∧ (∀ H', BoxAt H' p (n + 2) → Keep p H H' → Q g H') ∧ ∀ (d : PyData) (x : V) (H' : Hp), d ∈ oddL → Dd K (ms S H') x d → BoxAt H' p (n + 2) → Keep p H H' → Q x H'
theorem step {p l : Addr} {n : Nat} {H G : Hp} {o : HO} (hb : BoxAt G p n) (k : Keep p H G) (e : G l = none) : BoxAt (upd G l o) p n ∧ Keep p H (upd G l o) ∧ Same G (upd G l o) ∧ l ≠ p ∧ upd G l o l = some o := ⟨hb.new e, k.trans (Keep.new e), Same.put e, (hb.ne e).symm, upd_same⟩

abbrev sOd : Stmt := top 42
abbrev nOd : List Str := ["_law_box_here", "_law_good", "_law_some"]
theorem scOd : FnScope nOd ["_law_box_here", "_law_good"] (defScope sOd) := ⟨rfl, rfl, rfl, by decide +kernel, rfl, by decide +kernel, by decide +kernel⟩

theorem ok_Od (F : Fun K "_law_odd" "_law_odd" sOd f fd) (T : TxtL mg) (C : Cg P w K mg base 1 "_law_take" spTake) : FnG P w K mg base CX0 2 f fd ["_law_box_here", "_law_good"] (spOdd K) := by
  refine FunG.ok F scOd (fun vs H Q E h => ?_) (fun cdv B out s H vs Q E hr hG h => ?_)
  · obtain ⟨p, n, g, S, rfl, _⟩ := h
    rfl
  · obtain ⟨p, n, g, S, rfl, hb, hn, sp, hS, q0, q1⟩ := h
    refine ⟨_, (pss_cons (ps_set (i := 2) scOd.nd rfl (.inl rfl) (pe_lst (pa_cons pe_non (pa_cons pe_bl (pa_cons (pe_op op_sub pe_int pe_int) (pa_cons pe_str (pa_cons pe_str (pa_cons (pe_lst pa_nil) (pa_cons (pe_lst (pa_cons pe_str pa_nil)) (pa_cons (pe_tup pa_nil) (pa_cons pe_dnewK (pa_cons (pe_op op_pow pe_int pe_int) (pa_cons pe_str (pa_cons pe_str (pa_cons (pe_lst (pa_cons pe_bl pa_nil)) (pa_cons (pe_lst (pa_cons pe_int (pa_cons pe_non pa_nil))) pa_nil))))))))))))))))
      (pss_one (ps_ret (pe_ifExp (pt_cmpR op_eq (pe_g C hr hG (by decide) (by rfl) (pa_cons (pv 0) (pa_cons pe_int pa_nil))) pe_int (nomark _)) (pe_ix ix_list (pe_op op_cat (pv 2) (pe_lst (pa_cons (pe_lst (pa_cons (pe_lst (pa_cons pe_int pa_nil)) pa_nil)) (pa_cons (pe_op op_rep (pe_lst (pa_cons pe_int pa_nil)) pe_int) pa_nil)))) (pe_g C hr hG (by decide) (by rfl) (pa_cons (pv 0) (pa_cons pe_int pa_nil))) fun _ _ => rfl) (pv 1))))), ?_⟩
    have k0 : Keep p H H := Keep.refl _ _
    obtain ⟨G0, hG0⟩ : ∃ G0, G0 = H := ⟨_, rfl⟩
    have b0 : BoxAt G0 p n := by rw [hG0]; exact hb
    have k0 : Keep p H G0 := by rw [hG0]; exact Keep.refl _ _
    rw [← hG0]
    refine ⟨_, _, rfl, rfl, (by show 0 ≤ sizeLine; decide), fun l1 e1 => ?_⟩
    have zz1 : ¬ S l1 := hS.new b0 k0 e1
    obtain ⟨b1, k1, s1, n1, t1⟩ := step (o := .lst []) b0 k0 e1
    generalize upd G0 l1 (.lst []) = G1 at b1 k1 s1 t1 ⊢
    refine ⟨(by show 1 ≤ sizeLine; decide), fun l2 e2 => ?_⟩
    have zz2 : ¬ S l2 := hS.new b1 k1 e2
    obtain ⟨b2, k2, s2, n2, t2⟩ := step (o := .lst [V.str "a"]) b1 k1 e2
    generalize upd G1 l2 (.lst [V.str "a"]) = G2 at b2 k2 s2 t2 ⊢
    refine ⟨(by show 0 ≤ sizeLine; decide), fun l3 e3 => ?_⟩
    have zz3 : ¬ S l3 := hS.new b2 k2 e3
    obtain ⟨b3, k3, s3, n3, t3⟩ := step (o := .tup []) b2 k2 e3
    generalize upd G2 l3 (.tup []) = G3 at b3 k3 s3 t3 ⊢
    refine fun l4 e4 => ?_
    have zz4 : ¬ S l4 := hS.new b3 k3 e4
    obtain ⟨b4, k4, s4, n4, t4⟩ := step (o := .dK []) b3 k3 e4
    generalize upd G3 l4 (.dK []) = G4 at b4 k4 s4 t4 ⊢
    refine ⟨_, _, rfl, rfl, ⟨by decide, by decide, by decide⟩, (by show 1 ≤ sizeLine; decide), fun l5 e5 => ?_⟩
    have zz5 : ¬ S l5 := hS.new b4 k4 e5
    obtain ⟨b5, k5, s5, n5, t5⟩ := step (o := .lst [V.bl true]) b4 k4 e5
    generalize upd G4 l5 (.lst [V.bl true]) = G5 at b5 k5 s5 t5 ⊢
    refine ⟨(by show 2 ≤ sizeLine; decide), fun l6 e6 => ?_⟩
    have zz6 : ¬ S l6 := hS.new b5 k5 e6
    obtain ⟨b6, k6, s6, n6, t6⟩ := step (o := .lst [V.int 0, V.non]) b5 k5 e6
    generalize upd G5 l6 (.lst [V.int 0, V.non]) = G6 at b6 k6 s6 t6 ⊢
    refine ⟨(by show 14 ≤ sizeLine; decide), fun l7 e7 => ?_⟩
    dsimp only
    have zz7 : ¬ S l7 := hS.new b6 k6 e7
    obtain ⟨b7, k7, s7, n7, t7⟩ := step (o := .lst [V.non, V.bl true, V.int (0 - 1), V.str "A", V.str "", V.ref l1, V.ref l2, V.ref l3, V.ref l4, V.int (10 ^ (29 : Int).toNat), V.str "abcdefghi", V.str "1a", V.ref l5, V.ref l6]) b6 k6 e7
    generalize upd G6 l7 (.lst [V.non, V.bl true, V.int (0 - 1), V.str "A", V.str "", V.ref l1, V.ref l2, V.ref l3, V.ref l4, V.int (10 ^ (29 : Int).toNat), V.str "abcdefghi", V.str "1a", V.ref l5, V.ref l6]) = G7 at b7 k7 s7 t7 ⊢
    dsimp only [gName]
    refine ⟨_, rfl, p, 4, n, rfl, b7, by decide, by decide, by omega, fun d H8 a8 c8 bb8 k8 => ⟨rfl, _, rfl, ?_⟩⟩
    have kp8 : Keep p H H8 := k7.trans (keep_of k8)
    have u1 : H8 l1 = some (.lst []) := (k8 l1 n1).trans (s7 _ _ (s6 _ _ (s5 _ _ (s4 _ _ (s3 _ _ (s2 _ _ (t1)))))))
    have u2 : H8 l2 = some (.lst [V.str "a"]) := (k8 l2 n2).trans (s7 _ _ (s6 _ _ (s5 _ _ (s4 _ _ (s3 _ _ (t2))))))
    have u3 : H8 l3 = some (.tup []) := (k8 l3 n3).trans (s7 _ _ (s6 _ _ (s5 _ _ (s4 _ _ (t3)))))
    have u4 : H8 l4 = some (.dK []) := (k8 l4 n4).trans (s7 _ _ (s6 _ _ (s5 _ _ (t4))))
    have u5 : H8 l5 = some (.lst [V.bl true]) := (k8 l5 n5).trans (s7 _ _ (s6 _ _ (t5)))
    have u6 : H8 l6 = some (.lst [V.int 0, V.non]) := (k8 l6 n6).trans (s7 _ _ (t6))
    have u7 : H8 l7 = some (.lst [V.non, V.bl true, V.int (0 - 1), V.str "A", V.str "", V.ref l1, V.ref l2, V.ref l3, V.ref l4, V.int (10 ^ (29 : Int).toNat), V.str "abcdefghi", V.str "1a", V.ref l5, V.ref l6]) := (k8 l7 n7).trans (t7)
    refine ite2 (fun h1 => ?_) (fun h1 => ?_)
    · refine ⟨_, rfl, (by show 1 ≤ sizeLine; decide), fun m1 e8 => ?_⟩
      have zz8 : ¬ S m1 := hS.new bb8 kp8 e8
      obtain ⟨b8, k8, s8, n8, t8⟩ := step (o := .lst [V.int 0]) bb8 kp8 e8
      generalize upd H8 m1 (.lst [V.int 0]) = G8 at b8 k8 s8 t8 ⊢
      refine ⟨(by show 1 ≤ sizeLine; decide), fun m2 e9 => ?_⟩
      have zz9 : ¬ S m2 := hS.new b8 k8 e9
      obtain ⟨b9, k9, s9, n9, t9⟩ := step (o := .lst [V.ref m1]) b8 k8 e9
      generalize upd G8 m2 (.lst [V.ref m1]) = G9 at b9 k9 s9 t9 ⊢
      refine ⟨(by show 1 ≤ sizeLine; decide), fun m3 e10 => ?_⟩
      have zz10 : ¬ S m3 := hS.new b9 k9 e10
      obtain ⟨b10, k10, s10, n10, t10⟩ := step (o := .lst [V.int 0]) b9 k9 e10
      generalize upd G9 m3 (.lst [V.int 0]) = G10 at b10 k10 s10 t10 ⊢
      refine ⟨_, _, _, rfl, rfl, t10, by decide, by decide, (by show 1 * 4 ≤ sizeLine; decide), fun m4 e11 => ?_⟩
      have zz11 : ¬ S m4 := hS.new b10 k10 e11
      obtain ⟨b11, k11, s11, n11, t11⟩ := step (o := .lst (List.replicate (4 : Int).toNat [V.int 0]).flatten) b10 k10 e11
      generalize upd G10 m4 (.lst (List.replicate (4 : Int).toNat [V.int 0]).flatten) = G11 at b11 k11 s11 t11 ⊢
      refine ⟨(by show 2 ≤ sizeLine; decide), fun m5 e12 => ?_⟩
      have zz12 : ¬ S m5 := hS.new b11 k11 e12
      obtain ⟨b12, k12, s12, n12, t12⟩ := step (o := .lst [V.ref m2, V.ref m4]) b11 k11 e12
      generalize upd G11 m5 (.lst [V.ref m2, V.ref m4]) = G12 at b12 k12 s12 t12 ⊢
      refine ⟨_, _, _, _, rfl, rfl, s12 _ _ (s11 _ _ (s10 _ _ (s9 _ _ (s8 _ _ u7)))), t12, (by show 14 + 2 ≤ sizeLine; decide), fun m6 e13 => ?_⟩
      have zz13 : ¬ S m6 := hS.new b12 k12 e13
      obtain ⟨b13, k13, s13, n13, t13⟩ := step (o := .lst ([V.non, V.bl true, V.int (0 - 1), V.str "A", V.str "", V.ref l1, V.ref l2, V.ref l3, V.ref l4, V.int (10 ^ (29 : Int).toNat), V.str "abcdefghi", V.str "1a", V.ref l5, V.ref l6] ++ [V.ref m2, V.ref m4])) b12 k12 e13
      generalize upd G12 m6 (.lst ([V.non, V.bl true, V.int (0 - 1), V.str "A", V.str "", V.ref l1, V.ref l2, V.ref l3, V.ref l4, V.int (10 ^ (29 : Int).toNat), V.str "abcdefghi", V.str "1a", V.ref l5, V.ref l6] ++ [V.ref m2, V.ref m4])) = G13 at b13 k13 s13 t13 ⊢
      refine ⟨_, rfl, p, 16, n + 1, rfl, b13, by decide, by decide, by omega, fun d2 H9 a9 c9 b9 k9 => ?_⟩
      have w1 : H9 l1 = some (.lst []) := (k9 l1 n1).trans (s13 _ _ (s12 _ _ (s11 _ _ (s10 _ _ (s9 _ _ (s8 _ _ (u1)))))))
      have w2 : H9 l2 = some (.lst [V.str "a"]) := (k9 l2 n2).trans (s13 _ _ (s12 _ _ (s11 _ _ (s10 _ _ (s9 _ _ (s8 _ _ (u2)))))))
      have w3 : H9 l3 = some (.tup []) := (k9 l3 n3).trans (s13 _ _ (s12 _ _ (s11 _ _ (s10 _ _ (s9 _ _ (s8 _ _ (u3)))))))
      have w4 : H9 l4 = some (.dK []) := (k9 l4 n4).trans (s13 _ _ (s12 _ _ (s11 _ _ (s10 _ _ (s9 _ _ (s8 _ _ (u4)))))))
      have w5 : H9 l5 = some (.lst [V.bl true]) := (k9 l5 n5).trans (s13 _ _ (s12 _ _ (s11 _ _ (s10 _ _ (s9 _ _ (s8 _ _ (u5)))))))
      have w6 : H9 l6 = some (.lst [V.int 0, V.non]) := (k9 l6 n6).trans (s13 _ _ (s12 _ _ (s11 _ _ (s10 _ _ (s9 _ _ (s8 _ _ (u6)))))))
      have w7 : H9 l7 = some (.lst [V.non, V.bl true, V.int (0 - 1), V.str "A", V.str "", V.ref l1, V.ref l2, V.ref l3, V.ref l4, V.int (10 ^ (29 : Int).toNat), V.str "abcdefghi", V.str "1a", V.ref l5, V.ref l6]) := (k9 l7 n7).trans (s13 _ _ (s12 _ _ (s11 _ _ (s10 _ _ (s9 _ _ (s8 _ _ (u7)))))))
      have w8 : H9 m1 = some (.lst [V.int 0]) := (k9 m1 n8).trans (s13 _ _ (s12 _ _ (s11 _ _ (s10 _ _ (s9 _ _ (t8))))))
      have w9 : H9 m2 = some (.lst [V.ref m1]) := (k9 m2 n9).trans (s13 _ _ (s12 _ _ (s11 _ _ (s10 _ _ (t9)))))
      have w10 : H9 m3 = some (.lst [V.int 0]) := (k9 m3 n10).trans (s13 _ _ (s12 _ _ (s11 _ _ (t10))))
      have w11 : H9 m4 = some (.lst (List.replicate (4 : Int).toNat [V.int 0]).flatten) := (k9 m4 n11).trans (s13 _ _ (s12 _ _ (t11)))
      have w12 : H9 m5 = some (.lst [V.ref m2, V.ref m4]) := (k9 m5 n12).trans (s13 _ _ (t12))
      have w13 : H9 m6 = some (.lst ([V.non, V.bl true, V.int (0 - 1), V.str "A", V.str "", V.ref l1, V.ref l2, V.ref l3, V.ref l4, V.int (10 ^ (29 : Int).toNat), V.str "abcdefghi", V.str "1a", V.ref l5, V.ref l6] ++ [V.ref m2, V.ref m4])) := (k9 m6 n13).trans (t13)
      have hall : DdAll K (ms S H9) _ oddL := .cons (.non) (.cons (.bl true) (.cons (.int _) (.cons (.str _) (.cons (.str _) (.cons (.lst (SqL.of (ms_at zz1 w1)) (.nil)) (.cons (.lst (SqL.of (ms_at zz2 w2)) (.cons (.str _) .nil)) (.cons (.tup (SqT.of (ms_at zz3 w3)) .nil) (.cons (.dct (ms_at zz4 w4) rfl .nil) (.cons (.int _) (.cons (.str _) (.cons (.str _) (.cons (.lst (SqL.of (ms_at zz5 w5)) (.cons (.bl true) .nil)) (.cons (.lst (SqL.of (ms_at zz6 w6)) (.cons (.int 0) (.cons .non .nil))) (.cons (.lst (SqL.of (ms_at zz9 w9)) (.cons (.lst (SqL.of (ms_at zz8 w8)) (.cons (.int 0) .nil)) .nil)) (.cons (.lst (SqL.of (ms_at zz11 w11)) (.cons (.int 0) (.cons (.int 0) (.cons (.int 0) (.cons (.int 0) .nil))))) (.nil))))))))))))))))
      obtain ⟨j, rfl⟩ : ∃ j : Nat, d2 = (j : Int) := ⟨d2.toNat, by omega⟩
      have hj : j < oddL.length := by show j < 16; omega
      have hd : oddL[j]? = some oddL[j] := List.getElem?_eq_getElem hj
      obtain ⟨x, hx, hdd⟩ := hall.at hd
      exact ⟨m6, _, _, x, rfl, rfl, SqL.of w13, atI_nat hx, q1 _ x H9 (List.mem_of_getElem? hd) hdd (b9.mono (by omega)) (k13.trans (keep_of k9))⟩
    · exact ⟨_, rfl, q0 H8 (bb8.mono (by omega)) kp8⟩

end
end T04
set_option Elab.async false
set_option linter.all false
set_option maxRecDepth 100000
set_option maxHeartbeats 4000000
namespace T04
open PySem PySem.Spec PyProof.Rows L2 Tp
section
variable {P : Program} {w : World} {K : PySem.W.Frag} {mg : Str → Option Value} {base : Heap} {f : Addr} {fd : FuncData}

/-- what a drawn call is -/
def NameD (d : PyData) : Prop := d ∈ oddL ∨ ∃ z, nameB (TL.tl z) = true ∧ d = .str z
def TurnD (d : PyData) : Prop := d ∈ oddL ∨ ∃ i : Int, d = .int i ∧ 0 ≤ i ∧ i ≤ 1000000
def NumD (m : Nat) (d : PyData) : Prop := (∃ i : Int, d = .int i ∧ -1 ≤ i ∧ i ≤ m) ∨ d ∈ ([.bool true, .none, .str "0", .list [.int 0]] : List PyData)
def ListD (m : Nat) (d : PyData) : Prop := d ∈ oddL ∨ ∃ ds, (d = .list ds ∨ d = .tuple ds) ∧ 1 ≤ ds.length ∧ ds.length ≤ 3 ∧ ∀ x ∈ ds, NumD m x
def CallD (m : Nat) (d : PyData) : Prop := (∃ a, NameD a ∧ d = .tuple [.str "constant", a]) ∨ (∃ a b, NameD a ∧ TurnD b ∧ d = .tuple [.str "sample", a, b]) ∨ ∃ a b, NameD a ∧ ListD m b ∧ 0 < m ∧ d = .tuple [.str "apply", a, b]
theorem odd_to {p : Addr} {n : Nat} {g : V} {H : Hp} {Q : VK} {E : XK} {N : PyData → Prop} {S : Addr → Prop} (sp : S p) (hS : Sub S H) (hb : BoxAt H p n) (hn : n ≤ 100000) (hg : ∀ H', Keep p H H' → ∃ d, N d ∧ Dd K (ms S H') g d) (ho : ∀ d ∈ oddL, N d)
    (q : ∀ d x H', N d → Dd K (ms S H') x d → BoxAt H' p (n + 2) → Keep p H H' → Q x H') : spOdd K [.ref p, g] H Q E :=
  ⟨p, n, g, S, rfl, hb, hn, sp, hS, fun H' b k => let ⟨d, h1, h2⟩ := hg H' k; q d g H' h1 h2 b k, fun d x H' hd hx b k => q d x H' (ho d hd) hx b k⟩
theorem ms_d {S : Addr → Prop} {p D : Addr} {H M : Hp} (sp : S p) (hD : H D = none) (k : Keep2 p D H M) : Same (ms S H) (ms (fun b => S b ∨ b = D) M) := fun b u e => by
  obtain ⟨h, e⟩ := ms_some e
  have h2 : b ≠ D := fun z => by rw [z, hD] at e; cases e
  exact ms_at (fun z => z.elim h h2) (k b u (fun z => h (z ▸ sp)) h2 e)
theorem ms_keep2 {S : Addr → Prop} {p D : Addr} {H M : Hp} (sp : S p) (k : Keep2 p D H M) : Same (ms (fun b => S b ∨ b = D) H) (ms (fun b => S b ∨ b = D) M) := ms_of fun b u h e => k b u (fun z => h (.inl (z ▸ sp))) (fun z => h (.inr z)) e
theorem dd_of_ints {H : Hp} : ∀ ns : List Int, DdAll K H (ns.map V.int) (ns.map PyData.int)
  | [] => .nil
  | n :: ns => .cons (.int n) (dd_of_ints ns)
def spCallD (K : PySem.W.Frag) : Sp := fun vs H Q _ => ∃ (p l : Addr) (n : Nat) (xs : List V) (S : Addr → Prop), vs = [.ref p, .ref l] ∧ BoxAt H p n ∧ n ≤ 50000 ∧ S p ∧ Sub S H ∧ l ≠ p ∧ H l = some (.lst xs) ∧ xs.length ≤ 4000 ∧ ∀ (d : PyData) (x : V) (H' : Hp), CallD xs.length d → Dd K (ms S H') x d → BoxAt H' p (n + 80) → Keep p H H' → Q x H'

abbrev sCa : Stmt := top 43
abbrev nCa : List Str := ["_law_box_here", "_law_rows", "_law_name", "_law_many", "_law_way", "_law_turn", "_law_numbers", "_law_lap", "_law_k"]
theorem scCa : FnScope nCa ["_law_box_here", "_law_rows"] (defScope sCa) := ⟨rfl, rfl, rfl, by decide +kernel, rfl, by decide +kernel, by decide +kernel⟩

theorem ok_Ca (F : Fun K "_law_call" "_law_call" sCa f fd) (T : TxtL mg) (C : Cg P w K mg base 1 "_law_take" spTake) (LB : Cg P w K mg base 2 "_law_label" spLab) (OD : Cg P w K mg base 2 "_law_odd" (spOdd K)) : FnG P w K mg base CX0 3 f fd ["_law_box_here", "_law_rows"] (spCallD K) := by
  refine FunG.ok F scCa (fun vs H Q E h => ?_) (fun cdv B out s H vs Q E hr hG h => ?_)
  · obtain ⟨p, l, n, xs, S, rfl, _⟩ := h
    rfl
  · obtain ⟨p, l, n, xs, S, rfl, hb, hn, sp, hS, hlp, hl, hxs, q⟩ := h
    refine ⟨_, (pss_cons (ps_asg (pe_tup (pa_cons (pe_g OD hr hG (by decide) (by rfl) (pa_cons (pv 0) (pa_cons (pe_g LB hr hG (by decide) (by rfl) (pa_cons (pv 0) pa_nil)) pa_nil))) (pa_cons (pe_callB call_len (by rfl) T.len PySem.boot_len (pa_cons (pv 1) pa_nil)) pa_nil))) (pg_tup rfl (pgs_cons (pg_name (i := 2) scCa.nd rfl (Or.inl rfl)) (pgs_cons (pg_name (i := 3) scCa.nd rfl (Or.inr rfl)) pgs_nil))))
      (pss_cons (ps_set (i := 4) scCa.nd rfl (.inl rfl) (pe_g C hr hG (by decide) (by rfl) (pa_cons (pv 0) (pa_cons pe_int pa_nil))))
      (pss_cons (ps_if (PW.pt (pw_or (pt_cmpR op_eq (pv 4) pe_int (nomark _)) (pw_or1 (pt_cmpR op_eq (pv 3) pe_int (nomark _))))) (pss_one (ps_ret (pe_tup (pa_cons pe_str (pa_cons (pv 2) pa_nil))))) pss_nil)
      (pss_cons (ps_if (pt_cmpR op_eq (pv 4) pe_int (nomark _)) (pss_cons (ps_set (i := 5) scCa.nd rfl (.inl rfl) (pe_ix ix_list (pe_lst (pa_cons pe_int (pa_cons (pe_g C hr hG (by decide) (by rfl) (pa_cons (pv 0) (pa_cons pe_int pa_nil))) (pa_cons (pe_g C hr hG (by decide) (by rfl) (pa_cons (pv 0) (pa_cons (pe_op op_pow pe_int pe_int) pa_nil))) pa_nil)))) (pe_g C hr hG (by decide) (by rfl) (pa_cons (pv 0) (pa_cons pe_int pa_nil))) fun _ _ => rfl))
        (pss_one (ps_ret (pe_tup (pa_cons pe_str (pa_cons (pv 2) (pa_cons (pe_g OD hr hG (by decide) (by rfl) (pa_cons (pv 0) (pa_cons (pv 5) pa_nil))) pa_nil))))))) pss_nil)
      (pss_cons (ps_setLc (i := 6) (own := [("_law_k", 8)]) (g := gName 8) (tt := tYes) rfl scCa.nd rfl rfl (sw_true rfl rfl rfl (by decide +kernel)) (pi_range1 (by rfl) T.range (pa_cons (pe_op op_add pe_int (pe_g C hr hG (by decide) (by rfl) (pa_cons (pv 0) (pa_cons pe_int pa_nil)))) pa_nil)) (blkOk_by (N := nCa) (sc := defScope sCa) (by decide +kernel)) (fun _ _ _ _ _ => pg_name (i := 8) scCa.nd rfl (Or.inl rfl)) (fun _ _ _ _ _ => pts_nil) (fun _ _ _ _ _ => (pe_g C hr hG (by decide) (by rfl) (pa_cons (pv 0) (pa_cons (pv 3) pa_nil)))))
      (C8.pss_cut (ps_if (pt_cmpR op_eq (pe_g C hr hG (by decide) (by rfl) (pa_cons (pv 0) (pa_cons pe_int pa_nil))) pe_int (nomark _)) (pss_one (ps_for PassesOwn.never rfl (pi_range1 (by rfl) T.range (pa_cons (pe_op op_add pe_int (pe_g C hr hG (by decide) (by rfl) (pa_cons (pv 0) (pa_cons pe_int pa_nil)))) pa_nil)) (pg_name (i := 7) scCa.nd rfl (Or.inl rfl)) (pss_one (ps_asg (pe_ix ix_list (pe_lst (pa_cons (pv 3) (pa_cons (pe_op op_sub pe_int pe_int) (pa_cons pe_bl (pa_cons pe_non (pa_cons pe_str (pa_cons (pe_lst (pa_cons pe_int pa_nil)) pa_nil))))))) (pe_g C hr hG (by decide) (by rfl) (pa_cons (pv 0) (pa_cons pe_int pa_nil))) fun _ _ => rfl) (pg_sub (pv 6) (pe_g C hr hG (by decide) (by rfl) (pa_cons (pv 0) (pa_cons (pe_callB call_len (by rfl) T.len PySem.boot_len (pa_cons (pv 6) pa_nil)) pa_nil))) set_list))))) pss_nil)
      (pss_one (ps_ret (pe_tup (pa_cons pe_str (pa_cons (pv 2) (pa_cons (pe_g OD hr hG (by decide) (by rfl) (pa_cons (pv 0) (pa_cons (pe_ix ix_list (pe_lst (pa_cons (pv 6) (pa_cons (pe_callTy call_tuple_of (by rfl) T.tuple (by decide +kernel) (pa_cons (pv 6) pa_nil)) pa_nil))) (pe_g C hr hG (by decide) (by rfl) (pa_cons (pv 0) (pa_cons pe_int pa_nil))) fun _ _ => rfl) pa_nil))) pa_nil)))))))))))), ?_⟩
    refine ⟨_, rfl, _, rfl, p, n, rfl, hb, by omega, fun z H1 hz b1 k1 => ?_⟩
    dsimp only [tNil]
    refine odd_to (N := NameD) (S := S) sp (hS.keep b1 k1) b1 (by omega) (fun H' _ => ⟨.str z, .inr ⟨z, hz, rfl⟩, .str z⟩) (fun d hd => .inl hd) fun dn v H2 hN hD b2 k2 => ?_
    have kp2 : Keep p H H2 := k1.trans k2
    have hl2 := kp2 _ _ hlp hl
    refine ⟨_, rfl, _, _, rfl, .inl ⟨_, SqL.of hl2, rfl⟩, (by show 2 ≤ sizeLine; decide), fun t e3 => ?_⟩
    obtain ⟨b3, kp3, s3, nt, ht⟩ := step (o := .tup [v, V.int (xs.length : Nat)]) b2 kp2 e3
    have hD3 : Dd K (ms S (upd H2 t (.tup [v, V.int (xs.length : Nat)]))) v dn := hD.mono (ms_up s3)
    generalize upd H2 t (.tup [v, V.int (xs.length : Nat)]) = H3 at b3 kp3 s3 ht hD3 ⊢
    refine ⟨t, _, rfl, SqT.of ht, rfl, _, _, rfl, _, _, rfl, rfl, ?_⟩
    refine ⟨_, rfl, p, 4, _, rfl, b3, by decide, by decide, by omega, fun wy H4 a4 c4 b4 k4 => ?_⟩
    have kp4 : Keep p H H4 := kp3.trans (keep_of k4)
    have hD4 : Dd K (ms S H4) v dn := hD3.mono (ms_keep sp (keep_of k4))
    dsimp only [gName]
    have cst : ∀ t, H4 t = none → Q (.ref t) (upd H4 t (.tup [V.str "constant", v])) := fun t e5 => by
      obtain ⟨b5, kp5, s5, n5, h5⟩ := step (o := .tup [V.str "constant", v]) b4 kp4 e5
      exact q _ _ _ (.inl ⟨dn, hN, rfl⟩) (.tup (SqT.of (ms_at (hS.new b4 kp4 e5) h5)) (.cons (.str _) (.cons (hD4.mono (ms_up s5)) .nil))) (b5.mono (by omega)) kp5
    refine ⟨_, rfl, rfl, _, rfl, ?_⟩
    refine ite2 (fun h0 => ?_) (fun h0 => ?_)
    · exact iteT ⟨_, rfl, (by show 2 ≤ sizeLine; decide), cst⟩
    refine ⟨_, rfl, rfl, _, rfl, ?_⟩
    refine ite2 (fun h0' => ?_) (fun h0' => ?_)
    · exact ⟨_, rfl, (by show 2 ≤ sizeLine; decide), cst⟩
    have hm : 0 < xs.length := by
      refine Nat.pos_of_ne_zero fun e => h0' ?_
      rw [e]
      exact decide_eq_true rfl
    dsimp only [tNext]
    refine ⟨_, rfl, rfl, _, rfl, ?_⟩
    refine ite2 (fun h1 => ?_) (fun h1 => ?_)
    · refine ⟨_, rfl, p, 5, _, rfl, b4, by decide, by decide, by omega, fun d5 H5 a5 c5 b5 k5 => ?_⟩
      refine ⟨_, rfl, _, _, rfl, rfl, ⟨by decide, by decide, by decide⟩, p, _, _, rfl, b5, by decide, by decide, by omega, fun d6 H6 a6 c6 b6 k6 => ⟨(by show 3 ≤ sizeLine; decide), fun l7 e7 => ?_⟩⟩
      have kp6 := (kp4.trans (keep_of k5)).trans (keep_of k6)
      have hD6 : Dd K (ms S H6) v dn := (hD4.mono (ms_keep sp (keep_of k5))).mono (ms_keep sp (keep_of k6))
      obtain ⟨b7, kp7, s7, n7, t7⟩ := step (o := .lst [V.int 0, V.int d5, V.int d6]) b6 kp6 e7
      generalize upd H6 l7 (.lst [V.int 0, V.int d5, V.int d6]) = H7 at b7 kp7 s7 t7 ⊢
      refine ⟨_, rfl, p, 3, _, rfl, b7, by decide, by decide, by omega, fun d8 H8 a8 c8 b8 k8 => ?_⟩
      have kp8 := kp7.trans (keep_of k8)
      have hD8 : Dd K (ms S H8) v dn := (hD6.mono (ms_up s7)).mono (ms_keep sp (keep_of k8))
      have t8 : H8 l7 = some (.lst [V.int 0, V.int d5, V.int d6]) := (k8 l7 n7).trans t7
      have hc6 : d6 < 1000000 := c6
      obtain ⟨tt, ht8, hi0, hi1⟩ : ∃ tt : Int, atI [V.int 0, V.int d5, V.int d6] d8 = some (.int tt) ∧ 0 ≤ tt ∧ tt ≤ 1000000 := by
        obtain ⟨j, rfl⟩ : ∃ j : Nat, d8 = (j : Int) := ⟨d8.toNat, by omega⟩
        match j, (show j < 3 by omega) with
        | 0, _ => exact ⟨0, atI_nat (j := 0) rfl, by omega, by omega⟩
        | 1, _ => exact ⟨d5, atI_nat (j := 1) rfl, by omega, by omega⟩
        | 2, _ => exact ⟨d6, atI_nat (j := 2) rfl, by omega, by omega⟩
      refine ⟨l7, _, _, _, rfl, rfl, SqL.of t8, ht8, ?_⟩
      dsimp only [gName]
      refine ⟨_, rfl, _, rfl, _, rfl, ?_⟩
      dsimp only [tNil]
      refine odd_to (N := TurnD) (S := S) sp (hS.keep b8 kp8) b8 (by omega) (fun H' _ => ⟨.int tt, .inr ⟨tt, rfl, hi0, hi1⟩, .int tt⟩) (fun d hd => .inl hd) fun dt y H9 hT hDt b9 k9 => ⟨(by show 3 ≤ sizeLine; decide), fun t e => ?_⟩
      have kp9 := kp8.trans k9
      have hD9 : Dd K (ms S H9) v dn := hD8.mono (ms_keep sp k9)
      obtain ⟨b10, kp10, s10, n10, t10⟩ := step (o := .tup [V.str "sample", v, y]) b9 kp9 e
      exact q _ _ _ (.inr (.inl ⟨dn, dt, hN, hT, rfl⟩)) (.tup (SqT.of (ms_at (hS.new b9 kp9 e) t10)) (.cons (.str _) (.cons (hD9.mono (ms_up s10)) (.cons (hDt.mono (ms_up s10)) .nil)))) (b10.mono (by omega)) kp10
    · dsimp only [tNext]
      refine ⟨_, rfl, p, 3, _, rfl, b4, by decide, by decide, by omega, fun d5 H5 a5 c5 b5 k5 => ⟨_, _, rfl, rfl, ?_⟩⟩
      have kp5 := kp4.trans (keep_of k5)
      have hD5 : Dd K (ms S H5) v dn := hD4.mono (ms_keep sp (keep_of k5))
      refine ⟨_, rfl, by omega, by omega, fun D hD => ?_⟩
      have npD : D ≠ p := (b5.ne hD).symm
      refine lc_range (lo := 0) (n := (1 + d5).toNat) (fun j M => BoxAt M p (n + 25 + j) ∧ Keep2 p D H5 M ∧ ∃ ns : List Int, M D = some (.lst (ns.map V.int)) ∧ ns.length = j ∧ ∀ i ∈ ns, 0 ≤ i ∧ i < (xs.length : Int)) ⟨(b5.new hD).mono (by omega), Keep2.of (Keep.new hD), [], upd_same, rfl, fun i hi => absurd hi List.not_mem_nil⟩ ?_ ?_
      · rintro j M hj ⟨mb, mk, ns, mD, ml, mt⟩
        refine ⟨rfl, _, rfl, _, rfl, p, _, n + 25 + j, rfl, mb, by omega, small_log (by omega) (by omega), by omega, fun d6 M1 r1 r2 mb1 mk1 => ?_⟩
        have mD1 : M1 D = some (.lst (ns.map V.int)) := by rw [mk1 D npD]; exact mD
        refine ⟨ns.map V.int, mD1, ?_, (mb1.mono (by omega)).put npD, (mk.next (keep_of mk1)).put, ns ++ [d6], ?_, ?_, ?_⟩
        · rw [List.length_map, ml, PySem.sizeLine_eq]
          omega
        · rw [upd_same, List.map_append]
          rfl
        · rw [List.length_append, ml]
          rfl
        · intro i hi
          rcases List.mem_append.mp hi with z | z
          · exact mt i z
          · rw [List.mem_singleton.mp z]
            exact ⟨r1, r2⟩
      · rintro M ⟨mb, mk, ns, mD, ml, mt⟩
        have kpM : Keep p H M := kp5.trans (mk.fin hD)
        have hDM : Dd K (ms S M) v dn := hD5.mono (ms_keep sp (mk.fin hD))
        dsimp only [gName]
        have kpM0 : Keep p H M := kp5.trans (mk.fin hD)
        have kpA : ∀ G, Keep2 p D M G → Keep p H G := fun G gk b o hb e => by
          have hbD : b ≠ D := fun z => by
            have := kp5 _ _ hb e
            rw [z, hD] at this
            cases this
          exact gk b o hb hbD (kpM0 b o hb e)
        have hD0 : Dd K (ms (fun b => S b ∨ b = D) M) v dn := by
          exact hD5.mono (ms_d sp hD mk)
        obtain ⟨nn, hnn⟩ : ∃ nn : Nat, nn = (1 + d5).toNat := ⟨_, rfl⟩
        rw [← hnn] at mb ml
        have hn1 : 1 ≤ nn := by omega
        have hn3 : nn ≤ 3 := by omega
        obtain ⟨σ0, hσ⟩ : ∃ σ0, ((((L2.start nCa [V.ref p, V.ref l]).set 2 (some v)).set 3 (some (V.int (xs.length : Nat)))).set 4 (some (V.int wy))).set 6 (some (V.ref D)) = σ0 := ⟨_, rfl⟩
        refine ⟨fun σ' G => ∃ o, σ' = σ0.set 7 o ∧ BoxAt G p (n + 60) ∧ Keep2 p D M G ∧ ∃ vs ds, G D = some (.lst vs) ∧ DdAll K (ms (fun b => S b ∨ b = D) G) vs ds ∧ ds.length = nn ∧ ∀ x ∈ ds, NumD xs.length x, ?_, ?_⟩
        · refine ⟨_, rfl, p, 8, _, rfl, mb, by decide, by decide, by omega, fun d7 H7 a7 c7 b7 k7 => ⟨rfl, _, rfl, ?_⟩⟩
          have mD7 : H7 D = some (.lst (ns.map V.int)) := (k7 D npD).trans mD
          have gd0 : DdAll K (ms (fun b => S b ∨ b = D) H7) (ns.map V.int) (ns.map PyData.int) := dd_of_ints ns
          have gn0 : ∀ x ∈ ns.map PyData.int, NumD xs.length x := fun x hx => by
            obtain ⟨i, hi, rfl⟩ := List.mem_map.mp hx
            have := mt i hi
            exact .inl ⟨i, rfl, by omega, by omega⟩
          refine ite2 (fun h8 => ?_) (fun h8 => ?_)
          · refine ⟨_, rfl, p, 2, _, rfl, b7, by decide, by decide, by omega, fun d8 H8 a8 c8 b8 k8 => ⟨_, _, rfl, rfl, ⟨_, rfl, by omega, by omega, ?_⟩⟩⟩
            have mD8 : H8 D = some (.lst (ns.map V.int)) := (k8 D npD).trans mD7
            refine for_range (lo := 0) (n := (1 + d8).toNat) (fun i σ' G => ∃ o, σ' = σ0.set 7 o ∧ BoxAt G p (n + 25 + nn + 2 + 2 * i) ∧ Keep2 p D M G ∧ ∃ vs ds, G D = some (.lst vs) ∧ DdAll K (ms (fun b => S b ∨ b = D) G) vs ds ∧ ds.length = nn ∧ ∀ x ∈ ds, NumD xs.length x) ?_ ?_ ?_
            · exact ⟨none, by rw [← hσ]; rfl, b8.mono (by omega), Keep2.of ((keep_of k7).trans (keep_of k8)), _, _, mD8, dd_of_ints ns, by rw [List.length_map]; exact ml, gn0⟩
            · rintro i σ' G hi ⟨o, rfl, gb, gk, vs, ds, gD, gd, gl, gn⟩
              rw [← hσ]
              refine ⟨_, rfl, _, _, rfl, rfl, (by show 1 ≤ sizeLine; decide), fun l1 e1 => ?_⟩
              have nl1 : l1 ≠ D := (ne_of_none gD e1).symm
              obtain ⟨b9, k9, s9, n9, t9⟩ := step (o := .lst [V.int 0]) gb (Keep.refl p G) e1
              generalize upd G l1 (.lst [V.int 0]) = G9 at b9 k9 s9 t9 ⊢
              refine ⟨(by show 6 ≤ sizeLine; decide), fun l2 e2 => ?_⟩
              have D9 := s9 _ _ gD
              have nl2 : l2 ≠ D := (ne_of_none D9 e2).symm
              obtain ⟨b10, k10, s10, n10, t10⟩ := step (o := .lst [V.int (xs.length : Nat), V.int (0 - 1), V.bl true, V.non, V.str "0", V.ref l1]) b9 k9 e2
              generalize upd G9 l2 (.lst [V.int (xs.length : Nat), V.int (0 - 1), V.bl true, V.non, V.str "0", V.ref l1]) = G10 at b10 k10 s10 t10 ⊢
              refine ⟨_, rfl, p, 6, _, rfl, b10, by decide, by decide, by omega, fun d11 G11 a11 c11 b11 k11 => ?_⟩
              have t11 : G11 l2 = some (.lst [V.int (xs.length : Nat), V.int (0 - 1), V.bl true, V.non, V.str "0", V.ref l1]) := (k11 l2 n10).trans t10
              have u11 : G11 l1 = some (.lst [V.int 0]) := (k11 l1 n9).trans (s10 _ _ t9)
              have D11 : G11 D = some (.lst vs) := (k11 D npD).trans (s10 _ _ D9)
              have kp11 : Keep p G G11 := k10.trans (keep_of k11)
              obtain ⟨x, dx, hx, hdx, hnx⟩ : ∃ x dx, atI [V.int (xs.length : Nat), V.int (0 - 1), V.bl true, V.non, V.str "0", V.ref l1] d11 = some x ∧ Dd K (ms (fun b => S b ∨ b = D) G11) x dx ∧ NumD xs.length dx := by
                obtain ⟨j, rfl⟩ : ∃ j : Nat, d11 = (j : Int) := ⟨d11.toNat, by omega⟩
                match j, (show j < 6 by omega) with
                | 0, _ => exact ⟨_, _, atI_nat (j := 0) rfl, .int _, .inl ⟨_, rfl, by omega, by omega⟩⟩
                | 1, _ => exact ⟨_, _, atI_nat (j := 1) rfl, .int _, .inl ⟨_, rfl, by omega, by omega⟩⟩
                | 2, _ => exact ⟨_, _, atI_nat (j := 2) rfl, .bl true, .inr (by simp)⟩
                | 3, _ => exact ⟨_, _, atI_nat (j := 3) rfl, .non, .inr (by simp)⟩
                | 4, _ => exact ⟨_, _, atI_nat (j := 4) rfl, .str "0", .inr (by simp)⟩
                | 5, _ => exact ⟨_, _, atI_nat (j := 5) rfl, .lst (SqL.of (ms_at (fun z => z.elim (hS.new gb (kpA G gk) e1) nl1) u11)) (.cons (.int 0) .nil), .inr (by simp)⟩
              refine ⟨l2, _, _, x, rfl, rfl, SqL.of t11, hx, ?_⟩
              have hvl : vs.length = nn := gd.len.trans gl
              refine ⟨_, rfl, _, rfl, _, rfl, _, _, rfl, .inl ⟨_, SqL.of D11, rfl⟩, p, _, _, rfl, b11, by omega, small_log (by omega) (by omega), by omega, fun d12 G12 a12 c12 b12 k12 => ?_⟩
              have D12 : G12 D = some (.lst vs) := (k12 D npD).trans D11
              obtain ⟨j, rfl⟩ : ∃ j : Nat, d12 = (j : Int) := ⟨d12.toNat, by omega⟩
              have kp12 : Keep p G G12 := kp11.trans (keep_of k12)
              have kq12 : Keep2 p D G (upd G12 D (.lst (vs.set j x))) := (Keep2.of kp12).put
              have sm12 : Same (ms (fun b => S b ∨ b = D) G11) (ms (fun b => S b ∨ b = D) (upd G12 D (.lst (vs.set j x)))) := ms_keep2 sp ((Keep2.of (keep_of k12)).put)
              refine ⟨D, vs, _, j, rfl, rfl, D12, (by unfold ixN; rw [if_pos (by omega), if_pos (by omega), Int.toNat_natCast]), ⟨_, rfl, (b12.mono (by omega)).put npD, fun b o h1 h2 e => kq12 b o h1 h2 (gk b o h1 h2 e), vs.set j x, ds.set j dx, upd_same, (gd.mono (ms_keep2 sp kq12)).set (hdx.mono sm12), by rw [List.length_set]; exact gl, fun y hy => ?_⟩⟩
              rcases List.mem_or_eq_of_mem_set hy with z | z
              · exact gn y z
              · rw [z]; exact hnx
            · rintro σ' G ⟨o, e, gb, r⟩
              exact ⟨o, e, gb.mono (by omega), r⟩
          · exact ⟨none, by rw [← hσ]; rfl, b7.mono (by omega), Keep2.of (keep_of k7), _, _, mD7, gd0, by rw [List.length_map]; exact ml, gn0⟩
        · rintro σ' G ⟨o, rfl, gb, gk, vs, ds, gD, gd, gl, gn⟩
          rw [← hσ]
          have kpM : Keep p H M := kp5.trans (mk.fin hD)
          have hDG : Dd K (ms S G) v dn := (hD0.mono (ms_keep2 sp gk)).mono (ms_more fun _ => .inl)
          have hlD : D ≠ l := fun z => by
            have := kp5 _ _ hlp hl
            rw [z, this] at hD
            cases hD
          have kpG : Keep p H G := fun b o hb e => by
            have hbD : b ≠ D := fun z => by
              have := kp5 _ _ hb e
              rw [z, hD] at this
              cases this
            exact gk b o hb hbD (kpM b o hb e)
          have gdp : DdAll K (ms S G) vs ds := gd.mono (ms_more fun _ => .inl)
          refine ⟨_, rfl, _, rfl, _, rfl, _, rfl, D, vs, rfl, .inl ⟨SqL.of gD, fun tp ep => ?_⟩⟩
          obtain ⟨b1', k1', s1', n1', t1'⟩ := step (o := .tup vs) gb kpG ep
          have gD1 := s1' _ _ gD
          have gdp1 := gdp.mono (ms_up s1')
          have hDG1 := hDG.mono (ms_up s1')
          generalize upd G tp (.tup vs) = G1 at b1' k1' s1' t1' gD1 gdp1 hDG1 ⊢
          refine ⟨(by show 2 ≤ sizeLine; decide), fun l2 e2 => ?_⟩
          obtain ⟨b2', k2', s2', n2', t2'⟩ := step (o := .lst [V.ref D, V.ref tp]) b1' k1' e2
          have gD2 := s2' _ _ gD1
          have tp2 := s2' _ _ t1'
          have gdp2 := gdp1.mono (ms_up s2')
          have hDG2 := hDG1.mono (ms_up s2')
          generalize upd G1 l2 (.lst [V.ref D, V.ref tp]) = G2 at b2' k2' s2' t2' gD2 tp2 gdp2 hDG2 ⊢
          refine ⟨_, rfl, p, 2, _, rfl, b2', by decide, by decide, by omega, fun d3 G3 a3 c3 b3' k3' => ?_⟩
          have kk3 : Keep p G2 G3 := keep_of k3'
          have gD3 := kk3 _ _ npD gD2
          have tp3 := kk3 _ _ n1' tp2
          have t3' := kk3 _ _ n2' t2'
          have gdp3 := gdp2.mono (ms_keep sp kk3)
          have hDG3 := hDG2.mono (ms_keep sp kk3)
          have kp3' : Keep p H G3 := k2'.trans kk3
          obtain ⟨x, dx, hx, hdx, hnx⟩ : ∃ x dx, atI [V.ref D, V.ref tp] d3 = some x ∧ Dd K (ms S G3) x dx ∧ ListD xs.length dx := by
            obtain ⟨j, rfl⟩ : ∃ j : Nat, d3 = (j : Int) := ⟨d3.toNat, by omega⟩
            match j, (show j < 2 by omega) with
            | 0, _ => exact ⟨_, .list ds, atI_nat (j := 0) rfl, .lst (SqL.of (ms_at (hS.new b5 kp5 hD) gD3)) gdp3, .inr ⟨ds, .inl rfl, by omega, by omega, gn⟩⟩
            | 1, _ => exact ⟨_, .tuple ds, atI_nat (j := 1) rfl, .tup (SqT.of (ms_at (hS.new gb kpG ep) tp3)) gdp3, .inr ⟨ds, .inr rfl, by omega, by omega, gn⟩⟩
          refine ⟨l2, _, _, x, rfl, rfl, SqL.of t3', hx, ?_⟩
          dsimp only [tNil]
          refine odd_to (N := ListD xs.length) (S := S) sp (hS.keep b3' kp3') (b3'.mono (by omega : _ ≤ n + 63)) (by omega) (fun H' k => ⟨dx, hnx, hdx.mono (ms_keep sp k)⟩) (fun d hd => .inl hd) fun dl y H9 hL hDl b9 k9 => ⟨(by show 3 ≤ sizeLine; decide), fun t e => ?_⟩
          have kp9 := kp3'.trans k9
          have hD9 : Dd K (ms S H9) v dn := hDG3.mono (ms_keep sp k9)
          obtain ⟨b10, kp10, s10, n10, t10⟩ := step (o := .tup [V.str "apply", v, y]) b9 kp9 e
          exact q _ _ _ (.inr (.inr ⟨dn, dl, hN, hL, hm, rfl⟩)) (.tup (SqT.of (ms_at (hS.new b9 kp9 e) t10)) (.cons (.str _) (.cons (hD9.mono (ms_up s10)) (.cons (hDl.mono (ms_up s10)) .nil)))) (b10.mono (by omega)) kp10

end
end T04
set_option Elab.async false
set_option linter.all false
set_option maxRecDepth 100000
set_option maxHeartbeats 4000000
namespace T04
open PySem PySem.Spec PyProof.Rows L2 Tp
section
variable {P : Program} {w : World} {K : PySem.W.Frag} {mg : Str → Option Value} {base : Heap} {f : Addr} {fd : FuncData}

/-- what is due at a call: a row that is added, or the word and the value of an exception -/
inductive DueIs (n : Nat) : PyData → Sum RowK (Str × PyData) → Prop
  | name {w : Str} {a : PyData} {r : List PyData} (h : nameD a = false) : DueIs n (.tuple (.str w :: a :: r)) (.inr ("name", a))
  | const {z : Str} (h : nameB (TL.tl z) = true) : DueIs n (.tuple [.str "constant", .str z]) (.inl (z, .inr []))
  | samp {z : Str} {i : Int} (h : nameB (TL.tl z) = true) (h0 : 0 ≤ i) (h1 : i.natAbs.log2 < 1000) : DueIs n (.tuple [.str "sample", .str z, .int i]) (.inl (z, .inl i))
  | turn {z : Str} {b : PyData} (h : nameB (TL.tl z) = true) (h0 : ∀ i, b = .int i → ¬ 0 ≤ i) : DueIs n (.tuple [.str "sample", .str z, b]) (.inr ("turn", b))
  | part {z : Str} {b : PyData} (h : nameB (TL.tl z) = true) (h0 : ∀ ds, seqD b = some ds → ¬ (1 ≤ ds.length ∧ ds.length ≤ 3)) : DueIs n (.tuple [.str "apply", .str z, b]) (.inr ("part", b))
  | term {z : Str} {b e : PyData} {ds : List PyData} {j : Nat} (h : nameB (TL.tl z) = true) (h0 : seqD b = some ds) (h1 : 1 ≤ ds.length) (h3 : ds.length ≤ 3) (hj : ds[j]? = some e) (he : idxD n e = false) (hi : ∀ i u, i < j → ds[i]? = some u → idxD n u = true) : DueIs n (.tuple [.str "apply", .str z, b]) (.inr ("term", e))
  | row {z : Str} {b : PyData} {ns : List Int} (h : nameB (TL.tl z) = true) (h0 : seqD b = some (ns.map PyData.int)) (h1 : 1 ≤ ns.length) (h3 : ns.length ≤ 3) (hi : ∀ i ∈ ns, 0 ≤ i ∧ i < (n : Int)) : DueIs n (.tuple [.str "apply", .str z, b]) (.inl (z, .inr ns))
/-- the answer of _law_due -/
def AnsD (K : PySem.W.Frag) (S : Addr → Prop) (H : Hp) (a : Addr) : Sum RowK (Str × PyData) → Prop
  | .inl k => ∃ r, H a = some (.lst [.str "row", .ref r]) ∧ RowAt K H k r
  | .inr (wd, e) => ∃ v, H a = some (.lst [.str wd, v]) ∧ Dd K (ms S H) v e
theorem named_d {H : Hp} {x : V} {d : PyData} {Q : VK} {E : XK} (h : Dd K H x d) (hs : shortD d = true) (hm : smD d = true) (q : ∀ H', Same H H' → Q (.bl (nameD d)) H') : spNamed K [x] H Q E := by
  refine ⟨x, kindD d, rfl, vk_dd h hs, fun z e => ?_, fun e H' s => ?_, fun z e H' s => ?_⟩
  · subst e
    cases h
    exact smD_str hm
  · have := q H' s
    have e2 : nameD d = false := by cases d <;> first | rfl | exact absurd rfl e
    rwa [e2] at this
  · subst e
    cases h
    exact q H' s
theorem turn_d {H : Hp} {x : V} {d : PyData} {Q : VK} {E : XK} (h : Dd K H x d) (hs : shortD d = true) (q0 : (∀ i, d = .int i → ¬ 0 ≤ i) → Q (.bl false) H) (q1 : ∀ i, d = .int i → 0 ≤ i → Q (.bl true) H) : spTurn K [x] H Q E := by
  refine ⟨x, kindD d, rfl, vk_dd h hs, fun e => q0 fun i hi => ?_, fun i e => ?_⟩
  · rw [hi] at e
    exact absurd rfl e
  · subst e
    cases h
    by_cases h0 : 0 ≤ i
    · rw [decide_eq_true h0]
      exact q1 i rfl h0
    · rw [decide_eq_false h0]
      refine q0 fun j e => ?_
      cases e
      exact h0
theorem ixT {K : PySem.W.Frag} {H : Hp} {a : Addr} {xs : List V} {i : Int} {v : V} {Q : VK} (h : SqT K H a xs) (e : atI xs i = some v) (q : Q v H) : rIxT K (.ref a) (.int i) H Q := ⟨a, xs, i, v, rfl, rfl, h, e, q⟩
theorem odd_short : ∀ d ∈ oddL, shortD d = true ∧ smD d = true ∧ (∀ i, d = .int i → i.natAbs.log2 < 1000) := by
  have h : ∀ d ∈ oddL, (shortD d && smD d && match d with | .int i => decide (i.natAbs.log2 < 1000) | _ => true) = true := by decide +kernel
  intro d hd
  have := h d hd
  simp only [Bool.and_eq_true] at this
  refine ⟨this.1.1, this.1.2, fun i e => ?_⟩
  subst e
  exact of_decide_eq_true this.2
theorem name_sm {z : Str} (h : nameB (TL.tl z) = true) : shortD (.str z) = true ∧ smD (.str z) = true := by
  refine ⟨?_, ?_⟩
  · simp only [shortD]
    exact decide_eq_true (Nat.le_trans (name_ok h).2 (by decide))
  · unfold nameB at h
    simp only [Bool.and_eq_true, decide_eq_true_eq] at h
    obtain ⟨_, _, h2⟩ := h
    simp only [smD]
    refine List.all_eq_true.mpr fun c hc => decide_eq_true ?_
    have := (List.all_eq_true.mp h2) c hc
    simp only [lowB, digB, Bool.or_eq_true, decide_eq_true_eq] at this
    omega
theorem NameD.ok {d : PyData} (h : NameD d) : shortD d = true ∧ smD d = true := by
  rcases h with h | ⟨z, h, rfl⟩
  · exact ⟨(odd_short d h).1, (odd_short d h).2.1⟩
  · exact name_sm h
theorem log2_le' {n m : Nat} (h : n ≤ m) : n.log2 ≤ m.log2 := by
  rcases Nat.eq_zero_or_pos n with e | e
  · rw [e]
    exact Nat.zero_le _
  · exact (Nat.le_log2 (by omega)).mpr (Nat.le_trans (Nat.log2_self_le (by omega)) h)
theorem TurnD.ok {d : PyData} (h : TurnD d) : shortD d = true ∧ smD d = true ∧ ∀ i, d = .int i → i.natAbs.log2 < 1000 := by
  rcases h with h | ⟨i, rfl, h0, h1⟩
  · exact odd_short d h
  · refine ⟨rfl, rfl, fun j e => ?_⟩
    cases e
    refine Nat.lt_of_le_of_lt (log2_le' (n := i.natAbs) (m := 1000000) (by omega)) (by decide)
theorem NumD.ok {m : Nat} {d : PyData} (h : NumD m d) : shortD d = true ∧ smD d = true := by
  rcases h with ⟨i, rfl, _⟩ | h
  · exact ⟨rfl, rfl⟩
  · have h' : ∀ d ∈ ([.bool true, .none, .str "0", .list [.int 0]] : List PyData), (shortD d && smD d) = true := by decide +kernel
    have := h' d h
    simpa only [Bool.and_eq_true] using this
theorem short_all : ∀ {ds : List PyData}, (∀ d ∈ ds, shortD d = true) → shortAll ds = true
  | [], _ => rfl
  | d :: ds, h => by
    simp only [shortAll, Bool.and_eq_true]
    exact ⟨h d List.mem_cons_self, short_all fun x hx => h x (List.mem_cons_of_mem _ hx)⟩
theorem ListD.ok {m : Nat} {d : PyData} (h : ListD m d) : shortD d = true ∧ smD d = true := by
  rcases h with h | ⟨ds, hd, _, _, h⟩
  · exact ⟨(odd_short d h).1, (odd_short d h).2.1⟩
  · have h1 := short_all fun x hx => (h x hx).ok.1
    have h2 := smAll_of fun x hx => (h x hx).ok.2
    rcases hd with rfl | rfl
    · simp only [shortD, smD]
      exact ⟨h1, h2⟩
    · simp only [shortD, smD]
      exact ⟨h1, h2⟩
theorem dd_tup {H : Hp} {x : V} {ds : List PyData} (h : Dd K H x (.tuple ds)) : ∃ t ys, x = .ref t ∧ SqT K H t ys ∧ DdAll K H ys ds := by
  cases h with
  | tup hs ha => exact ⟨_, _, rfl, hs, ha⟩
theorem dd_cons {H : Hp} {ys : List V} {d : PyData} {ds : List PyData} (h : DdAll K H ys (d :: ds)) : ∃ v vs, ys = v :: vs ∧ Dd K H v d ∧ DdAll K H vs ds := by
  cases h with
  | cons a b => exact ⟨_, _, rfl, a, b⟩
theorem dd_nil {H : Hp} {ys : List V} (h : DdAll K H ys []) : ys = [] := by
  cases h
  rfl
theorem dd_str {H : Hp} {x : V} {z : Str} (h : Dd K H x (.str z)) : x = .str z := by
  cases h
  rfl
theorem int_forth {n : Nat} : ∀ {ds : List PyData}, ds.all (idxD n) = true → ds = (ds.map Tp.intD).map PyData.int
  | [], _ => rfl
  | d :: ds, h => by
    rw [List.all_cons, Bool.and_eq_true] at h
    rw [List.map_cons, List.map_cons, ← int_forth h.2]
    cases d with
    | int i => rfl
    | _ => exact absurd h.1 (by simp [idxD])
def spDue (K : PySem.W.Frag) : Sp := fun vs H Q _ => ∃ (l : Addr) (xs : List V) (x : V) (d : PyData) (S : Addr → Prop), vs = [.ref l, x] ∧ H l = some (.lst xs) ∧ CallD xs.length d ∧ Dd K (ms S H) x d ∧ Sub S H ∧
  ∀ R a H', DueIs xs.length d R → Same H H' → ¬ S a → AnsD K S H' a R → Q (.ref a) H'

abbrev sDu : Stmt := top 46
abbrev nDu : List Str := ["_law_rows", "_law_call_here", "_law_one"]
theorem scDu : FnScope nDu ["_law_rows", "_law_call_here"] (defScope sDu) := ⟨rfl, rfl, rfl, by decide +kernel, rfl, by decide +kernel, by decide +kernel⟩

theorem ok_Du (F : Fun K "_law_due" "_law_due" sDu f fd) (T : TxtL mg) (NM : Cg P w K mg base 1 "_law_is_named" (spNamed K)) (WH : Cg P w K mg base 1 "_law_is_whole" (spTurn K)) : FnG P w K mg base CX0 3 f fd ["_law_rows", "_law_call_here"] (spDue K) := by
  refine FunG.ok F scDu (fun vs H Q E h => ?_) (fun cdv B out s H vs Q E hr hG h => ?_)
  · obtain ⟨l, xs, x, d, S, rfl, _⟩ := h
    rfl
  · obtain ⟨l, xs, x, d, S, rfl, hl, hc, hd, hS, q⟩ := h
    refine ⟨_, (pss_cons (ps_if (pt_not (pt_val (pe_g NM hr hG (by decide) (by rfl) (pa_cons (pe_ix ix_tup (pv 1) pe_int fun _ _ => rfl) pa_nil)))) (pss_one (ps_ret (pe_lst (pa_cons pe_str (pa_cons (pe_ix ix_tup (pv 1) pe_int fun _ _ => rfl) pa_nil))))) pss_nil)
      (pss_cons (ps_if (pt_cmpR op_eq (pe_ix ix_tup (pv 1) pe_int fun _ _ => rfl) pe_str (nomark _)) (pss_one (ps_ret (pe_lst (pa_cons pe_str (pa_cons (pe_tup (pa_cons (pe_ix ix_tup (pv 1) pe_int fun _ _ => rfl) (pa_cons (pe_tup pa_nil) pa_nil))) pa_nil))))) pss_nil)
      (pss_cons (ps_if (pt_cmpR op_eq (pe_ix ix_tup (pv 1) pe_int fun _ _ => rfl) pe_str (nomark _)) (pss_one (ps_ret (pe_ifExp (pt_val (pe_g WH hr hG (by decide) (by rfl) (pa_cons (pe_ix ix_tup (pv 1) pe_int fun _ _ => rfl) pa_nil))) (pe_lst (pa_cons pe_str (pa_cons (pe_tup (pa_cons (pe_ix ix_tup (pv 1) pe_int fun _ _ => rfl) (pa_cons (pe_ix ix_tup (pv 1) pe_int fun _ _ => rfl) pa_nil))) pa_nil))) (pe_lst (pa_cons pe_str (pa_cons (pe_ix ix_tup (pv 1) pe_int fun _ _ => rfl) pa_nil)))))) pss_nil)
      (pss_cons (ps_if (PW.pt (pw_or (pt_not (pt_val (pe_callB call_isdT (by rfl) T.isinstance (by decide +kernel) (pa_cons (pe_ix ix_tup (pv 1) pe_int fun _ _ => rfl) (pa_cons (pe_tup (pa_cons (pe_bltn (by rfl) T.list (by decide +kernel) (show RelV (.ty "list") _ from rfl)) (pa_cons (pe_bltn (by rfl) T.tuple (by decide +kernel) (show RelV (.ty "tuple") _ from rfl)) pa_nil))) pa_nil))))) (pw_or1 (pt_not (pt_chain op_lt op_lt pe_int (pe_callB call_len (by rfl) T.len PySem.boot_len (pa_cons (pe_ix ix_tup (pv 1) pe_int fun _ _ => rfl) pa_nil)) pe_int))))) (pss_one (ps_ret (pe_lst (pa_cons pe_str (pa_cons (pe_ix ix_tup (pv 1) pe_int fun _ _ => rfl) pa_nil))))) pss_nil)
      (pss_cons (ps_for PassesOwn.never rfl (pi_seq (pe_ix ix_tup (pv 1) pe_int fun _ _ => rfl)) (pg_name (i := 2) scDu.nd rfl (Or.inl rfl)) (pss_one (ps_if (PW.pt (pw_or (pt_not (pt_val (pe_g WH hr hG (by decide) (by rfl) (pa_cons (pv 2) pa_nil)))) (pw_or1 (pt_cmpR op_ge (pv 2) (pe_callB call_len (by rfl) T.len PySem.boot_len (pa_cons (pv 0) pa_nil)) (nomark _))))) (pss_one (ps_ret (pe_lst (pa_cons pe_str (pa_cons (pv 2) pa_nil))))) pss_nil)))
      (pss_one (ps_ret (pe_lst (pa_cons pe_str (pa_cons (pe_tup (pa_cons (pe_ix ix_tup (pv 1) pe_int fun _ _ => rfl) (pa_cons (pe_callTy call_tuple_of (by rfl) T.tuple (by decide +kernel) (pa_cons (pe_ix ix_tup (pv 1) pe_int fun _ _ => rfl) pa_nil)) pa_nil))) pa_nil)))))))))), ?_⟩
    have prs : Paired ClsV [V.ty "list", V.ty "tuple"] [.type "list", .type "tuple"] := .cons (.ty _) (.cons (.ty _) .nil)
    have hd0 : Dd K H x d := hd.mono ms_same
    obtain ⟨wd, an, r, rfl, ha, hr⟩ : ∃ (wd : Str) (an : PyData) (r : List PyData), d = .tuple (.str wd :: an :: r) ∧ NameD an ∧ (wd = "constant" ∧ r = [] ∨ (wd = "sample" ∧ ∃ b, r = [b] ∧ TurnD b) ∨ wd = "apply" ∧ ∃ b, r = [b] ∧ ListD xs.length b) := by
      rcases hc with ⟨a, h, rfl⟩ | ⟨a, b, h, h1, rfl⟩ | ⟨a, b, h, h1, _, rfl⟩
      · exact ⟨_, _, _, rfl, h, .inl ⟨rfl, rfl⟩⟩
      · exact ⟨_, _, _, rfl, h, .inr (.inl ⟨rfl, _, rfl, h1⟩)⟩
      · exact ⟨_, _, _, rfl, h, .inr (.inr ⟨rfl, _, rfl, h1⟩)⟩
    obtain ⟨t, ys, rfl, hTm, hallm⟩ := dd_tup hd
    have hT : SqT K H t ys := upT ms_same hTm
    obtain ⟨v0, ys, rfl, h0m, hrm⟩ := dd_cons hallm
    obtain ⟨va, vr, rfl, h1m, hr2⟩ := dd_cons hrm
    clear hrm
    have e0 := dd_str h0m
    subst e0
    have h1 := h1m.mono (ms_same (S := S) (G := H))
    refine ⟨_, rfl, ixT hT (atI_nat (j := 1) rfl) ?_⟩
    dsimp only [tNil]
    refine named_d h1 ha.ok.1 ha.ok.2 fun G1 s1 => ⟨_, rfl, ?_⟩
    have hT1 : SqT K G1 t (V.str wd :: va :: vr) := upT s1 hT
    cases hn : nameD an with
    | false =>
      refine iteT ⟨_, rfl, ⟨t, _, _, _, rfl, rfl, hT1, atI_nat (j := 1) rfl, (by show 2 ≤ sizeLine; decide), fun a ea => ?_⟩⟩
      exact q (.inr ("name", an)) a _ (.name hn) (Same.tr s1 (Same.put ea)) ((hS.up s1).out ea) ⟨va, upd_same, h1m.mono (ms_up (Same.tr s1 (Same.put ea)))⟩
    | true =>
      obtain ⟨z, rfl⟩ : ∃ z, an = .str z := by cases an <;> first | exact ⟨_, rfl⟩ | cases hn
      have hz : nameB (TL.tl z) = true := hn
      have e1 := dd_str h1m
      subst e1
      refine iteF ?_
      dsimp only [tNext]
      refine ⟨_, rfl, t, _, _, _, rfl, rfl, hT1, atI_nat (j := 0) rfl, rfl, _, rfl, ?_⟩
      rcases hr with ⟨rfl, rfl⟩ | ⟨rfl, b, rfl, hb⟩ | ⟨rfl, b, rfl, hb⟩
      · refine if_true_of (by decide +kernel) ?_
        refine ⟨_, rfl, ⟨t, _, _, _, rfl, rfl, hT1, atI_nat (j := 1) rfl, (by show 0 ≤ sizeLine; decide), fun t0 e0 => ⟨(by show 2 ≤ sizeLine; decide), fun rr er => ⟨(by show 2 ≤ sizeLine; decide), fun a ea => ?_⟩⟩⟩⟩
        have s2 := Same.put (o := .tup []) e0
        have s3 := Same.put (o := .tup [V.str z, V.ref t0]) er
        have s4 := Same.put (o := .lst [V.str "row", V.ref rr]) ea
        have s := Same.tr s1 (Same.tr s2 (Same.tr s3 s4))
        refine q (.inl (z, .inr [])) a _ (.const hz) s ((hS.up (Same.tr s1 (Same.tr s2 s3))).out ea) ⟨rr, upd_same, (name_ok hz).1, .inr ⟨[], t0, rfl, upT s4 (SqT.of upd_same), upT (Same.tr s3 s4) (SqT.of upd_same)⟩⟩
      · refine if_false_of (by decide +kernel) ?_
        dsimp only [tNext]
        refine ⟨_, rfl, ⟨t, _, _, _, rfl, rfl, hT1, atI_nat (j := 0) rfl, rfl, _, rfl, ?_⟩⟩
        refine if_true_of (by decide +kernel) ?_
        obtain ⟨vb, _, rfl, h2m, hnil⟩ := dd_cons hr2
        have e2 := dd_nil hnil
        subst e2
        have h2 := h2m.mono (ms_same (S := S) (G := H))
        refine ⟨_, rfl, ixT hT1 (atI_nat (j := 2) rfl) ?_⟩
        dsimp only [tNil]
        refine turn_d (h2.mono s1) hb.ok.1 (fun hno => ?_) (fun i hi h0 => ?_)
        · refine ⟨_, rfl, iteF ⟨_, rfl, ⟨t, _, _, _, rfl, rfl, hT1, atI_nat (j := 2) rfl, (by show 2 ≤ sizeLine; decide), fun a ea => ?_⟩⟩⟩
          exact q (.inr ("turn", b)) a _ (.turn hz hno) (Same.tr s1 (Same.put ea)) ((hS.up s1).out ea) ⟨vb, upd_same, h2m.mono (ms_up (Same.tr s1 (Same.put ea)))⟩
        · subst hi
          have e3 : vb = .int i := by cases h2m; rfl
          subst e3
          refine ⟨_, rfl, iteT ⟨_, rfl, t, _, _, _, rfl, rfl, hT1, atI_nat (j := 1) rfl, _, rfl, t, _, _, _, rfl, rfl, hT1, atI_nat (j := 2) rfl, (by show 2 ≤ sizeLine; decide), fun rr er => ⟨(by show 2 ≤ sizeLine; decide), fun a ea => ?_⟩⟩⟩
          have s3 := Same.put (o := .tup [V.str z, V.int i]) er
          have s4 := Same.put (o := .lst [V.str "row", V.ref rr]) ea
          exact q (.inl (z, .inl i)) a _ (.samp hz h0 (hb.ok.2.2 i rfl)) (Same.tr s1 (Same.tr s3 s4)) ((hS.up (Same.tr s1 s3)).out ea) ⟨rr, upd_same, (name_ok hz).1, .inl ⟨i, rfl, upT s4 (SqT.of upd_same)⟩⟩
      · refine if_false_of (by decide +kernel) ?_
        dsimp only [tNext]
        refine ⟨_, rfl, ⟨t, _, _, _, rfl, rfl, hT1, atI_nat (j := 0) rfl, rfl, _, rfl, ?_⟩⟩
        refine if_false_of (by decide +kernel) ?_
        dsimp only [tNext]
        obtain ⟨vb, _, rfl, h2m, hnil⟩ := dd_cons hr2
        have e2 := dd_nil hnil
        subst e2
        have h2 := h2m.mono (ms_same (S := S) (G := H))
        have hbs := hb.ok.1
        have prt : (∀ ds, seqD b = some ds → ¬ (1 ≤ ds.length ∧ ds.length ≤ 3)) → ∀ G a, Same H G → G a = none → Q (.ref a) (upd G a (.lst [V.str "part", vb])) := fun hno G a s ea => q (.inr ("part", b)) a _ (.part hz hno) (Same.tr s (Same.put ea)) ((hS.up s).out ea) ⟨vb, upd_same, h2m.mono (ms_up (Same.tr s (Same.put ea)))⟩
        refine ⟨_, rfl, ixT hT1 (atI_nat (j := 2) rfl) ?_⟩
        dsimp only [tTup, tCons, tNil, tC]
        refine ⟨(by show 2 ≤ sizeLine; decide), fun t2 e2 => ⟨_, t2, _, _, _, rfl, upd_same, prs, (vk_dd (h2.mono s1) hbs).kd.lt.mono (Same.put e2), _, rfl, ?_⟩⟩
        rw [ans_lt, kind_seq]
        have s4 : Same G1 (upd G1 t2 (.tup [V.ty "list", .ty "tuple"])) := Same.put e2
        generalize upd G1 t2 (.tup [V.ty "list", .ty "tuple"]) = G4 at s4 ⊢
        have s14 := Same.tr s1 s4
        have hT4 := upT s4 hT1
        cases hq : seqD b with
        | none =>
          refine iteT (iteT ⟨_, rfl, ⟨t, _, _, _, rfl, rfl, hT4, atI_nat (j := 2) rfl, (by show 2 ≤ sizeLine; decide), fun a ea => prt (fun ds e => by rw [hq] at e; cases e) _ a s14 ea⟩⟩)
        | some ds =>
          obtain ⟨c, zs, rfl, hCm, hallb⟩ := dd_seq h2m hq
          have hC : SqA K H c zs := hCm.up ms_same
          have hcl := hallb.len
          have hC4 := hC.up s14
          refine iteF ⟨_, rfl, t, _, _, _, rfl, rfl, hT4, atI_nat (j := 2) rfl, _, _, rfl, lenA hC4, _, _, rfl, rfl, _, rfl, ?_⟩
          by_cases h1 : 1 ≤ ds.length
          · rw [decide_eq_true (show (0 : Int) < ((zs.length : Nat) : Int) by omega)]
            refine iteT ⟨_, _, rfl, rfl, _, rfl, ?_⟩
            by_cases h3 : ds.length ≤ 3
            · rw [decide_eq_true (show ((zs.length : Nat) : Int) < (4 : Int) by omega)]
              refine iteF ?_
              dsimp only [tNext]
              refine ⟨_, rfl, t, _, _, _, rfl, rfl, hT4, atI_nat (j := 2) rfl, c, rfl, seq_it hC4 fun J wk => ?_⟩
              refine for_it wk (fun j σ M => Same G4 M ∧ (∀ m u, m < j → ds[m]? = some u → idxD xs.length u = true) ∧ ∃ o, σ = [some (.ref l), some (.ref t), o]) ⟨Same.refl _, (fun j u h => absurd h (Nat.not_lt_zero _)), none, rfl⟩ (fun _ _ _ _ h => h.1) ?_ ?_
              · rintro j v σ M M' hj ⟨sM, hok, o, rfl⟩ ⟨rfl, hx⟩
                obtain ⟨dm, hdm, hxm⟩ := hallb.get hx
                have s1M := Same.tr s14 sM
                have hxM : Dd K M' v dm := (hxm.mono ms_same).mono s1M
                have trm : idxD xs.length dm = false → ∀ a, M' a = none → Q (.ref a) (upd M' a (.lst [V.str "term", v])) := fun hno a ea => q (.inr ("term", dm)) a _ (.term hz hq h1 h3 hdm hno hok) (Same.tr s1M (Same.put ea)) ((hS.up s1M).out ea) ⟨v, upd_same, hxm.mono (ms_up (Same.tr s1M (Same.put ea)))⟩
                refine ⟨_, rfl, ?_⟩
                dsimp only [tNil]
                refine turn_d hxM (shortAll_get (short_seq hbs hq) hdm) (fun hno => ⟨_, rfl, iteT (iteT ⟨_, rfl, (by show 2 ≤ sizeLine; decide), fun a ea => trm ?_ a ea⟩)⟩) (fun i hi h0 => ?_)
                · cases dm <;> first | rfl | exact decide_eq_false fun z => hno _ rfl z.1
                · subst hi
                  have e3 : v = .int i := by cases hxm; rfl
                  subst e3
                  have hlM := s1M _ _ hl
                  refine ⟨_, rfl, iteF ⟨_, rfl, _, rfl, _, _, rfl, .inl ⟨_, SqL.of hlM, rfl⟩, _, _, rfl, rfl, _, rfl, ?_⟩⟩
                  by_cases h5 : ((xs.length : Nat) : Int) ≤ i
                  · rw [decide_eq_true h5]
                    exact iteT ⟨_, rfl, (by show 2 ≤ sizeLine; decide), fun a ea => trm (decide_eq_false fun z => by omega) a ea⟩
                  · rw [decide_eq_false h5]
                    refine iteF ⟨sM, fun m u hm hu => ?_, some (.int i), rfl⟩
                    rcases Nat.lt_or_ge m j with h | h
                    · exact hok m u h hu
                    · have e : m = j := by omega
                      subst e
                      rw [hdm] at hu
                      cases hu
                      exact decide_eq_true ⟨h0, by omega⟩
              · rintro σ M ⟨sM, hok, o, rfl⟩
                have s1M := Same.tr s14 sM
                have hTM := upT sM hT4
                have hCM := hC4.up sM
                have hall2 : ds.all (idxD xs.length) = true := List.all_eq_true.mpr fun u hu => by
                  obtain ⟨m, hm, e⟩ := List.getElem_of_mem hu
                  exact hok m u (by omega) (by rw [List.getElem?_eq_getElem hm, e])
                obtain ⟨ez, hns⟩ := ints_dd hallb hall2
                have hds : ds = (ds.map Tp.intD).map PyData.int := int_forth hall2
                have fin : ∀ G tt, Same M G → SqT K G tt zs → ∀ rr, G rr = none → ∀ a, upd G rr (.tup [V.str z, V.ref tt]) a = none → Q (.ref a) (upd (upd G rr (.tup [V.str z, V.ref tt])) a (.lst [V.str "row", V.ref rr])) := fun G tt sG hTt rr er a ea => by
                  have s3 := Same.put (o := .tup [V.str z, V.ref tt]) er
                  have s4 := Same.put (o := .lst [V.str "row", V.ref rr]) ea
                  refine q (.inl (z, .inr (ds.map Tp.intD))) a _ (.row hz (by rw [hq, ← hds]) (by rw [List.length_map]; exact h1) (by rw [List.length_map]; exact h3) hns) (Same.tr s1M (Same.tr sG (Same.tr s3 s4))) ((hS.up (Same.tr s1M (Same.tr sG s3))).out ea) ⟨rr, upd_same, (name_ok hz).1, .inr ⟨ds.map Tp.intD, tt, rfl, upT s4 (SqT.of upd_same), ?_⟩⟩
                  rw [← ez]
                  exact upT (Same.tr s3 s4) hTt
                refine ⟨_, rfl, t, _, _, _, rfl, rfl, hTM, atI_nat (j := 1) rfl, _, rfl, t, _, _, _, rfl, rfl, hTM, atI_nat (j := 2) rfl, c, zs, rfl, ?_⟩
                rcases hCM with hCM | hCM
                · exact .inl ⟨hCM, fun tt et => ⟨(by show 2 ≤ sizeLine; decide), fun rr er => ⟨(by show 2 ≤ sizeLine; decide), fun a ea => fin _ tt (Same.put et) (SqT.of upd_same) rr er a ea⟩⟩⟩
                · exact .inr ⟨hCM, (by show 2 ≤ sizeLine; decide), fun rr er => ⟨(by show 2 ≤ sizeLine; decide), fun a ea => fin _ c (Same.refl _) hCM rr er a ea⟩⟩
            · rw [decide_eq_false (show ¬ ((zs.length : Nat) : Int) < (4 : Int) by omega)]
              refine iteT ⟨_, rfl, t, _, _, _, rfl, rfl, hT4, atI_nat (j := 2) rfl, (by show 2 ≤ sizeLine; decide), fun a ea => prt (fun es e => by rw [hq] at e; cases e; exact fun z => h3 z.2) _ a s14 ea⟩
          · rw [decide_eq_false (show ¬ (0 : Int) < ((zs.length : Nat) : Int) by omega)]
            refine iteF ⟨_, rfl, iteT ⟨_, rfl, t, _, _, _, rfl, rfl, hT4, atI_nat (j := 2) rfl, (by show 2 ≤ sizeLine; decide), fun a ea => prt (fun es e => by rw [hq] at e; cases e; exact fun z => h1 z.1) _ a s14 ea⟩⟩

end
end T04
set_option Elab.async false
set_option linter.all false
set_option maxRecDepth 100000
set_option maxHeartbeats 4000000
/-! a field of a caught exception, in a suite of a try with several clauses -/
namespace Tp
open PySem PySem.Spec PyProof.Rows L2
section
variable {X : Cx} {pos : Pos}
def tXh2 (K : PySem.W.Frag) (a : Addr) (cls : Value) (d : Option Addr) (f : Str) (te : TE) : TE := fun σ H Q => te σ H fun x H1 => x = .ref a ∧ ∃ (C dd : Addr) (fs : List (Str × V)) (v : V), cls = .ref C ∧ ExK K C ∧ PySem.W.findIn K (.ref C) f = some none ∧ d = some dd ∧ H1 dd = some (exd dd fs) ∧ fs.lookup f = some v ∧ Q v H1
theorem pe_xh2 {a : Addr} {oe : Obj} {cls : Value} {d : Option Addr} {pn : List (Addr × Obj)} {e : Expr} {te : TE} {f : Str}
    (hz : Zc cls d oe) (hf : ∃ vs, oe.data = .fields vs) (he : PE (X.suite a ((a, oe) :: pn)) e te) (hb : attributeBase e f X.env (eval e X.env) = eval e X.env := by rfl) :
    PE (X.suite a ((a, oe) :: pn)) (.Attribute e f pos) (tXh2 X.K a cls d f te) := by
  refine ⟨fun pins s σ H Q I h => attr_of hb (thn (he.run pins s σ H _ I h) fun u s1 hh => ?_)⟩
  obtain ⟨x, H1, I1, rx, rfl, C, dd, fs, v, ec, T, hno, ed, ea, l, q⟩ := hh
  cases (show u = Value.ref a from rx)
  obtain ⟨ha, _⟩ := I1.pin (a, oe) (List.mem_append_left _ List.mem_cons_self)
  obtain ⟨ws, hd⟩ := hf
  obtain ⟨mA, hns, rel⟩ := exd_at I1.hok ea
  obtain ⟨od, ho, hl⟩ := lookIn_ns hns
  obtain ⟨w', hw, rw'⟩ := RelO.some_of (v := v) (o := mA f) (by rw [← l]; exact rel f)
  have J : PySem.W.InstAt s1.heap a oe C (some od) := ⟨ha, hz.1.trans ec, by unfold PySem.W.notCls; rw [hd] <;> rfl, by rw [hz.2, ed]; exact ho⟩
  exact HandSPX.exc_get I1.kIn J T.ga T.gg T.exC (PySem.W.findObj_own T.hdC hno rfl (by rw [hl, hw])) (handed_of rw') ⟨v, H1, I1.tok _, rw', q⟩
def rIsH (K : PySem.W.Frag) (a : Addr) (cls : Value) (d : Option Addr) : List V → Hp → VK → Prop := fun xs H Q => ∃ (C dd : Addr) (fs : List (Str × V)) (c : V) (cv : Value) (b : Bool), xs = [.ref a, c] ∧ cls = .ref C ∧ ExK K C ∧ d = some dd ∧ H dd = some (exd dd fs) ∧ ClsV c cv ∧ PySem.W.kitOne K (.ref C) cv = some b ∧ Q (.bl b) H
theorem call_isH {a : Addr} {oe : Obj} {cls : Value} {d : Option Addr} {pn : List (Addr × Obj)} (hz : Zc cls d oe) (hf : ∃ vs, oe.data = .fields vs) : CallR (X.suite a ((a, oe) :: pn)) (.builtin "isinstance") (rIsH X.K a cls d) := by
  intro pins s σ H xs us Q I r h
  obtain ⟨C, dd, fs, c, cv, b, rfl, ec, T, ed, ea, k, e, q⟩ := h
  obtain ⟨u1, u2, rfl, r1, r2⟩ := vals2 r
  cases (show u1 = Value.ref a from r1)
  have e2 := k.eq r2
  subst e2
  obtain ⟨ha, _⟩ := I.pin (a, oe) (List.mem_append_left _ List.mem_cons_self)
  obtain ⟨ws, hd⟩ := hf
  obtain ⟨mA, hns, rel⟩ := exd_at I.hok ea
  obtain ⟨od, ho, hl⟩ := lookIn_ns hns
  have J : PySem.W.InstAt s.heap a oe C (some od) := ⟨ha, hz.1.trans ec, by unfold PySem.W.notCls; rw [hd] <;> rfl, by rw [hz.2, ed]; exact ho⟩
  exact PySem.W.kia_one (ex_kit T) I.kIn J e (fun z => nomatch z) fun tk => ⟨.bl b, H, I.tok tk, rfl, q⟩
def rIsHT (K : PySem.W.Frag) (a : Addr) (cls : Value) (d : Option Addr) : List V → Hp → VK → Prop := fun xs H Q => ∃ (C dd : Addr) (fs : List (Str × V)) (tp : Addr) (cs : List V) (us : List Value) (b : Bool), xs = [.ref a, .ref tp] ∧ cls = .ref C ∧ ExK K C ∧ d = some dd ∧ H dd = some (exd dd fs) ∧ H tp = some (.tup cs) ∧ Paired ClsV cs us ∧ PySem.W.kitAny K (.ref C) us = some b ∧ Q (.bl b) H
theorem call_isHT {a : Addr} {oe : Obj} {cls : Value} {d : Option Addr} {pn : List (Addr × Obj)} (hz : Zc cls d oe) (hf : ∃ vs, oe.data = .fields vs) : CallR (X.suite a ((a, oe) :: pn)) (.builtin "isinstance") (rIsHT X.K a cls d) := by
  intro pins s σ H xs us Q I r h
  obtain ⟨C, dd, fs, tp, cs, ws, b, rfl, ec, T, ed, ea, hT, k, e, q⟩ := h
  obtain ⟨u1, u2, rfl, r1, r2⟩ := vals2 r
  cases (show u1 = Value.ref a from r1)
  cases (show u2 = Value.ref tp from r2)
  obtain ⟨ha, _⟩ := I.pin (a, oe) (List.mem_append_left _ List.mem_cons_self)
  obtain ⟨ws', hd⟩ := hf
  obtain ⟨mA, hns, rel⟩ := exd_at I.hok ea
  obtain ⟨od, ho, hl⟩ := lookIn_ns hns
  have J : PySem.W.InstAt s.heap a oe C (some od) := ⟨ha, hz.1.trans ec, by unfold PySem.W.notCls; rw [hd] <;> rfl, by rw [hz.2, ed]; exact ho⟩
  obtain ⟨_, its, rv, o, h1, h2, n, h3⟩ := (show ObjOk X.prog X.w H s.heap tp (.tup cs) from I.hok tp _ hT)
  have e3 := ClsV.all k rv
  subst e3
  obtain ⟨oc, od', dt, sl⟩ := o
  simp only at h2 h3
  subst h2 h3
  exact PySem.W.kia_tup (ex_kit T) I.kIn J h1 e (fun z => nomatch z) fun tk => ⟨.bl b, H, I.tok tk, rfl, q⟩
end
end Tp
set_option Elab.async false
set_option linter.all false
set_option maxRecDepth 100000
set_option maxHeartbeats 4000000
namespace T04
open PySem PySem.Spec PyProof.Rows L2 Tp
section
variable {P : Program} {w : World} {K : PySem.W.Frag} {mg : Str → Option Value} {base : Heap} {f : Addr} {fd : FuncData}

/-- the exceptions of calls and of books -/
structure TxtE (K : PySem.W.Frag) (CN CT CP CU CR : Addr) : Prop where
  xN : ExK K CN
  xT : ExK K CT
  xP : ExK K CP
  xU : ExK K CU
  xR : ExK K CR
  nn : PySem.W.exmOne K (.ref CN) (.ref CN) = some true
  tn : PySem.W.exmOne K (.ref CT) (.ref CN) = some false
  tt : PySem.W.exmOne K (.ref CT) (.ref CT) = some true
  pn : PySem.W.exmOne K (.ref CP) (.ref CN) = some false
  pt : PySem.W.exmOne K (.ref CP) (.ref CT) = some false
  pp : PySem.W.exmOne K (.ref CP) (.ref CP) = some true
  un : PySem.W.exmOne K (.ref CU) (.ref CN) = some false
  ut : PySem.W.exmOne K (.ref CU) (.ref CT) = some false
  up : PySem.W.exmOne K (.ref CU) (.ref CP) = some false
  uu : PySem.W.exmOne K (.ref CU) (.ref CU) = some true
  np : PySem.W.exmOne K (.ref CN) (.ref CP) = some false
  rp : PySem.W.exmOne K (.ref CR) (.ref CP) = some false
  rn : PySem.W.exmOne K (.ref CR) (.ref CN) = some false
  rr : PySem.W.exmOne K (.ref CR) (.ref CR) = some true
  fN : PySem.W.findIn K (.ref CN) "value" = some none
  fT : PySem.W.findIn K (.ref CT) "value" = some none
  fP : PySem.W.findIn K (.ref CP) "value" = some none
  fU : PySem.W.findIn K (.ref CU) "number" = some none
  fR : PySem.W.findIn K (.ref CR) "value" = some none
/-- the answer of _law_told -/
def spTold (P : Program) (w : World) (K : PySem.W.Frag) (C : Addr) : Sp := fun vs H Q _ => ∃ (p : Addr) (fp : List Addr) (rs : List RowK) (x : V) (d : PyData) (R : Sum RowK (Str × PyData)) (S : Addr → Prop), vs = [.ref p, x] ∧ BookAt P w K H C p fp rs ∧ rs.length < 5000 ∧ CallD rs.length d ∧ DueIs rs.length d R ∧ Dd K (ms S H) x d ∧ Sub S H ∧ (∀ b ∈ fp, S b) ∧
  match R with
  | .inl k => ∀ a H', Frame fp H H' → BookAt P w K H' C p fp (addR rs k) → H' a = some (.lst [.str "row", .int (posR rs k : Nat)]) → Q (.ref a) H'
  | .inr (wd, e) => ∀ a H' v, Same H H' → ¬ S a → H' a = some (.lst [.str wd, v]) → Dd K (ms S H') v e → Q (.ref a) H'

theorem map_int_inj : ∀ {ns ms : List Int}, ns.map V.int = ms.map V.int → ns = ms
  | [], [], _ => rfl
  | [], _ :: _, h => by cases h
  | _ :: _, [], h => by cases h
  | n :: ns, m :: ms, h => by
    rw [List.map_cons, List.map_cons, List.cons.injEq] at h
    rw [map_int_inj h.2]
    cases h.1
    rfl
theorem dd_intsV {H : Hp} : ∀ {ns : List Int} {vs : List V}, DdAll K H vs (ns.map PyData.int) → vs = ns.map V.int
  | [], _, h => by cases h; rfl
  | n :: ns, _, h => by
    cases h with
    | cons h1 h2 =>
      cases h1
      rw [dd_intsV h2]
      rfl
theorem call_parts {H : Hp} {S : Addr → Prop} {x : V} {w : Str} {a : PyData} {r : List PyData} (hd : Dd K (ms S H) x (.tuple (.str w :: a :: r))) : ∃ t va vr, x = .ref t ∧ SqT K H t (.str w :: va :: vr) ∧ Dd K (ms S H) va a ∧ DdAll K (ms S H) vr r := by
  obtain ⟨t, ys, rfl, hTm, hallm⟩ := dd_tup hd
  obtain ⟨v0, ys, rfl, h0m, hrm⟩ := dd_cons hallm
  obtain ⟨va, vr, rfl, h1m, hr2⟩ := dd_cons hrm
  have e0 := dd_str h0m
  subst e0
  exact ⟨t, va, vr, rfl, upT ms_same hTm, h1m, hr2⟩
theorem call_shape {m : Nat} {d : PyData} (hc : CallD m d) : ∃ (wd : Str) (an : PyData) (r : List PyData), d = .tuple (.str wd :: an :: r) ∧ NameD an ∧ (wd = "constant" ∧ r = [] ∨ (wd = "sample" ∧ ∃ b, r = [b] ∧ TurnD b) ∨ wd = "apply" ∧ ∃ b, r = [b] ∧ ListD m b) := by
  rcases hc with ⟨a, h, rfl⟩ | ⟨a, b, h, h1, rfl⟩ | ⟨a, b, h, h1, _, rfl⟩
  · exact ⟨_, _, _, rfl, h, .inl ⟨rfl, rfl⟩⟩
  · exact ⟨_, _, _, rfl, h, .inr (.inl ⟨rfl, _, rfl, h1⟩)⟩
  · exact ⟨_, _, _, rfl, h, .inr (.inr ⟨rfl, _, rfl, h1⟩)⟩
theorem nameV_d {H : Hp} {v : V} {d : PyData} (h : Dd K H v d) : nameV v = nameD d := by
  cases h <;> rfl

abbrev sTo : Stmt := top 47
abbrev nTo : List Str := ["_law_book", "_law_call_here", "e"]
theorem scTo : FnScope nTo ["_law_book", "_law_call_here"] (defScope sTo) := ⟨rfl, rfl, rfl, by decide +kernel, rfl, by decide +kernel, by decide +kernel⟩

theorem ok_To {C CN CT CP CU CR : Addr} (F : Fun K "_law_told" "_law_told" sTo f fd) (T : TxtL mg) (TE : TxtE K CN CT CP CU CR) (mN : mg "InvalidName" = some (.ref CN)) (mT : mg "InvalidTurn" = some (.ref CT)) (mP : mg "InvalidPart" = some (.ref CP)) (mU : mg "UnknownTerm" = some (.ref CU))
    (CC : Ctr P w K mg base 4 C "constant" [] (spConst P w K C CN)) (CS : Ctr P w K mg base 4 C "sample" [] (spSample P w K C CN CT)) (CA : Ctr P w K mg base 5 C "apply" [] (spApply P w K C CN CP CU)) : FnG P w K mg base CX0 6 f fd ["_law_book", "_law_call_here"] (spTold P w K C) := by
  refine FunG.ok F scTo (fun vs H Q E h => ?_) (fun cdv B out s H vs Q E hr hG h => ?_)
  · obtain ⟨p, fp, rs, x, d, R, S, rfl, _⟩ := h
    rfl
  · obtain ⟨p, fp, rs, x, d, R, S, rfl, hB, hlt, hc, hdue, hd, hS, hfp, q⟩ := h
    refine ⟨_, pss_one (ps_try_cla rfl rfl scTo.nd takes0 (fun W pn xe tk _ => pss_cons (ps_if (pt_cmpR op_eq (pe_ix (ix_tupK (K := K) rfl) (pv 1) pe_int fun _ _ => rfl) pe_str (nomark _)) (pss_one (ps_ret (pe_lst (pa_cons pe_str (pa_cons (pe_ctr (pv 0) CC hr hG (by decide) tk (pa_cons (pe_ix (ix_tupK (K := K) rfl) (pv 1) pe_int fun _ _ => rfl) pa_nil)) pa_nil))))) pss_nil) (pss_cons (ps_if (pt_cmpR op_eq (pe_ix (ix_tupK (K := K) rfl) (pv 1) pe_int fun _ _ => rfl) pe_str (nomark _)) (pss_one (ps_ret (pe_lst (pa_cons pe_str (pa_cons (pe_ctr (pv 0) CS hr hG (by decide) tk (pa_cons (pe_ix (ix_tupK (K := K) rfl) (pv 1) pe_int fun _ _ => rfl) (pa_cons (pe_ix (ix_tupK (K := K) rfl) (pv 1) pe_int fun _ _ => rfl) pa_nil))) pa_nil))))) pss_nil) (pss_one (ps_ret (pe_lst (pa_cons pe_str (pa_cons (pe_ctr (pv 0) CA hr hG (by decide) tk (pa_cons (pe_ix (ix_tupK (K := K) rfl) (pv 1) pe_int fun _ _ => rfl) (pa_cons (pe_ix (ix_tupK (K := K) rfl) (pv 1) pe_int fun _ _ => rfl) pa_nil))) pa_nil)))))))
      (ClaOk.named (i := 2) ⟨by rfl, by decide, .inl mN⟩ rfl rfl (fun a oe cls d pn hz hf => pss_one (ps_ret (pe_lst (pa_cons pe_str (pa_cons (pe_xh2 hz hf (pv 2)) pa_nil))))) (ClaOk.named (i := 2) ⟨by rfl, by decide, .inl mT⟩ rfl rfl (fun a oe cls d pn hz hf => pss_one (ps_ret (pe_lst (pa_cons pe_str (pa_cons (pe_xh2 hz hf (pv 2)) pa_nil))))) (ClaOk.named (i := 2) ⟨by rfl, by decide, .inl mP⟩ rfl rfl (fun a oe cls d pn hz hf => pss_one (ps_ret (pe_lst (pa_cons pe_str (pa_cons (pe_xh2 hz hf (pv 2)) pa_nil))))) (ClaOk.named (i := 2) ⟨by rfl, by decide, .inl mU⟩ rfl rfl (fun a oe cls d pn hz hf => pss_one (ps_ret (pe_lst (pa_cons pe_str (pa_cons (pe_xh2 hz hf (pv 2)) pa_nil))))) .nil))))), ?_⟩
    obtain ⟨wd, an, r, ed, ha, hr⟩ := call_shape hc
    obtain ⟨dx, gs, g0, a6⟩ := hB.there
    cases hdue with
    | @name w0 a0 r0 h =>
      cases ed
      obtain ⟨t, va, vr, rfl, hT, h1m, hr2⟩ := call_parts hd
      have hv : nameV va = false := (nameV_d h1m).trans h
      rcases hr with ⟨rfl, rfl⟩ | ⟨rfl, b, rfl, hb⟩ | ⟨rfl, b, rfl, hb⟩
      · have e2 := dd_nil hr2
        subst e2
        refine ⟨_, rfl, t, _, _, _, rfl, rfl, hT, atI_nat (j := 0) rfl, rfl, _, rfl, if_true_of (by decide +kernel) ?_⟩
        refine ⟨_, rfl, p, dx, gs, rfl, g0, a6 _ (by decide),  _, rfl, t, _, _, _, rfl, rfl, hT, atI_nat (j := 1) rfl, p, fp, rs, va, _, rfl, hB, hlt, vk_dd (h1m.mono ms_same) ha.ok.1, fun _ => (fun H1 dd fs s he hf => ⟨true, TE.nn, fun _ a ha => ⟨_, rfl, rfl, CN, dd, fs, va, rfl, TE.xN, TE.fN, rfl, he, hf, (by show 2 ≤ sizeLine; decide), fun l hl => q l _ _ (Same.tr s (Same.put hl)) ((hS.up s).out hl) upd_same (h1m.mono (ms_up (Same.tr s (Same.put hl))))⟩, (fun z => nomatch z)⟩), fun z e hz => by subst e; cases hv.symm.trans hz⟩
      · obtain ⟨vb, _, rfl, h2m, hnil⟩ := dd_cons hr2
        have e2 := dd_nil hnil
        subst e2
        refine ⟨_, rfl, t, _, _, _, rfl, rfl, hT, atI_nat (j := 0) rfl, rfl, _, rfl, if_false_of (by decide +kernel) ?_⟩
        dsimp only [tNext]
        refine ⟨_, rfl, t, _, _, _, rfl, rfl, hT, atI_nat (j := 0) rfl, rfl, _, rfl, if_true_of (by decide +kernel) ?_⟩
        refine ⟨_, rfl, p, dx, gs, rfl, g0, a6 _ (by decide),  _, rfl, t, _, _, _, rfl, rfl, hT, atI_nat (j := 1) rfl,  _, rfl, t, _, _, _, rfl, rfl, hT, atI_nat (j := 2) rfl, p, fp, rs, va, vb, _, _, rfl, hB, hlt, vk_dd (h1m.mono ms_same) ha.ok.1, vk_dd (h2m.mono ms_same) hb.ok.1, fun _ => (fun H1 dd fs s he hf => ⟨true, TE.nn, fun _ a ha => ⟨_, rfl, rfl, CN, dd, fs, va, rfl, TE.xN, TE.fN, rfl, he, hf, (by show 2 ≤ sizeLine; decide), fun l hl => q l _ _ (Same.tr s (Same.put hl)) ((hS.up s).out hl) upd_same (h1m.mono (ms_up (Same.tr s (Same.put hl))))⟩, (fun z => nomatch z)⟩), fun z e hz => by subst e; cases hv.symm.trans hz⟩
      · obtain ⟨vb, _, rfl, h2m, hnil⟩ := dd_cons hr2
        have e2 := dd_nil hnil
        subst e2
        refine ⟨_, rfl, t, _, _, _, rfl, rfl, hT, atI_nat (j := 0) rfl, rfl, _, rfl, if_false_of (by decide +kernel) ?_⟩
        dsimp only [tNext]
        refine ⟨_, rfl, t, _, _, _, rfl, rfl, hT, atI_nat (j := 0) rfl, rfl, _, rfl, if_false_of (by decide +kernel) ?_⟩
        dsimp only [tNext]
        refine ⟨_, rfl, p, dx, gs, rfl, g0, a6 _ (by decide),  _, rfl, t, _, _, _, rfl, rfl, hT, atI_nat (j := 1) rfl,  _, rfl, t, _, _, _, rfl, rfl, hT, atI_nat (j := 2) rfl, p, fp, rs, va, vb, _, _, rfl, hB, hlt, vk_dd (h1m.mono ms_same) ha.ok.1, vk_dd (h2m.mono ms_same) hb.ok.1, fun _ => (fun H1 dd fs s he hf => ⟨true, TE.nn, fun _ a ha => ⟨_, rfl, rfl, CN, dd, fs, va, rfl, TE.xN, TE.fN, rfl, he, hf, (by show 2 ≤ sizeLine; decide), fun l hl => q l _ _ (Same.tr s (Same.put hl)) ((hS.up s).out hl) upd_same (h1m.mono (ms_up (Same.tr s (Same.put hl))))⟩, (fun z => nomatch z)⟩), fun z e hz => by subst e; cases hv.symm.trans hz⟩
    | @const z h =>
      cases ed
      obtain ⟨t, va, vr, rfl, hT, h1m, hr2⟩ := call_parts hd
      have e1 := dd_str h1m
      subst e1
      rcases hr with ⟨he, _⟩ | ⟨he, b2, eb, hb⟩ | ⟨he, b2, eb, hb⟩
      · have e2 := dd_nil hr2
        subst e2
        refine ⟨_, rfl, t, _, _, _, rfl, rfl, hT, atI_nat (j := 0) rfl, rfl, _, rfl, if_true_of (by decide +kernel) ?_⟩
        refine ⟨_, rfl, p, dx, gs, rfl, g0, a6 _ (by decide),  _, rfl, t, _, _, _, rfl, rfl, hT, atI_nat (j := 1) rfl, p, fp, rs, _, _, rfl, hB, hlt, vk_dd (h1m.mono ms_same) ha.ok.1, (fun e => by cases (show nameV (.str z) = true from h).symm.trans e), fun z2 e hz => ?_⟩
        cases e
        exact fun H1 f b => ⟨(by show 2 ≤ sizeLine; decide), fun l hl => q l _ (f.tr (Frame.of (Same.put hl))) (b.up (Same.put hl)) upd_same⟩
      · exact absurd he (by decide +kernel)
      · exact absurd he (by decide +kernel)
    | @samp z i h h0 h1 =>
      cases ed
      obtain ⟨t, va, vr, rfl, hT, h1m, hr2⟩ := call_parts hd
      have e1 := dd_str h1m
      subst e1
      rcases hr with ⟨he, _⟩ | ⟨he, b2, eb, hb⟩ | ⟨he, b2, eb, hb⟩
      · exact absurd he (by decide +kernel)
      · cases eb
        obtain ⟨vb, _, rfl, h2m, hnil⟩ := dd_cons hr2
        have e2 := dd_nil hnil
        subst e2
        refine ⟨_, rfl, t, _, _, _, rfl, rfl, hT, atI_nat (j := 0) rfl, rfl, _, rfl, if_false_of (by decide +kernel) ?_⟩
        dsimp only [tNext]
        refine ⟨_, rfl, t, _, _, _, rfl, rfl, hT, atI_nat (j := 0) rfl, rfl, _, rfl, if_true_of (by decide +kernel) ?_⟩
        refine ⟨_, rfl, p, dx, gs, rfl, g0, a6 _ (by decide),  _, rfl, t, _, _, _, rfl, rfl, hT, atI_nat (j := 1) rfl,  _, rfl, t, _, _, _, rfl, rfl, hT, atI_nat (j := 2) rfl, p, fp, rs, _, vb, _, _, rfl, hB, hlt, vk_dd (h1m.mono ms_same) ha.ok.1, vk_dd (h2m.mono ms_same) hb.ok.1, (fun e => by cases (show nameV (.str z) = true from h).symm.trans e), fun z2 e hz => ?_⟩
        cases e
        have e3 : vb = .int i := by cases h2m; rfl
        subst e3
        exact ⟨fun hno => absurd h0 (hno i rfl), fun j e _ => by cases e; exact ⟨h1, fun H1 f b => ⟨(by show 2 ≤ sizeLine; decide), fun l hl => q l _ (f.tr (Frame.of (Same.put hl))) (b.up (Same.put hl)) upd_same⟩⟩⟩
      · exact absurd he (by decide +kernel)
    | @turn z b h h0 =>
      cases ed
      obtain ⟨t, va, vr, rfl, hT, h1m, hr2⟩ := call_parts hd
      have e1 := dd_str h1m
      subst e1
      rcases hr with ⟨he, _⟩ | ⟨he, b2, eb, hb⟩ | ⟨he, b2, eb, hb⟩
      · exact absurd he (by decide +kernel)
      · cases eb
        obtain ⟨vb, _, rfl, h2m, hnil⟩ := dd_cons hr2
        have e2 := dd_nil hnil
        subst e2
        refine ⟨_, rfl, t, _, _, _, rfl, rfl, hT, atI_nat (j := 0) rfl, rfl, _, rfl, if_false_of (by decide +kernel) ?_⟩
        dsimp only [tNext]
        refine ⟨_, rfl, t, _, _, _, rfl, rfl, hT, atI_nat (j := 0) rfl, rfl, _, rfl, if_true_of (by decide +kernel) ?_⟩
        refine ⟨_, rfl, p, dx, gs, rfl, g0, a6 _ (by decide),  _, rfl, t, _, _, _, rfl, rfl, hT, atI_nat (j := 1) rfl,  _, rfl, t, _, _, _, rfl, rfl, hT, atI_nat (j := 2) rfl, p, fp, rs, _, vb, _, _, rfl, hB, hlt, vk_dd (h1m.mono ms_same) ha.ok.1, vk_dd (h2m.mono ms_same) hb.ok.1, (fun e => by cases (show nameV (.str z) = true from h).symm.trans e), fun z2 e hz => ?_⟩
        cases e
        exact ⟨fun _ => (fun H1 dd fs s he hf => ⟨false, TE.tn, (fun z => nomatch z), fun _ => ⟨true, TE.tt, fun _ a ha => ⟨_, rfl, rfl, CT, dd, fs, vb, rfl, TE.xT, TE.fT, rfl, he, hf, (by show 2 ≤ sizeLine; decide), fun l hl => q l _ _ (Same.tr s (Same.put hl)) ((hS.up s).out hl) upd_same (h2m.mono (ms_up (Same.tr s (Same.put hl))))⟩, (fun z => nomatch z)⟩⟩), fun j e hj => by subst e; cases h2m; exact absurd hj (h0 j rfl)⟩
      · exact absurd he (by decide +kernel)
    | @part z b h h0 =>
      cases ed
      obtain ⟨t, va, vr, rfl, hT, h1m, hr2⟩ := call_parts hd
      have e1 := dd_str h1m
      subst e1
      rcases hr with ⟨he, _⟩ | ⟨he, b2, eb, hb⟩ | ⟨he, b2, eb, hb⟩
      · exact absurd he (by decide +kernel)
      · exact absurd he (by decide +kernel)
      · cases eb
        obtain ⟨vb, _, rfl, h2m, hnil⟩ := dd_cons hr2
        have e2 := dd_nil hnil
        subst e2
        have h2 := h2m.mono (ms_same (S := S) (G := H))
        refine ⟨_, rfl, t, _, _, _, rfl, rfl, hT, atI_nat (j := 0) rfl, rfl, _, rfl, if_false_of (by decide +kernel) ?_⟩
        dsimp only [tNext]
        refine ⟨_, rfl, t, _, _, _, rfl, rfl, hT, atI_nat (j := 0) rfl, rfl, _, rfl, if_false_of (by decide +kernel) ?_⟩
        dsimp only [tNext]
        refine ⟨_, rfl, p, dx, gs, rfl, g0, a6 _ (by decide),  _, rfl, t, _, _, _, rfl, rfl, hT, atI_nat (j := 1) rfl,  _, rfl, t, _, _, _, rfl, rfl, hT, atI_nat (j := 2) rfl, p, fp, rs, _, vb, _, _, rfl, hB, hlt, vk_dd (h1m.mono ms_same) ha.ok.1, vk_dd (h2m.mono ms_same) hb.ok.1, (fun e => by cases (show nameV (.str z) = true from h).symm.trans e), fun z2 e hz => ?_⟩
        cases e
        refine ⟨fun _ => (fun H1 dd fs s he hf => ⟨false, TE.pn, (fun z => nomatch z), fun _ => ⟨false, TE.pt, (fun z => nomatch z), fun _ => ⟨true, TE.pp, fun _ a ha => ⟨_, rfl, rfl, CP, dd, fs, vb, rfl, TE.xP, TE.fP, rfl, he, hf, (by show 2 ≤ sizeLine; decide), fun l hl => q l _ _ (Same.tr s (Same.put hl)) ((hS.up s).out hl) upd_same (h2m.mono (ms_up (Same.tr s (Same.put hl))))⟩, (fun z => nomatch z)⟩⟩⟩), fun hk => ?_⟩
        rw [kind_seq] at hk
        cases hq : seqD b with
        | none => rw [hq] at hk; cases hk
        | some ds =>
          obtain ⟨c, zs, rfl, hC, hall⟩ := dd_seq h2 hq
          have hl := hall.len
          exact ⟨c, zs, rfl, hC, fun _ => (fun H1 dd fs s he hf => ⟨false, TE.pn, (fun z => nomatch z), fun _ => ⟨false, TE.pt, (fun z => nomatch z), fun _ => ⟨true, TE.pp, fun _ a ha => ⟨_, rfl, rfl, CP, dd, fs, _, rfl, TE.xP, TE.fP, rfl, he, hf, (by show 2 ≤ sizeLine; decide), fun l hl => q l _ _ (Same.tr s (Same.put hl)) ((hS.up s).out hl) upd_same (h2m.mono (ms_up (Same.tr s (Same.put hl))))⟩, (fun z => nomatch z)⟩⟩⟩), fun z => absurd ⟨by omega, by omega⟩ (h0 ds hq)⟩
    | @term z b e ds j h h0 h1 h3 hj he0 hi =>
      cases ed
      obtain ⟨t, va, vr, rfl, hT, h1m, hr2⟩ := call_parts hd
      have e1 := dd_str h1m
      subst e1
      rcases hr with ⟨he, _⟩ | ⟨he, b2, eb, hb⟩ | ⟨he, b2, eb, hb⟩
      · exact absurd he (by decide +kernel)
      · exact absurd he (by decide +kernel)
      · cases eb
        obtain ⟨vb, _, rfl, h2m, hnil⟩ := dd_cons hr2
        have e2 := dd_nil hnil
        subst e2
        have h2 := h2m.mono (ms_same (S := S) (G := H))
        refine ⟨_, rfl, t, _, _, _, rfl, rfl, hT, atI_nat (j := 0) rfl, rfl, _, rfl, if_false_of (by decide +kernel) ?_⟩
        dsimp only [tNext]
        refine ⟨_, rfl, t, _, _, _, rfl, rfl, hT, atI_nat (j := 0) rfl, rfl, _, rfl, if_false_of (by decide +kernel) ?_⟩
        dsimp only [tNext]
        refine ⟨_, rfl, p, dx, gs, rfl, g0, a6 _ (by decide),  _, rfl, t, _, _, _, rfl, rfl, hT, atI_nat (j := 1) rfl,  _, rfl, t, _, _, _, rfl, rfl, hT, atI_nat (j := 2) rfl, p, fp, rs, _, vb, _, _, rfl, hB, hlt, vk_dd (h1m.mono ms_same) ha.ok.1, vk_dd (h2m.mono ms_same) hb.ok.1, (fun e => by cases (show nameV (.str z) = true from h).symm.trans e), fun z2 e hz => ?_⟩
        cases e
        obtain ⟨c, zs, rfl, hCm, hallm⟩ := dd_seq h2m h0
        have hC := hCm.up (ms_same (S := S) (G := H))
        have hall := hallm.mono (ms_same (S := S) (G := H))
        have hl := hall.len
        refine ⟨fun hk => ?_, fun hk => ⟨c, zs, rfl, hC, fun hno => absurd ⟨by omega, by omega⟩ hno, fun _ => ⟨vks_dd hall (short_seq hb.ok.1 h0), fun i v hv hn hlow => ?_, fun ns ens hns => ?_⟩⟩⟩
        · rw [kind_seq, h0] at hk
          cases hk
        · obtain ⟨d2, hd2, h3m⟩ := hallm.get hv
          have en : idxD rs.length d2 = false := (num_dd rs.length h3m).symm.trans hn
          obtain ⟨u, hu, huD⟩ := hallm.at hj
          have ei : i = j := by
            rcases Nat.lt_trichotomy i j with hlt | hlt | hlt
            · rw [hi i d2 hlt hd2] at en
              cases en
            · exact hlt
            · have := hlow j u hlt hu
              rw [num_dd rs.length huD, he0] at this
              cases this
          subst ei
          rw [hj] at hd2
          cases hd2
          exact (fun H1 dd fs s he hf => ⟨false, TE.un, (fun z => nomatch z), fun _ => ⟨false, TE.ut, (fun z => nomatch z), fun _ => ⟨false, TE.up, (fun z => nomatch z), fun _ => ⟨true, TE.uu, fun _ a ha => ⟨_, rfl, rfl, CU, dd, fs, v, rfl, TE.xU, TE.fU, rfl, he, hf, (by show 2 ≤ sizeLine; decide), fun l hl => q l _ _ (Same.tr s (Same.put hl)) ((hS.up s).out hl) upd_same (h3m.mono (ms_up (Same.tr s (Same.put hl))))⟩, (fun z => nomatch z)⟩⟩⟩⟩)
        · obtain ⟨u, hu, huD⟩ := hallm.at hj
          rw [ens, List.getElem?_map] at hu
          obtain ⟨m, hm, em⟩ := Option.map_eq_some_iff.mp hu
          subst em
          have h4 := hns m (List.mem_of_getElem? hm)
          have := num_dd rs.length huD
          rw [he0] at this
          exact absurd (show decide (0 ≤ m ∧ m < (rs.length : Int)) = true from decide_eq_true h4) (by rw [show decide (0 ≤ m ∧ m < (rs.length : Int)) = false from this]; decide)
    | @row z b ns h h0 h1 h3 hi =>
      cases ed
      obtain ⟨t, va, vr, rfl, hT, h1m, hr2⟩ := call_parts hd
      have e1 := dd_str h1m
      subst e1
      rcases hr with ⟨he, _⟩ | ⟨he, b2, eb, hb⟩ | ⟨he, b2, eb, hb⟩
      · exact absurd he (by decide +kernel)
      · exact absurd he (by decide +kernel)
      · cases eb
        obtain ⟨vb, _, rfl, h2m, hnil⟩ := dd_cons hr2
        have e2 := dd_nil hnil
        subst e2
        have h2 := h2m.mono (ms_same (S := S) (G := H))
        refine ⟨_, rfl, t, _, _, _, rfl, rfl, hT, atI_nat (j := 0) rfl, rfl, _, rfl, if_false_of (by decide +kernel) ?_⟩
        dsimp only [tNext]
        refine ⟨_, rfl, t, _, _, _, rfl, rfl, hT, atI_nat (j := 0) rfl, rfl, _, rfl, if_false_of (by decide +kernel) ?_⟩
        dsimp only [tNext]
        refine ⟨_, rfl, p, dx, gs, rfl, g0, a6 _ (by decide),  _, rfl, t, _, _, _, rfl, rfl, hT, atI_nat (j := 1) rfl,  _, rfl, t, _, _, _, rfl, rfl, hT, atI_nat (j := 2) rfl, p, fp, rs, _, vb, _, _, rfl, hB, hlt, vk_dd (h1m.mono ms_same) ha.ok.1, vk_dd (h2m.mono ms_same) hb.ok.1, (fun e => by cases (show nameV (.str z) = true from h).symm.trans e), fun z2 e hz => ?_⟩
        cases e
        obtain ⟨c, zs, rfl, hC, hall⟩ := dd_seq h2 h0
        have hl := hall.len
        rw [List.length_map] at hl
        have ez : zs = ns.map V.int := dd_intsV hall
        subst ez
        refine ⟨fun hk => ?_, fun hk => ⟨c, _, rfl, hC, fun hno => absurd ⟨by omega, by omega⟩ hno, fun _ => ⟨vks_dd hall (short_seq hb.ok.1 h0), fun i v hv hn hlow => ?_, fun ms ens hns => ?_⟩⟩⟩
        · rw [kind_seq, h0] at hk
          cases hk
        · rw [List.getElem?_map] at hv
          obtain ⟨m, hm, em⟩ := Option.map_eq_some_iff.mp hv
          subst em
          have h4 := hi m (List.mem_of_getElem? hm)
          exact absurd (show decide (0 ≤ m ∧ m < (rs.length : Int)) = true from decide_eq_true h4) (by rw [show decide (0 ≤ m ∧ m < (rs.length : Int)) = false from hn]; decide)
        · have e5 : ns = ms := map_int_inj ens
          subst e5
          exact fun H1 f b => ⟨(by show 2 ≤ sizeLine; decide), fun l hl => q l _ (f.tr (Frame.of (Same.put hl))) (b.up (Same.put hl)) upd_same⟩

end
end T04
set_option Elab.async false
set_option linter.all false
set_option maxRecDepth 100000
set_option maxHeartbeats 4000000
namespace T04
open PySem PySem.Spec PyProof.Rows L2 Tp
section
variable {P : Program} {w : World} {K : PySem.W.Frag} {mg : Str → Option Value} {base : Heap} {f : Addr} {fd : FuncData}

/-- where the way of a list ends -/
theorem build_end : ∀ (ds : List PyData) (r0 : List RowK) (i : Nat) (b : Bool), buildR r0 ds = .inl (i, b) → ∃ d qs, ds[i]? = some d ∧ buildR r0 (ds.take i) = .inr qs ∧ (b = true → takeD qs d = .name) ∧ (b = false → takeD qs d = .row)
  | [], r0, i, b, h => by simp [buildR] at h
  | d :: ds, r0, i, b, h => by
    simp only [buildR] at h
    cases ht : takeD r0 d with
    | row =>
      rw [ht] at h
      cases h
      exact ⟨d, r0, rfl, rfl, (fun z => nomatch z), fun _ => ht⟩
    | name =>
      rw [ht] at h
      cases h
      exact ⟨d, r0, rfl, rfl, (fun _ => ht), fun z => nomatch z⟩
    | ok k =>
      rw [ht] at h
      dsimp only at h
      cases hb : buildR (r0 ++ [k]) ds with
      | inr qs => rw [hb] at h; cases h
      | inl q =>
        obtain ⟨j, b2⟩ := q
        rw [hb] at h
        cases h
        obtain ⟨d2, qs, h1, h2, h3⟩ := build_end ds (r0 ++ [k]) j _ hb
        refine ⟨d2, qs, h1, ?_, h3⟩
        rw [List.take_succ_cons]
        simp only [buildR]
        rw [ht]
        dsimp only
        rw [h2]
theorem take_name {rs : List RowK} {d : PyData} (h : takeD rs d = .name) : ∃ d0 d1, seqD d = some [d0, d1] := by
  cases hf : formB d with
  | false => rw [take_no hf] at h; cases h
  | true =>
    unfold formB at hf
    split at hf
    · rename_i d0 d1 e
      exact ⟨_, _, e⟩
    · cases hf
theorem rs_new {H : Hp} {p dr : Addr} {o o2 : HO} (h1 : H p = none) (h2 : H dr = none) : Same H (rs p p (upd (upd H dr o2) p o)) := fun b u e => by
  have n1 : b ≠ p := ne_of_none e h1
  have n2 : b ≠ dr := ne_of_none e h2
  exact rs_at n1 n1 ((upd_ne n1).trans ((upd_ne n2).trans e))
theorem same_new {H G : Hp} {p dr : Addr} {o o2 : HO} (h1 : H p = none) (h2 : H dr = none) (k : Keep p (upd (upd H dr o2) p o) G) : Same H G := fun b u e => by
  have n1 : b ≠ p := ne_of_none e h1
  have n2 : b ≠ dr := ne_of_none e h2
  exact k b u n1 ((upd_ne n1).trans ((upd_ne n2).trans e))
/-- the answer of _law_made -/
def spMade (P : Program) (w : World) (K : PySem.W.Frag) (C : Addr) : Sp := fun vs H Q _ => ∃ x : V, vs = [x] ∧
  ((∃ k, Vk K H x k ∧ (k == "list" || k == "tuple") = false ∧ ∀ a H', Same H H' → H' a = some (.lst [.str "part", x]) → Q (.ref a) H') ∨
   ∃ (b : Addr) (ys : List V) (ds : List PyData) (S : Addr → Prop), x = .ref b ∧ SqA K H b ys ∧ DdAll K (ms S H) ys ds ∧ shortAll ds = true ∧ ds.length < 5000 ∧ (∀ m qs, buildR [] (ds.take m) = .inr qs → ∀ k ∈ qs, ∀ n, k.2 = .inl n → n.natAbs.log2 < 1000) ∧
    (∀ i d a H' v, buildR [] ds = .inl (i, false) → ds[i]? = some d → Same H H' → H' a = some (.lst [.str "row", v]) → Dd K (ms S H') v d → Q (.ref a) H') ∧
    (∀ i d d0 d1 a H' v, buildR [] ds = .inl (i, true) → ds[i]? = some d → seqD d = some [d0, d1] → Same H H' → H' a = some (.lst [.str "name", v]) → Dd K (ms S H') v d0 → Q (.ref a) H') ∧
    ∀ qs q fq a H', buildR [] ds = .inr qs → Same H H' → H q = none → (∀ b ∈ fq, H b = none) → BookAt P w K H' C q fq qs → H' a = some (.lst [.str "book", .ref q]) → Q (.ref a) H')

abbrev sMd : Stmt := top 48
abbrev nMd : List Str := ["_law_rows", "e"]
theorem scMd : FnScope nMd ["_law_rows"] (defScope sMd) := ⟨rfl, rfl, rfl, by decide +kernel, rfl, by decide +kernel, by decide +kernel⟩

theorem ok_Md {C CN CT CP CU CR : Addr} (F : Fun K "_law_made" "_law_made" sMd f fd) (T : TxtL mg) (TE : TxtE K CN CT CP CU CR) (mN : mg "InvalidName" = some (.ref CN)) (mP : mg "InvalidPart" = some (.ref CP)) (mR : mg "InvalidRow" = some (.ref CR))
    (CM : Cmr P w K mg base 6 "Book" C [] (spInitB P w K C CP CR CN)) : FnG P w K mg base CX0 8 f fd ["_law_rows"] (spMade P w K C) := by
  refine FunG.ok F scMd (fun vs H Q E h => ?_) (fun cdv B out s H vs Q E hr hG h => ?_)
  · obtain ⟨x, rfl, _⟩ := h
    rfl
  · obtain ⟨x, rfl, hx⟩ := h
    refine ⟨_, pss_one (ps_try_cla rfl rfl scMd.nd takes0 (fun W pn xe tk _ => pss_one (ps_ret (pe_lst (pa_cons pe_str (pa_cons (pe_cmr CM hr hG (by decide) tk (by rfl) (pa_cons (pv 0) pa_nil)) pa_nil)))))
      (ClaOk.named (i := 1) ⟨by rfl, by decide, .inl mP⟩ rfl rfl (fun a oe cls d pn hz hf => pss_one (ps_ret (pe_lst (pa_cons pe_str (pa_cons (pe_xh2 hz hf (pv 1)) pa_nil))))) (ClaOk.named (i := 1) ⟨by rfl, by decide, .inl mN⟩ rfl rfl (fun a oe cls d pn hz hf => pss_one (ps_ret (pe_lst (pa_cons pe_str (pa_cons (pe_xh2 hz hf (pv 1)) pa_nil))))) (ClaOk.named (i := 1) ⟨by rfl, by decide, .inl mR⟩ rfl rfl (fun a oe cls d pn hz hf => pss_one (ps_ret (pe_lst (pa_cons pe_str (pa_cons (pe_xh2 hz hf (pv 1)) pa_nil))))) .nil)))), ?_⟩
    refine ⟨_, rfl, fun r dr hr1 hr2 hne => ?_⟩
    have dr1 : H dr = none := hr2
    have sn := fun G k => same_new (G := G) (o := .ins C dr []) (o2 := .own r) hr1 dr1 k
    have rn := rs_new (o := .ins C dr []) (o2 := .own r) hr1 dr1
    rcases hx with ⟨k, vk, hk, q⟩ | ⟨b, ys, ds, S, rfl, hb, hall, hsh, hl, hsm, q0, q1, q2⟩
    · exact ⟨r, dr, x, rfl, upd_same, .inl ⟨k, vk.mono rn, hk, (fun H1 dd fs kp he hf => ⟨true, TE.pp, fun _ a ha => ⟨_, rfl, rfl, CP, dd, fs, _, rfl, TE.xP, TE.fP, rfl, he, hf, (by show 2 ≤ sizeLine; decide), fun l hl => q l _ (Same.tr (sn _ kp) (Same.put hl)) upd_same⟩, (fun z => nomatch z)⟩)⟩⟩
    · have hall0 := hall.mono (ms_same (S := S) (G := H))
      refine ⟨r, dr, .ref b, rfl, upd_same, .inr ⟨b, ys, ds, rfl, hb.up rn, hall0.mono rn, hsh, hl, hsm, fun i hi => ?_, fun i hi => ?_, fun qs hq H' fq kp hfq hB => ?_⟩⟩
      · obtain ⟨d, qs, hd, _⟩ := build_end ds [] i false hi
        obtain ⟨y, hy, hyd⟩ := hall.at hd
        exact ⟨y, hy, (fun H1 dd fs kp he hf => ⟨false, TE.rp, (fun z => nomatch z), fun _ => ⟨false, TE.rn, (fun z => nomatch z), fun _ => ⟨true, TE.rr, fun _ a ha => ⟨_, rfl, rfl, CR, dd, fs, y, rfl, TE.xR, TE.fR, rfl, he, hf, (by show 2 ≤ sizeLine; decide), fun l hl => q0 i d l _ y hi hd (Same.tr (sn _ kp) (Same.put hl)) upd_same (hyd.mono (ms_up (Same.tr (sn _ kp) (Same.put hl))))⟩, (fun z => nomatch z)⟩⟩⟩)⟩
      · obtain ⟨d, qs, hd, _, ht, _⟩ := build_end ds [] i true hi
        obtain ⟨d0, d1, e⟩ := take_name (ht rfl)
        obtain ⟨y, hy, hyd⟩ := hall.at hd
        obtain ⟨a, vs, rfl, hA, hvs⟩ := dd_seq hyd e
        obtain ⟨v0, vs, rfl, h0, hvs⟩ := dd_cons hvs
        obtain ⟨v1, vs, rfl, h1, hvs⟩ := dd_cons hvs
        have e3 := dd_nil hvs
        subst e3
        exact ⟨a, v0, v1, hy, hA.up (Same.tr ms_same rn), (fun H1 dd fs kp he hf => ⟨false, TE.np, (fun z => nomatch z), fun _ => ⟨true, TE.nn, fun _ a ha => ⟨_, rfl, rfl, CN, dd, fs, v0, rfl, TE.xN, TE.fN, rfl, he, hf, (by show 2 ≤ sizeLine; decide), fun l hl => q1 i d d0 d1 l _ v0 hi hd e (Same.tr (sn _ kp) (Same.put hl)) upd_same (h0.mono (ms_up (Same.tr (sn _ kp) (Same.put hl))))⟩, (fun z => nomatch z)⟩⟩)⟩
      · refine ⟨rfl, (by show 2 ≤ sizeLine; decide), fun a ea => ?_⟩
        have s1 : Same H H' := sn H' kp
        have hout : ∀ b ∈ fq, H b = none := fun b hbq => by
          cases e : H b with
          | none => rfl
          | some o =>
            have n1 : b ≠ r := ne_of_none e hr1
            have n2 : b ≠ dr := ne_of_none e dr1
            have := hfq b hbq
            rw [upd_ne n1, upd_ne n2, e] at this
            cases this
        exact q2 qs r fq a _ hq (Same.tr s1 (Same.put ea)) hr1 hout (hB.up (Same.put ea)) upd_same

end
end T04
set_option Elab.async false
set_option linter.all false
set_option maxRecDepth 100000
set_option maxHeartbeats 4000000
namespace T04
open PySem PySem.Spec PyProof.Rows L2 Tp
section
variable {P : Program} {w : World} {K : PySem.W.Frag} {mg : Str → Option Value} {base : Heap} {f : Addr} {fd : FuncData}

theorem hu65 {k : Nat} {A : Around} (hr : Room k A) : A.units + 65 < cLine := by
  have := hr.un
  omega
def flatD : PyData → Bool
  | .list _ => false
  | .tuple _ => false
  | .dict _ => false
  | .str z => PyData.strOk z
  | .none => true
  | .bool _ => true
  | .int _ => true
/-- what an item of the list may be, that a book is made of in the law -/
structure ItemD (d : PyData) : Prop where
  sh : shortD d = true
  sm : smD d = true
  fl : ∀ d0 d1 es, seqD d = some [d0, d1] → seqD d1 = some es → ∀ e ∈ es, flatD e = true
theorem flat_no {e : PyData} (h : flatD e = true) : e.hasDict = false ∧ e.canLay0 = true ∧ e.depth = 0 := by
  cases e with
  | list _ => cases h
  | tuple _ => cases h
  | dict _ => cases h
  | str z => exact ⟨rfl, (by simp only [PyData.canLay0]; exact h), rfl⟩
  | _ => exact ⟨rfl, rfl, rfl⟩
theorem flat_all : ∀ {es : List PyData}, (∀ e ∈ es, flatD e = true) → PyData.hasDictAll es = false ∧ PyData.canLayAll0 es = true ∧ PyData.depthAll es ≤ 1
  | [], _ => ⟨rfl, rfl, by simp [PyData.depthAll]⟩
  | e :: es, h => by
    obtain ⟨h1, h2, h3⟩ := flat_no (h e List.mem_cons_self)
    obtain ⟨h4, h5, h6⟩ := flat_all fun x hx => h x (List.mem_cons_of_mem _ hx)
    refine ⟨by simp only [PyData.hasDictAll, h1, h4, Bool.or_self], by simp only [PyData.canLayAll0, h2, h5, Bool.and_self], ?_⟩
    simp only [PyData.depthAll, h3]
    omega
theorem flat_shaped {es : List PyData} (h : ∀ e ∈ es, flatD e = true) : SeqAt.shaped (.list es) = true := by
  obtain ⟨_, h5, h6⟩ := flat_all h
  unfold SeqAt.shaped
  rw [Bool.and_eq_true]
  exact ⟨by simp only [PyData.canLay0]; exact h5, decide_eq_true (by simp only [PyData.depth]; omega)⟩
theorem flat_any {H N : Hp} {v : V} {e : PyData} (h : Dd K H v e) (hf : flatD e = true) : Dd K N v e := by
  cases h with
  | non => exact .non
  | bl b => exact .bl b
  | int i => exact .int i
  | str z => exact .str z
  | lst _ _ => cases hf
  | tup _ _ => cases hf
  | dct _ _ _ => cases hf
theorem row_shaped {k : RowK} (h : PyData.strOk k.1 = true) : SeqAt.shaped (rowD k) = true := by
  unfold SeqAt.shaped
  rw [Bool.and_eq_true]
  refine ⟨?_, decide_eq_true (Nat.le_trans (rowD_depth k) (by decide))⟩
  have := rows_lay (rs := [k]) fun j hj => by rw [List.mem_singleton.mp hj]; exact h
  simp only [List.map_cons, List.map_nil, PyData.canLayAll0, Bool.and_true] at this
  exact this
theorem rows_any (qs : List RowK) (k : RowK) : (qs.map rowD).any (fun z => PyData.eqv z (rowD k)) = hasR qs k := by
  unfold hasR
  rw [List.any_map]
  congr 1
  funext q
  exact eqv_row q k
theorem eqv_nil (es : List PyData) : PyData.eqv (.list es) (.list []) = es.isEmpty := by
  cases es <;> simp [PyData.eqv, PyData.eqvAll]
/-- the answer of _law_made_due -/
def spMadeD (K : PySem.W.Frag) : Sp := fun vs H Q _ => ∃ (l : Addr) (ys : List V) (ds : List PyData) (S : Addr → Prop), vs = [.ref l] ∧ SqL K H l ys ∧ DdAll K (ms S H) ys ds ∧ Sub S H ∧ (∀ d ∈ ds, ItemD d) ∧ ds.length < 5000 ∧
  (∀ i d a H' v, buildR [] ds = .inl (i, false) → ds[i]? = some d → Same H H' → H' a = some (.lst [.str "row", v]) → Dd K (ms S H') v d → Q (.ref a) H') ∧
  (∀ i d d0 d1 a H' v, buildR [] ds = .inl (i, true) → ds[i]? = some d → seqD d = some [d0, d1] → Same H H' → H' a = some (.lst [.str "name", v]) → Dd K (ms S H') v d0 → Q (.ref a) H') ∧
  ∀ (qs : List RowK) (as : List Addr) (l2 a : Addr) (H' : Hp), buildR [] ds = .inr qs → Same H H' → as.length = qs.length → (∀ (i : Nat) (k : RowK) (b : Addr), qs[i]? = some k → as[i]? = some b → RowAt K H' k b) → H l2 = none → H' l2 = some (.lst (as.map V.ref)) → H' a = some (.lst [.str "book", .ref l2]) → Q (.ref a) H'

abbrev sMu : Stmt := top 49
abbrev nMu : List Str := ["_law_rows", "_law_kept", "_law_item", "_law_name", "_law_rest", "_law_one"]
theorem scMu : FnScope nMu ["_law_rows"] (defScope sMu) := ⟨rfl, rfl, rfl, by decide +kernel, rfl, by decide +kernel, by decide +kernel⟩

theorem ok_Mu (F : Fun K "_law_made_due" "_law_made_due" sMu f fd) (T : TxtL mg) (NM : Cg P w K mg base 1 "_law_is_named" (spNamed K)) (WH : Cg P w K mg base 1 "_law_is_whole" (spTurn K)) : FnG P w K mg base CX0 3 f fd ["_law_rows"] (spMadeD K) := by
  refine FunG.ok F scMu (fun vs H Q E h => ?_) (fun cdv B out s H vs Q E hr hG h => ?_)
  · obtain ⟨l, ys, ds, S, rfl, _⟩ := h
    rfl
  · obtain ⟨l, ys, ds, S, rfl, hl, hall, hS, hit, hlen, q0, q1, q2⟩ := h
    refine ⟨_, (pss_cons (ps_if (pt_not (pt_val (pe_callB call_isdT (by rfl) T.isinstance (by decide +kernel) (pa_cons (pv 0) (pa_cons (pe_tup (pa_cons (pe_bltn (by rfl) T.list (by decide +kernel) (show RelV (.ty "list") _ from rfl)) (pa_cons (pe_bltn (by rfl) T.tuple (by decide +kernel) (show RelV (.ty "tuple") _ from rfl)) pa_nil))) pa_nil))))) (pss_one (ps_ret (pe_lst (pa_cons pe_str (pa_cons (pv 0) pa_nil))))) pss_nil)
      (pss_cons (ps_set (i := 1) scMu.nd rfl (.inr rfl) (pe_lst pa_nil))
      (pss_cons (ps_for PassesOwn.never rfl (pi_list (pv 0)) (pg_name (i := 2) scMu.nd rfl (Or.inl rfl)) (pss_cons (ps_if (PW.pt (pw_or (pt_not (pt_val (pe_callB call_isdT (by rfl) T.isinstance (by decide +kernel) (pa_cons (pv 2) (pa_cons (pe_tup (pa_cons (pe_bltn (by rfl) T.list (by decide +kernel) (show RelV (.ty "list") _ from rfl)) (pa_cons (pe_bltn (by rfl) T.tuple (by decide +kernel) (show RelV (.ty "tuple") _ from rfl)) pa_nil))) pa_nil))))) (pw_or1 (pt_cmpR op_ne (pe_callB call_len (by rfl) T.len PySem.boot_len (pa_cons (pv 2) pa_nil)) pe_int (nomark _))))) (pss_one (ps_ret (pe_lst (pa_cons pe_str (pa_cons (pv 2) pa_nil))))) pss_nil)
        (pss_cons (ps_asg (pv 2) (pg_or (pg_tup rfl (pgs_cons (pg_name (i := 3) scMu.nd rfl (Or.inl rfl)) (pgs_cons (pg_name (i := 4) scMu.nd rfl (Or.inl rfl)) pgs_nil))) (pg_lst rfl (pgs_cons (pg_name (i := 3) scMu.nd rfl (Or.inl rfl)) (pgs_cons (pg_name (i := 4) scMu.nd rfl (Or.inl rfl)) pgs_nil)))))
        (C8.pss_cut (ps_if (PW.pt (pw_and (pt_not (pt_val (pe_g WH hr hG (by decide) (by rfl) (pa_cons (pv 4) pa_nil)))) (pw_and1 (pt_not (PW.pt (pw_and (pt_val (pe_callB call_isdT (by rfl) T.isinstance (by decide +kernel) (pa_cons (pv 4) (pa_cons (pe_tup (pa_cons (pe_bltn (by rfl) T.list (by decide +kernel) (show RelV (.ty "list") _ from rfl)) (pa_cons (pe_bltn (by rfl) T.tuple (by decide +kernel) (show RelV (.ty "tuple") _ from rfl)) pa_nil))) pa_nil)))) (pw_and1 (pt_cmpR op_lt (pe_callB call_len (by rfl) T.len PySem.boot_len (pa_cons (pv 4) pa_nil)) pe_int (nomark _))))))))) (pss_one (ps_ret (pe_lst (pa_cons pe_str (pa_cons (pv 2) pa_nil))))) pss_nil)
        (pss_cons (ps_if (pt_not (pt_val (pe_g NM hr hG (by decide) (by rfl) (pa_cons (pv 3) pa_nil)))) (pss_one (ps_ret (pe_lst (pa_cons pe_str (pa_cons (pv 3) pa_nil))))) pss_nil)
        (C8.pss_cut (ps_if (pt_val (pe_callB call_isdT (by rfl) T.isinstance (by decide +kernel) (pa_cons (pv 4) (pa_cons (pe_tup (pa_cons (pe_bltn (by rfl) T.list (by decide +kernel) (show RelV (.ty "list") _ from rfl)) (pa_cons (pe_bltn (by rfl) T.tuple (by decide +kernel) (show RelV (.ty "tuple") _ from rfl)) pa_nil))) pa_nil)))) (pss_cons (ps_if (pt_cmpR (op_neD hr.units) (pe_lc (own := [("_law_one", 5)]) (g := gName 5) rfl scMu.nd (pi_seq (pv 4)) (blkOk_by (N := nMu) (sc := defScope sMu) (by decide +kernel)) (fun _ _ _ _ _ => pg_name (i := 5) scMu.nd rfl (Or.inl rfl)) (fun _ _ _ _ _ => (pts_one (PW.pt (pw_or (pt_not (pt_val (pe_g WH hr hG (by decide) (by rfl) (pa_cons (pv 5) pa_nil)))) (pw_or1 (pt_cmpR op_ge (pv 5) (pe_callB (call_lenK (K := K) rfl) (by rfl) T.len PySem.boot_len (pa_cons (pv 1) pa_nil)) (nomark _))))))) (fun _ _ _ _ _ => (pv 5))) (pe_lst pa_nil) (nomark _)) (pss_one (ps_ret (pe_lst (pa_cons pe_str (pa_cons (pv 2) pa_nil))))) pss_nil)
          (pss_one (ps_set (i := 4) scMu.nd rfl (.inl rfl) (pe_callTy call_tuple_of (by rfl) T.tuple (by decide +kernel) (pa_cons (pv 4) pa_nil))))) pss_nil)
        (pss_cons (ps_if (pt_cmpR (op_inD (hu65 hr)) (pe_tup (pa_cons (pv 3) (pa_cons (pv 4) pa_nil))) (pv 1) rfl) (pss_one (ps_ret (pe_lst (pa_cons pe_str (pa_cons (pv 2) pa_nil))))) pss_nil)
        (pss_one (ps_expr (pe_bm PySem.F.plainAttrs_list PySem.F.slot_list_append PySem.F.type_list_append mt_append (pv 1) (pa_cons (pe_tup (pa_cons (pv 3) (pa_cons (pv 4) pa_nil))) pa_nil)))))))))))
      (pss_one (ps_ret (pe_lst (pa_cons pe_str (pa_cons (pv 1) pa_nil)))))))), ?_⟩
    have prs : Paired ClsV [V.ty "list", V.ty "tuple"] [.type "list", .type "tuple"] := .cons (.ty _) (.cons (.ty _) .nil)
    have hall0 := hall.mono (ms_same (S := S) (G := H))
    have hyl := hall.len
    refine ⟨_, rfl, ?_⟩
    dsimp only [tTup, tCons, tNil, tC]
    refine ⟨(by show 2 ≤ sizeLine; decide), fun t0 e0 => ⟨_, t0, _, _, _, rfl, upd_same, prs, (vk_list hl).kd.lt.mono (Same.put e0), _, rfl, ?_⟩⟩
    refine iteF ?_
    have s0 : Same H (upd H t0 (.tup [V.ty "list", .ty "tuple"])) := Same.put e0
    generalize upd H t0 (.tup [V.ty "list", .ty "tuple"]) = G0 at s0 ⊢
    dsimp only [tNext]
    refine ⟨(by show 0 ≤ sizeLine; decide), fun kl ek => ?_⟩
    have hkl : H kl = none := by
      cases e : H kl with
      | none => rfl
      | some o => rw [s0 _ _ e] at ek; cases ek
    have s1 : Same G0 (upd G0 kl (.lst [])) := Same.put ek
    have hk1 : (upd G0 kl (.lst [])) kl = some (.lst []) := upd_same
    generalize upd G0 kl (.lst []) = G1 at s1 hk1 ⊢
    have s01 := Same.tr s0 s1
    refine ⟨_, rfl, l, rfl, ⟨_, upL s01 hl⟩, for_it (walk_list (xs := ys)) (fun i σ G => (∃ o2 o3 o4 o5, σ = [some (.ref l), some (.ref kl), o2, o3, o4, o5]) ∧ Same H G ∧ ∃ (qs : List RowK) (as : List Addr), buildR [] (ds.take i) = .inr qs ∧ qs.length ≤ i ∧ as.length = qs.length ∧ (∀ (i : Nat) (k : RowK) (b : Addr), qs[i]? = some k → as[i]? = some b → RowAt K G k b) ∧ G kl = some (.lst (as.map V.ref)))
      ⟨⟨none, none, none, none, rfl⟩, s01, [], [], rfl, Nat.le_refl _, rfl, (fun i k b h => by simp at h), hk1⟩ (fun i σ G _ h => upL h.2.1 hl) ?_ ?_⟩
    · rintro i y σ G G' hi ⟨⟨o2, o3, o4, o5, rfl⟩, sG, qs, as, hq, hql, hal, hrows, hGk⟩ ⟨rfl, hy⟩
      obtain ⟨d, hd, hyd⟩ := hall.get hy
      have hI := hit d (List.mem_of_getElem? hd)
      obtain ⟨w1, w2, w3⟩ := build_at hq hd
      have hyG := (hyd.mono ms_same).mono sG
      have rowx : takeD qs d = .row → ∀ M a, Same G' M → M a = none → Q (.ref a) (upd M a (.lst [.str "row", y])) := fun hrow M a sM ea =>
        q0 i d a _ y (w1 hrow) hd (Same.tr sG (Same.tr sM (Same.put ea))) upd_same (hyd.mono (ms_up (Same.tr sG (Same.tr sM (Same.put ea)))))
      refine ⟨_, rfl, ?_⟩
      dsimp only [tTup, tCons, tNil, tC]
      refine ⟨(by show 2 ≤ sizeLine; decide), fun t2 e2 => ⟨_, t2, _, _, _, rfl, upd_same, prs, (vk_dd hyG hI.sh).kd.lt.mono (Same.put e2), _, rfl, ?_⟩⟩
      rw [ans_lt, kind_seq]
      have s2 : Same G' (upd G' t2 (.tup [V.ty "list", .ty "tuple"])) := Same.put e2
      generalize upd G' t2 (.tup [V.ty "list", .ty "tuple"]) = G2 at s2 ⊢
      cases hseq : seqD d with
      | none =>
        refine iteT (iteT ⟨_, rfl, (by show 2 ≤ sizeLine; decide), fun a ea => rowx (take_no ?_) _ a s2 ea⟩)
        unfold formB
        rw [hseq]
      | some es =>
        have sHG2 := Same.tr sG s2
        obtain ⟨ia, vs, rfl, hAm, hvs⟩ := dd_seq hyd hseq
        have hA := (hAm.up ms_same).up sHG2
        have hvl := hvs.len
        refine iteF ⟨_, rfl, _, _, rfl, lenA hA, rfl, _, rfl, ?_⟩
        by_cases hl2 : es.length = 2
        · obtain ⟨d0, d1, rfl⟩ : ∃ d0 d1, es = [d0, d1] := by
            match es, hl2 with
            | [a, b], _ => exact ⟨a, b, rfl⟩
          obtain ⟨v0, vs, rfl, hd0m, hvs⟩ := dd_cons hvs
          obtain ⟨v1, vs, rfl, hd1m, hvs⟩ := dd_cons hvs
          have hd0 := (hd0m.mono ms_same).mono sHG2
          have hd1 := (hd1m.mono ms_same).mono sHG2
          have e3 := dd_nil hvs
          subst e3
          clear hvs
          have hsh := short_seq hI.sh hseq
          have hsm := smD_seq hI.sm hseq
          have sh0 : shortD d0 = true := shortAll_get (i := 0) hsh rfl
          have sh1 : shortD d1 = true := shortAll_get (i := 1) hsh rfl
          have sm0 : smD d0 = true := smAll_get (i := 0) hsm rfl
          refine if_false_of (by rfl) ?_
          dsimp only [tNext]
          refine ⟨_, rfl, ?_⟩
          refine pair_of hA rfl ⟨_, _, rfl, _, _, rfl, rfl, ?_⟩
          have hfb : formB d = secB d1 := by
            unfold formB
            rw [hseq]
          have noform : secB d1 = false → takeD qs d = .row := fun h => take_no (hfb.trans h)
          refine ⟨fun σ' M => σ' = [some (.ref l), some (.ref kl), some (.ref ia), some v0, some v1, o5] ∧ Same G2 M ∧ secB d1 = true, ?_, ?_⟩
          · refine ⟨_, rfl, ?_⟩
            dsimp only [tNil]
            refine turn_d hd1 sh1 (fun hno => ⟨_, rfl, ?_⟩) (fun n hn h0 => ⟨_, rfl, ?_⟩)
            · refine iteT ?_
              refine ⟨_, rfl, ?_⟩
              dsimp only [tTup, tCons, tNil, tC]
              refine ⟨(by show 2 ≤ sizeLine; decide), fun t3 e3 => ⟨_, t3, _, _, _, rfl, upd_same, prs, (vk_dd hd1 sh1).kd.lt.mono (Same.put e3), _, rfl, ?_⟩⟩
              rw [ans_lt, kind_seq]
              have s3 : Same G2 (upd G2 t3 (.tup [V.ty "list", .ty "tuple"])) := Same.put e3
              generalize upd G2 t3 (.tup [V.ty "list", .ty "tuple"]) = G3 at s3 ⊢
              cases hq1 : seqD d1 with
              | none =>
                refine iteF (iteT ⟨_, rfl, (by show 2 ≤ sizeLine; decide), fun a ea => rowx (noform ?_) _ a (Same.tr s2 s3) ea⟩)
                unfold secB
                rw [hq1]
                cases d1 <;> first | rfl | exact decide_eq_false (hno _ rfl)
              | some fs =>
                obtain ⟨c, zs, rfl, hC, hzs⟩ := dd_seq (hd1.mono s3) hq1
                have hzl := hzs.len
                refine iteT ⟨_, rfl, _, _, rfl, lenA hC, _, _, rfl, rfl, _, rfl, ?_⟩
                by_cases h3 : fs.length ≤ 3
                · rw [decide_eq_true (show ((zs.length : Nat) : Int) < (4 : Int) by omega)]
                  refine iteF ⟨rfl, s3, ?_⟩
                  unfold secB
                  rw [hq1]
                  exact decide_eq_true h3
                · rw [decide_eq_false (show ¬ ((zs.length : Nat) : Int) < (4 : Int) by omega)]
                  refine iteT ⟨_, rfl, (by show 2 ≤ sizeLine; decide), fun a ea => rowx (noform ?_) _ a (Same.tr s2 s3) ea⟩
                  unfold secB
                  rw [hq1]
                  exact decide_eq_false h3
            · subst hn
              exact iteF (iteF ⟨rfl, Same.refl _, decide_eq_true h0⟩)
          · rintro σ' M ⟨rfl, sM, hsec⟩
            have s2M := Same.tr s2 sM
            have hdM1 := hd1.mono sM
            refine ⟨_, rfl, ?_⟩
            dsimp only [tNil]
            refine named_d (hd0.mono sM) sh0 sm0 fun M1 sM1 => ⟨_, rfl, ?_⟩
            have sG1 : Same G' M1 := Same.tr s2M sM1
            have hf : formB d = true := hfb.trans hsec
            have etk := take_form (rs := qs) hf hseq
            cases hn : nameD d0 with
            | false =>
              rw [if_neg (by rw [hn]; decide)] at etk
              exact iteT ⟨_, rfl, (by show 2 ≤ sizeLine; decide), fun a ea => q1 i d d0 d1 a _ v0 (w2 etk) hd hseq (Same.tr sG (Same.tr sG1 (Same.put ea))) upd_same (hd0m.mono (ms_up (Same.tr sG (Same.tr sG1 (Same.put ea)))))⟩
            | true =>
              rw [if_pos hn] at etk
              obtain ⟨z, rfl⟩ : ∃ z, d0 = .str z := by cases d0 <;> first | exact ⟨_, rfl⟩ | cases hn
              have hz : nameB (TL.tl z) = true := hn
              have ev0 := dd_str hd0m
              subst ev0
              refine iteF ?_
              dsimp only [tNext]
              refine ⟨fun σ' N => ∃ (vr : V) (k : RowK) (o : Option V), σ' = [some (.ref l), some (.ref kl), some (.ref ia), some (.str z), some vr, o] ∧ Same M1 N ∧ allD qs.length d1 = true ∧ k = (z, keyT d1) ∧ (∀ t N', Same N N' → SqT K N' t [.str z, vr] → RowAt K N' k t), ?_, ?_⟩
              · refine ⟨_, rfl, ?_⟩
                dsimp only [tTup, tCons, tNil, tC]
                refine ⟨(by show 2 ≤ sizeLine; decide), fun t4 e4 => ⟨_, t4, _, _, _, rfl, upd_same, prs, (vk_dd (hdM1.mono sM1) sh1).kd.lt.mono (Same.put e4), _, rfl, ?_⟩⟩
                rw [ans_lt, kind_seq]
                have s4 : Same M1 (upd M1 t4 (.tup [V.ty "list", .ty "tuple"])) := Same.put e4
                generalize upd M1 t4 (.tup [V.ty "list", .ty "tuple"]) = M2 at s4 ⊢
                have sm2 : Same G2 M2 := Same.tr sM (Same.tr sM1 s4)
                cases hq1 : seqD d1 with
                | none =>
                  obtain ⟨n, rfl⟩ : ∃ n, d1 = .int n := by
                    unfold secB at hsec
                    rw [hq1] at hsec
                    cases d1 <;> first | exact ⟨_, rfl⟩ | cases hsec
                  have e1 : v1 = .int n := by cases hd1m; rfl
                  subst e1
                  exact iteF ⟨_, _, o5, rfl, s4, rfl, rfl, fun t N' _ ht => ⟨(name_ok hz).1, .inl ⟨n, rfl, ht⟩⟩⟩
                | some fs =>
                  obtain ⟨c, zs, rfl, hC, hzs⟩ := dd_seq (hd1.mono sm2) hq1
                  have hzl := hzs.len
                  have hfl := hI.fl _ _ fs hseq hq1
                  have hshf := short_seq sh1 hq1
                  have hal1 : allD qs.length d1 = fs.all (idxD qs.length) := by
                    unfold allD
                    rw [hq1]
                  have hk2 : M2 kl = some (.lst (as.map V.ref)) := sm2 _ _ (s2 _ _ hGk)
                  refine iteT ?_
                  refine ⟨_, rfl, c, rfl, seq_it hC fun J wk => fun D hD => ?_⟩
                  have nkD : kl ≠ D := ne_of_none hk2 hD
                  refine lc_it wk (fun j N => Same M2 N ∧ ∃ vs es, N D = some (.lst vs) ∧ (∀ N', DdAll K N' vs es) ∧ vs.length ≤ j ∧ (∀ e ∈ es, flatD e = true) ∧ (es = [] ↔ ∀ m u, m < j → fs[m]? = some u → idxD qs.length u = true)) ⟨Same.put hD, [], [], upd_same, (fun _ => .nil), Nat.le_refl _, (fun e he => absurd he List.not_mem_nil), ⟨(fun _ m u h => absurd h (Nat.not_lt_zero _)), fun _ => rfl⟩⟩ (fun _ _ _ h => h.1) ?_ ?_
                  · rintro j v N N' hj ⟨sN, vs, es, hND, hves, hvj, hef, hiff⟩ ⟨rfl, hv⟩
                    obtain ⟨u, hu, hvu⟩ := hzs.get hv
                    have hflu := hfl u (List.mem_of_getElem? hu)
                    have addv : idxD qs.length u = false → ∃ acc, N' D = some (.lst acc) ∧ acc.length < sizeLine ∧ (Same M2 (upd N' D (.lst (acc ++ [v]))) ∧ ∃ vs es, (upd N' D (.lst (acc ++ [v]))) D = some (.lst vs) ∧ (∀ N', DdAll K N' vs es) ∧ vs.length ≤ j + 1 ∧ (∀ e ∈ es, flatD e = true) ∧ (es = [] ↔ ∀ m u, m < j + 1 → fs[m]? = some u → idxD qs.length u = true)) := fun hno => by
                      have hfs3 : fs.length ≤ 3 := by
                        unfold secB at hsec
                        rw [hq1] at hsec
                        exact of_decide_eq_true hsec
                      refine ⟨vs, hND, (by rw [PySem.sizeLine_eq]; omega), fun b o e => (upd_ne (ne_of_none e hD)).trans (sN b o e), vs ++ [v], es ++ [u], upd_same, fun N => (hves N).app (.cons (flat_any hvu hflu) .nil), (by rw [List.length_append]; exact Nat.add_le_add_right hvj 1), (fun e he => ?_), ⟨(fun e => by simp at e), fun h => ?_⟩⟩
                      · rcases List.mem_append.mp he with h | h
                        · exact hef e h
                        · rw [List.mem_singleton.mp h]
                          exact hflu
                      · have := h j u (Nat.lt_succ_self j) hu
                        rw [hno] at this
                        cases this
                    refine ⟨rfl, _, rfl, ?_⟩
                    dsimp only [tNil]
                    refine turn_d (hvu.mono sN) (shortAll_get hshf hu) (fun hno => ⟨_, rfl, iteT (iteT ⟨_, rfl, addv ?_⟩)⟩) (fun n hn h0 => ?_)
                    · cases u <;> first | rfl | exact decide_eq_false fun w => hno _ rfl w.1
                    · subst hn
                      have e3 : v = .int n := by cases hvu; rfl
                      subst e3
                      refine ⟨_, rfl, iteF ⟨_, rfl, _, rfl, _, _, rfl, .inl ⟨_, SqL.of (sN _ _ hk2), rfl⟩, _, _, rfl, rfl, _, rfl, ?_⟩⟩
                      rw [List.length_map, hal]
                      by_cases h5 : ((qs.length : Nat) : Int) ≤ n
                      · rw [decide_eq_true h5]
                        exact iteT ⟨_, rfl, addv (decide_eq_false fun w => by omega)⟩
                      · rw [decide_eq_false h5]
                        refine iteF ⟨sN, vs, es, hND, hves, Nat.le_succ_of_le hvj, hef, ⟨fun e m u' hm hu' => ?_, fun h => hiff.mpr fun m u' hm hu' => h m u' (Nat.lt_succ_of_lt hm) hu'⟩⟩
                        rcases Nat.lt_or_ge m j with h | h
                        · exact hiff.mp e m u' h hu'
                        · have e4 : m = j := by omega
                          subst e4
                          rw [hu] at hu'
                          cases hu'
                          exact decide_eq_true ⟨h0, by omega⟩
                  · rintro N ⟨sN, vs, es, hND, hves, hvj, hef, hiff⟩
                    refine ⟨(by show 0 ≤ sizeLine; decide), fun l0 el0 => ⟨.list es, .list [], .lst (SqL.of ((Same.put el0) _ _ hND)) (dp_of_ddAll _ _ (hves _) (flat_all hef).1), .lst (SqL.of upd_same) .nil, flat_shaped hef, flat_shaped fun e he => absurd he List.not_mem_nil, ?_⟩⟩
                    have s5 : Same N (upd N l0 (.lst [])) := Same.put el0
                    generalize upd N l0 (.lst []) = N1 at s5 ⊢
                    have sMN : Same M2 N1 := Same.tr sN s5
                    rw [eqv_nil]
                    refine ⟨_, rfl, ?_⟩
                    cases es with
                    | cons e es =>
                      refine iteT ⟨_, rfl, (by show 2 ≤ sizeLine; decide), fun a ea => rowx ?_ _ a (Same.tr sG1 (Same.tr s4 sMN)) ea⟩
                      rw [etk]
                      have : allD qs.length d1 = false := by
                        rw [hal1]
                        cases hA : fs.all (idxD qs.length) with
                        | false => rfl
                        | true =>
                          have := hiff.mpr fun m u _ hu => List.all_eq_true.mp hA u (List.mem_of_getElem? hu)
                          cases this
                      rw [this]
                      rfl
                    | nil =>
                      refine iteF ?_
                      dsimp only [tNext]
                      have hall2 : fs.all (idxD qs.length) = true := List.all_eq_true.mpr fun u hu => by
                        obtain ⟨m, hm, e⟩ := List.getElem_of_mem hu
                        exact hiff.mp rfl m u (by omega) (by rw [List.getElem?_eq_getElem hm, e])
                      obtain ⟨ez, hns⟩ := ints_dd hzs hall2
                      have ekey : keyT d1 = .inr (fs.map Tp.intD) := by
                        unfold keyT
                        rw [hq1]
                      have hCN := hC.up sMN
                      refine ⟨_, rfl, c, zs, rfl, ?_⟩
                      rcases hCN with hCN | hCN
                      · refine .inl ⟨hCN, fun tt et => ⟨_, _, o5, rfl, Same.tr s4 (Same.tr sMN (Same.put et)), hal1.trans hall2, rfl, fun t N' sN' ht => ⟨(name_ok hz).1, .inr ⟨fs.map Tp.intD, tt, ekey, ht, ?_⟩⟩⟩⟩
                        rw [← ez]
                        exact upT sN' (SqT.of upd_same)
                      · refine .inr ⟨hCN, _, _, o5, rfl, Same.tr s4 sMN, hal1.trans hall2, rfl, fun t N' sN' ht => ⟨(name_ok hz).1, .inr ⟨fs.map Tp.intD, c, ekey, ht, ?_⟩⟩⟩
                        rw [← ez]
                        exact upT sN' hCN
              · rintro σ' N ⟨vr, k, o, rfl, sN, hallD, rfl, hrow⟩
                have sGN : Same G' N := Same.tr sG1 sN
                have hkN : N kl = some (.lst (as.map V.ref)) := sGN _ _ hGk
                have hrN : ∀ M, Same N M → ∀ (i : Nat) (k : RowK) (b : Addr), qs[i]? = some k → as[i]? = some b → RowAt K M k b := fun M sM i k b h1 h2 => (hrows i k b h1 h2).mono fun _ _ => upT (Same.tr sGN sM)
                have hstr : ∀ j ∈ qs, PyData.strOk j.1 = true := fun j hj => by
                  obtain ⟨m, hm, e⟩ := List.getElem_of_mem hj
                  have h2 : as[m]? = some (as[m]'(by omega)) := List.getElem?_eq_getElem (by omega)
                  exact (hrows m j _ (by rw [List.getElem?_eq_getElem hm, e]) h2).1
                refine ⟨_, rfl, _, rfl, (by show 2 ≤ sizeLine; decide), fun t5 e5 => ⟨_, rfl, ?_⟩⟩
                have s5 : Same N (upd N t5 (.tup [V.str z, vr])) := Same.put e5
                have hr5 := hrow t5 _ s5 (SqT.of upd_same)
                generalize upd N t5 (.tup [V.str z, vr]) = N5 at s5 hr5 ⊢
                refine ⟨rowD (z, keyT d1), qs.map rowD, row_dp hr5, .lst (SqL.of (s5 _ _ hkN)) (rows_dp hal (hrN _ s5)), row_shaped hr5.1, rows_shaped hstr, ?_⟩
                rw [rows_any]
                refine ⟨_, rfl, ?_⟩
                rw [hallD] at etk
                cases hh : hasR qs (z, keyT d1) with
                | true =>
                  refine iteT ⟨_, rfl, (by show 2 ≤ sizeLine; decide), fun a ea => rowx ?_ _ a (Same.tr sGN s5) ea⟩
                  rw [etk]
                  exact if_pos (by rw [show strD (.str z) = z from rfl, hh]; rfl)
                | false =>
                  have etk2 : takeD qs d = .ok (z, keyT d1) := etk.trans (if_neg (by rw [show strD (.str z) = z from rfl, hh]; decide))
                  refine iteF ?_
                  dsimp only [tNext]
                  have hk5 := s5 _ _ hkN
                  refine ⟨_, rfl, .inl ⟨rfl, _, SqL.of hk5⟩, _, rfl, _, rfl, (by show 2 ≤ sizeLine; decide), fun t6 e6 => ?_⟩
                  have s6 : Same N5 (upd N5 t6 (.tup [V.str z, vr])) := Same.put e6
                  have hr6 := hrow t6 _ (Same.tr s5 s6) (SqT.of upd_same)
                  have n6 : kl ≠ t6 := ne_of_none hk5 e6
                  generalize upd N5 t6 (.tup [V.str z, vr]) = N6 at s6 hr6 ⊢
                  have hk6 := s6 _ _ hk5
                  have fr : Frame [kl] N6 (upd N6 kl (.lst (as.map V.ref ++ [.ref t6]))) := Frame.put (by simp)
                  have nt : ∀ b ∈ [kl], NotTup N6 b := fun b hb => by rw [List.mem_singleton.mp hb]; exact not_lst hk6
                  have sAll : Same G' N6 := Same.tr sGN (Same.tr s5 s6)
                  refine ⟨kl, _, _, rfl, rfl, hk6, (by rw [List.length_map, PySem.sizeLine_eq]; omega), ⟨_, _, _, _, rfl⟩, fun b o e => (upd_ne (ne_of_none e hkl)).trans ((Same.tr sG sAll) b o e), qs ++ [(z, keyT d1)], as ++ [t6], w3 _ etk2, ?_, ?_, ?_, ?_⟩
                  · rw [List.length_append]
                    exact Nat.add_le_add_right hql 1
                  · rw [List.length_append, List.length_append, hal]
                    rfl
                  · intro m k b h1 h2
                    rcases Nat.lt_or_ge m qs.length with h | h
                    · rw [List.getElem?_append_left h] at h1
                      rw [List.getElem?_append_left (by omega)] at h2
                      exact SqT_row (hrN _ (Same.tr s5 s6) m k b h1 h2) fr nt
                    · rw [List.getElem?_append_right h] at h1
                      rw [List.getElem?_append_right (by omega)] at h2
                      have e0 : m - qs.length = 0 := by
                        by_cases w : m - qs.length = 0
                        · exact w
                        · rw [List.getElem?_eq_none (by simp; omega)] at h1
                          cases h1
                      rw [e0] at h1
                      rw [show m - as.length = 0 by omega] at h2
                      cases h1
                      cases h2
                      exact SqT_row hr6 fr nt
                  · rw [upd_same, List.map_append]
                    rfl
        · refine if_true_of ?_ ⟨_, rfl, (by show 2 ≤ sizeLine; decide), fun a ea => rowx (take_no ?_) _ a s2 ea⟩
          · rw [hvl, decide_eq_false fun e => hl2 (by have e2 := V.int.inj e; exact Int.ofNat.inj e2)]
            rfl
          · unfold formB
            rw [hseq]
            match es, hl2 with
            | [], _ => rfl
            | [_], _ => rfl
            | [_, _], h => exact absurd rfl h
            | _ :: _ :: _ :: _, _ => rfl
    · rintro σ G ⟨⟨o2, o3, o4, o5, rfl⟩, sG, qs, as, hq, hql, hal, hrows, hGk⟩
      rw [hyl, List.take_length] at hq
      refine ⟨_, rfl, (by show 2 ≤ sizeLine; decide), fun a ea => ?_⟩
      exact q2 qs as kl a _ hq (Same.tr sG (Same.put ea)) hal (fun i k b h1 h2 => (hrows i k b h1 h2).mono fun _ _ => upT (Same.put ea)) hkl ((Same.put ea) _ _ hGk) upd_same

end
end T04
set_option Elab.async false
set_option linter.all false
set_option maxRecDepth 100000
set_option maxHeartbeats 4000000
namespace T04
open PySem PySem.Spec PyProof.Rows L2 Tp
section
variable {P : Program} {w : World} {K : PySem.W.Frag} {mg : Str → Option Value} {base : Heap} {f : Addr} {fd : FuncData}

theorem op_eqDK {X : Cx} {K : PySem.W.Frag} (h : X.K = K) (hu : X.A.units + 64 < cLine) : OpR X (compareOp .Eq) (rEqD K) := h ▸ op_eqD hu
/-- what stands in the second place of a row -/
def RestAt (K : PySem.W.Frag) (H : Hp) (x : V) (k : RowK) : Prop := (∃ n, x = .int n ∧ k.2 = .inl n) ∨ ∃ b ns, x = .ref b ∧ SqT K H b (ns.map V.int) ∧ k.2 = .inr ns
theorem RestAt.up {H H' : Hp} {x : V} {k : RowK} (s : Same H H') (h : RestAt K H x k) : RestAt K H' x k := h.elim .inl fun ⟨b, ns, e, h, e2⟩ => .inr ⟨b, ns, e, upT s h, e2⟩
theorem BookAt.ok {P : Program} {w : World} {H : Hp} {C p : Addr} {fp : List Addr} {rs : List RowK} (B : BookAt P w K H C p fp rs) : rs.Nodup ∧ OkRows rs ∧ rs.length ≤ 5000 := by
  obtain ⟨dx, l1, d, l2, l3, l4, as, fs, rfl, nd, h0, a1, a2, a3, a4, a5, a6, b1, b2, h1, h2, h3, h4, h5, b3, b4, b5⟩ := B.ex
  exact ⟨b3, b4, b5⟩
theorem in_book {P : Program} {w : World} {H : Hp} {C p : Addr} {fp : List Addr} {rs : List RowK} {x : V} {d : PyData} {no : Bool} {Q : VK} (hB : BookAt P w K H C p fp rs) (hd : Dd K H x d) (hs : shortD d = true) (q : ∀ H', Same H H' → Q (.bl (memD rs d != no)) H') : rInO C (spCont P w K C) no x (.ref p) H Q := by
  obtain ⟨dx, gs, h0, _⟩ := hB.there
  exact ⟨p, dx, gs, rfl, h0, p, fp, rs, x, rfl, hB, .inl ⟨d, hd, hs, fun H' s => ⟨_, rfl, q H' s⟩⟩⟩
theorem idx_ints {n : Nat} : ∀ {ns : List Int}, (∀ i ∈ ns, 0 ≤ i ∧ i < (n : Int)) → (ns.map PyData.int).all (idxD n) = true
  | [], _ => rfl
  | i :: ns, h => by
    rw [List.map_cons, List.all_cons, idx_ints fun j hj => h j (List.mem_cons_of_mem _ hj), Bool.and_true]
    have := h i List.mem_cons_self
    exact decide_eq_true ⟨this.1, by omega⟩
/-- a row of the book in any form -/
theorem mem_seq {rs : List RowK} {z : Str} {ns : List Int} {d d1 : PyData} (hR : OkRows rs) (hk : ((z, .inr ns) : RowK) ∈ rs) (e : seqD d = some [.str z, d1]) (e1 : seqD d1 = some (ns.map PyData.int)) : memD rs d = true := by
  obtain ⟨i, hi⟩ := List.mem_iff_getElem?.mp hk
  obtain ⟨hz, hl, hn⟩ := hR i _ hi
  have hil := (List.getElem?_eq_some_iff.mp hi).1
  have hf : formB d = true := by
    unfold formB
    rw [e]
    show secB d1 = true
    unfold secB
    rw [e1]
    exact decide_eq_true (by rw [List.length_map]; exact hl)
  have ha : allD rs.length d1 = true := by
    unfold allD
    rw [e1]
    exact idx_ints fun j hj => ⟨(hn j hj).1, by have := (hn j hj).2; omega⟩
  have hkey : keyT d1 = .inr ns := by
    unfold keyT
    rw [e1]
    exact congrArg Sum.inr (int_back ns)
  unfold memD
  rw [key_some hf e, ha, hkey, show nameD (.str z) = true from hz]
  exact hasR_iff.mpr hk
theorem mem_int {rs : List RowK} {z : Str} {n : Int} {d : PyData} (hR : OkRows rs) (hk : ((z, .inl n) : RowK) ∈ rs) (e : seqD d = some [.str z, .int n]) : memD rs d = true := by
  obtain ⟨i, hi⟩ := List.mem_iff_getElem?.mp hk
  obtain ⟨hz, h0, _⟩ := hR i _ hi
  have hf : formB d = true := by
    unfold formB
    rw [e]
    exact decide_eq_true h0
  unfold memD
  rw [key_some hf e, show allD rs.length (.int n) = true from rfl, show nameD (.str z) = true from hz]
  exact hasR_iff.mpr hk
theorem mem_no {rs : List RowK} {d : PyData} (h : formB d = false) : memD rs d = false := by
  unfold memD keyD
  rw [if_neg (by rw [h]; decide)]
theorem mem_bad {rs : List RowK} {d d0 d1 : PyData} (e : seqD d = some [d0, d1]) (h : allD rs.length d1 = false) : memD rs d = false := by
  cases hf : formB d with
  | false => exact mem_no hf
  | true =>
    unfold memD
    rw [key_some hf e, h, Bool.and_false, if_neg (by decide)]
theorem dd_ints' {H : Hp} : ∀ ns : List Int, DdAll K H (ns.map V.int) (ns.map PyData.int)
  | [] => .nil
  | n :: ns => .cons (.int n) (dd_ints' ns)
theorem catA_to {H : Hp} {a b : Addr} {xs ys : List V} {Q : VK} (ha : SqT K H a xs) (hb : SqT K H b ys) (hz : xs.length + ys.length ≤ sizeLine) (q : ∀ c H', Same H H' → SqT K H' c (xs ++ ys) → Q (.ref c) H') : rCatA K (.ref a) (.ref b) H Q := by
  refine ⟨a, b, xs, ys, rfl, rfl, ha, hb, hz, fun e => ?_, fun _ e => ?_, fun _ _ p hp => q p _ (Same.put hp) (SqT.of upd_same)⟩
  · refine q b H (Same.refl _) ?_
    rw [e]
    exact hb
  · refine q a H (Same.refl _) ?_
    rw [e, List.append_nil]
    exact ha
theorem slA_to {H : Hp} {a : Addr} {xs : List V} {lo hi : Option Int} {Q : VK} (ha : SqT K H a xs) (q : ∀ c H', Same H H' → SqT K H' c (cutV xs lo hi) → Q (.ref c) H') : rSlA K (.ref a) lo hi H Q := by
  refine ⟨a, xs, rfl, ha, fun e => q a H (Same.refl _) ?_, fun _ p hp => q p _ (Same.put hp) (SqT.of upd_same)⟩
  unfold cutV
  rw [e.1, e.2, List.drop_zero, Nat.sub_zero, List.take_length]
  exact ha
theorem cut_mem {xs : List V} {lo hi : Option Int} {v : V} (h : v ∈ cutV xs lo hi) : v ∈ xs := List.mem_of_mem_drop (List.mem_of_mem_take h)
/-- whole numbers and truths -/
theorem lits : ∀ {vs : List V}, (∀ v ∈ vs, (∃ i, v = .int i) ∨ ∃ b, v = .bl b) → ∃ es, (∀ H, DdAll K H vs es) ∧ shortAll es = true ∧ ∀ b, V.bl b ∈ vs → PyData.bool b ∈ es
  | [], _ => ⟨[], fun _ => .nil, rfl, fun b h => absurd h List.not_mem_nil⟩
  | v :: vs, h => by
    obtain ⟨es, h1, h2, h3⟩ := lits fun x hx => h x (List.mem_cons_of_mem _ hx)
    rcases h v List.mem_cons_self with ⟨i, rfl⟩ | ⟨b, rfl⟩
    · refine ⟨.int i :: es, fun H => .cons (.int i) (h1 H), by simp only [shortAll, shortD, h2, Bool.and_self], fun b hb => ?_⟩
      rcases List.mem_cons.mp hb with e | e
      · cases e
      · exact List.mem_cons_of_mem _ (h3 b e)
    · refine ⟨.bool b :: es, fun H => .cons (.bl b) (h1 H), by simp only [shortAll, shortD, h2, Bool.and_self], fun c hc => ?_⟩
      rcases List.mem_cons.mp hc with e | e
      · cases e
        exact List.mem_cons_self
      · exact List.mem_cons_of_mem _ (h3 c e)
def spForms (P : Program) (w : World) (K : PySem.W.Frag) (C : Addr) : Sp := fun vs H Q _ => ∃ (p : Addr) (fp : List Addr) (rs : List RowK) (k : RowK) (x : V), vs = [.ref p, .str k.1, x] ∧ BookAt P w K H C p fp rs ∧ k ∈ rs ∧ RestAt K H x k ∧ ∀ H', Same H H' → Q (.bl true) H'

abbrev sFo : Stmt := top 51
abbrev nFo : List Str := ["_law_book", "_law_name", "_law_rest", "_law_at", "_law_one", "_law_truth"]
theorem scFo : FnScope nFo ["_law_book", "_law_name", "_law_rest"] (defScope sFo) := ⟨rfl, rfl, rfl, by decide +kernel, rfl, by decide +kernel, by decide +kernel⟩

theorem ok_Fo (F : Fun K "_law_forms_right" "_law_forms_right" sFo f fd) {C : Addr} (T : TxtL mg) (CC : Ct P w K mg base 5 C "__contains__" [] (spCont P w K C)) : FnG P w K mg base CX0 6 f fd ["_law_book", "_law_name", "_law_rest"] (spForms P w K C) := by
  refine FunG.ok F scFo (fun vs H Q E h => ?_) (fun cdv B out s H vs Q E hr hG h => ?_)
  · obtain ⟨p, fp, rs, k, x, rfl, _⟩ := h
    rfl
  · obtain ⟨p, fp, rs, k, x, rfl, hB, hk, hx, q⟩ := h
    refine ⟨_, (pss_cons (ps_if (pt_val (pe_callB call_isd (by rfl) T.isinstance (by decide +kernel) (pa_cons (pv 2) (pa_cons (pe_bltn (by rfl) T.int (by decide +kernel) (show RelV (.ty "int") _ from rfl)) pa_nil)))) (pss_one (ps_ret (pe_cmpR (op_eqDK (K := K) rfl hr.units) (pe_lc (own := [("_law_truth", 5)]) (g := gName 5) rfl scFo.nd (pi_list (pe_lst (pa_cons pe_bl (pa_cons pe_bl pa_nil)))) (blkOk_by (N := nFo) (sc := defScope sFo) (by decide +kernel)) (fun _ _ _ _ _ => pg_name (i := 5) scFo.nd rfl (Or.inl rfl)) (fun _ _ _ _ _ => (pts_one (PW.pt (pw_and (pt_cmpR (op_eqDK (K := K) rfl hr.units) (pv 2) (pv 5) (nomark _)) (pw_and1 (pt_cmpR (op_inO CC (hr.mono (by decide)) hG) (pe_tup (pa_cons (pv 1) (pa_cons (pv 5) pa_nil))) (pv 0) rfl)))))) (fun _ _ _ _ _ => pe_int)) (pe_lst pa_nil) (nomark _)))) pss_nil)
      (pss_cons (ps_if (PW.pt (pw_or (pt_cmpR (op_notInO CC (hr.mono (by decide)) hG) (pe_tup (pa_cons (pv 1) (pa_cons (pe_callTy call_list_of (by rfl) T.list (by decide +kernel) (pa_cons (pv 2) pa_nil)) pa_nil))) (pv 0) rfl) (pw_or1 (pt_cmpR (op_notInO CC (hr.mono (by decide)) hG) (pe_lst (pa_cons (pv 1) (pa_cons (pe_callTy call_list_of (by rfl) T.list (by decide +kernel) (pa_cons (pv 2) pa_nil)) pa_nil))) (pv 0) rfl)))) (pss_one (ps_ret pe_bl)) pss_nil)
      (pss_cons (ps_for PassesOwn.never rfl (pi_enumS (by rfl) T.enumerate (pa_cons (pv 2) pa_nil)) (pg_tup rfl (pgs_cons (pg_name (i := 3) scFo.nd rfl (Or.inl rfl)) (pgs_cons (pg_name (i := 4) scFo.nd rfl (Or.inl rfl)) pgs_nil))) (pss_one (ps_if (PW.pt (pw_and (pt_cmpR op_lt (pv 4) pe_int (nomark _)) (pw_and1 (pt_cmpR (op_inO CC (hr.mono (by decide)) hG) (pe_tup (pa_cons (pv 1) (pa_cons (pe_op op_catA (pe_op op_catA (pe_slice sl_tupA (pv 2) po_none (po_some (pv 3))) (pe_tup (pa_cons (pe_cmpR op_eq (pv 4) pe_int (nomark _)) pa_nil))) (pe_slice sl_tupA (pv 2) (po_some (pe_op op_add (pv 3) pe_int)) po_none)) pa_nil))) (pv 0) rfl)))) (pss_one (ps_ret pe_bl)) pss_nil)))
      (pss_one (ps_ret pe_bl))))), ?_⟩
    obtain ⟨hnd, hR, h5⟩ := BookAt.ok hB
    obtain ⟨i0, hi0⟩ := List.mem_iff_getElem?.mp hk
    have hOk := hR i0 k hi0
    obtain ⟨z, k2⟩ := k
    have hz : nameB (TL.tl z) = true := hOk.1
    have hsz : shortD (.str z) = true := (name_sm hz).1
    rcases hx with ⟨n, rfl, e2⟩ | ⟨b, ns, rfl, hb, e2⟩
    · dsimp only at e2
      subst e2
      refine ⟨_, rfl, _, _, _, _, rfl, .ty _, (vk_int n).kd.is "int" (by decide), _, rfl, ?_⟩
      refine iteT ?_
      refine ⟨(by show 2 ≤ sizeLine; decide), fun ll el => ?_⟩
      have s1 : Same H (upd H ll (.lst [V.bl false, V.bl true])) := Same.put el
      have hl1 : (upd H ll (.lst [V.bl false, V.bl true])) ll = some (.lst [V.bl false, V.bl true]) := upd_same
      generalize upd H ll (.lst [V.bl false, V.bl true]) = H1 at s1 hl1 ⊢
      refine ⟨ll, rfl, ⟨_, SqL.of hl1⟩, fun D hD => ?_⟩
      refine lc_it (walk_list (xs := [V.bl false, V.bl true])) (fun j G => Same H1 G ∧ G D = some (.lst [])) ⟨Same.put hD, upd_same⟩ (fun _ _ _ h => SqL.of (h.1 _ _ hl1)) ?_ ?_
      · rintro j v G G' hj ⟨sG, hGD⟩ ⟨rfl, hv⟩
        obtain ⟨bb, rfl⟩ : ∃ bb, v = .bl bb := by
          match j, hj with
          | 0, _ => cases hv; exact ⟨_, rfl⟩
          | 1, _ => cases hv; exact ⟨_, rfl⟩
        refine ⟨rfl, _, rfl, _, rfl, .int n, .bool bb, .int n, .bl bb, rfl, rfl, _, rfl, ?_⟩
        refine ite2 (fun _ => ?_) (fun _ => ⟨sG, hGD⟩)
        refine ⟨_, rfl, _, rfl, (by show 2 ≤ sizeLine; decide), fun t et => ⟨_, rfl, ?_⟩⟩
        have s2 : Same G' (upd G' t (.tup [V.str z, .bl bb])) := Same.put et
        have ht : (upd G' t (.tup [V.str z, .bl bb])) t = some (.tup [V.str z, .bl bb]) := upd_same
        generalize upd G' t (.tup [V.str z, .bl bb]) = G2 at s2 ht ⊢
        refine in_book (hB.up (Same.tr s1 (Same.tr sG s2))) (d := .tuple [.str z, .bool bb]) (.tup (SqT.of ht) (.cons (.str z) (.cons (.bl bb) .nil))) (by simp only [shortD, shortAll, Bool.and_true]; exact hsz) fun G3 s3 => ⟨_, rfl, ?_⟩
        rw [mem_no rfl]
        exact iteF ⟨Same.tr sG (Same.tr s2 s3), s3 _ _ (s2 _ _ hGD)⟩
      · rintro G ⟨sG, hGD⟩
        refine ⟨(by show 0 ≤ sizeLine; decide), fun l0 el0 => ⟨.list [], .list [], .lst (SqL.of ((Same.put el0) _ _ hGD)) .nil, .lst (SqL.of upd_same) .nil, rfl, rfl, ?_⟩⟩
        exact q _ (Same.tr s1 (Same.tr sG (Same.put el0)))
    · dsimp only at e2
      subst e2
      have hal : ∀ (d : PyData), d = .list (ns.map PyData.int) ∨ d = .tuple (ns.map PyData.int) → shortD d = true := fun d hd => by
        rcases hd with rfl | rfl <;> simp only [shortD, short_ints]
      refine ⟨_, rfl, _, _, _, _, rfl, .ty _, (vk_tuple hb).kd.is "int" (by decide), _, rfl, ?_⟩
      refine iteF ?_
      dsimp only [tNext]
      refine ⟨_, rfl, _, rfl, b, _, rfl, .inr hb, fun l1 el1 => ⟨(by show 2 ≤ sizeLine; decide), fun t1 et1 => ⟨_, rfl, ?_⟩⟩⟩
      have s1 : Same H (upd H l1 (.lst (ns.map V.int))) := Same.put el1
      have h1 : (upd H l1 (.lst (ns.map V.int))) l1 = some (.lst (ns.map V.int)) := upd_same
      generalize upd H l1 (.lst (ns.map V.int)) = H1 at s1 h1 et1 ⊢
      have s2 : Same H1 (upd H1 t1 (.tup [V.str z, .ref l1])) := Same.put et1
      have h2 : (upd H1 t1 (.tup [V.str z, .ref l1])) t1 = some (.tup [V.str z, .ref l1]) := upd_same
      generalize upd H1 t1 (.tup [V.str z, .ref l1]) = H2 at s2 h2 ⊢
      refine in_book (hB.up (Same.tr s1 s2)) (d := .tuple [.str z, .list (ns.map PyData.int)]) (.tup (SqT.of h2) (.cons (.str z) (.cons (.lst (SqL.of (s2 _ _ h1)) (dd_ints' ns)) .nil))) (by simp only [shortD, shortAll, Bool.and_true, Bool.and_eq_true]; exact ⟨hsz, short_ints ns⟩) fun H3 s3 => ⟨_, rfl, ?_⟩
      rw [mem_seq hR hk rfl rfl]
      refine iteF ?_
      have s13 := Same.tr s1 (Same.tr s2 s3)
      refine ⟨_, rfl, _, rfl, b, _, rfl, .inr (upT s13 hb), fun l4 el4 => ⟨(by show 2 ≤ sizeLine; decide), fun t4 et4 => ⟨_, rfl, ?_⟩⟩⟩
      have s4 : Same H3 (upd H3 l4 (.lst (ns.map V.int))) := Same.put el4
      have h4 : (upd H3 l4 (.lst (ns.map V.int))) l4 = some (.lst (ns.map V.int)) := upd_same
      generalize upd H3 l4 (.lst (ns.map V.int)) = H4 at s4 h4 et4 ⊢
      have s5 : Same H4 (upd H4 t4 (.lst [V.str z, .ref l4])) := Same.put et4
      have h5' : (upd H4 t4 (.lst [V.str z, .ref l4])) t4 = some (.lst [V.str z, .ref l4]) := upd_same
      generalize upd H4 t4 (.lst [V.str z, .ref l4]) = H5 at s5 h5' ⊢
      refine in_book (hB.up (Same.tr s13 (Same.tr s4 s5))) (d := .list [.str z, .list (ns.map PyData.int)]) (.lst (SqL.of h5') (.cons (.str z) (.cons (.lst (SqL.of (s5 _ _ h4)) (dd_ints' ns)) .nil))) (by simp only [shortD, shortAll, Bool.and_true, Bool.and_eq_true]; exact ⟨hsz, short_ints ns⟩) fun H6 s6 => ⟨_, rfl, ?_⟩
      rw [mem_seq hR hk rfl rfl]
      refine iteF ?_
      dsimp only [tNext]
      have s16 := Same.tr s13 (Same.tr s4 (Same.tr s5 s6))
      refine ⟨_, rfl, b, rfl, enum_it (.inr (upT s16 hb)) fun J wk => ?_⟩
      refine for_it wk (fun i σ G => Same H6 G ∧ ∃ o3 o4, σ = [some (.ref p), some (.str z), some (.ref b), o3, o4, none]) ⟨Same.refl _, none, none, rfl⟩ (fun _ _ _ _ h => h.1) ?_ ?_
      · rintro i x σ G G' hi ⟨kG, o3, o4, rfl⟩ ⟨pp, x0, y, rfl, hp, rfl, h0, hx⟩
        cases h0
        have sp1 : Same G (upd G pp (.tup [.int (i : Nat), y])) := Same.put hp
        have hg1 : (upd G pp (.tup [V.int (i : Nat), y])) pp = some (.tup [.int (i : Nat), y]) := upd_same
        generalize upd G pp (.tup [V.int (i : Nat), y]) = G1 at sp1 hg1 ⊢
        have kG1 := Same.tr kG sp1
        replace hx : (ns.map V.int)[i]? = some y := hx
        rw [List.getElem?_map] at hx
        obtain ⟨m, hm, rfl⟩ := Option.map_eq_some_iff.mp hx
        refine ⟨pp, _, rfl, SqT.of hg1, rfl, _, _, rfl, _, _, rfl, rfl, ?_⟩
        refine ⟨_, rfl, _, _, rfl, rfl, _, rfl, ?_⟩
        refine ite2 (fun _ => ?_) (fun _ => iteF ⟨kG1, _, _, rfl⟩)
        have hbG := upT (Same.tr s16 kG1) hb
        refine ⟨_, rfl, _, rfl, _, rfl, _, rfl, ?_⟩
        refine slA_to hbG fun c1 G2 s2' hc1 => ?_
        refine ⟨_, rfl, rfl, (by show 1 ≤ sizeLine; decide), fun c2 ec2 => ?_⟩
        have s3' : Same G2 (upd G2 c2 (.tup [V.bl (decide (V.int m = V.int 1))])) := Same.put ec2
        have hc2 : (upd G2 c2 (.tup [V.bl (decide (V.int m = V.int 1))])) c2 = some (.tup [V.bl (decide (V.int m = V.int 1))]) := upd_same
        generalize upd G2 c2 (.tup [V.bl (decide (V.int m = V.int 1))]) = G3 at s3' hc2 ⊢
        have hl3 : ns.length ≤ 3 := hOk.2.1
        have hcl : ∀ lo hi, (cutV (ns.map V.int) lo hi).length ≤ 3 := fun lo hi => Nat.le_trans (cutV_length _ lo hi) (by rw [List.length_map]; exact hl3)
        refine catA_to (upT s3' hc1) (SqT.of hc2) (by have := hcl none (some ((i : Nat) : Int)); rw [PySem.sizeLine_eq, List.length_singleton]; omega) fun c3 G4 s4' hc3 => ?_
        refine ⟨_, rfl, _, rfl, _, _, rfl, rfl, _, rfl, ?_⟩
        dsimp only [tNoPart]
        refine slA_to (upT (Same.tr s2' (Same.tr s3' s4')) hbG) fun c4 G5 s5' hc4 => ?_
        refine catA_to (upT s5' hc3) hc4 (by have h1 := hcl none (some ((i : Nat) : Int)); have h2 := hcl (some (((i : Nat) : Int) + 1)) none; rw [PySem.sizeLine_eq, List.length_append, List.length_singleton]; omega) fun c5 G6 s6' hc5 => ?_
        refine ⟨(by show 2 ≤ sizeLine; decide), fun t7 et7 => ⟨_, rfl, ?_⟩⟩
        have s7' : Same G6 (upd G6 t7 (.tup [V.str z, .ref c5])) := Same.put et7
        have h7 : (upd G6 t7 (.tup [V.str z, .ref c5])) t7 = some (.tup [V.str z, .ref c5]) := upd_same
        have h7c := upT s7' hc5
        generalize upd G6 t7 (.tup [V.str z, .ref c5]) = G7 at s7' h7 h7c ⊢
        have sAll : Same G1 G7 := Same.tr s2' (Same.tr s3' (Same.tr s4' (Same.tr s5' (Same.tr s6' s7'))))
        obtain ⟨es, he1, he2, he3⟩ := lits (K := K) (vs := (cutV (ns.map V.int) none (some ((i : Nat) : Int)) ++ [V.bl (decide (V.int m = V.int 1))]) ++ cutV (ns.map V.int) (some (((i : Nat) : Int) + 1)) none) fun v hv => by
          rcases List.mem_append.mp hv with h | h
          · rcases List.mem_append.mp h with h | h
            · obtain ⟨j, _, e⟩ := List.mem_map.mp (cut_mem h)
              exact .inl ⟨j, e.symm⟩
            · exact .inr ⟨_, List.mem_singleton.mp h⟩
          · obtain ⟨j, _, e⟩ := List.mem_map.mp (cut_mem h)
            exact .inl ⟨j, e.symm⟩
        refine in_book (hB.up (Same.tr s16 (Same.tr kG1 sAll))) (d := .tuple [.str z, .tuple es]) (.tup (SqT.of h7) (.cons (.str z) (.cons (.tup h7c (he1 _)) .nil))) (by simp only [shortD, shortAll, Bool.and_true, Bool.and_eq_true]; exact ⟨hsz, he2⟩) fun G8 s8 => ⟨_, rfl, ?_⟩
        rw [mem_bad rfl (show allD rs.length (.tuple es) = false from List.all_eq_false.mpr ⟨_, he3 _ (List.mem_append_left _ (List.mem_append_right _ List.mem_cons_self)), by simp [idxD]⟩)]
        exact iteF ⟨Same.tr kG1 (Same.tr sAll s8), _, _, rfl⟩
      · rintro σ G ⟨kG, o3, o4, rfl⟩
        exact q _ (Same.tr s16 kG)

end
end T04
set_option Elab.async false
set_option linter.all false
set_option maxRecDepth 100000
set_option maxHeartbeats 4000000
/-! == of whole numbers, texts and tuples of them with any data, dicts too -/
namespace PySem.SeqAt
open PySem.MeetsSeq
theorem dec_int {es : Array DictEntry} {n : Nat} {dd : Option Addr} {sl : Array (Option Value)} {e : Addr} {i : Int} {tk : Tok} :
    Meets (Builtin.«int.__eq__» ⟨[.int i tk, .ref e], []⟩) (fun _ Z w0 => w0.heap.get? e = some { cls := .type "dict", dict := dd, data := .dict es n, slots := sl } ∧ Z (.ok (.ret .notImplemented)) w0) :=
  .of_wp fun pr wd ar Z w0 q0 => by
    obtain ⟨a1, a2, a3, a4, a5⟩ := w0
    obtain ⟨q1, qz⟩ := q0
    skip
    wp_walk using wpAny_loadPart' q1, wpAny_load q1
    exact ⟨_, rfl, qz⟩
theorem dec_str {es : Array DictEntry} {n : Nat} {dd : Option Addr} {sl : Array (Option Value)} {e : Addr} {i : Str} {tk : Tok} :
    Meets (Builtin.«str.__eq__» ⟨[.str i tk, .ref e], []⟩) (fun _ Z w0 => w0.heap.get? e = some { cls := .type "dict", dict := dd, data := .dict es n, slots := sl } ∧ Z (.ok (.ret .notImplemented)) w0) :=
  .of_wp fun pr wd ar Z w0 q0 => by
    obtain ⟨a1, a2, a3, a4, a5⟩ := w0
    obtain ⟨q1, qz⟩ := q0
    skip
    wp_walk using wpAny_loadPart' q1, wpAny_load q1
    exact ⟨_, rfl, qz⟩
theorem dec_tup {es : Array DictEntry} {its : Array Value} {n m : Nat} {dd de : Option Addr} {sl su : Array (Option Value)} {e r : Addr} :
    Meets (Builtin.«tuple.__eq__» ⟨[.ref r, .ref e], []⟩) (fun _ Z w0 => w0.heap.get? r = some { cls := .type "tuple", dict := de, data := .seq its m, slots := su } ∧ w0.heap.get? e = some { cls := .type "dict", dict := dd, data := .dict es n, slots := sl } ∧ Z (.ok (.ret .notImplemented)) w0) :=
  .of_wp fun pr wd ar Z w0 q0 => by
    obtain ⟨a1, a2, a3, a4, a5⟩ := w0
    obtain ⟨q1, q2, qz⟩ := q0
    have f0 := F.sub_dict_tuple
    wp_walk using wpAny_loadPart' q1, wpAny_loadPart' q2
    exact ⟨_, rfl, qz⟩
theorem dec_dint {es : Array DictEntry} {n : Nat} {dd : Option Addr} {sl : Array (Option Value)} {e : Addr} {i : Int} {tk : Tok} :
    Meets (Builtin.«dict.__eq__» ⟨[.ref e, .int i tk], []⟩) (fun _ Z w0 => w0.heap.get? e = some { cls := .type "dict", dict := dd, data := .dict es n, slots := sl } ∧ Z (.ok (.ret .notImplemented)) w0) :=
  .of_wp fun pr wd ar Z w0 q0 => by
    obtain ⟨a1, a2, a3, a4, a5⟩ := w0
    obtain ⟨q1, qz⟩ := q0
    have f0 := F.sub_int_dict
    wp_walk using wpAny_loadPart' q1
    exact ⟨_, rfl, qz⟩
theorem dec_dstr {es : Array DictEntry} {n : Nat} {dd : Option Addr} {sl : Array (Option Value)} {e : Addr} {i : Str} {tk : Tok} :
    Meets (Builtin.«dict.__eq__» ⟨[.ref e, .str i tk], []⟩) (fun _ Z w0 => w0.heap.get? e = some { cls := .type "dict", dict := dd, data := .dict es n, slots := sl } ∧ Z (.ok (.ret .notImplemented)) w0) :=
  .of_wp fun pr wd ar Z w0 q0 => by
    obtain ⟨a1, a2, a3, a4, a5⟩ := w0
    obtain ⟨q1, qz⟩ := q0
    have f0 := F.sub_str_dict
    wp_walk using wpAny_loadPart' q1
    exact ⟨_, rfl, qz⟩
theorem dec_dtup {es : Array DictEntry} {its : Array Value} {n m : Nat} {dd de : Option Addr} {sl su : Array (Option Value)} {e r : Addr} :
    Meets (Builtin.«dict.__eq__» ⟨[.ref e, .ref r], []⟩) (fun _ Z w0 => w0.heap.get? r = some { cls := .type "tuple", dict := de, data := .seq its m, slots := su } ∧ w0.heap.get? e = some { cls := .type "dict", dict := dd, data := .dict es n, slots := sl } ∧ Z (.ok (.ret .notImplemented)) w0) :=
  .of_wp fun pr wd ar Z w0 q0 => by
    obtain ⟨a1, a2, a3, a4, a5⟩ := w0
    obtain ⟨q1, q2, qz⟩ := q0
    have f0 := F.sub_tuple_dict
    wp_walk using wpAny_loadPart' q1, wpAny_loadPart' q2
    exact ⟨_, rfl, qz⟩
/-- a dict at an address -/
def DicH (h : Heap) (e : Addr) : Prop := ∃ (o : Obj) (es : Array DictEntry) (n : Nat), h.get? e = some o ∧ o.cls = .type "dict" ∧ o.data = .dict es n
section
variable {A : Around} {s : Shared}
theorem of_rcI {i : Int} {tk : Tok} {e : Addr} (h : RcAt A s (.int i tk) (.ref e) false) : EqAt A s (.int i tk) (.ref e) false := fun pr wd ex z hz => by
  unfold eqBool
  exact wpAny_holding (wpAny_ite_split (fun y => absurd (eq_of_beq y) nofun) fun _ => wpAny_bind (h pr wd ex _ (wpAny_truthy_bool hz)))
theorem of_rcS {i : Str} {tk : Tok} {e : Addr} (h : RcAt A s (.str i tk) (.ref e) false) : EqAt A s (.str i tk) (.ref e) false := fun pr wd ex z hz => by
  unfold eqBool
  exact wpAny_holding (wpAny_ite_split (fun y => absurd (eq_of_beq y) nofun) fun _ => wpAny_bind (h pr wd ex _ (wpAny_truthy_bool hz)))
theorem eq_int_dic {i : Int} {tk : Tok} {e : Addr} (h : DicH s.heap e) (hu : A.units < cLine) : EqAt A s (.int i tk) (.ref e) false := by
  obtain ⟨⟨c, dd, dt, sl⟩, es, n, he, h1, h2⟩ := h
  simp only at h1 h2
  subst h1 h2
  refine of_rcI fun pr wd ex z hz => rc_eq_decline_or (k := false) (typeIs_int s i tk) ⟨_, he, rfl⟩ (by decide) F.sub_dict_int F.slot_int_eq F.slot_dict_eq_refl (fun _ y => ?_) (fun _ y => ?_) (fun _ y => wpAny_of_eq rfl y) (.inr hu) hz
  · exact call_meets F.slot_int_eq (typeIs_int s i tk) F.entry_int_eq (F.args_int_eq_2 _ _) dec_int ⟨he, y⟩
  · exact call_meets F.slot_dict_eq_refl ⟨_, he, rfl⟩ F.entry_dict_eq (F.args_dict_eq_2 _ _) dec_dint ⟨he, y⟩
theorem eq_str_dic {i : Str} {tk : Tok} {e : Addr} (h : DicH s.heap e) (hu : A.units < cLine) : EqAt A s (.str i tk) (.ref e) false := by
  obtain ⟨⟨c, dd, dt, sl⟩, es, n, he, h1, h2⟩ := h
  simp only at h1 h2
  subst h1 h2
  refine of_rcS fun pr wd ex z hz => rc_eq_decline_or (k := false) (typeIs_str s i tk) ⟨_, he, rfl⟩ (by decide) F.sub_dict_str F.slot_str_eq F.slot_dict_eq_refl (fun _ y => ?_) (fun _ y => ?_) (fun _ y => wpAny_of_eq rfl y) (.inr hu) hz
  · exact call_meets F.slot_str_eq (typeIs_str s i tk) F.entry_str_eq (F.args_str_eq_2 _ _) dec_str ⟨he, y⟩
  · exact call_meets F.slot_dict_eq_refl ⟨_, he, rfl⟩ F.entry_dict_eq (F.args_dict_eq_2 _ _) dec_dstr ⟨he, y⟩
theorem eq_tup_dic {r e : Addr} {its : Array Value} (t : s.heap.IsTuple r its) (h : DicH s.heap e) (hu : A.units < cLine) : EqAt A s (.ref r) (.ref e) false := by
  obtain ⟨⟨c, dd, dt, sl⟩, es, n, he, h1, h2⟩ := h
  obtain ⟨⟨c2, de, dt2, su⟩, hr, h3, m, h4⟩ := t
  simp only at h1 h2 h3 h4
  subst h1 h2 h3 h4
  have ne : r ≠ e := fun z => by
    rw [z, he] at hr
    exact absurd (congrArg Obj.cls (Option.some.inj hr)) (by simp)
  refine EqAt.of_refs ne fun pr wd ex z hz => rc_eq_decline_or (k := false) ⟨_, hr, rfl⟩ ⟨_, he, rfl⟩ (by decide) F.sub_dict_tuple F.slot_tuple_eq F.slot_dict_eq_refl (fun _ y => ?_) (fun _ y => ?_) (fun _ y => wpAny_isSame_ref_other' ne hr he (by simp) y) (.inr hu) hz
  · exact call_meets F.slot_tuple_eq ⟨_, hr, rfl⟩ F.entry_tuple_eq (F.args_tuple_eq_2 _ _) dec_tup ⟨hr, he, y⟩
  · exact call_meets F.slot_dict_eq_refl ⟨_, he, rfl⟩ F.entry_dict_eq (F.args_dict_eq_2 _ _) dec_dtup ⟨hr, he, y⟩
end
mutual
/-- whole numbers, texts, tuples of such -/
def leftD : PyData → Bool
  | .int _ => true
  | .str _ => true
  | .tuple xs => leftAll xs
  | .none => false
  | .bool _ => false
  | .list _ => false
  | .dict _ => false
def leftAll : List PyData → Bool
  | [] => true
  | x :: xs => leftD x && leftAll xs
end
mutual
theorem left_plain : ∀ d, leftD d = true → d.plain = true
  | .int _, _ => rfl
  | .str _, _ => rfl
  | .tuple xs, h => left_plainAll xs h
  | .none, h => nomatch h
  | .bool _, h => nomatch h
  | .list _, h => nomatch h
  | .dict _, h => nomatch h
theorem left_plainAll : ∀ xs, leftAll xs = true → PyData.plainAll xs = true
  | [], _ => rfl
  | x :: xs, h => by
    have h' : leftD x = true ∧ leftAll xs = true := by simpa [leftAll] using h
    simp only [PyData.plainAll, left_plain x h'.1, left_plainAll xs h'.2, Bool.and_self]
end
mutual
theorem eq_left : ∀ (da db : PyData) (A : Around) (s : Shared) (a b : Value) (as bs : List Addr), Reads s.heap a da as → Reads s.heap b db bs → leftD da = true → A.units + min da.depth db.depth < cLine → EqAt A s a b (PyData.eqv da db)
  | .int i, _, A, s, _, _, _, _, ra, rb, _, hu => by
    cases ra
    cases rb with
    | none => exact .int_none i _
    | bool y => exact .int_bool i _ y
    | int y u => exact .int_int i _ y u
    | str y u => exact .int_str i _ y u
    | list k1 k2 k3 _ => exact .int_list i _ ⟨_, k1, k2, _, k3⟩ (room_here hu)
    | tuple k1 k2 k3 _ => exact .int_tuple i _ ⟨_, k1, k2, _, k3⟩ (room_here hu)
    | dict k1 k2 k3 _ _ => exact eq_int_dic ⟨_, _, _, k1, k2, k3⟩ (room_here hu)
  | .str z, _, A, s, _, _, _, _, ra, rb, _, hu => by
    cases ra
    cases rb with
    | none => exact .str_none z _
    | bool y => exact .str_bool z _ y
    | int y u => exact .str_int z _ y u
    | str y u => exact .str_str z _ y u
    | list k1 k2 k3 _ => exact .str_list z _ ⟨_, k1, k2, _, k3⟩ (room_here hu)
    | tuple k1 k2 k3 _ => exact .str_tuple z _ ⟨_, k1, k2, _, k3⟩ (room_here hu)
    | dict k1 k2 k3 _ _ => exact eq_str_dic ⟨_, _, _, k1, k2, k3⟩ (room_here hu)
  | .tuple xs, db, A, s, _, _, _, _, ra, rb, ha, hu => by
    cases ra with
    | @tuple r o vs n _ ar g1 g2 g3 g4 =>
      have hr : s.heap.IsTuple r vs := ⟨_, g1, g2, _, g3⟩
      cases rb with
      | none => exact .tuple_none hr (room_here hu)
      | bool y => exact .tuple_bool y hr (room_here hu)
      | int y u => exact .tuple_int y u hr (room_here hu)
      | str y u => exact .tuple_str y u hr (room_here hu)
      | list k1 k2 k3 _ => exact .tuple_list hr ⟨_, k1, k2, _, k3⟩ (room_here hu)
      | dict k1 k2 k3 _ _ => exact eq_tup_dic hr ⟨_, _, _, k1, k2, k3⟩ (room_here hu)
      | @tuple q o' ws n' ys br k1 k2 k3 k4 =>
        have hq : s.heap.IsTuple q ws := ⟨_, k1, k2, _, k3⟩
        have z1 := ReadsAll.length _ _ _ g4
        have z2 := ReadsAll.length _ _ _ k4
        rw [Array.length_toList] at z1 z2
        show EqAt A s (.ref r) (.ref q) (PyData.eqvAll xs ys)
        by_cases e : r = q
        · subst e
          have e2 := plain_unique (.tuple xs) (.tuple ys) (.ref r) _ _ (left_plain _ ha) (.tuple g1 g2 g3 g4) (.tuple k1 k2 k3 k4)
          cases e2
          rw [eqvAll_refl_plain xs (left_plainAll xs ha)]
          exact EqAt.same _
        · have z3 := (eqvAll_eq xs ys).symm
          rw [z3, ← z1, ← z2]
          refine EqAt.of_refs e (RcAt.tuples hr hq (room_here hu) fun j h1 h2 => ?_)
          have := eq_leftAll xs ys A.in1 s vs.toList ws.toList _ _ g4 k4 ha (room_in hu) j (by rw [Array.length_toList]; exact h1) (by rw [Array.length_toList]; exact h2)
          rw [Array.getElem_toList, Array.getElem_toList] at this
          exact this
  | .none, _, _, _, _, _, _, _, _, _, h, _ => nomatch h
  | .bool _, _, _, _, _, _, _, _, _, _, h, _ => nomatch h
  | .list _, _, _, _, _, _, _, _, _, _, h, _ => nomatch h
  | .dict _, _, _, _, _, _, _, _, _, _, h, _ => nomatch h
theorem eq_leftAll : ∀ (xs ys : List PyData) (A : Around) (s : Shared) (vs ws : List Value) (as bs : List Addr), ReadsAll s.heap vs xs as → ReadsAll s.heap ws ys bs → leftAll xs = true → A.units + min (PyData.depthAll xs) (PyData.depthAll ys) < cLine → ∀ j (h1 : j < vs.length) (h2 : j < ws.length), EqAt A s vs[j] ws[j] (pairEq xs ys j)
  | [], _, _, _, _, _, _, _, ra, _, _, _, _, h1, _ => by
    cases ra
    cases h1
  | _ :: _, [], _, _, _, _, _, _, _, rb, _, _, _, _, h2 => by
    cases rb
    cases h2
  | x :: xs, y :: ys, A, s, _, _, _, _, ra, rb, ha, hu, j, h1, h2 => by
    have ha' : leftD x = true ∧ leftAll xs = true := by simpa [leftAll] using ha
    cases ra with
    | cons r rs =>
      cases rb with
      | cons q qs =>
        match j with
        | 0 => exact eq_left x y A s _ _ _ _ r q ha'.1 (room_head hu)
        | j + 1 => exact eq_leftAll xs ys A s _ _ _ _ rs qs ha'.2 (room_tail hu) j (Nat.lt_of_succ_lt_succ h1) (Nat.lt_of_succ_lt_succ h2)
end
end PySem.SeqAt
set_option Elab.async false
set_option linter.all false
set_option maxRecDepth 100000
set_option maxHeartbeats 4000000
/-! o[k] by the own method, with a fact about that one method -/
namespace Tp
open PySem PySem.Spec PyProof.Rows L2
section
variable {X : Cx} {j : Nat} {C : Addr} {sp : Sp} {o i : Expr} {pos : Pos} {to ti : TE} {W : WX}
theorem pe_getL (c : Ctr X.prog X.w X.K X.mg X.base j C "__getitem__" [] sp) (hfn : ∀ f, PySem.W.findIn X.K (.ref C) "__getitem__" = some (some (.ref f)) → PySem.W.fnIn X.K f = true) (hr : Room (j + 1) X.A) (hG : X.A.guards = some []) (tk : Takes X W) (ho : PE X o to) (hi : PE X i ti)
    (hsl : ∀ (a : Addr) (v : Value), subscripted i true (.ref a) v = runValue (.builtin "lifetime.subscript" ⟨[.ref a, v], []⟩) := by (intro _ _; with_unfolding_all rfl)) : PE X (.Subscript o i pos) (tGetX C sp W to ti) := by
  refine ⟨fun pins s σ H Q I h => ?_⟩
  refine Subscript_ (thn (ho.run pins s σ H _ I h) fun u s1 ⟨y, H1, I1, r1, q1⟩ => thn (hi.run pins s1 σ H1 _ I1 q1) fun v s2 ⟨x, H2, I2, r2, a, dx, fs, ey, ha, q2⟩ => ?_)
  subst ey
  cases (show u = Value.ref a from r1)
  obtain ⟨f, fd, ps, ds, cl, hm, F, hb, hd⟩ := c.ex
  cases hd
  obtain ⟨ox, od, J⟩ := ins_at I2 ha
  obtain ⟨m, hF⟩ := I2.fr
  exact PySem.W.sub_K hF I2.ok.mod.kin J hm.at_ (hfn _ hm.at_) hm.fn (run_gX (A := X.A.in1) (us := [.ref a, v]) (vs := [.ref a, x]) F hr.in1 hG rfl hb .nil tk I2 (.cons rfl (.cons r2 .nil)) q2) (hsl _ _)
end
end Tp
set_option Elab.async false
set_option linter.all false
set_option maxRecDepth 100000
set_option maxHeartbeats 4000000
namespace T04
open PySem PySem.Spec PyProof.Rows L2 Tp
section
variable {P : Program} {w : World} {K : PySem.W.Frag} {mg : Str → Option Value} {base : Heap} {f : Addr} {fd : FuncData}

open PySem.SeqAt in
theorem leftAll_mem {h : Heap} : ∀ {ds : List PyData} {vs : List Value} {as : List Addr} {z : Value} {dy : PyData} {bs : List Addr}, SeqAt.leftAll ds = true → ReadsAll h vs ds as → z ∈ vs → Reads h z dy bs → dy.canLay0 = true → SeqAt.leftD dy = true
  | [], _, _, _, _, _, _, r, hz, _, _ => by
    cases r
    cases hz
  | d :: ds, _, _, _, _, _, hl, r, hz, ry, hc => by
    have h' : leftD d = true ∧ leftAll ds = true := by simpa [leftAll] using hl
    cases r with
    | cons r rs =>
      rcases List.mem_cons.mp hz with e | e
      · subst e
        rw [← plain_unique d _ _ _ _ (left_plain d h'.1) r ry]
        exact h'.1
      · exact leftAll_mem h'.2 rs e ry hc
section
variable {X : Cx}
/-- x not in a list of rows, x any data -/
def rNotInL (K : PySem.W.Frag) : R2 := fun x y H Q => ∃ d ds, Dd K H x d ∧ Dp K H y (.list ds) ∧ SeqAt.leftAll ds = true ∧ PyData.canLayAll0 ds = true ∧ PyData.depthAll ds ≤ 8 ∧ Q (.bl (!ds.any fun z => PyData.eqv z d)) H
open PySem.SeqAt in
theorem op_notInL {K : PySem.W.Frag} (S : Sm K) (eK : X.K = K) (hu : X.A.units + 65 < cLine) : OpR X (compareOp .NotIn) (rNotInL K) := by
  subst eK
  intro pins s σ H x y v u Q I rx ry h
  obtain ⟨d, ds, hd, he, hl, hc, hdp, q⟩ := h
  obtain ⟨as, r1, _⟩ := Dd.reads I S d x v hd rx
  obtain ⟨bs, r2⟩ := Dp.reads I (.list ds) y u he ry
  cases r2 with
  | @list a o vs n _ cs h1 h2 h3 h4 =>
    refine notIn_listAt (fun z => PyData.eqv (readOf s.heap z) d) ⟨_, h1, h2, _, h3⟩ (fun z hz => ?_) ?_
    · obtain ⟨dy, es, ry, hcy, hle⟩ := readsAll_mem ds _ _ hc h4 z (by simpa using hz)
      rw [readOf_eq hcy ry]
      refine eq_left dy d _ s z v _ _ ry r1 (leftAll_mem hl h4 (by simpa using hz) ry hcy) ?_
      have e1 : min dy.depth d.depth ≤ 8 := Nat.le_trans (Nat.min_le_left _ _) (Nat.le_trans hle hdp)
      show X.A.units + 1 + min dy.depth d.depth < cLine
      omega
    · rw [any_by_data h4 hc]
      exact ⟨.bl _, H, I, rfl, q⟩
end
/-- the exceptions that UnknownTerm is, and is not -/
structure TxtU (K : PySem.W.Frag) (CU CM CNE CS : Addr) : Prop where
  xU : ExK K CU
  uu : PySem.W.exmOne K (.ref CU) (.ref CU) = some true
  um : PySem.W.kitOne K (.ref CU) (.ref CM) = some true
  us : PySem.W.kitAny K (.ref CU) [.ref CNE, .ref CS] = some false
  fU : PySem.W.findIn K (.ref CU) "number" = some none
theorem nice_pair {z : Str} {d : PyData} (h : Nice 200 1 d) (hz : Nice 50 0 (.str z) := by exact ⟨by decide +kernel, by decide +kernel, by decide +kernel, by decide +kernel⟩) : Nice 300 3 (.list [.str z, d]) := by
  refine ⟨?_, ?_, ?_, ?_⟩
  · simp only [PyData.showable, PyData.showableAll, h.sh, Bool.and_self]
  · have h2 := h.ls
    have h3 := hz.ls
    simp only [PyData.leavesShort, PyData.leavesShortAll] at h2 h3 ⊢
    rw [h2, h3]
    rfl
  · have h2 := h.wt
    have h3 := hz.wt
    simp only [PyData.weight, PyData.weightAll] at h2 h3 ⊢
    omega
  · have h2 := h.dp
    simp only [PyData.depth, PyData.depthAll] at h2 ⊢
    omega
def spNums (P : Program) (w : World) (K : PySem.W.Frag) (C : Addr) : Sp := fun vs H Q _ => ∃ (p : Addr) (fp : List Addr) (rs : List RowK), vs = [.ref p, .int (rs.length : Nat)] ∧ BookAt P w K H C p fp rs ∧ rs.length ≤ 1000 ∧ ∀ H', Same H H' → Q (.bl true) H'

abbrev sNu : Stmt := top 52
abbrev nNu : List Str := ["_law_book", "_law_many", "_law_thing", "_law_found", "e", "_law_right"]
theorem scNu : FnScope nNu ["_law_book", "_law_many"] (defScope sNu) := ⟨rfl, rfl, rfl, by decide +kernel, rfl, by decide +kernel, by decide +kernel⟩

theorem ok_Nu (F : Fun K "_law_numbers_refused" "_law_numbers_refused" sNu f fd) {C CU CM CNE CS : Addr} (T : TxtL mg) (TU : TxtU K CU CM CNE CS) (S : Sm K) (mU : mg "UnknownTerm" = some (.ref CU)) (mM : mg "MissingError" = some (.ref CM)) (mNE : mg "NetError" = some (.ref CNE)) (mS : mg "StateError" = some (.ref CS)) (gi : ∀ f, PySem.W.findIn K (.ref C) "__getitem__" = some (some (.ref f)) → PySem.W.fnIn K f = true) (GI : Ctr P w K mg base 5 C "__getitem__" [] (spItem P w K C CU)) : FnG P w K mg base CX0 7 f fd ["_law_book", "_law_many"] (spNums P w K C) := by
  refine FunG.ok F scNu (fun vs H Q E h => ?_) (fun cdv B out s H vs Q E hr hG h => ?_)
  · obtain ⟨p, fp, rs, rfl, _⟩ := h
    rfl
  · obtain ⟨p, fp, rs, rfl, hB, hl, q⟩ := h
    refine ⟨_, (pss_cons (ps_for PassesOwn.never rfl (pi_list (pe_lst (pa_cons (pv 1) (pa_cons (pe_op op_sub pe_int pe_int) (pa_cons pe_non (pa_cons pe_bl (pa_cons pe_str (pa_cons (pe_lst (pa_cons pe_int pa_nil)) (pa_cons (pe_tup (pa_cons pe_int pa_nil)) (pa_cons (pe_op op_add (pv 1) (pe_op op_pow pe_int pe_int)) pa_nil)))))))))) (pg_name (i := 2) scNu.nd rfl (Or.inl rfl)) (pss_cons (ps_set (i := 3) scNu.nd rfl (.inl rfl) (pe_lst (pa_cons pe_str pa_nil)))
        (pss_cons (ps_try_cla rfl rfl scNu.nd takes0 (fun W pn xe tk _ => pss_one (ps_set (i := 3) scNu.nd rfl (.inl rfl) (pe_lst (pa_cons pe_str (pa_cons (pe_getL GI gi (hr.mono (by decide)) hG tk (pv 0) (pv 2)) pa_nil))))) (ClaOk.named (i := 4) ⟨by rfl, by decide, .inl mU⟩ rfl rfl (fun a oe cls d pn hz hf => pss_cons (ps_set (i := 5) scNu.nd rfl (.inl rfl) (pe_and (pe_callB (call_isH hz hf) (by rfl) T.isinstance (by decide +kernel) (pa_cons (pv 4) (pa_cons (gl_c (v := .ref CM) (by rfl) ⟨_, mM, rfl⟩) pa_nil))) (pe_one (pe_not (pe_callB (call_isHT hz hf) (by rfl) T.isinstance (by decide +kernel) (pa_cons (pv 4) (pa_cons (pe_tup (pa_cons (gl_c (v := .ref CNE) (by rfl) ⟨_, mNE, rfl⟩) (pa_cons (gl_c (v := .ref CS) (by rfl) ⟨_, mS, rfl⟩) pa_nil))) pa_nil))))))) (pss_one (ps_set (i := 3) scNu.nd rfl (.inl rfl) (pe_ifExp (pt_val (pv 5)) (pe_lst (pa_cons pe_str (pa_cons (pe_xh2 hz hf (pv 4)) pa_nil))) (pe_lst pa_nil))))) .nil))
        (pss_one (ps_if (pt_cmpR op_ne (pe_callB (call_reprD S hr hG) (by rfl) T.repr (by decide +kernel) (pa_cons (pv 3) pa_nil)) (pe_callB (call_reprD S hr hG) (by rfl) T.repr (by decide +kernel) (pa_cons (pe_lst (pa_cons pe_str (pa_cons (pv 2) pa_nil))) pa_nil)) (nomark _)) (pss_one (ps_ret pe_bl)) pss_nil)))))
      (pss_one (ps_ret pe_bl))), ?_⟩
    refine ⟨_, rfl, _, _, rfl, rfl, (by show 1 ≤ sizeLine; decide), fun l0 e0 => ⟨(by show 1 ≤ sizeLine; decide), fun t0 e1 => ⟨_, rfl, _, _, rfl, rfl, ⟨by decide, by decide, by decide⟩, _, _, rfl, rfl, (by show 8 ≤ sizeLine; decide), fun L eL => ?_⟩⟩⟩
    have s0 : Same H (upd H l0 (.lst [V.int 0])) := Same.put e0
    have h0 : (upd H l0 (.lst [V.int 0])) l0 = some (.lst [V.int 0]) := upd_same
    generalize upd H l0 (.lst [V.int 0]) = H0 at s0 h0 e1 eL ⊢
    have s1 : Same H0 (upd H0 t0 (.tup [V.int 0])) := Same.put e1
    have h1 : (upd H0 t0 (.tup [V.int 0])) t0 = some (.tup [V.int 0]) := upd_same
    generalize upd H0 t0 (.tup [V.int 0]) = H1 at s1 h1 eL ⊢
    have s2 := Same.put (o := .lst [V.int (rs.length : Nat), V.int (0 - 1), V.non, V.bl true, V.str "0", V.ref l0, V.ref t0, V.int ((rs.length : Nat) + 10 ^ (28 : Int).toNat)]) eL
    have hL : (upd H1 L (.lst [V.int (rs.length : Nat), V.int (0 - 1), V.non, V.bl true, V.str "0", V.ref l0, V.ref t0, V.int ((rs.length : Nat) + 10 ^ (28 : Int).toNat)])) L = some (.lst [V.int (rs.length : Nat), V.int (0 - 1), V.non, V.bl true, V.str "0", V.ref l0, V.ref t0, V.int ((rs.length : Nat) + 10 ^ (28 : Int).toNat)]) := upd_same
    generalize upd H1 L (.lst [V.int (rs.length : Nat), V.int (0 - 1), V.non, V.bl true, V.str "0", V.ref l0, V.ref t0, V.int ((rs.length : Nat) + 10 ^ (28 : Int).toNat)]) = H2 at s2 hL ⊢
    have hl0 : H2 l0 = some (.lst [V.int 0]) := s2 _ _ (s1 _ _ h0)
    have ht0 : H2 t0 = some (.tup [V.int 0]) := s2 _ _ h1
    have s02 := Same.tr s0 (Same.tr s1 s2)
    have hn0 : Nice 2 1 (.list [.int 0]) := ⟨by decide +kernel, by decide +kernel, by decide +kernel, by decide +kernel⟩
    have hn1 : Nice 2 1 (.tuple [.int 0]) := ⟨by decide +kernel, by decide +kernel, by decide +kernel, by decide +kernel⟩
    have hn2 : Nice 2 1 (.str "0") := ⟨by decide +kernel, by decide +kernel, by decide +kernel, by decide +kernel⟩
    have hb28 : (10 : Int) ^ (28 : Int).toNat = 10000000000000000000000000000 := by decide +kernel
    have things : ∀ (i : Nat) v, ([V.int (rs.length : Nat), V.int (0 - 1), V.non, V.bl true, V.str "0", V.ref l0, V.ref t0, V.int ((rs.length : Nat) + 10 ^ (28 : Int).toNat)] : List V)[i]? = some v → ∃ d k, Dd K H2 v d ∧ Vk K H2 v k ∧ numV rs.length v = false ∧ Nice 200 1 d := fun i v hv => by
      match i, hv with
      | 0, hv => cases hv; exact ⟨_, _, .int _, vk_int _, decide_eq_false fun z => by omega, (nice_small (k := 100) (by omega) (by decide)).mono (by decide) (by decide)⟩
      | 1, hv => cases hv; exact ⟨_, _, .int _, vk_int _, (show decide ((0 : Int) ≤ 0 - 1 ∧ (0 : Int) - 1 < (rs.length : Int)) = false from decide_eq_false fun z => by omega), (nice_small (k := 100) (by omega) (by decide)).mono (by decide) (by decide)⟩
      | 2, hv => cases hv; exact ⟨_, _, .non, vk_non, rfl, nice_none.mono (by decide) (by decide)⟩
      | 3, hv => cases hv; exact ⟨_, _, .bl true, vk_bl true, rfl, (nice_bool true).mono (by decide) (by decide)⟩
      | 4, hv => cases hv; exact ⟨_, _, .str "0", vk_str _ (by decide +kernel), rfl, hn2.mono (by decide) (by decide)⟩
      | 5, hv => cases hv; exact ⟨_, _, .lst (SqL.of hl0) (.cons (.int 0) .nil), vk_list (SqL.of hl0), rfl, hn0.mono (by decide) (by decide)⟩
      | 6, hv => cases hv; exact ⟨_, _, .tup (SqT.of ht0) (.cons (.int 0) .nil), vk_tuple (SqT.of ht0), rfl, hn1.mono (by decide) (by decide)⟩
      | 7, hv => cases hv; exact ⟨_, _, .int _, vk_int _, decide_eq_false fun z => by rw [hb28] at z; omega, (nice_small (k := 100) (by rw [hb28]; omega) (by decide)).mono (by decide) (by decide)⟩
      | i + 8, hv => simp at hv
    refine ⟨L, rfl, ⟨_, SqL.of hL⟩, for_it (walk_list (xs := [V.int (rs.length : Nat), V.int (0 - 1), V.non, V.bl true, V.str "0", V.ref l0, V.ref t0, V.int ((rs.length : Nat) + 10 ^ (28 : Int).toNat)])) (fun i σ G => (∃ o2 o3 o4 o5, σ = [some (.ref p), some (.int (rs.length : Nat)), o2, o3, o4, o5]) ∧ Same H2 G) ⟨⟨none, none, none, none, rfl⟩, Same.refl _⟩ (fun i σ G _ h => SqL.of (h.2 _ _ hL)) ?_ ?_⟩
    · rintro i v σ G G' hi ⟨⟨o2, o3, o4, o5, rfl⟩, sG⟩ ⟨rfl, hv⟩
      obtain ⟨d, k, hvd, hvk, hno, hni⟩ := things i v hv
      refine ⟨(by show 1 ≤ sizeLine; decide), fun f1 ef1 => ?_⟩
      dsimp only [gName]
      have s3 : Same G' (upd G' f1 (.lst [V.str "none"])) := Same.put ef1
      generalize upd G' f1 (.lst [V.str "none"]) = G3 at s3 ⊢
      have sG3 := Same.tr sG s3
      have hB3 := hB.up (Same.tr s02 sG3)
      obtain ⟨dx, gs, g0, a6⟩ := hB3.there
      refine ⟨_, rfl, _, rfl, p, dx, gs, rfl, g0, p, fp, rs, v, k, rfl, hB3, hvk.mono sG3, fun _ H4 dd fs s4 he hf => ⟨true, TU.uu, fun _ a ha => ?_, fun z => nomatch z⟩, fun j kk b e1 e2 _ => ?_⟩
      · refine ⟨_, rfl, CU, dd, fs, _, _, true, rfl, rfl, TU.xU, rfl, he, .own _, TU.um, ?_⟩
        refine ⟨_, rfl, iteT ⟨_, rfl, (by show 2 ≤ sizeLine; decide), fun tt ett => ⟨CU, dd, fs, tt, _, _, false, rfl, rfl, TU.xU, rfl, (Same.put ett) _ _ he, upd_same, .cons (.own _) (.cons (.own _) .nil), TU.us, ?_⟩⟩⟩
        have s5 : Same H4 (upd H4 tt (.tup [V.ref CNE, V.ref CS])) := Same.put ett
        generalize upd H4 tt (.tup [V.ref CNE, V.ref CS]) = H5 at s5 ⊢
        refine ⟨_, rfl, _, rfl, _, rfl, iteT ⟨_, rfl, rfl, CU, dd, fs, v, rfl, TU.xU, TU.fU, rfl, s5 _ _ he, hf, (by show 2 ≤ sizeLine; decide), fun f2 ef2 => ?_⟩⟩
        have s6 : Same H5 (upd H5 f2 (.lst [V.str "term", v])) := Same.put ef2
        have h6 : (upd H5 f2 (.lst [V.str "term", v])) f2 = some (.lst [V.str "term", v]) := upd_same
        generalize upd H5 f2 (.lst [V.str "term", v]) = H6 at s6 h6 ⊢
        have sG6 := Same.tr sG3 (Same.tr s4 (Same.tr s5 s6))
        have nn : Nice 300 3 (.list [.str "term", d]) := nice_pair hni
        dsimp only [gName]
        refine ⟨_, rfl, ?_⟩
        dsimp only [tNil]
        refine rReprD_of (.lst (SqL.of h6) (.cons (.str "term") (.cons (hvd.mono sG6) .nil))) nn (by decide) (by decide) ?_
        refine ⟨_, rfl, (by show 2 ≤ sizeLine; decide), fun f3 ef3 => ?_⟩
        have s7 : Same H6 (upd H6 f3 (.lst [V.str "term", v])) := Same.put ef3
        have h7 : (upd H6 f3 (.lst [V.str "term", v])) f3 = some (.lst [V.str "term", v]) := upd_same
        generalize upd H6 f3 (.lst [V.str "term", v]) = H7 at s7 h7 ⊢
        dsimp only [tNil]
        refine rReprD_of (.lst (SqL.of h7) (.cons (.str "term") (.cons (hvd.mono (Same.tr sG6 s7)) .nil))) nn (by decide) (by decide) ?_
        refine ⟨rfl, _, rfl, if_false_of (by rw [decide_eq_true rfl]; rfl) ?_⟩
        exact ⟨⟨_, _, _, _, rfl⟩, Same.tr sG6 s7⟩
      · subst e1
        have := (List.getElem?_eq_some_iff.mp e2).1
        rw [show numV rs.length (.int (j : Nat)) = decide (0 ≤ ((j : Nat) : Int) ∧ ((j : Nat) : Int) < (rs.length : Int)) from rfl, decide_eq_true ⟨by omega, by omega⟩] at hno
        cases hno
    · rintro σ G ⟨⟨o2, o3, o4, o5, rfl⟩, sG⟩
      exact q _ (Same.tr s02 sG)

end
end T04
set_option Elab.async false
set_option linter.all false
set_option maxRecDepth 100000
set_option maxHeartbeats 4000000
namespace T04
open PySem PySem.Spec PyProof.Rows L2 Tp
section
variable {P : Program} {w : World} {K : PySem.W.Frag} {mg : Str → Option Value} {base : Heap} {f : Addr} {fd : FuncData}

/-- a list of rows -/
def RowsL (K : PySem.W.Frag) (H : Hp) (l : Addr) (rs : List RowK) : Prop := ∃ as : List Addr, SqL K H l (as.map V.ref) ∧ as.length = rs.length ∧ ∀ (i : Nat) (k : RowK) (a : Addr), rs[i]? = some k → as[i]? = some a → RowAt K H k a
theorem RowsL.up {H H' : Hp} {l : Addr} {rs : List RowK} (s : Same H H') (h : RowsL K H l rs) : RowsL K H' l rs := by
  obtain ⟨as, h1, h2, h3⟩ := h
  exact ⟨as, upL s h1, h2, fun i k a e1 e2 => (h3 i k a e1 e2).mono fun _ _ => upT s⟩
/-- as many rows as the law makes -/
def SmR (rs : List RowK) : Prop := rs.length ≤ 60 ∧ ∀ k ∈ rs, ∀ n : Int, k.2 = .inl n → n.natAbs < 2 ^ 100
theorem name_tz {z : Str} (h : nameB (TL.tl z) = true) : Tz 8 z := ⟨by have := (name_ok h).2; rw [TL.len_tl] at this; exact this, fun c hc => smD_str (name_sm h).2 c hc⟩
theorem row_nice {n : Nat} {k : RowK} (h : OkK n k) (hn : n ≤ 5000) (hs : ∀ t : Int, k.2 = .inl t → t.natAbs < 2 ^ 100) : Nice 120 2 (rowD k) := by
  obtain ⟨z, r⟩ := k
  have hz : Nice 8 0 (.str z) := nice_str (name_tz h.1)
  cases r with
  | inl t =>
    exact ((NiceAll.cons hz (NiceAll.cons (nice_small (hs t rfl) (by decide)) niceAll_nil)).tuple).mono (by decide) (by decide)
  | inr ns =>
    have hl : ns.length ≤ 3 := h.2.1
    have ha : Nice (ns.length * 15) 1 (.tuple (ns.map PyData.int)) := by
      have := (niceAll_of (n := 14) (k := 0) (ds := ns.map PyData.int) fun d hd => by
        obtain ⟨i, hi, rfl⟩ := List.mem_map.mp hd
        have h2 := h.2.2 i hi
        exact (nice_small (k := 14) (by omega) (by decide)).mono (by decide) (by decide)).tuple
      rw [List.length_map] at this
      exact this.mono (by omega) (by decide)
    exact ((NiceAll.cons hz (NiceAll.cons ha niceAll_nil)).tuple).mono (by omega) (by decide)
theorem rows_nice {rs : List RowK} (h : OkRows rs) (hs : SmR rs) : Nice 8000 4 (.list (rs.map rowD)) := by
  have := (niceAll_of (n := 120) (k := 2) (ds := rs.map rowD) fun d hd => by
    obtain ⟨k, hk, rfl⟩ := List.mem_map.mp hd
    obtain ⟨i, hi⟩ := List.mem_iff_getElem?.mp hk
    have := (List.getElem?_eq_some_iff.mp hi).1
    have := hs.1
    exact row_nice (h i k hi) (by omega) (hs.2 k hk)).list
  refine this.mono ?_ (by decide)
  rw [List.length_map]
  have := hs.1
  omega
theorem row_parts {H : Hp} {k : RowK} {a : Addr} (h : RowAt K H k a) : ∃ v1 d1, SqT K H a [.str k.1, v1] ∧ RestAt K H v1 k ∧ Dd K H v1 d1 ∧ rowD k = .tuple [.str k.1, d1] ∧ ((∃ n, k.2 = .inl n ∧ d1 = .int n) ∨ ∃ ns, k.2 = .inr ns ∧ d1 = .tuple (ns.map PyData.int)) := by
  obtain ⟨z, r⟩ := k
  obtain ⟨h0, ⟨n, e, h1⟩ | ⟨ns, b, e, h1, h2⟩⟩ := h
  · dsimp only at e
    subst e
    exact ⟨_, .int n, h1, .inl ⟨n, rfl, rfl⟩, .int n, rfl, .inl ⟨n, rfl, rfl⟩⟩
  · dsimp only at e
    subst e
    exact ⟨_, .tuple (ns.map PyData.int), h1, .inr ⟨b, ns, rfl, h2, rfl⟩, .tup h2 (dd_ints' ns), rfl, .inr ⟨ns, rfl, rfl⟩⟩
theorem mem_row {rs : List RowK} {k : RowK} {d d1 : PyData} (hR : OkRows rs) (hk : k ∈ rs) (e : seqD d = some [.str k.1, d1]) (h : (∃ n, k.2 = .inl n ∧ d1 = .int n) ∨ ∃ ns, k.2 = .inr ns ∧ d1 = .tuple (ns.map PyData.int)) : memD rs d = true := by
  obtain ⟨z, r⟩ := k
  rcases h with ⟨n, e1, rfl⟩ | ⟨ns, e1, rfl⟩
  · dsimp only at e1
    subst e1
    exact mem_int hR hk e
  · dsimp only at e1
    subst e1
    exact mem_seq hR hk e rfl
theorem mem_name {rs : List RowK} {d d0 d1 : PyData} (e : seqD d = some [d0, d1]) (h : nameD d0 = false) : memD rs d = false := by
  cases hf : formB d with
  | false => exact mem_no hf
  | true =>
    unfold memD
    rw [key_some hf e, h, Bool.false_and, if_neg (by decide)]
theorem rows_left : ∀ rs : List RowK, SeqAt.leftAll (rs.map rowD) = true
  | [] => rfl
  | (z, .inl n) :: rs => by
    simp only [List.map_cons, SeqAt.leftAll, rows_left rs, Bool.and_true]
    rfl
  | (z, .inr ns) :: rs => by
    have h : ∀ ns : List Int, SeqAt.leftAll (ns.map PyData.int) = true := fun ns => by
      induction ns with
      | nil => rfl
      | cons n ns ih => simp only [List.map_cons, SeqAt.leftAll, SeqAt.leftD, ih, Bool.and_self]
    simp only [List.map_cons, SeqAt.leftAll, rows_left rs, Bool.and_true]
    simp only [rowD, SeqAt.leftD, SeqAt.leftAll, h ns, Bool.and_self]
/-- things that are no rows, or may be rows -/
def outs (n : Nat) : List PyData := [.none, .int 3, .str "a", .tuple [.str "a"], .tuple [.str "zz9", .tuple []], .tuple [.str "a", .int n], .list [], .dict [], .tuple [.int 1, .int 2], .tuple [.str "f", .tuple [.bool true]], .tuple [.str "x", .bool true]] ++ [.tuple [.str "x", .str "0"], .tuple [.str "f", .list [.list [.int 0]]], .tuple [.str "f", .tuple [.dict []]], .tuple [.dict [], .tuple []], .tuple [.list [], .int 0], .list [.str "f", .none]]
theorem any_key (rs : List RowK) (k : RowK) {d : PyData} (e : rowD k = d) (h : memD rs d = hasR rs k) : (rs.map rowD).any (fun z => PyData.eqv z d) = true ∨ memD rs d = false := by
  rw [h, ← e, rows_any]
  cases hasR rs k
  · exact .inr rfl
  · exact .inl rfl
theorem outs_short (n : Nat) : ∀ d ∈ outs n, shortD d = true := by
  intro d hd
  simp only [outs, List.mem_append, List.mem_cons, List.not_mem_nil, or_false] at hd
  rcases hd with (rfl | rfl | rfl | rfl | rfl | rfl | rfl | rfl | rfl | rfl | rfl) | rfl | rfl | rfl | rfl | rfl | rfl <;> first | decide +kernel | (simp only [shortD, shortAll, Bool.and_true]; decide +kernel)
theorem outs_ok {rs : List RowK} : ∀ d ∈ outs rs.length, (rs.map rowD).any (fun z => PyData.eqv z d) = true ∨ memD rs d = false := by
  intro d hd
  have kz : memD rs (.tuple [.str "zz9", .tuple []]) = hasR rs ("zz9", .inr []) := by
    unfold memD
    rw [key_some (d0 := .str "zz9") (d1 := .tuple []) (by decide +kernel) rfl, show nameD (.str "zz9") = true from by decide +kernel]
    rfl
  have ka : memD rs (.tuple [.str "a", .int rs.length]) = hasR rs ("a", .inl (rs.length : Nat)) := by
    unfold memD
    rw [key_some (d0 := .str "a") (d1 := .int rs.length) (show formB (.tuple [.str "a", .int rs.length]) = true from decide_eq_true (show (0 : Int) ≤ (rs.length : Nat) by omega)) rfl, show nameD (.str "a") = true from by decide +kernel]
    rfl
  simp only [outs, List.mem_append, List.mem_cons, List.not_mem_nil, or_false] at hd
  rcases hd with (rfl | rfl | rfl | rfl | rfl | rfl | rfl | rfl | rfl | rfl | rfl) | rfl | rfl | rfl | rfl | rfl | rfl
  · exact .inr (mem_no rfl)
  · exact .inr (mem_no rfl)
  · exact .inr (mem_no rfl)
  · exact .inr (mem_no rfl)
  · exact any_key rs ("zz9", .inr []) rfl kz
  · exact any_key rs ("a", .inl (rs.length : Nat)) rfl ka
  · exact .inr (mem_no rfl)
  · exact .inr (mem_no rfl)
  · exact .inr (mem_name rfl rfl)
  · exact .inr (mem_bad rfl rfl)
  · exact .inr (mem_no rfl)
  · exact .inr (mem_no rfl)
  · exact .inr (mem_bad rfl rfl)
  · exact .inr (mem_bad rfl rfl)
  · exact .inr (mem_name rfl rfl)
  · exact .inr (mem_name rfl rfl)
  · exact .inr (mem_no rfl)
def spHolds (P : Program) (w : World) (K : PySem.W.Frag) (C : Addr) : Sp := fun vs H Q _ => ∃ (p l : Addr) (fp : List Addr) (rs : List RowK), vs = [.ref p, .ref l] ∧ BookAt P w K H C p fp rs ∧ RowsL K H l rs ∧ SmR rs ∧ ∀ H', Same H H' → Q (.bl true) H'

abbrev sHo : Stmt := top 50
abbrev nHo : List Str := ["_law_book", "_law_rows", "_law_at", "_law_row", "_law_outside", "_law_one"]
theorem scHo : FnScope nHo ["_law_book", "_law_rows"] (defScope sHo) := ⟨rfl, rfl, rfl, by decide +kernel, rfl, by decide +kernel, by decide +kernel⟩

theorem ok_Ho (F : Fun K "_law_holds" "_law_holds" sHo f fd) {C CU : Addr} (T : TxtL mg) (S : Sm K) (gi : ∀ f, PySem.W.findIn K (.ref C) "__getitem__" = some (some (.ref f)) → PySem.W.fnIn K f = true) (CC : Ct P w K mg base 5 C "__contains__" [] (spCont P w K C)) (GI : Ctr P w K mg base 5 C "__getitem__" [] (spItem P w K C CU)) (CW : Ct P w K mg base 1 C "rows" [] (spRows P w K C)) (CL : Ct P w K mg base 1 C "__len__" [] (spLen P w K C)) (FO : Cg P w K mg base 6 "_law_forms_right" (spForms P w K C)) (NU : Cg P w K mg base 7 "_law_numbers_refused" (spNums P w K C)) : FnG P w K mg base CX0 8 f fd ["_law_book", "_law_rows"] (spHolds P w K C) := by
  refine FunG.ok F scHo (fun vs H Q E h => ?_) (fun cdv B out s H vs Q E hr hG h => ?_)
  · obtain ⟨p, l, fp, rs, rfl, _⟩ := h
    rfl
  · obtain ⟨p, l, fp, rs, rfl, hB, hL, hs, q⟩ := h
    refine ⟨_, (pss_cons (ps_if (PW.pt (pw_or (pt_cmpR op_ne (pe_callB (call_reprD S hr hG) (by rfl) T.repr (by decide +kernel) (pa_cons (pe_ct0 (pv 0) CW hr hG (by decide)) pa_nil)) (pe_callB (call_reprD S hr hG) (by rfl) T.repr (by decide +kernel) (pa_cons (pv 1) pa_nil)) (nomark _)) (pw_or1 (pt_cmpR op_ne (pe_callB (call_lenO CL (hr.mono (by decide)) hG) (by rfl) T.len PySem.boot_len (pa_cons (pv 0) pa_nil)) (pe_callB call_len (by rfl) T.len PySem.boot_len (pa_cons (pv 1) pa_nil)) (nomark _))))) (pss_one (ps_ret pe_bl)) pss_nil)
      (pss_cons (ps_for PassesOwn.never rfl (pi_enumS (by rfl) T.enumerate (pa_cons (pv 1) pa_nil)) (pg_tup rfl (pgs_cons (pg_name (i := 2) scHo.nd rfl (Or.inl rfl)) (pgs_cons (pg_name (i := 3) scHo.nd rfl (Or.inl rfl)) pgs_nil))) (pss_cons (ps_if (PW.pt (pw_or (pt_cmpR op_ne (pe_callB (call_reprD S hr hG) (by rfl) T.repr (by decide +kernel) (pa_cons (pe_getL GI gi (hr.mono (by decide)) hG takes0 (pv 0) (pv 2)) pa_nil)) (pe_callB (call_reprD S hr hG) (by rfl) T.repr (by decide +kernel) (pa_cons (pv 3) pa_nil)) (nomark _)) (pw_or (pt_cmpR (op_notInO CC (hr.mono (by decide)) hG) (pv 3) (pv 0) rfl) (pw_or1 (pt_cmpR (op_notInO CC (hr.mono (by decide)) hG) (pe_callTy call_list_of (by rfl) T.list (by decide +kernel) (pa_cons (pv 3) pa_nil)) (pv 0) rfl))))) (pss_one (ps_ret pe_bl)) pss_nil)
        (pss_one (ps_if (pt_not (pt_val (pe_g FO hr hG (by decide) (by rfl) (pa_cons (pv 0) (pa_cons (pe_ix ix_tup (pv 3) pe_int fun _ _ => rfl) (pa_cons (pe_ix ix_tup (pv 3) pe_int fun _ _ => rfl) pa_nil)))))) (pss_one (ps_ret pe_bl)) pss_nil))))
      (pss_cons (ps_set (i := 4) scHo.nd rfl (.inl rfl) (pe_lst (pa_cons pe_non (pa_cons pe_int (pa_cons pe_str (pa_cons (pe_tup (pa_cons pe_str pa_nil)) (pa_cons (pe_tup (pa_cons pe_str (pa_cons (pe_tup pa_nil) pa_nil))) (pa_cons (pe_tup (pa_cons pe_str (pa_cons (pe_callB call_len (by rfl) T.len PySem.boot_len (pa_cons (pv 1) pa_nil)) pa_nil))) (pa_cons (pe_lst pa_nil) (pa_cons pe_dnewK (pa_cons (pe_tup (pa_cons pe_int (pa_cons pe_int pa_nil))) (pa_cons (pe_tup (pa_cons pe_str (pa_cons (pe_tup (pa_cons pe_bl pa_nil)) pa_nil))) (pa_cons (pe_tup (pa_cons pe_str (pa_cons pe_bl pa_nil))) pa_nil)))))))))))))
      (pss_cons (ps_set (i := 4) scHo.nd rfl (.inl rfl) (pe_op op_cat (pv 4) (pe_lst (pa_cons (pe_tup (pa_cons pe_str (pa_cons pe_str pa_nil))) (pa_cons (pe_tup (pa_cons pe_str (pa_cons (pe_lst (pa_cons (pe_lst (pa_cons pe_int pa_nil)) pa_nil)) pa_nil))) (pa_cons (pe_tup (pa_cons pe_str (pa_cons (pe_tup (pa_cons pe_dnewK pa_nil)) pa_nil))) (pa_cons (pe_tup (pa_cons pe_dnewK (pa_cons (pe_tup pa_nil) pa_nil))) (pa_cons (pe_tup (pa_cons (pe_lst pa_nil) (pa_cons pe_int pa_nil))) (pa_cons (pe_lst (pa_cons pe_str (pa_cons pe_non pa_nil))) pa_nil)))))))))
      (pss_one (ps_ret (pe_and (pe_cmpR (op_eqDK (K := K) rfl hr.units) (pe_lc (own := [("_law_one", 5)]) (g := gName 5) rfl scHo.nd (pi_list (pv 4)) (blkOk_by (N := nHo) (sc := defScope sHo) (by decide +kernel)) (fun _ _ _ _ _ => pg_name (i := 5) scHo.nd rfl (Or.inl rfl)) (fun _ _ _ _ _ => (pts_one (PW.pt (pw_and (pt_cmpR (op_notInL S rfl (hu65 hr)) (pv 5) (pv 1) rfl) (pw_and1 (pt_cmpR (op_inO CC (hr.mono (by decide)) hG) (pv 5) (pv 0) rfl)))))) (fun _ _ _ _ _ => (pv 5))) (pe_lst pa_nil) (nomark _)) (pe_one (pe_g NU hr hG (by decide) (by rfl) (pa_cons (pv 0) (pa_cons (pe_callB call_len (by rfl) T.len PySem.boot_len (pa_cons (pv 1) pa_nil)) pa_nil))))))))))), ?_⟩
    obtain ⟨hnd, hR, h5⟩ := BookAt.ok hB
    have hRow := rows_nice hR hs
    obtain ⟨as, hl, hal, hrw⟩ := hL
    obtain ⟨dx, gs, g0, a6⟩ := hB.there
    refine ⟨_, rfl, p, dx, gs, rfl, g0, a6 _ (by decide), p, fp, rs, rfl, hB, fun l1 H1 bs e1 eH1 hbl hbr => ?_⟩
    subst eH1
    have s1 : Same H (upd H l1 (.lst (bs.map V.ref))) := Same.put e1
    have h1 : (upd H l1 (.lst (bs.map V.ref))) l1 = some (.lst (bs.map V.ref)) := upd_same
    generalize upd H l1 (.lst (bs.map V.ref)) = H1 at s1 h1 ⊢
    dsimp only [tNil]
    refine rReprD_of (.lst (SqL.of h1) (Tp.rows_dd hbl fun i k a x y => (hbr i k a x y).mono fun _ _ => upT s1)) hRow (by decide) (by decide) ?_
    refine ⟨_, rfl, ?_⟩
    dsimp only [tNil]
    refine rReprD_of (.lst (upL s1 hl) (Tp.rows_dd hal fun i k a x y => (hrw i k a x y).mono fun _ _ => upT s1)) hRow (by decide) (by decide) ?_
    refine ⟨rfl, _, rfl, if_false_of (by rw [decide_eq_true rfl]; rfl) ?_⟩
    have hB1 := hB.up s1
    obtain ⟨dx1, gs1, g01, _⟩ := hB1.there
    refine ⟨_, rfl, p, dx1, gs1, rfl, g01, p, fp, rs, rfl, hB1, rs.length, rfl, (by rw [PySem.sizeLine_eq]; omega), _, rfl, _, _, rfl, .inl ⟨_, upL s1 hl, rfl⟩, ?_⟩
    rw [List.length_map, hal]
    refine ⟨rfl, _, rfl, if_false_of (by rw [decide_eq_true rfl]; rfl) ?_⟩
    dsimp only [tNext]
    refine ⟨_, rfl, l, rfl, enum_it (.inl (upL s1 hl)) fun J wk => ?_⟩
    refine for_it wk (fun i σ G => Same H1 G ∧ ∃ o2 o3, σ = [some (.ref p), some (.ref l), o2, o3, none, none]) ⟨Same.refl _, none, none, rfl⟩ (fun _ _ _ _ h => h.1) ?_ ?_
    · rintro i x σ G G' hi ⟨kG, o2, o3, rfl⟩ ⟨pp, x0, y, rfl, hp, rfl, h0, hx⟩
      cases h0
      have sp1 : Same G (upd G pp (.tup [.int (i : Nat), y])) := Same.put hp
      have hg1 : (upd G pp (.tup [V.int (i : Nat), y])) pp = some (.tup [.int (i : Nat), y]) := upd_same
      generalize upd G pp (.tup [V.int (i : Nat), y]) = G1 at sp1 hg1 ⊢
      have kG1 := Same.tr kG sp1
      have sHG := Same.tr s1 kG1
      replace hx : (as.map V.ref)[i]? = some y := hx
      rw [List.getElem?_map] at hx
      obtain ⟨a, ha, rfl⟩ := Option.map_eq_some_iff.mp hx
      have hir : i < rs.length := by
        have := (List.getElem?_eq_some_iff.mp ha).1
        omega
      have hki : rs[i]? = some rs[i] := List.getElem?_eq_getElem hir
      obtain ⟨k, hk⟩ : ∃ k, rs[i]? = some k := ⟨_, hki⟩
      clear hki
      have hA : RowAt K G1 k a := (hrw i k a hk ha).mono fun _ _ => upT sHG
      have hkr : k ∈ rs := List.mem_of_getElem? hk
      have hOk := hR i k hk
      have hni : Nice 120 2 (rowD k) := row_nice hOk (by omega) (hs.2 k hkr)
      refine ⟨pp, _, rfl, SqT.of hg1, rfl, _, _, rfl, _, _, rfl, rfl, ?_⟩
      have hBG := hB.up sHG
      obtain ⟨dx2, gs2, g02, _⟩ := hBG.there
      refine ⟨_, rfl, _, rfl, p, dx2, gs2, rfl, g02, p, fp, rs, _, _, rfl, hBG, vk_int _, fun e => ?_, fun j kk b ej hj hAb => ?_⟩
      · rw [show numV rs.length (.int (i : Nat)) = decide (0 ≤ ((i : Nat) : Int) ∧ ((i : Nat) : Int) < (rs.length : Int)) from rfl, decide_eq_true ⟨by omega, by omega⟩] at e
        cases e
      have ej2 : i = j := Int.ofNat.inj (V.int.inj ej)
      subst ej2
      rw [hk] at hj
      cases hj
      dsimp only [tNil]
      refine rReprD_of (Tp.row_dd hAb) hni (by decide) (by decide) ?_
      refine ⟨_, rfl, ?_⟩
      dsimp only [tNil]
      refine rReprD_of (Tp.row_dd hA) hni (by decide) (by decide) ?_
      refine ⟨rfl, _, rfl, if_false_of (by rw [decide_eq_true rfl]; rfl) ?_⟩
      obtain ⟨v1, d1, q1, q2, q3, q4, q5⟩ := row_parts hA
      refine ⟨_, rfl, _, rfl, ?_⟩
      refine in_book hBG (Tp.row_dd hA) (short_row hOk) fun G2 s2 => ⟨_, rfl, ?_⟩
      rw [mem_row hR hkr (by rw [q4]; rfl) q5]
      refine iteF ?_
      refine ⟨_, rfl, a, _, rfl, .inr (upT s2 q1), fun ll ell => ⟨_, rfl, ?_⟩⟩
      have s3 : Same G2 (upd G2 ll (.lst [V.str k.1, v1])) := Same.put ell
      have h3 : (upd G2 ll (.lst [V.str k.1, v1])) ll = some (.lst [V.str k.1, v1]) := upd_same
      generalize upd G2 ll (.lst [V.str k.1, v1]) = G3 at s3 h3 ⊢
      have s23 := Same.tr s2 s3
      refine in_book (hBG.up s23) (d := .list [.str k.1, d1]) (.lst (SqL.of h3) (.cons (.str _) (.cons (q3.mono s23) .nil))) ?_ fun G4 s4 => ⟨_, rfl, ?_⟩
      · have := short_row hOk
        rw [q4] at this
        simpa only [shortD] using this
      rw [mem_row hR hkr rfl q5]
      refine iteF ?_
      dsimp only [tNext]
      have s24 := Same.tr s23 s4
      have hT4 := upT s24 q1
      refine ⟨_, rfl, _, rfl, a, _, _, _, rfl, rfl, hT4, atI_nat (j := 0) rfl, _, rfl, a, _, _, _, rfl, rfl, hT4, atI_nat (j := 1) rfl, ?_⟩
      refine ⟨p, fp, rs, k, v1, rfl, hBG.up s24, hkr, q2.up s24, fun G5 s5 => ⟨_, rfl, ?_⟩⟩
      exact iteF ⟨Same.tr kG1 (Same.tr s24 s5), _, _, rfl⟩
    · rintro σ G ⟨kG, o2, o3, rfl⟩
      have sG := Same.tr s1 kG
      have hlG := upL sG hl
      refine ⟨(by show 1 ≤ sizeLine; decide), fun T1 e51 => ?_⟩
      have s51 : Same G (upd G T1 (.tup [V.str "a"])) := Same.put e51
      have t1 : (upd G T1 (.tup [V.str "a"])) T1 = some (.tup [V.str "a"]) := upd_same
      generalize upd G T1 (.tup [V.str "a"]) = K1 at s51 t1 ⊢
      have es1 : Same G K1 := s51
      refine ⟨(by show 0 ≤ sizeLine; decide), fun T2 e52 => ?_⟩
      have s52 : Same K1 (upd K1 T2 (.tup [])) := Same.put e52
      have t2 : (upd K1 T2 (.tup [])) T2 = some (.tup []) := upd_same
      generalize upd K1 T2 (.tup []) = K2 at s52 t2 ⊢
      have es2 : Same G K2 := Same.tr es1 s52
      refine ⟨(by show 2 ≤ sizeLine; decide), fun T3 e53 => ?_⟩
      have s53 : Same K2 (upd K2 T3 (.tup [V.str "zz9", V.ref T2])) := Same.put e53
      have t3 : (upd K2 T3 (.tup [V.str "zz9", V.ref T2])) T3 = some (.tup [V.str "zz9", V.ref T2]) := upd_same
      generalize upd K2 T3 (.tup [V.str "zz9", V.ref T2]) = K3 at s53 t3 ⊢
      have es3 : Same G K3 := Same.tr es2 s53
      refine ⟨_, rfl, _, _, rfl, .inl ⟨_, (upL es3 hlG), rfl⟩, (by show 2 ≤ sizeLine; decide), fun T4 e54 => ?_⟩
      have s54 : Same K3 (upd K3 T4 (.tup [V.str "a", V.int ((as.map V.ref).length : Nat)])) := Same.put e54
      have t4 : (upd K3 T4 (.tup [V.str "a", V.int ((as.map V.ref).length : Nat)])) T4 = some (.tup [V.str "a", V.int ((as.map V.ref).length : Nat)]) := upd_same
      generalize upd K3 T4 (.tup [V.str "a", V.int ((as.map V.ref).length : Nat)]) = K4 at s54 t4 ⊢
      have es4 : Same G K4 := Same.tr es3 s54
      refine ⟨(by show 0 ≤ sizeLine; decide), fun L5 e55 => ?_⟩
      have s55 : Same K4 (upd K4 L5 (.lst [])) := Same.put e55
      have t5 : (upd K4 L5 (.lst [])) L5 = some (.lst []) := upd_same
      generalize upd K4 L5 (.lst []) = K5 at s55 t5 ⊢
      have es5 : Same G K5 := Same.tr es4 s55
      refine fun D6 e56 => ?_
      have s56 : Same K5 (upd K5 D6 (.dK [])) := Same.put e56
      have t6 : (upd K5 D6 (.dK [])) D6 = some (.dK []) := upd_same
      generalize upd K5 D6 (.dK []) = K6 at s56 t6 ⊢
      have es6 : Same G K6 := Same.tr es5 s56
      refine ⟨(by show 2 ≤ sizeLine; decide), fun T7 e57 => ?_⟩
      have s57 : Same K6 (upd K6 T7 (.tup [V.int 1, V.int 2])) := Same.put e57
      have t7 : (upd K6 T7 (.tup [V.int 1, V.int 2])) T7 = some (.tup [V.int 1, V.int 2]) := upd_same
      generalize upd K6 T7 (.tup [V.int 1, V.int 2]) = K7 at s57 t7 ⊢
      have es7 : Same G K7 := Same.tr es6 s57
      refine ⟨(by show 1 ≤ sizeLine; decide), fun T8 e58 => ?_⟩
      have s58 : Same K7 (upd K7 T8 (.tup [V.bl true])) := Same.put e58
      have t8 : (upd K7 T8 (.tup [V.bl true])) T8 = some (.tup [V.bl true]) := upd_same
      generalize upd K7 T8 (.tup [V.bl true]) = K8 at s58 t8 ⊢
      have es8 : Same G K8 := Same.tr es7 s58
      refine ⟨(by show 2 ≤ sizeLine; decide), fun T9 e59 => ?_⟩
      have s59 : Same K8 (upd K8 T9 (.tup [V.str "f", V.ref T8])) := Same.put e59
      have t9 : (upd K8 T9 (.tup [V.str "f", V.ref T8])) T9 = some (.tup [V.str "f", V.ref T8]) := upd_same
      generalize upd K8 T9 (.tup [V.str "f", V.ref T8]) = K9 at s59 t9 ⊢
      have es9 : Same G K9 := Same.tr es8 s59
      refine ⟨(by show 2 ≤ sizeLine; decide), fun T10 e60 => ?_⟩
      have s60 : Same K9 (upd K9 T10 (.tup [V.str "x", V.bl true])) := Same.put e60
      have t10 : (upd K9 T10 (.tup [V.str "x", V.bl true])) T10 = some (.tup [V.str "x", V.bl true]) := upd_same
      generalize upd K9 T10 (.tup [V.str "x", V.bl true]) = K10 at s60 t10 ⊢
      have es10 : Same G K10 := Same.tr es9 s60
      refine ⟨(by show 11 ≤ sizeLine; decide), fun L11 e61 => ?_⟩
      have s61 : Same K10 (upd K10 L11 (.lst [V.non, V.int 3, V.str "a", V.ref T1, V.ref T3, V.ref T4, V.ref L5, V.ref D6, V.ref T7, V.ref T9, V.ref T10])) := Same.put e61
      have t11 : (upd K10 L11 (.lst [V.non, V.int 3, V.str "a", V.ref T1, V.ref T3, V.ref T4, V.ref L5, V.ref D6, V.ref T7, V.ref T9, V.ref T10])) L11 = some (.lst [V.non, V.int 3, V.str "a", V.ref T1, V.ref T3, V.ref T4, V.ref L5, V.ref D6, V.ref T7, V.ref T9, V.ref T10]) := upd_same
      generalize upd K10 L11 (.lst [V.non, V.int 3, V.str "a", V.ref T1, V.ref T3, V.ref T4, V.ref L5, V.ref D6, V.ref T7, V.ref T9, V.ref T10]) = K11 at s61 t11 ⊢
      have es11 : Same G K11 := Same.tr es10 s61
      dsimp only [gName]
      refine ⟨_, rfl, (by show 2 ≤ sizeLine; decide), fun T12 e62 => ?_⟩
      have s62 : Same K11 (upd K11 T12 (.tup [V.str "x", V.str "0"])) := Same.put e62
      have t12 : (upd K11 T12 (.tup [V.str "x", V.str "0"])) T12 = some (.tup [V.str "x", V.str "0"]) := upd_same
      generalize upd K11 T12 (.tup [V.str "x", V.str "0"]) = K12 at s62 t12 ⊢
      have es12 : Same G K12 := Same.tr es11 s62
      refine ⟨(by show 1 ≤ sizeLine; decide), fun L13 e63 => ?_⟩
      have s63 : Same K12 (upd K12 L13 (.lst [V.int 0])) := Same.put e63
      have t13 : (upd K12 L13 (.lst [V.int 0])) L13 = some (.lst [V.int 0]) := upd_same
      generalize upd K12 L13 (.lst [V.int 0]) = K13 at s63 t13 ⊢
      have es13 : Same G K13 := Same.tr es12 s63
      refine ⟨(by show 1 ≤ sizeLine; decide), fun L14 e64 => ?_⟩
      have s64 : Same K13 (upd K13 L14 (.lst [V.ref L13])) := Same.put e64
      have t14 : (upd K13 L14 (.lst [V.ref L13])) L14 = some (.lst [V.ref L13]) := upd_same
      generalize upd K13 L14 (.lst [V.ref L13]) = K14 at s64 t14 ⊢
      have es14 : Same G K14 := Same.tr es13 s64
      refine ⟨(by show 2 ≤ sizeLine; decide), fun T15 e65 => ?_⟩
      have s65 : Same K14 (upd K14 T15 (.tup [V.str "f", V.ref L14])) := Same.put e65
      have t15 : (upd K14 T15 (.tup [V.str "f", V.ref L14])) T15 = some (.tup [V.str "f", V.ref L14]) := upd_same
      generalize upd K14 T15 (.tup [V.str "f", V.ref L14]) = K15 at s65 t15 ⊢
      have es15 : Same G K15 := Same.tr es14 s65
      refine fun D16 e66 => ?_
      have s66 : Same K15 (upd K15 D16 (.dK [])) := Same.put e66
      have t16 : (upd K15 D16 (.dK [])) D16 = some (.dK []) := upd_same
      generalize upd K15 D16 (.dK []) = K16 at s66 t16 ⊢
      have es16 : Same G K16 := Same.tr es15 s66
      refine ⟨(by show 1 ≤ sizeLine; decide), fun T17 e67 => ?_⟩
      have s67 : Same K16 (upd K16 T17 (.tup [V.ref D16])) := Same.put e67
      have t17 : (upd K16 T17 (.tup [V.ref D16])) T17 = some (.tup [V.ref D16]) := upd_same
      generalize upd K16 T17 (.tup [V.ref D16]) = K17 at s67 t17 ⊢
      have es17 : Same G K17 := Same.tr es16 s67
      refine ⟨(by show 2 ≤ sizeLine; decide), fun T18 e68 => ?_⟩
      have s68 : Same K17 (upd K17 T18 (.tup [V.str "f", V.ref T17])) := Same.put e68
      have t18 : (upd K17 T18 (.tup [V.str "f", V.ref T17])) T18 = some (.tup [V.str "f", V.ref T17]) := upd_same
      generalize upd K17 T18 (.tup [V.str "f", V.ref T17]) = K18 at s68 t18 ⊢
      have es18 : Same G K18 := Same.tr es17 s68
      refine fun D19 e69 => ?_
      have s69 : Same K18 (upd K18 D19 (.dK [])) := Same.put e69
      have t19 : (upd K18 D19 (.dK [])) D19 = some (.dK []) := upd_same
      generalize upd K18 D19 (.dK []) = K19 at s69 t19 ⊢
      have es19 : Same G K19 := Same.tr es18 s69
      refine ⟨(by show 0 ≤ sizeLine; decide), fun T20 e70 => ?_⟩
      have s70 : Same K19 (upd K19 T20 (.tup [])) := Same.put e70
      have t20 : (upd K19 T20 (.tup [])) T20 = some (.tup []) := upd_same
      generalize upd K19 T20 (.tup []) = K20 at s70 t20 ⊢
      have es20 : Same G K20 := Same.tr es19 s70
      refine ⟨(by show 2 ≤ sizeLine; decide), fun T21 e71 => ?_⟩
      have s71 : Same K20 (upd K20 T21 (.tup [V.ref D19, V.ref T20])) := Same.put e71
      have t21 : (upd K20 T21 (.tup [V.ref D19, V.ref T20])) T21 = some (.tup [V.ref D19, V.ref T20]) := upd_same
      generalize upd K20 T21 (.tup [V.ref D19, V.ref T20]) = K21 at s71 t21 ⊢
      have es21 : Same G K21 := Same.tr es20 s71
      refine ⟨(by show 0 ≤ sizeLine; decide), fun L22 e72 => ?_⟩
      have s72 : Same K21 (upd K21 L22 (.lst [])) := Same.put e72
      have t22 : (upd K21 L22 (.lst [])) L22 = some (.lst []) := upd_same
      generalize upd K21 L22 (.lst []) = K22 at s72 t22 ⊢
      have es22 : Same G K22 := Same.tr es21 s72
      refine ⟨(by show 2 ≤ sizeLine; decide), fun T23 e73 => ?_⟩
      have s73 : Same K22 (upd K22 T23 (.tup [V.ref L22, V.int 0])) := Same.put e73
      have t23 : (upd K22 T23 (.tup [V.ref L22, V.int 0])) T23 = some (.tup [V.ref L22, V.int 0]) := upd_same
      generalize upd K22 T23 (.tup [V.ref L22, V.int 0]) = K23 at s73 t23 ⊢
      have es23 : Same G K23 := Same.tr es22 s73
      refine ⟨(by show 2 ≤ sizeLine; decide), fun L24 e74 => ?_⟩
      have s74 : Same K23 (upd K23 L24 (.lst [V.str "f", V.non])) := Same.put e74
      have t24 : (upd K23 L24 (.lst [V.str "f", V.non])) L24 = some (.lst [V.str "f", V.non]) := upd_same
      generalize upd K23 L24 (.lst [V.str "f", V.non]) = K24 at s74 t24 ⊢
      have es24 : Same G K24 := Same.tr es23 s74
      refine ⟨(by show 6 ≤ sizeLine; decide), fun L25 e75 => ?_⟩
      have s75 : Same K24 (upd K24 L25 (.lst [V.ref T12, V.ref T15, V.ref T18, V.ref T21, V.ref T23, V.ref L24])) := Same.put e75
      have t25 : (upd K24 L25 (.lst [V.ref T12, V.ref T15, V.ref T18, V.ref T21, V.ref T23, V.ref L24])) L25 = some (.lst [V.ref T12, V.ref T15, V.ref T18, V.ref T21, V.ref T23, V.ref L24]) := upd_same
      generalize upd K24 L25 (.lst [V.ref T12, V.ref T15, V.ref T18, V.ref T21, V.ref T23, V.ref L24]) = K25 at s75 t25 ⊢
      have es25 : Same G K25 := Same.tr es24 s75
      have z25 : Same K25 K25 := Same.refl _
      have z24 : Same K24 K25 := Same.tr s75 z25
      have z23 : Same K23 K25 := Same.tr s74 z24
      have z22 : Same K22 K25 := Same.tr s73 z23
      have z21 : Same K21 K25 := Same.tr s72 z22
      have z20 : Same K20 K25 := Same.tr s71 z21
      have z19 : Same K19 K25 := Same.tr s70 z20
      have z18 : Same K18 K25 := Same.tr s69 z19
      have z17 : Same K17 K25 := Same.tr s68 z18
      have z16 : Same K16 K25 := Same.tr s67 z17
      have z15 : Same K15 K25 := Same.tr s66 z16
      have z14 : Same K14 K25 := Same.tr s65 z15
      have z13 : Same K13 K25 := Same.tr s64 z14
      have z12 : Same K12 K25 := Same.tr s63 z13
      have z11 : Same K11 K25 := Same.tr s62 z12
      have z10 : Same K10 K25 := Same.tr s61 z11
      have z9 : Same K9 K25 := Same.tr s60 z10
      have z8 : Same K8 K25 := Same.tr s59 z9
      have z7 : Same K7 K25 := Same.tr s58 z8
      have z6 : Same K6 K25 := Same.tr s57 z7
      have z5 : Same K5 K25 := Same.tr s56 z6
      have z4 : Same K4 K25 := Same.tr s55 z5
      have z3 : Same K3 K25 := Same.tr s54 z4
      have z2 : Same K2 K25 := Same.tr s53 z3
      have z1 : Same K1 K25 := Same.tr s52 z2
      have f11 := z11 _ _ t11
      refine ⟨_, _, _, _, rfl, rfl, (f11), t25, (by show 11 + 6 ≤ sizeLine; decide), fun OL e90 => ?_⟩
      have s90 : Same K25 (upd K25 OL (.lst ([V.non, V.int 3, V.str "a", V.ref T1, V.ref T3, V.ref T4, V.ref L5, V.ref D6, V.ref T7, V.ref T9, V.ref T10] ++ [V.ref T12, V.ref T15, V.ref T18, V.ref T21, V.ref T23, V.ref L24]))) := Same.put e90
      have h90 : (upd K25 OL (.lst ([V.non, V.int 3, V.str "a", V.ref T1, V.ref T3, V.ref T4, V.ref L5, V.ref D6, V.ref T7, V.ref T9, V.ref T10] ++ [V.ref T12, V.ref T15, V.ref T18, V.ref T21, V.ref T23, V.ref L24]))) OL = some (.lst ([V.non, V.int 3, V.str "a", V.ref T1, V.ref T3, V.ref T4, V.ref L5, V.ref D6, V.ref T7, V.ref T9, V.ref T10] ++ [V.ref T12, V.ref T15, V.ref T18, V.ref T21, V.ref T23, V.ref L24])) := upd_same
      generalize upd K25 OL (.lst ([V.non, V.int 3, V.str "a", V.ref T1, V.ref T3, V.ref T4, V.ref L5, V.ref D6, V.ref T7, V.ref T9, V.ref T10] ++ [V.ref T12, V.ref T15, V.ref T18, V.ref T21, V.ref T23, V.ref L24])) = M0 at s90 h90 ⊢
      dsimp only [gName]
      have sM := Same.tr es25 s90
      rw [List.length_map, hal] at t4
      have hall : DdAll K M0 ([V.non, V.int 3, V.str "a", V.ref T1, V.ref T3, V.ref T4, V.ref L5, V.ref D6, V.ref T7, V.ref T9, V.ref T10] ++ [V.ref T12, V.ref T15, V.ref T18, V.ref T21, V.ref T23, V.ref L24]) (outs rs.length) := DdAll.app (.cons (.non) (.cons (.int 3) (.cons (.str "a") (.cons (.tup (SqT.of (s90 _ _ (z1 _ _ t1))) (.cons (.str "a") (.nil))) (.cons (.tup (SqT.of (s90 _ _ (z3 _ _ t3))) (.cons (.str "zz9") (.cons (.tup (SqT.of (s90 _ _ (z2 _ _ t2))) (.nil)) (.nil)))) (.cons (.tup (SqT.of (s90 _ _ (z4 _ _ t4))) (.cons (.str "a") (.cons (.int _) (.nil)))) (.cons (.lst (SqL.of (s90 _ _ (z5 _ _ t5))) (.nil)) (.cons (.dct (s90 _ _ (z6 _ _ t6)) rfl .nil) (.cons (.tup (SqT.of (s90 _ _ (z7 _ _ t7))) (.cons (.int 1) (.cons (.int 2) (.nil)))) (.cons (.tup (SqT.of (s90 _ _ (z9 _ _ t9))) (.cons (.str "f") (.cons (.tup (SqT.of (s90 _ _ (z8 _ _ t8))) (.cons (.bl true) (.nil))) (.nil)))) (.cons (.tup (SqT.of (s90 _ _ (z10 _ _ t10))) (.cons (.str "x") (.cons (.bl true) (.nil)))) (.nil)))))))))))) (.cons (.tup (SqT.of (s90 _ _ (z12 _ _ t12))) (.cons (.str "x") (.cons (.str "0") (.nil)))) (.cons (.tup (SqT.of (s90 _ _ (z15 _ _ t15))) (.cons (.str "f") (.cons (.lst (SqL.of (s90 _ _ (z14 _ _ t14))) (.cons (.lst (SqL.of (s90 _ _ (z13 _ _ t13))) (.cons (.int 0) (.nil))) (.nil))) (.nil)))) (.cons (.tup (SqT.of (s90 _ _ (z18 _ _ t18))) (.cons (.str "f") (.cons (.tup (SqT.of (s90 _ _ (z17 _ _ t17))) (.cons (.dct (s90 _ _ (z16 _ _ t16)) rfl .nil) (.nil))) (.nil)))) (.cons (.tup (SqT.of (s90 _ _ (z21 _ _ t21))) (.cons (.dct (s90 _ _ (z19 _ _ t19)) rfl .nil) (.cons (.tup (SqT.of (s90 _ _ (z20 _ _ t20))) (.nil)) (.nil)))) (.cons (.tup (SqT.of (s90 _ _ (z23 _ _ t23))) (.cons (.lst (SqL.of (s90 _ _ (z22 _ _ t22))) (.nil)) (.cons (.int 0) (.nil)))) (.cons (.lst (SqL.of (s90 _ _ (z24 _ _ t24))) (.cons (.str "f") (.cons (.non) (.nil)))) (.nil)))))))
      generalize ([V.non, V.int 3, V.str "a", V.ref T1, V.ref T3, V.ref T4, V.ref L5, V.ref D6, V.ref T7, V.ref T9, V.ref T10] ++ [V.ref T12, V.ref T15, V.ref T18, V.ref T21, V.ref T23, V.ref L24]) = ovs at h90 hall
      have hstr : ∀ j ∈ rs, PyData.strOk j.1 = true := okRows_str hR
      refine ⟨_, rfl, OL, rfl, ⟨_, SqL.of h90⟩, fun D hD => ?_⟩
      have sGM := Same.tr sG sM
      refine lc_it (walk_list (xs := ovs)) (fun j N => Same M0 N ∧ N D = some (.lst [])) ⟨Same.put hD, upd_same⟩ (fun _ _ _ h => SqL.of (h.1 _ _ h90)) ?_ ?_
      · rintro j v N N' hj ⟨sN, hND⟩ ⟨rfl, hv⟩
        obtain ⟨d, hd, hvd⟩ := hall.get hv
        have hdm := List.mem_of_getElem? hd
        have sHN := Same.tr sGM sN
        refine ⟨rfl, _, rfl, _, rfl, d, rs.map rowD, hvd.mono sN, .lst (upL sHN hl) (rows_dp hal fun i k a x y => (hrw i k a x y).mono fun _ _ => upT sHN), rows_left rs, rows_lay hstr, Nat.le_trans (rows_depth rs) (by decide), _, rfl, ?_⟩
        cases hc : (rs.map rowD).any fun z => PyData.eqv z d with
        | true => exact iteF ⟨sN, hND⟩
        | false =>
          refine iteT ⟨_, rfl, _, rfl, ?_⟩
          refine in_book (hB.up sHN) (hvd.mono sN) (outs_short _ d hdm) fun N2 s2 => ⟨_, rfl, ?_⟩
          rcases outs_ok d hdm with h | h
          · rw [hc] at h
            cases h
          · rw [h]
            exact iteF ⟨Same.tr sN s2, s2 _ _ hND⟩
      · rintro N ⟨sN, hND⟩
        refine ⟨(by show 0 ≤ sizeLine; decide), fun l0 el0 => ⟨.list [], .list [], .lst (SqL.of ((Same.put el0) _ _ hND)) .nil, .lst (SqL.of upd_same) .nil, rfl, rfl, ?_⟩⟩
        have sHN := Same.tr sGM (Same.tr sN (Same.put (o := .lst []) el0))
        refine ⟨_, rfl, iteT ?_⟩
        refine ⟨_, rfl, _, rfl, _, _, rfl, .inl ⟨_, upL sHN hl, rfl⟩, ?_⟩
        rw [List.length_map, hal]
        exact ⟨p, fp, rs, rfl, hB.up sHN, Nat.le_trans hs.1 (by decide), fun H' s => q H' (Same.tr sHN s)⟩

end
end T04
set_option Elab.async false
set_option linter.all false
set_option maxRecDepth 100000
set_option maxHeartbeats 4000000
namespace T04
open PySem PySem.Spec PyProof.Rows L2 Tp
section
variable {P : Program} {w : World} {K : PySem.W.Frag} {mg : Str → Option Value} {base : Heap} {f : Addr} {fd : FuncData}

/-- the box, a book and a list of rows, apart from one another -/
structure St4 (P : Program) (w : World) (K : PySem.W.Frag) (H : Hp) (C p0 p l : Addr) (fp : List Addr) (n : Nat) (rb rr : List RowK) : Prop where
  box : BoxAt H p0 n
  bk : BookAt P w K H C p fp rb
  ro : ∃ as : List Addr, H l = some (.lst (as.map V.ref)) ∧ as.length = rr.length ∧ ∀ (i : Nat) (k : RowK) (a : Addr), rr[i]? = some k → as[i]? = some a → RowAt K H k a
  d1 : p0 ≠ l
  d2 : p0 ∉ fp
  d3 : l ∉ fp
  d4 : p0 ≠ p
  d5 : l ≠ p
section
variable {H H' : Hp} {C p0 p l : Addr} {fp : List Addr} {n m : Nat} {rb rr rs : List RowK}
/-- where all changes -/
def SM (p0 l : Addr) (fp : List Addr) : Addr → Prop := fun b => b = p0 ∨ b = l ∨ b ∈ fp
theorem BookAt.dom (B : BookAt P w K H C p fp rb) : ∀ b ∈ fp, H b ≠ none := by
  obtain ⟨dx, l1, d, l2, l3, l4, as, fs, rfl, nd, h0, a1, a2, a3, a4, a5, a6, b1, b2, h1, h2, h3, h4, h5, b3, b4, b5⟩ := B.ex
  intro b hb
  simp only [List.mem_cons, List.not_mem_nil, or_false] at hb
  rcases hb with rfl | rfl | rfl | rfl | rfl
  · rw [h1]; exact nofun
  · rw [h2]; exact nofun
  · rw [h3]; exact nofun
  · rw [h4]; exact nofun
  · rw [h5]; exact nofun
theorem box_nt (h : BoxAt H p0 n) : NotTup H p0 := by
  obtain ⟨a, b, c, h1, _⟩ := h
  exact not_lst h1
theorem St4.more (s : St4 P w K H C p0 p l fp n rb rr) (h : n ≤ m) : St4 P w K H C p0 p l fp m rb rr := ⟨s.box.mono h, s.bk, s.ro, s.d1, s.d2, s.d3, s.d4, s.d5⟩
theorem St4.sub (s : St4 P w K H C p0 p l fp n rb rr) : Sub (SM p0 l fp) H := fun b hb => by
  rcases hb with rfl | rfl | hb
  · obtain ⟨_, _, _, e, _⟩ := s.box
    rw [e]
    exact nofun
  · obtain ⟨as, e, _⟩ := s.ro
    rw [e]
    exact nofun
  · exact BookAt.dom s.bk b hb
theorem St4.same (s : St4 P w K H C p0 p l fp n rb rr) (k : Same H H') : St4 P w K H' C p0 p l fp n rb rr := by
  obtain ⟨as, h1, h2, h3⟩ := s.ro
  exact ⟨s.box.keep k, s.bk.up k, ⟨as, k _ _ h1, h2, fun i k' a e1 e2 => (h3 i k' a e1 e2).mono fun _ _ => upT k⟩, s.d1, s.d2, s.d3, s.d4, s.d5⟩
theorem St4.keep (s : St4 P w K H C p0 p l fp n rb rr) (k : Keep p0 H H') (hb : BoxAt H' p0 m) : St4 P w K H' C p0 p l fp m rb rr := by
  obtain ⟨as, h1, h2, h3⟩ := s.ro
  have f : Frame [p0] H H' := fun b o e1 e2 => k b o (fun z => e1 (by rw [z]; exact List.mem_cons_self)) e2
  have nt : ∀ b ∈ [p0], NotTup H b := fun b hb => by rw [List.mem_singleton.mp hb]; exact box_nt s.box
  exact ⟨hb, s.bk.fr f nt (fun z => s.d4 (List.mem_singleton.mp z).symm) (fun b hb z => s.d2 (by rw [← List.mem_singleton.mp z]; exact hb)), ⟨as, k _ _ s.d1.symm h1, h2, fun i k' a e1 e2 => SqT_row (h3 i k' a e1 e2) f nt⟩, s.d1, s.d2, s.d3, s.d4, s.d5⟩
theorem St4.book (s : St4 P w K H C p0 p l fp n rb rr) (f : Frame fp H H') (hB : BookAt P w K H' C p fp rs) : St4 P w K H' C p0 p l fp n rs rr := by
  obtain ⟨as, h1, h2, h3⟩ := s.ro
  refine ⟨?_, hB, ⟨as, f _ _ s.d3 h1, h2, fun i k' a e1 e2 => SqT_row (h3 i k' a e1 e2) f s.bk.notTup⟩, s.d1, s.d2, s.d3, s.d4, s.d5⟩
  obtain ⟨a, b, c, e, r⟩ := s.box
  exact ⟨a, b, c, f _ _ s.d2 e, r⟩
theorem St4.rows (s : St4 P w K H C p0 p l fp n rb rr) {as : List Addr} (h2 : as.length = rs.length) (h3 : ∀ (i : Nat) (k : RowK) (a : Addr), rs[i]? = some k → as[i]? = some a → RowAt K H k a) : St4 P w K (upd H l (.lst (as.map V.ref))) C p0 p l fp n rb rs := by
  obtain ⟨as0, h1, _, _⟩ := s.ro
  have f : Frame [l] H (upd H l (.lst (as.map V.ref))) := Frame.put (by simp)
  have nt : ∀ b ∈ [l], NotTup H b := fun b hb => by rw [List.mem_singleton.mp hb]; exact not_lst h1
  exact ⟨s.box.put s.d1.symm, s.bk.fr f nt (fun z => s.d5 (List.mem_singleton.mp z).symm) (fun b hb z => s.d3 (by rw [← List.mem_singleton.mp z]; exact hb)), ⟨as, upd_same, h2, fun i k' a e1 e2 => SqT_row (h3 i k' a e1 e2) f nt⟩, s.d1, s.d2, s.d3, s.d4, s.d5⟩
/-- all but those -/
def Fr4 (p0 l : Addr) (fp : List Addr) (H H' : Hp) : Prop := ∀ b o, ¬ SM p0 l fp b → H b = some o → H' b = some o
theorem Fr4.refl : Fr4 p0 l fp H H := fun _ _ _ e => e
theorem Fr4.tr {H1 : Hp} (a : Fr4 p0 l fp H H1) (b : Fr4 p0 l fp H1 H') : Fr4 p0 l fp H H' := fun x o h e => b x o h (a x o h e)
theorem Fr4.same (s : Same H H') : Fr4 p0 l fp H H' := fun b o _ e => s b o e
theorem Fr4.keep (k : Keep p0 H H') : Fr4 p0 l fp H H' := fun b o h e => k b o (fun z => h (.inl z)) e
theorem Fr4.book (f : Frame fp H H') : Fr4 p0 l fp H H' := fun b o h e => f b o (fun z => h (.inr (.inr z))) e
theorem Fr4.put {o : HO} : Fr4 p0 l fp H (upd H l o) := fun b u h e => (upd_ne fun z => h (.inr (.inl z))).trans e
theorem Fr4.ms (f : Fr4 p0 l fp H H') : Same (ms (SM p0 l fp) H) (ms (SM p0 l fp) H') := ms_of f
end
/-- the numbers of turns that the law draws -/
def SmT (rs : List RowK) : Prop := ∀ k ∈ rs, ∀ n : Int, k.2 = .inl n → n.natAbs < 2 ^ 100
theorem odd_small : ∀ d ∈ oddL, ∀ i, d = .int i → i.natAbs < 2 ^ 100 := by
  have h : ∀ d ∈ oddL, (match d with | .int i => decide (i.natAbs < 2 ^ 100) | _ => true) = true := by decide +kernel
  intro d hd i e
  have := h d hd
  subst e
  exact of_decide_eq_true this
theorem due_small {m : Nat} {d : PyData} {k : RowK} (hc : CallD m d) (h : DueIs m d (.inl k)) : ∀ n : Int, k.2 = .inl n → n.natAbs < 2 ^ 100 := by
  intro n hn
  cases h with
  | const h => cases hn
  | row _ _ _ _ _ => cases hn
  | @samp z i h h0 h1 =>
    cases hn
    rcases hc with ⟨a, _, e⟩ | ⟨a, b, _, hb, e⟩ | ⟨a, b, _, _, _, e⟩
    · cases e
    · cases e
      rcases hb with hb | ⟨j, e, h2, h3⟩
      · exact odd_small _ hb _ rfl
      · cases e
        omega
    · simp only [PyData.tuple.injEq, List.cons.injEq, PyData.str.injEq] at e
      exact absurd e.1 (by decide +kernel)
theorem DueIs.ok {n : Nat} {d : PyData} {k : RowK} (h : DueIs n d (.inl k)) : OkK n k := by
  cases h with
  | const h => exact ⟨h, Nat.zero_le _, fun i hi => absurd hi List.not_mem_nil⟩
  | samp h h0 h1 => exact ⟨h, h0, h1⟩
  | row h _ _ h3 hi => exact ⟨h, h3, hi⟩
theorem DueIs.more {n m : Nat} {d : PyData} {k : RowK} (h : DueIs n d (.inl k)) (hm : n ≤ m) : DueIs m d (.inl k) := by
  cases h with
  | const h => exact .const h
  | samp h h0 h1 => exact .samp h h0 h1
  | row h h0 h1 h3 hi => exact .row h h0 h1 h3 fun i hj => ⟨(hi i hj).1, by have := (hi i hj).2; omega⟩
theorem DueIs.word {n : Nat} {d : PyData} {q : Str × PyData} (h : DueIs n d (.inr q)) : q.1 ≠ "row" ∧ Nice 10 0 (.str q.1) := by
  have nn : ∀ z ∈ (["name", "turn", "part", "term"] : List Str), z ≠ "row" ∧ Nice 10 0 (.str z) := fun z hz => by
    simp only [List.mem_cons, List.not_mem_nil, or_false] at hz
    rcases hz with rfl | rfl | rfl | rfl <;> exact ⟨by decide +kernel, by decide +kernel, by decide +kernel, by decide +kernel, by decide +kernel⟩
  cases h with
  | name _ => exact nn _ (by simp)
  | turn _ _ => exact nn _ (by simp)
  | part _ _ => exact nn _ (by simp)
  | term _ _ _ _ _ _ _ => exact nn _ (by simp)
theorem NumD.more {n m : Nat} {d : PyData} (h : NumD n d) (hm : n ≤ m) : NumD m d := h.elim (fun ⟨i, e, h0, h1⟩ => .inl ⟨i, e, h0, by omega⟩) .inr
theorem CallD.more {n m : Nat} {d : PyData} (h : CallD n d) (hm : n ≤ m) : CallD m d := by
  rcases h with h | h | ⟨a, b, h1, h2, h3, e⟩
  · exact .inl h
  · exact .inr (.inl h)
  · refine .inr (.inr ⟨a, b, h1, ?_, by omega, e⟩)
    rcases h2 with h2 | ⟨ds, e, h4, h5, h6⟩
    · exact .inl h2
    · exact .inr ⟨ds, e, h4, h5, fun x hx => (h6 x hx).more hm⟩
theorem odd_nice : ∀ d ∈ oddL, Nice 120 3 d := by
  have h : ∀ d ∈ oddL, (d.showable && d.leavesShort 2000 && decide (d.weight ≤ 120) && decide (d.depth ≤ 3)) = true := by decide +kernel
  intro d hd
  have := h d hd
  simp only [Bool.and_eq_true, decide_eq_true_eq] at this
  exact ⟨this.1.1.1, this.1.1.2, this.1.2, this.2⟩
theorem NameD.nice {d : PyData} (h : NameD d) : Nice 120 3 d := by
  rcases h with h | ⟨z, h, rfl⟩
  · exact odd_nice d h
  · exact (nice_str (name_tz h)).mono (by decide) (by decide)
theorem TurnD.nice {d : PyData} (h : TurnD d) : Nice 120 3 d := by
  rcases h with h | ⟨i, rfl, h0, h1⟩
  · exact odd_nice d h
  · exact (nice_small (k := 30) (by omega) (by decide)).mono (by decide) (by decide)
theorem NumD.nice {m : Nat} {d : PyData} (h : NumD m d) (hm : m ≤ 5000) : Nice 20 2 d := by
  rcases h with ⟨i, rfl, h0, h1⟩ | h
  · exact (nice_small (k := 14) (by omega) (by decide)).mono (by decide) (by decide)
  · have h' : ∀ d ∈ ([.bool true, .none, .str "0", .list [.int 0]] : List PyData), (d.showable && d.leavesShort 2000 && decide (d.weight ≤ 20) && decide (d.depth ≤ 2)) = true := by decide +kernel
    have := h' d h
    simp only [Bool.and_eq_true, decide_eq_true_eq] at this
    exact ⟨this.1.1.1, this.1.1.2, this.1.2, this.2⟩
theorem ListD.nice {m : Nat} {d : PyData} (h : ListD m d) (hm : m ≤ 5000) : Nice 120 3 d := by
  rcases h with h | ⟨ds, hd, _, hl, h⟩
  · exact odd_nice d h
  · have := niceAll_of (n := 20) (k := 2) fun x hx => (h x hx).nice hm
    rcases hd with rfl | rfl
    · exact this.list.mono (by omega) (by decide)
    · exact this.tuple.mono (by omega) (by decide)
theorem CallD.nice {m : Nat} {d : PyData} (h : CallD m d) (hm : m ≤ 5000) : Nice 300 4 d := by
  have nw : ∀ z ∈ (["constant", "sample", "apply"] : List Str), Nice 10 0 (.str z) := fun z hz => by
    simp only [List.mem_cons, List.not_mem_nil, or_false] at hz
    rcases hz with rfl | rfl | rfl <;> exact ⟨by decide +kernel, by decide +kernel, by decide +kernel, by decide +kernel⟩
  rcases h with ⟨a, h1, rfl⟩ | ⟨a, b, h1, h2, rfl⟩ | ⟨a, b, h1, h2, _, rfl⟩
  · exact (NiceAll.cons (nw _ (by simp)) (NiceAll.cons h1.nice niceAll_nil)).tuple.mono (by decide) (by decide)
  · exact (NiceAll.cons (nw _ (by simp)) (NiceAll.cons h1.nice (NiceAll.cons h2.nice niceAll_nil))).tuple.mono (by decide) (by decide)
  · exact (NiceAll.cons (nw _ (by simp)) (NiceAll.cons h1.nice (NiceAll.cons (h2.nice hm) niceAll_nil))).tuple.mono (by decide) (by decide)
/-- what a refusal tells is a part of the call -/
theorem _root_.Tp.Nice.items {n k : Nat} {d : PyData} {ds : List PyData} (h : Nice n k d) (e : seqD d = some ds) : ∀ x ∈ ds, Nice n k x := by
  have ha : NiceAll n k ds := by
    have h1 := h.sh
    have h2 := h.ls
    have h3 := h.wt
    have h4 := h.dp
    cases d with
    | list xs =>
      cases e
      simp only [PyData.showable, PyData.leavesShort, PyData.weight, PyData.depth] at h1 h2 h3 h4
      exact ⟨h1, h2, h3, by omega⟩
    | tuple xs =>
      cases e
      simp only [PyData.showable, PyData.leavesShort, PyData.weight, PyData.depth] at h1 h2 h3 h4
      exact ⟨h1, h2, h3, by omega⟩
    | _ => cases e
  exact fun x hx => ha.mem x hx
theorem DueIs.nice {m : Nat} {d : PyData} {q : Str × PyData} (hc : CallD m d) (hm : m ≤ 5000) (h : DueIs m d (.inr q)) : Nice 300 4 q.2 := by
  have hn := hc.nice hm
  cases h with
  | name _ => exact hn.items rfl _ (by simp)
  | turn _ _ => exact hn.items rfl _ (by simp)
  | part _ _ => exact hn.items rfl _ (by simp)
  | term _ h0 _ _ hj _ _ => exact (hn.items rfl _ (by simp)).items h0 _ (List.mem_of_getElem? hj)
theorem rows_snoc {H : Hp} {rs : List RowK} {as : List Addr} {k : RowK} {r : Addr} (hal : as.length = rs.length) (hrw : ∀ (i : Nat) (k : RowK) (a : Addr), rs[i]? = some k → as[i]? = some a → RowAt K H k a) (hr : RowAt K H k r) : ∀ (i : Nat) (k' : RowK) (a : Addr), (rs ++ [k])[i]? = some k' → (as ++ [r])[i]? = some a → RowAt K H k' a := fun m k' b h1 h2 => by
  rcases Nat.lt_or_ge m rs.length with h | h
  · rw [List.getElem?_append_left h] at h1
    rw [List.getElem?_append_left (by omega)] at h2
    exact hrw m k' b h1 h2
  · rw [List.getElem?_append_right h] at h1
    rw [List.getElem?_append_right (by omega)] at h2
    have e0 : m - rs.length = 0 := by
      by_cases w : m - rs.length = 0
      · exact w
      · rw [List.getElem?_eq_none (by simp; omega)] at h1
        cases h1
    rw [e0] at h1
    rw [show m - as.length = 0 by omega] at h2
    cases h1
    cases h2
    exact hr
def newR (rs : List RowK) : Sum RowK (Str × PyData) → List RowK
  | .inl k => addR rs k
  | .inr _ => rs
def ansD (rs : List RowK) : Sum RowK (Str × PyData) → PyData
  | .inl k => .list [.str "row", .int (posR rs k : Nat)]
  | .inr q => .list [.str q.1, q.2]
theorem addR_twice (rs : List RowK) (k : RowK) : addR (addR rs k) k = addR rs k ∧ posR (addR rs k) k = posR rs k := by
  have h : hasR (addR rs k) k = true := by
    cases hh : hasR rs k with
    | true => rw [(posR_old hh).1]; exact hh
    | false =>
      rw [(posR_new hh).1]
      exact hasR_iff.mpr (List.mem_append_right _ List.mem_cons_self)
  have h2 : addR (addR rs k) k = addR rs k := (posR_old h).1
  exact ⟨h2, by unfold posR; rw [h2]⟩
theorem addR_len (rs : List RowK) (k : RowK) : rs.length ≤ (addR rs k).length ∧ (addR rs k).length ≤ rs.length + 1 := by
  cases hh : hasR rs k with
  | true => rw [(posR_old hh).1]; omega
  | false => rw [(posR_new hh).1, List.length_append]; exact ⟨Nat.le_add_right _ _, Nat.le_refl _⟩
theorem posR_at (rs : List RowK) (k : RowK) : (addR rs k)[posR rs k]? = some k ∧ ∀ m, m < posR rs k → (addR rs k)[m]? ≠ some k := by
  cases hh : hasR rs k with
  | true =>
    obtain ⟨h1, h2, h3⟩ := posR_old hh
    rw [h1]
    exact ⟨h2, h3⟩
  | false =>
    obtain ⟨h1, h2⟩ := posR_new hh
    rw [h1, h2]
    refine ⟨by rw [List.getElem?_append_right (Nat.le_refl _), Nat.sub_self]; rfl, fun m hm e => ?_⟩
    rw [List.getElem?_append_left hm] at e
    exact hasR_not hh (List.mem_of_getElem? e)
theorem posR_le (rs : List RowK) (k : RowK) : posR rs k ≤ rs.length := by
  have h := (List.getElem?_eq_some_iff.mp (posR_at rs k).1).1
  have := (addR_len rs k).2
  omega
theorem ans_nice {rs : List RowK} {d : PyData} {R : Sum RowK (Str × PyData)} (hl : rs.length ≤ 4000) (hc : CallD rs.length d) (h : DueIs rs.length d R) : Nice 400 6 (ansD rs R) := by
  cases R with
  | inl k =>
    have hp := posR_le rs k
    have hw : Nice 10 0 (.str "row") := ⟨by decide +kernel, by decide +kernel, by decide +kernel, by decide +kernel⟩
    exact ((NiceAll.cons hw (NiceAll.cons (nice_small (i := (posR rs k : Nat)) (k := 14) (by omega) (by decide)) niceAll_nil)).list).mono (by decide) (by decide)
  | inr q => exact ((NiceAll.cons h.word.2 (NiceAll.cons (h.nice hc (by omega)) niceAll_nil)).list).mono (by decide) (by decide)
theorem told_to {H : Hp} {C p0 p l t : Addr} {fp : List Addr} {n : Nat} {rb rr : List RowK} {d : PyData} {R : Sum RowK (Str × PyData)} {Q : VK} {E : XK} (s : St4 P w K H C p0 p l fp n rb rr) (hl : rb.length < 4000) (hc : CallD rb.length d) (hdue : DueIs rb.length d R) (hd : Dd K (ms (SM p0 l fp) H) (.ref t) d)
    (q : ∀ a H', St4 P w K H' C p0 p l fp n (newR rb R) rr → Dd K H' (.ref a) (ansD rb R) → Fr4 p0 l fp H H' → Q (.ref a) H') : spTold P w K C [.ref p, .ref t] H Q E := by
  refine ⟨p, fp, rb, .ref t, d, R, SM p0 l fp, rfl, s.bk, by omega, hc, hdue, hd, s.sub, (fun b hb => .inr (.inr hb)), ?_⟩
  cases R with
  | inl k => exact fun a H' f hB ha => q a H' (s.book f hB) (.lst (SqL.of ha) (.cons (.str _) (.cons (.int _) .nil))) (Fr4.book f)
  | inr e => exact fun a H' v k na ha hv => q a H' (s.same k) (.lst (SqL.of ha) (.cons (.str _) (.cons (hv.mono ms_same) .nil))) (Fr4.same k)
def spGrown (P : Program) (w : World) (K : PySem.W.Frag) (C : Addr) : Sp := fun vs H Q _ => ∃ (p0 p l : Addr) (fp : List Addr) (n : Nat), vs = [.ref p0, .ref p, .ref l] ∧ St4 P w K H C p0 p l fp n [] [] ∧ n ≤ 1000 ∧
  ∀ H' rs, St4 P w K H' C p0 p l fp (n + 4000) rs rs → rs.length ≤ 31 → SmT rs → Fr4 p0 l fp H H' → Q (.bl true) H'

abbrev sGr : Stmt := top 53
abbrev nGr : List Str := ["_law_box_here", "_law_book", "_law_rows", "_law_turn", "_law_call_here", "_law_held", "_law_due_here", "_law_lap"]
theorem scGr : FnScope nGr ["_law_box_here", "_law_book", "_law_rows"] (defScope sGr) := ⟨rfl, rfl, rfl, by decide +kernel, rfl, by decide +kernel, by decide +kernel⟩

theorem ok_Gr (F : Fun K "_law_grown" "_law_grown" sGr f fd) {C : Addr} (T : TxtL mg) (S : Sm K) (TA : Cg P w K mg base 1 "_law_take" spTake) (CA : Cg P w K mg base 3 "_law_call" (spCallD K)) (DU : Cg P w K mg base 3 "_law_due" (spDue K)) (TO : Cg P w K mg base 6 "_law_told" (spTold P w K C)) (HO : Cg P w K mg base 8 "_law_holds" (spHolds P w K C)) (CL : Ct P w K mg base 1 C "__len__" [] (spLen P w K C)) : FnG P w K mg base CX0 9 f fd ["_law_box_here", "_law_book", "_law_rows"] (spGrown P w K C) := by
  refine FunG.ok F scGr (fun vs H Q E h => ?_) (fun cdv B out s H vs Q E hr hG h => ?_)
  · obtain ⟨p0, p, l, fp, n, rfl, _⟩ := h
    rfl
  · obtain ⟨p0, p, l, fp, n, rfl, s4, hn, q⟩ := h
    refine ⟨_, (pss_cons (ps_for PassesOwn.never rfl (pi_range1 (by rfl) T.range (pa_cons (pe_op op_add pe_int (pe_g TA hr hG (by decide) (by rfl) (pa_cons (pv 0) (pa_cons pe_int pa_nil)))) pa_nil)) (pg_name (i := 3) scGr.nd rfl (Or.inl rfl)) (pss_cons (ps_set (i := 4) scGr.nd rfl (.inl rfl) (pe_g CA hr hG (by decide) (by rfl) (pa_cons (pv 0) (pa_cons (pv 2) pa_nil))))
        (pss_cons (ps_par (i := 5) (j := 6) rfl scGr.nd rfl rfl (by decide) rfl rfl (pa_cons (pe_callB (call_reprD S hr hG) (by rfl) T.repr (by decide +kernel) (pa_cons (pv 4) pa_nil)) (pa_cons (pe_g DU hr hG (by decide) (by rfl) (pa_cons (pv 2) (pa_cons (pv 4) pa_nil))) pa_nil)) (by rfl))
        (C8.pss_cut (ps_if (pt_cmpR op_eq (pe_ix ix_list (pv 6) pe_int fun _ _ => rfl) pe_str (nomark _)) (C8.pss_cut (ps_if (pt_cmpR (op_notInD (hu65 hr)) (pe_ix ix_list (pv 6) pe_int fun _ _ => rfl) (pv 2) rfl) (pss_one (ps_expr (pe_bm PySem.F.plainAttrs_list PySem.F.slot_list_append PySem.F.type_list_append mt_append (pv 2) (pa_cons (pe_ix ix_list (pv 6) pe_int fun _ _ => rfl) pa_nil)))) pss_nil)
          (pss_one (ps_set (i := 6) scGr.nd rfl (.inl rfl) (pe_lst (pa_cons pe_str (pa_cons (pe_bm PySem.F.plainAttrs_list PySem.F.slot_list_index PySem.F.type_list_index (mt_indexD (hu65 hr)) (pv 2) (pa_cons (pe_ix ix_list (pv 6) pe_int fun _ _ => rfl) pa_nil)) pa_nil)))))) pss_nil)
        (pss_one (ps_for PassesOwn.never rfl (pi_range1 (by rfl) T.range (pa_cons pe_int pa_nil)) (pg_name (i := 7) scGr.nd rfl (Or.inl rfl)) (pss_one (ps_if (PW.pt (pw_or (pt_cmpR op_ne (pe_callB (call_reprD S hr hG) (by rfl) T.repr (by decide +kernel) (pa_cons (pe_g TO hr hG (by decide) (by rfl) (pa_cons (pv 1) (pa_cons (pv 4) pa_nil))) pa_nil)) (pe_callB (call_reprD S hr hG) (by rfl) T.repr (by decide +kernel) (pa_cons (pv 6) pa_nil)) (nomark _)) (pw_or (pt_cmpR op_ne (pe_callB (call_reprD S hr hG) (by rfl) T.repr (by decide +kernel) (pa_cons (pv 4) pa_nil)) (pv 5) (nomark _)) (pw_or1 (pt_cmpR op_ne (pe_callB (call_lenO CL (hr.mono (by decide)) hG) (by rfl) T.len PySem.boot_len (pa_cons (pv 1) pa_nil)) (pe_callB call_len (by rfl) T.len PySem.boot_len (pa_cons (pv 2) pa_nil)) (nomark _)))))) (pss_one (ps_ret pe_bl)) pss_nil))))))))
      (pss_one (ps_ret (pe_g HO hr hG (by decide) (by rfl) (pa_cons (pv 1) (pa_cons (pv 2) pa_nil)))))), ?_⟩
    refine ⟨_, rfl, p0, 27, n, rfl, s4.box, by decide, by decide, by omega, fun d0 H0 a0 b0 hb0 k0 => ?_⟩
    refine ⟨_, _, rfl, rfl, ⟨_, rfl, by omega, by omega, ?_⟩⟩
    have s40 := s4.keep (keep_of k0) hb0
    refine for_range (lo := 0) (n := (4 + d0).toNat) (fun i σ G => (∃ o3 o4 o5 o6 o7, σ = [some (.ref p0), some (.ref p), some (.ref l), o3, o4, o5, o6, o7]) ∧ ∃ rs, St4 P w K G C p0 p l fp (n + 1 + 90 * i) rs rs ∧ rs.length ≤ i ∧ SmT rs ∧ Fr4 p0 l fp H G) ⟨⟨_, _, _, _, _, rfl⟩, [], s40, Nat.le_refl _, (fun k hk => absurd hk List.not_mem_nil), Fr4.keep (keep_of k0)⟩ ?_ ?_
    · rintro i σ G hi ⟨⟨o3, o4, o5, o6, o7, rfl⟩, rs, sG, hrl, hsm, fG⟩
      obtain ⟨as, hl, hal, hrw⟩ := sG.ro
      refine ⟨_, rfl, _, rfl, ?_⟩
      dsimp only [tNil]
      refine ⟨p0, l, _, as.map V.ref, SM p0 l fp, rfl, sG.box, by omega, .inl rfl, sG.sub, sG.d1.symm, hl, by rw [List.length_map]; omega, fun d x H1 hc hd hb1 k1 => ?_⟩
      rw [List.length_map, hal] at hc
      have s1 := sG.keep k1 hb1
      have hcm := hc.nice (by omega)
      obtain ⟨t, rfl⟩ : ∃ t, x = .ref t := by
        obtain ⟨wd, an, r, ed, _⟩ := call_shape hc
        subst ed
        obtain ⟨t, ys, e, _⟩ := dd_tup hd
        exact ⟨t, e⟩
      dsimp only [gName]
      refine ⟨_, rfl, ?_⟩
      dsimp only [tNil]
      refine rReprD_of (hd.mono ms_same) hcm (by decide) (by decide) ?_
      refine ⟨_, rfl, _, rfl, ?_⟩
      dsimp only [tNil]
      obtain ⟨as1, hl1, hal1, hrw1⟩ := s1.ro
      refine ⟨l, as1.map V.ref, .ref t, d, SM p0 l fp, rfl, hl1, by rw [List.length_map, hal1]; exact hc, hd, s1.sub, fun R a H2 hdue s2 na hans => ?_⟩
      rw [List.length_map, hal1] at hdue
      have s42 := s1.same s2
      have hd2 := hd.mono (ms_up s2)
      have f2 : Fr4 p0 l fp H H2 := (fG.tr (Fr4.keep k1)).tr (Fr4.same s2)
      refine ⟨_, _, rfl, fun σ' M => ∃ a', σ' = [some (.ref p0), some (.ref p), some (.ref l), some (.int (0 + (i : Int))), some (.ref t), some (.str d.shown), some (.ref a'), o7] ∧ St4 P w K M C p0 p l fp (n + 1 + 90 * i + 80) rs (newR rs R) ∧ Dd K (ms (SM p0 l fp) M) (.ref a') (ansD rs R) ∧ Dd K (ms (SM p0 l fp) M) (.ref t) d ∧ Fr4 p0 l fp H M, ?_, ?_⟩
      · obtain ⟨as2, hl2, hal2, hrw2⟩ := s42.ro
        have hstr := okRows_str (BookAt.ok s42.bk).2.1
        cases R with
        | inr q =>
          obtain ⟨v, ha, hv⟩ := hans
          refine ⟨_, rfl, a, _, _, _, rfl, rfl, SqL.of ha, atI_nat (j := 0) rfl, rfl, _, rfl, if_false_of (decide_eq_false fun e => hdue.word.1 (V.str.inj e)) ?_⟩
          exact ⟨a, rfl, s42, .lst (SqL.of (ms_at na ha)) (.cons (.str _) (.cons hv .nil)), hd2, f2⟩
        | inl k =>
          obtain ⟨r, ha, hr⟩ := hans
          refine ⟨_, rfl, a, _, _, _, rfl, rfl, SqL.of ha, atI_nat (j := 0) rfl, rfl, _, rfl, if_true_of (by decide +kernel) ?_⟩
          refine ⟨fun σ' M => σ' = [some (.ref p0), some (.ref p), some (.ref l), some (.int (0 + (i : Int))), some (.ref t), some (.str d.shown), some (.ref a), o7] ∧ St4 P w K M C p0 p l fp (n + 1 + 90 * i + 80) rs (addR rs k) ∧ M a = some (.lst [V.str "row", .ref r]) ∧ RowAt K M k r ∧ Dd K (ms (SM p0 l fp) M) (.ref t) d ∧ Fr4 p0 l fp H M, ?_, ?_⟩
          · refine ⟨_, rfl, a, _, _, _, rfl, rfl, SqL.of ha, atI_nat (j := 1) rfl, _, rfl, rowD k, rs.map rowD, row_dp hr, .lst (SqL.of hl2) (rows_dp hal2 hrw2), row_shaped hr.1, rows_shaped hstr, _, rfl, ?_⟩
            rw [rows_any]
            cases hh : hasR rs k with
            | true =>
              have e := (posR_old hh).1
              refine iteF ⟨rfl, ?_, ha, hr, hd2, f2⟩
              rw [e]
              exact s42
            | false =>
              have e := (posR_new hh).1
              refine iteT ⟨_, rfl, .inl ⟨rfl, _, SqL.of hl2⟩, _, rfl, a, _, _, _, rfl, rfl, SqL.of ha, atI_nat (j := 1) rfl, l, _, _, rfl, rfl, hl2, (by rw [List.length_map, PySem.sizeLine_eq]; omega), rfl, ?_⟩
              have ela : as2.map V.ref ++ [V.ref r] = (as2 ++ [r]).map V.ref := by rw [List.map_append]; rfl
              rw [ela]
              have nal : a ≠ l := fun z => na (.inr (.inl z))
              have nt : ∀ b ∈ [l], NotTup H2 b := fun b hb => by rw [List.mem_singleton.mp hb]; exact not_lst hl2
              refine ⟨?_, (upd_ne nal).trans ha, SqT_row hr (Frame.put (by simp)) nt, ?_, f2.tr Fr4.put⟩
              · rw [e]
                exact s42.rows (by rw [List.length_append, List.length_append, hal2]; rfl) (rows_snoc hal2 hrw2 hr)
              · rw [ms_put (.inr (.inl rfl))]
                exact hd2
          · rintro σ' M ⟨rfl, sM, haM, hrM, hdM, fM⟩
            obtain ⟨as3, hl3, hal3, hrw3⟩ := sM.ro
            have hstr3 : ∀ j ∈ addR rs k, PyData.strOk j.1 = true := fun j hj => by
              obtain ⟨m, hm, e⟩ := List.getElem_of_mem hj
              exact (hrw3 m j (as3[m]'(by omega)) (by rw [List.getElem?_eq_getElem hm, e]) (List.getElem?_eq_getElem (by omega))).1
            obtain ⟨pa, pb⟩ := posR_at rs k
            refine ⟨_, rfl, .inl ⟨rfl, _, SqL.of hl3⟩, _, rfl, a, _, _, _, rfl, rfl, SqL.of haM, atI_nat (j := 1) rfl, l, .ref r, rowD k, (addR rs k).map rowD, posR rs k, rowD k, rfl, rfl, .lst (SqL.of hl3) (rows_dp hal3 hrw3), row_dp hrM, rows_shaped hstr3, row_shaped hrM.1, (by rw [List.getElem?_map, pa]; rfl), ((eqv_row k k).trans (decide_eq_true rfl)), fun m z hm hz => ?_, (by show 2 ≤ sizeLine; decide), fun a3 ea3 => ?_⟩
            · rw [List.getElem?_map] at hz
              obtain ⟨kz, hkz, rfl⟩ := Option.map_eq_some_iff.mp hz
              rw [eqv_row]
              exact decide_eq_false fun e => pb m hm (by rw [hkz, e])
            · have s5 := Same.put (o := .lst [V.str "row", V.int (posR rs k : Nat)]) ea3
              exact ⟨a3, rfl, sM.same s5, .lst (SqL.of (ms_at (sM.sub.out ea3) upd_same)) (.cons (.str _) (.cons (.int _) .nil)), hdM.mono (ms_up s5), fM.tr (Fr4.same s5)⟩
      · rintro σ' M ⟨a', rfl, sM, haM, hdM, fM⟩
        have hnice := ans_nice (by omega) hc hdue
        refine ⟨_, rfl, by decide, by decide, ?_⟩
        refine for_range (lo := 0) (n := 2) (fun j σ N => (∃ o7, σ = [some (.ref p0), some (.ref p), some (.ref l), some (.int (0 + (i : Int))), some (.ref t), some (.str d.shown), some (.ref a'), o7]) ∧ ∃ rb, St4 P w K N C p0 p l fp (n + 1 + 90 * i + 80) rb (newR rs R) ∧ (rb = rs ∨ rb = newR rs R) ∧ (1 ≤ j → rb = newR rs R) ∧ Dd K (ms (SM p0 l fp) N) (.ref a') (ansD rs R) ∧ Dd K (ms (SM p0 l fp) N) (.ref t) d ∧ Fr4 p0 l fp H N) ⟨⟨_, rfl⟩, rs, sM, .inl rfl, (fun h => by omega), haM, hdM, fM⟩ ?_ ?_
        · rintro j σ N hj ⟨⟨o7, rfl⟩, rb, sN, hrb, _, haN, hdN, fN⟩
          have hfit : rb.length < 4000 ∧ CallD rb.length d ∧ DueIs rb.length d R ∧ newR rb R = newR rs R ∧ ansD rb R = ansD rs R := by
            rcases hrb with e | e
            · subst e
              exact ⟨by omega, hc, hdue, rfl, rfl⟩
            · cases R with
              | inr q => subst e; exact ⟨Nat.lt_of_le_of_lt hrl (by omega), hc, hdue, rfl, rfl⟩
              | inl k =>
                have e' : rb = addR rs k := e
                subst e'
                obtain ⟨q1, q2⟩ := addR_twice rs k
                obtain ⟨q3, q4⟩ := addR_len rs k
                refine ⟨by omega, hc.more q3, hdue.more q3, q1, ?_⟩
                show PyData.list [.str "row", .int (posR (addR rs k) k : Nat)] = .list [.str "row", .int (posR rs k : Nat)]
                rw [q2]
          obtain ⟨g1, g2, g3, g4, g5⟩ := hfit
          refine ⟨_, rfl, _, rfl, ?_⟩
          dsimp only [tNil]
          refine told_to sN g1 g2 g3 hdN fun a2 N2 sN2 h2 f2' => ?_
          rw [g5] at h2
          rw [g4] at sN2
          have haN2 := haN.mono f2'.ms
          have hdN2 := hdN.mono f2'.ms
          refine rReprD_of h2 hnice (by decide) (by decide) ?_
          refine ⟨_, rfl, ?_⟩
          dsimp only [tNil]
          refine rReprD_of (haN2.mono ms_same) hnice (by decide) (by decide) ?_
          refine ⟨rfl, _, rfl, if_false_of (by rw [decide_eq_true rfl]; rfl) ?_⟩
          refine ⟨_, rfl, ?_⟩
          dsimp only [tNil]
          refine rReprD_of (hdN2.mono ms_same) hcm (by decide) (by decide) ?_
          refine ⟨_, rfl, rfl, _, rfl, if_false_of (by rw [decide_eq_true rfl]; rfl) ?_⟩
          obtain ⟨dx, gs, g0, _⟩ := sN2.bk.there
          obtain ⟨as4, hl4, hal4, _⟩ := sN2.ro
          refine ⟨_, rfl, p, dx, gs, rfl, g0, p, fp, newR rs R, rfl, sN2.bk, (newR rs R).length, rfl, (by have := (BookAt.ok sN2.bk).2.2; rw [PySem.sizeLine_eq]; omega), _, rfl, _, _, rfl, .inl ⟨_, SqL.of hl4, rfl⟩, ?_⟩
          rw [List.length_map, hal4]
          refine ⟨rfl, _, rfl, if_false_of (by rw [decide_eq_true rfl]; rfl) ?_⟩
          exact ⟨⟨_, rfl⟩, newR rs R, sN2, .inr rfl, (fun _ => rfl), haN2, hdN2, fN.tr f2'⟩
        · rintro σ N ⟨⟨o7, rfl⟩, rb, sN, _, hlast, haN, hdN, fN⟩
          have e := hlast (by decide)
          subst e
          refine ⟨⟨_, _, _, _, _, rfl⟩, newR rs R, sN.more (by omega), ?_, ?_, fN⟩
          · cases R with
            | inr q => exact Nat.le_succ_of_le hrl
            | inl k =>
              have := (addR_len rs k).2
              show (addR rs k).length ≤ i + 1
              omega
          · cases R with
            | inr q => exact hsm
            | inl k =>
              intro j hj
              have hj' : j ∈ addR rs k := hj
              cases hh : hasR rs k with
              | true => rw [(posR_old hh).1] at hj'; exact hsm j hj'
              | false =>
                rw [(posR_new hh).1] at hj'
                rcases List.mem_append.mp hj' with h | h
                · exact hsm j h
                · rw [List.mem_singleton.mp h]
                  exact due_small hc hdue
    · rintro σ G ⟨⟨o3, o4, o5, o6, o7, rfl⟩, rs, sG, hrl, hsm, fG⟩
      obtain ⟨as, hl, hal, hrw⟩ := sG.ro
      refine ⟨_, rfl, _, rfl, ?_⟩
      dsimp only [tNil]
      exact ⟨p, l, fp, rs, rfl, sG.bk, ⟨as, SqL.of hl, hal, hrw⟩, ⟨by omega, hsm⟩, fun H' s => q H' rs ((sG.same s).more (by omega)) (by omega) hsm (fG.tr (Fr4.same s))⟩

end
end T04
set_option Elab.async false
set_option linter.all false
set_option maxRecDepth 100000
set_option maxHeartbeats 4000000
namespace T04
open PySem PySem.Spec PyProof.Rows L2 Tp
section
variable {P : Program} {w : World} {K : PySem.W.Frag} {mg : Str → Option Value} {base : Heap} {f : Addr} {fd : FuncData}

/-- what is known of the class of books -/
structure TxtC (K : PySem.W.Frag) (C : Addr) : Prop where
  ik : InsK K C
  self : PySem.W.kitOne K (.ref C) (.ref C) = some true
def nmQ (k : Nat) : Str := ("q" : Str) ++ Str.ofString (toString (k : Int)) ++ ("q" : Str)
theorem sub_le : ∀ {ks rs : List RowK}, ks.Nodup → (∀ k ∈ ks, k ∈ rs) → ks.length ≤ rs.length
  | [], _, _, _ => Nat.zero_le _
  | k :: ks, rs, hn, h => by
    obtain ⟨a, b, e⟩ := List.append_of_mem (h k List.mem_cons_self)
    have hk := List.nodup_cons.mp hn
    have := sub_le (rs := a ++ b) hk.2 fun j hj => by
      have hj2 := h j (List.mem_cons_of_mem _ hj)
      rw [e] at hj2
      rcases List.mem_append.mp hj2 with z | z
      · exact List.mem_append_left _ z
      · rcases List.mem_cons.mp z with z | z
        · exact absurd (z ▸ hj) hk.1
        · exact List.mem_append_right _ z
    rw [e, List.length_append, List.length_cons, List.length_cons]
    rw [List.length_append] at this
    omega
/-- the names that are free -/
def freeQ (rs : List RowK) (n : Nat) : List Str := ((List.range n).map nmQ).filter fun z => !hasR rs (z, .inr [])
theorem nmQ_nodup : ((List.range 40).map nmQ).Nodup := by decide +kernel
theorem nmQ_name : ∀ z ∈ (List.range 40).map nmQ, nameB (TL.tl z) = true := by decide +kernel
theorem filter_two {α : Type} (f : α → Bool) : ∀ xs : List α, (xs.filter f).length + (xs.filter fun x => !f x).length = xs.length
  | [] => rfl
  | x :: xs => by
    have := filter_two f xs
    cases h : f x
    · rw [List.filter_cons_of_neg (by rw [h]; decide), List.filter_cons_of_pos (by rw [h]; rfl), List.length_cons, List.length_cons]
      omega
    · rw [List.filter_cons_of_pos h, List.filter_cons_of_neg (by rw [h]; decide), List.length_cons, List.length_cons]
      omega
theorem free_many {rs : List RowK} (h : rs.length ≤ 31) : ∃ z0 z1 zs, freeQ rs 40 = z0 :: z1 :: zs ∧ z0 ≠ z1 ∧ nameB (TL.tl z0) = true ∧ nameB (TL.tl z1) = true ∧ hasR rs (z0, .inr []) = false ∧ hasR rs (z1, .inr []) = false := by
  have h1 := filter_two (fun z : Str => !hasR rs (z, .inr [])) ((List.range 40).map nmQ)
  rw [List.length_map, List.length_range] at h1
  have h2 : (((List.range 40).map nmQ).filter fun z => !!hasR rs (z, .inr [])).length ≤ rs.length := by
    have hn : ((((List.range 40).map nmQ).filter fun z => !!hasR rs (z, .inr [])).map fun z => ((z, .inr []) : RowK)).Nodup := by
      refine List.Pairwise.map _ (fun a b h e => h ?_) (List.Pairwise.filter _ nmQ_nodup)
      exact (Prod.mk.inj e).1
    have := sub_le (rs := rs) hn fun k hk => by
      obtain ⟨z, hz, rfl⟩ := List.mem_map.mp hk
      have := (List.mem_filter.mp hz).2
      rw [Bool.not_not] at this
      exact hasR_iff.mp this
    rw [List.length_map] at this
    exact this
  have hl : 9 ≤ (freeQ rs 40).length := by
    unfold freeQ
    omega
  have hnd : (freeQ rs 40).Nodup := List.Pairwise.filter _ nmQ_nodup
  have hm : ∀ z ∈ freeQ rs 40, nameB (TL.tl z) = true ∧ hasR rs (z, .inr []) = false := fun z hz => by
    obtain ⟨a, b⟩ := List.mem_filter.mp hz
    exact ⟨nmQ_name z a, by cases hh : hasR rs (z, .inr []) with
      | false => rfl
      | true => rw [hh] at b; cases b⟩
  cases e : freeQ rs 40 with
  | nil => rw [e] at hl; simp at hl
  | cons z0 zs =>
    cases zs with
    | nil => rw [e] at hl; simp at hl
    | cons z1 zs =>
      rw [e] at hnd hm
      have n0 := (List.nodup_cons.mp hnd).1
      exact ⟨z0, z1, zs, rfl, fun h => n0 (h ▸ List.mem_cons_self), (hm z0 (by simp)).1, (hm z1 (by simp)).1, (hm z0 (by simp)).2, (hm z1 (by simp)).2⟩
theorem free_snoc (rs : List RowK) (n : Nat) : freeQ rs (n + 1) = freeQ rs n ++ (if hasR rs (nmQ n, .inr []) = true then [] else [nmQ n]) := by
  unfold freeQ
  rw [List.range_succ, List.map_append, List.filter_append]
  congr 1
  cases h : hasR rs (nmQ n, .inr []) with
  | true => simp [h]
  | false => simp [h]
theorem const_to {H : Hp} {C CN p : Addr} {fp : List Addr} {rs : List RowK} {z : Str} {Q : VK} {E : XK} (hB : BookAt P w K H C p fp rs) (hl : rs.length < 5000) (hz : nameB (TL.tl z) = true) (hn : hasR rs (z, .inr []) = false) (q : ∀ H', Frame fp H H' → BookAt P w K H' C p fp (rs ++ [(z, .inr [])]) → Q (.int (rs.length : Nat)) H') : spConst P w K C CN [.ref p, .str z] H Q E := by
  refine ⟨p, fp, rs, .str z, "str", rfl, hB, hl, vk_str z (Nat.le_trans (name_ok hz).2 (by decide)), fun e => ?_, fun z2 e _ => ?_⟩
  · rw [show nameV (.str z) = nameB (TL.tl z) from rfl, hz] at e
    cases e
  · cases e
    obtain ⟨e1, e2⟩ := posR_new hn
    intro H' f b
    rw [e1] at b
    rw [e2]
    exact q H' f b
theorem isR_book {H : Hp} {C p : Addr} {fp : List Addr} {rs : List RowK} (TC : TxtC K C) (hB : BookAt P w K H C p fp rs) : IsR K H (.ref p) (.ref C) true := by
  obtain ⟨dx, fs, h1, _⟩ := hB.there
  exact .inl ⟨_, .base (.ins h1 TC.ik.cl TC.ik.ha TC.ik.hn TC.ik.ht TC.ik.hm), TC.self⟩
theorem eq_to {H : Hp} {C p q : Addr} {fp fq : List Addr} {rs qs : List RowK} {no : Bool} {Q : VK} (TC : TxtC K C) (hB : BookAt P w K H C p fp rs) (hC : BookAt P w K H C q fq qs) (h : Q (.bl (decide (rs = qs) != no)) H) : rEqO K C (spEqB P w K C) no (.ref p) (.ref q) H Q := by
  obtain ⟨dx, fs, h1, _⟩ := hB.there
  obtain ⟨dy, gs, h2, _⟩ := hC.there
  exact ⟨p, dx, fs, rfl, h1, .inl ⟨q, dy, gs, rfl, h2⟩, p, fp, rs, .ref q, rfl, hB, .inl ⟨q, fq, qs, rfl, hC, isR_book TC hC, _, rfl, h⟩⟩
theorem rowsL_app {H : Hp} {rs ks : List RowK} {as bs : List Addr} {m : Addr} (hal : as.length = rs.length) (hrw : ∀ (i : Nat) (k : RowK) (a : Addr), rs[i]? = some k → as[i]? = some a → RowAt K H k a) (hbr : ∀ (i : Nat) (k : RowK) (a : Addr), ks[i]? = some k → bs[i]? = some a → RowAt K H k a) (hbl : bs.length = ks.length) (hm : SqL K H m (as.map V.ref ++ bs.map V.ref)) : RowsL K H m (rs ++ ks) := by
  refine ⟨as ++ bs, by rw [List.map_append]; exact hm, by rw [List.length_append, List.length_append, hal, hbl], fun i k a h1 h2 => ?_⟩
  rcases Nat.lt_or_ge i rs.length with h | h
  · rw [List.getElem?_append_left h] at h1
    rw [List.getElem?_append_left (by omega)] at h2
    exact hrw i k a h1 h2
  · rw [List.getElem?_append_right h] at h1
    rw [List.getElem?_append_right (by omega)] at h2
    rw [hal] at h2
    exact hbr _ k a h1 h2
theorem has_snoc {rs : List RowK} {k j : RowK} (h : hasR rs k = false) (n : k ≠ j) : hasR (rs ++ [j]) k = false := by
  cases hh : hasR (rs ++ [j]) k with
  | false => rfl
  | true =>
    rcases List.mem_append.mp (hasR_iff.mp hh) with z | z
    · rw [hasR_iff.mpr z] at h
      cases h
    · exact absurd (List.mem_singleton.mp z) n
theorem sm_snoc {rs : List RowK} {ks : List RowK} (h : SmT rs) (hl : rs.length ≤ 31) (hk : ∀ k ∈ ks, ∃ z, k = (z, .inr [])) (h2 : ks.length ≤ 2) : SmR (rs ++ ks) := by
  refine ⟨by rw [List.length_append]; omega, fun k hm n e => ?_⟩
  rcases List.mem_append.mp hm with z | z
  · exact h k z n e
  · obtain ⟨y, rfl⟩ := hk k z
    cases e
theorem one_row {H : Hp} {k : RowK} {r : Addr} (h : RowAt K H k r) : ∀ (i : Nat) (j : RowK) (a : Addr), [k][i]? = some j → [r][i]? = some a → RowAt K H j a := fun i j a h1 h2 => by
  match i, h1, h2 with
  | 0, h1, h2 => cases h1; cases h2; exact h
theorem two_rows {H : Hp} {k k' : RowK} {r r' : Addr} (h : RowAt K H k r) (h' : RowAt K H k' r') : ∀ (i : Nat) (j : RowK) (a : Addr), [k, k'][i]? = some j → [r, r'][i]? = some a → RowAt K H j a := fun i j a h1 h2 => by
  match i, h1, h2 with
  | 0, h1, h2 => cases h1; cases h2; exact h
  | 1, h1, h2 => cases h1; cases h2; exact h'
def spCopyR (P : Program) (w : World) (K : PySem.W.Frag) (C : Addr) : Sp := fun vs H Q _ => ∃ (p pc l : Addr) (fp fc : List Addr) (rs : List RowK), vs = [.ref p, .ref pc, .ref l] ∧ BookAt P w K H C p fp rs ∧ BookAt P w K H C pc fc rs ∧ (∃ as : List Addr, H l = some (.lst (as.map V.ref)) ∧ as.length = rs.length ∧ ∀ (i : Nat) (k : RowK) (a : Addr), rs[i]? = some k → as[i]? = some a → RowAt K H k a) ∧ SmT rs ∧ rs.length ≤ 31 ∧ (∀ b ∈ fp, b ∉ fc) ∧ p ∉ fc ∧ pc ∉ fp ∧ l ∉ fp ∧ l ∉ fc ∧ ∀ H', Frame (fp ++ fc) H H' → Q (.bl true) H'

abbrev sCy : Stmt := top 55
abbrev nCy : List Str := ["_law_book", "_law_copy", "_law_rows", "_law_told_here", "_law_free", "_law_fresh", "_law_more", "_law_both", "_law_name", "_law_k"]
theorem scCy : FnScope nCy ["_law_book", "_law_copy", "_law_rows"] (defScope sCy) := ⟨rfl, rfl, rfl, by decide +kernel, rfl, by decide +kernel, by decide +kernel⟩

theorem ok_Cy (F : Fun K "_law_copy_right" "_law_copy_right" sCy f fd) {C CN : Addr} (T : TxtL mg) (TC : TxtC K C) (S : Sm K) (CW : Ct P w K mg base 1 C "rows" [] (spRows P w K C)) (CC : Ctr P w K mg base 4 C "constant" [] (spConst P w K C CN)) (EQ : Ct P w K mg base 1 C "__eq__" [] (spEqB P w K C)) (HO : Cg P w K mg base 8 "_law_holds" (spHolds P w K C)) : FnG P w K mg base CX0 9 f fd ["_law_book", "_law_copy", "_law_rows"] (spCopyR P w K C) := by
  refine FunG.ok F scCy (fun vs H Q E h => ?_) (fun cdv B out s H vs Q E hr hG h => ?_)
  · obtain ⟨p, pc, l, fp, fc, rs, rfl, _⟩ := h
    rfl
  · obtain ⟨p, pc, l, fp, fc, rs, rfl, hB, hC, hL, hsm, hle, dj, d1, d2, d3, d4, q⟩ := h
    refine ⟨_, (pss_cons (ps_set (i := 3) scCy.nd rfl (.inl rfl) (pe_ct0 (pv 1) CW hr hG (by decide)))
      (pss_cons (ps_expr (pe_bm PySem.F.plainAttrs_list PySem.F.slot_list_append PySem.F.type_list_append mt_append (pv 3) (pa_cons (pe_tup (pa_cons pe_str (pa_cons (pe_tup pa_nil) pa_nil))) pa_nil)))
      (C8.pss_cut (ps_setLc (i := 4) (own := [("_law_name", 8)]) (g := gName 8) rfl scCy.nd rfl rfl (sw_true rfl rfl rfl (by decide +kernel)) (pi_list (pe_lc (own := [("_law_k", 9)]) (g := gName 9) (tt := tYes) rfl scCy.nd (pi_range1 (by rfl) T.range (pa_cons pe_int pa_nil)) (blkOk_by (N := nCy) (sc := defScope sCy) (by decide +kernel)) (fun _ _ _ _ _ => pg_name (i := 9) scCy.nd rfl (Or.inl rfl)) (fun _ _ _ _ _ => pts_nil) (fun _ _ _ _ _ => (pe_op op_add_str (pe_op op_add_str pe_str (pe_callTy call_str_int (by rfl) T.str (by decide +kernel) (pa_cons (pv 9) pa_nil))) pe_str)))) (blkOk_by (N := nCy) (sc := defScope sCy) (by decide +kernel)) (fun _ _ _ _ _ => pg_name (i := 8) scCy.nd rfl (Or.inl rfl)) (fun _ _ _ _ _ => (pts_one (pt_cmpR (op_notInL S rfl (hu65 hr)) (pe_tup (pa_cons (pv 8) (pa_cons (pe_tup pa_nil) pa_nil))) (pv 2) rfl))) (fun _ _ _ _ _ => (pv 8)))
      (pss_cons (ps_par (i := 5) (j := 6) rfl scCy.nd rfl rfl (by decide) rfl rfl (pa_cons (pe_ix ix_list (pv 4) pe_int fun _ _ => rfl) (pa_cons (pe_ix ix_list (pv 4) pe_int fun _ _ => rfl) pa_nil)) (by rfl))
      (pss_cons (ps_expr (pe_ctr (pv 1) CC hr hG (by decide) takes0 (pa_cons (pv 5) pa_nil)))
      (pss_cons (ps_if (PW.pt (pw_or (pt_not (pt_val (pe_g HO hr hG (by decide) (by rfl) (pa_cons (pv 0) (pa_cons (pv 2) pa_nil))))) (pw_or (pt_not (pt_val (pe_g HO hr hG (by decide) (by rfl) (pa_cons (pv 1) (pa_cons (pe_op op_cat (pv 2) (pe_lst (pa_cons (pe_tup (pa_cons (pv 5) (pa_cons (pe_tup pa_nil) pa_nil))) pa_nil))) pa_nil))))) (pw_or1 (pt_cmpR (op_eqO EQ (hr.mono (by decide)) hG) (pv 1) (pv 0) (nomark _)))))) (pss_one (ps_ret pe_bl)) pss_nil)
      (pss_cons (ps_expr (pe_ctr (pv 0) CC hr hG (by decide) takes0 (pa_cons (pv 6) pa_nil)))
      (pss_cons (ps_if (PW.pt (pw_or (pt_cmpR op_ne (pe_ctr (pv 0) CC hr hG (by decide) takes0 (pa_cons (pv 5) pa_nil)) (pe_op op_add (pe_callB call_len (by rfl) T.len PySem.boot_len (pa_cons (pv 2) pa_nil)) pe_int) (nomark _)) (pw_or1 (pt_cmpR op_ne (pe_ctr (pv 1) CC hr hG (by decide) takes0 (pa_cons (pv 6) pa_nil)) (pe_op op_add (pe_callB call_len (by rfl) T.len PySem.boot_len (pa_cons (pv 2) pa_nil)) pe_int) (nomark _))))) (pss_one (ps_ret pe_bl)) pss_nil)
      (pss_cons (ps_set (i := 7) scCy.nd rfl (.inl rfl) (pe_lst (pa_cons (pe_op op_cat (pv 2) (pe_lst (pa_cons (pe_tup (pa_cons (pv 6) (pa_cons (pe_tup pa_nil) pa_nil))) (pa_cons (pe_tup (pa_cons (pv 5) (pa_cons (pe_tup pa_nil) pa_nil))) pa_nil)))) (pa_cons (pe_op op_cat (pv 2) (pe_lst (pa_cons (pe_tup (pa_cons (pv 5) (pa_cons (pe_tup pa_nil) pa_nil))) (pa_cons (pe_tup (pa_cons (pv 6) (pa_cons (pe_tup pa_nil) pa_nil))) pa_nil)))) pa_nil))))
      (pss_one (ps_ret (pe_and (pe_g HO hr hG (by decide) (by rfl) (pa_cons (pv 0) (pa_cons (pe_ix ix_list (pv 7) pe_int fun _ _ => rfl) pa_nil))) (pe_one (pe_g HO hr hG (by decide) (by rfl) (pa_cons (pv 1) (pa_cons (pe_ix ix_list (pv 7) pe_int fun _ _ => rfl) pa_nil)))))))))))))))), ?_⟩
    obtain ⟨as, hl0, hal, hrw⟩ := hL
    have hl := SqL.of (K := K) hl0
    obtain ⟨hnd, hR, h5⟩ := BookAt.ok hB
    obtain ⟨dx, gs, g0, a6⟩ := hC.there
    refine ⟨_, rfl, pc, dx, gs, rfl, g0, a6 _ (by decide), pc, fc, rs, rfl, hC, fun l1 H1 bs e1 eH1 hbl hbr => ?_⟩
    subst eH1
    have s1 : Same H (upd H l1 (.lst (bs.map V.ref))) := Same.put e1
    have h1 : (upd H l1 (.lst (bs.map V.ref))) l1 = some (.lst (bs.map V.ref)) := upd_same
    generalize upd H l1 (.lst (bs.map V.ref)) = H1 at s1 h1 ⊢
    dsimp only [gName]
    refine ⟨_, rfl, .inl ⟨rfl, _, SqL.of h1⟩, (by show 0 ≤ sizeLine; decide), fun t1 e2 => ⟨(by show 2 ≤ sizeLine; decide), fun t2 e3 => ?_⟩⟩
    have s2 : Same H1 (upd H1 t1 (.tup [])) := Same.put e2
    generalize upd H1 t1 (.tup []) = H2 at s2 e3 ⊢
    have s3 : Same H2 (upd H2 t2 (.tup [V.str "zz", .ref t1])) := Same.put e3
    generalize upd H2 t2 (.tup [V.str "zz", .ref t1]) = H3 at s3 ⊢
    refine ⟨l1, _, _, rfl, rfl, s3 _ _ (s2 _ _ h1), (by rw [List.length_map, hbl, PySem.sizeLine_eq]; omega), ?_⟩
    have s4 : Same H (upd H3 l1 (.lst (bs.map V.ref ++ [.ref t2]))) := fun b o e => (upd_ne (ne_of_none e e1)).trans (Same.tr s1 (Same.tr s2 s3) b o e)
    generalize upd H3 l1 (.lst (bs.map V.ref ++ [.ref t2])) = H4 at s4 ⊢
    refine ⟨fun σ' M => ∃ L z0 z1 zs, σ' = [some (.ref p), some (.ref pc), some (.ref l), some (.ref l1), some (.ref L), none, none, none, none, none] ∧ Same H M ∧ M L = some (.lst ((z0 :: z1 :: zs).map V.str)) ∧ z0 ≠ z1 ∧ nameB (TL.tl z0) = true ∧ nameB (TL.tl z1) = true ∧ hasR rs (z0, .inr []) = false ∧ hasR rs (z1, .inr []) = false, ?_, ?_⟩
    · refine ⟨_, rfl, by decide, by decide, fun D hD => ?_⟩
      have hlen : ∀ j : Nat, j < 40 → (Str.ofString (toString ((j : Nat) : Int))).length ≤ 2 := by decide +kernel
      refine lc_range (lo := 0) (n := 40) (fun j M => Same H M ∧ M D = some (.lst (((List.range j).map nmQ).map V.str)) ∧ H D = none) ⟨?_, upd_same, ?_⟩ ?_ ?_
      · exact fun b o e => (Same.tr s4 (Same.put hD)) b o e
      · cases e : H D with
        | none => rfl
        | some o => rw [s4 _ _ e] at hD; cases hD
      · rintro j M hj ⟨sM, mD, hDH⟩
        have hz := hlen j hj
        rw [Int.zero_add]
        have l1' : ("q" : Str).length = 1 := by decide +kernel
        refine ⟨rfl, _, rfl, ((j : Nat) : Int), rfl, Nat.lt_trans (small_log (by omega) (by omega)) (by decide), _, _, rfl, rfl, (by rw [PySem.sizeLine_eq]; omega), _, _, rfl, rfl, (by rw [Str.length_append, PySem.sizeLine_eq]; omega), _, mD, (by rw [List.length_map, List.length_map, List.length_range, PySem.sizeLine_eq]; omega), fun b o e => (upd_ne (ne_of_none e hDH)).trans (sM b o e), ?_, hDH⟩
        rw [upd_same, List.range_succ, List.map_append, List.map_append]
        rfl
      · rintro M ⟨sM, mD, hDH⟩
        refine ⟨D, rfl, ⟨_, SqL.of mD⟩, fun F hF => ?_⟩
        have hFH : H F = none := by
          cases e : H F with
          | none => rfl
          | some o => rw [sM _ _ e] at hF; cases hF
        have nDF : D ≠ F := ne_of_none mD hF
        refine lc_it (walk_list (xs := ((List.range 40).map nmQ).map V.str)) (fun j N => Same M N ∧ N F = some (.lst ((freeQ rs j).map V.str))) ⟨Same.put hF, upd_same⟩ (fun _ _ _ h => SqL.of (h.1 _ _ mD)) ?_ ?_
        · rintro j v N N' hj ⟨sN, hNF⟩ ⟨rfl, hv⟩
          rw [List.length_map, List.length_map, List.length_range] at hj
          have ev : v = .str (nmQ j) := by
            rw [List.getElem?_map, List.getElem?_map, List.getElem?_range hj] at hv
            exact (Option.some.inj hv).symm
          subst ev
          have hz := nmQ_name (nmQ j) (List.mem_map.mpr ⟨j, List.mem_range.mpr hj, rfl⟩)
          refine ⟨rfl, _, rfl, (by show 0 ≤ sizeLine; decide), fun u1 eu1 => ⟨(by show 2 ≤ sizeLine; decide), fun u2 eu2 => ⟨_, rfl, ?_⟩⟩⟩
          have s5 : Same N' (upd N' u1 (.tup [])) := Same.put eu1
          have h5 : (upd N' u1 (.tup [])) u1 = some (.tup []) := upd_same
          generalize upd N' u1 (.tup []) = N1 at s5 h5 eu2 ⊢
          have s6 : Same N1 (upd N1 u2 (.tup [V.str (nmQ j), .ref u1])) := Same.put eu2
          have h6 : (upd N1 u2 (.tup [V.str (nmQ j), .ref u1])) u2 = some (.tup [V.str (nmQ j), .ref u1]) := upd_same
          generalize upd N1 u2 (.tup [V.str (nmQ j), .ref u1]) = N2 at s6 h6 ⊢
          have sH2 := Same.tr sM (Same.tr sN (Same.tr s5 s6))
          refine ⟨rowD (nmQ j, .inr []), rs.map rowD, .tup (SqT.of h6) (.cons (.str _) (.cons (.tup (SqT.of (s6 _ _ h5)) .nil) .nil)), .lst (upL sH2 hl) (rows_dp hal fun i k a x y => (hrw i k a x y).mono fun _ _ => upT sH2), rows_left rs, rows_lay (okRows_str hR), Nat.le_trans (rows_depth rs) (by decide), _, rfl, ?_⟩
          rw [rows_any]
          have hNF2 := s6 _ _ (s5 _ _ hNF)
          cases hh : hasR rs (nmQ j, .inr []) with
          | true =>
            refine iteF ⟨Same.tr sN (Same.tr s5 s6), ?_⟩
            rw [free_snoc, if_pos hh, List.append_nil]
            exact hNF2
          | false =>
            refine iteT ⟨_, rfl, _, hNF2, ?_, fun b o e => (upd_ne (ne_of_none e hF)).trans ((Same.tr sN (Same.tr s5 s6)) b o e), ?_⟩
            · have : (freeQ rs j).length ≤ j := by
                unfold freeQ
                refine Nat.le_trans (List.length_filter_le _ _) ?_
                rw [List.length_map, List.length_range]
                exact Nat.le_refl _
              rw [List.length_map, PySem.sizeLine_eq]
              omega
            · rw [upd_same, free_snoc, if_neg (by rw [hh]; decide), List.map_append]
              rfl
        · rintro N ⟨sN, hNF⟩
          rw [List.length_map, List.length_map, List.length_range] at hNF
          obtain ⟨z0, z1, zs, e, hne, n0, n1, f0, f1⟩ := free_many hle
          rw [e] at hNF
          exact ⟨F, z0, z1, zs, rfl, Same.tr sM sN, hNF, hne, n0, n1, f0, f1⟩
    · rintro σ' M ⟨L, z0, z1, zs, rfl, sM, hML, hne, n0, n1, f0, f1⟩
      have hBM := hB.up sM
      have hCM := hC.up sM
      have mk : ∀ z0 : Str, nameB (TL.tl z0) = true → ∀ G a b, SqT K G a [.str z0, .ref b] → SqT K G b [] → RowAt K G (z0, .inr []) a := fun z0 n0 G a b h1 h2 => ⟨(name_ok n0).1, .inr ⟨[], b, rfl, h1, h2⟩⟩
      refine ⟨_, rfl, L, _, _, _, rfl, rfl, SqL.of hML, atI_nat (j := 0) rfl, _, rfl, L, _, _, _, rfl, rfl, SqL.of hML, atI_nat (j := 1) rfl, _, _, rfl, ?_⟩
      obtain ⟨dx, gs, g0, a6⟩ := hCM.there
      refine ⟨_, rfl, pc, dx, gs, rfl, g0, a6 _ (by decide), _, rfl, ?_⟩
      dsimp only [tNil]
      refine const_to hCM (by omega) n0 f0 fun M1 fr1 hC1 => ?_
      have hB1 := hBM.fr fr1 hCM.notTup d1 dj
      have hrw1 : ∀ (i : Nat) (k : RowK) (a : Addr), rs[i]? = some k → as[i]? = some a → RowAt K M1 k a := fun i k a x y => SqT_row ((hrw i k a x y).mono fun _ _ => upT sM) fr1 hCM.notTup
      have hl1 := fr1 _ _ d4 (sM _ _ hl0)
      refine ⟨_, rfl, _, rfl, ?_⟩
      dsimp only [tNil]
      refine ⟨p, l, fp, rs, rfl, hB1, ⟨as, SqL.of hl1, hal, hrw1⟩, ⟨by omega, hsm⟩, fun M2 s2 => ⟨_, rfl, ?_⟩⟩
      refine iteF ?_
      refine ⟨_, rfl, _, rfl, _, rfl, (by show 0 ≤ sizeLine; decide), fun u1 eu1 => ?_⟩
      have sA1 : Same M2 (upd M2 u1 (.tup [])) := Same.put eu1
      have tA1 : (upd M2 u1 (.tup [])) u1 = some (.tup []) := upd_same
      generalize upd M2 u1 (.tup []) = A1 at sA1 tA1 ⊢
      refine ⟨(by show 2 ≤ sizeLine; decide), fun u2 eu2 => ?_⟩
      have sA2 : Same A1 (upd A1 u2 (.tup [V.str z0, V.ref u1])) := Same.put eu2
      have tA2 : (upd A1 u2 (.tup [V.str z0, V.ref u1])) u2 = some (.tup [V.str z0, V.ref u1]) := upd_same
      generalize upd A1 u2 (.tup [V.str z0, V.ref u1]) = A2 at sA2 tA2 ⊢
      refine ⟨(by show 1 ≤ sizeLine; decide), fun u3 eu3 => ?_⟩
      have sA3 : Same A2 (upd A2 u3 (.lst [V.ref u2])) := Same.put eu3
      have tA3 : (upd A2 u3 (.lst [V.ref u2])) u3 = some (.lst [V.ref u2]) := upd_same
      generalize upd A2 u3 (.lst [V.ref u2]) = A3 at sA3 tA3 ⊢
      have sA3' := sA3
      have sA3 := Same.tr s2 (Same.tr sA1 (Same.tr sA2 sA3))
      refine ⟨_, _, _, _, rfl, rfl, sA3 _ _ hl1, tA3, (by rw [List.length_map, List.length_singleton, PySem.sizeLine_eq]; omega), fun u4 eu4 => ?_⟩
      have sA4 : Same A3 (upd A3 u4 (.lst (as.map V.ref ++ [V.ref u2]))) := Same.put eu4
      have tA4 : (upd A3 u4 (.lst (as.map V.ref ++ [V.ref u2]))) u4 = some (.lst (as.map V.ref ++ [V.ref u2])) := upd_same
      generalize upd A3 u4 (.lst (as.map V.ref ++ [V.ref u2])) = A4 at sA4 tA4 ⊢
      have sM4 := Same.tr sA3 sA4
      dsimp only [tNil]
      have z2 : A4 u2 = some (.tup [V.str z0, V.ref u1]) := sA4 _ _ (sA3' _ _ tA2)
      have z1' : A4 u1 = some (.tup []) := sA4 _ _ (sA3' _ _ (sA2 _ _ tA1))
      have hr2 : RowAt K A4 (z0, .inr []) u2 := mk z0 n0 A4 u2 u1 (SqT.of z2) (SqT.of z1')
      refine ⟨pc, u4, fc, rs ++ [(z0, .inr [])], rfl, hC1.up sM4, rowsL_app (bs := [u2]) hal (fun i k a x y => (hrw1 i k a x y).mono fun _ _ => upT sM4) (one_row hr2) rfl (SqL.of tA4), sm_snoc hsm hle (fun k hk => ⟨z0, List.mem_singleton.mp hk⟩) (by simp), fun M3 s3 => ⟨_, rfl, ?_⟩⟩
      refine iteF ?_
      have sM3 := Same.tr sM4 s3
      have hB3 := hB1.up sM3
      have hC3 := hC1.up sM3
      have hrw3 : ∀ (i : Nat) (k : RowK) (a : Addr), rs[i]? = some k → as[i]? = some a → RowAt K M3 k a := fun i k a x y => (hrw1 i k a x y).mono fun _ _ => upT sM3
      have hl3 := sM3 _ _ hl1
      refine ⟨_, rfl, _, rfl, ?_⟩
      refine eq_to TC hC3 hB3 ⟨_, rfl, if_false_of (by rw [decide_eq_false fun e => by have := congrArg List.length e; rw [List.length_append] at this; simp at this]; rfl) ?_⟩
      dsimp only [tNext]
      obtain ⟨dx, gs, g0, a6⟩ := hB3.there
      refine ⟨_, rfl, p, dx, gs, rfl, g0, a6 _ (by decide), _, rfl, ?_⟩
      dsimp only [tNil]
      refine const_to hB3 (by omega) n1 f1 fun M6 fr6 hB6 => ?_
      have dj2 : ∀ b ∈ fc, b ∉ fp := fun b h1 h2 => dj b h2 h1
      have hC6 := hC3.fr fr6 hB3.notTup d2 dj2
      have hl6 := fr6 _ _ d3 hl3
      have hrw6 : ∀ (i : Nat) (k : RowK) (a : Addr), rs[i]? = some k → as[i]? = some a → RowAt K M6 k a := fun i k a x y => SqT_row (hrw3 i k a x y) fr6 hB3.notTup
      have hk01 : ((z0, .inr []) : RowK) ≠ (z1, .inr []) := fun e => hne (Prod.mk.inj e).1
      obtain ⟨dx, gs, g0, a6⟩ := hB6.there
      refine ⟨_, rfl, p, dx, gs, rfl, g0, a6 _ (by decide), _, rfl, ?_⟩
      dsimp only [tNil]
      refine const_to hB6 (by rw [List.length_append, List.length_singleton]; omega) n0 (has_snoc f0 hk01) fun M7 fr7 hB7 => ?_
      have hC7 := hC6.fr fr7 hB6.notTup d2 dj2
      have hl7 := fr7 _ _ d3 hl6
      have hrw7 : ∀ (i : Nat) (k : RowK) (a : Addr), rs[i]? = some k → as[i]? = some a → RowAt K M7 k a := fun i k a x y => SqT_row (hrw6 i k a x y) fr7 hB6.notTup
      refine ⟨_, rfl, _, _, rfl, .inl ⟨_, SqL.of hl7, rfl⟩, _, _, rfl, rfl, rfl, _, rfl, if_false_of (by rw [List.length_append, List.length_map, hal]; show (!decide (V.int ((rs.length + 1 : Nat) : Int) = V.int ((rs.length : Int) + 1))) = false; rw [show ((rs.length + 1 : Nat) : Int) = (rs.length : Int) + 1 from by omega, decide_eq_true rfl]; rfl) ?_⟩
      obtain ⟨dx, gs, g0, a6⟩ := hC7.there
      refine ⟨_, rfl, pc, dx, gs, rfl, g0, a6 _ (by decide), _, rfl, ?_⟩
      dsimp only [tNil]
      refine const_to hC7 (by rw [List.length_append, List.length_singleton]; omega) n1 (has_snoc f1 hk01.symm) fun M8 fr8 hC8 => ?_
      have hB8 := hB7.fr fr8 hC7.notTup d1 dj
      have hl8 := fr8 _ _ d4 hl7
      have hrw8 : ∀ (i : Nat) (k : RowK) (a : Addr), rs[i]? = some k → as[i]? = some a → RowAt K M8 k a := fun i k a x y => SqT_row (hrw7 i k a x y) fr8 hC7.notTup
      refine ⟨_, rfl, _, _, rfl, .inl ⟨_, SqL.of hl8, rfl⟩, _, _, rfl, rfl, rfl, _, rfl, if_false_of (by rw [List.length_append, List.length_map, hal]; show (!decide (V.int ((rs.length + 1 : Nat) : Int) = V.int ((rs.length : Int) + 1))) = false; rw [show ((rs.length + 1 : Nat) : Int) = (rs.length : Int) + 1 from by omega, decide_eq_true rfl]; rfl) ?_⟩
      dsimp only [tNext]
      refine ⟨_, rfl, _, rfl, (by show 0 ≤ sizeLine; decide), fun v1 ev1 => ?_⟩
      have sB1 : Same M8 (upd M8 v1 (.tup [])) := Same.put ev1
      have tB1 : (upd M8 v1 (.tup [])) v1 = some (.tup []) := upd_same
      generalize upd M8 v1 (.tup []) = B1 at sB1 tB1 ⊢
      refine ⟨(by show 2 ≤ sizeLine; decide), fun v2 ev2 => ?_⟩
      have sB2 : Same B1 (upd B1 v2 (.tup [V.str z1, V.ref v1])) := Same.put ev2
      have tB2 : (upd B1 v2 (.tup [V.str z1, V.ref v1])) v2 = some (.tup [V.str z1, V.ref v1]) := upd_same
      generalize upd B1 v2 (.tup [V.str z1, V.ref v1]) = B2 at sB2 tB2 ⊢
      refine ⟨_, rfl, (by show 0 ≤ sizeLine; decide), fun v3 ev3 => ?_⟩
      have sB3 : Same B2 (upd B2 v3 (.tup [])) := Same.put ev3
      have tB3 : (upd B2 v3 (.tup [])) v3 = some (.tup []) := upd_same
      generalize upd B2 v3 (.tup []) = B3 at sB3 tB3 ⊢
      refine ⟨(by show 2 ≤ sizeLine; decide), fun v4 ev4 => ?_⟩
      have sB4 : Same B3 (upd B3 v4 (.tup [V.str z0, V.ref v3])) := Same.put ev4
      have tB4 : (upd B3 v4 (.tup [V.str z0, V.ref v3])) v4 = some (.tup [V.str z0, V.ref v3]) := upd_same
      generalize upd B3 v4 (.tup [V.str z0, V.ref v3]) = B4 at sB4 tB4 ⊢
      refine ⟨(by show 2 ≤ sizeLine; decide), fun v5 ev5 => ?_⟩
      have sB5 : Same B4 (upd B4 v5 (.lst [V.ref v2, V.ref v4])) := Same.put ev5
      have tB5 : (upd B4 v5 (.lst [V.ref v2, V.ref v4])) v5 = some (.lst [V.ref v2, V.ref v4]) := upd_same
      generalize upd B4 v5 (.lst [V.ref v2, V.ref v4]) = B5 at sB5 tB5 ⊢
      have qB5 : Same M8 B5 := Same.tr sB1 (Same.tr sB2 (Same.tr sB3 (Same.tr sB4 (sB5))))
      refine ⟨_, _, _, _, rfl, rfl, qB5 _ _ hl8, tB5, (by rw [List.length_map, PySem.sizeLine_eq]; show as.length + 2 ≤ _; omega), fun v6 ev6 => ?_⟩
      have sB6 : Same B5 (upd B5 v6 (.lst (as.map V.ref ++ [V.ref v2, V.ref v4]))) := Same.put ev6
      have tB6 : (upd B5 v6 (.lst (as.map V.ref ++ [V.ref v2, V.ref v4]))) v6 = some (.lst (as.map V.ref ++ [V.ref v2, V.ref v4])) := upd_same
      generalize upd B5 v6 (.lst (as.map V.ref ++ [V.ref v2, V.ref v4])) = B6 at sB6 tB6 ⊢
      refine ⟨_, rfl, _, rfl, (by show 0 ≤ sizeLine; decide), fun v7 ev7 => ?_⟩
      have sB7 : Same B6 (upd B6 v7 (.tup [])) := Same.put ev7
      have tB7 : (upd B6 v7 (.tup [])) v7 = some (.tup []) := upd_same
      generalize upd B6 v7 (.tup []) = B7 at sB7 tB7 ⊢
      refine ⟨(by show 2 ≤ sizeLine; decide), fun v8 ev8 => ?_⟩
      have sB8 : Same B7 (upd B7 v8 (.tup [V.str z0, V.ref v7])) := Same.put ev8
      have tB8 : (upd B7 v8 (.tup [V.str z0, V.ref v7])) v8 = some (.tup [V.str z0, V.ref v7]) := upd_same
      generalize upd B7 v8 (.tup [V.str z0, V.ref v7]) = B8 at sB8 tB8 ⊢
      refine ⟨_, rfl, (by show 0 ≤ sizeLine; decide), fun v9 ev9 => ?_⟩
      have sB9 : Same B8 (upd B8 v9 (.tup [])) := Same.put ev9
      have tB9 : (upd B8 v9 (.tup [])) v9 = some (.tup []) := upd_same
      generalize upd B8 v9 (.tup []) = B9 at sB9 tB9 ⊢
      refine ⟨(by show 2 ≤ sizeLine; decide), fun v10 ev10 => ?_⟩
      have sB10 : Same B9 (upd B9 v10 (.tup [V.str z1, V.ref v9])) := Same.put ev10
      have tB10 : (upd B9 v10 (.tup [V.str z1, V.ref v9])) v10 = some (.tup [V.str z1, V.ref v9]) := upd_same
      generalize upd B9 v10 (.tup [V.str z1, V.ref v9]) = B10 at sB10 tB10 ⊢
      refine ⟨(by show 2 ≤ sizeLine; decide), fun v11 ev11 => ?_⟩
      have sB11 : Same B10 (upd B10 v11 (.lst [V.ref v8, V.ref v10])) := Same.put ev11
      have tB11 : (upd B10 v11 (.lst [V.ref v8, V.ref v10])) v11 = some (.lst [V.ref v8, V.ref v10]) := upd_same
      generalize upd B10 v11 (.lst [V.ref v8, V.ref v10]) = B11 at sB11 tB11 ⊢
      have qB11 : Same M8 B11 := Same.tr sB1 (Same.tr sB2 (Same.tr sB3 (Same.tr sB4 (Same.tr sB5 (Same.tr sB6 (Same.tr sB7 (Same.tr sB8 (Same.tr sB9 (Same.tr sB10 (sB11))))))))))
      refine ⟨_, _, _, _, rfl, rfl, qB11 _ _ hl8, tB11, (by rw [List.length_map, PySem.sizeLine_eq]; show as.length + 2 ≤ _; omega), fun v12 ev12 => ?_⟩
      have sB12 : Same B11 (upd B11 v12 (.lst (as.map V.ref ++ [V.ref v8, V.ref v10]))) := Same.put ev12
      have tB12 : (upd B11 v12 (.lst (as.map V.ref ++ [V.ref v8, V.ref v10]))) v12 = some (.lst (as.map V.ref ++ [V.ref v8, V.ref v10])) := upd_same
      generalize upd B11 v12 (.lst (as.map V.ref ++ [V.ref v8, V.ref v10])) = B12 at sB12 tB12 ⊢
      refine ⟨(by show 2 ≤ sizeLine; decide), fun v13 ev13 => ?_⟩
      have sB13 : Same B12 (upd B12 v13 (.lst [V.ref v6, V.ref v12])) := Same.put ev13
      have tB13 : (upd B12 v13 (.lst [V.ref v6, V.ref v12])) v13 = some (.lst [V.ref v6, V.ref v12]) := upd_same
      generalize upd B12 v13 (.lst [V.ref v6, V.ref v12]) = B13 at sB13 tB13 ⊢
      dsimp only [gName]
      have qL : Same M8 B13 := Same.tr sB1 (Same.tr sB2 (Same.tr sB3 (Same.tr sB4 (Same.tr sB5 (Same.tr sB6 (Same.tr sB7 (Same.tr sB8 (Same.tr sB9 (Same.tr sB10 (Same.tr sB11 (Same.tr sB12 (sB13))))))))))))
      have y13 : Same B13 B13 := Same.refl _
      have y12 : Same B12 B13 := Same.tr sB13 y13
      have y11 : Same B11 B13 := Same.tr sB12 y12
      have y10 : Same B10 B13 := Same.tr sB11 y11
      have y9 : Same B9 B13 := Same.tr sB10 y10
      have y8 : Same B8 B13 := Same.tr sB9 y9
      have y7 : Same B7 B13 := Same.tr sB8 y8
      have y6 : Same B6 B13 := Same.tr sB7 y7
      have y5 : Same B5 B13 := Same.tr sB6 y6
      have y4 : Same B4 B13 := Same.tr sB5 y5
      have y3 : Same B3 B13 := Same.tr sB4 y4
      have y2 : Same B2 B13 := Same.tr sB3 y3
      have y1 : Same B1 B13 := Same.tr sB2 y2
      have r1 : RowAt K B13 (z1, .inr []) v2 := mk z1 n1 _ v2 v1 (SqT.of (y2 _ _ tB2)) (SqT.of (y1 _ _ tB1))
      have r0 : RowAt K B13 (z0, .inr []) v4 := mk z0 n0 _ v4 v3 (SqT.of (y4 _ _ tB4)) (SqT.of (y3 _ _ tB3))
      have r0' : RowAt K B13 (z0, .inr []) v8 := mk z0 n0 _ v8 v7 (SqT.of (y8 _ _ tB8)) (SqT.of (y7 _ _ tB7))
      have r1' : RowAt K B13 (z1, .inr []) v10 := mk z1 n1 _ v10 v9 (SqT.of (y10 _ _ tB10)) (SqT.of (y9 _ _ tB9))
      have hrwL : ∀ (i : Nat) (k : RowK) (a : Addr), rs[i]? = some k → as[i]? = some a → RowAt K B13 k a := fun i k a x y => (hrw8 i k a x y).mono fun _ _ => upT qL
      have hBL := hB8.up qL
      have hCL := hC8.up qL
      rw [List.append_assoc] at hBL hCL
      refine ⟨_, rfl, _, rfl, v13, _, _, _, rfl, rfl, SqL.of (y13 _ _ tB13), atI_nat (j := 0) rfl, ?_⟩
      dsimp only [tNil]
      refine ⟨p, v6, fp, rs ++ [(z1, .inr []), (z0, .inr [])], rfl, hBL, rowsL_app (bs := [v2, v4]) hal hrwL (two_rows r1 r0) rfl (SqL.of (y6 _ _ tB6)), sm_snoc hsm hle (fun k hk => by simp only [List.mem_cons, List.not_mem_nil, or_false] at hk; rcases hk with rfl | rfl <;> exact ⟨_, rfl⟩) (by simp), fun N1 w1 => ⟨_, rfl, iteT ?_⟩⟩
      refine ⟨_, rfl, _, rfl, v13, _, _, _, rfl, rfl, SqL.of (w1 _ _ (y13 _ _ tB13)), atI_nat (j := 1) rfl, ?_⟩
      dsimp only [tNil]
      refine ⟨pc, v12, fc, rs ++ [(z0, .inr []), (z1, .inr [])], rfl, hCL.up w1, (rowsL_app (bs := [v8, v10]) hal hrwL (two_rows r0' r1') rfl (SqL.of (y12 _ _ tB12))).up w1, sm_snoc hsm hle (fun k hk => by simp only [List.mem_cons, List.not_mem_nil, or_false] at hk; rcases hk with rfl | rfl <;> exact ⟨_, rfl⟩) (by simp), fun N2 w2 => ?_⟩
      have ap : ∀ b ∈ fp, b ∈ fp ++ fc := fun b hb => List.mem_append_left _ hb
      have ac : ∀ b ∈ fc, b ∈ fp ++ fc := fun b hb => List.mem_append_right _ hb
      exact q N2 ((Frame.of sM).tr ((fr1.wide ac).tr ((Frame.of sM3).tr ((fr6.wide ap).tr ((fr7.wide ap).tr ((fr8.wide ac).tr ((Frame.of qL).tr (Frame.of (Same.tr w1 w2)))))))))

end
end T04
set_option Elab.async false
set_option linter.all false
set_option maxRecDepth 100000
set_option maxHeartbeats 4000000
namespace T04
open PySem PySem.Spec PyProof.Rows L2 Tp
section
variable {P : Program} {w : World} {K : PySem.W.Frag} {mg : Str → Option Value} {base : Heap} {f : Addr} {fd : FuncData}

structure TxtC2 (K : PySem.W.Frag) (C : Addr) : Prop where
  ne : PySem.W.findIn K (.ref C) "__ne__" = some (some (.builtin "object.__ne__"))
  ob : PySem.W.subIn K (.ref C) (.type "object") = some true
  sl : PySem.W.subIn K (.type "list") (.ref C) = some false
  kl : PySem.W.kitOne K (.type "list") (.ref C) = some false
def itemB (d : PyData) : Bool := match seqD d with
  | some [_, d1] => (match seqD d1 with
    | some es => es.all flatD
    | none => true)
  | _ => true
def smallB (d : PyData) : Bool := match seqD d with
  | some [_, .int n] => decide (n.natAbs < 2 ^ 100)
  | _ => true
/-- what may stand in the list that a book is made of -/
structure BentD (d : PyData) : Prop where
  it : ItemD d
  sm : smallB d = true
  ni : Nice 130 3 d
theorem item_of {d : PyData} (h1 : shortD d = true) (h2 : smD d = true) (h3 : itemB d = true) : ItemD d := ⟨h1, h2, fun d0 d1 es e1 e2 x hx => by
  unfold itemB at h3
  rw [e1] at h3
  dsimp only at h3
  rw [e2] at h3
  exact List.all_eq_true.mp h3 x hx⟩
theorem bent_of {d : PyData} (h : (shortD d && smD d && itemB d && smallB d && d.showable && d.leavesShort 2000 && decide (d.weight ≤ 130) && decide (d.depth ≤ 3)) = true) : BentD d := by
  simp only [Bool.and_eq_true, decide_eq_true_eq] at h
  obtain ⟨⟨⟨⟨⟨⟨⟨h1, h2⟩, h3⟩, h4⟩, h5⟩, h6⟩, h7⟩, h8⟩ := h
  exact ⟨item_of h1 h2 h3, h4, h5, h6, h7, h8⟩
theorem ints_flat (ns : List Int) : (ns.map PyData.int).all flatD = true := List.all_eq_true.mpr fun d hd => by
  obtain ⟨i, _, rfl⟩ := List.mem_map.mp hd
  rfl
theorem ints_sm : ∀ ns : List Int, smAll (ns.map PyData.int) = true
  | [] => rfl
  | n :: ns => by simp only [List.map_cons, smAll, smD, ints_sm ns, Bool.and_self]
theorem bent_row {n : Nat} {k : RowK} {d1 : PyData} (h : OkK n k) (hn : n ≤ 5000) (hs : ∀ t : Int, k.2 = .inl t → t.natAbs < 2 ^ 100) (e : rowD k = .tuple [.str k.1, d1]) (h5 : (∃ n, k.2 = .inl n ∧ d1 = .int n) ∨ ∃ ns, k.2 = .inr ns ∧ d1 = .tuple (ns.map PyData.int)) : BentD (.tuple [.str k.1, d1]) ∧ BentD (.list [.str k.1, d1]) := by
  have h1 := short_row h
  have hni := row_nice h hn hs
  rw [e] at h1 hni
  obtain ⟨zs, zm⟩ := name_sm h.1
  have e3 : smD (.tuple [.str k.1, d1]) = true := by
    rcases h5 with ⟨t, _, rfl⟩ | ⟨ns, _, rfl⟩
    · simp only [smD, smAll, Bool.and_true] at zm ⊢
      exact zm
    · simp only [smD, smAll, ints_sm ns, Bool.and_true] at zm ⊢
      exact zm
  have e4 : ∀ d, seqD d = some [.str k.1, d1] → itemB d = true ∧ smallB d = true := fun d ed => by
    unfold itemB smallB
    rw [ed]
    rcases h5 with ⟨t, et, rfl⟩ | ⟨ns, _, rfl⟩
    · exact ⟨rfl, decide_eq_true (hs t et)⟩
    · exact ⟨ints_flat ns, rfl⟩
  have hl : Nice 130 3 (.list [.str k.1, d1]) := by
    have h2 := hni.sh
    have h3 := hni.ls
    have h4 := hni.wt
    have h6 := hni.dp
    simp only [PyData.showable, PyData.leavesShort, PyData.weight, PyData.depth] at h2 h3 h4 h6
    refine ⟨by simp only [PyData.showable]; exact h2, by simp only [PyData.leavesShort]; exact h3, by simp only [PyData.weight]; omega, by simp only [PyData.depth]; omega⟩
  exact ⟨⟨item_of h1 e3 (e4 _ rfl).1, (e4 _ rfl).2, hni.mono (by decide) (by decide)⟩, ⟨item_of (by simpa only [shortD] using h1) (by simpa only [smD] using e3) (e4 _ rfl).1, (e4 _ rfl).2, hl⟩⟩
/-- the odd items -/
def oddI (n : Nat) : List PyData := [.none, .tuple [.str "a"], .tuple [.str "a", .int 1, .int 2], .tuple [.str "A", .tuple []], .tuple [.str "a", .int (0 - 1)], .tuple [.str "a", .bool true], .tuple [.str "a", .str "0"], .int 3, .str "ab", .tuple [.str "", .int 2]] ++ [.tuple [.str "f", .tuple [.int ((n : Int) + 9)]], .tuple [.str "f", .list [.int (0 - 1)]], .list [.str "a", .list [.none]], .tuple [.str "f", .tuple [.int 0, .int 0, .int 0, .int 0]], .tuple [.none, .int 3]] ++ [.tuple [.str "f", .tuple [.bool false]], .tuple [.str "g", .list [.int 0, .bool true]], .tuple [.str "A", .int (0 - 1)], .tuple [.str "", .str "0"], .tuple [.none, .tuple [.int 0, .int 0, .int 0, .int 0]]] ++ [.tuple [.str "A", .tuple [.int 99]], .tuple [.str "1a", .list [.bool true]]]
theorem oddI_len (n : Nat) : (oddI n).length = 22 := rfl
theorem oddI_ok {n : Nat} (hn : n ≤ 1000) : ∀ d ∈ oddI n, BentD d := by
  intro d hd
  simp only [oddI, List.mem_append, List.mem_cons, List.not_mem_nil, or_false] at hd
  have hf : BentD (.tuple [.str "f", .tuple [.int ((n : Int) + 9)]]) := by
    have hn' : Nice 14 0 (.int ((n : Int) + 9)) := nice_small (by omega) (by decide)
    have hz : Nice 10 0 (.str "f") := ⟨by decide +kernel, by decide +kernel, by decide +kernel, by decide +kernel⟩
    exact ⟨item_of (by simp only [shortD, shortAll, Bool.and_true]; decide +kernel) (by simp only [smD, smAll, Bool.and_true]; decide +kernel) rfl, rfl, ((NiceAll.cons hz (NiceAll.cons (NiceAll.cons hn' niceAll_nil).tuple niceAll_nil)).tuple).mono (by decide) (by decide)⟩
  rcases hd with (((rfl | rfl | rfl | rfl | rfl | rfl | rfl | rfl | rfl | rfl) | rfl | rfl | rfl | rfl | rfl) | rfl | rfl | rfl | rfl | rfl) | rfl | rfl <;> first | exact hf | exact bent_of (by decide +kernel)
theorem take_small {rs : List RowK} {d : PyData} {k : RowK} (h : takeD rs d = .ok k) (hs : smallB d = true) : ∀ n : Int, k.2 = .inl n → n.natAbs < 2 ^ 100 := by
  cases hf : formB d with
  | false => rw [take_no hf] at h; cases h
  | true =>
    have hf' := hf
    unfold formB at hf'
    split at hf'
    · rename_i d0 d1 e
      rw [take_form hf e] at h
      split at h
      · split at h
        · cases h
        · cases h
          intro n hn
          unfold smallB at hs
          rw [e] at hs
          cases d1 with
          | int m =>
            cases hn
            exact of_decide_eq_true hs
          | list _ => cases hn
          | tuple _ => cases hn
          | _ => cases hf'
      · cases h
    · cases hf'
theorem build_small : ∀ (ds : List PyData) (r0 qs : List RowK), buildR r0 ds = .inr qs → (∀ d ∈ ds, smallB d = true) → SmT r0 → SmT qs
  | [], r0, qs, h, _, hr => by
    simp only [buildR] at h
    cases h
    exact hr
  | d :: ds, r0, qs, h, hs, hr => by
    simp only [buildR] at h
    cases ht : takeD r0 d with
    | row => rw [ht] at h; cases h
    | name => rw [ht] at h; cases h
    | ok k =>
      rw [ht] at h
      dsimp only at h
      cases hb : buildR (r0 ++ [k]) ds with
      | inl q => rw [hb] at h; cases h
      | inr qs' =>
        rw [hb] at h
        cases h
        refine build_small ds (r0 ++ [k]) qs hb (fun x hx => hs x (List.mem_cons_of_mem _ hx)) fun j hj n e => ?_
        rcases List.mem_append.mp hj with z | z
        · exact hr j z n e
        · rw [List.mem_singleton.mp z] at e
          exact take_small ht (hs d List.mem_cons_self) n e
theorem small_log100 {n : Int} (h : n.natAbs < 2 ^ 100) : n.natAbs.log2 < 1000 := by
  by_cases z : n.natAbs = 0
  · rw [z]
    decide
  · exact Nat.lt_of_lt_of_le ((Nat.log2_lt z).mpr h) (by decide)
theorem map_ref_inj : ∀ {as bs : List Addr}, as.map V.ref = bs.map V.ref → as = bs
  | [], [], _ => rfl
  | [], _ :: _, h => by cases h
  | _ :: _, [], h => by cases h
  | a :: as, b :: bs, h => by
    rw [List.map_cons, List.map_cons, List.cons.injEq] at h
    rw [map_ref_inj h.2]
    cases h.1
    rfl
/-- a book is made of rows of a book -/
theorem init_rows {H : Hp} {C CP CR CN b x dx : Addr} {as : List Addr} {rr : List RowK} {Q : VK} {E : XK} (hA : SqA K H b (as.map V.ref)) (hal : as.length = rr.length) (hrw : ∀ (i : Nat) (k : RowK) (a : Addr), rr[i]? = some k → as[i]? = some a → RowAt K H k a) (hok : OkRows rr) (hnd : rr.Nodup) (hlt : rr.length < 5000) (hx : H x = none) (hdx : H dx = none) (ne : x ≠ dx)
    (q : ∀ H' fq, Same H H' → (∀ b ∈ fq, H b = none) → BookAt P w K H' C x fq rr → Q .non H') : spInitB P w K C CP CR CN (.ref x :: ([.ref b] ++ [])) (upd (upd H dx (.own x)) x (.ins C dx [])) Q E := by
  have rn : Same H (rs x x (upd (upd H dx (.own x)) x (.ins C dx []))) := rs_new hx hdx
  have hb := build_rows rr [] hok hnd
  have okk : ∀ k ∈ rr, ∃ n, OkK n k := fun k hk => by
    obtain ⟨i, hi⟩ := List.mem_iff_getElem?.mp hk
    exact ⟨i, hok i k hi⟩
  refine ⟨x, dx, .ref b, rfl, upd_same, .inr ⟨b, _, _, rfl, hA.up rn, (Tp.rows_dd hal hrw).mono rn, short_rows okk, by rw [List.length_map]; exact hlt, fun m qs hq k hk n e => ?_, fun i e => ?_, fun i e => ?_, fun qs e H' fq kH hfq hBq => ?_⟩⟩
  · have hm := build_rows (rr.take m) [] (fun i k e => hok i k (by
      rw [List.nil_append, List.getElem?_take] at e
      split at e
      · exact e
      · cases e)) (by rw [List.nil_append]; exact hnd.sublist (List.take_sublist _ _))
    rw [List.map_take] at hm
    rw [hm] at hq
    cases hq
    obtain ⟨j, hj⟩ := okk k (List.mem_of_mem_take hk)
    have h2 := hj.2
    rw [e] at h2
    exact h2.2
  · rw [hb] at e
    cases e
  · rw [hb] at e
    cases e
  · rw [hb] at e
    cases e
    refine q H' fq (same_new hx hdx kH) (fun b hb => ?_) hBq
    cases e : H b with
    | none => rfl
    | some o =>
      have := hfq b hb
      rw [upd_ne (ne_of_none e hx), upd_ne (ne_of_none e hdx), e] at this
      cases this
theorem DdAll.take' {H : Hp} : ∀ {vs : List V} {ds : List PyData} (k : Nat), DdAll K H vs ds → DdAll K H (vs.take k) (ds.take k)
  | _, _, 0, _ => .nil
  | _, _, _ + 1, .nil => .nil
  | _, _, k + 1, .cons a b => .cons a (DdAll.take' k b)
theorem DdAll.drop' {H : Hp} : ∀ {vs : List V} {ds : List PyData} (k : Nat), DdAll K H vs ds → DdAll K H (vs.drop k) (ds.drop k)
  | _, _, 0, h => h
  | _, _, _ + 1, .nil => .nil
  | _, _, k + 1, .cons a b => DdAll.drop' k b
theorem SqT_ms {H : Hp} {S : Addr → Prop} {a : Addr} {xs : List V} (hS : ∀ b, S b → NotTup H b) (h : SqT K H a xs) : SqT K (ms S H) a xs := by
  rcases h with h | h
  · rcases h with h | h
    · exact .inl (.inl (ms_at (fun z => hS a z xs (.inl h)) h))
    · obtain ⟨o, h⟩ := h
      exact .inl (.inr ⟨o, ms_at (fun z => hS a z xs (.inr ⟨o, h⟩)) h⟩)
  · exact .inr h
theorem row_ms {H : Hp} {S : Addr → Prop} {k : RowK} {a : Addr} (hS : ∀ b, S b → NotTup H b) (h : RowAt K H k a) : RowAt K (ms S H) k a := h.mono fun _ _ => SqT_ms hS
theorem both_of {B G : Prop} (hB : B) (h : B → G) : G := h hB
theorem upd_upd {H : Hp} {a : Addr} {o u : HO} : upd (upd H a o) a u = upd H a u := by
  funext b
  by_cases e : b = a
  · subst e
    rw [upd_same, upd_same]
  · rw [upd_ne e, upd_ne e, upd_ne e]
def spAgain (P : Program) (w : World) (K : PySem.W.Frag) (C : Addr) : Sp := fun vs H Q _ => ∃ (p0 p l : Addr) (fp : List Addr) (n : Nat) (rs : List RowK), vs = [.ref p0, .ref p, .ref l] ∧ St4 P w K H C p0 p l fp n rs rs ∧ n ≤ 10000 ∧ rs.length ≤ 31 ∧ SmT rs ∧ ∀ H', Fr4 p0 l fp H H' → Q (.bl true) H'

-- MAIN
abbrev sAg : Stmt := top 54
abbrev nAg : List Str := ["_law_box_here", "_law_book", "_law_rows", "_law_other", "_law_copy", "_law_bent", "_law_at", "_law_to", "_law_lap", "_law_odds", "_law_due_here", "_law_found"]
theorem scAg : FnScope nAg ["_law_box_here", "_law_book", "_law_rows"] (defScope sAg) := ⟨rfl, rfl, rfl, by decide +kernel, rfl, by decide +kernel, by decide +kernel⟩

theorem ok_Ag (F : Fun K "_law_again_right" "_law_again_right" sAg f fd) {C CP CR CN : Addr} (T : TxtL mg) (TC : TxtC K C) (TC2 : TxtC2 K C) (S : Sm K) (TA : Cg P w K mg base 1 "_law_take" spTake) (CM : Cmr P w K mg base 6 "Book" C [] (spInitB P w K C CP CR CN)) (CO : Ct P w K mg base 8 C "copied" [] (spCopied P w K C)) (EQ : Ct P w K mg base 1 C "__eq__" [] (spEqB P w K C)) (HO : Cg P w K mg base 8 "_law_holds" (spHolds P w K C)) (MU : Cg P w K mg base 3 "_law_made_due" (spMadeD K)) (MD : Cg P w K mg base 8 "_law_made" (spMade P w K C)) (CY : Cg P w K mg base 9 "_law_copy_right" (spCopyR P w K C)) : FnG P w K mg base CX0 11 f fd ["_law_box_here", "_law_book", "_law_rows"] (spAgain P w K C) := by
  refine FunG.ok F scAg (fun vs H Q E h => ?_) (fun cdv B out s H vs Q E hr hG h => ?_)
  · obtain ⟨p0, p, l, fp, n, rs, rfl, _⟩ := h
    rfl
  · obtain ⟨p0, p, l, fp, n, rs, rfl, s4, hn, hle, hsm, q⟩ := h
    refine ⟨_, (pss_cons (ps_par (i := 3) (j := 4) rfl scAg.nd rfl rfl (by decide) rfl rfl (pa_cons (pe_cmr CM hr hG (by decide) takes0 (by rfl) (pa_cons (pe_ix ix_list (pe_lst (pa_cons (pv 2) (pa_cons (pe_callTy call_tuple_of (by rfl) T.tuple (by decide +kernel) (pa_cons (pv 2) pa_nil)) pa_nil))) (pe_g TA hr hG (by decide) (by rfl) (pa_cons (pv 0) (pa_cons pe_int pa_nil))) fun _ _ => rfl) pa_nil)) (pa_cons (pe_ct0 (pv 1) CO hr hG (by decide)) pa_nil)) (by rfl))
      (pss_cons (ps_if (PW.pt (pw_or (pt_cmpR (op_neO EQ TC2.ne TC2.ob (hr.mono (by decide)) hG) (pv 3) (pv 1) (nomark _)) (pw_or (pt_not (pt_cmpR (op_eqO EQ (hr.mono (by decide)) hG) (pv 3) (pv 1) (nomark _))) (pw_or (pt_cmpR (op_neO EQ TC2.ne TC2.ob (hr.mono (by decide)) hG) (pv 4) (pv 1) (nomark _)) (pw_or (pt_cmpR (op_eqO EQ (hr.mono (by decide)) hG) (pv 3) (pv 2) (nomark _)) (pw_or1 (pt_not (pt_val (pe_g HO hr hG (by decide) (by rfl) (pa_cons (pv 3) (pa_cons (pv 2) pa_nil))))))))))) (pss_one (ps_ret pe_bl)) pss_nil)
      (pss_cons (ps_par3 (i := 5) (j := 6) (l := 7) rfl scAg.nd rfl rfl rfl (by decide) (by decide) (by decide) rfl rfl rfl (pa_cons (pe_callTy call_list_of (by rfl) T.list (by decide +kernel) (pa_cons (pv 2) pa_nil)) (pa_cons (pe_g TA hr hG (by decide) (by rfl) (pa_cons (pv 0) (pa_cons (pe_op op_add (pe_callB call_len (by rfl) T.len PySem.boot_len (pa_cons (pv 2) pa_nil)) pe_int) pa_nil))) (pa_cons (pe_g TA hr hG (by decide) (by rfl) (pa_cons (pv 0) (pa_cons (pe_op op_add (pe_callB call_len (by rfl) T.len PySem.boot_len (pa_cons (pv 2) pa_nil)) pe_int) pa_nil))) pa_nil))) (by rfl))
      (C8.pss_cut (ps_for PassesOwn.never rfl (pi_range1 (by rfl) T.range (pa_cons (pe_op op_add pe_int (pe_g TA hr hG (by decide) (by rfl) (pa_cons (pv 0) (pa_cons pe_int pa_nil)))) pa_nil)) (pg_name (i := 8) scAg.nd rfl (Or.inl rfl)) (pss_one (ps_if (PW.pt (pw_and (pt_cmpR op_eq (pe_g TA hr hG (by decide) (by rfl) (pa_cons (pv 0) (pa_cons pe_int pa_nil))) pe_int (nomark _)) (pw_and (pt_cmpR op_lt (pv 6) (pe_callB call_len (by rfl) T.len PySem.boot_len (pa_cons (pv 2) pa_nil)) (nomark _)) (pw_and1 (pt_cmpR op_lt (pv 7) (pe_callB call_len (by rfl) T.len PySem.boot_len (pa_cons (pv 2) pa_nil)) (nomark _)))))) (pss_one (ps_asg (pe_tup (pa_cons (pe_ix ix_list (pv 5) (pv 7) fun _ _ => rfl) (pa_cons (pe_ix ix_list (pv 5) (pv 6) fun _ _ => rfl) pa_nil))) (pg_tup rfl (pgs_cons (pg_sub (pv 5) (pv 6) set_list) (pgs_cons (pg_sub (pv 5) (pv 7) set_list) pgs_nil))))) (pss_one (ps_if (PW.pt (pw_and (pt_cmpR op_eq (pe_g TA hr hG (by decide) (by rfl) (pa_cons (pv 0) (pa_cons pe_int pa_nil))) pe_int (nomark _)) (pw_and1 (pt_cmpR op_lt (pv 6) (pe_callB call_len (by rfl) T.len PySem.boot_len (pa_cons (pv 2) pa_nil)) (nomark _))))) (pss_one (ps_expr (pe_bm PySem.F.plainAttrs_list PySem.F.slot_list_insert PySem.F.type_list_insert mt_insert (pv 5) (pa_cons (pv 7) (pa_cons (pe_callTy call_list_of (by rfl) T.list (by decide +kernel) (pa_cons (pe_ix ix_list (pv 2) (pv 6) fun _ _ => rfl) pa_nil)) pa_nil))))) (pss_cons (ps_set (i := 9) scAg.nd rfl (.inl rfl) (pe_lst (pa_cons pe_non (pa_cons (pe_tup (pa_cons pe_str pa_nil)) (pa_cons (pe_tup (pa_cons pe_str (pa_cons pe_int (pa_cons pe_int pa_nil)))) (pa_cons (pe_tup (pa_cons pe_str (pa_cons (pe_tup pa_nil) pa_nil))) (pa_cons (pe_tup (pa_cons pe_str (pa_cons (pe_op op_sub pe_int pe_int) pa_nil))) (pa_cons (pe_tup (pa_cons pe_str (pa_cons pe_bl pa_nil))) (pa_cons (pe_tup (pa_cons pe_str (pa_cons pe_str pa_nil))) (pa_cons pe_int (pa_cons pe_str (pa_cons (pe_tup (pa_cons pe_str (pa_cons pe_int pa_nil))) pa_nil))))))))))))
            (pss_cons (ps_set (i := 9) scAg.nd rfl (.inl rfl) (pe_op op_cat (pv 9) (pe_lst (pa_cons (pe_tup (pa_cons pe_str (pa_cons (pe_tup (pa_cons (pe_op op_add (pe_callB call_len (by rfl) T.len PySem.boot_len (pa_cons (pv 2) pa_nil)) pe_int) pa_nil)) pa_nil))) (pa_cons (pe_tup (pa_cons pe_str (pa_cons (pe_lst (pa_cons (pe_op op_sub pe_int pe_int) pa_nil)) pa_nil))) (pa_cons (pe_lst (pa_cons pe_str (pa_cons (pe_lst (pa_cons pe_non pa_nil)) pa_nil))) (pa_cons (pe_tup (pa_cons pe_str (pa_cons (pe_tup (pa_cons pe_int (pa_cons pe_int (pa_cons pe_int (pa_cons pe_int pa_nil))))) pa_nil))) (pa_cons (pe_tup (pa_cons pe_non (pa_cons pe_int pa_nil))) pa_nil))))))))
            (pss_cons (ps_set (i := 9) scAg.nd rfl (.inl rfl) (pe_op op_cat (pv 9) (pe_lst (pa_cons (pe_tup (pa_cons pe_str (pa_cons (pe_tup (pa_cons pe_bl pa_nil)) pa_nil))) (pa_cons (pe_tup (pa_cons pe_str (pa_cons (pe_lst (pa_cons pe_int (pa_cons pe_bl pa_nil))) pa_nil))) (pa_cons (pe_tup (pa_cons pe_str (pa_cons (pe_op op_sub pe_int pe_int) pa_nil))) (pa_cons (pe_tup (pa_cons pe_str (pa_cons pe_str pa_nil))) (pa_cons (pe_tup (pa_cons pe_non (pa_cons (pe_tup (pa_cons pe_int (pa_cons pe_int (pa_cons pe_int (pa_cons pe_int pa_nil))))) pa_nil))) pa_nil))))))))
            (pss_cons (ps_set (i := 9) scAg.nd rfl (.inl rfl) (pe_op op_cat (pv 9) (pe_lst (pa_cons (pe_tup (pa_cons pe_str (pa_cons (pe_tup (pa_cons pe_int pa_nil)) pa_nil))) (pa_cons (pe_tup (pa_cons pe_str (pa_cons (pe_lst (pa_cons pe_bl pa_nil)) pa_nil))) pa_nil)))))
            (pss_one (ps_expr (pe_bm PySem.F.plainAttrs_list PySem.F.slot_list_insert PySem.F.type_list_insert mt_insert (pv 5) (pa_cons (pv 7) (pa_cons (pe_ix ix_list (pv 9) (pe_g TA hr hG (by decide) (by rfl) (pa_cons (pv 0) (pa_cons pe_int pa_nil))) fun _ _ => rfl) pa_nil))))))))))))))
      (pss_cons (ps_par (i := 10) (j := 11) rfl scAg.nd rfl rfl (by decide) rfl rfl (pa_cons (pe_g MU hr hG (by decide) (by rfl) (pa_cons (pv 5) pa_nil)) (pa_cons (pe_g MD hr hG (by decide) (by rfl) (pa_cons (pv 5) pa_nil)) pa_nil)) (by rfl))
      (pss_cons (ps_if (pt_cmpR op_eq (pe_ix ix_list (pv 10) pe_int fun _ _ => rfl) pe_str (nomark _)) (pss_one (ps_if (PW.pt (pw_or (pt_cmpR op_ne (pe_ix ix_list (pv 11) pe_int fun _ _ => rfl) pe_str (nomark _)) (pw_or (pt_not (pt_val (pe_g HO hr hG (by decide) (by rfl) (pa_cons (pe_ix ix_list (pv 11) pe_int fun _ _ => rfl) (pa_cons (pe_ix ix_list (pv 10) pe_int fun _ _ => rfl) pa_nil))))) (pw_or1 (pt_cmpR op_ne (pe_cmpR (op_eqO EQ (hr.mono (by decide)) hG) (pe_ix ix_list (pv 11) pe_int fun _ _ => rfl) (pv 1) (nomark _)) (pe_cmpR (op_eqD hr.units) (pe_ix ix_list (pv 10) pe_int fun _ _ => rfl) (pv 2) (nomark _)) (nomark _)))))) (pss_one (ps_ret pe_bl)) pss_nil)) (pss_one (ps_if (pt_cmpR op_ne (pe_callB (call_reprD S hr hG) (by rfl) T.repr (by decide +kernel) (pa_cons (pv 11) pa_nil)) (pe_callB (call_reprD S hr hG) (by rfl) T.repr (by decide +kernel) (pa_cons (pv 10) pa_nil)) (nomark _)) (pss_one (ps_ret pe_bl)) pss_nil)))
      (pss_one (ps_ret (pe_g CY hr hG (by decide) (by rfl) (pa_cons (pv 1) (pa_cons (pv 4) (pa_cons (pv 2) pa_nil)))))))))))), ?_⟩
    obtain ⟨as, hl, hal, hrw⟩ := s4.ro
    obtain ⟨hnd, hR, h5k⟩ := BookAt.ok s4.bk
    refine ⟨_, rfl, _, rfl, l, _, rfl, .inl ⟨SqL.of hl, fun tp etp => ?_⟩⟩
    have s1 : Same H (upd H tp (.tup (as.map V.ref))) := Same.put etp
    have t1 : (upd H tp (.tup (as.map V.ref))) tp = some (.tup (as.map V.ref)) := upd_same
    generalize upd H tp (.tup (as.map V.ref)) = H1 at s1 t1 ⊢
    refine ⟨(by show 2 ≤ sizeLine; decide), fun L1 eL1 => ?_⟩
    have s2 : Same H1 (upd H1 L1 (.lst [V.ref l, V.ref tp])) := Same.put eL1
    have t2 : (upd H1 L1 (.lst [V.ref l, V.ref tp])) L1 = some (.lst [V.ref l, V.ref tp]) := upd_same
    generalize upd H1 L1 (.lst [V.ref l, V.ref tp]) = H2 at s2 t2 ⊢
    have s12 := Same.tr s1 s2
    have s42 := s4.same s12
    have t12 := s2 _ _ t1
    have nL1 : L1 ≠ p0 := by
      intro z
      have := s4.sub _ (Or.inl (rfl : p0 = p0))
      cases e : H p0 with
      | none => exact this e
      | some o => rw [z, s1 _ _ e] at eL1; cases eL1
    have ntp : tp ≠ p0 := by
      intro z
      have := s4.sub _ (Or.inl (rfl : p0 = p0))
      exact this (z ▸ etp)
    refine ⟨_, rfl, p0, 2, n, rfl, s42.box, by decide, by decide, by omega, fun d3 H3 a3 c3 b3 k3 => ?_⟩
    have s43 := s42.keep (keep_of k3) b3
    obtain ⟨as3, hl3, hal3, hrw3⟩ := s43.ro
    have hl3' : H3 l = some (.lst (as.map V.ref)) := (k3 l s4.d1.symm).trans (s12 _ _ hl)
    have ht3 : H3 tp = some (.tup (as.map V.ref)) := (k3 tp ntp).trans t12
    have hL3 : H3 L1 = some (.lst [V.ref l, V.ref tp]) := (k3 L1 nL1).trans t2
    have eas : as3 = as := by
      rw [hl3] at hl3'
      have this := Option.some.inj hl3'
      injection this with this
      exact map_ref_inj this
    subst eas
    obtain ⟨x, b, hx, ex, hA⟩ : ∃ x b, atI [V.ref l, V.ref tp] d3 = some x ∧ x = .ref b ∧ SqA K H3 b (as3.map V.ref) := by
      obtain ⟨j, rfl⟩ : ∃ j : Nat, d3 = (j : Int) := ⟨d3.toNat, by omega⟩
      match j, (show j < 2 by omega) with
      | 0, _ => exact ⟨_, _, atI_nat (j := 0) rfl, rfl, .inl (SqL.of hl3)⟩
      | 1, _ => exact ⟨_, _, atI_nat (j := 1) rfl, rfl, .inr (SqT.of ht3)⟩
    subst ex
    refine ⟨L1, _, _, _, rfl, rfl, SqL.of hL3, hx, ?_⟩
    intro q0 dq hq0 hdq hne
    refine init_rows hA hal3 hrw3 hR hnd (by omega) hq0 hdq hne.symm fun H4 fo s4' hfo hO => ⟨rfl, ?_⟩
    have s44 := s43.same s4'
    obtain ⟨dx, gs, g0, a6⟩ := s44.bk.there
    refine ⟨_, rfl, p, dx, gs, rfl, g0, a6 _ (by decide), p, fp, rs, rfl, s44.bk, by omega, fun pc H5 fc s5 hpc hfc hC => ⟨_, _, rfl, ?_⟩⟩
    have s45 := s44.same s5
    have hO5 := hO.up s5
    refine ⟨_, rfl, _, rfl, eq_to (no := true) TC hO5 s45.bk ⟨_, rfl, if_false_of (by rw [decide_eq_true rfl]; rfl) ?_⟩⟩
    refine ⟨_, rfl, _, rfl, eq_to (no := false) TC hO5 s45.bk ⟨_, rfl, if_false_of (by rw [decide_eq_true rfl]; rfl) ?_⟩⟩
    refine ⟨_, rfl, _, rfl, eq_to (no := true) TC hC s45.bk ⟨_, rfl, if_false_of (by rw [decide_eq_true rfl]; rfl) ?_⟩⟩
    obtain ⟨as5, hl5, hal5, hrw5⟩ := s45.ro
    obtain ⟨dxo, gso, go, _⟩ := hO5.there
    have tyl : TyX K H5 (.ref l) (.type "list") := tyx_list (SqL.of hl5)
    refine ⟨_, rfl, _, rfl, q0, dxo, gso, rfl, go, .inr ⟨_, tyl, TC2.sl⟩, q0, fo, rs, .ref l, rfl, hO5, .inr ⟨.inl ⟨_, tyl, TC2.kl⟩, _, rfl, _, rfl, if_false_of rfl ?_⟩⟩
    refine ⟨_, rfl, _, rfl, ?_⟩
    dsimp only [tNil]
    refine ⟨q0, l, fo, rs, rfl, hO5, ⟨as5, SqL.of hl5, hal5, hrw5⟩, ⟨by omega, hsm⟩, fun H6 s6 => ⟨_, rfl, iteF ?_⟩⟩
    dsimp only [tNext]
    have s46 := s45.same s6
    have hO6 := hO5.up s6
    have hC6 := hC.up s6
    have hl6 : H6 l = some (.lst (as5.map V.ref)) := s6 _ _ hl5
    have hrw6 : ∀ (i : Nat) (k : RowK) (a : Addr), rs[i]? = some k → as5[i]? = some a → RowAt K H6 k a := fun i k a x y => (hrw5 i k a x y).mono fun _ _ => upT s6
    refine ⟨_, rfl, l, _, rfl, .inl (SqL.of hl6), fun D hD => ?_⟩
    have s7 : Same H6 (upd H6 D (.lst (as5.map V.ref))) := Same.put hD
    have t7 : (upd H6 D (.lst (as5.map V.ref))) D = some (.lst (as5.map V.ref)) := upd_same
    generalize upd H6 D (.lst (as5.map V.ref)) = H7 at s7 t7 ⊢
    have s47 := s46.same s7
    have nDp : D ≠ p0 := (s46.box.ne hD).symm
    refine ⟨_, rfl, _, rfl, _, _, rfl, .inl ⟨_, SqL.of (s7 _ _ hl6), rfl⟩, _, _, rfl, rfl, p0, _, _, rfl, s47.box, by omega, small_log (by omega) (by rw [List.length_map]; omega), by omega, fun da H8 aa ca b8 k8 => ?_⟩
    have hl8 : H8 l = some (.lst (as5.map V.ref)) := (k8 l s4.d1.symm).trans (s7 _ _ hl6)
    refine ⟨_, rfl, _, rfl, _, _, rfl, .inl ⟨_, SqL.of hl8, rfl⟩, _, _, rfl, rfl, p0, _, _, rfl, b8, by omega, small_log (by omega) (by rw [List.length_map]; omega), by omega, fun dt H9 ab cb b9 k9 => ⟨_, _, _, rfl, ?_⟩⟩
    rw [List.length_map, hal5] at ca cb
    obtain ⟨ja, rfl⟩ : ∃ j : Nat, da = (j : Int) := ⟨da.toNat, by omega⟩
    obtain ⟨jt, rfl⟩ : ∃ j : Nat, dt = (j : Int) := ⟨dt.toNat, by omega⟩
    have kp9 : Keep p0 H6 H9 := (Keep.of s7).trans ((keep_of k8).trans (keep_of k9))
    have t9 : H9 D = some (.lst (as5.map V.ref)) := (k9 D nDp).trans ((k8 D nDp).trans t7)
    have hD6 : H6 D = none := hD
    have lM : ∀ M, Keep p0 H6 M → M l = some (.lst (as5.map V.ref)) := fun M k => k l _ s4.d1.symm hl6
    have rM : ∀ M, Keep p0 H6 M → ∀ (i : Nat) (k : RowK) (a : Addr), rs[i]? = some k → as5[i]? = some a → RowAt K M k a := fun M k i k' a x y => SqT_row (hrw6 i k' a x y) (fun b o e1 e2 => k b o (fun z => e1 (by rw [z]; exact List.mem_cons_self)) e2) (S := [p0]) (fun b hb => by rw [List.mem_singleton.mp hb]; exact box_nt s46.box)
    have ntM : ∀ M vs m, BoxAt M p0 m → M D = some (.lst vs) → ∀ b, (b = p0 ∨ b = D) → NotTup M b := fun M vs m hb hd b h => by
      rcases h with rfl | rfl
      · exact box_nt hb
      · exact not_lst hd
    have okk : ∀ (i : Nat) (k : RowK), rs[i]? = some k → OkK i k ∧ i < rs.length := fun i k e => ⟨hR i k e, (List.getElem?_eq_some_iff.mp e).1⟩
    have bentAll : ∀ d ∈ rs.map rowD, BentD d := fun d hd => by
      obtain ⟨k, hk, rfl⟩ := List.mem_map.mp hd
      obtain ⟨i, hi⟩ := List.mem_iff_getElem?.mp hk
      obtain ⟨h1, h2⟩ := okk i k hi
      obtain ⟨a, ha⟩ : ∃ a, as5[i]? = some a := ⟨_, List.getElem?_eq_getElem (show i < as5.length by omega)⟩
      obtain ⟨v1, d1, q1, q2, q3, q4, q5⟩ := row_parts (hrw5 i k a hi ha)
      rw [q4]
      exact (bent_row h1 (by omega) (hsm k hk) q4 q5).1
    refine ⟨fun σ' M => ∃ o8 o9 vs ds, σ' = [some (.ref p0), some (.ref p), some (.ref l), some (.ref q0), some (.ref pc), some (.ref D), some (.int (ja : Nat)), some (.int (jt : Nat)), o8, o9, none, none] ∧ BoxAt M p0 (n + 60) ∧ Keep p0 H6 M ∧ M D = some (.lst vs) ∧ DdAll K (ms (fun b => b = p0 ∨ b = D) M) vs ds ∧ (∀ d ∈ ds, BentD d) ∧ ds.length ≤ 40, ?_, ?_⟩
    · refine ⟨_, rfl, p0, 2, _, rfl, b9, by decide, by decide, by omega, fun d1 H10 a1 c1 b10 k10 => ⟨_, _, rfl, rfl, _, rfl, by omega, by omega, ?_⟩⟩
      have kp10 := kp9.trans (keep_of k10)
      have t10 : H10 D = some (.lst (as5.map V.ref)) := (k10 D nDp).trans t9
      refine for_range (lo := 0) (n := (1 + d1).toNat) (fun i σ' M => ∃ o8 o9 vs ds, σ' = [some (.ref p0), some (.ref p), some (.ref l), some (.ref q0), some (.ref pc), some (.ref D), some (.int (ja : Nat)), some (.int (jt : Nat)), o8, o9, none, none] ∧ BoxAt M p0 (n + 10 + 5 * i) ∧ Keep p0 H6 M ∧ M D = some (.lst vs) ∧ DdAll K (ms (fun b => b = p0 ∨ b = D) M) vs ds ∧ (∀ d ∈ ds, BentD d) ∧ ds.length ≤ 31 + i ∧ rs.length ≤ ds.length)
        ⟨_, _, _, _, rfl, b10.mono (by omega), kp10, t10, Tp.rows_dd hal5 (fun i k a x y => row_ms (ntM _ _ _ b10 t10) (rM _ kp10 i k a x y)), bentAll, by rw [List.length_map]; omega, by rw [List.length_map]; exact Nat.le_refl _⟩ ?_ ?_
      · rintro i σ M hi ⟨o8, o9, vs, ds, rfl, gb, gk, gD, gd, gB, gl, gr⟩
        have gvl := gd.len
        refine ⟨_, rfl, p0, 3, _, rfl, gb, by decide, by decide, by omega, fun e1 M1 x1 y1 gb1 k1 => ⟨rfl, _, rfl, ?_⟩⟩
        have gk1 := gk.trans (keep_of k1)
        have gD1 : M1 D = some (.lst vs) := (k1 D nDp).trans gD
        have gd1 := gd.mono (ms_keep (S := fun b => b = p0 ∨ b = D) (.inl rfl) (keep_of k1))
        apply both_of
        case h =>
          intro B
          refine ite2 (fun h1 => ?_) (fun _ => B)
          refine ⟨_, rfl, _, rfl, _, _, rfl, .inl ⟨_, SqL.of (lM _ gk1), rfl⟩, _, _, rfl, rfl, _, rfl, ?_⟩
          refine ite2 (fun h2 => ?_) (fun _ => B)
          refine ⟨_, rfl, _, rfl, _, _, rfl, .inl ⟨_, SqL.of (lM _ gk1), rfl⟩, _, _, rfl, rfl, _, rfl, ?_⟩
          refine ite2 (fun h3 => ?_) (fun _ => B)
          have h2' := of_decide_eq_true h2
          have h3' := of_decide_eq_true h3
          rw [List.length_map, hal5] at h2' h3'
          have ha : ja < vs.length := by omega
          have ht : jt < vs.length := by omega
          obtain ⟨va, hva⟩ : ∃ v, vs[ja]? = some v := ⟨_, List.getElem?_eq_getElem ha⟩
          obtain ⟨vt, hvt⟩ : ∃ v, vs[jt]? = some v := ⟨_, List.getElem?_eq_getElem ht⟩
          obtain ⟨dda, hda, hdda⟩ := gd1.get hva
          obtain ⟨ddt, hdt, hddt⟩ := gd1.get hvt
          have iN : ∀ {k j : Nat}, j < k → ixN k (j : Int) = some j := fun {k j} h => by
            unfold ixN
            rw [if_pos (by omega), if_pos (by omega), Int.toNat_natCast]
          refine ⟨_, rfl, _, rfl, D, vs, _, vt, rfl, rfl, SqL.of gD1, atI_nat hvt, _, rfl, _, rfl, D, vs, _, va, rfl, rfl, SqL.of gD1, atI_nat hva, (by show 2 ≤ sizeLine; decide), fun tt ett => ?_⟩
          have s5' : Same M1 (upd M1 tt (.tup [vt, va])) := Same.put ett
          have h5' : (upd M1 tt (.tup [vt, va])) tt = some (.tup [vt, va]) := upd_same
          have gb5 := gb1.new (o := .tup [vt, va]) ett
          generalize upd M1 tt (.tup [vt, va]) = M5 at s5' h5' gb5 ⊢
          have gD5 := s5' _ _ gD1
          have gd5 := gd1.mono (ms_up (S := fun b => b = p0 ∨ b = D) s5')
          refine ⟨tt, _, rfl, SqT.of h5', rfl, _, _, rfl, _, rfl, _, rfl, D, vs, _, ja, rfl, rfl, gD5, iN ha, _, _, rfl, _, rfl, _, rfl, D, vs.set ja vt, _, jt, rfl, rfl, upd_same, iN (by rw [List.length_set]; exact ht), rfl, ?_⟩
          rw [upd_upd]
          refine ⟨_, _, (vs.set ja vt).set jt va, (ds.set ja ddt).set jt dda, rfl, (gb5.put nDp).mono (by omega), fun b o hb e => (upd_ne fun z => by rw [z, hD6] at e; cases e).trans (s5' _ _ (gk1 b o hb e)), upd_same, ?_, fun d hd => ?_, by rw [List.length_set, List.length_set]; omega, by rw [List.length_set, List.length_set]; exact gr⟩
          · rw [ms_put (.inr rfl)]
            exact (gd5.set (hddt.mono (ms_up s5'))).set (hdda.mono (ms_up s5'))
          · rcases List.mem_or_eq_of_mem_set hd with z | z
            · rcases List.mem_or_eq_of_mem_set z with z | z
              · exact gB d z
              · rw [z]; exact gB _ (List.mem_of_getElem? hdt)
            · rw [z]; exact gB _ (List.mem_of_getElem? hda)
        case hB =>
          refine iteF ?_
          refine ⟨_, rfl, p0, 2, _, rfl, gb1, by decide, by decide, by omega, fun e2 M2 x2 y2 gb2 k2 => ⟨rfl, _, rfl, ?_⟩⟩
          have gk2 := gk1.trans (keep_of k2)
          have gD2 : M2 D = some (.lst vs) := (k2 D nDp).trans gD1
          have gd2 := gd1.mono (ms_keep (S := fun b => b = p0 ∨ b = D) (.inl rfl) (keep_of k2))
          have ins : ∀ (N : Hp) (y : V) (d : PyData), Keep p0 M2 N → Dd K (ms (fun b => b = p0 ∨ b = D) N) y d → BentD d → ∀ m, BoxAt N p0 m → m ≤ n + 10 + 5 * (i + 1) → ∀ o8 o9, ∃ o8' o9' vs' ds', ([some (V.ref p0), some (V.ref p), some (V.ref l), some (V.ref q0), some (V.ref pc), some (V.ref D), some (V.int (ja : Nat)), some (V.int (jt : Nat)), o8, o9, none, none] : L2.St) = [some (V.ref p0), some (V.ref p), some (V.ref l), some (V.ref q0), some (V.ref pc), some (V.ref D), some (V.int (ja : Nat)), some (V.int (jt : Nat)), o8', o9', none, none] ∧ BoxAt (upd N D (.lst (vs.take ((jt : Nat) : Int).toNat ++ [y] ++ vs.drop ((jt : Nat) : Int).toNat))) p0 (n + 10 + 5 * (i + 1)) ∧ Keep p0 H6 (upd N D (.lst (vs.take ((jt : Nat) : Int).toNat ++ [y] ++ vs.drop ((jt : Nat) : Int).toNat))) ∧ (upd N D (.lst (vs.take ((jt : Nat) : Int).toNat ++ [y] ++ vs.drop ((jt : Nat) : Int).toNat))) D = some (.lst vs') ∧ DdAll K (ms (fun b => b = p0 ∨ b = D) (upd N D (.lst (vs.take ((jt : Nat) : Int).toNat ++ [y] ++ vs.drop ((jt : Nat) : Int).toNat)))) vs' ds' ∧ (∀ d ∈ ds', BentD d) ∧ ds'.length ≤ 31 + (i + 1) ∧ rs.length ≤ ds'.length := fun N y d sN hyd hbd m hbm hm o8 o9 => by
            refine ⟨o8, o9, _, ds.take ((jt : Nat) : Int).toNat ++ [d] ++ ds.drop ((jt : Nat) : Int).toNat, rfl, (hbm.put nDp).mono hm, fun b o hb e => (upd_ne fun z => by rw [z, hD6] at e; cases e).trans ((gk2.trans sN) b o hb e), upd_same, ?_, fun x hx => ?_, ?_, ?_⟩
            · rw [ms_put (.inr rfl)]
              have g := gd2.mono (ms_keep (S := fun b => b = p0 ∨ b = D) (.inl rfl) sN)
              exact ((DdAll.take' _ g).app (.cons hyd .nil)).app (DdAll.drop' _ g)
            · rcases List.mem_append.mp hx with z | z
              · rcases List.mem_append.mp z with z | z
                · exact gB x (List.mem_of_mem_take z)
                · rw [List.mem_singleton.mp z]; exact hbd
              · exact gB x (List.mem_of_mem_drop z)
            · rw [List.length_append, List.length_append, List.length_take, List.length_drop, List.length_singleton]
              omega
            · rw [List.length_append, List.length_append, List.length_take, List.length_drop, List.length_singleton]
              omega
          apply both_of
          case h =>
            intro B2
            refine ite2 (fun h1 => ?_) (fun _ => B2)
            refine ⟨_, rfl, _, rfl, _, _, rfl, .inl ⟨_, SqL.of (lM _ gk2), rfl⟩, _, _, rfl, rfl, _, rfl, ?_⟩
            refine ite2 (fun h2 => ?_) (fun _ => B2)
            have h2' := of_decide_eq_true h2
            rw [List.length_map, hal5] at h2'
            have hja : ja < rs.length := by omega
            obtain ⟨k, hk⟩ : ∃ k, rs[ja]? = some k := ⟨_, List.getElem?_eq_getElem hja⟩
            obtain ⟨a, ha⟩ : ∃ a, as5[ja]? = some a := ⟨_, List.getElem?_eq_getElem (show ja < as5.length by omega)⟩
            have hA2 := row_ms (ntM _ _ _ gb2 gD2) (rM _ gk2 ja k a hk ha)
            obtain ⟨v1, dd1, q1, q2, q3, q4, q5⟩ := row_parts hA2
            refine ⟨_, rfl, .inl ⟨rfl, _, SqL.of gD2⟩, _, rfl, _, rfl, _, rfl, l, _, _, .ref a, rfl, rfl, SqL.of (lM _ gk2), atI_nat (by rw [List.getElem?_map, ha]; rfl), a, _, rfl, .inr (upT ms_same q1), fun ll ell => ?_⟩
            have s5' : Same M2 (upd M2 ll (.lst [V.str k.1, v1])) := Same.put ell
            have h5' : (upd M2 ll (.lst [V.str k.1, v1])) ll = some (.lst [V.str k.1, v1]) := upd_same
            have gb5 := gb2.new (o := .lst [V.str k.1, v1]) ell
            have nlp : ll ≠ p0 := (gb2.ne ell).symm
            have nlD : ll ≠ D := (ne_of_none gD2 ell).symm
            generalize upd M2 ll (.lst [V.str k.1, v1]) = M5 at s5' h5' gb5 ⊢
            refine ⟨D, vs, _, .ref ll, rfl, rfl, s5' _ _ gD2, (by rw [PySem.sizeLine_eq]; omega), by omega, by omega, ?_⟩
            exact ins M5 (.ref ll) (.list [.str k.1, dd1]) (Keep.of s5') (.lst (SqL.of (ms_at (fun z => z.elim nlp nlD) h5')) (.cons (.str _) (.cons (q3.mono (ms_up s5')) .nil))) (bent_row (hR ja k hk) (by omega) (hsm k (List.mem_of_getElem? hk)) q4 q5).2 _ gb5 (by omega) _ _
          case hB =>
            refine iteF ?_
            have hSD : Tp.Sub (fun b => b = p0 ∨ b = D) M2 := fun b hb => by
              rcases hb with rfl | rfl
              · obtain ⟨_, _, _, e, _⟩ := gb2
                rw [e]
                exact nofun
              · rw [gD2]
                exact nofun
            have hlM2 := lM _ gk2
            refine ⟨(by show 1 ≤ sizeLine; decide), fun T1 e1 => ?_⟩
            have nn1 : ¬ (T1 = p0 ∨ T1 = D) := (hSD).out e1
            have w1 : Same M2 (upd M2 T1 (.tup [V.str "a"])) := Same.put e1
            have t1 : (upd M2 T1 (.tup [V.str "a"])) T1 = some (.tup [V.str "a"]) := upd_same
            generalize upd M2 T1 (.tup [V.str "a"]) = K1 at w1 t1 ⊢
            have es1 : Same M2 K1 := w1
            refine ⟨(by show 3 ≤ sizeLine; decide), fun T2 e2 => ?_⟩
            have nn2 : ¬ (T2 = p0 ∨ T2 = D) := (hSD.up es1).out e2
            have w2 : Same K1 (upd K1 T2 (.tup [V.str "a", V.int 1, V.int 2])) := Same.put e2
            have t2 : (upd K1 T2 (.tup [V.str "a", V.int 1, V.int 2])) T2 = some (.tup [V.str "a", V.int 1, V.int 2]) := upd_same
            generalize upd K1 T2 (.tup [V.str "a", V.int 1, V.int 2]) = K2 at w2 t2 ⊢
            have es2 : Same M2 K2 := Same.tr es1 w2
            refine ⟨(by show 0 ≤ sizeLine; decide), fun T3 e3 => ?_⟩
            have nn3 : ¬ (T3 = p0 ∨ T3 = D) := (hSD.up es2).out e3
            have w3 : Same K2 (upd K2 T3 (.tup [])) := Same.put e3
            have t3 : (upd K2 T3 (.tup [])) T3 = some (.tup []) := upd_same
            generalize upd K2 T3 (.tup []) = K3 at w3 t3 ⊢
            have es3 : Same M2 K3 := Same.tr es2 w3
            refine ⟨(by show 2 ≤ sizeLine; decide), fun T4 e4 => ?_⟩
            have nn4 : ¬ (T4 = p0 ∨ T4 = D) := (hSD.up es3).out e4
            have w4 : Same K3 (upd K3 T4 (.tup [V.str "A", V.ref T3])) := Same.put e4
            have t4 : (upd K3 T4 (.tup [V.str "A", V.ref T3])) T4 = some (.tup [V.str "A", V.ref T3]) := upd_same
            generalize upd K3 T4 (.tup [V.str "A", V.ref T3]) = K4 at w4 t4 ⊢
            have es4 : Same M2 K4 := Same.tr es3 w4
            refine ⟨_, _, rfl, rfl, (by show 2 ≤ sizeLine; decide), fun T5 e5 => ?_⟩
            have nn5 : ¬ (T5 = p0 ∨ T5 = D) := (hSD.up es4).out e5
            have w5 : Same K4 (upd K4 T5 (.tup [V.str "a", V.int (0 - 1)])) := Same.put e5
            have t5 : (upd K4 T5 (.tup [V.str "a", V.int (0 - 1)])) T5 = some (.tup [V.str "a", V.int (0 - 1)]) := upd_same
            generalize upd K4 T5 (.tup [V.str "a", V.int (0 - 1)]) = K5 at w5 t5 ⊢
            have es5 : Same M2 K5 := Same.tr es4 w5
            refine ⟨(by show 2 ≤ sizeLine; decide), fun T6 e6 => ?_⟩
            have nn6 : ¬ (T6 = p0 ∨ T6 = D) := (hSD.up es5).out e6
            have w6 : Same K5 (upd K5 T6 (.tup [V.str "a", V.bl true])) := Same.put e6
            have t6 : (upd K5 T6 (.tup [V.str "a", V.bl true])) T6 = some (.tup [V.str "a", V.bl true]) := upd_same
            generalize upd K5 T6 (.tup [V.str "a", V.bl true]) = K6 at w6 t6 ⊢
            have es6 : Same M2 K6 := Same.tr es5 w6
            refine ⟨(by show 2 ≤ sizeLine; decide), fun T7 e7 => ?_⟩
            have nn7 : ¬ (T7 = p0 ∨ T7 = D) := (hSD.up es6).out e7
            have w7 : Same K6 (upd K6 T7 (.tup [V.str "a", V.str "0"])) := Same.put e7
            have t7 : (upd K6 T7 (.tup [V.str "a", V.str "0"])) T7 = some (.tup [V.str "a", V.str "0"]) := upd_same
            generalize upd K6 T7 (.tup [V.str "a", V.str "0"]) = K7 at w7 t7 ⊢
            have es7 : Same M2 K7 := Same.tr es6 w7
            refine ⟨(by show 2 ≤ sizeLine; decide), fun T8 e8 => ?_⟩
            have nn8 : ¬ (T8 = p0 ∨ T8 = D) := (hSD.up es7).out e8
            have w8 : Same K7 (upd K7 T8 (.tup [V.str "", V.int 2])) := Same.put e8
            have t8 : (upd K7 T8 (.tup [V.str "", V.int 2])) T8 = some (.tup [V.str "", V.int 2]) := upd_same
            generalize upd K7 T8 (.tup [V.str "", V.int 2]) = K8 at w8 t8 ⊢
            have es8 : Same M2 K8 := Same.tr es7 w8
            refine ⟨(by show 10 ≤ sizeLine; decide), fun L9 e9 => ?_⟩
            have nn9 : ¬ (L9 = p0 ∨ L9 = D) := (hSD.up es8).out e9
            have w9 : Same K8 (upd K8 L9 (.lst [V.non, V.ref T1, V.ref T2, V.ref T4, V.ref T5, V.ref T6, V.ref T7, V.int 3, V.str "ab", V.ref T8])) := Same.put e9
            have t9 : (upd K8 L9 (.lst [V.non, V.ref T1, V.ref T2, V.ref T4, V.ref T5, V.ref T6, V.ref T7, V.int 3, V.str "ab", V.ref T8])) L9 = some (.lst [V.non, V.ref T1, V.ref T2, V.ref T4, V.ref T5, V.ref T6, V.ref T7, V.int 3, V.str "ab", V.ref T8]) := upd_same
            generalize upd K8 L9 (.lst [V.non, V.ref T1, V.ref T2, V.ref T4, V.ref T5, V.ref T6, V.ref T7, V.int 3, V.str "ab", V.ref T8]) = K9 at w9 t9 ⊢
            have es9 : Same M2 K9 := Same.tr es8 w9
            dsimp only [gName]
            refine ⟨_, rfl, _, rfl, _, _, rfl, .inl ⟨_, SqL.of (es9 _ _ hlM2), rfl⟩, _, _, rfl, rfl, (by show 1 ≤ sizeLine; decide), fun T10 e10 => ?_⟩
            have nn10 : ¬ (T10 = p0 ∨ T10 = D) := (hSD.up es9).out e10
            have w10 : Same K9 (upd K9 T10 (.tup [V.int (((as5.map V.ref).length : Nat) + 9)])) := Same.put e10
            have t10 : (upd K9 T10 (.tup [V.int (((as5.map V.ref).length : Nat) + 9)])) T10 = some (.tup [V.int (((as5.map V.ref).length : Nat) + 9)]) := upd_same
            generalize upd K9 T10 (.tup [V.int (((as5.map V.ref).length : Nat) + 9)]) = K10 at w10 t10 ⊢
            have es10 : Same M2 K10 := Same.tr es9 w10
            refine ⟨(by show 2 ≤ sizeLine; decide), fun T11 e11 => ?_⟩
            have nn11 : ¬ (T11 = p0 ∨ T11 = D) := (hSD.up es10).out e11
            have w11 : Same K10 (upd K10 T11 (.tup [V.str "f", V.ref T10])) := Same.put e11
            have t11 : (upd K10 T11 (.tup [V.str "f", V.ref T10])) T11 = some (.tup [V.str "f", V.ref T10]) := upd_same
            generalize upd K10 T11 (.tup [V.str "f", V.ref T10]) = K11 at w11 t11 ⊢
            have es11 : Same M2 K11 := Same.tr es10 w11
            refine ⟨_, _, rfl, rfl, (by show 1 ≤ sizeLine; decide), fun L12 e12 => ?_⟩
            have nn12 : ¬ (L12 = p0 ∨ L12 = D) := (hSD.up es11).out e12
            have w12 : Same K11 (upd K11 L12 (.lst [V.int (0 - 1)])) := Same.put e12
            have t12 : (upd K11 L12 (.lst [V.int (0 - 1)])) L12 = some (.lst [V.int (0 - 1)]) := upd_same
            generalize upd K11 L12 (.lst [V.int (0 - 1)]) = K12 at w12 t12 ⊢
            have es12 : Same M2 K12 := Same.tr es11 w12
            refine ⟨(by show 2 ≤ sizeLine; decide), fun T13 e13 => ?_⟩
            have nn13 : ¬ (T13 = p0 ∨ T13 = D) := (hSD.up es12).out e13
            have w13 : Same K12 (upd K12 T13 (.tup [V.str "f", V.ref L12])) := Same.put e13
            have t13 : (upd K12 T13 (.tup [V.str "f", V.ref L12])) T13 = some (.tup [V.str "f", V.ref L12]) := upd_same
            generalize upd K12 T13 (.tup [V.str "f", V.ref L12]) = K13 at w13 t13 ⊢
            have es13 : Same M2 K13 := Same.tr es12 w13
            refine ⟨(by show 1 ≤ sizeLine; decide), fun L14 e14 => ?_⟩
            have nn14 : ¬ (L14 = p0 ∨ L14 = D) := (hSD.up es13).out e14
            have w14 : Same K13 (upd K13 L14 (.lst [V.non])) := Same.put e14
            have t14 : (upd K13 L14 (.lst [V.non])) L14 = some (.lst [V.non]) := upd_same
            generalize upd K13 L14 (.lst [V.non]) = K14 at w14 t14 ⊢
            have es14 : Same M2 K14 := Same.tr es13 w14
            refine ⟨(by show 2 ≤ sizeLine; decide), fun L15 e15 => ?_⟩
            have nn15 : ¬ (L15 = p0 ∨ L15 = D) := (hSD.up es14).out e15
            have w15 : Same K14 (upd K14 L15 (.lst [V.str "a", V.ref L14])) := Same.put e15
            have t15 : (upd K14 L15 (.lst [V.str "a", V.ref L14])) L15 = some (.lst [V.str "a", V.ref L14]) := upd_same
            generalize upd K14 L15 (.lst [V.str "a", V.ref L14]) = K15 at w15 t15 ⊢
            have es15 : Same M2 K15 := Same.tr es14 w15
            refine ⟨(by show 4 ≤ sizeLine; decide), fun T16 e16 => ?_⟩
            have nn16 : ¬ (T16 = p0 ∨ T16 = D) := (hSD.up es15).out e16
            have w16 : Same K15 (upd K15 T16 (.tup [V.int 0, V.int 0, V.int 0, V.int 0])) := Same.put e16
            have t16 : (upd K15 T16 (.tup [V.int 0, V.int 0, V.int 0, V.int 0])) T16 = some (.tup [V.int 0, V.int 0, V.int 0, V.int 0]) := upd_same
            generalize upd K15 T16 (.tup [V.int 0, V.int 0, V.int 0, V.int 0]) = K16 at w16 t16 ⊢
            have es16 : Same M2 K16 := Same.tr es15 w16
            refine ⟨(by show 2 ≤ sizeLine; decide), fun T17 e17 => ?_⟩
            have nn17 : ¬ (T17 = p0 ∨ T17 = D) := (hSD.up es16).out e17
            have w17 : Same K16 (upd K16 T17 (.tup [V.str "f", V.ref T16])) := Same.put e17
            have t17 : (upd K16 T17 (.tup [V.str "f", V.ref T16])) T17 = some (.tup [V.str "f", V.ref T16]) := upd_same
            generalize upd K16 T17 (.tup [V.str "f", V.ref T16]) = K17 at w17 t17 ⊢
            have es17 : Same M2 K17 := Same.tr es16 w17
            refine ⟨(by show 2 ≤ sizeLine; decide), fun T18 e18 => ?_⟩
            have nn18 : ¬ (T18 = p0 ∨ T18 = D) := (hSD.up es17).out e18
            have w18 : Same K17 (upd K17 T18 (.tup [V.non, V.int 3])) := Same.put e18
            have t18 : (upd K17 T18 (.tup [V.non, V.int 3])) T18 = some (.tup [V.non, V.int 3]) := upd_same
            generalize upd K17 T18 (.tup [V.non, V.int 3]) = K18 at w18 t18 ⊢
            have es18 : Same M2 K18 := Same.tr es17 w18
            refine ⟨(by show 5 ≤ sizeLine; decide), fun L19 e19 => ?_⟩
            have nn19 : ¬ (L19 = p0 ∨ L19 = D) := (hSD.up es18).out e19
            have w19 : Same K18 (upd K18 L19 (.lst [V.ref T11, V.ref T13, V.ref L15, V.ref T17, V.ref T18])) := Same.put e19
            have t19 : (upd K18 L19 (.lst [V.ref T11, V.ref T13, V.ref L15, V.ref T17, V.ref T18])) L19 = some (.lst [V.ref T11, V.ref T13, V.ref L15, V.ref T17, V.ref T18]) := upd_same
            generalize upd K18 L19 (.lst [V.ref T11, V.ref T13, V.ref L15, V.ref T17, V.ref T18]) = K19 at w19 t19 ⊢
            have es19 : Same M2 K19 := Same.tr es18 w19
            refine ⟨_, _, _, _, rfl, rfl, w19 _ _ (w18 _ _ (w17 _ _ (w16 _ _ (w15 _ _ (w14 _ _ (w13 _ _ (w12 _ _ (w11 _ _ (w10 _ _ (t9)))))))))), t19, (by show 10 + 5 ≤ sizeLine; decide), fun L20 e20 => ?_⟩
            have nn20 : ¬ (L20 = p0 ∨ L20 = D) := (hSD.up es19).out e20
            have w20 : Same K19 (upd K19 L20 (.lst ([V.non, V.ref T1, V.ref T2, V.ref T4, V.ref T5, V.ref T6, V.ref T7, V.int 3, V.str "ab", V.ref T8] ++ [V.ref T11, V.ref T13, V.ref L15, V.ref T17, V.ref T18]))) := Same.put e20
            have t20 : (upd K19 L20 (.lst ([V.non, V.ref T1, V.ref T2, V.ref T4, V.ref T5, V.ref T6, V.ref T7, V.int 3, V.str "ab", V.ref T8] ++ [V.ref T11, V.ref T13, V.ref L15, V.ref T17, V.ref T18]))) L20 = some (.lst ([V.non, V.ref T1, V.ref T2, V.ref T4, V.ref T5, V.ref T6, V.ref T7, V.int 3, V.str "ab", V.ref T8] ++ [V.ref T11, V.ref T13, V.ref L15, V.ref T17, V.ref T18])) := upd_same
            generalize upd K19 L20 (.lst ([V.non, V.ref T1, V.ref T2, V.ref T4, V.ref T5, V.ref T6, V.ref T7, V.int 3, V.str "ab", V.ref T8] ++ [V.ref T11, V.ref T13, V.ref L15, V.ref T17, V.ref T18])) = K20 at w20 t20 ⊢
            have es20 : Same M2 K20 := Same.tr es19 w20
            dsimp only [gName]
            refine ⟨_, rfl, (by show 1 ≤ sizeLine; decide), fun T21 e21 => ?_⟩
            have nn21 : ¬ (T21 = p0 ∨ T21 = D) := (hSD.up es20).out e21
            have w21 : Same K20 (upd K20 T21 (.tup [V.bl false])) := Same.put e21
            have t21 : (upd K20 T21 (.tup [V.bl false])) T21 = some (.tup [V.bl false]) := upd_same
            generalize upd K20 T21 (.tup [V.bl false]) = K21 at w21 t21 ⊢
            have es21 : Same M2 K21 := Same.tr es20 w21
            refine ⟨(by show 2 ≤ sizeLine; decide), fun T22 e22 => ?_⟩
            have nn22 : ¬ (T22 = p0 ∨ T22 = D) := (hSD.up es21).out e22
            have w22 : Same K21 (upd K21 T22 (.tup [V.str "f", V.ref T21])) := Same.put e22
            have t22 : (upd K21 T22 (.tup [V.str "f", V.ref T21])) T22 = some (.tup [V.str "f", V.ref T21]) := upd_same
            generalize upd K21 T22 (.tup [V.str "f", V.ref T21]) = K22 at w22 t22 ⊢
            have es22 : Same M2 K22 := Same.tr es21 w22
            refine ⟨(by show 2 ≤ sizeLine; decide), fun L23 e23 => ?_⟩
            have nn23 : ¬ (L23 = p0 ∨ L23 = D) := (hSD.up es22).out e23
            have w23 : Same K22 (upd K22 L23 (.lst [V.int 0, V.bl true])) := Same.put e23
            have t23 : (upd K22 L23 (.lst [V.int 0, V.bl true])) L23 = some (.lst [V.int 0, V.bl true]) := upd_same
            generalize upd K22 L23 (.lst [V.int 0, V.bl true]) = K23 at w23 t23 ⊢
            have es23 : Same M2 K23 := Same.tr es22 w23
            refine ⟨(by show 2 ≤ sizeLine; decide), fun T24 e24 => ?_⟩
            have nn24 : ¬ (T24 = p0 ∨ T24 = D) := (hSD.up es23).out e24
            have w24 : Same K23 (upd K23 T24 (.tup [V.str "g", V.ref L23])) := Same.put e24
            have t24 : (upd K23 T24 (.tup [V.str "g", V.ref L23])) T24 = some (.tup [V.str "g", V.ref L23]) := upd_same
            generalize upd K23 T24 (.tup [V.str "g", V.ref L23]) = K24 at w24 t24 ⊢
            have es24 : Same M2 K24 := Same.tr es23 w24
            refine ⟨_, _, rfl, rfl, (by show 2 ≤ sizeLine; decide), fun T25 e25 => ?_⟩
            have nn25 : ¬ (T25 = p0 ∨ T25 = D) := (hSD.up es24).out e25
            have w25 : Same K24 (upd K24 T25 (.tup [V.str "A", V.int (0 - 1)])) := Same.put e25
            have t25 : (upd K24 T25 (.tup [V.str "A", V.int (0 - 1)])) T25 = some (.tup [V.str "A", V.int (0 - 1)]) := upd_same
            generalize upd K24 T25 (.tup [V.str "A", V.int (0 - 1)]) = K25 at w25 t25 ⊢
            have es25 : Same M2 K25 := Same.tr es24 w25
            refine ⟨(by show 2 ≤ sizeLine; decide), fun T26 e26 => ?_⟩
            have nn26 : ¬ (T26 = p0 ∨ T26 = D) := (hSD.up es25).out e26
            have w26 : Same K25 (upd K25 T26 (.tup [V.str "", V.str "0"])) := Same.put e26
            have t26 : (upd K25 T26 (.tup [V.str "", V.str "0"])) T26 = some (.tup [V.str "", V.str "0"]) := upd_same
            generalize upd K25 T26 (.tup [V.str "", V.str "0"]) = K26 at w26 t26 ⊢
            have es26 : Same M2 K26 := Same.tr es25 w26
            refine ⟨(by show 4 ≤ sizeLine; decide), fun T27 e27 => ?_⟩
            have nn27 : ¬ (T27 = p0 ∨ T27 = D) := (hSD.up es26).out e27
            have w27 : Same K26 (upd K26 T27 (.tup [V.int 0, V.int 0, V.int 0, V.int 0])) := Same.put e27
            have t27 : (upd K26 T27 (.tup [V.int 0, V.int 0, V.int 0, V.int 0])) T27 = some (.tup [V.int 0, V.int 0, V.int 0, V.int 0]) := upd_same
            generalize upd K26 T27 (.tup [V.int 0, V.int 0, V.int 0, V.int 0]) = K27 at w27 t27 ⊢
            have es27 : Same M2 K27 := Same.tr es26 w27
            refine ⟨(by show 2 ≤ sizeLine; decide), fun T28 e28 => ?_⟩
            have nn28 : ¬ (T28 = p0 ∨ T28 = D) := (hSD.up es27).out e28
            have w28 : Same K27 (upd K27 T28 (.tup [V.non, V.ref T27])) := Same.put e28
            have t28 : (upd K27 T28 (.tup [V.non, V.ref T27])) T28 = some (.tup [V.non, V.ref T27]) := upd_same
            generalize upd K27 T28 (.tup [V.non, V.ref T27]) = K28 at w28 t28 ⊢
            have es28 : Same M2 K28 := Same.tr es27 w28
            refine ⟨(by show 5 ≤ sizeLine; decide), fun L29 e29 => ?_⟩
            have nn29 : ¬ (L29 = p0 ∨ L29 = D) := (hSD.up es28).out e29
            have w29 : Same K28 (upd K28 L29 (.lst [V.ref T22, V.ref T24, V.ref T25, V.ref T26, V.ref T28])) := Same.put e29
            have t29 : (upd K28 L29 (.lst [V.ref T22, V.ref T24, V.ref T25, V.ref T26, V.ref T28])) L29 = some (.lst [V.ref T22, V.ref T24, V.ref T25, V.ref T26, V.ref T28]) := upd_same
            generalize upd K28 L29 (.lst [V.ref T22, V.ref T24, V.ref T25, V.ref T26, V.ref T28]) = K29 at w29 t29 ⊢
            have es29 : Same M2 K29 := Same.tr es28 w29
            refine ⟨_, _, _, _, rfl, rfl, w29 _ _ (w28 _ _ (w27 _ _ (w26 _ _ (w25 _ _ (w24 _ _ (w23 _ _ (w22 _ _ (w21 _ _ (t20))))))))), t29, (by show 15 + 5 ≤ sizeLine; decide), fun L30 e30 => ?_⟩
            have nn30 : ¬ (L30 = p0 ∨ L30 = D) := (hSD.up es29).out e30
            have w30 : Same K29 (upd K29 L30 (.lst (([V.non, V.ref T1, V.ref T2, V.ref T4, V.ref T5, V.ref T6, V.ref T7, V.int 3, V.str "ab", V.ref T8] ++ [V.ref T11, V.ref T13, V.ref L15, V.ref T17, V.ref T18]) ++ [V.ref T22, V.ref T24, V.ref T25, V.ref T26, V.ref T28]))) := Same.put e30
            have t30 : (upd K29 L30 (.lst (([V.non, V.ref T1, V.ref T2, V.ref T4, V.ref T5, V.ref T6, V.ref T7, V.int 3, V.str "ab", V.ref T8] ++ [V.ref T11, V.ref T13, V.ref L15, V.ref T17, V.ref T18]) ++ [V.ref T22, V.ref T24, V.ref T25, V.ref T26, V.ref T28]))) L30 = some (.lst (([V.non, V.ref T1, V.ref T2, V.ref T4, V.ref T5, V.ref T6, V.ref T7, V.int 3, V.str "ab", V.ref T8] ++ [V.ref T11, V.ref T13, V.ref L15, V.ref T17, V.ref T18]) ++ [V.ref T22, V.ref T24, V.ref T25, V.ref T26, V.ref T28])) := upd_same
            generalize upd K29 L30 (.lst (([V.non, V.ref T1, V.ref T2, V.ref T4, V.ref T5, V.ref T6, V.ref T7, V.int 3, V.str "ab", V.ref T8] ++ [V.ref T11, V.ref T13, V.ref L15, V.ref T17, V.ref T18]) ++ [V.ref T22, V.ref T24, V.ref T25, V.ref T26, V.ref T28])) = K30 at w30 t30 ⊢
            have es30 : Same M2 K30 := Same.tr es29 w30
            dsimp only [gName]
            refine ⟨_, rfl, (by show 1 ≤ sizeLine; decide), fun T31 e31 => ?_⟩
            have nn31 : ¬ (T31 = p0 ∨ T31 = D) := (hSD.up es30).out e31
            have w31 : Same K30 (upd K30 T31 (.tup [V.int 99])) := Same.put e31
            have t31 : (upd K30 T31 (.tup [V.int 99])) T31 = some (.tup [V.int 99]) := upd_same
            generalize upd K30 T31 (.tup [V.int 99]) = K31 at w31 t31 ⊢
            have es31 : Same M2 K31 := Same.tr es30 w31
            refine ⟨(by show 2 ≤ sizeLine; decide), fun T32 e32 => ?_⟩
            have nn32 : ¬ (T32 = p0 ∨ T32 = D) := (hSD.up es31).out e32
            have w32 : Same K31 (upd K31 T32 (.tup [V.str "A", V.ref T31])) := Same.put e32
            have t32 : (upd K31 T32 (.tup [V.str "A", V.ref T31])) T32 = some (.tup [V.str "A", V.ref T31]) := upd_same
            generalize upd K31 T32 (.tup [V.str "A", V.ref T31]) = K32 at w32 t32 ⊢
            have es32 : Same M2 K32 := Same.tr es31 w32
            refine ⟨(by show 1 ≤ sizeLine; decide), fun L33 e33 => ?_⟩
            have nn33 : ¬ (L33 = p0 ∨ L33 = D) := (hSD.up es32).out e33
            have w33 : Same K32 (upd K32 L33 (.lst [V.bl true])) := Same.put e33
            have t33 : (upd K32 L33 (.lst [V.bl true])) L33 = some (.lst [V.bl true]) := upd_same
            generalize upd K32 L33 (.lst [V.bl true]) = K33 at w33 t33 ⊢
            have es33 : Same M2 K33 := Same.tr es32 w33
            refine ⟨(by show 2 ≤ sizeLine; decide), fun T34 e34 => ?_⟩
            have nn34 : ¬ (T34 = p0 ∨ T34 = D) := (hSD.up es33).out e34
            have w34 : Same K33 (upd K33 T34 (.tup [V.str "1a", V.ref L33])) := Same.put e34
            have t34 : (upd K33 T34 (.tup [V.str "1a", V.ref L33])) T34 = some (.tup [V.str "1a", V.ref L33]) := upd_same
            generalize upd K33 T34 (.tup [V.str "1a", V.ref L33]) = K34 at w34 t34 ⊢
            have es34 : Same M2 K34 := Same.tr es33 w34
            refine ⟨(by show 2 ≤ sizeLine; decide), fun L35 e35 => ?_⟩
            have nn35 : ¬ (L35 = p0 ∨ L35 = D) := (hSD.up es34).out e35
            have w35 : Same K34 (upd K34 L35 (.lst [V.ref T32, V.ref T34])) := Same.put e35
            have t35 : (upd K34 L35 (.lst [V.ref T32, V.ref T34])) L35 = some (.lst [V.ref T32, V.ref T34]) := upd_same
            generalize upd K34 L35 (.lst [V.ref T32, V.ref T34]) = K35 at w35 t35 ⊢
            have es35 : Same M2 K35 := Same.tr es34 w35
            refine ⟨_, _, _, _, rfl, rfl, w35 _ _ (w34 _ _ (w33 _ _ (w32 _ _ (w31 _ _ (t30))))), t35, (by show 20 + 2 ≤ sizeLine; decide), fun L36 e36 => ?_⟩
            have nn36 : ¬ (L36 = p0 ∨ L36 = D) := (hSD.up es35).out e36
            have w36 : Same K35 (upd K35 L36 (.lst ((([V.non, V.ref T1, V.ref T2, V.ref T4, V.ref T5, V.ref T6, V.ref T7, V.int 3, V.str "ab", V.ref T8] ++ [V.ref T11, V.ref T13, V.ref L15, V.ref T17, V.ref T18]) ++ [V.ref T22, V.ref T24, V.ref T25, V.ref T26, V.ref T28]) ++ [V.ref T32, V.ref T34]))) := Same.put e36
            have t36 : (upd K35 L36 (.lst ((([V.non, V.ref T1, V.ref T2, V.ref T4, V.ref T5, V.ref T6, V.ref T7, V.int 3, V.str "ab", V.ref T8] ++ [V.ref T11, V.ref T13, V.ref L15, V.ref T17, V.ref T18]) ++ [V.ref T22, V.ref T24, V.ref T25, V.ref T26, V.ref T28]) ++ [V.ref T32, V.ref T34]))) L36 = some (.lst ((([V.non, V.ref T1, V.ref T2, V.ref T4, V.ref T5, V.ref T6, V.ref T7, V.int 3, V.str "ab", V.ref T8] ++ [V.ref T11, V.ref T13, V.ref L15, V.ref T17, V.ref T18]) ++ [V.ref T22, V.ref T24, V.ref T25, V.ref T26, V.ref T28]) ++ [V.ref T32, V.ref T34])) := upd_same
            generalize upd K35 L36 (.lst ((([V.non, V.ref T1, V.ref T2, V.ref T4, V.ref T5, V.ref T6, V.ref T7, V.int 3, V.str "ab", V.ref T8] ++ [V.ref T11, V.ref T13, V.ref L15, V.ref T17, V.ref T18]) ++ [V.ref T22, V.ref T24, V.ref T25, V.ref T26, V.ref T28]) ++ [V.ref T32, V.ref T34])) = K36 at w36 t36 ⊢
            have es36 : Same M2 K36 := Same.tr es35 w36
            dsimp only [gName]
            have z36 : Same K36 K36 := Same.refl _
            have z35 : Same K35 K36 := Same.tr w36 z36
            have z34 : Same K34 K36 := Same.tr w35 z35
            have z33 : Same K33 K36 := Same.tr w34 z34
            have z32 : Same K32 K36 := Same.tr w33 z33
            have z31 : Same K31 K36 := Same.tr w32 z32
            have z30 : Same K30 K36 := Same.tr w31 z31
            have z29 : Same K29 K36 := Same.tr w30 z30
            have z28 : Same K28 K36 := Same.tr w29 z29
            have z27 : Same K27 K36 := Same.tr w28 z28
            have z26 : Same K26 K36 := Same.tr w27 z27
            have z25 : Same K25 K36 := Same.tr w26 z26
            have z24 : Same K24 K36 := Same.tr w25 z25
            have z23 : Same K23 K36 := Same.tr w24 z24
            have z22 : Same K22 K36 := Same.tr w23 z23
            have z21 : Same K21 K36 := Same.tr w22 z22
            have z20 : Same K20 K36 := Same.tr w21 z21
            have z19 : Same K19 K36 := Same.tr w20 z20
            have z18 : Same K18 K36 := Same.tr w19 z19
            have z17 : Same K17 K36 := Same.tr w18 z18
            have z16 : Same K16 K36 := Same.tr w17 z17
            have z15 : Same K15 K36 := Same.tr w16 z16
            have z14 : Same K14 K36 := Same.tr w15 z15
            have z13 : Same K13 K36 := Same.tr w14 z14
            have z12 : Same K12 K36 := Same.tr w13 z13
            have z11 : Same K11 K36 := Same.tr w12 z12
            have z10 : Same K10 K36 := Same.tr w11 z11
            have z9 : Same K9 K36 := Same.tr w10 z10
            have z8 : Same K8 K36 := Same.tr w9 z9
            have z7 : Same K7 K36 := Same.tr w8 z8
            have z6 : Same K6 K36 := Same.tr w7 z7
            have z5 : Same K5 K36 := Same.tr w6 z6
            have z4 : Same K4 K36 := Same.tr w5 z5
            have z3 : Same K3 K36 := Same.tr w4 z4
            have z2 : Same K2 K36 := Same.tr w3 z3
            have z1 : Same K1 K36 := Same.tr w2 z2
            rw [List.length_map, hal5] at t10
            have hall : DdAll K (ms (fun b => b = p0 ∨ b = D) K36) (((([V.non, V.ref T1, V.ref T2, V.ref T4, V.ref T5, V.ref T6, V.ref T7, V.int 3, V.str "ab", V.ref T8] ++ [V.ref T11, V.ref T13, V.ref L15, V.ref T17, V.ref T18]) ++ [V.ref T22, V.ref T24, V.ref T25, V.ref T26, V.ref T28]) ++ [V.ref T32, V.ref T34])) (oddI rs.length) := DdAll.app (DdAll.app (DdAll.app (.cons (.non) (.cons (.tup (SqT.of (ms_at nn1 (z1 _ _ t1))) (.cons (.str "a") (.nil))) (.cons (.tup (SqT.of (ms_at nn2 (z2 _ _ t2))) (.cons (.str "a") (.cons (.int 1) (.cons (.int 2) (.nil))))) (.cons (.tup (SqT.of (ms_at nn4 (z4 _ _ t4))) (.cons (.str "A") (.cons (.tup (SqT.of (ms_at nn3 (z3 _ _ t3))) (.nil)) (.nil)))) (.cons (.tup (SqT.of (ms_at nn5 (z5 _ _ t5))) (.cons (.str "a") (.cons (.int _) (.nil)))) (.cons (.tup (SqT.of (ms_at nn6 (z6 _ _ t6))) (.cons (.str "a") (.cons (.bl true) (.nil)))) (.cons (.tup (SqT.of (ms_at nn7 (z7 _ _ t7))) (.cons (.str "a") (.cons (.str "0") (.nil)))) (.cons (.int 3) (.cons (.str "ab") (.cons (.tup (SqT.of (ms_at nn8 (z8 _ _ t8))) (.cons (.str "") (.cons (.int 2) (.nil)))) (.nil))))))))))) (.cons (.tup (SqT.of (ms_at nn11 (z11 _ _ t11))) (.cons (.str "f") (.cons (.tup (SqT.of (ms_at nn10 (z10 _ _ t10))) (.cons (.int _) (.nil))) (.nil)))) (.cons (.tup (SqT.of (ms_at nn13 (z13 _ _ t13))) (.cons (.str "f") (.cons (.lst (SqL.of (ms_at nn12 (z12 _ _ t12))) (.cons (.int _) (.nil))) (.nil)))) (.cons (.lst (SqL.of (ms_at nn15 (z15 _ _ t15))) (.cons (.str "a") (.cons (.lst (SqL.of (ms_at nn14 (z14 _ _ t14))) (.cons (.non) (.nil))) (.nil)))) (.cons (.tup (SqT.of (ms_at nn17 (z17 _ _ t17))) (.cons (.str "f") (.cons (.tup (SqT.of (ms_at nn16 (z16 _ _ t16))) (.cons (.int 0) (.cons (.int 0) (.cons (.int 0) (.cons (.int 0) (.nil)))))) (.nil)))) (.cons (.tup (SqT.of (ms_at nn18 (z18 _ _ t18))) (.cons (.non) (.cons (.int 3) (.nil)))) (.nil))))))) (.cons (.tup (SqT.of (ms_at nn22 (z22 _ _ t22))) (.cons (.str "f") (.cons (.tup (SqT.of (ms_at nn21 (z21 _ _ t21))) (.cons (.bl false) (.nil))) (.nil)))) (.cons (.tup (SqT.of (ms_at nn24 (z24 _ _ t24))) (.cons (.str "g") (.cons (.lst (SqL.of (ms_at nn23 (z23 _ _ t23))) (.cons (.int 0) (.cons (.bl true) (.nil)))) (.nil)))) (.cons (.tup (SqT.of (ms_at nn25 (z25 _ _ t25))) (.cons (.str "A") (.cons (.int _) (.nil)))) (.cons (.tup (SqT.of (ms_at nn26 (z26 _ _ t26))) (.cons (.str "") (.cons (.str "0") (.nil)))) (.cons (.tup (SqT.of (ms_at nn28 (z28 _ _ t28))) (.cons (.non) (.cons (.tup (SqT.of (ms_at nn27 (z27 _ _ t27))) (.cons (.int 0) (.cons (.int 0) (.cons (.int 0) (.cons (.int 0) (.nil)))))) (.nil)))) (.nil))))))) (.cons (.tup (SqT.of (ms_at nn32 (z32 _ _ t32))) (.cons (.str "A") (.cons (.tup (SqT.of (ms_at nn31 (z31 _ _ t31))) (.cons (.int 99) (.nil))) (.nil)))) (.cons (.tup (SqT.of (ms_at nn34 (z34 _ _ t34))) (.cons (.str "1a") (.cons (.lst (SqL.of (ms_at nn33 (z33 _ _ t33))) (.cons (.bl true) (.nil))) (.nil)))) (.nil)))
            generalize ((([V.non, V.ref T1, V.ref T2, V.ref T4, V.ref T5, V.ref T6, V.ref T7, V.int 3, V.str "ab", V.ref T8] ++ [V.ref T11, V.ref T13, V.ref L15, V.ref T17, V.ref T18]) ++ [V.ref T22, V.ref T24, V.ref T25, V.ref T26, V.ref T28]) ++ [V.ref T32, V.ref T34]) = ovs at t36 hall
            have gbL := gb2.keep es36
            have gDL := es36 _ _ gD2
            refine ⟨_, rfl, .inl ⟨rfl, _, SqL.of gDL⟩, _, rfl, _, rfl, _, rfl, p0, 22, _, rfl, gbL, by decide, by decide, by omega, fun e3 M3 x3 y3 gb3 k3 => ?_⟩
            have nL36 : L36 ≠ p0 := fun z => nn36 (.inl z)
            have t3 : M3 L36 = some (.lst ovs) := (k3 L36 nL36).trans t36
            obtain ⟨j, rfl⟩ : ∃ j : Nat, e3 = (j : Int) := ⟨e3.toNat, by omega⟩
            have hj : j < (oddI rs.length).length := by rw [oddI_len]; omega
            have hdj : (oddI rs.length)[j]? = some ((oddI rs.length)[j]) := List.getElem?_eq_getElem hj
            obtain ⟨y, hy, hyd⟩ := hall.at hdj
            refine ⟨L36, _, _, y, rfl, rfl, SqL.of t3, atI_nat hy, D, vs, _, y, rfl, rfl, (k3 D nDp).trans gDL, (by rw [PySem.sizeLine_eq]; omega), by omega, by omega, ?_⟩
            exact ins M3 y _ ((Keep.of es36).trans (keep_of k3)) (hyd.mono (ms_keep (S := fun b => b = p0 ∨ b = D) (.inl rfl) (keep_of k3))) (oddI_ok (by omega) _ (List.mem_of_getElem? hdj)) _ gb3 (by omega) _ _
      · rintro σ M ⟨o8, o9, vs, ds, rfl, gb, gk, gD, gd, gB, gl, gr⟩
        exact ⟨o8, o9, vs, ds, rfl, gb.mono (by omega), gk, gD, gd, gB, by omega⟩
    · rintro σ M ⟨o8, o9, vs, ds, rfl, gb, gk, gD, gd, gB, gl⟩
      have s4M := s46.keep gk gb
      have f1M : Frame [p0] H6 M := fun b o e1 e2 => gk b o (fun z => e1 (by rw [z]; exact List.mem_cons_self)) e2
      have nt1 : ∀ b ∈ [p0], NotTup H6 b := fun b hb => by rw [List.mem_singleton.mp hb]; exact box_nt s46.box
      have dom4 := BookAt.dom s44.bk
      have p0n : H4 p0 ≠ none := s44.sub _ (.inl rfl)
      have ln4 : H4 l ≠ none := s44.sub _ (.inr (.inl rfl))
      obtain ⟨dx4, gs4, g04, _⟩ := s44.bk.there
      have hCM : BookAt P w K M C pc fc rs := hC6.fr f1M nt1 (fun z => p0n (by rw [← List.mem_singleton.mp z]; exact hpc)) (fun b hb z => p0n (by rw [← List.mem_singleton.mp z]; exact hfc b hb))
      have k6 : Keep p0 H4 M := (Keep.of (Same.tr s5 s6)).trans gk
      have cpy : ∀ (N : Hp) (E : XK), Same M N → spCopyR P w K C [.ref p, .ref pc, .ref l] N Q E := fun N E sN => by
        refine ⟨p, pc, l, fp, fc, rs, rfl, s4M.bk.up sN, hCM.up sN, ⟨as5, sN _ _ (lM _ gk), hal5, fun i k a x y => (rM _ gk i k a x y).mono fun _ _ => upT sN⟩, hsm, hle, (fun b h1 h2 => dom4 b h1 (hfc b h2)), (fun h => by rw [hfc _ h] at g04; cases g04), (fun h => dom4 _ h hpc), s4.d3, (fun h => ln4 (hfc _ h)), fun H' f => q H' fun b o hb e => ?_⟩
        have e4 : H4 b = some o := s4' _ _ ((keep_of k3) b o (fun z => hb (.inl z)) (s12 _ _ e))
        have eN : N b = some o := sN _ _ (k6 b o (fun z => hb (.inl z)) e4)
        refine f b o (fun z => ?_) eN
        rcases List.mem_append.mp z with z | z
        · exact hb (.inr (.inr z))
        · rw [hfc b z] at e4
          cases e4
      have hSM : Tp.Sub (fun b => b = p0 ∨ b = D) M := fun b hb => by
        rcases hb with rfl | rfl
        · obtain ⟨_, _, _, e, _⟩ := gb
          rw [e]
          exact nofun
        · rw [gD]
          exact nofun
      have gvl := gd.len
      have hsh : shortAll ds = true := short_all fun d hd => (gB d hd).it.sh
      have hsmq : ∀ qs, buildR [] ds = .inr qs → SmT qs := fun qs e => build_small ds [] qs e (fun d hd => (gB d hd).sm) fun k hk => absurd hk List.not_mem_nil
      have hsmm : ∀ m qs, buildR [] (ds.take m) = .inr qs → ∀ k ∈ qs, ∀ n, k.2 = .inl n → n.natAbs.log2 < 1000 := fun m qs e k hk n en => small_log100 (build_small _ [] qs e (fun d hd => (gB d (List.mem_of_mem_take hd)).sm) (fun k hk => absurd hk List.not_mem_nil) k hk n en)
      have nw : ∀ z ∈ (["row", "name", "book"] : List Str), Nice 10 0 (.str z) := fun z hz => by
        simp only [List.mem_cons, List.not_mem_nil, or_false] at hz
        rcases hz with rfl | rfl | rfl <;> exact ⟨by decide +kernel, by decide +kernel, by decide +kernel, by decide +kernel⟩
      have pn : ∀ (z : Str) (d : PyData), Nice 10 0 (.str z) → Nice 130 3 d → Nice 200 5 (.list [.str z, d]) := fun z d h1 h2 => ((NiceAll.cons h1 (NiceAll.cons h2 niceAll_nil)).list).mono (by decide) (by decide)
      refine ⟨_, rfl, ?_⟩
      dsimp only [tNil]
      refine ⟨D, vs, ds, _, rfl, SqL.of gD, gd, hSM, (fun d hd => (gB d hd).it), by omega, ?_, ?_, ?_⟩
      · intro i d a N v hb hd sN ha hv
        have nn := pn "row" d (nw _ (by simp)) (gB d (List.mem_of_getElem? hd)).ni
        refine ⟨_, rfl, ?_⟩
        dsimp only [tNil]
        refine ⟨.ref D, rfl, .inr ⟨D, vs, ds, (fun b => b = p0 ∨ b = D), rfl, .inl (upL sN (SqL.of gD)), gd.mono (ms_up sN), hsh, by omega, hsmm, ?_, ?_, fun qs q1 fq a2 N2 e2 _ _ _ _ _ => by rw [hb] at e2; cases e2⟩⟩
        · intro i2 d2 a2 N2 v2 hb2 hd2 sN2 ha2 hv2
          rw [hb] at hb2
          cases hb2
          rw [hd] at hd2
          cases hd2
          refine ⟨_, _, rfl, ?_⟩
          have hNa : N2 a = some (.lst [V.str "row", v]) := sN2 _ _ ha
          refine ⟨_, rfl, a, _, _, _, rfl, rfl, SqL.of hNa, atI_nat (j := 0) rfl, rfl, _, rfl, if_false_of (by decide +kernel) ?_⟩
          refine ⟨_, rfl, ?_⟩
          dsimp only [tNil]
          refine rReprD_of (.lst (SqL.of ha2) (.cons (.str _) (.cons (hv2.mono ms_same) .nil))) nn (by decide) (by decide) ?_
          refine ⟨_, rfl, ?_⟩
          dsimp only [tNil]
          refine rReprD_of (.lst (SqL.of hNa) (.cons (.str _) (.cons ((hv.mono (ms_up sN2)).mono ms_same) .nil))) nn (by decide) (by decide) ?_
          refine ⟨rfl, _, rfl, if_false_of (by rw [decide_eq_true rfl]; rfl) ?_⟩
          dsimp only [tNext]
          refine ⟨_, rfl, _, rfl, _, rfl, ?_⟩
          dsimp only [tNil]
          exact cpy _ _ (Same.tr sN sN2)
        · intro i2 d2 d02 d12 a2 N2 v2 hb2
          rw [hb] at hb2
          cases hb2
      · intro i d d0 d1 a N v hb hd hseq sN ha hv
        have nn := pn "name" d0 (nw _ (by simp)) ((gB d (List.mem_of_getElem? hd)).ni.items hseq d0 (by simp))
        refine ⟨_, rfl, ?_⟩
        dsimp only [tNil]
        refine ⟨.ref D, rfl, .inr ⟨D, vs, ds, (fun b => b = p0 ∨ b = D), rfl, .inl (upL sN (SqL.of gD)), gd.mono (ms_up sN), hsh, by omega, hsmm, ?_, ?_, fun qs q1 fq a2 N2 e2 _ _ _ _ _ => by rw [hb] at e2; cases e2⟩⟩
        · intro i2 d2 a2 N2 v2 hb2
          rw [hb] at hb2
          cases hb2
        · intro i2 d2 d02 d12 a2 N2 v2 hb2 hd2 hseq2 sN2 ha2 hv2
          rw [hb] at hb2
          cases hb2
          rw [hd] at hd2
          cases hd2
          rw [hseq] at hseq2
          cases hseq2
          refine ⟨_, _, rfl, ?_⟩
          have hNa : N2 a = some (.lst [V.str "name", v]) := sN2 _ _ ha
          refine ⟨_, rfl, a, _, _, _, rfl, rfl, SqL.of hNa, atI_nat (j := 0) rfl, rfl, _, rfl, if_false_of (by decide +kernel) ?_⟩
          refine ⟨_, rfl, ?_⟩
          dsimp only [tNil]
          refine rReprD_of (.lst (SqL.of ha2) (.cons (.str _) (.cons (hv2.mono ms_same) .nil))) nn (by decide) (by decide) ?_
          refine ⟨_, rfl, ?_⟩
          dsimp only [tNil]
          refine rReprD_of (.lst (SqL.of hNa) (.cons (.str _) (.cons ((hv.mono (ms_up sN2)).mono ms_same) .nil))) nn (by decide) (by decide) ?_
          refine ⟨rfl, _, rfl, if_false_of (by rw [decide_eq_true rfl]; rfl) ?_⟩
          dsimp only [tNext]
          refine ⟨_, rfl, _, rfl, _, rfl, ?_⟩
          dsimp only [tNil]
          exact cpy _ _ (Same.tr sN sN2)
      · intro qs bs l2 a N hb sN hbl hbr hl2n hl2 ha
        refine ⟨_, rfl, ?_⟩
        dsimp only [tNil]
        refine ⟨.ref D, rfl, .inr ⟨D, vs, ds, (fun b => b = p0 ∨ b = D), rfl, .inl (upL sN (SqL.of gD)), gd.mono (ms_up sN), hsh, by omega, hsmm, (fun i2 d2 a2 N2 v2 hb2 => by rw [hb] at hb2; cases hb2), (fun i2 d2 d02 d12 a2 N2 v2 hb2 => by rw [hb] at hb2; cases hb2), ?_⟩⟩
        intro qs2 q1 fq a2 N2 hb2 sN2 hq1 hfq hBq ha2
        rw [hb] at hb2
        cases hb2
        refine ⟨_, _, rfl, ?_⟩
        have hNa := sN2 _ _ ha
        have hl22 := sN2 _ _ hl2
        have hql : qs.length ≤ 40 := by
          have := build_len ds [] qs hb
          simp only [List.length_nil] at this
          omega
        have hbr2 : ∀ (i : Nat) (k : RowK) (b : Addr), qs[i]? = some k → bs[i]? = some b → RowAt K N2 k b := fun i k b x y => (hbr i k b x y).mono fun _ _ => upT sN2
        refine ⟨_, rfl, a, _, _, _, rfl, rfl, SqL.of hNa, atI_nat (j := 0) rfl, rfl, _, rfl, if_true_of (by decide +kernel) ?_⟩
        refine ⟨_, rfl, a2, _, _, _, rfl, rfl, SqL.of ha2, atI_nat (j := 0) rfl, rfl, _, rfl, if_false_of (by decide +kernel) ?_⟩
        refine ⟨_, rfl, a2, _, _, _, rfl, rfl, SqL.of ha2, atI_nat (j := 1) rfl, _, rfl, a, _, _, _, rfl, rfl, SqL.of hNa, atI_nat (j := 1) rfl, ?_⟩
        dsimp only [tNil]
        refine ⟨q1, l2, fq, qs, rfl, hBq, ⟨bs, SqL.of hl22, hbl, hbr2⟩, ⟨by omega, hsmq qs hb⟩, fun N3 s3 => ⟨_, rfl, iteF ?_⟩⟩
        have sN3 := Same.tr sN2 s3
        have sM3 := Same.tr sN sN3
        refine ⟨_, rfl, a2, _, _, _, rfl, rfl, SqL.of (s3 _ _ ha2), atI_nat (j := 1) rfl, _, rfl, ?_⟩
        refine eq_to (no := false) TC (hBq.up s3) (s4M.bk.up sM3) ?_
        refine ⟨_, rfl, a, _, _, _, rfl, rfl, SqL.of (s3 _ _ hNa), atI_nat (j := 1) rfl, _, rfl, .list (qs.map rowD), .list (rs.map rowD), .lst (SqL.of (s3 _ _ hl22)) (rows_dp hbl fun i k b x y => (hbr2 i k b x y).mono fun _ _ => upT s3), .lst (SqL.of (sM3 _ _ (lM _ gk))) (rows_dp hal5 fun i k b x y => (rM _ gk i k b x y).mono fun _ _ => upT sM3), rows_shaped (okRows_str (BookAt.ok hBq).2.1), rows_shaped (okRows_str hR), ?_⟩
        rw [show PyData.eqv (.list (qs.map rowD)) (.list (rs.map rowD)) = decide (qs = rs) from rows_eqv qs rs]
        refine ⟨rfl, _, rfl, if_false_of (by rw [Bool.bne_false, decide_eq_true rfl]; rfl) ?_⟩
        dsimp only [tNext]
        refine ⟨_, rfl, _, rfl, _, rfl, ?_⟩
        dsimp only [tNil]
        exact cpy _ _ sM3

end
end T04
set_option Elab.async false
set_option linter.all false
set_option maxRecDepth 100000
set_option maxHeartbeats 4000000
namespace T04
open PySem PySem.Spec PyProof.Rows L2 Tp
section
variable {P : Program} {w : World} {K : PySem.W.Frag} {mg : Str → Option Value} {base : Heap} {f : Addr} {fd : FuncData}

theorem op_or {X : Cx} {op : Value → Value → Sem Value} {r1 r2 : R2} (h1 : OpR X op r1) (h2 : OpR X op r2) : OpR X op (fun x y H Q => r1 x y H Q ∨ r2 x y H Q) := fun pins s σ H x y v u Q I rx ry h => h.elim (h1 pins s σ H x y v u Q I rx ry) (h2 pins s σ H x y v u Q I rx ry)
def spLaw (K : PySem.W.Frag) : Sp := fun vs H Q _ => ∃ (a : Addr) (ns : List Int), vs = [.ref a] ∧ SqL K H a (ns.map V.int) ∧ ns.length ≤ 63 ∧ ∀ H', Q (.bl true) H'
theorem em_sq {H : Hp} {a : Addr} (h : ∃ (o : Obj) (n : Nat), K.lookup a = some o ∧ o.cls = .type "tuple" ∧ o.data = .seq #[] n) : SqT K H a [] := by
  obtain ⟨o, n, h1, h2, h3⟩ := h
  exact .inr ⟨o, #[], n, h1, h2, h3, by show 0 ≤ sizeLine; decide, .nil⟩

abbrev sLw : Stmt := top 56
abbrev nLw : List Str := ["_law_script", "_law_k", "_law_box_here", "_law_book", "_law_rows", "_law_thing", "_law_found"]
theorem scLw : FnScope nLw ["_law_script"] (defScope sLw) := ⟨rfl, rfl, rfl, by decide +kernel, rfl, by decide +kernel, by decide +kernel⟩

theorem ok_Lw (F : Fun K "law" "law" sLw f fd) {C CP CR CN dfl : Addr} (T : TxtL mg) (TC : TxtC K C) (eT : ∃ (o : Obj) (n : Nat), K.lookup dfl = some o ∧ o.cls = .type "tuple" ∧ o.data = .seq #[] n) (CE : Cg P w K mg base 1 "_law_cell" (Tp.spCellT K)) (BX : Cg P w K mg base 1 "_law_box" spBox) (CM : Cmr P w K mg base 6 "Book" C [] (spInitB P w K C CP CR CN)) (CM0 : Cmr P w K mg base 6 "Book" C [.ref dfl] (spInitB P w K C CP CR CN)) (EQ : Ct P w K mg base 1 C "__eq__" [] (spEqB P w K C)) (HO : Cg P w K mg base 8 "_law_holds" (spHolds P w K C)) (GR : Cg P w K mg base 9 "_law_grown" (spGrown P w K C)) (AG : Cg P w K mg base 11 "_law_again_right" (spAgain P w K C)) (MD : Cg P w K mg base 8 "_law_made" (spMade P w K C)) : FnG P w K mg base CX0 12 f fd ["_law_script"] (spLaw K) := by
  refine FunG.ok F scLw (fun vs H Q E h => ?_) (fun cdv B out s H vs Q E hr hG h => ?_)
  · obtain ⟨a, ns, rfl, _⟩ := h
    rfl
  · obtain ⟨a, ns, rfl, hS, hl, q⟩ := h
    refine ⟨_, (pss_cons (ps_for PassesOwn.never rfl (pi_range1 (by rfl) T.range (pa_cons (pe_callB (call_max2 rfl) (by rfl) T.max (by decide +kernel) (pa_cons pe_int (pa_cons (pe_callB (call_min2 rfl) (by rfl) T.min (by decide +kernel) (pa_cons pe_int (pa_cons (pe_callB call_len (by rfl) T.len PySem.boot_len (pa_cons (pv 0) pa_nil)) pa_nil))) pa_nil))) pa_nil)) (pg_name (i := 1) scLw.nd rfl (Or.inl rfl)) (pss_cons (ps_set (i := 2) scLw.nd rfl (.inl rfl) (pe_g BX hr hG (by decide) (by rfl) (pa_cons (pe_g CE hr hG (by decide) (by rfl) (pa_cons (pv 0) (pa_cons (pv 1) pa_nil))) pa_nil)))
        (pss_cons (ps_par (i := 3) (j := 4) rfl scLw.nd rfl rfl (by decide) rfl rfl (pa_cons (pe_cmr0 CM0 hr hG (by decide) takes0 (by rfl)) (pa_cons (pe_lst pa_nil) pa_nil)) (by rfl))
        (pss_one (ps_if (PW.pt (pw_or (pt_not (pt_val (pe_g HO hr hG (by decide) (by rfl) (pa_cons (pv 3) (pa_cons (pe_lst pa_nil) pa_nil))))) (pw_or (pt_not (pt_val (pe_g GR hr hG (by decide) (by rfl) (pa_cons (pv 2) (pa_cons (pv 3) (pa_cons (pv 4) pa_nil)))))) (pw_or1 (pt_not (pt_val (pe_g AG hr hG (by decide) (by rfl) (pa_cons (pv 2) (pa_cons (pv 3) (pa_cons (pv 4) pa_nil)))))))))) (pss_one (ps_ret pe_bl)) pss_nil)))))
      (pss_cons (ps_for PassesOwn.never rfl (pi_list (pe_lst (pa_cons pe_non (pa_cons pe_int (pa_cons pe_str (pa_cons (pe_disp (pps_cons pe_str (pe_tup pa_nil) pps_nil) (by rfl) (by rfl) (fun z => by cases z) (by decide)) (pa_cons pe_bl (pa_cons (pe_cmr0 CM0 hr hG (by decide) takes0 (by rfl)) pa_nil)))))))) (pg_name (i := 5) scLw.nd rfl (Or.inl rfl)) (pss_cons (ps_set (i := 6) scLw.nd rfl (.inl rfl) (pe_g MD hr hG (by decide) (by rfl) (pa_cons (pv 5) pa_nil)))
        (pss_one (ps_if (PW.pt (pw_or (pt_cmpR op_ne (pe_ix ix_list (pv 6) pe_int fun _ _ => rfl) pe_str (nomark _)) (pw_or1 (pt_not (pt_cmpR (op_or (op_or op_eq (op_eqV hr.units)) (op_eqO EQ (hr.mono (by decide)) hG)) (pe_ix ix_list (pv 6) pe_int fun _ _ => rfl) (pv 5) (nomark _)))))) (pss_one (ps_ret pe_bl)) pss_nil))))
      (pss_one (ps_ret (pe_cmpR (op_eqO EQ (hr.mono (by decide)) hG) (pe_ix ix_list (pe_g MD hr hG (by decide) (by rfl) (pa_cons (pe_tup pa_nil) pa_nil)) pe_int fun _ _ => rfl) (pe_cmr CM hr hG (by decide) takes0 (by rfl) (pa_cons (pe_lst pa_nil) pa_nil)) (nomark _)))))), ?_⟩
    refine ⟨_, rfl, _, _, rfl, .inl ⟨_, hS, rfl⟩, _, _, rfl, _, _, rfl, ?_⟩
    obtain ⟨M, eM, hM1, hM2⟩ : ∃ M : Int, M = (if (if (((ns.map V.int).length : Nat) : Int) < 4 then (((ns.map V.int).length : Nat) : Int) else 4) > 2 then (if (((ns.map V.int).length : Nat) : Int) < 4 then (((ns.map V.int).length : Nat) : Int) else 4) else 2) ∧ 0 ≤ M ∧ M ≤ 4 := ⟨_, rfl, by split <;> omega, by split <;> (try split) <;> omega⟩
    rw [← eM]
    refine ⟨_, rfl, by omega, by omega, ?_⟩
    refine for_it (walk_range (lo := 0) (n := M.toNat)) (fun j σ G => Same H G ∧ ∃ o1 o2 o3 o4, σ = [some (.ref a), o1, o2, o3, o4, none, none])
      ⟨Same.refl _, _, _, _, _, rfl⟩ (fun _ _ _ _ _ => trivial) ?_ ?_
    · rintro i x σ G0 G hi ⟨sm, o1, o2, o3, o4, rfl⟩ ⟨rfl, hx⟩
      dsimp only at hx
      rw [Int.zero_add] at hx
      subst hx
      dsimp only [gName]
      refine ⟨_, rfl, _, rfl, a, ns, i, rfl, upL sm hS, by omega, by omega, fun z => ⟨z, rfl, fun p0 G1 hp0 b1 kp1 => ?_⟩⟩
      dsimp only [gName]
      have sG1 : Same G G1 := fun b o h => kp1 b o (ne_of_none h hp0) h
      intro p dp hp hdp hne
      refine init_rows (as := []) (rr := []) (.inr (em_sq eT)) rfl (fun i k a h => by simp at h) okRows_nil List.nodup_nil (by decide) hp hdp hne.symm fun G2 fp s2 hfp hB => ⟨rfl, ?_⟩
      refine ⟨(by show 0 ≤ sizeLine; decide), fun l hl => ⟨_, _, rfl, ?_⟩⟩
      have s3 : Same G2 (upd G2 l (.lst [])) := Same.put hl
      have t3 : (upd G2 l (.lst [])) l = some (.lst []) := upd_same
      generalize upd G2 l (.lst []) = G3 at s3 t3 ⊢
      have s13 := Same.tr s2 s3
      have b3 := b1.keep s13
      have hB3 := hB.up s3
      have hlG1 : G1 l = none := same_none s2 hl
      have bne := fun b (h : G1 b = none) => b1.ne h
      have s4 : St4 P w K G3 C p0 p l fp 0 [] [] := ⟨b3, hB3, ⟨[], t3, rfl, fun i k a h => by simp at h⟩, b1.ne hlG1, fun h => b1.ne (hfp _ h) rfl, fun h => BookAt.dom hB _ h hl, b1.ne hp, fun e => by
        obtain ⟨dx, gs, g0, _⟩ := hB.there
        rw [e, g0] at hl
        cases hl⟩
      refine ⟨_, rfl, (by show 0 ≤ sizeLine; decide), fun l2 hl2 => ?_⟩
      dsimp only [tNil]
      have s5 : Same G3 (upd G3 l2 (.lst [])) := Same.put hl2
      have t5 : (upd G3 l2 (.lst [])) l2 = some (.lst []) := upd_same
      generalize upd G3 l2 (.lst []) = G4 at s5 t5 ⊢
      refine ⟨p, l2, fp, [], rfl, hB3.up s5, ⟨[], SqL.of t5, rfl, fun i k a h => by simp at h⟩, ⟨by decide, fun k hk => absurd hk List.not_mem_nil⟩, fun G5 s6 => ⟨_, rfl, iteF ?_⟩⟩
      have s45 := s4.same (Same.tr s5 s6)
      refine ⟨_, rfl, _, rfl, _, rfl, ?_⟩
      dsimp only [tNil]
      refine ⟨p0, p, l, fp, 0, rfl, s45, by decide, fun G6 rs s46 hle hsm f6 => ⟨_, rfl, iteF ?_⟩⟩
      refine ⟨_, rfl, _, rfl, _, rfl, ?_⟩
      dsimp only [tNil]
      refine ⟨p0, p, l, fp, _, rs, rfl, s46, by decide, hle, hsm, fun G7 f7 => ⟨_, rfl, iteF ⟨?_, _, _, _, _, rfl⟩⟩⟩
      intro b o e
      have e1 := sm b o e
      have e5 := (Same.tr s13 (Same.tr s5 s6)) b o (sG1 b o e1)
      have nb : ¬ SM p0 l fp b := fun h => by
        rcases h with rfl | rfl | h
        · rw [hp0] at e1; cases e1
        · rw [sG1 b o e1] at hlG1; cases hlG1
        · have := hfp b h
          rw [sG1 b o e1] at this; cases this
      exact f7 b o nb (f6 b o nb e5)
    · rintro σ G ⟨sm, o1, o2, o3, o4, rfl⟩
      refine fun z hz => ⟨(by show 0 ≤ sizeLine; decide), fun t0 et0 => ?_⟩
      have ntz : z ≠ t0 := fun e => by rw [← e, upd_same] at et0; cases et0
      refine ⟨(upd_ne ntz).trans upd_same, [(Sum.inr "a", V.ref t0)], rfl, (by simp), ?_⟩
      have et1 : G t0 = none := by rw [upd_ne ntz.symm] at et0; exact et0
      have s1 : Same G (upd (upd (upd G z (.dK [])) t0 (.tup [])) z (.dK (mergeK [] [(Sum.inr "a", V.ref t0)]))) := fun b o e => (upd_ne (ne_of_none e hz)).trans ((upd_ne (ne_of_none e et1)).trans ((upd_ne (ne_of_none e hz)).trans e))
      have t1 : (upd (upd (upd G z (.dK [])) t0 (.tup [])) z (.dK (mergeK [] [(Sum.inr "a", V.ref t0)]))) z = some (.dK [(Sum.inr "a", V.ref t0)]) := upd_same
      generalize upd (upd (upd G z (.dK [])) t0 (.tup [])) z (.dK (mergeK [] [(Sum.inr "a", V.ref t0)])) = G1 at s1 t1 ⊢
      intro bk db hbk hdb hne
      refine init_rows (as := []) (rr := []) (.inr (em_sq eT)) rfl (fun i k a h => by simp at h) okRows_nil List.nodup_nil (by decide) hbk hdb hne.symm fun G2 fb s2 hfb hB => ⟨rfl, (by show 6 ≤ sizeLine; decide), fun L eL => ?_⟩
      have s3 : Same G2 (upd G2 L (.lst [V.non, V.int 3, V.str "ab", V.ref z, V.bl true, V.ref bk])) := Same.put eL
      have t3 : (upd G2 L (.lst [V.non, V.int 3, V.str "ab", V.ref z, V.bl true, V.ref bk])) L = some (.lst [V.non, V.int 3, V.str "ab", V.ref z, V.bl true, V.ref bk]) := upd_same
      generalize upd G2 L (.lst [V.non, V.int 3, V.str "ab", V.ref z, V.bl true, V.ref bk]) = GL at s3 t3 ⊢
      have hz3 := s3 _ _ (s2 _ _ t1)
      have hB3 := hB.up s3
      have sc : ∀ v : V, scal v v = true → ∀ (N : Hp) (Q : VK), Q (.bl true) N → (rEq v v N Q ∨ rEqV K v v N Q) ∨ rEqO K C (spEqB P w K C) false v v N Q := fun v h N Q hq => .inl (.inl ⟨h, by rw [decide_eq_true rfl]; exact hq⟩)
      have things : ∀ (i : Nat) v, ([V.non, V.int 3, V.str "ab", V.ref z, V.bl true, V.ref bk] : List V)[i]? = some v → (∃ k, Vk K GL v k ∧ (k == "list" || k == "tuple") = false) ∧ ∀ (N : Hp) (Q : VK), Same GL N → Q (.bl true) N → (rEq v v N Q ∨ rEqV K v v N Q) ∨ rEqO K C (spEqB P w K C) false v v N Q := fun i v hv => by
        match i, hv with
        | 0, hv => cases hv; exact ⟨⟨_, vk_non, rfl⟩, fun N Q _ h => sc _ rfl N Q h⟩
        | 1, hv => cases hv; exact ⟨⟨_, vk_int _, rfl⟩, fun N Q _ h => sc _ rfl N Q h⟩
        | 2, hv => cases hv; exact ⟨⟨_, vk_str _ (by decide +kernel), rfl⟩, fun N Q _ h => sc _ rfl N Q h⟩
        | 3, hv =>
          cases hv
          refine ⟨⟨_, vk_dict hz3, rfl⟩, fun N Q s h => .inl (.inr ⟨1, by decide, .inr ⟨z, z, _, _, rfl, rfl, s _ _ hz3, s _ _ hz3, rfl, fun p hp => ⟨V.ref t0, ?_, .inr (.inl ⟨t0, ?_, rfl⟩)⟩⟩, h⟩)⟩
          · rw [List.mem_singleton.mp hp]
            rfl
          · rw [List.mem_singleton.mp hp]
        | 4, hv => cases hv; exact ⟨⟨_, vk_bl _, rfl⟩, fun N Q _ h => sc _ rfl N Q h⟩
        | 5, hv =>
          cases hv
          obtain ⟨dx, gs, g0, _⟩ := hB3.there
          exact ⟨⟨_, vk_ins TC.ik g0, rfl⟩, fun N Q s h => .inr (eq_to (no := false) TC (hB3.up s) (hB3.up s) (by rw [decide_eq_true rfl]; exact h))⟩
        | i + 6, hv => simp at hv
      refine ⟨L, rfl, ⟨_, SqL.of t3⟩, for_it (walk_list (xs := [V.non, V.int 3, V.str "ab", V.ref z, V.bl true, V.ref bk])) (fun i σ N => Same GL N ∧ ∃ o5 o6, σ = [some (.ref a), o1, o2, o3, o4, o5, o6]) ⟨Same.refl _, _, _, rfl⟩ (fun _ _ _ _ h => SqL.of (h.1 _ _ t3)) ?_ ?_⟩
      · rintro i v σ N N' hi ⟨sN, o5, o6, rfl⟩ ⟨rfl, hv⟩
        obtain ⟨⟨k, vk, hk⟩, hq⟩ := things i v hv
        dsimp only [gName]
        refine ⟨_, rfl, ?_⟩
        dsimp only [tNil]
        refine ⟨v, rfl, .inl ⟨k, vk.mono sN, hk, fun a2 N2 s2' ha2 => ?_⟩⟩
        dsimp only [gName]
        refine ⟨_, rfl, a2, _, _, _, rfl, rfl, SqL.of ha2, atI_nat (j := 0) rfl, rfl, _, rfl, if_false_of (by decide +kernel) ?_⟩
        refine ⟨_, rfl, a2, _, _, _, rfl, rfl, SqL.of ha2, atI_nat (j := 1) rfl, _, rfl, hq N2 _ (Same.tr sN s2') ⟨_, rfl, if_false_of rfl ?_⟩⟩
        exact ⟨Same.tr sN s2', _, _, rfl⟩
      · rintro σ N ⟨sN, o5, o6, rfl⟩
        refine ⟨(by show 0 ≤ sizeLine; decide), fun t et => ?_⟩
        dsimp only [tNil]
        refine ⟨.ref t, rfl, .inr ⟨t, [], [], fun _ => False, rfl, .inr (SqT.of upd_same), .nil, rfl, by decide, (fun m qs e k hk => ?_), (fun i d a2 N2 v e => by simp [buildR] at e), (fun i d d0 d1 a2 N2 v e => by simp [buildR] at e), fun qs q1 fq a2 N2 e s2' hq1 hfq hBq ha2 => ?_⟩⟩
        · rw [List.take_nil] at e
          simp only [buildR] at e
          cases e
          exact absurd hk List.not_mem_nil
        · simp only [buildR] at e
          cases e
          refine ⟨a2, _, _, _, rfl, rfl, SqL.of ha2, atI_nat (j := 1) rfl, (by show 0 ≤ sizeLine; decide), fun l3 el3 => ?_⟩
          intro r dr hr3 hdr hne3
          refine init_rows (as := []) (rr := []) (.inl (SqL.of upd_same)) rfl (fun i k a h => by simp at h) okRows_nil List.nodup_nil (by decide) hr3 hdr hne3.symm fun N3 fr3 s3' hfr3 hO => ⟨rfl, ?_⟩
          exact eq_to (no := false) TC (hBq.up (Same.tr (Same.put el3) s3')) hO (by rw [decide_eq_true rfl]; exact q _)

end
end T04
set_option Elab.async false
set_option linter.all false
set_option maxRecDepth 100000
set_option maxHeartbeats 8000000
/-! the head of a law by facts: what is read off the written part, and how it is told -/
namespace Tp
open PySem PySem.Spec PyProof.Rows L2
def dfn (x : Str) (st : Stmt) (dfl : List He.Dv := []) (kwd : List (Str × He.Dv) := []) : He.DefD := ⟨(x, none), x, x, defArgs st, defBody st, defScope st, dfl, kwd⟩
def dmt (c m q : Str) (st : Stmt) (dfl : List He.Dv := []) (kwd : List (Str × He.Dv) := []) : He.DefD := ⟨(c, some m), m, q, defArgs st, defBody st, defScope st, dfl, kwd⟩
theorem fun_of {K : PySem.W.Frag} {x qual : Str} {st : Stmt} {f : Addr} {fd : FuncData} (F : FunD K x qual (defArgs st) (defBody st) (defScope st) [] [] f fd) : Fun K x qual st f fd := by
  obtain ⟨oc, od, dV, kV, doc, pm, an, cdv, ct, osl, e, lk, hcd, hD, _⟩ := F.ex
  rcases hD with ⟨_, e2⟩ | ⟨z, _⟩
  · subst e2
    exact ⟨⟨oc, od, kV, doc, pm, an, cdv, ct, osl, e, lk, hcd⟩, F.kp⟩
  · exact absurd rfl z
theorem kb_of {K : PySem.W.Frag} {x q : Str} {st : Stmt} {f : Addr} {fd : FuncData} {ps ks : List Str} {n : Nat} {g : List Value → List Value → List Value} {gV : List V → List V → List V} (G : Fun K x q st f fd)
    (h : ∀ (kV doc pm : Value) (an : Option Addr) (cdv ct : Value) (us ws : List Value), us.length = n → ws.length = ks.length → bindArgs (PySem.W.fnOf x q (defArgs st) (defBody st) (defScope st) .none kV doc pm an cdv ct) ⟨us, ks.zip ws⟩ = pure (ps.zip (g us ws)))
    (rel : ∀ {vs : List V} {us : List Value} {zs : List V} {ws : List Value}, Vals vs us → Vals zs ws → Vals (gV vs zs) (g us ws)) : KBn K fd ps n ks g gV := by
  obtain ⟨oc, od, kV, doc, pm, an, cdv, ct, osl, rfl, lk, hcd⟩ := G.ex
  exact ⟨fun s us ws _ l1 l2 => .of_eq (h kV doc pm an cdv ct us ws l1 l2), rel⟩
/-- the goal that such a head leaves -/
theorem walkGE {l : PySem.W.OpenLaw} {n k : Nat} {q : Program} {loose : List Str} {XP : (Str → Option Value) → Heap → Prop} {YP : World → Heap → Prop} {d : DefRec} {x : Str}
    (hn : l.most = some n) (hn2 : n ≤ sizeLine) (hdf : d.params.defaults = []) (hr : Room k callerA)
    (F : ∀ (w : World) (mg : Str → Option Value) (fa : Addr) (h : Heap), YP w h → h.Ns mainGlobals mg → mg d.name = some (.ref fa) →
      ∃ (K : PySem.W.Frag) (fd : FuncData) (sp : Sp), K.In h ∧ (∀ (s : Shared) (u : Value), BindsTo s fd ⟨[u], []⟩ [(x, u)]) ∧ (∀ base : Heap, K.In base → base.Ns mainGlobals mg → FnG l.prog w K mg base CX0 k fa fd [x] sp) ∧
        ∀ (H : Hp) (a : Addr) (ns : List Int), ns.length ≤ n → Only H → SqL K H a (ns.map V.int) → sp [.ref a] H (fun v _ => v = .bl true) E0) :
    PySem.W.WalkO q loose XP YP l.row.toRowW d [] (fun f vs => PySem.call f vs) := by
  refine Att.attach_call hn hdf fun w s0 s1 mg mb fa o pm cd doc a vs ns G Y ho hd hcd hmg hobj hints hlen hg => ?_
  obtain ⟨K, fd, sp, KX, hb, hF, hsp⟩ := F w mg fa _ Y G.T.g hmg
  exact law_callG KX G.T.g G.T.b G.T.builtins G.T.nolimit hg hobj hints (Nat.le_trans hlen hn2) hr hF hb fun H hO hS => hsp H a ns hlen hO hS
/-! ### facts by one Bool -/
def emB (K : PySem.W.Frag) (a : Addr) : Bool := match K.lookup a with
  | some ⟨.type t, _, .seq its _, _⟩ => decide (t = "tuple") && decide (its = #[])
  | _ => false
theorem emB_ok {K : PySem.W.Frag} {a : Addr} (h : emB K a = true) : ∃ (o : Obj) (n : Nat), K.lookup a = some o ∧ o.cls = .type "tuple" ∧ o.data = .seq #[] n := by
  unfold emB at h
  split at h
  · rename_i t od its n sl e
    rw [Bool.and_eq_true, decide_eq_true_eq, decide_eq_true_eq] at h
    obtain ⟨rfl, rfl⟩ := h
    exact ⟨_, n, e, rfl, rfl⟩
  · cases h
def smB (K : PySem.W.Frag) : Bool := match K.lookup sysModules with
  | some ⟨.type t, _, _, _⟩ => decide (t = "dict")
  | _ => false
theorem smB_ok {K : PySem.W.Frag} (h : smB K = true) : Sm K := by
  unfold smB at h
  split at h
  · rename_i t od dt sl e
    rw [decide_eq_true_eq] at h
    subst h
    exact ⟨_, e, rfl⟩
  · cases h
/-- what all instances and exceptions share -/
def glB (K : PySem.W.Frag) : Bool := He.eqO (PySem.W.specialIn K (.builtin "object.__class__") "__get__") (some (some (.builtin "getset_descriptor.__get__"))) && decide (PySem.W.takesIn K (.builtin "object.__class__") = some true)
def insB (K : PySem.W.Frag) (C : Addr) : Bool := He.eqO (PySem.W.findIn K (.ref C) "__class__") (some (some (.builtin "object.__class__"))) && (decide (PySem.W.mroIn K C (.type "object") = some true) && tys6.all fun u => decide (PySem.W.subIn K (.ref C) (.type u) = some false))
theorem kit_sub {K : PySem.W.Frag} {C : Addr} {u : String} {b : Bool} (hu : u ∈ tys6) (h : PySem.W.subIn K (.ref C) (.type u) = some b) : PySem.W.kitOne K (.ref C) (.type u) = some b := by
  have km : ∀ u ∈ tys6, PySem.W.kitMeta u = true := by decide +kernel
  unfold PySem.W.kitOne
  rw [if_neg (show ¬ (Value.ref C == Value.type u) = true from fun z => by cases z)]
  show (if PySem.W.kitMeta u = true then PySem.W.subIn K (.ref C) (.type u) else none) = some b
  rw [if_pos (km u hu)]
  exact h
theorem insB_ok {K : PySem.W.Frag} {C : Addr} (g : glB K = true) (c : Cls K C) (h : insB K C = true) : InsK K C := by
  unfold insB at h
  unfold glB at g
  simp only [Bool.and_eq_true, decide_eq_true_eq, List.all_eq_true] at g h
  exact ⟨c, He.eqO_ok h.1, He.eqO_ok g.1, g.2, h.2.1, fun u hu => kit_sub hu (h.2.2 u hu)⟩
/-! ### exceptions -/
def classB (K : PySem.W.Frag) (C : Addr) (tl : List Value) (newId : String) : Bool := match K.lookup C with
  | some ⟨.type t, _, .cls cd, sl⟩ => decide (t = "type") && (cd.hasDict && (!cd.hasDel && (decide (cd.mro = .ref C :: tl) && (match sl.toList with
    | [_, _, _, _, some (.builtin n), _] => decide (n = newId)
    | _ => false))))
  | _ => false
/-- how a class is written -/
def Lin (K : PySem.W.Frag) (C : Addr) (tl : List Value) (newId : String) : Prop := ∃ (nm qn : Str) (N : Addr) (bs : List Value) (sn : List Str) (sub : List Value) (ab : Bool) (col : Option Bool) (dd : Option Addr) (k0 k1 k2 k3 k5 : Option Value),
  K.lookup C = some (excClassObj nm qn C N bs tl true sn sub ab col dd k0 k1 k2 k3 k5 newId)
theorem classB_ok {K : PySem.W.Frag} {C : Addr} {tl : List Value} {newId : String} (h : classB K C tl newId = true) : Lin K C tl newId := by
  unfold classB at h
  split at h
  · rename_i t dd cd sl ho
    simp only [Bool.and_eq_true, decide_eq_true_eq, Bool.not_eq_true'] at h
    obtain ⟨rfl, h1, h2, h3, h4⟩ := h
    split at h4
    · rename_i k0 k1 k2 k3 n k5 hs
      have en := of_decide_eq_true h4
      obtain ⟨nm, bs, mro, ns, qn, hd, sn, sub, ab, col, del⟩ := cd
      dsimp only at h1 h2 h3
      subst h1 h2 h3
      have hsl : sl = #[k0, k1, k2, k3, some (.builtin n), k5] := by
        obtain ⟨l⟩ := sl
        simp only at hs
        rw [hs]
      subst hsl
      exact ⟨nm, qn, ns, bs, sn, sub, ab, col, dd, k0, k1, k2, k3, k5, by rw [ho, en]⟩
    · cases h4
  · cases h
section
variable {K : PySem.W.Frag} {C Bc : Addr} {tl line : List Value} {newId : String}
theorem Lin.cls (h : Lin K C tl newId) : ∃ cd, PySem.W.clsIn K C = some cd ∧ cd.mro = .ref C :: tl ∧ cd.hasDict = true ∧ PySem.W.typeIn K (.ref C) = some (.type "type") := by
  obtain ⟨nm, qn, N, bs, sn, sub, ab, col, dd, k0, k1, k2, k3, k5, h⟩ := h
  refine ⟨_, (by unfold PySem.W.clsIn; rw [h]), rfl, rfl, ?_⟩
  show (K.lookup C).map (·.cls) = _
  rw [h]
  rfl
theorem Lin.own (h : Lin K C tl newId) (t : Value) {b : Bool} (e : (Value.ref C :: tl).contains t = b) : PySem.W.subIn K (.ref C) t = some b := by
  obtain ⟨cd, hc, hm, _⟩ := h.cls
  show PySem.W.mroIn K C t = some b
  unfold PySem.W.mroIn
  rw [hc, Option.bind_some, hm, e]
  rfl
theorem Lin.two (h : Lin K C tl newId) (ht : PySem.W.excTail line tl = true) : PySem.W.excInitIn K C line newId = true ∧ PySem.W.excOver K C line = true := by
  constructor
  · obtain ⟨nm, qn, N, bs, sn, sub, ab, col, dd, k0, k1, k2, k3, k5, h⟩ := h
    unfold PySem.W.excInitIn
    rw [h]
    simp [ht]
  · obtain ⟨cd, hc, hm, _⟩ := h.cls
    unfold PySem.W.excOver
    rw [hc, Option.any_some]
    simp only [hm]
    simp [ht]
/-- the three lines behind the package's bases -/
def lnN (i : Nat) : List Value := if i = 0 then valLine else if i = 1 then keyLine else lookLine
def nwN (i : Nat) : String := if i = 0 then "ValueError.__new__" else "LookupError.__new__"
theorem ln_ref (i : Nat) (a : Addr) (r : List Value) : lnN i ≠ .ref a :: r := fun z => by
  unfold lnN at z
  split at z
  · cases z
  · split at z <;> cases z
theorem ln_tail (i : Nat) : PySem.W.excTail (lnN i) (.ref Bc :: lnN i) = true := by
  show PySem.W.excTail (lnN i) (lnN i) = true
  unfold lnN
  split
  · decide +kernel
  · split <;> decide +kernel
theorem ln_base (i : Nat) : BaseX (nwN i) (lnN i) := by
  unfold nwN lnN
  split
  · exact baseV
  · split
    · exact baseK
    · exact baseL
/-- all that is asked of class C below Bc, kind i, the fields fs -/
def excB (K : PySem.W.Frag) (C Bc : Addr) (i : Nat) (fs : List Str) (fI : Addr) : Bool := classB K C (.ref Bc :: lnN i) (nwN i) && (He.eqO (PySem.W.findIn K (.ref C) "__setattr__") (some (some (.builtin "object.__setattr__"))) &&
  (He.eqO (PySem.W.findIn K (.ref C) "__getattribute__") (some (some (.builtin "BaseException.__getattribute__"))) && (He.eqO (PySem.W.findIn K (.ref C) "__getattr__") (some none) && (PySem.W.keepIn K (.ref C) &&
  (He.eqO (PySem.W.findIn K (.ref C) "__class__") (some (some (.builtin "object.__class__"))) && (He.eqO (PySem.W.findIn K (.ref C) "__init__") (some (some (.ref fI))) && (decide (PySem.W.typeIn K (.ref fI) = some (.type "function")) && fs.all fun f => He.eqO (PySem.W.findIn K (.ref C) f) (some none))))))))
/-- what is told of it -/
structure ExcK (K : PySem.W.Frag) (C Bc : Addr) (i : Nat) (fs : List Str) (fI : Addr) : Prop where
  ex : ExK K C
  no : ∀ f ∈ fs, PySem.W.findIn K (.ref C) f = some none
  ini : PySem.W.findIn K (.ref C) "__init__" = some (some (.ref fI))
  fn : PySem.W.typeIn K (.ref fI) = some (.type "function")
  lin : Lin K C (.ref Bc :: lnN i) (nwN i)
theorem ln_no (i : Nat) (C Bc : Addr) : ∀ u ∈ tys6, (Value.ref C :: Value.ref Bc :: lnN i).contains (.type u) = false := by
  have a1 : ∀ u ∈ tys6, ∀ l ∈ [valLine, keyLine, lookLine], l.contains (.type u) = false := by decide +kernel
  intro u hu
  have e1 : (Value.type u == Value.ref C) = false := rfl
  have e2 : (Value.type u == Value.ref Bc) = false := rfl
  rw [List.contains_cons, e1, Bool.false_or, List.contains_cons, e2, Bool.false_or]
  refine a1 u hu _ ?_
  unfold lnN
  split
  · simp
  · split <;> simp
theorem ExcK.kit {i : Nat} {fs : List Str} {fI : Addr} (h : ExcK K C Bc i fs fI) : ∀ u ∈ tys6, PySem.W.kitOne K (.ref C) (.type u) = some false := fun u hu => kit_sub hu (h.lin.own _ (ln_no i C Bc u hu))
theorem excB_ok {i : Nat} {fs : List Str} {fI : Addr} (g : glB K = true) (h : excB K C Bc i fs fI = true) : ExcK K C Bc i fs fI := by
  unfold excB at h
  unfold glB at g
  simp only [Bool.and_eq_true, decide_eq_true_eq, List.all_eq_true] at g h
  obtain ⟨h1, sa, ga, gg, kc, ha, hi, hf, hfs⟩ := h
  have L := classB_ok h1
  obtain ⟨cd, hc, hm, hd, hty⟩ := L.cls
  have lb : ∀ l ∈ [valLine, keyLine, lookLine], l.contains (.type "BaseException") = true ∧ l.contains (.type "object") = true := by decide +kernel
  have hl : lnN i ∈ [valLine, keyLine, lookLine] := by
    unfold lnN
    split
    · simp
    · split <;> simp
  have up : ∀ t, (lnN i).contains (.type t) = true → (Value.ref C :: Value.ref Bc :: lnN i).contains (.type t) = true := fun t e => by
    rw [List.contains_cons, List.contains_cons, e]
    simp
  refine ⟨⟨⟨_, _, ln_base i, L.two (ln_tail i)⟩, He.eqO_ok sa, He.eqO_ok ga, He.eqO_ok gg, L.own _ (up _ (lb _ hl).1), hty, ?_, kc, He.eqO_ok ha, He.eqO_ok g.1, g.2, L.own _ (up _ (lb _ hl).2)⟩, fun f hf => He.eqO_ok (hfs f hf), He.eqO_ok hi, hf, L⟩
  unfold PySem.W.hasDictIn
  rw [hc, Option.any_some]
  exact hd
end
/-! ### the run's hook -/
/-- the addresses that are looked at: the module's names, their classes' bodies, what stands in them, code, defaults, the table of modules -/
def refsR (o : Obj) : List Addr := match o.data with
  | .cls cd => [cd.ns]
  | .func fd => He.refV fd.code ++ (He.refV fd.defaults ++ He.refV fd.kwdefaults)
  | .seq its _ => its.toList.flatMap He.refV
  | _ => []
def dictR (o : Obj) : List Addr := match o.data with
  | .dict es _ => es.toList.flatMap fun e => He.refV e.val
  | _ => []
def viaR (g : Addr → Option Obj) (f : Obj → List Addr) (as : List Addr) : List Addr := as.flatMap fun a => match g a with
  | some o => f o
  | none => []
def asR (g : Addr → Option Obj) : List Addr :=
  let l1 := viaR g dictR [mainGlobals]
  let l2 := viaR g refsR l1
  let l3 := viaR g dictR l2
  let l4 := viaR g refsR l2
  let l5 := viaR g refsR l3
  sysModules :: mainGlobals :: (l1 ++ (l2 ++ (l3 ++ (l4 ++ (l5 ++ viaR g refsR l5)))))
abbrev AlR : Type := He.AlD × Bool
def obsR (fa : List He.Fa) (fn : List He.DefD) (ex : PySem.W.Frag → Bool) (g : Addr → Option Obj) : AlR := (He.obsD fa fn (He.frG g (asR g)), ex (He.frG g (asR g)))
def hookR (fa : List He.Fa) (fn : List He.DefD) (ex : PySem.W.Frag → Bool) : PySem.W.Hook where
  α := AlR
  obs := fun s => obsR fa fn ex s.heap.get?
  val := fun _ => (He.valD fn, true)
  says := fun _ h => ∃ K : PySem.W.Frag, K.In h ∧ He.SaysD fa fn K ∧ ex K = true
  of := fun _ s e => ⟨_, He.frG_in, congrArg (fun z : AlR => z.1) e, congrArg (fun z : AlR => z.2) e⟩
  keeps := fun _ _ _ ⟨K, hK, c⟩ k => ⟨K, PySem.W.Frag.In.keeps hK k, c⟩
theorem obsR_eq {fa : List He.Fa} {fn : List He.DefD} {ex : PySem.W.Frag → Bool} {g : Addr → Option Obj} {s : Shared} (h : ∀ a, g a = s.heap.get? a) : obsR fa fn ex g = (hookR fa fn ex).obs s := by
  have e : g = s.heap.get? := funext h
  rw [e] <;> rfl
end Tp
set_option Elab.async false
set_option linter.all false
set_option maxRecDepth 100000
set_option maxHeartbeats 4000000
namespace T04
open PySem PySem.Spec PyProof.Rows L2 Tp
abbrev sEN : Stmt := inClass (top 6) 0
abbrev sET : Stmt := inClass (top 9) 0
abbrev sEP : Stmt := inClass (top 5) 0
abbrev sEU : Stmt := inClass (top 11) 0
abbrev sER : Stmt := inClass (top 7) 0
section
variable {P : Program} {w : World} {K : PySem.W.Frag} {mg : Str → Option Value} {base : Heap} {f : Addr} {fd : FuncData}
theorem scEN : FnScope ["self", "value"] ["self", "value"] (defScope sEN) := ⟨rfl, rfl, rfl, by decide +kernel, rfl, by decide +kernel, by decide +kernel⟩
theorem ok_EN {C : Addr} (F : Fun K "__init__" "InvalidName.__init__" sEN f fd) (T : ExK K C) (n0 : PySem.W.findIn K (.ref C) "value" = some none) : FnOk P w K mg base CX0 1 f fd ["self", "value"] (spI C ["value"]) := by
  exact F.ok scEN (fun vs H Q E h => ini_len h) (fun cdv A outer s H vs Q E hr h => by
    obtain ⟨a, x, rfl, q⟩ := ini1 h
    exact ⟨_, PSs.nox (pss_one (ps_osx (pv 0) (pv 1))), _, rfl, _, rfl, q T n0⟩)
theorem scET : FnScope ["self", "value"] ["self", "value"] (defScope sET) := ⟨rfl, rfl, rfl, by decide +kernel, rfl, by decide +kernel, by decide +kernel⟩
theorem ok_ET {C : Addr} (F : Fun K "__init__" "InvalidTurn.__init__" sET f fd) (T : ExK K C) (n0 : PySem.W.findIn K (.ref C) "value" = some none) : FnOk P w K mg base CX0 1 f fd ["self", "value"] (spI C ["value"]) := by
  exact F.ok scET (fun vs H Q E h => ini_len h) (fun cdv A outer s H vs Q E hr h => by
    obtain ⟨a, x, rfl, q⟩ := ini1 h
    exact ⟨_, PSs.nox (pss_one (ps_osx (pv 0) (pv 1))), _, rfl, _, rfl, q T n0⟩)
theorem scEP : FnScope ["self", "value"] ["self", "value"] (defScope sEP) := ⟨rfl, rfl, rfl, by decide +kernel, rfl, by decide +kernel, by decide +kernel⟩
theorem ok_EP {C : Addr} (F : Fun K "__init__" "InvalidPart.__init__" sEP f fd) (T : ExK K C) (n0 : PySem.W.findIn K (.ref C) "value" = some none) : FnOk P w K mg base CX0 1 f fd ["self", "value"] (spI C ["value"]) := by
  exact F.ok scEP (fun vs H Q E h => ini_len h) (fun cdv A outer s H vs Q E hr h => by
    obtain ⟨a, x, rfl, q⟩ := ini1 h
    exact ⟨_, PSs.nox (pss_one (ps_osx (pv 0) (pv 1))), _, rfl, _, rfl, q T n0⟩)
theorem scEU : FnScope ["self", "number"] ["self", "number"] (defScope sEU) := ⟨rfl, rfl, rfl, by decide +kernel, rfl, by decide +kernel, by decide +kernel⟩
theorem ok_EU {C : Addr} (F : Fun K "__init__" "UnknownTerm.__init__" sEU f fd) (T : ExK K C) (n0 : PySem.W.findIn K (.ref C) "number" = some none) : FnOk P w K mg base CX0 1 f fd ["self", "number"] (spI C ["number"]) := by
  exact F.ok scEU (fun vs H Q E h => ini_len h) (fun cdv A outer s H vs Q E hr h => by
    obtain ⟨a, x, rfl, q⟩ := ini1 h
    exact ⟨_, PSs.nox (pss_one (ps_osx (pv 0) (pv 1))), _, rfl, _, rfl, q T n0⟩)
theorem scER : FnScope ["self", "value"] ["self", "value"] (defScope sER) := ⟨rfl, rfl, rfl, by decide +kernel, rfl, by decide +kernel, by decide +kernel⟩
theorem ok_ER {C : Addr} (F : Fun K "__init__" "InvalidRow.__init__" sER f fd) (T : ExK K C) (n0 : PySem.W.findIn K (.ref C) "value" = some none) : FnOk P w K mg base CX0 1 f fd ["self", "value"] (spI C ["value"]) := by
  exact F.ok scER (fun vs H Q E h => ini_len h) (fun cdv A outer s H vs Q E hr h => by
    obtain ⟨a, x, rfl, q⟩ := ini1 h
    exact ⟨_, PSs.nox (pss_one (ps_osx (pv 0) (pv 1))), _, rfl, _, rfl, q T n0⟩)
end
def giB (K : PySem.W.Frag) (C : Addr) : Bool := match PySem.W.findIn K (.ref C) "__getitem__" with
  | some (some (.ref f)) => PySem.W.fnIn K f
  | _ => false
def bkB (K : PySem.W.Frag) (C : Addr) : Bool := He.eqO (PySem.W.findIn K (.ref C) "__ne__") (some (some (.builtin "object.__ne__"))) && (decide (PySem.W.subIn K (.ref C) (.type "object") = some true) && (decide (PySem.W.kitOne K (.ref C) (.ref C) = some true) && (decide (PySem.W.subIn K (.type "list") (.ref C) = some false) && (decide (PySem.W.kitOne K (.type "list") (.ref C) = some false) && giB K C))))
theorem bkB_ok {K : PySem.W.Frag} {C : Addr} (h : bkB K C = true) (ik : InsK K C) : TxtC K C ∧ TxtC2 K C ∧ ∀ f, PySem.W.findIn K (.ref C) "__getitem__" = some (some (.ref f)) → PySem.W.fnIn K f = true := by
  unfold bkB at h
  simp only [Bool.and_eq_true, decide_eq_true_eq] at h
  obtain ⟨h1, h2, h3, h4, h5, h6⟩ := h
  refine ⟨⟨ik, h3⟩, ⟨He.eqO_ok h1, h2, h4, h5⟩, fun f hf => ?_⟩
  unfold giB at h6
  rw [hf] at h6
  exact h6
def xeB (K : PySem.W.Frag) (CN CT CP CU CR : Addr) : Bool := decide (PySem.W.exmOne K (.ref CN) (.ref CN) = some true) && (decide (PySem.W.exmOne K (.ref CT) (.ref CN) = some false) && (decide (PySem.W.exmOne K (.ref CT) (.ref CT) = some true) && (decide (PySem.W.exmOne K (.ref CP) (.ref CN) = some false) && (decide (PySem.W.exmOne K (.ref CP) (.ref CT) = some false) && (decide (PySem.W.exmOne K (.ref CP) (.ref CP) = some true) && (decide (PySem.W.exmOne K (.ref CU) (.ref CN) = some false) && (decide (PySem.W.exmOne K (.ref CU) (.ref CT) = some false) && (decide (PySem.W.exmOne K (.ref CU) (.ref CP) = some false) && (decide (PySem.W.exmOne K (.ref CU) (.ref CU) = some true) && (decide (PySem.W.exmOne K (.ref CN) (.ref CP) = some false) && (decide (PySem.W.exmOne K (.ref CR) (.ref CP) = some false) && (decide (PySem.W.exmOne K (.ref CR) (.ref CN) = some false) && (decide (PySem.W.exmOne K (.ref CR) (.ref CR) = some true))))))))))))))
theorem xeB_ok {K : PySem.W.Frag} {CN CT CP CU CR : Addr} (h : xeB K CN CT CP CU CR = true) (xN : ExK K CN) (xT : ExK K CT) (xP : ExK K CP) (xU : ExK K CU) (xR : ExK K CR) (fN : PySem.W.findIn K (.ref CN) "value" = some none) (fT : PySem.W.findIn K (.ref CT) "value" = some none) (fP : PySem.W.findIn K (.ref CP) "value" = some none) (fU : PySem.W.findIn K (.ref CU) "number" = some none) (fR : PySem.W.findIn K (.ref CR) "value" = some none) : TxtE K CN CT CP CU CR := by
  unfold xeB at h
  simp only [Bool.and_eq_true, decide_eq_true_eq] at h
  obtain ⟨h_nn, h_tn, h_tt, h_pn, h_pt, h_pp, h_un, h_ut, h_up, h_uu, h_np, h_rp, h_rn, h_rr⟩ := h
  exact ⟨xN, xT, xP, xU, xR, h_nn, h_tn, h_tt, h_pn, h_pt, h_pp, h_un, h_ut, h_up, h_uu, h_np, h_rp, h_rn, h_rr, fN, fT, fP, fU, fR⟩
def xuB (K : PySem.W.Frag) (CU CM CNE CS : Addr) : Bool := decide (PySem.W.exmOne K (.ref CU) (.ref CU) = some true) && (decide (PySem.W.kitOne K (.ref CU) (.ref CM) = some true) && decide (PySem.W.kitAny K (.ref CU) [.ref CNE, .ref CS] = some false))
theorem xuB_ok {K : PySem.W.Frag} {CU CM CNE CS : Addr} (h : xuB K CU CM CNE CS = true) (xU : ExK K CU) (fU : PySem.W.findIn K (.ref CU) "number" = some none) : TxtU K CU CM CNE CS := by
  unfold xuB at h
  simp only [Bool.and_eq_true, decide_eq_true_eq] at h
  exact ⟨xU, h.1, h.2.1, h.2.2, fU⟩
end T04
set_option Elab.async false
set_option linter.all false
set_option maxRecDepth 100000
set_option maxHeartbeats 8000000
namespace T04
open PySem PySem.Spec PyProof.Rows L2 Tp
theorem rel_int {mg : Str → Option Value} {x : Str} {i : Int} (h : ∃ t, mg x = some (.int i t)) : ∃ u, mg x = some u ∧ RelV (.int i) u := let ⟨t, e⟩ := h; ⟨_, e, t, rfl⟩
theorem rel_str {mg : Str → Option Value} {x z : Str} (h : ∃ t, mg x = some (.str z t)) : ∃ u, mg x = some u ∧ RelV (.str z) u := let ⟨t, e⟩ := h; ⟨_, e, t, rfl⟩
def fnL : List He.DefD := [dfn "_law_cell" sCell,
  dfn "_law_box" sBox,
  dfn "_law_take" sTake,
  dfn "_law_label" sLb,
  dfn "_law_odd" sOd,
  dfn "_law_call" sCa,
  dfn "_law_is_named" sNm,
  dfn "_law_is_whole" sIw,
  dfn "_law_due" sDu,
  dfn "_law_told" sTo,
  dfn "_law_made" sMd,
  dfn "_law_made_due" sMu,
  dfn "_law_holds" sHo,
  dfn "_law_forms_right" sFo,
  dfn "_law_numbers_refused" sNu,
  dfn "_law_grown" sGr,
  dfn "_law_again_right" sAg,
  dfn "_law_copy_right" sCy,
  dfn "law" sLw,
  dfn "is_whole" sVw,
  dfn "is_integer" sVi,
  dfn "is_list" sVl,
  dfn "is_name" sVn,
  dfn "_is_turn" sBit,
  dfn "arguments_of" sBao,
  dfn "_has_row_form" sBhf,
  dfn "_kept_row" sBkr,
  dfn "_row_text" sBrt,
  dmt "Book" "_has" "Book._has" sBha,
  dmt "Book" "_has_all" "Book._has_all" sBhl,
  dmt "Book" "_require" "Book._require" sBrq,
  dmt "Book" "_entered" "Book._entered" sBen,
  dmt "Book" "constant" "Book.constant" sBco,
  dmt "Book" "sample" "Book.sample" sBsa,
  dmt "Book" "apply" "Book.apply" sBap,
  dmt "Book" "rows" "Book.rows" sBro,
  dmt "Book" "__len__" "Book.__len__" sBle,
  dmt "Book" "__getitem__" "Book.__getitem__" sBgi,
  dmt "Book" "__eq__" "Book.__eq__" sBeq,
  dmt "Book" "__contains__" "Book.__contains__" sBct,
  dmt "Book" "_take" "Book._take" sBtk,
  dmt "Book" "copied" "Book.copied" sBcp,
  dmt "Book" "__init__" "Book.__init__" sBni [.adr (He.dflAt ("Book", some "__init__") 0)],
  dmt "InvalidName" "__init__" "InvalidName.__init__" sEN,
  dmt "InvalidTurn" "__init__" "InvalidTurn.__init__" sET,
  dmt "InvalidPart" "__init__" "InvalidPart.__init__" sEP,
  dmt "UnknownTerm" "__init__" "UnknownTerm.__init__" sEU,
  dmt "InvalidRow" "__init__" "InvalidRow.__init__" sER]
def fa0 : List He.Fa := [.free "isinstance", .free "int", .free "bool", .free "str", .free "list", .free "tuple", .free "len", .free "all", .free "enumerate", .str "LETTERS" "abcdefghijklmnopqrstuvwxyz", .str "DIGITS" "0123456789", .int "LONGEST_NAME" 8, .int "MOST_ARGUMENTS" 3, .free "range", .free "max", .free "min", .free "repr", .free "sum", .cls "Book", .noat "Book" "_rows", .noat "Book" "_numbers", .noat "Book" "_sizes", .noat "Book" "_depths", .noat "Book" "_lengths", .glo "InvalidName", .glo "InvalidTurn", .glo "InvalidPart", .glo "UnknownTerm", .glo "InvalidRow", .glo "is_whole"]
def fa1 : List He.Fa := [.glo "is_integer", .glo "is_list", .glo "is_name", .glo "_is_turn", .glo "arguments_of", .glo "_has_row_form", .glo "_kept_row", .glo "_row_text", .meth "Book" "_has", .meth "Book" "_has_all", .meth "Book" "_require", .meth "Book" "_entered", .meth "Book" "constant", .meth "Book" "sample", .meth "Book" "apply", .meth "Book" "rows", .meth "Book" "__len__", .meth "Book" "__getitem__", .glo "Book", .meth "Book" "__eq__", .meth "Book" "__contains__", .meth "Book" "_take", .mkr "Book", .meth "Book" "copied", .glo "_law_cell", .glo "_law_box", .glo "_law_take", .glo "_law_label", .glo "_law_odd", .glo "_law_call"]
def fa2 : List He.Fa := [.glo "_law_is_named", .glo "_law_is_whole", .glo "_law_due", .glo "_law_told", .glo "_law_made", .glo "_law_made_due", .glo "_law_forms_right", .glo "MissingError", .glo "NetError", .glo "StateError", .glo "_law_numbers_refused", .glo "_law_holds", .glo "_law_grown", .glo "_law_copy_right", .glo "_law_again_right", .glo "law"]
def faL : List He.Fa := fa0 ++ (fa1 ++ (fa2))
def exB (K : PySem.W.Frag) : Bool := (glB K) && ((smB K) && ((emB K (He.dflAt ("Book", some "__init__") 0 K)) && ((insB K (He.ga K "Book")) && ((bkB K (He.ga K "Book")) && ((excB K (He.ga K "InvalidName") (He.ga K "NetError") 0 ["value"] (He.fAd K ("InvalidName", some "__init__"))) && ((excB K (He.ga K "InvalidTurn") (He.ga K "NetError") 0 ["value"] (He.fAd K ("InvalidTurn", some "__init__"))) && ((excB K (He.ga K "InvalidPart") (He.ga K "NetError") 0 ["value"] (He.fAd K ("InvalidPart", some "__init__"))) && ((excB K (He.ga K "UnknownTerm") (He.ga K "MissingError") 1 ["number"] (He.fAd K ("UnknownTerm", some "__init__"))) && ((excB K (He.ga K "InvalidRow") (He.ga K "NetError") 0 ["value"] (He.fAd K ("InvalidRow", some "__init__"))) && ((xeB K (He.ga K "InvalidName") (He.ga K "InvalidTurn") (He.ga K "InvalidPart") (He.ga K "UnknownTerm") (He.ga K "InvalidRow")) && ((xuB K (He.ga K "UnknownTerm") (He.ga K "MissingError") (He.ga K "NetError") (He.ga K "StateError")))))))))))))
theorem all2 {l : PySem.W.OpenLaw} {w : World} {K : PySem.W.Frag} {h : Heap} {mg : Str → Option Value} {fa : Addr} (X : K.In h) (G : h.Ns mainGlobals mg) (hfa : mg "law" = some (.ref fa)) (cd : He.SaysD faL fnL K) (ex : exB K = true) :
    ∃ fd : FuncData, (∀ (s : Shared) (v : Value), BindsTo s fd ⟨[v], []⟩ [("_law_script", v)]) ∧ ∀ base : Heap, K.In base → base.Ns mainGlobals mg → FnG l.prog w K mg base CX0 12 fa fd ["_law_script"] (spLaw K) := by
  obtain ⟨fd_cell, D_cell⟩ := cd.def_ 0 (d := dfn "_law_cell" sCell) rfl
  have F_cell : Fun K "_law_cell" "_law_cell" sCell (He.ga K "_law_cell") fd_cell := fun_of D_cell
  have b_cell := F_cell.binds (ps := ["_law_script", "_law_k"]) fun _ _ _ _ _ _ us hl => match us, hl with | [_, _], _ => rfl
  obtain ⟨fd_box, D_box⟩ := cd.def_ 1 (d := dfn "_law_box" sBox) rfl
  have F_box : Fun K "_law_box" "_law_box" sBox (He.ga K "_law_box") fd_box := fun_of D_box
  have b_box := F_box.binds (ps := ["_law_cell_here"]) fun _ _ _ _ _ _ us hl => match us, hl with | [_], _ => rfl
  obtain ⟨fd_take, D_take⟩ := cd.def_ 2 (d := dfn "_law_take" sTake) rfl
  have F_take : Fun K "_law_take" "_law_take" sTake (He.ga K "_law_take") fd_take := fun_of D_take
  have b_take := F_take.binds (ps := ["_law_box_here", "_law_many"]) fun _ _ _ _ _ _ us hl => match us, hl with | [_, _], _ => rfl
  obtain ⟨fd_label, D_label⟩ := cd.def_ 3 (d := dfn "_law_label" sLb) rfl
  have F_label : Fun K "_law_label" "_law_label" sLb (He.ga K "_law_label") fd_label := fun_of D_label
  have b_label := F_label.binds (ps := ["_law_box_here"]) fun _ _ _ _ _ _ us hl => match us, hl with | [_], _ => rfl
  obtain ⟨fd_odd, D_odd⟩ := cd.def_ 4 (d := dfn "_law_odd" sOd) rfl
  have F_odd : Fun K "_law_odd" "_law_odd" sOd (He.ga K "_law_odd") fd_odd := fun_of D_odd
  have b_odd := F_odd.binds (ps := ["_law_box_here", "_law_good"]) fun _ _ _ _ _ _ us hl => match us, hl with | [_, _], _ => rfl
  obtain ⟨fd_call, D_call⟩ := cd.def_ 5 (d := dfn "_law_call" sCa) rfl
  have F_call : Fun K "_law_call" "_law_call" sCa (He.ga K "_law_call") fd_call := fun_of D_call
  have b_call := F_call.binds (ps := ["_law_box_here", "_law_rows"]) fun _ _ _ _ _ _ us hl => match us, hl with | [_, _], _ => rfl
  obtain ⟨fd_named, D_named⟩ := cd.def_ 6 (d := dfn "_law_is_named" sNm) rfl
  have F_named : Fun K "_law_is_named" "_law_is_named" sNm (He.ga K "_law_is_named") fd_named := fun_of D_named
  have b_named := F_named.binds (ps := ["_law_word"]) fun _ _ _ _ _ _ us hl => match us, hl with | [_], _ => rfl
  obtain ⟨fd_lwhole, D_lwhole⟩ := cd.def_ 7 (d := dfn "_law_is_whole" sIw) rfl
  have F_lwhole : Fun K "_law_is_whole" "_law_is_whole" sIw (He.ga K "_law_is_whole") fd_lwhole := fun_of D_lwhole
  have b_lwhole := F_lwhole.binds (ps := ["_law_thing"]) fun _ _ _ _ _ _ us hl => match us, hl with | [_], _ => rfl
  obtain ⟨fd_due, D_due⟩ := cd.def_ 8 (d := dfn "_law_due" sDu) rfl
  have F_due : Fun K "_law_due" "_law_due" sDu (He.ga K "_law_due") fd_due := fun_of D_due
  have b_due := F_due.binds (ps := ["_law_rows", "_law_call_here"]) fun _ _ _ _ _ _ us hl => match us, hl with | [_, _], _ => rfl
  obtain ⟨fd_told, D_told⟩ := cd.def_ 9 (d := dfn "_law_told" sTo) rfl
  have F_told : Fun K "_law_told" "_law_told" sTo (He.ga K "_law_told") fd_told := fun_of D_told
  have b_told := F_told.binds (ps := ["_law_book", "_law_call_here"]) fun _ _ _ _ _ _ us hl => match us, hl with | [_, _], _ => rfl
  obtain ⟨fd_made, D_made⟩ := cd.def_ 10 (d := dfn "_law_made" sMd) rfl
  have F_made : Fun K "_law_made" "_law_made" sMd (He.ga K "_law_made") fd_made := fun_of D_made
  have b_made := F_made.binds (ps := ["_law_rows"]) fun _ _ _ _ _ _ us hl => match us, hl with | [_], _ => rfl
  obtain ⟨fd_madedue, D_madedue⟩ := cd.def_ 11 (d := dfn "_law_made_due" sMu) rfl
  have F_madedue : Fun K "_law_made_due" "_law_made_due" sMu (He.ga K "_law_made_due") fd_madedue := fun_of D_madedue
  have b_madedue := F_madedue.binds (ps := ["_law_rows"]) fun _ _ _ _ _ _ us hl => match us, hl with | [_], _ => rfl
  obtain ⟨fd_holds, D_holds⟩ := cd.def_ 12 (d := dfn "_law_holds" sHo) rfl
  have F_holds : Fun K "_law_holds" "_law_holds" sHo (He.ga K "_law_holds") fd_holds := fun_of D_holds
  have b_holds := F_holds.binds (ps := ["_law_book", "_law_rows"]) fun _ _ _ _ _ _ us hl => match us, hl with | [_, _], _ => rfl
  obtain ⟨fd_forms, D_forms⟩ := cd.def_ 13 (d := dfn "_law_forms_right" sFo) rfl
  have F_forms : Fun K "_law_forms_right" "_law_forms_right" sFo (He.ga K "_law_forms_right") fd_forms := fun_of D_forms
  have b_forms := F_forms.binds (ps := ["_law_book", "_law_name", "_law_rest"]) fun _ _ _ _ _ _ us hl => match us, hl with | [_, _, _], _ => rfl
  obtain ⟨fd_nums, D_nums⟩ := cd.def_ 14 (d := dfn "_law_numbers_refused" sNu) rfl
  have F_nums : Fun K "_law_numbers_refused" "_law_numbers_refused" sNu (He.ga K "_law_numbers_refused") fd_nums := fun_of D_nums
  have b_nums := F_nums.binds (ps := ["_law_book", "_law_many"]) fun _ _ _ _ _ _ us hl => match us, hl with | [_, _], _ => rfl
  obtain ⟨fd_grown, D_grown⟩ := cd.def_ 15 (d := dfn "_law_grown" sGr) rfl
  have F_grown : Fun K "_law_grown" "_law_grown" sGr (He.ga K "_law_grown") fd_grown := fun_of D_grown
  have b_grown := F_grown.binds (ps := ["_law_box_here", "_law_book", "_law_rows"]) fun _ _ _ _ _ _ us hl => match us, hl with | [_, _, _], _ => rfl
  obtain ⟨fd_again, D_again⟩ := cd.def_ 16 (d := dfn "_law_again_right" sAg) rfl
  have F_again : Fun K "_law_again_right" "_law_again_right" sAg (He.ga K "_law_again_right") fd_again := fun_of D_again
  have b_again := F_again.binds (ps := ["_law_box_here", "_law_book", "_law_rows"]) fun _ _ _ _ _ _ us hl => match us, hl with | [_, _, _], _ => rfl
  obtain ⟨fd_copyr, D_copyr⟩ := cd.def_ 17 (d := dfn "_law_copy_right" sCy) rfl
  have F_copyr : Fun K "_law_copy_right" "_law_copy_right" sCy (He.ga K "_law_copy_right") fd_copyr := fun_of D_copyr
  have b_copyr := F_copyr.binds (ps := ["_law_book", "_law_copy", "_law_rows"]) fun _ _ _ _ _ _ us hl => match us, hl with | [_, _, _], _ => rfl
  obtain ⟨fd_law, D_law⟩ := cd.def_ 18 (d := dfn "law" sLw) rfl
  have F_law : Fun K "law" "law" sLw (He.ga K "law") fd_law := fun_of D_law
  have b_law := F_law.binds (ps := ["_law_script"]) fun _ _ _ _ _ _ us hl => match us, hl with | [_], _ => rfl
  obtain ⟨fd_whole, D_whole⟩ := cd.def_ 19 (d := dfn "is_whole" sVw) rfl
  have F_whole : Fun K "is_whole" "is_whole" sVw (He.ga K "is_whole") fd_whole := fun_of D_whole
  have b_whole := F_whole.binds (ps := ["value"]) fun _ _ _ _ _ _ us hl => match us, hl with | [_], _ => rfl
  obtain ⟨fd_integer, D_integer⟩ := cd.def_ 20 (d := dfn "is_integer" sVi) rfl
  have F_integer : Fun K "is_integer" "is_integer" sVi (He.ga K "is_integer") fd_integer := fun_of D_integer
  have b_integer := F_integer.binds (ps := ["value", "low", "high"]) fun _ _ _ _ _ _ us hl => match us, hl with | [_, _, _], _ => rfl
  obtain ⟨fd_list, D_list⟩ := cd.def_ 21 (d := dfn "is_list" sVl) rfl
  have F_list : Fun K "is_list" "is_list" sVl (He.ga K "is_list") fd_list := fun_of D_list
  have b_list := F_list.binds (ps := ["value"]) fun _ _ _ _ _ _ us hl => match us, hl with | [_], _ => rfl
  obtain ⟨fd_name, D_name⟩ := cd.def_ 22 (d := dfn "is_name" sVn) rfl
  have F_name : Fun K "is_name" "is_name" sVn (He.ga K "is_name") fd_name := fun_of D_name
  have b_name := F_name.binds (ps := ["value"]) fun _ _ _ _ _ _ us hl => match us, hl with | [_], _ => rfl
  obtain ⟨fd_turn, D_turn⟩ := cd.def_ 23 (d := dfn "_is_turn" sBit) rfl
  have F_turn : Fun K "_is_turn" "_is_turn" sBit (He.ga K "_is_turn") fd_turn := fun_of D_turn
  have b_turn := F_turn.binds (ps := ["value"]) fun _ _ _ _ _ _ us hl => match us, hl with | [_], _ => rfl
  obtain ⟨fd_args, D_args⟩ := cd.def_ 24 (d := dfn "arguments_of" sBao) rfl
  have F_args : Fun K "arguments_of" "arguments_of" sBao (He.ga K "arguments_of") fd_args := fun_of D_args
  have b_args := F_args.binds (ps := ["row"]) fun _ _ _ _ _ _ us hl => match us, hl with | [_], _ => rfl
  obtain ⟨fd_form, D_form⟩ := cd.def_ 25 (d := dfn "_has_row_form" sBhf) rfl
  have F_form : Fun K "_has_row_form" "_has_row_form" sBhf (He.ga K "_has_row_form") fd_form := fun_of D_form
  have b_form := F_form.binds (ps := ["value"]) fun _ _ _ _ _ _ us hl => match us, hl with | [_], _ => rfl
  obtain ⟨fd_kept, D_kept⟩ := cd.def_ 26 (d := dfn "_kept_row" sBkr) rfl
  have F_kept : Fun K "_kept_row" "_kept_row" sBkr (He.ga K "_kept_row") fd_kept := fun_of D_kept
  have b_kept := F_kept.binds (ps := ["row"]) fun _ _ _ _ _ _ us hl => match us, hl with | [_], _ => rfl
  obtain ⟨fd_rtext, D_rtext⟩ := cd.def_ 27 (d := dfn "_row_text" sBrt) rfl
  have F_rtext : Fun K "_row_text" "_row_text" sBrt (He.ga K "_row_text") fd_rtext := fun_of D_rtext
  have b_rtext := F_rtext.binds (ps := ["row", "texts"]) fun _ _ _ _ _ _ us hl => match us, hl with | [_, _], _ => rfl
  obtain ⟨fd_has, D_has⟩ := cd.def_ 28 (d := dmt "Book" "_has" "Book._has" sBha) rfl
  have F_has : Fun K "_has" "Book._has" sBha (He.fAd K ("Book", some "_has")) fd_has := fun_of D_has
  have b_has := F_has.binds (ps := ["self", "number"]) fun _ _ _ _ _ _ us hl => match us, hl with | [_, _], _ => rfl
  obtain ⟨fd_hasall, D_hasall⟩ := cd.def_ 29 (d := dmt "Book" "_has_all" "Book._has_all" sBhl) rfl
  have F_hasall : Fun K "_has_all" "Book._has_all" sBhl (He.fAd K ("Book", some "_has_all")) fd_hasall := fun_of D_hasall
  have b_hasall := F_hasall.binds (ps := ["self", "numbers"]) fun _ _ _ _ _ _ us hl => match us, hl with | [_, _], _ => rfl
  obtain ⟨fd_req, D_req⟩ := cd.def_ 30 (d := dmt "Book" "_require" "Book._require" sBrq) rfl
  have F_req : Fun K "_require" "Book._require" sBrq (He.fAd K ("Book", some "_require")) fd_req := fun_of D_req
  have b_req := F_req.binds (ps := ["self", "number"]) fun _ _ _ _ _ _ us hl => match us, hl with | [_, _], _ => rfl
  obtain ⟨fd_ent, D_ent⟩ := cd.def_ 31 (d := dmt "Book" "_entered" "Book._entered" sBen) rfl
  have F_ent : Fun K "_entered" "Book._entered" sBen (He.fAd K ("Book", some "_entered")) fd_ent := fun_of D_ent
  have b_ent := F_ent.binds (ps := ["self", "row"]) fun _ _ _ _ _ _ us hl => match us, hl with | [_, _], _ => rfl
  obtain ⟨fd_con, D_con⟩ := cd.def_ 32 (d := dmt "Book" "constant" "Book.constant" sBco) rfl
  have F_con : Fun K "constant" "Book.constant" sBco (He.fAd K ("Book", some "constant")) fd_con := fun_of D_con
  have b_con := F_con.binds (ps := ["self", "symbol"]) fun _ _ _ _ _ _ us hl => match us, hl with | [_, _], _ => rfl
  obtain ⟨fd_sam, D_sam⟩ := cd.def_ 33 (d := dmt "Book" "sample" "Book.sample" sBsa) rfl
  have F_sam : Fun K "sample" "Book.sample" sBsa (He.fAd K ("Book", some "sample")) fd_sam := fun_of D_sam
  have b_sam := F_sam.binds (ps := ["self", "name", "turn"]) fun _ _ _ _ _ _ us hl => match us, hl with | [_, _, _], _ => rfl
  obtain ⟨fd_app, D_app⟩ := cd.def_ 34 (d := dmt "Book" "apply" "Book.apply" sBap) rfl
  have F_app : Fun K "apply" "Book.apply" sBap (He.fAd K ("Book", some "apply")) fd_app := fun_of D_app
  have b_app := F_app.binds (ps := ["self", "symbol", "numbers"]) fun _ _ _ _ _ _ us hl => match us, hl with | [_, _, _], _ => rfl
  obtain ⟨fd_rows, D_rows⟩ := cd.def_ 35 (d := dmt "Book" "rows" "Book.rows" sBro) rfl
  have F_rows : Fun K "rows" "Book.rows" sBro (He.fAd K ("Book", some "rows")) fd_rows := fun_of D_rows
  have b_rows := F_rows.binds (ps := ["self"]) fun _ _ _ _ _ _ us hl => match us, hl with | [_], _ => rfl
  obtain ⟨fd_len, D_len⟩ := cd.def_ 36 (d := dmt "Book" "__len__" "Book.__len__" sBle) rfl
  have F_len : Fun K "__len__" "Book.__len__" sBle (He.fAd K ("Book", some "__len__")) fd_len := fun_of D_len
  have b_len := F_len.binds (ps := ["self"]) fun _ _ _ _ _ _ us hl => match us, hl with | [_], _ => rfl
  obtain ⟨fd_gi, D_gi⟩ := cd.def_ 37 (d := dmt "Book" "__getitem__" "Book.__getitem__" sBgi) rfl
  have F_gi : Fun K "__getitem__" "Book.__getitem__" sBgi (He.fAd K ("Book", some "__getitem__")) fd_gi := fun_of D_gi
  have b_gi := F_gi.binds (ps := ["self", "number"]) fun _ _ _ _ _ _ us hl => match us, hl with | [_, _], _ => rfl
  obtain ⟨fd_eq, D_eq⟩ := cd.def_ 38 (d := dmt "Book" "__eq__" "Book.__eq__" sBeq) rfl
  have F_eq : Fun K "__eq__" "Book.__eq__" sBeq (He.fAd K ("Book", some "__eq__")) fd_eq := fun_of D_eq
  have b_eq := F_eq.binds (ps := ["self", "other"]) fun _ _ _ _ _ _ us hl => match us, hl with | [_, _], _ => rfl
  obtain ⟨fd_cont, D_cont⟩ := cd.def_ 39 (d := dmt "Book" "__contains__" "Book.__contains__" sBct) rfl
  have F_cont : Fun K "__contains__" "Book.__contains__" sBct (He.fAd K ("Book", some "__contains__")) fd_cont := fun_of D_cont
  have b_cont := F_cont.binds (ps := ["self", "value"]) fun _ _ _ _ _ _ us hl => match us, hl with | [_, _], _ => rfl
  obtain ⟨fd_btake, D_btake⟩ := cd.def_ 40 (d := dmt "Book" "_take" "Book._take" sBtk) rfl
  have F_btake : Fun K "_take" "Book._take" sBtk (He.fAd K ("Book", some "_take")) fd_btake := fun_of D_btake
  have b_btake := F_btake.binds (ps := ["self", "item"]) fun _ _ _ _ _ _ us hl => match us, hl with | [_, _], _ => rfl
  obtain ⟨fd_copied, D_copied⟩ := cd.def_ 41 (d := dmt "Book" "copied" "Book.copied" sBcp) rfl
  have F_copied : Fun K "copied" "Book.copied" sBcp (He.fAd K ("Book", some "copied")) fd_copied := fun_of D_copied
  have b_copied := F_copied.binds (ps := ["self"]) fun _ _ _ _ _ _ us hl => match us, hl with | [_], _ => rfl
  obtain ⟨fd_ni, D_ni⟩ := cd.def_ 42 (d := dmt "Book" "__init__" "Book.__init__" sBni [.adr (He.dflAt ("Book", some "__init__") 0)]) rfl
  have F_ni : FunD K "__init__" "Book.__init__" (defArgs sBni) (defBody sBni) (defScope sBni) [.ref (He.dflAt ("Book", some "__init__") 0 K)] [] (He.fAd K ("Book", some "__init__")) fd_ni := D_ni
  obtain ⟨ds_ni, v_ni, b_ni⟩ := F_ni.binds1 (ps := ["self", "rows"]) 1 0 (List.cons_ne_nil _ _) rfl fun T kV doc pm an cdv ct us its h1 h2 => match us, its, h1, h2 with | [_], [_], _, _ => ⟨_, rfl, rfl⟩
  obtain ⟨ds_n2, v_n2, b_n2⟩ := F_ni.binds1 (ps := ["self", "rows"]) 2 1 (List.cons_ne_nil _ _) rfl fun T kV doc pm an cdv ct us its h1 h2 => match us, its, h1, h2 with | [_, _], [_], _, _ => ⟨_, rfl, rfl⟩
  obtain ⟨fd_eN, D_eN⟩ := cd.def_ 43 (d := dmt "InvalidName" "__init__" "InvalidName.__init__" sEN) rfl
  have F_eN : Fun K "__init__" "InvalidName.__init__" sEN (He.fAd K ("InvalidName", some "__init__")) fd_eN := fun_of D_eN
  have b_eN := F_eN.binds (ps := ["self", "value"]) fun _ _ _ _ _ _ us hl => match us, hl with | [_, _], _ => rfl
  obtain ⟨fd_eT, D_eT⟩ := cd.def_ 44 (d := dmt "InvalidTurn" "__init__" "InvalidTurn.__init__" sET) rfl
  have F_eT : Fun K "__init__" "InvalidTurn.__init__" sET (He.fAd K ("InvalidTurn", some "__init__")) fd_eT := fun_of D_eT
  have b_eT := F_eT.binds (ps := ["self", "value"]) fun _ _ _ _ _ _ us hl => match us, hl with | [_, _], _ => rfl
  obtain ⟨fd_eP, D_eP⟩ := cd.def_ 45 (d := dmt "InvalidPart" "__init__" "InvalidPart.__init__" sEP) rfl
  have F_eP : Fun K "__init__" "InvalidPart.__init__" sEP (He.fAd K ("InvalidPart", some "__init__")) fd_eP := fun_of D_eP
  have b_eP := F_eP.binds (ps := ["self", "value"]) fun _ _ _ _ _ _ us hl => match us, hl with | [_, _], _ => rfl
  obtain ⟨fd_eU, D_eU⟩ := cd.def_ 46 (d := dmt "UnknownTerm" "__init__" "UnknownTerm.__init__" sEU) rfl
  have F_eU : Fun K "__init__" "UnknownTerm.__init__" sEU (He.fAd K ("UnknownTerm", some "__init__")) fd_eU := fun_of D_eU
  have b_eU := F_eU.binds (ps := ["self", "number"]) fun _ _ _ _ _ _ us hl => match us, hl with | [_, _], _ => rfl
  obtain ⟨fd_eR, D_eR⟩ := cd.def_ 47 (d := dmt "InvalidRow" "__init__" "InvalidRow.__init__" sER) rfl
  have F_eR : Fun K "__init__" "InvalidRow.__init__" sER (He.fAd K ("InvalidRow", some "__init__")) fd_eR := fun_of D_eR
  have b_eR := F_eR.binds (ps := ["self", "value"]) fun _ _ _ _ _ _ us hl => match us, hl with | [_, _], _ => rfl
  have e := hfa.symm.trans (He.glo_ok X G (cd.fact 75 (f := .glo "law") rfl))
  cases e
  unfold exB at ex
  simp only [Bool.and_eq_true] at ex
  obtain ⟨x_gl, x_sm, x_em, x_ins, x_bk, x_eN, x_eT, x_eP, x_eU, x_eR, x_xe, x_xu⟩ := ex
  refine ⟨fd_law, fun s v => ?_, fun base _ _ => ?_⟩
  · obtain ⟨oc, od, kV, doc, pm, an, cdv, ct, osl, rfl, lk, hcd⟩ := F_law.ex
    exact .of_eq rfl
  · have S : Sm K := smB_ok x_sm
    have emT := emB_ok x_em
    have TV : TxtV mg := ⟨He.free_ok X G (cd.fact 0 (f := .free "isinstance") rfl), He.free_ok X G (cd.fact 1 (f := .free "int") rfl), He.free_ok X G (cd.fact 2 (f := .free "bool") rfl), He.free_ok X G (cd.fact 3 (f := .free "str") rfl), He.free_ok X G (cd.fact 4 (f := .free "list") rfl), He.free_ok X G (cd.fact 5 (f := .free "tuple") rfl), He.free_ok X G (cd.fact 6 (f := .free "len") rfl), He.free_ok X G (cd.fact 7 (f := .free "all") rfl), He.free_ok X G (cd.fact 8 (f := .free "enumerate") rfl), rel_str (He.str_ok X G (cd.fact 9 (f := .str "LETTERS" "abcdefghijklmnopqrstuvwxyz") rfl)), rel_str (He.str_ok X G (cd.fact 10 (f := .str "DIGITS" "0123456789") rfl)), rel_int (He.int_ok X G (cd.fact 11 (f := .int "LONGEST_NAME" 8) rfl)), rel_int (He.int_ok X G (cd.fact 12 (f := .int "MOST_ARGUMENTS" 3) rfl))⟩
    have TL : TxtL mg := ⟨He.free_ok X G (cd.fact 13 (f := .free "range") rfl), He.free_ok X G (cd.fact 6 (f := .free "len") rfl), He.free_ok X G (cd.fact 14 (f := .free "max") rfl), He.free_ok X G (cd.fact 15 (f := .free "min") rfl), He.free_ok X G (cd.fact 0 (f := .free "isinstance") rfl), He.free_ok X G (cd.fact 3 (f := .free "str") rfl), He.free_ok X G (cd.fact 1 (f := .free "int") rfl), He.free_ok X G (cd.fact 2 (f := .free "bool") rfl), He.free_ok X G (cd.fact 4 (f := .free "list") rfl), He.free_ok X G (cd.fact 5 (f := .free "tuple") rfl), He.free_ok X G (cd.fact 16 (f := .free "repr") rfl), He.free_ok X G (cd.fact 8 (f := .free "enumerate") rfl)⟩
    have TM : TxtM mg := ⟨He.free_ok X G (cd.fact 17 (f := .free "sum") rfl), He.free_ok X G (cd.fact 14 (f := .free "max") rfl)⟩
    have TB : TxtBk K (He.ga K "Book") := ⟨He.cls_ok (cd.fact 18 (f := .cls "Book") rfl), fun f hf => by
      simp only [List.mem_cons, List.not_mem_nil, or_false] at hf
      rcases hf with rfl | rfl | rfl | rfl | rfl
      · exact He.noat_ok (cd.fact 19 (f := .noat "Book" "_rows") rfl)
      · exact He.noat_ok (cd.fact 20 (f := .noat "Book" "_numbers") rfl)
      · exact He.noat_ok (cd.fact 21 (f := .noat "Book" "_sizes") rfl)
      · exact He.noat_ok (cd.fact 22 (f := .noat "Book" "_depths") rfl)
      · exact He.noat_ok (cd.fact 23 (f := .noat "Book" "_lengths") rfl)⟩
    obtain ⟨TC, TC2, gi⟩ := bkB_ok x_bk (insB_ok x_gl TB.cl x_ins)
    have eN := excB_ok x_gl x_eN
    have eT := excB_ok x_gl x_eT
    have eP := excB_ok x_gl x_eP
    have eU := excB_ok x_gl x_eU
    have eR := excB_ok x_gl x_eR
    have TE : TxtE K (He.ga K "InvalidName") (He.ga K "InvalidTurn") (He.ga K "InvalidPart") (He.ga K "UnknownTerm") (He.ga K "InvalidRow") := xeB_ok x_xe eN.ex eT.ex eP.ex eU.ex eR.ex (eN.no _ (by simp)) (eT.no _ (by simp)) (eP.no _ (by simp)) (eU.no _ (by simp)) (eR.no _ (by simp))
    have TU : TxtU K (He.ga K "UnknownTerm") (He.ga K "MissingError") (He.ga K "NetError") (He.ga K "StateError") := xuB_ok x_xu eU.ex (eU.no _ (by simp))
    have XN : Cx1 l.prog w K mg base "InvalidName" (He.ga K "InvalidName") 1 [] (spI (He.ga K "InvalidName") ["value"]) (fun vs _ => vs) := ⟨⟨_, _, _, _, eN.ex, He.glo_ok X G (cd.fact 24 (f := .glo "InvalidName") rfl), eN.ini, eN.fn, ok_EN F_eN eN.ex (eN.no _ (by simp)), kb_of F_eN (fun _ _ _ _ _ _ us ws l1 l2 => match us, ws, l1, l2 with | [_, _], [], _, _ => rfl) (g := fun us _ => us) fun r1 r2 => r1⟩⟩
    have XT : Cx1 l.prog w K mg base "InvalidTurn" (He.ga K "InvalidTurn") 1 [] (spI (He.ga K "InvalidTurn") ["value"]) (fun vs _ => vs) := ⟨⟨_, _, _, _, eT.ex, He.glo_ok X G (cd.fact 25 (f := .glo "InvalidTurn") rfl), eT.ini, eT.fn, ok_ET F_eT eT.ex (eT.no _ (by simp)), kb_of F_eT (fun _ _ _ _ _ _ us ws l1 l2 => match us, ws, l1, l2 with | [_, _], [], _, _ => rfl) (g := fun us _ => us) fun r1 r2 => r1⟩⟩
    have XP : Cx1 l.prog w K mg base "InvalidPart" (He.ga K "InvalidPart") 1 [] (spI (He.ga K "InvalidPart") ["value"]) (fun vs _ => vs) := ⟨⟨_, _, _, _, eP.ex, He.glo_ok X G (cd.fact 26 (f := .glo "InvalidPart") rfl), eP.ini, eP.fn, ok_EP F_eP eP.ex (eP.no _ (by simp)), kb_of F_eP (fun _ _ _ _ _ _ us ws l1 l2 => match us, ws, l1, l2 with | [_, _], [], _, _ => rfl) (g := fun us _ => us) fun r1 r2 => r1⟩⟩
    have XU : Cx1 l.prog w K mg base "UnknownTerm" (He.ga K "UnknownTerm") 1 [] (spI (He.ga K "UnknownTerm") ["number"]) (fun vs _ => vs) := ⟨⟨_, _, _, _, eU.ex, He.glo_ok X G (cd.fact 27 (f := .glo "UnknownTerm") rfl), eU.ini, eU.fn, ok_EU F_eU eU.ex (eU.no _ (by simp)), kb_of F_eU (fun _ _ _ _ _ _ us ws l1 l2 => match us, ws, l1, l2 with | [_, _], [], _, _ => rfl) (g := fun us _ => us) fun r1 r2 => r1⟩⟩
    have XR : Cx1 l.prog w K mg base "InvalidRow" (He.ga K "InvalidRow") 1 [] (spI (He.ga K "InvalidRow") ["value"]) (fun vs _ => vs) := ⟨⟨_, _, _, _, eR.ex, He.glo_ok X G (cd.fact 28 (f := .glo "InvalidRow") rfl), eR.ini, eR.fn, ok_ER F_eR eR.ex (eR.no _ (by simp)), kb_of F_eR (fun _ _ _ _ _ _ us ws l1 l2 => match us, ws, l1, l2 with | [_, _], [], _, _ => rfl) (g := fun us _ => us) fun r1 r2 => r1⟩⟩
    have cW : Cg l.prog w K mg base 1 "is_whole" (spWhole K) := .mk' F_whole (ok_whole F_whole TV) (He.glo_ok X G (cd.fact 29 (f := .glo "is_whole") rfl)) b_whole
    have cI : Cg l.prog w K mg base 2 "is_integer" (spInteger K) := .mk' F_integer (ok_integer F_integer cW) (He.glo_ok X G (cd.fact 30 (f := .glo "is_integer") rfl)) b_integer
    have cL : Cg l.prog w K mg base 1 "is_list" (spList K) := .mk' F_list (ok_list F_list TV) (He.glo_ok X G (cd.fact 31 (f := .glo "is_list") rfl)) b_list
    have cN : Cg l.prog w K mg base 1 "is_name" (spName K) := .mk' F_name (ok_name F_name TV) (He.glo_ok X G (cd.fact 32 (f := .glo "is_name") rfl)) b_name
    have cU : Cg l.prog w K mg base 2 "_is_turn" (spTurn K) := .mk' F_turn (ok_turn F_turn cW) (He.glo_ok X G (cd.fact 33 (f := .glo "_is_turn") rfl)) b_turn
    have cA : Cg l.prog w K mg base 2 "arguments_of" (spArgs K) := .mk' F_args (ok_args F_args cL) (He.glo_ok X G (cd.fact 34 (f := .glo "arguments_of") rfl)) b_args
    have cF : Cg l.prog w K mg base 3 "_has_row_form" (spForm K) := .mk' F_form (ok_form F_form TV cL cU) (He.glo_ok X G (cd.fact 35 (f := .glo "_has_row_form") rfl)) b_form
    have cK : Cg l.prog w K mg base 2 "_kept_row" (spKept K) := .mk' F_kept (ok_kept F_kept TV cL) (He.glo_ok X G (cd.fact 36 (f := .glo "_kept_row") rfl)) b_kept
    have cT : Cg l.prog w K mg base 2 "_row_text" (spRowText K) := .mk' F_rtext (ok_rtext F_rtext cL) (He.glo_ok X G (cd.fact 37 (f := .glo "_row_text") rfl)) b_rtext
    have mH : Ct l.prog w K mg base 3 (He.ga K "Book") "_has" [] (spHas l.prog w K (He.ga K "Book")) := ⟨⟨_, _, _, _, TB.cl, He.meth_ok (cd.fact 38 (f := .meth "Book" "_has") rfl), ok_has F_has TV TB cI, b_has, .nil⟩⟩
    have mA : Ct l.prog w K mg base 4 (He.ga K "Book") "_has_all" [] (spHasAll l.prog w K (He.ga K "Book")) := ⟨⟨_, _, _, _, TB.cl, He.meth_ok (cd.fact 39 (f := .meth "Book" "_has_all") rfl), ok_hasall F_hasall TV TB mH, b_hasall, .nil⟩⟩
    have mR : Ctr l.prog w K mg base 4 (He.ga K "Book") "_require" [] (spReq l.prog w K (He.ga K "Book") (He.ga K "UnknownTerm")) := ⟨⟨_, _, _, _, TB.cl, He.meth_ok (cd.fact 40 (f := .meth "Book" "_require") rfl), ok_req F_req mH XU, b_req, .nil⟩⟩
    have mE : Ct l.prog w K mg base 3 (He.ga K "Book") "_entered" [] (spEnt l.prog w K (He.ga K "Book")) := ⟨⟨_, _, _, _, TB.cl, He.meth_ok (cd.fact 41 (f := .meth "Book" "_entered") rfl), ok_ent F_ent TV TM TB cA cT, b_ent, .nil⟩⟩
    have mC : Ctr l.prog w K mg base 4 (He.ga K "Book") "constant" [] (spConst l.prog w K (He.ga K "Book") (He.ga K "InvalidName")) := ⟨⟨_, _, _, _, TB.cl, He.meth_ok (cd.fact 42 (f := .meth "Book" "constant") rfl), ok_const F_con cN mE XN, b_con, .nil⟩⟩
    have mS : Ctr l.prog w K mg base 4 (He.ga K "Book") "sample" [] (spSample l.prog w K (He.ga K "Book") (He.ga K "InvalidName") (He.ga K "InvalidTurn")) := ⟨⟨_, _, _, _, TB.cl, He.meth_ok (cd.fact 43 (f := .meth "Book" "sample") rfl), ok_sample F_sam cN cU mE XN XT, b_sam, .nil⟩⟩
    have mP : Ctr l.prog w K mg base 5 (He.ga K "Book") "apply" [] (spApply l.prog w K (He.ga K "Book") (He.ga K "InvalidName") (He.ga K "InvalidPart") (He.ga K "UnknownTerm")) := ⟨⟨_, _, _, _, TB.cl, He.meth_ok (cd.fact 44 (f := .meth "Book" "apply") rfl), ok_apply F_app TV cN cL mE mR XN XP, b_app, .nil⟩⟩
    have mW : Ct l.prog w K mg base 1 (He.ga K "Book") "rows" [] (spRows l.prog w K (He.ga K "Book")) := ⟨⟨_, _, _, _, TB.cl, He.meth_ok (cd.fact 45 (f := .meth "Book" "rows") rfl), ok_rows F_rows TV TB, b_rows, .nil⟩⟩
    have mL : Ct l.prog w K mg base 1 (He.ga K "Book") "__len__" [] (spLen l.prog w K (He.ga K "Book")) := ⟨⟨_, _, _, _, TB.cl, He.meth_ok (cd.fact 46 (f := .meth "Book" "__len__") rfl), ok_len F_len TV TB, b_len, .nil⟩⟩
    have mG : Ctr l.prog w K mg base 5 (He.ga K "Book") "__getitem__" [] (spItem l.prog w K (He.ga K "Book") (He.ga K "UnknownTerm")) := ⟨⟨_, _, _, _, TB.cl, He.meth_ok (cd.fact 47 (f := .meth "Book" "__getitem__") rfl), ok_item F_gi TB mR, b_gi, .nil⟩⟩
    have mQ : Ct l.prog w K mg base 1 (He.ga K "Book") "__eq__" [] (spEqB l.prog w K (He.ga K "Book")) := ⟨⟨_, _, _, _, TB.cl, He.meth_ok (cd.fact 49 (f := .meth "Book" "__eq__") rfl), ok_eq F_eq TV TB (He.glo_ok X G (cd.fact 48 (f := .glo "Book") rfl)), b_eq, .nil⟩⟩
    have mO : Ct l.prog w K mg base 5 (He.ga K "Book") "__contains__" [] (spCont l.prog w K (He.ga K "Book")) := ⟨⟨_, _, _, _, TB.cl, He.meth_ok (cd.fact 50 (f := .meth "Book" "__contains__") rfl), ok_cont F_cont TB cF cN cA cK mA, b_cont, .nil⟩⟩
    have mT : Ctr l.prog w K mg base 5 (He.ga K "Book") "_take" [] (spTakeB l.prog w K (He.ga K "Book") (He.ga K "InvalidRow") (He.ga K "InvalidName")) := ⟨⟨_, _, _, _, TB.cl, He.meth_ok (cd.fact 51 (f := .meth "Book" "_take") rfl), ok_btake F_btake TB cF cN cA cK mA mE XR XN, b_btake, .nil⟩⟩
    have CM0 : Cmr l.prog w K mg base 6 "Book" (He.ga K "Book") [.ref (He.dflAt ("Book", some "__init__") 0 K)] (spInitB l.prog w K (He.ga K "Book") (He.ga K "InvalidPart") (He.ga K "InvalidRow") (He.ga K "InvalidName")) := ⟨⟨_, _, _, _, He.mkr_ok (cd.fact 52 (f := .mkr "Book") rfl), ok_init F_ni TB cL mT XP, He.glo_ok X G (cd.fact 48 (f := .glo "Book") rfl), b_ni, v_ni⟩⟩
    have CM : Cmr l.prog w K mg base 6 "Book" (He.ga K "Book") [] (spInitB l.prog w K (He.ga K "Book") (He.ga K "InvalidPart") (He.ga K "InvalidRow") (He.ga K "InvalidName")) := ⟨⟨_, _, _, _, He.mkr_ok (cd.fact 52 (f := .mkr "Book") rfl), ok_init F_ni TB cL mT XP, He.glo_ok X G (cd.fact 48 (f := .glo "Book") rfl), b_n2, v_n2⟩⟩
    have mY : Ct l.prog w K mg base 8 (He.ga K "Book") "copied" [] (spCopied l.prog w K (He.ga K "Book")) := ⟨⟨_, _, _, _, TB.cl, He.meth_ok (cd.fact 53 (f := .meth "Book" "copied") rfl), ok_copied F_copied mW CM, b_copied, .nil⟩⟩
    have CE : Cg l.prog w K mg base 1 "_law_cell" (Tp.spCellT K) := .mk' F_cell (ok_cell F_cell TL.len) (He.glo_ok X G (cd.fact 54 (f := .glo "_law_cell") rfl)) b_cell
    have BX : Cg l.prog w K mg base 1 "_law_box" spBox := .mk' F_box (ok_box F_box TL.max) (He.glo_ok X G (cd.fact 55 (f := .glo "_law_box") rfl)) b_box
    have TK : Cg l.prog w K mg base 1 "_law_take" spTake := .mk' F_take (ok_take F_take) (He.glo_ok X G (cd.fact 56 (f := .glo "_law_take") rfl)) b_take
    have LB : Cg l.prog w K mg base 2 "_law_label" spLab := .mk' F_label (ok_Lb F_label TL TK) (He.glo_ok X G (cd.fact 57 (f := .glo "_law_label") rfl)) b_label
    have OD : Cg l.prog w K mg base 2 "_law_odd" (spOdd K) := .mk' F_odd (ok_Od F_odd TL TK) (He.glo_ok X G (cd.fact 58 (f := .glo "_law_odd") rfl)) b_odd
    have CA : Cg l.prog w K mg base 3 "_law_call" (spCallD K) := .mk' F_call (ok_Ca F_call TL TK LB OD) (He.glo_ok X G (cd.fact 59 (f := .glo "_law_call") rfl)) b_call
    have NM : Cg l.prog w K mg base 1 "_law_is_named" (spNamed K) := .mk' F_named (ok_Nm F_named TL) (He.glo_ok X G (cd.fact 60 (f := .glo "_law_is_named") rfl)) b_named
    have WH : Cg l.prog w K mg base 1 "_law_is_whole" (spTurn K) := .mk' F_lwhole (ok_Iw F_lwhole TL) (He.glo_ok X G (cd.fact 61 (f := .glo "_law_is_whole") rfl)) b_lwhole
    have DU : Cg l.prog w K mg base 3 "_law_due" (spDue K) := .mk' F_due (ok_Du F_due TL NM WH) (He.glo_ok X G (cd.fact 62 (f := .glo "_law_due") rfl)) b_due
    have TO : Cg l.prog w K mg base 6 "_law_told" (spTold l.prog w K (He.ga K "Book")) := .mk' F_told (ok_To F_told TL TE (He.glo_ok X G (cd.fact 24 (f := .glo "InvalidName") rfl)) (He.glo_ok X G (cd.fact 25 (f := .glo "InvalidTurn") rfl)) (He.glo_ok X G (cd.fact 26 (f := .glo "InvalidPart") rfl)) (He.glo_ok X G (cd.fact 27 (f := .glo "UnknownTerm") rfl)) mC mS mP) (He.glo_ok X G (cd.fact 63 (f := .glo "_law_told") rfl)) b_told
    have MD : Cg l.prog w K mg base 8 "_law_made" (spMade l.prog w K (He.ga K "Book")) := .mk' F_made (ok_Md F_made TL TE (He.glo_ok X G (cd.fact 24 (f := .glo "InvalidName") rfl)) (He.glo_ok X G (cd.fact 26 (f := .glo "InvalidPart") rfl)) (He.glo_ok X G (cd.fact 28 (f := .glo "InvalidRow") rfl)) CM) (He.glo_ok X G (cd.fact 64 (f := .glo "_law_made") rfl)) b_made
    have MU : Cg l.prog w K mg base 3 "_law_made_due" (spMadeD K) := .mk' F_madedue (ok_Mu F_madedue TL NM WH) (He.glo_ok X G (cd.fact 65 (f := .glo "_law_made_due") rfl)) b_madedue
    have FO : Cg l.prog w K mg base 6 "_law_forms_right" (spForms l.prog w K (He.ga K "Book")) := .mk' F_forms (ok_Fo F_forms TL mO) (He.glo_ok X G (cd.fact 66 (f := .glo "_law_forms_right") rfl)) b_forms
    have NU : Cg l.prog w K mg base 7 "_law_numbers_refused" (spNums l.prog w K (He.ga K "Book")) := .mk' F_nums (ok_Nu F_nums TL TU S (He.glo_ok X G (cd.fact 27 (f := .glo "UnknownTerm") rfl)) (He.glo_ok X G (cd.fact 67 (f := .glo "MissingError") rfl)) (He.glo_ok X G (cd.fact 68 (f := .glo "NetError") rfl)) (He.glo_ok X G (cd.fact 69 (f := .glo "StateError") rfl)) gi mG) (He.glo_ok X G (cd.fact 70 (f := .glo "_law_numbers_refused") rfl)) b_nums
    have HO : Cg l.prog w K mg base 8 "_law_holds" (spHolds l.prog w K (He.ga K "Book")) := .mk' F_holds (ok_Ho F_holds TL S gi mO mG mW mL FO NU) (He.glo_ok X G (cd.fact 71 (f := .glo "_law_holds") rfl)) b_holds
    have GR : Cg l.prog w K mg base 9 "_law_grown" (spGrown l.prog w K (He.ga K "Book")) := .mk' F_grown (ok_Gr F_grown TL S TK CA DU TO HO mL) (He.glo_ok X G (cd.fact 72 (f := .glo "_law_grown") rfl)) b_grown
    have CY : Cg l.prog w K mg base 9 "_law_copy_right" (spCopyR l.prog w K (He.ga K "Book")) := .mk' F_copyr (ok_Cy F_copyr TL TC S mW mC mQ HO) (He.glo_ok X G (cd.fact 73 (f := .glo "_law_copy_right") rfl)) b_copyr
    have AG : Cg l.prog w K mg base 11 "_law_again_right" (spAgain l.prog w K (He.ga K "Book")) := .mk' F_again (ok_Ag F_again TL TC TC2 S TK CM mY mQ HO MU MD CY) (He.glo_ok X G (cd.fact 74 (f := .glo "_law_again_right") rfl)) b_again
    exact ok_Lw F_law TL TC emT CE BX CM CM0 mQ HO GR AG MD
end T04
set_option Elab.async false
set_option linter.all false
set_option maxRecDepth 100000
set_option maxHeartbeats 0
namespace T04
open PySem PySem.Spec PyProof.Rows L2
abbrev R : PySem.W.OpenRow := PySem.W.OpenLaw.row PySem.Challenge.rw_toldpast_k04_books_of_distinct_rows
def lo0 : List PySem.Str := ["_wall", "NetError", "MissingError", "StateError", "InvalidPart", "InvalidName", "InvalidRow", "InvalidBook", "InvalidTurn", "InvalidString", "UnknownTerm", "TooLong", "LETTERS", "DIGITS", "LONGEST_NAME", "MOST_DIGITS", "MOST_ARGUMENTS", "is_integer", "is_whole", "is_name", "is_list", "parse_integer", "arguments_of", "moved_row", "LONGEST_TEXT", "Book", "_is_turn", "_has_row_form", "_kept_row", "_row_text"]
def lo1 : List PySem.Str := ["read_book", "_read_leaf", "_tokens", "_law_cell", "_law_box", "_law_take", "_law_label", "_law_odd", "_law_call", "_law_is_named", "_law_is_whole", "_law_due", "_law_told", "_law_made", "_law_made_due", "_law_holds", "_law_forms_right", "_law_numbers_refused", "_law_grown", "_law_again_right", "_law_copy_right"]
abbrev hk : PySem.W.Hook := Tp.hookR faL fnL exB
def ob (s : PySem.W.SharedT) : Tp.AlR := Tp.obsR faL fnL exB (HandSHeadRun.getT s)
theorem ob_eq (s : PySem.W.SharedT) : ob s = hk.obs s.abs := Tp.obsR_eq (HandSHeadRun.getT_eq s)
theorem run (w : World) : HandSHeadRun.RunEq R (PySem.W.view R.prog [56]) hk ob 20000 (T04.lo0 ++ (T04.lo1)) w := by
  intro os
  kernel_rfl
end T04
open PySem PySem.W PySem.Calls PyProof.Rows
theorem PySem.Challenge.cw_toldpast_k04_books_of_distinct_rows_holds : PySem.Challenge.rw_toldpast_k04_books_of_distinct_rows.Holds := by
  w_on; o_law
  refine HandSHeadRun.head_any (r := OpenLaw.row PySem.Challenge.rw_toldpast_k04_books_of_distinct_rows) (q := view (OpenLaw.row PySem.Challenge.rw_toldpast_k04_books_of_distinct_rows).prog [56]) (H := T04.hk) (ob := T04.ob) (M := 20000) (loose := (T04.lo0 ++ (T04.lo1))) (d := HandSHeadRun.topDef (OpenLaw.row PySem.Challenge.rw_toldpast_k04_books_of_distinct_rows).prog 56) (kwd := []) T04.ob_eq
    (by kernel_rfl) (fun s => by kernel_rfl) T04.run (by kernel_rfl) (by kernel_rfl) (by kernel_rfl) (by rfl) (by first | assumption | decide +kernel) (by decide +kernel) ⟨rfl, rfl, rfl, rfl, rfl, by decide +kernel⟩ ?hw ?hc
  case hw => w_witness2
  case hc =>
    refine Tp.walkGE (l := PySem.Challenge.rw_toldpast_k04_books_of_distinct_rows) (n := 63) (k := 12) (x := "_law_script") rfl (by decide) (by kernel_rfl) ⟨rfl, by decide, by decide⟩ ?F
    intro w mg fa h Y G hmg0
    obtain ⟨K, KX, c⟩ := Y
    have hmg : mg ("law" : PySem.Str) = some (.ref fa) := by
      have e : (HandSHeadRun.topDef (OpenLaw.row PySem.Challenge.rw_toldpast_k04_books_of_distinct_rows).prog 56).name = ("law" : PySem.Str) := by kernel_rfl
      rw [← e]
      exact hmg0
    obtain ⟨fd, hb, hF⟩ := T04.all2 (l := PySem.Challenge.rw_toldpast_k04_books_of_distinct_rows) (w := w) KX G hmg c.1 c.2
    exact ⟨K, fd, T04.spLaw K, KX, hb, hF, fun H a ns hl _ hS => ⟨a, ns, rfl, hS, hl, fun _ => rfl⟩⟩
#print axioms PySem.Challenge.cw_toldpast_k04_books_of_distinct_rows_holds
