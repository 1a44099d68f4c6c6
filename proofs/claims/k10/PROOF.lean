import PyProof.Rows.All
import Wide.All
import OpenK.AllK
import Wide.FinOn
import PyProof.EqAt
import PyProof.EqKinds
import PyProof.TupleCall
import PyProof.Rows.ReprR
import HandS.Base
import HandS.Call
import HandS.List
import HandS.Comp
import HandS.Ends
import HandS.Dict
import HandS.Iter
import HandS.Text
import HandS.Words
import HandS.WordsList
import HandS.Defaults
import PyProof.StrBlock2
import HandS.Codes
import PyProof.ReprLen
import PyProof.FitsInt
import HandS.Exc
import HandS.ExcInit
import HandS.ExcValue
import HandS.IsInst
import KE.KExcInit
import KE.KExcIs
import HandS.ExcField
import HandS.ExcIs
import HandS.MakeKwOnly
import HandS.ForDict
import HandS.Walk
import KE.GoesEnum
import KE.GoesMore
import HandS.DictComp
import HandS.Conv
import KE.KOpsOwn
import KE.KDictSum
import HandS.More
import HandS.Star
import HandS.Wide
import HandS.Style
import HandS.TryOnly
import HandS.Head0
import HandS.Head1
import HandS.Head2
import HandS.HeadEnd
import HandS.HeadHook1
import HandS.HeadHook2
import HandS.HeadHook3
import HandS.HeadHook4
import KE.KStateDown
import HandS.TryMany
import HandS.ExcOwn
import HandS.WordsExc
import HandS.CallSlots
import PyProof.P3Eq
import PyProof.TupleKey
import PyProof.DictKinds
import HandS.FStr
import HandS.SortKw
import KE.DatumOrd
import HandS.Steps
import HandS.SetKeys
import HandS.Deep
import PyProof.P3In
import KE.DataEq
import HandS.TupAny
import HandS.DeepEq
import HandS.OwnEq
import KE.KRevSl
import PyProof.Rows.StrJoinRep
import HandS.Replace
import PySem.Challenge.RW_toldpast_k10_readers_and_edges
set_option Elab.async false
set_option linter.all false
set_option maxRecDepth 100000
set_option maxHeartbeats 4000000
/-! what the laws of this set share: promises of defs that are called where no repr is under way, and repr itself -/
namespace Tp
open PySem PySem.Spec PyProof.Rows L2

/-- a def keeps its promise wherever no repr is under way -/
structure FnG (P : Program) (w : World) (K : PySem.W.Frag) (mg : Str → Option Value) (base : Heap) (CX : CXT) (k : Nat)
    (f : Addr) (fd : FuncData) (ps : List Str) (sp : Sp) : Prop where
  len : ∀ vs H Q E, sp vs H Q E → vs.length = ps.length
  run : ∀ (B : Around) (out : List Env) (s : Shared) (H : Hp) (args : Args) (us : List Value) (vs : List V) (Q : VK) (E : XK),
    Room k B → B.guards = some [] → Env0 P w K mg base B out s H → BindsTo s fd args (ps.zip us) → Vals vs us → sp vs H Q E →
    codeAny (model P w) B (.call (.ref f) args) (CR CX out P w H s Q E) s

section
variable {P : Program} {w : World} {K : PySem.W.Frag} {mg : Str → Option Value} {base : Heap} {CX : CXT} {j k : Nat}
variable {f : Addr} {fd : FuncData} {ps : List Str} {sp sp' : Sp}
theorem FnG.of (F : FnOk P w K mg base CX k f fd ps sp) : FnG P w K mg base CX k f fd ps sp :=
  ⟨F.len, fun B out s H args us vs Q E hr _ he => F.run B out s H args us vs Q E hr he⟩
theorem FnG.up (F : FnG P w K mg base CX j f fd ps sp) (h : j ≤ k) : FnG P w K mg base CX k f fd ps sp :=
  ⟨F.len, fun B out s H args us vs Q E hr => F.run B out s H args us vs Q E (hr.mono h)⟩
theorem deeper_guards {B : Around} {env : Env} {g : List Code} (h : B.guards = some g) : (B.deeper env).guards = some g := h

/-- a body's reading gives the promise -/
theorem fnG_of {nm qual : Str} {params : Arguments} {body : List Stmt} {sc : Scope} {dV kV doc pm cdv ct oc : Value} {an od : Option Addr}
    {osl : Array (Option Value)} {N : List Str} (lk : K.lookup f = some ⟨oc, od, .func (PySem.W.fnOf nm qual params body sc dV kV doc pm an cdv ct), osl⟩)
    (hcd : PySem.W.codeIn K cdv qual = true) (S : FnScope N ps sc) (len : ∀ vs H Q E, sp vs H Q E → vs.length = ps.length)
    (hbody : ∀ (B : Around) (out : List Env) (s : Shared) (H : Hp) (vs : List V) (Q : VK) (E : XK),
      Room k (B.deeper (envOfC qual sc s.heap.objs.size f cdv)) → (B.deeper (envOfC qual sc s.heap.objs.size f cdv)).guards = some [] → sp vs H Q E →
      ∃ t, PSs (cxOf CX P w K mg base N qual sc f cdv B out s H E) body t ∧ t { nx := fun _ H' => Q .non H', rt := Q } (start N vs) H) :
    FnG P w K mg base CX (k + 1) f (PySem.W.fnOf nm qual params body sc dV kV doc pm an cdv ct) ps sp := by
  refine ⟨len, fun B out s H args us vs Q E hr hg e0 hb rv hsp => ?_⟩
  obtain ⟨t, ht, hq⟩ := hbody B out s H vs Q E (hr.deeper _) (deeper_guards hg) hsp
  have hl := len _ _ _ _ hsp
  have KX : K.In s.heap := e0.mod.kin.keeps fun b o e => (e0.bs b o e).1
  have lim : s.heap.NoLimit := e0.mod.nolimit.keeps fun b o e => (e0.bs b o e).1
  have hkind : ∀ y ∈ ps.zip us, sc.names.lookup y.1 = some .local ∨
      (sc.names.lookup y.1 = some .cell ∧ ((cellsFrom (s.heap.objs.size + 1) sc.names []).lookup y.1).isSome = true) := by
    rintro ⟨n, v⟩ hy
    exact (S.par n (List.of_mem_zip hy).1).imp id fun q => ⟨q, PySem.W.cellsFrom_some _ _ _ (.inl q)⟩
  refine codeAny_call_function hr.depth (KX _ _ lk) rfl S.co S.gen rfl (PySem.W.codeRec_of KX hcd) (hb _ _ _ _ ?_)
  refine wpAny_newFunctionEnv_cells S.kind hkind fun env he s1 x => ?_
  subst he
  refine ⟨lim.keeps x.toInCall.keep, codeAny_func ?_⟩
  have I : Inv (cxOf CX P w K mg base N qual sc f cdv B out s H E) [] (start N vs) H s1 := inv_start S hr.hd e0 hl rv x
  refine wpAny_mono (ht.run [] s1 (start N vs) H _ I hq) (fun fl s' hs => ?_) fun e s' hs => hs
  cases fl with
  | ret u =>
    obtain ⟨v, τ, G, J, rw', q⟩ := hs
    exact ⟨v, G, J.os, J.bare, J.base, J.hok, rw', q⟩
  | next =>
    obtain ⟨τ, G, J, q⟩ := hs
    exact ⟨V.non, G, J.os, J.bare, J.base, J.hok, rfl, q⟩
  | brk => exact hs.elim fun _ z => z.elim fun _ z => z.2.elim
  | cont => exact hs.elim fun _ z => z.elim fun _ z => z.2.elim

/-- a def of the text, its body walked -/
theorem FunG.ok {x qual : Str} {st : Stmt} {N : List Str} (F : Fun K x qual st f fd) (S : FnScope N ps (defScope st)) (len : ∀ vs H Q E, sp vs H Q E → vs.length = ps.length)
    (hb : ∀ (cdv : Value) (B : Around) (out : List Env) (s : Shared) (H : Hp) (vs : List V) (Q : VK) (E : XK),
      Room k (B.deeper (envOfC qual (defScope st) s.heap.objs.size f cdv)) → (B.deeper (envOfC qual (defScope st) s.heap.objs.size f cdv)).guards = some [] → sp vs H Q E →
      ∃ t, PSs (cxOf CX0 P w K mg base N qual (defScope st) f cdv B out s H E).nox (defBody st) t ∧ t { nx := fun _ H' => Q .non H', rt := Q } (start N vs) H) :
    FnG P w K mg base CX0 (k + 1) f fd ps sp := by
  obtain ⟨oc, od, kV, doc, pm, an, cdv, ct, osl, rfl, lk, hcd⟩ := F.ex
  refine fnG_of lk hcd S len fun B out s H vs Q E hr hg hsp => ?_
  obtain ⟨t, h, q⟩ := hb cdv B out s H vs Q E hr hg hsp
  exact ⟨t, h.nox, q⟩
end

/-- what a caller knows of a def of the module: its promise, where it stands -/
structure Cg (P : Program) (w : World) (K : PySem.W.Frag) (mg : Str → Option Value) (base : Heap) (k : Nat) (x : Str) (sp : Sp) : Prop where
  ex : ∃ (f : Addr) (fd : FuncData) (ps : List Str), FnG P w K mg base CX0 k f fd ps sp ∧ mg x = some (.ref f) ∧ PySem.W.keepIn K (.ref f) = true ∧ Binds K fd ps []
theorem Cg.mk' {P : Program} {w : World} {K : PySem.W.Frag} {mg : Str → Option Value} {base : Heap} {k : Nat} {x qual : Str} {sp : Sp} {f : Addr} {fd : FuncData} {ps : List Str} {st : Stmt}
    (F : Fun K x qual st f fd) (G : FnG P w K mg base CX0 k f fd ps sp) (hm : mg x = some (.ref f)) (hb : Binds K fd ps []) : Cg P w K mg base k x sp := ⟨⟨f, fd, ps, G, hm, F.kp, hb⟩⟩
def tCl (sp : Sp) (t : TA) : TE := fun σ H Q => t σ H fun vs H1 => sp vs H1 Q E0
section
variable {X : Cx} {j k : Nat} {x : Str} {p pos : Pos} {e : Expr} {es : List Expr} {t : TA} {sp : Sp}
theorem pe_g (c : Cg X.prog X.w X.K X.mg X.base j x sp) (hr : Room k X.A) (hG : X.A.guards = some []) (hk : j ≤ k) (hg : Gl X x) (ha : PA X (e :: es) t)
    (hdb : (x == ("__debug__" : Str)) = false := by decide) (he : starEach (e :: es) X.env = (false, eval e X.env) :: starEach es X.env := by rfl)
    (hpl : (backTo pos (starEach es X.env)).any (·.1) = false := by rfl) : PE X (.Call (.Name x p) (e :: es) [] pos) (tCl sp t) := by
  obtain ⟨f, fd, ps, F, hm, hkp, hb⟩ := c.ex
  refine ⟨fun pins s σ H Q I h => wpAny_Call_Name_kw (ld_glob I hg hm ?_ hdb)⟩
  refine PySem.W.callWith_K (h₀ := X.base) I.ok.mod.kin hkp (thn (ha.run pos pins s σ H _ I h) fun us s1 hh => ?_) he hpl
  obtain ⟨vs, H1, I1, r, q⟩ := hh
  refine ⟨I1.kIn, ?_⟩
  have hl : (us ++ []).length = ps.length := by
    rw [List.append_nil, ← r.length]
    exact F.len _ _ _ _ q
  have hbt := hb s1 us I1.kIn hl
  rw [List.append_nil] at hbt
  refine wpAny_call (codeAny_mono (F.run X.A X.stack s1 H1 ⟨us, []⟩ us vs Q E0 (hr.mono hk) hG I1.env0 hbt r q) fun r' s' hq => ?_)
  cases r' with
  | error e' => exact (show False from hq).elim
  | ok fl =>
    cases fl with
    | ret u => exact I1.after hq
    | next => exact (show False from hq).elim
    | brk => exact (show False from hq).elim
    | cont => exact (show False from hq).elim
end

/-! ### repr of plain data -/
mutual
theorem Dp.plain {K : PySem.W.Frag} {H : Hp} : ∀ (d : PyData) (v : V), Dp K H v d → d.hasDict = false
  | .none, _, _ => by simp only [PyData.hasDict]
  | .bool _, _, _ => by simp only [PyData.hasDict]
  | .int _, _, _ => by simp only [PyData.hasDict]
  | .str _, _, _ => by simp only [PyData.hasDict]
  | .list ds, _, h => by
    cases h with
    | lst _ ha => simpa only [PyData.hasDict] using Dp.plainAll ds _ ha
  | .tuple ds, _, h => by
    cases h with
    | tup _ ha => simpa only [PyData.hasDict] using Dp.plainAll ds _ ha
  | .dict _, _, h => by cases h
theorem Dp.plainAll {K : PySem.W.Frag} {H : Hp} : ∀ (ds : List PyData) (vs : List V), DpAll K H vs ds → PyData.hasDictAll ds = false
  | [], _, _ => by simp only [PyData.hasDictAll]
  | d :: ds, _, h => by
    cases h with
    | cons h1 h2 =>
      simp only [PyData.hasDictAll, Bool.or_eq_false_iff]
      exact ⟨Dp.plain d _ h1, Dp.plainAll ds _ h2⟩
end
def rRepr (K : PySem.W.Frag) : List V → Hp → VK → Prop := fun xs H Q => ∃ (a : Addr) (d : PyData), xs = [.ref a] ∧ Dp K H (.ref a) d ∧ d.showable = true ∧ d.depth ≤ 60 ∧ d.shown.length ≤ sizeLine ∧ Q (.str d.shown) H
theorem call_repr {X : Cx} {k : Nat} (hr : Room k X.A) (hG : X.A.guards = some []) : CallR X (.builtin "repr") (rRepr X.K) := by
  intro pins s σ H xs us Q I r h
  obtain ⟨a, d, rfl, hd, hs, hdep, hz, q⟩ := h
  obtain ⟨u, rfl, r1⟩ := vals1 r
  cases (show u = Value.ref a from r1)
  obtain ⟨as, hrd⟩ := Dp.reads I d _ _ hd rfl
  have hu := hr.units
  exact repr_of_reads' hrd hs (PyData.noDict_hsm (Dp.plain d _ hd)) hG (by omega) (fun _ _ e => e) (fun h' u tk hk => ⟨.str d.shown, H, I.kept hk, ⟨u, rfl⟩, q⟩) hz

/-! ### the law's call -/
theorem law_callG {P : Program} {w : World} {K : PySem.W.Frag} {mg mb : Str → Option Value} {k : Nat} {fa a : Addr} {fd : FuncData} {x : Str} {sp : Sp} {s1 : Shared} {vs : List Value} {ns : List Int}
    (KX : K.In s1.heap) (hns : s1.heap.Ns mainGlobals mg) (hb : s1.heap.Ns builtinsNs mb) (hbb : ∀ x : Str, x ≠ "__name__" → mb x = bootBuiltins x) (hlim : s1.heap.NoLimit) (hg : s1.gens = #[])
    (ha : s1.heap.get? a = some { cls := .type "list", data := .seq vs.toArray }) (hi : IntsAre vs ns) (hl : ns.length ≤ sizeLine) (hr : Room k callerA)
    (F : ∀ base : Heap, K.In base → base.Ns mainGlobals mg → FnG P w K mg base CX0 k fa fd [x] sp) (hbind : ∀ (s : Shared) (u : Value), BindsTo s fd ⟨[u], []⟩ [(x, u)])
    (hsp : ∀ H : Hp, Only H → SqL K H a (ns.map V.int) → sp [.ref a] H (fun v _ => v = .bl true) E0) :
    codeAny (model P w) callerA (.call (.ref fa) ⟨[.ref a], []⟩) (fun r s' => r = .ok (.ret (.bool true)) ∧ OldK s1.heap s'.heap ∧ s'.os = s1.os ∧ AllBare s'.gens) s1 := by
  -- the layer's own end, asked of a promise that holds of this one call alone, by a def that keeps none elsewhere
  have rv := vals_ints hi
  have lv := hi.length
  have core : ∀ H : Hp, Only H → SqL K H a (ns.map V.int) → HOk P w H s1.heap → (∀ b, H b ≠ none → b = a) → (H a ≠ none → K.lookup a = none) →
      codeAny (model P w) callerA (.call (.ref fa) ⟨[.ref a], []⟩) (fun r s' => r = .ok (.ret (.bool true)) ∧ OldK s1.heap s'.heap ∧ s'.os = s1.os ∧ AllBare s'.gens) s1 := by
    intro H hO hS hok hA hK
    have noA : ∀ {b : Addr} {o : Obj} {es : Array DictEntry} {ep : Nat}, s1.heap.get? b = some o → o.data = .dict es ep → H b = none := by
      intro b o es ep e d
      cases q : H b with
      | none => rfl
      | some u =>
        have eb := hA b (by rw [q]; exact Option.some_ne_none _)
        rw [eb, ha] at e
        cases e
        cases (show Data.seq vs.toArray _ = Data.dict es ep from d)
    have nsK : ∀ {b : Addr} {m : Str → Option Value}, s1.heap.Ns b m → (hidT s1.heap H).Ns b m := by
      intro b m hm
      obtain ⟨o, es, ep, e, d, r⟩ := hm
      exact ⟨o, es, ep, hidT_get e (noA e d), d, r⟩
    have hKb : K.In (hidT s1.heap H) := by
      intro b o e
      refine hidT_get (KX b o e) ?_
      cases q : H b with
      | none => rfl
      | some u =>
        have eb := hA b (by rw [q]; exact Option.some_ne_none _)
        rw [eb] at e q
        rw [hK (by rw [q]; exact Option.some_ne_none _)] at e
        cases e
    obtain ⟨mc, l1, l2⟩ := hlim
    have hM : Mod K mg (hidT s1.heap H) := ⟨hKb, nsK hns, ⟨mb, nsK hb, hbb⟩, ⟨mc, nsK l1, l2⟩⟩
    have e0 : Env0 P w K mg (hidT s1.heap H) callerA [] s1 H :=
      ⟨rfl, hM, fun b o e => of_hidT e, Nat.le_of_eq (hidT_size _ _), trivial, fun b hb => (List.not_mem_nil hb).elim, hok, .of_eq hg⟩
    refine codeAny_mono ((F _ hKb (nsK hns)).run callerA [] s1 H ⟨[.ref a], []⟩ [.ref a] [.ref a] _ _ hr rfl e0 (hbind s1 (.ref a)) (.cons rfl .nil) (hsp H hO hS)) ?_
    intro r s' h
    cases r with
    | error e => exact (show False from h).elim
    | ok fl =>
      cases fl with
      | next => exact (show False from h).elim
      | brk => exact (show False from h).elim
      | cont => exact (show False from h).elim
      | ret u =>
        obtain ⟨v, H', os, bare, un, hok', r', q⟩ := h
        cases (show v = .bl true from q)
        cases (show u = Value.bool true from r')
        refine ⟨rfl, OldK.of_keep fun b o e => ?_, os, bare⟩
        cases q : H b with
        | none => exact un.keep b o e q (fun z => (List.not_mem_nil z).elim) (fun z => (List.not_mem_nil z).elim)
        | some u =>
          rcases hO b with z | ⟨ob, xs, z⟩
          · rw [q] at z
            cases z
          · have e1 := (hok b _ z).1
            have e2 := (hok' b _ (un.frzs b ob _ z)).1
            rw [e] at e1
            cases e1
            exact e2
  cases hk : K.lookup a with
  | some o =>
    have e := KX a o hk
    rw [ha] at e
    cases e
    refine core (fun _ => none) (fun _ => .inl rfl) (.inr ⟨_, vs.toArray, _, hk, rfl, rfl, rfl, ?_, ?_⟩) (fun b u z => by cases (show (none : Option HO) = some u from z)) (fun b z => (z rfl).elim) fun z => (z rfl).elim
    · rw [List.size_toArray, lv]
      exact hl
    · simpa using rv
  | none =>
    refine core (fun b => if b = a then some (.frz { cls := .type "list", data := .seq vs.toArray } (.lst (ns.map V.int))) else none) (fun b => ?_) (.inl (.inr ⟨_, if_pos rfl⟩)) (fun b u z => ?_) (fun b z => ?_) fun _ => hk
    · by_cases hb : b = a
      · exact .inr ⟨_, _, if_pos hb⟩
      · exact .inl (if_neg hb)
    · by_cases hb : b = a
      · cases (if_pos hb).symm.trans z
        cases hb
        refine ⟨ha, ?_, vs, _, rv, ha⟩
        rw [List.length_map]
        exact hl
      · cases (if_neg hb).symm.trans z
    · by_cases hb : b = a
      · exact hb
      · exact (z (if_neg hb)).elim

/-- the goal that the head leaves, from the law's promise -/
theorem walkG {l : PySem.W.OpenLaw} {n k : Nat} {q : Program} {loose : List Str} {XP : (Str → Option Value) → Heap → Prop} {YP : World → Heap → Prop} {d : DefRec} {K : Params → PySem.W.Frag} {sp : PySem.W.Frag → Sp} {x : Str}
    (hn : l.most = some n) (hn2 : n ≤ sizeLine) (hdf : d.params.defaults = []) (hr : Room k callerA) (hY : ∀ (w : World) (h : Heap), YP w h → (K w.params).In h)
    (F : ∀ (w : World) (mg : Str → Option Value) (fa : Addr) (h : Heap), (K w.params).In h → h.Ns mainGlobals mg → mg d.name = some (.ref fa) →
      ∃ fd : FuncData, (∀ (s : Shared) (u : Value), BindsTo s fd ⟨[u], []⟩ [(x, u)]) ∧
        ∀ base : Heap, (K w.params).In base → base.Ns mainGlobals mg → FnG l.prog w (K w.params) mg base CX0 k fa fd [x] (sp (K w.params)))
    (hsp : ∀ (K : PySem.W.Frag) (H : Hp) (a : Addr) (ns : List Int), ns.length ≤ n → Only H → SqL K H a (ns.map V.int) → sp K [.ref a] H (fun v _ => v = .bl true) E0) :
    PySem.W.WalkO q loose XP YP l.row.toRowW d [] (fun f vs => PySem.call f vs) := by
  refine Att.attach_call hn hdf fun w s0 s1 mg mb fa o pm cd doc a vs ns G Y ho hd hcd hmg hobj hints hlen hg => ?_
  have KX := hY w _ Y
  obtain ⟨fd, hb, hF⟩ := F w mg fa _ KX G.T.g hmg
  exact law_callG KX G.T.g G.T.b G.T.builtins G.T.nolimit hg hobj hints (Nat.le_trans hlen hn2) hr hF hb fun H hO hS => hsp (K w.params) H a ns hlen hO hS
end Tp
set_option Elab.async false
set_option linter.all false
set_option maxRecDepth 100000
set_option maxHeartbeats 4000000
/-! the draws: a box of three ints, of which each draw takes some -/
namespace Tp
open PySem PySem.Spec PyProof.Rows L2
/-- a box at p, from which at most n draws were mixed -/
def BoxAt (H : Hp) (p : Addr) (n : Nat) : Prop := ∃ a b c : Int, H p = some (.lst [.int a, .int b, .int c]) ∧ 0 ≤ a ∧ 0 ≤ b ∧ b < 2147483629 ∧ 0 ≤ c ∧ c ≤ (n : Int)
theorem BoxAt.mono {H : Hp} {p : Addr} {n m : Nat} (h : BoxAt H p n) (hl : n ≤ m) : BoxAt H p m := by
  obtain ⟨a, b, c, h1, h2, h3, h4, h5, h6⟩ := h
  exact ⟨a, b, c, h1, h2, h3, h4, h5, by omega⟩
/-- all that was tracked is as it was, but at p -/
def Keep (p : Addr) (H H' : Hp) : Prop := ∀ b o, b ≠ p → H b = some o → H' b = some o
theorem Keep.refl (p : Addr) (H : Hp) : Keep p H H := fun _ _ _ e => e
theorem Keep.trans {p : Addr} {H H1 H2 : Hp} (a : Keep p H H1) (b : Keep p H1 H2) : Keep p H H2 := fun c o hc e => b c o hc (a c o hc e)
theorem Keep.of {p : Addr} {H H' : Hp} (a : Same H H') : Keep p H H' := fun c o _ e => a c o e
theorem Keep.put {p : Addr} {H : Hp} {o : HO} : Keep p H (upd H p o) := fun c u hc e => by rw [upd_ne hc]; exact e
theorem Same.put {H : Hp} {q : Addr} {o : HO} (h : H q = none) : Same H (upd H q o) := fun c u e => by rw [upd_ne (ne_of_none e h)]; exact e
theorem Keep.new {p q : Addr} {H : Hp} {o : HO} (h : H q = none) : Keep p H (upd H q o) := .of (Same.put h)
theorem BoxAt.keep {H H' : Hp} {p : Addr} {n : Nat} (h : BoxAt H p n) (k : Same H H') : BoxAt H' p n := by
  obtain ⟨a, b, c, h1, h2⟩ := h
  exact ⟨a, b, c, k _ _ h1, h2⟩
theorem BoxAt.ne {H : Hp} {p q : Addr} {n : Nat} (h : BoxAt H p n) (hq : H q = none) : p ≠ q := by
  obtain ⟨a, b, c, h1, _⟩ := h
  exact ne_of_none h1 hq
theorem BoxAt.new {H : Hp} {p q : Addr} {n : Nat} {o : HO} (h : BoxAt H p n) (hq : H q = none) : BoxAt (upd H q o) p n := h.keep (Same.put hq)
theorem BoxAt.put {H : Hp} {p q : Addr} {n : Nat} {o : HO} (h : BoxAt H p n) (hq : q ≠ p) : BoxAt (upd H q o) p n := by
  obtain ⟨a, b, c, h1, h2⟩ := h
  exact ⟨a, b, c, (upd_ne hq.symm).trans h1, h2⟩
/-- all that was tracked is as it was, but at p and at d -/
def Keep2 (p d : Addr) (H H' : Hp) : Prop := ∀ b o, b ≠ p → b ≠ d → H b = some o → H' b = some o
theorem Keep2.of {p d : Addr} {H H' : Hp} (k : Keep p H H') : Keep2 p d H H' := fun b o h1 _ e => k b o h1 e
theorem Keep2.put {p d : Addr} {H G : Hp} {o : HO} (k : Keep2 p d H G) : Keep2 p d H (upd G d o) := fun b u h1 h2 e => (upd_ne h2).trans (k b u h1 h2 e)
theorem Keep2.next {p d : Addr} {H G G' : Hp} (k : Keep2 p d H G) (j : Keep p G G') : Keep2 p d H G' := fun b u h1 h2 e => j b u h1 (k b u h1 h2 e)
theorem Keep2.fin {p d : Addr} {H G : Hp} (k : Keep2 p d H G) (hd : H d = none) : Keep p H G := fun b u h1 e => k b u h1 (ne_of_none e hd) e
theorem keep_of {p : Addr} {H H' : Hp} (h : ∀ b, b ≠ p → H' b = H b) : Keep p H H' := fun b o hb e => by rw [h b hb]; exact e
/-- a list that is read stands on, but at p -/
theorem Keep.seq {K : PySem.W.Frag} {p a : Addr} {H H' : Hp} {xs : List V} (k : Keep p H H') (ha : a ≠ p) (h : SqL K H a xs) : SqL K H' a xs := by
  rcases h with (h | ⟨o, h⟩) | h
  · exact .inl (.inl (k _ _ ha h))
  · exact .inl (.inr ⟨o, k _ _ ha h⟩)
  · exact .inr h

/-- _law_cell: some int of the script, or some other -/
def spCellT (K : PySem.W.Frag) : Sp := fun vs H Q _ => ∃ (a : Addr) (ns : List Int) (k : Nat), vs = [.ref a, .int k] ∧ SqL K H a (ns.map V.int) ∧ ns.length ≤ 63 ∧ k ≤ 1000 ∧ ∀ z : Int, Q (.int z) H
/-- _law_box -/
def spBox : Sp := fun vs H Q _ => ∃ z : Int, vs = [.int z] ∧ ∀ p H', H p = none → BoxAt H' p 0 → Keep p H H' → Q (.ref p) H'
/-- _law_take -/
def spTake : Sp := fun vs H Q _ => ∃ (p : Addr) (m : Int) (n : Nat), vs = [.ref p, .int m] ∧ BoxAt H p n ∧ 0 < m ∧ m.natAbs.log2 < 1000 ∧ n ≤ 1000000 ∧
  ∀ (d : Int) (H' : Hp), 0 ≤ d → d < m → BoxAt H' p (n + 1) → (∀ b, b ≠ p → H' b = H b) → Q (.int d) H'

end Tp
set_option Elab.async false
set_option linter.all false
set_option maxRecDepth 100000
set_option maxHeartbeats 4000000
/-! texts of bounded length, data whose repr fits -/
namespace Tp
open PySem PySem.Spec PyProof.Rows L2
/-! ### texts -/
structure Tz (n : Nat) (z : Str) : Prop where
  le : (TL.tl z).length ≤ n
  sm : ∀ c ∈ TL.tl z, c < 256
theorem Tz.mono {n m : Nat} {z : Str} (h : Tz n z) (hl : n ≤ m) : Tz m z := ⟨Nat.le_trans h.le hl, h.sm⟩
theorem Tz.len {n : Nat} {z : Str} (h : Tz n z) : z.length ≤ n := by
  rw [TL.len_tl]
  exact h.le
theorem Tz.app {n m : Nat} {x y : Str} (a : Tz n x) (b : Tz m y) : Tz (n + m) (x ++ y) := by
  have e := TL.tl_append x y
  refine ⟨?_, fun c hc => ?_⟩
  · rw [e, List.length_append]
    exact Nat.add_le_add a.le b.le
  · rw [e] at hc
    exact (List.mem_append.mp hc).elim (a.sm c) (b.sm c)
theorem Tz.one {c : Nat} (h : c < 256) : Tz 1 ⟨#[c]⟩ := ⟨Nat.le_refl 1, fun d hd => by
  have e : d = c := by simpa using hd
  rw [e]
  exact h⟩
theorem Tz.cut {n : Nat} {z : Str} (h : Tz n z) (lo hi : Option Int) : Tz n (cutS z lo hi) := by
  have e : TL.tl (cutS z lo hi) = ((TL.tl z).drop (HT.sIx z.length 0 lo)).take (HT.sIx z.length z.length hi - HT.sIx z.length 0 lo) := rfl
  refine ⟨?_, fun c hc => ?_⟩
  · rw [e, List.length_take, List.length_drop]
    have := h.le
    omega
  · rw [e] at hc
    exact h.sm c (List.mem_of_mem_drop (List.mem_of_mem_take hc))
theorem joinL_len (S : List Nat) (m k : Nat) (hS : S.length ≤ k) : ∀ ps : List (List Nat), (∀ q ∈ ps, q.length ≤ m) → (TL.joinL S ps).length ≤ ps.length * (m + k)
  | [], _ => Nat.zero_le _
  | [q], h => by
    have := h q List.mem_cons_self
    show q.length ≤ 1 * (m + k)
    omega
  | q :: r :: rs, h => by
    have h1 := h q List.mem_cons_self
    have ih := joinL_len S m k hS (r :: rs) fun x hx => h x (List.mem_cons_of_mem _ hx)
    show (q ++ (S ++ TL.joinL S (r :: rs))).length ≤ ((r :: rs).length + 1) * (m + k)
    rw [List.length_append, List.length_append, Nat.succ_mul]
    omega
theorem joinL_mem {S : List Nat} : ∀ {ps : List (List Nat)} {c : Nat}, c ∈ TL.joinL S ps → c ∈ S ∨ ∃ q ∈ ps, c ∈ q
  | [], _, h => absurd h List.not_mem_nil
  | [q], _, h => .inr ⟨q, List.mem_cons_self, h⟩
  | q :: r :: rs, c, h => by
    have h' : c ∈ q ++ (S ++ TL.joinL S (r :: rs)) := h
    rcases List.mem_append.mp h' with z | z
    · exact .inr ⟨q, List.mem_cons_self, z⟩
    · rcases List.mem_append.mp z with z | z
      · exact .inl z
      · rcases joinL_mem z with z | ⟨x, hx, z⟩
        · exact .inl z
        · exact .inr ⟨x, List.mem_cons_of_mem _ hx, z⟩
theorem tl_joinT (s : Str) (ys : List Str) : TL.tl (Txt.join s ys) = TL.joinL (TL.tl s) (ys.map TL.tl) := (congrArg TL.tl (TL.join_eq s ys)).trans (TL.tl_join s ys)
theorem Tz.join {k m : Nat} {s : Str} {ys : List Str} (hs : Tz k s) (hy : ∀ y ∈ ys, Tz m y) : Tz (ys.length * (m + k)) (Txt.join s ys) := by
  refine ⟨?_, fun c hc => ?_⟩
  · rw [tl_joinT]
    have h := joinL_len (TL.tl s) m k hs.le (ys.map TL.tl) fun q hq => by
      obtain ⟨y, hy', rfl⟩ := List.mem_map.mp hq
      exact (hy y hy').le
    rwa [List.length_map] at h
  · rw [tl_joinT] at hc
    rcases joinL_mem hc with z | ⟨q, hq, z⟩
    · exact hs.sm c z
    · obtain ⟨y, hy', rfl⟩ := List.mem_map.mp hq
      exact (hy y hy').sm c z
/-- the sum that join wants -/
theorem sum_le {m : Nat} : ∀ {ys : List Str}, (∀ y ∈ ys, Tz m y) → (ys.map (·.length)).sum ≤ ys.length * m
  | [], _ => Nat.zero_le _
  | y :: ys, h => by
    have h1 := (h y List.mem_cons_self).len
    have ih := sum_le (m := m) (ys := ys) fun z hz => h z (List.mem_cons_of_mem _ hz)
    rw [List.map_cons, List.sum_cons, List.length_cons, Nat.succ_mul]
    omega
/-- parts between separators -/
theorem spl_len (S : List Nat) : ∀ (l : List Nat) (k : Nat) (acc : List Nat), ((TL.spl S k acc l).map (·.length)).sum ≤ acc.length + l.length ∧ (TL.spl S k acc l).length ≤ l.length + 1 ∧ ∀ q ∈ TL.spl S k acc l, ∀ c ∈ q, c ∈ acc ∨ c ∈ l
  | [], k, acc => by
    rw [TL.spl_nil]
    refine ⟨by simp, by simp, fun q hq c hc => ?_⟩
    rw [List.mem_singleton.mp hq] at hc
    exact .inl hc
  | c :: r, 0, acc => by
    cases h : TL.pre S (c :: r) with
    | true =>
      rw [TL.spl_hit h]
      obtain ⟨h1, h2, h3⟩ := spl_len S r (S.length - 1) []
      refine ⟨?_, ?_, fun q hq d hd => ?_⟩
      · rw [List.map_cons, List.sum_cons, List.length_cons]
        rw [List.length_nil] at h1
        omega
      · rw [List.length_cons, List.length_cons]
        omega
      · rcases List.mem_cons.mp hq with e | e
        · rw [e] at hd
          exact .inl hd
        · rcases h3 q e d hd with z | z
          · exact absurd z List.not_mem_nil
          · exact .inr (List.mem_cons_of_mem _ z)
    | false =>
      rw [TL.spl_miss h]
      obtain ⟨h1, h2, h3⟩ := spl_len S r 0 (acc ++ [c])
      refine ⟨?_, ?_, fun q hq d hd => ?_⟩
      · rw [List.length_append] at h1
        rw [List.length_cons]
        have e : [c].length = 1 := rfl
        omega
      · rw [List.length_cons]
        omega
      · rcases h3 q hq d hd with z | z
        · rcases List.mem_append.mp z with z | z
          · exact .inl z
          · rw [List.mem_singleton.mp z]
            exact .inr List.mem_cons_self
        · exact .inr (List.mem_cons_of_mem _ z)
  | c :: r, k + 1, acc => by
    have e : TL.spl S (k + 1) acc (c :: r) = TL.spl S k acc r := by
      rw [TL.spl_pass S (k + 1), TL.spl_pass S k]
      rfl
    rw [e]
    obtain ⟨h1, h2, h3⟩ := spl_len S r k acc
    refine ⟨?_, ?_, fun q hq d hd => (h3 q hq d hd).imp id (List.mem_cons_of_mem _)⟩
    · rw [List.length_cons]
      omega
    · rw [List.length_cons]
      omega
theorem split_len {z m : Str} {n : Nat} (hz : Tz n z) (hm : (TL.tl m).length = 1) (h2 : ∀ c ∈ TL.tl m, c < 256) :
    ((Txt.split z m).map (·.length)).sum ≤ n ∧ (Txt.split z m).length ≤ n + 1 ∧ ∀ y ∈ Txt.split z m, ∀ c ∈ TL.tl y, c < 256 := by
  have hne : TL.tl m ≠ [] := fun e => by
    rw [e] at hm
    cases hm
  have hk : ¬ Builtin.Str.strKind z < Builtin.Str.strKind m := TL.kind_ok (by
    rw [← Array.all_toList]
    exact List.all_eq_true.mpr fun c hc => decide_eq_true (h2 c hc))
  have e := TL.split_spl z m hne hk
  obtain ⟨h3, h4, h5⟩ := spl_len (TL.tl m) (TL.tl z) 0 []
  rw [← e] at h3 h4 h5
  rw [List.map_map] at h3
  have e2 : ((fun l : List Nat => l.length) ∘ TL.tl) = fun y : Str => y.length := funext fun y => (TL.len_tl y).symm
  have hzl := hz.le
  refine ⟨?_, ?_, fun y hy c hc => ?_⟩
  · rw [e2, List.length_nil] at h3
    omega
  · rw [List.length_map] at h4
    omega
  · rcases h5 (TL.tl y) (List.mem_map.mpr ⟨y, hy, rfl⟩) c hc with x | x
    · exact absurd x List.not_mem_nil
    · exact hz.sm c x
/-- an item of a list at a drawn place -/
theorem atI_in {α : Type} {xs : List α} {d : Int} (h0 : 0 ≤ d) (h : d < (xs.length : Int)) : ∃ v, v ∈ xs ∧ atI xs d = some v := by
  have hj : d.toNat < xs.length := by omega
  have e : d = ((d.toNat : Nat) : Int) := by omega
  exact ⟨xs[d.toNat], List.getElem_mem hj, (congrArg (atI xs) e).trans (atI_nat (List.getElem?_eq_getElem hj))⟩

/-! ### data whose repr fits -/
structure Nice (n k : Nat) (d : PyData) : Prop where
  sh : d.showable = true
  ls : d.leavesShort 2000 = true
  wt : d.weight ≤ n
  dp : d.depth ≤ k
structure NiceAll (n k : Nat) (ds : List PyData) : Prop where
  sh : PyData.showableAll ds = true
  ls : PyData.leavesShortAll 2000 ds = true
  wt : PyData.weightAll ds ≤ n
  dp : PyData.depthAll ds ≤ k
theorem Nice.fits {n k : Nat} {d : PyData} (h : Nice n k d) (hn : n ≤ 8000) : d.shown.length ≤ sizeLine := by
  have h1 := PyData.shown_le 2000 (by decide) d h.ls
  have h2 : (2000 + 2) * d.weight ≤ 2002 * 8000 := Nat.mul_le_mul (Nat.le_refl _) (Nat.le_trans h.wt hn)
  rw [PySem.sizeLine_eq]
  omega
theorem Nice.mono {n k m j : Nat} {d : PyData} (h : Nice n k d) (h1 : n ≤ m) (h2 : k ≤ j) : Nice m j d := ⟨h.sh, h.ls, Nat.le_trans h.wt h1, Nat.le_trans h.dp h2⟩
theorem nice_none : Nice 0 0 .none := ⟨rfl, rfl, Nat.le_refl _, Nat.le_refl _⟩
theorem nice_bool (b : Bool) : Nice 0 0 (.bool b) := ⟨rfl, rfl, Nat.le_refl _, Nat.le_refl _⟩
theorem nice_int {i : Int} (h : i.natAbs.log2 < 1000) : Nice 1000 0 (.int i) := by
  refine ⟨?_, ?_, ?_, by simp only [PyData.depth]; exact Nat.le_refl _⟩
  · simp only [PyData.showable]
    exact decide_eq_true (by omega)
  · simp only [PyData.leavesShort]
    refine decide_eq_true ?_
    have e := int_text_length_le (a := i) (k := 1920) (by decide) (by omega)
    show (Str.ofString (toString i)).length ≤ 2000
    rw [PySem.ofString_length]
    omega
  · simp only [PyData.weight]
    split <;> omega
theorem nice_str {n : Nat} {z : Str} (h : Tz n z) : Nice n 0 (.str z) := by
  refine ⟨by simp only [PyData.showable], ?_, ?_, by simp only [PyData.depth]; exact Nat.le_refl _⟩
  · simp only [PyData.leavesShort]
    refine List.all_eq_true.mpr fun c hc => decide_eq_true ?_
    exact Nat.lt_of_lt_of_le (h.sm c hc) (by decide)
  · simp only [PyData.weight]
    exact h.len
theorem niceAll_nil : NiceAll 0 0 [] := ⟨rfl, rfl, Nat.le_refl _, Nat.le_refl _⟩
theorem NiceAll.cons {n m k j : Nat} {d : PyData} {ds : List PyData} (h : Nice n k d) (hs : NiceAll m j ds) : NiceAll (n + 1 + m) (max k j) (d :: ds) := by
  refine ⟨?_, ?_, ?_, ?_⟩
  · simp only [PyData.showableAll, h.sh, hs.sh, Bool.and_self]
  · simp only [PyData.leavesShortAll, h.ls, hs.ls, Bool.and_self]
  · simp only [PyData.weightAll]
    have := h.wt
    have := hs.wt
    omega
  · simp only [PyData.depthAll]
    have := h.dp
    have := hs.dp
    omega
theorem NiceAll.list {n k : Nat} {ds : List PyData} (h : NiceAll n k ds) : Nice n (k + 1) (.list ds) := by
  refine ⟨?_, ?_, ?_, ?_⟩
  · simp only [PyData.showable]
    exact h.sh
  · simp only [PyData.leavesShort]
    exact h.ls
  · simp only [PyData.weight]
    exact h.wt
  · simp only [PyData.depth]
    have := h.dp
    omega
theorem NiceAll.tuple {n k : Nat} {ds : List PyData} (h : NiceAll n k ds) : Nice n (k + 1) (.tuple ds) := by
  refine ⟨?_, ?_, ?_, ?_⟩
  · simp only [PyData.showable]
    exact h.sh
  · simp only [PyData.leavesShort]
    exact h.ls
  · simp only [PyData.weight]
    exact h.wt
  · simp only [PyData.depth]
    have := h.dp
    omega
theorem NiceAll.mono {n k m j : Nat} {ds : List PyData} (h : NiceAll n k ds) (h1 : n ≤ m) (h2 : k ≤ j) : NiceAll m j ds := ⟨h.sh, h.ls, Nat.le_trans h.wt h1, Nat.le_trans h.dp h2⟩
theorem niceAll_strs : ∀ {ys : List Str}, (∀ y ∈ ys, ∀ c ∈ TL.tl y, c < 256) → NiceAll ((ys.map (·.length)).sum + ys.length) 0 (ys.map PyData.str)
  | [], _ => niceAll_nil
  | y :: ys, h => by
    have h1 := NiceAll.cons (nice_str (n := y.length) (z := y) ⟨Nat.le_of_eq (TL.len_tl y).symm, h y List.mem_cons_self⟩) (niceAll_strs (ys := ys) fun z hz => h z (List.mem_cons_of_mem _ hz))
    refine h1.mono ?_ (Nat.le_refl _)
    rw [List.map_cons, List.sum_cons, List.length_cons]
    omega
/-- repr(x), x plain data -/
theorem rRepr_of {K : PySem.W.Frag} {H : Hp} {a : Addr} {d : PyData} {n k : Nat} {Q : VK} (h : Dp K H (.ref a) d) (hn : Nice n k d) (h1 : n ≤ 8000) (h2 : k ≤ 60) (q : Q (.str d.shown) H) : rRepr K [.ref a] H Q :=
  ⟨a, d, rfl, h, hn.sh, Nat.le_trans hn.dp h2, hn.fits h1, q⟩
/-- flat values as data -/
def dV : V → PyData
  | .bl b => .bool b
  | .int i => .int i
  | .str x => .str x
  | _ => .none
def isFlat : V → Bool
  | .non => true
  | .bl _ => true
  | .int _ => true
  | .str _ => true
  | _ => false
theorem dp_flat {K : PySem.W.Frag} {H : Hp} : ∀ {v : V}, isFlat v = true → Dp K H v (dV v)
  | .non, _ => .non
  | .bl b, _ => .bl b
  | .int i, _ => .int i
  | .str x, _ => .str x
theorem dpAll_flat {K : PySem.W.Frag} {H : Hp} : ∀ {vs : List V}, vs.all isFlat = true → DpAll K H vs (vs.map dV)
  | [], _ => .nil
  | v :: vs, h => by
    rw [List.all_cons, Bool.and_eq_true] at h
    exact .cons (dp_flat h.1) (dpAll_flat h.2)
theorem dpAll_strs {K : PySem.W.Frag} {H : Hp} : ∀ (ys : List Str), DpAll K H (ys.map V.str) (ys.map PyData.str)
  | [] => .nil
  | y :: ys => .cons (.str y) (dpAll_strs ys)
end Tp
set_option Elab.async false
set_option linter.all false
set_option maxRecDepth 100000
set_option maxHeartbeats 4000000
/-! exceptions of the program's own classes over any built-in base: how one is made, by position and by keyword -/
namespace Tp
open PySem HandSPX
/-- what is asked of the line behind an own class that is made by newId of B -/
structure LineX (B : String) (bm : List Value) : Prop where
  hB : bm.contains (.type B) = true
  hA : bm.contains (.type "AttributeError") = false
  hN : bm.contains (.type "NameError") = false
section
variable {prog : Program} {w : World} {A : Around} {E : Value → Shared → Prop} {R : Result → Shared → Prop} {h : Heap} {g : Array GenState} {d : Drawn} {t : Nat} {os : OsState}
variable {nm q : Str} {C N : Addr} {bs bm bmB : List Value} {hdct : Bool} {sn : List Str} {sub : List Value} {ab : Bool} {col : Option Bool} {dd : Option Addr} {k0 k1 k2 k3 k5 : Option Value} {B newId initId : String}
/-- may newId make it? -/
theorem mk_check {M : Model} (F : ExcBaseFacts B newId initId bmB) (L : LineX B bm) {rest : List Value} {kw : List (Str × Value)} {Q : Unit → Shared → Prop}
    (hC : h.get? C = some (excClassObj nm q C N bs bm hdct sn sub ab col dd k0 k1 k2 k3 k5 newId))
    (hq : Q () ⟨h, g, d, t, os⟩) : wpAny M A (checkBuiltinCall newId ⟨.ref C :: rest, kw⟩) Q E ⟨h, g, d, t, os⟩ := by
  have hc : (Value.ref C :: bm).contains (.type B) = true := by
    rw [List.contains_cons]
    exact Bool.or_eq_true_iff.mpr (.inr L.hB)
  have hst := F.noStar
  simp only [checkBuiltinCall, F.newSplit, F.newKind, F.newRow]
  repeat (first
    | refine wpAny_loadPart_at hC ?_
    | (refine wpAny_isSubtype_exc hC ?_; rw [hc])
    | refine wpAny_staticBase_exc hC ?_
    | refine wpAny_madeBy_exc hC ?_
    | simp only [Bool.false_eq_true, bne_self_eq_false, if_false]
    | wp_step)
  exact hq
/-- newId itself -/
theorem mk_new (F : ExcBaseFacts B newId initId bmB) (L : LineX B bm) {rest : List Value} {kw : List (Str × Value)}
    (hC : h.get? C = some (excClassObj nm q C N bs bm hdct sn sub ab col dd k0 k1 k2 k3 k5 newId)) (hz : rest.length ≤ sizeLine)
    (hq : R (.ok (.ret (.ref (h.objs.size + 1)))) ⟨(h.push (PySem.W.kdv_tup rest)).push (excO C h.objs.size), g, d, t, os⟩) :
    codeAny (model prog w) A (.builtin newId ⟨.ref C :: rest, kw⟩) R ⟨h, g, d, t, os⟩ := by
  have hends := F.ends
  have up : ∀ {X : String} {b : Bool}, bm.contains (.type X) = b → (Value.ref C :: bm).contains (.type X) = b := fun {X b} e => by
    rw [List.contains_cons, e]
    cases b <;> rfl
  have h1 := up L.hB
  have h2 := up L.hA
  have h3 := up L.hN
  refine codeAny_builtinAt F.entry ?_
  unfold Builtin.«BaseException.__new__»
  refine wpAt_bind ?_
  show wpAt _ _ _ (stack >>= _) _ _ _
  refine wpAt_bind (wpAt_stack fun p below => wpAt_of_wpAny ?_)
  wp_walk
  refine wpAt_of_wpAny ?_
  rw [F.owner]
  repeat (first
    | with_reducible refine wpAny_loadPart_at hC ?_
    | with_reducible refine wpAny_madeHere_exc F.canon hC ?_
    | (with_reducible refine wpAny_isSubtype_exc hC ?_; first | rw [h1] | rw [h2] | rw [h3])
    | wp_step)
  show R _ _
  rw [Heap.size_push]
  exact hq
/-- type.__call__ on it, up to its own __init__ -/
theorem mk_type (F : ExcBaseFacts B newId initId bmB) (L : LineX B bm) {rest : List Value} {kw : List (Str × Value)} {iv : Value} {Q : Fin → Shared → Prop}
    (hC : h.get? C = some (excClassObj nm q C N bs bm hdct sn sub ab col dd k0 k1 k2 k3 k5 newId)) (hz : rest.length ≤ sizeLine)
    (hi : W.Looks (model prog w) h (typeLookup (.ref C) "__init__") (some iv))
    (hb : ∀ self, W.Looks (model prog w) h (bindSpecial iv self) (iv, [self]))
    (hq : codeAny (model prog w) A (.call iv ⟨.ref (h.objs.size + 1) :: rest, kw⟩)
      (fun r s' => match r with
        | .ok (.ret v) => v = .none ∧ Q (.done (.ret (.ref (h.objs.size + 1)))) s'
        | .ok _ => False
        | .error e => E e s') ⟨(h.push (W.kdv_tup rest)).push (excO C h.objs.size), g, d, t, os⟩) :
    wpAny (model prog w) A (Builtin.«type.__call__» ⟨.ref C :: rest, kw⟩) Q E ⟨h, g, d, t, os⟩ := by
  repeat (first
    | with_reducible refine wpAny_madeBy_exc hC ?_
    | with_reducible refine wpAny_loadPart_at hC ?_
    | wp_step)
  refine codeAny_call_builtin_code (Code.quiet_builtin _ F.quiet) (mk_check F L hC ?_)
  refine mk_new F L hC hz ?_
  show wpAny _ _ _ _ _ _
  have kp : ∀ b o, h.get? b = some o → ((h.push (W.kdv_tup rest)).push (excO C h.objs.size)).get? b = some o :=
    fun b o e => Heap.get?_push_of_some _ (Heap.get?_push_of_some _ e)
  have hC' := kp _ _ hC
  have hx : ((h.push (W.kdv_tup rest)).push (excO C h.objs.size)).get? (h.objs.size + 1) = some (excO C h.objs.size) := by heap_get
  have hcC : (Value.ref C :: bm).contains (.ref C) = true := by simp
  unfold isInstance
  repeat (first
    | with_reducible refine wpAny_loadPart_at hx ?_
    | (with_reducible refine wpAny_isSubtype_exc hC' ?_; rw [hcC])
    | wp_step)
  show wpAny _ _ (typeLookup (.ref C) _) _ _ _
  refine (hi.keeps kp).at (wpAny_holding (wpAny_bind (((hb (.ref (h.objs.size + 1))).keeps kp).at ?_)))
  refine wpAny_bind (wpAny_call (codeAny_mono hq fun r s' z => ?_))
  cases r with
  | error e => exact z
  | ok fl =>
    cases fl with
    | ret v =>
      obtain ⟨ev, z'⟩ := z
      subst ev
      first
        | exact wpAny_pure (wpAny_pure z')
        | (wp_walk; exact z')
    | next => exact False.elim z
    | brk => exact False.elim z
    | cont => exact False.elim z
/-- the call C(..) -/
theorem mk_call (F : ExcBaseFacts B newId initId bmB) (L : LineX B bm) {rest : List Value} {kw : List (Str × Value)} {iv : Value}
    (hC : h.get? C = some (excClassObj nm q C N bs bm hdct sn sub ab col dd k0 k1 k2 k3 k5 newId)) (hz : rest.length ≤ sizeLine)
    (hi : W.Looks (model prog w) h (typeLookup (.ref C) "__init__") (some iv))
    (hb : ∀ self, W.Looks (model prog w) h (bindSpecial iv self) (iv, [self]))
    (hq : codeAny (model prog w) (A.under (.builtin "type.__call__" ⟨.ref C :: rest, kw⟩)) (.call iv ⟨.ref (h.objs.size + 1) :: rest, kw⟩) (W.InitBack (h.objs.size + 1) R)
      ⟨(h.push (W.kdv_tup rest)).push (excO C h.objs.size), g, d, t, os⟩) :
    codeAny (model prog w) A (.call (.ref C) ⟨rest, kw⟩) R ⟨h, g, d, t, os⟩ := by
  have f1 := tc_lookup
  have f2 := tc_bind (.ref C)
  have hTy : (⟨h, g, d, t, os⟩ : Shared).TypeIs (.ref C) "type" := ⟨_, hC, rfl⟩
  refine codeAny_of_tree ?_
  show wpAny _ _ (callAny (.ref C) _) _ _ _
  repeat (any_goals (first | assumption | with_reducible refine wpAny_loadPart_at hC ?_ | wp_step))
  refine ⟨rfl, codeAny_call_builtin_at (Code.quiet_builtin _ (by decide +kernel)) entry_typeCall (wpAny_check_type_call_sub hC (mk_type F L hC hz hi hb ?_))⟩
  refine codeAny_mono hq fun r s' z => ?_
  cases r with
  | error e => exact z
  | ok fl => cases fl <;> exact z
end
end Tp
set_option Elab.async false
set_option linter.all false
set_option maxRecDepth 100000
set_option maxHeartbeats 4000000
/-! exceptions of the program's own classes, over any built-in base: made as values, stored into, read, asked for their class, raised -/
namespace Tp
open PySem PySem.Spec PyProof.Rows L2
abbrev valLine : List Value := [.type "ValueError", .type "Exception", .type "BaseException", .type "object"]
abbrev keyLine : List Value := [.type "KeyError", .type "LookupError", .type "Exception", .type "BaseException", .type "object"]
abbrev lookLine : List Value := [.type "LookupError", .type "Exception", .type "BaseException", .type "object"]
local macro_rules | `(tactic| walk_at "factX") => `(tactic| first | decide +kernel | kernel_rfl | (rw [isSubtype_type]; kernel_rfl) | (rw [mroOf_type]; kernel_rfl) | (intro z; kernel_rfl) | (intro z1 z2 z3; unfold argsOk; kernel_rfl))
theorem storeKey : StoreFacts "KeyError" keyLine "object.__setattr__" "object" :=
  { mro := by walk_at "factX"
    slot := .of (owner := "object") (n := "__setattr__")
      (by rw [typeLookup_type, builtinLookup_eq_fast]; kernel_rfl) (by walk_at "factX") (by walk_at "factX")
      (by walk_at "factX") (by first | exact .inl (by walk_at "factX") | exact .inr (by walk_at "factX")) (by walk_at "factX")
    entry := F.store_object.entry
    kind := by walk_at "factX"
    split := by walk_at "factX"
    hasOwner := by walk_at "factX"
    args := by walk_at "factX"
    passes := by walk_at "factX" }
/-- a base: what makes its instances, what line stands behind its classes -/
structure BaseX (newId : String) (line : List Value) : Prop where
  ex : ∃ (B initId S : String) (bmB : List Value), ExcBaseFacts B newId initId bmB ∧ StoreFacts S line "object.__setattr__" "object" ∧ LineX B line
theorem baseV : BaseX "ValueError.__new__" valLine := ⟨_, _, _, _, F.excBase_ValueError, F.store_ValueError, ⟨by decide +kernel, by decide +kernel, by decide +kernel⟩⟩
theorem baseK : BaseX "LookupError.__new__" keyLine := ⟨_, _, _, _, F.excBase_LookupError, storeKey, ⟨by decide +kernel, by decide +kernel, by decide +kernel⟩⟩
theorem baseL : BaseX "LookupError.__new__" lookLine := ⟨_, _, _, _, F.excBase_LookupError, F.store_LookupError, ⟨by decide +kernel, by decide +kernel, by decide +kernel⟩⟩
/-- what the written part says of an own class of exceptions -/
structure ExK (K : PySem.W.Frag) (C : Addr) : Prop where
  ln : ∃ (newId : String) (line : List Value), BaseX newId line ∧ PySem.W.excInitIn K C line newId = true ∧ PySem.W.excOver K C line = true
  sa : PySem.W.findIn K (.ref C) "__setattr__" = some (some (.builtin "object.__setattr__"))
  ga : PySem.W.findIn K (.ref C) "__getattribute__" = some (some (.builtin "BaseException.__getattribute__"))
  gg : PySem.W.findIn K (.ref C) "__getattr__" = some none
  exC : PySem.W.subIn K (.ref C) (.type "BaseException") = some true
  tyC : PySem.W.typeIn K (.ref C) = some (.type "type")
  hdC : PySem.W.hasDictIn K C = true
  kC : PySem.W.keepIn K (.ref C) = true
  ha : PySem.W.findIn K (.ref C) "__class__" = some (some (.builtin "object.__class__"))
  hn : PySem.W.specialIn K (.builtin "object.__class__") "__get__" = some (some (.builtin "getset_descriptor.__get__"))
  ht : PySem.W.takesIn K (.builtin "object.__class__") = some true
  hm : PySem.W.mroIn K C (.type "object") = some true
/-- a class for which name f is free -/
def freeB (K : PySem.W.Frag) (C : Addr) (f : Str) : Bool := decide (PySem.W.findIn K (.ref C) f = some none)
theorem freeB_ok {K : PySem.W.Frag} {C : Addr} {f : Str} (h : freeB K C f = true) : PySem.W.findIn K (.ref C) f = some none := of_decide_eq_true h
def exkB (K : PySem.W.Frag) (C : Addr) (newId : String) (line : List Value) : Bool :=
  PySem.W.excInitIn K C line newId && (PySem.W.excOver K C line &&
  (decide (PySem.W.findIn K (.ref C) "__setattr__" = some (some (.builtin "object.__setattr__"))) &&
  (decide (PySem.W.findIn K (.ref C) "__getattribute__" = some (some (.builtin "BaseException.__getattribute__"))) &&
  (decide (PySem.W.findIn K (.ref C) "__getattr__" = some none) &&
  (decide (PySem.W.subIn K (.ref C) (.type "BaseException") = some true) &&
  (decide (PySem.W.typeIn K (.ref C) = some (.type "type")) &&
  (PySem.W.hasDictIn K C && (PySem.W.keepIn K (.ref C) &&
  (decide (PySem.W.findIn K (.ref C) "__class__" = some (some (.builtin "object.__class__"))) &&
  (decide (PySem.W.specialIn K (.builtin "object.__class__") "__get__" = some (some (.builtin "getset_descriptor.__get__"))) &&
  (decide (PySem.W.takesIn K (.builtin "object.__class__") = some true) && decide (PySem.W.mroIn K C (.type "object") = some true))))))))))))
theorem exkB_ok {K : PySem.W.Frag} {C : Addr} {newId : String} {line : List Value} (b : BaseX newId line) (h : exkB K C newId line = true) : ExK K C := by
  unfold exkB at h
  simp only [Bool.and_eq_true, decide_eq_true_eq] at h
  obtain ⟨h1, h2, h3, h4, h5, h6, h7, h8, h9, h10, h11, h12, h13⟩ := h
  exact ⟨⟨newId, line, b, h1, h2⟩, h3, h4, h5, h6, h7, h8, h9, h10, h11, h12, h13⟩

/-- an exception that stands as a value at a: its class, its fields -/
def ExAt (H : Hp) (a C : Addr) (fs : List (Str × V)) : Prop := (fs = [] ∧ H a = some (exo a C none)) ∨ ∃ dx, dx ≠ a ∧ H a = some (exo a C (some dx)) ∧ H dx = some (exd dx fs)

theorem ne_of_none' {H : Hp} {a b : Addr} {o : HO} (n : H b = none) (e : H a = some o) : b ≠ a := fun z => by
  rw [z, e] at n
  cases n
section

variable {prog : Program} {w : World} {A : Around} {E : Value → Shared → Prop} {R : Result → Shared → Prop} {hp : Heap} {g : Array GenState} {d : Drawn} {t : Nat} {os : OsState}
variable {K : PySem.W.Frag} {name : Str} {tk : Tok} {v : Value} {x C t1 : Addr} {B : String} {line : List Value}
theorem taker_none (h : PySem.W.findIn K (.ref C) name = some none) : PySem.W.takerIn K C name = some none := by
  unfold PySem.W.takerIn
  rw [h]
  rfl
/-- the first field -/
theorem osa_first (SF : StoreFacts B line "object.__setattr__" "object") (X : K.In hp) (hx : hp.get? x = some (PySem.W.excObj C t1 none .none)) (hl : PySem.W.excOver K C line = true) (hh : PySem.W.hasDictIn K C = true) (ha : PySem.W.findIn K (.ref C) name = some none)
    (hq : ∀ h' tk' dx, (∀ b o, b ≠ x → hp.get? b = some o → h'.get? b = some o) → hp.objs.size ≤ dx → dx ≠ x → h'.get? x = some (PySem.W.excObj C t1 (some dx) .none) →
      h'.Ns1 dx (fun y => if y = name then some v else none) → R (.ok (.ret .none)) ⟨h', g, d, tk', os⟩) :
    codeAny (model prog w) A (.call (.builtin "object.__setattr__") ⟨[.ref x, .str name tk, v], []⟩) R ⟨hp, g, d, t, os⟩ := by
  refine PySem.W.osa_openX (od := none) SF X ⟨hx, rfl, rfl, trivial⟩ hl (taker_none ha) fun b => ?_
  obtain ⟨cd, hc, hd'⟩ := PySem.W.any_some hh
  refine wpAny_bind (wpAny_pure (wpAny_bind (PySem.W.instanceDict_exc hx (PySem.W.looks_clsIn X hc) hd' ?_)))
  show wpAny _ _ (Builtin.ObjectAttr.storeInDict hp.objs.size (.str name tk) name v) _ _ _
  have hxs : x ≠ hp.objs.size := Nat.ne_of_lt (Heap.lt_size hx)
  refine HandSPX.store_in_new ?_ fun h' tk' hn' hs => ?_
  · exact ⟨_, #[], _, (Heap.get?_update_ne _ _ _ _ hxs.symm).trans (Heap.get?_push_at rfl rfl), rfl, fun e he => absurd he (by simp), fun _ => rfl⟩
  · refine hq h' tk' hp.objs.size (fun b o hb ho => ?_) (Nat.le_refl _) hxs.symm ?_ hn'
    · exact (hs.2 b (Nat.ne_of_lt (Heap.lt_size ho))).trans ((Heap.get?_update_ne _ _ _ _ hb).trans (Heap.get?_push_of_some _ ho))
    · exact (hs.2 x hxs).trans (Heap.get?_update_self _ (Heap.get?_push_of_some _ hx) rfl)
/-- a further one -/
theorem osa_next {dx : Addr} {m0 : Str → Option Value} {nl : List Str} (SF : StoreFacts B line "object.__setattr__" "object") (X : K.In hp) (hx : hp.get? x = some (PySem.W.excObj C t1 (some dx) .none)) (hl : PySem.W.excOver K C line = true) (hh : PySem.W.hasDictIn K C = true) (ha : PySem.W.findIn K (.ref C) name = some none)
    (hns : hp.Ns1 dx m0) (hw : Within m0 nl) (hz : nl.length ≤ 1000)
    (hq : ∀ h' tk', (∀ b o, b ≠ dx → hp.get? b = some o → h'.get? b = some o) → h'.Ns1 dx (fun y => if y = name then some v else m0 y) → R (.ok (.ret .none)) ⟨h', g, d, tk', os⟩) :
    codeAny (model prog w) A (.call (.builtin "object.__setattr__") ⟨[.ref x, .str name tk, v], []⟩) R ⟨hp, g, d, t, os⟩ := by
  obtain ⟨oD, _, _, hoD, _, _⟩ := hns.count hw
  refine PySem.W.osa_openX (od := some oD) SF X ⟨hx, rfl, rfl, hoD⟩ hl (taker_none ha) fun b => ?_
  obtain ⟨cd, hc, hd'⟩ := PySem.W.any_some hh
  refine wpAny_bind (wpAny_pure (wpAny_bind (wpAny_bind (wpAny_loadPart hx (wpAny_bind ((PySem.W.looks_clsIn X hc).here ?_))))))
  rw [hd']
  refine wpAny_pure (a := some dx) ?_
  exact PySem.OEX.store_in_old hns hw hz fun h' tk' hn' hs => hq h' tk' (fun b o hb ho => (hs.2 b hb).trans ho) hn'
end
section
variable {X : Cx} {pins : List (Addr × Obj)} {σ : L2.St} {H : Hp} {s : Shared} {a C dx : Addr} {f : Str} {y : V} {u : Value} {fs : List (Str × V)} {E : Value → Shared → Prop} {A : Around}
theorem st_first {Q : Unit → Shared → Prop} (T : ExK X.K C) (I : Inv X pins σ H s) (e : H a = some (exo a C none)) (hno : PySem.W.findIn X.K (.ref C) f = some none) (ry : RelV y u)
    (h : ∀ dx s', H dx = none → dx ≠ a → Inv X pins σ (upd (upd H dx (exd dx [(f, y)])) a (exo a C (some dx))) s' → Q () s') : wpAny (model X.prog X.w) A (setAttr (.ref a) f u) Q E s := by
  obtain ⟨newId, line, ⟨B, initId, S, bmB, FB, SF, L⟩, hi, hl⟩ := T.ln
  obtain ⟨t1, ho⟩ := exo_at I.hok e
  obtain ⟨hp, g, d, t, os⟩ := s
  refine PySem.W.set_plain I.kIn (ox := PySem.W.excObj C t1 none .none) (od := none) ⟨ho, rfl, rfl, trivial⟩ T.sa ?_
  refine osa_first SF I.kIn ho hl T.hdC hno (fun h' tk' dx k dn dne hx hn => ?_)
  have hnd : H dx = none := I.hok.fresh dn
  have nd : ∀ {b : Addr} {o : Obj}, hp.get? b = some o → b ≠ dx := fun {b o} q => Nat.ne_of_lt (Nat.lt_of_lt_of_le (Heap.lt_size q) dn)
  have na : ∀ {b : Addr}, H b = none → b ≠ a := fun {b} n => ne_of_none' n e
  have U : Un X.fs [] H (upd (upd H dx (exd dx [(f, y)])) a (exo a C (some dx))) hp h' :=
    ⟨fun b o q n _ _ => k b o (na n) q, fun b o q n _ _ => ⟨o.slots, k b o (na n) q⟩,
      fun b o q n _ => (upd_ne (na n)).trans ((upd_ne (nd q)).trans n),
      fun b o q _ => if hb : b = a then ⟨_, hb ▸ hx⟩ else ⟨o, k b o hb q⟩,
      fun b xs q => (upd_ne (at_ne e q exo_tup)).trans ((upd_ne (ne_of_none q hnd)).trans q),
      fun b o v q => (upd_ne (at_ne e q exo_frz)).trans ((upd_ne (ne_of_none q hnd)).trans q),
      fun b ps q => ⟨#[], by
        rw [upd_ne (at_ne e q exo_tbl), upd_ne (ne_of_none q hnd), q]
        simp⟩⟩
  refine h dx _ hnd dne (I.un (t' := tk') U fun b o q => ?_)
  by_cases hb : b = a
  · subst hb
    cases upd_same.symm.trans q
    exact exo_ok hx
  · rw [upd_ne hb] at q
    by_cases hd : b = dx
    · subst hd
      cases upd_same.symm.trans q
      exact exd_ok hn (relO_put (fs := []) ry fun g => True.intro)
    · rw [upd_ne hd] at q
      have stay : ∀ {c : Addr}, H c = some (.own b) → c ≠ a := fun hc => at_ne e hc exo_own
      refine (I.hok b o q).stay (fun c v hc z => k c v (hc.elim (fun ec => ec ▸ hb) stay) z) (fun c hc => ?_) (fun c xs hc => ?_)
      · exact (upd_ne (stay hc)).trans ((upd_ne (ne_of_none hc hnd)).trans hc)
      · exact (upd_ne (at_ne e hc exo_tup)).trans ((upd_ne (ne_of_none hc hnd)).trans hc)
theorem st_next {Q : Unit → Shared → Prop} (T : ExK X.K C) (I : Inv X pins σ H s) (e : H a = some (exo a C (some dx))) (ed : H dx = some (exd dx fs)) (hl : fs.length ≤ 900) (hno : PySem.W.findIn X.K (.ref C) f = some none) (ry : RelV y u)
    (h : ∀ s', Inv X pins σ (upd H dx (exd dx ((f, y) :: fs))) s' → Q () s') : wpAny (model X.prog X.w) A (setAttr (.ref a) f u) Q E s := by
  obtain ⟨newId, line, ⟨B, initId, S, bmB, FB, SF, L⟩, hi, hlo⟩ := T.ln
  obtain ⟨t1, ho⟩ := exo_at I.hok e
  obtain ⟨mA, hns, rel⟩ := exd_at I.hok ed
  have hw := within_of rel
  obtain ⟨hp, g, d, t, os⟩ := s
  obtain ⟨oD, _, _, hoD, _, _⟩ := hns.count hw
  refine PySem.W.set_plain I.kIn (ox := PySem.W.excObj C t1 (some dx) .none) (od := some oD) ⟨ho, rfl, rfl, hoD⟩ T.sa ?_
  refine osa_next SF I.kIn ho hlo T.hdC hno hns hw (by rw [List.length_map]; omega) (fun h' tk' k hn => ?_)
  have hd : ∃ o, h'.get? dx = some o := by
    obtain ⟨o, _, _, e', _⟩ := hn
    exact ⟨o, e'⟩
  exact h _ (I.write (t' := tk') (x := dx) (e := dx) (o := exd dx ((f, y) :: fs)) (by rw [ed]; exact True.intro) (.inl rfl) k hd (exd_ok hn (relO_put ry rel)))
end
end Tp
set_option Elab.async false
set_option linter.all false
set_option maxRecDepth 100000
set_option maxHeartbeats 4000000
/-! rules for exceptions that stand as values -/
namespace Tp
open PySem PySem.Spec PyProof.Rows L2
section
variable {X : Cx} {pins : List (Addr × Obj)} {σ : L2.St} {H : Hp} {s : Shared} {a D C : Addr} {fs : List (Str × V)}
theorem ex_inst (I : Inv X pins σ H s) (h : ExAt H a D fs) : ∃ (ox : Obj) (od : Option Obj), PySem.W.InstAt s.heap a ox D od ∧ ∀ f v, fs.lookup f = some v → ∃ o u, od = some o ∧ PySem.W.lookIn f o = some (some u) ∧ RelV v u := by
  rcases h with ⟨rfl, e⟩ | ⟨dx, _, e, ed⟩
  · obtain ⟨t1, ho⟩ := exo_at I.hok e
    exact ⟨_, none, ⟨ho, rfl, rfl, trivial⟩, fun f v z => by cases z⟩
  · obtain ⟨t1, ho⟩ := exo_at I.hok e
    obtain ⟨mA, hns, rel⟩ := exd_at I.hok ed
    obtain ⟨oD, hoD, hl⟩ := lookIn_ns hns
    refine ⟨_, some oD, ⟨ho, rfl, rfl, hoD⟩, fun f v z => ?_⟩
    obtain ⟨u, hu, ru⟩ := RelO.some_of (v := v) (o := mA f) (by rw [← z]; exact rel f)
    exact ⟨oD, u, rfl, by rw [hl, hu], ru⟩
theorem ex_kit (T : ExK X.K D) {ox : Obj} {od : Option Obj} : PySem.W.KitX X.K (.ref a) (.ref D) (fun h => PySem.W.InstAt h a ox D od) :=
  PySem.W.kitx_exc (by obtain ⟨cd, hc, _⟩ := PySem.W.any_some T.hdC; rw [hc]; rfl) T.ga T.gg T.exC T.ha T.hn T.ht T.hm
end
/-- isinstance(e, c) -/
def rIsx (K : PySem.W.Frag) : List V → Hp → VK → Prop := fun xs H Q => ∃ (a D : Addr) (fs : List (Str × V)) (c : V) (cv : Value) (b : Bool), xs = [.ref a, c] ∧ ExAt H a D fs ∧ ExK K D ∧ ClsV c cv ∧ PySem.W.kitOne K (.ref D) cv = some b ∧ Q (.bl b) H
/-- isinstance(e, (c, ..)) -/
def rIsxT (K : PySem.W.Frag) : List V → Hp → VK → Prop := fun xs H Q => ∃ (a D : Addr) (fs : List (Str × V)) (tp : Addr) (cs : List V) (us : List Value) (b : Bool), xs = [.ref a, .ref tp] ∧ ExAt H a D fs ∧ ExK K D ∧ H tp = some (.tup cs) ∧ Paired ClsV cs us ∧ PySem.W.kitAny K (.ref D) us = some b ∧ Q (.bl b) H
section
variable {X : Cx}
theorem call_isx : CallR X (.builtin "isinstance") (rIsx X.K) := by
  intro pins s σ H xs us Q I r h
  obtain ⟨a, D, fs, c, cv, b, rfl, ha, T, k, e, q⟩ := h
  obtain ⟨u1, u2, rfl, r1, r2⟩ := vals2 r
  cases (show u1 = Value.ref a from r1)
  have e2 := k.eq r2
  subst e2
  obtain ⟨ox, od, J, _⟩ := ex_inst I ha
  exact PySem.W.kia_one (ex_kit T) I.kIn J e (fun z => nomatch z) fun tk => ⟨.bl b, H, I.tok tk, rfl, q⟩
theorem call_isxT : CallR X (.builtin "isinstance") (rIsxT X.K) := by
  intro pins s σ H xs us Q I r h
  obtain ⟨a, D, fs, tp, cs, ws, b, rfl, ha, T, hT, k, e, q⟩ := h
  obtain ⟨u1, u2, rfl, r1, r2⟩ := vals2 r
  cases (show u1 = Value.ref a from r1)
  cases (show u2 = Value.ref tp from r2)
  obtain ⟨ox, od, J, _⟩ := ex_inst I ha
  obtain ⟨_, its, rv, o, h1, h2, n, h3⟩ := (show ObjOk X.prog X.w H s.heap tp (.tup cs) from I.hok tp _ hT)
  have e3 := ClsV.all k rv
  subst e3
  obtain ⟨oc, od', dt, sl⟩ := o
  simp only at h2 h3
  subst h2 h3
  exact PySem.W.kia_tup (ex_kit T) I.kIn J h1 e (fun z => nomatch z) fun tk => ⟨.bl b, H, I.tok tk, rfl, q⟩
end
/-- e.f -/
def tXg (K : PySem.W.Frag) (f : Str) (te : TE) : TE := fun σ H Q => te σ H fun x H1 => ∃ (a D : Addr) (fs : List (Str × V)) (v : V), x = .ref a ∧ ExAt H1 a D fs ∧ ExK K D ∧ PySem.W.findIn K (.ref D) f = some none ∧ fs.lookup f = some v ∧ Q v H1
/-- o.f = e -/
def tOsx (K : PySem.W.Frag) (f : Str) (to te : TE) : TS := fun D σ H => te σ H fun y H1 => to σ H1 fun x H2 => ∃ a C : Addr, x = .ref a ∧ ExK K C ∧ PySem.W.findIn K (.ref C) f = some none ∧
  ((H2 a = some (exo a C none) ∧ ∀ dx, H2 dx = none → dx ≠ a → D.nx σ (upd (upd H2 dx (exd dx [(f, y)])) a (exo a C (some dx)))) ∨
    ∃ (dx : Addr) (fs : List (Str × V)), H2 a = some (exo a C (some dx)) ∧ H2 dx = some (exd dx fs) ∧ fs.length ≤ 900 ∧ D.nx σ (upd H2 dx (exd dx ((f, y) :: fs))))
/-- C(..): its __init__ keeps sp -/
def tMkx (C : Addr) (n m : Nat) (sp : Sp) (gV : List V → List V → List V) (t tk : TA) : TE := fun σ H Q => t σ H fun vs H1 => tk σ H1 fun zs H2 => vs.length = n ∧ zs.length = m ∧ n ≤ 1000 ∧
  ∀ a, H2 a = none → sp (gV (.ref a :: vs) zs) (upd H2 a (exo a C none)) (fun v H3 => v = .non ∧ Q (.ref a) H3) E0
section
variable {X : Cx} {k n : Nat} {C fI : Addr} {fd : FuncData} {ps ks : List Str} {sp : Sp} {x f : Str} {p pos p' : Pos} {e o : Expr} {es : List Expr} {kws : List Keyword} {te to : TE} {t tk : TA}
variable {g : List Value → List Value → List Value} {gV : List V → List V → List V}
theorem pe_xg (he : PE X e te) (hb : attributeBase e f X.env (eval e X.env) = eval e X.env := by rfl) : PE X (.Attribute e f pos) (tXg X.K f te) := by
  refine ⟨fun pins s σ H Q I h => attr_of hb (thn (he.run pins s σ H _ I h) fun u s1 hh => ?_)⟩
  obtain ⟨x, H1, I1, rx, a, D, fs, v, rfl, hA, T, hno, l, q⟩ := hh
  cases (show u = Value.ref a from rx)
  obtain ⟨ox, od, J, hl⟩ := ex_inst I1 hA
  obtain ⟨o, w, rfl, lo, ru⟩ := hl f v l
  exact HandSPX.exc_get I1.kIn J T.ga T.gg T.exC (PySem.W.findObj_own T.hdC hno rfl lo) (handed_of ru) ⟨v, H1, I1.tok _, ru, q⟩
theorem ps_osx (ho : PE X o to) (he : PE X e te) (hs : swapsWith e (some (.Attribute o f p')) pos.line X.env = pure false := by rfl) : PS X (.Assign [.Attribute o f p'] e pos) (tOsx X.K f to te) := by
  refine ⟨fun pins s σ H D I h => ?_⟩
  refine plainObj_wpAny_Assign_Attribute (thn (he.run pins s σ H _ I h) fun v s1 ⟨y, H1, I1, r1, q1⟩ => thn (ho.run pins s1 σ H1 _ I1 q1) fun u s2 hh => ?_) hs
  obtain ⟨x, H2, I2, r2, a, C, rfl, T, hno, q⟩ := hh
  cases (show u = Value.ref a from r2)
  rcases q with ⟨ea, q⟩ | ⟨dx, fs, ea, ed, hl, q⟩
  · exact st_first T I2 ea hno r1 fun dx s' n ne J => ⟨σ, _, J, q dx n ne⟩
  · exact st_next T I2 ea ed hl hno r1 fun s' J => ⟨σ, _, J, q⟩
/-- the call of the class, its arguments told -/
theorem run_mkx {pins : List (Addr × Obj)} {σ : L2.St} {H : Hp} {s : Shared} {Q : VK} {us ws : List Value} {vs zs : List V} (T : ExK X.K C) (iC : PySem.W.findIn X.K (.ref C) "__init__" = some (some (.ref fI))) (tI : PySem.W.typeIn X.K (.ref fI) = some (.type "function"))
    (F : FnOk X.prog X.w X.K X.mg X.base CX0 k fI fd ps sp) (hr : Room (k + 1) X.A) (hb : KBn X.K fd ps (n + 1) ks g gV) (I : Inv X pins σ H s) (r : Vals vs us) (rz : Vals zs ws) (l1 : vs.length = n) (l2 : zs.length = ks.length) (hn : n ≤ 1000)
    (h : ∀ a, H a = none → sp (gV (.ref a :: vs) zs) (upd H a (exo a C none)) (fun v H3 => v = .non ∧ Q (.ref a) H3) E0) :
    wpAny (model X.prog X.w) X.A (call (.ref C) us (ks.zip ws)) (EP X pins σ Q) X.xe s := by
  obtain ⟨newId, line, ⟨B, initId, S, bmB, FB, SF, L⟩, hi, hl⟩ := T.ln
  obtain ⟨nm, N, qn, bs, bm, hdct, sn, sub, ab, col, dd, k0, k1, k2, k3, k5, hC, hT⟩ := PySem.W.excInit_of I.kIn hi
  have L' : LineX B bm := ⟨(hT _).trans L.hB, (hT _).trans L.hA, (hT _).trans L.hN⟩
  obtain ⟨hp, gg, dr, tk, os⟩ := s
  have hsz : hp.objs.size ≤ hp.objs.size + 1 := Nat.le_succ _
  have kk : ∀ b o, hp.get? b = some o → ((hp.push (PySem.W.kdv_tup us)).push (PySem.HandSPX.excO C hp.objs.size)).get? b = some o := fun b o z => Heap.get?_push_of_some _ (Heap.get?_push_of_some _ z)
  have hget : ((hp.push (PySem.W.kdv_tup us)).push (PySem.HandSPX.excO C hp.objs.size)).get? (hp.objs.size + 1) = some (PySem.HandSPX.excO C hp.objs.size) := by heap_get
  have I2 : Inv X pins σ (upd H (hp.objs.size + 1) (exo (hp.objs.size + 1) C none)) ⟨(hp.push (PySem.W.kdv_tup us)).push (PySem.HandSPX.excO C hp.objs.size), gg, dr, tk, os⟩ :=
    I.laid (t' := tk) kk hsz (exo_ok hget)
  have hq := h (hp.objs.size + 1) (I.hok.fresh hsz)
  have r1 : Vals (V.ref (hp.objs.size + 1) :: vs) (Value.ref (hp.objs.size + 1) :: us) := .cons rfl r
  have lu : us.length = n := r.length.symm.trans l1
  have hus : us.length ≤ sizeLine := by
    rw [lu, sizeLine_eq]
    omega
  have e1 : (Value.ref (hp.objs.size + 1) :: us).length = n + 1 := congrArg Nat.succ lu
  have e2 : ws.length = ks.length := rz.length.symm.trans l2
  refine wpAny_call (mk_call FB L' hC hus (PySem.W.looks_findIn I.kIn iC) (fun self => PySem.W.bind_fn I.kIn self tI)
    (codeAny_mono (F.run _ X.stack _ _ ⟨Value.ref (hp.objs.size + 1) :: us, ks.zip ws⟩ (g (Value.ref (hp.objs.size + 1) :: us) ws) _ _ E0 (hr.make C us (ks.zip ws))
      (I2.env0.make C us (ks.zip ws)) (hb.to _ (Value.ref (hp.objs.size + 1) :: us) ws I2.kIn e1 e2) (hb.rel r1 rz) hq) fun r' s' hq' => ?_))
  cases r' with
  | error e => exact False.elim hq'
  | ok fl =>
    cases fl with
    | ret u =>
      obtain ⟨v, H', I3, rv, ev, q3⟩ := I2.after hq'
      subst ev
      exact ⟨rv, ⟨V.ref (hp.objs.size + 1), H', I3, rfl, q3⟩⟩
    | next => exact False.elim hq'
    | brk => exact False.elim hq'
    | cont => exact False.elim hq'
/-- what a caller knows of an own class of exceptions: its __init__ -/
structure Cx1 (P : Program) (w : World) (K : PySem.W.Frag) (mg : Str → Option Value) (base : Heap) (x : Str) (C : Addr) (n : Nat) (ks : List Str) (sp : Sp) (gV : List V → List V → List V) : Prop where
  ex : ∃ (fI : Addr) (fd : FuncData) (ps : List Str) (g : List Value → List Value → List Value), ExK K C ∧ mg x = some (.ref C) ∧ PySem.W.findIn K (.ref C) "__init__" = some (some (.ref fI)) ∧ PySem.W.typeIn K (.ref fI) = some (.type "function") ∧
    FnOk P w K mg base CX0 1 fI fd ps sp ∧ KBn K fd ps (n + 1) ks g gV
/-- C(e, ..) -/
theorem pe_mkx (c : Cx1 X.prog X.w X.K X.mg X.base x C n [] sp gV) (hr : Room 2 X.A) (hg : Gl X x) (ha : PA X (e :: es) t)
    (hdb : (x == ("__debug__" : Str)) = false := by decide) (he : starEach (e :: es) X.env = (false, eval e X.env) :: starEach es X.env := by rfl) (hpl : (backTo pos (starEach es X.env)).any (·.1) = false := by rfl) :
    PE X (.Call (.Name x p) (e :: es) [] pos) (tMkx C n 0 sp gV t tNil) := by
  obtain ⟨fI, fd, ps, g, T, hm, iC, tI, F, hb⟩ := c.ex
  refine ⟨fun pins s σ H Q I h => wpAny_Call_Name_kw (ld_glob I hg hm ?_ hdb)⟩
  refine PySem.W.callWith_K (h₀ := X.base) I.ok.mod.kin T.kC (thn (ha.run pos pins s σ H _ I h) fun us s1 hh => ?_) he hpl
  obtain ⟨vs, H1, I1, r, l1, _, hn, q⟩ := hh
  exact ⟨I1.kIn, run_mkx T iC tI F hr hb I1 r (ws := []) .nil l1 rfl hn q⟩
/-- C(k = e, ..) -/
theorem pe_mkk (c : Cx1 X.prog X.w X.K X.mg X.base x C 0 ks sp gV) (hr : Room 2 X.A) (hg : Gl X x) (hkw : PK X kws tk)
    (hall : (backToKw pos (keywordEach kws X.env)).all (·.1.isSome) = true := by rfl) (hks : (backToKw pos (keywordEach kws X.env)).filterMap (·.1) = ks := by rfl) (hdb : (x == ("__debug__" : Str)) = false := by decide)
    (hpl : ((backTo pos (starEach [] X.env)).any (·.1) || (backToKw pos (keywordEach kws X.env)).any (·.1.isNone)) = false := by rfl) :
    PE X (.Call (.Name x p) [] kws pos) (tMkx C 0 ks.length sp gV tNil tk) := by
  obtain ⟨fI, fd, ps, g, T, hm, iC, tI, F, hb⟩ := c.ex
  refine ⟨fun pins s σ H Q I h => wpAny_Call_Name_kw (ld_glob I hg hm ?_ hdb)⟩
  refine PySem.W.callWith_KW0 (h₀ := X.base) I.ok.mod.kin T.kC hall (thn (hkw.run pos pins s σ H _ I h) fun ws s2 hh => ?_) hpl
  obtain ⟨zs, H2, I2, rz, l1, l2, hn, q⟩ := hh
  refine ⟨I2.kIn, ?_⟩
  rw [hks]
  exact run_mkx T iC tI F hr hb I2 .nil rz l1 l2 hn q
/-- C() -/
theorem pe_mk0 (c : Cx1 X.prog X.w X.K X.mg X.base x C 0 [] sp gV) (hr : Room 2 X.A) (hg : Gl X x) (hdb : (x == ("__debug__" : Str)) = false := by decide) :
    PE X (.Call (.Name x p) [] [] pos) (tMkx C 0 0 sp gV tNil tNil) := by
  obtain ⟨fI, fd, ps, g, T, hm, iC, tI, F, hb⟩ := c.ex
  refine ⟨fun pins s σ H Q I h => wpAny_Call_Name_kw (ld_glob I hg hm ?_ hdb)⟩
  obtain ⟨_, _, hn, q⟩ := h
  exact PySem.W.callWith_K0 (I.tok _).kIn T.kC (run_mkx T iC tI F hr hb (I.tok _) .nil (ws := []) .nil rfl rfl hn q)
/-- what makes an exception as a value may be raised -/
theorem pmk_x (hx : X.ex = []) (he : PE X e te) :
    PMk X e (fun σ H Q => te σ H fun x H1 => ∃ (a C : Addr) (d : Option Addr), x = .ref a ∧ H1 a = some (exo a C d) ∧ Fr0 X.H_0 a ∧ ExK X.K C ∧ Q (.ref C) d (delH H1 a)) := by
  intro pins s σ H Q I h
  refine wpAny_mono (he.run pins s σ H _ I h) (fun u s1 hu => ?_) fun _ _ x => x
  obtain ⟨v, H1, I1, r1, a, C, d, rfl, ha, h0, T, q⟩ := hu
  cases (show u = Value.ref a from r1)
  obtain ⟨t1, ho⟩ := exo_at I1.hok ha
  obtain ⟨G, gs, ga, J⟩ := I1.untrack ha h0 hx
  exact ⟨a, _, _, { s1 with heap := G }, delH H1 a, .ref C, d, rfl, J, gs, ga, ho, ⟨rfl, rfl⟩, rfl, rfl, delH_same, rfl, I1.bare, raises_own T.exC T.tyC, q⟩
end
end Tp
set_option Elab.async false
set_option linter.all false
set_option maxRecDepth 100000
set_option maxHeartbeats 4000000
/-! what an __init__ that stores its arguments leaves; making such an exception -/
namespace Tp
open PySem PySem.Spec PyProof.Rows L2
def Has (fs : List (Str × V)) (ns : List Str) (vs : List V) : Prop := ∀ (k : Nat) (n : Str) (v : V), ns[k]? = some n → vs[k]? = some v → fs.lookup n = some v
def ExI (H : Hp) (a C : Addr) (ns : List Str) (vs : List V) : Prop := ∃ fs, ExAt H a C fs ∧ Has fs ns vs
theorem ExAt.mono {H H' : Hp} {a C : Addr} {fs : List (Str × V)} (k : Same H H') (h : ExAt H a C fs) : ExAt H' a C fs := by
  rcases h with ⟨e, h⟩ | ⟨dx, n, h1, h2⟩
  · exact .inl ⟨e, k _ _ h⟩
  · exact .inr ⟨dx, n, k _ _ h1, k _ _ h2⟩
theorem ExI.mono {H H' : Hp} {a C : Addr} {ns : List Str} {vs : List V} (k : Same H H') (h : ExI H a C ns vs) : ExI H' a C ns vs := by
  obtain ⟨fs, h1, h2⟩ := h
  exact ⟨fs, h1.mono k, h2⟩
/-- an __init__ that stores its arguments under the names ns -/
def spI (C : Addr) (ns : List Str) : Sp := fun vs H Q _ => ∃ (a : Addr) (xs : List V), vs = .ref a :: xs ∧ xs.length = ns.length ∧ H a = some (exo a C none) ∧ ∀ H', Keep a H H' → ExI H' a C ns xs → Q .non H'
section
variable {K : PySem.W.Frag} {C : Addr} {vs : List V} {H : Hp} {Q : VK} {E : XK} {n m : Str}
theorem ini_len {ns : List Str} (h : spI C ns vs H Q E) : vs.length = (("self" : Str) :: ns).length := by
  obtain ⟨a, xs, rfl, hl, _⟩ := h
  exact congrArg Nat.succ hl
theorem ini0 (h : spI C [] vs H Q E) : ∃ a, vs = [.ref a] ∧ Q .non H := by
  obtain ⟨a, xs, rfl, hl, ha, q⟩ := h
  cases xs with
  | cons x xs => cases hl
  | nil => exact ⟨a, rfl, q H (fun b o _ e => e) ⟨[], .inl ⟨rfl, ha⟩, fun k n v z _ => by cases z⟩⟩
theorem ini1 (h : spI C [n] vs H Q E) : ∃ (a : Addr) (x : V), vs = [.ref a, x] ∧ (ExK K C → PySem.W.findIn K (.ref C) n = some none →
    ∃ a' C' : Addr, V.ref a = .ref a' ∧ ExK K C' ∧ PySem.W.findIn K (.ref C') n = some none ∧ ((H a' = some (exo a' C' none) ∧ ∀ dx, H dx = none → dx ≠ a' → Q .non (upd (upd H dx (exd dx [(n, x)])) a' (exo a' C' (some dx)))) ∨
      ∃ (dx : Addr) (fs : List (Str × V)), H a' = some (exo a' C' (some dx)) ∧ H dx = some (exd dx fs) ∧ fs.length ≤ 900 ∧ Q .non (upd H dx (exd dx ((n, x) :: fs))))) := by
  obtain ⟨a, xs, rfl, hl, ha, q⟩ := h
  match xs, hl with
  | [x], _ =>
    refine ⟨a, x, rfl, fun T hn => ⟨a, C, rfl, T, hn, .inl ⟨ha, fun dx hd hne => q _ (fun b o hb e => ?_) ⟨[(n, x)], .inr ⟨dx, hne, upd_same, ?_⟩, fun k n' v h1 h2 => ?_⟩⟩⟩⟩
    · exact (upd_ne hb).trans ((upd_ne (ne_of_none e hd)).trans e)
    · exact (upd_ne hne).trans upd_same
    · cases k with
      | zero =>
        cases h1
        cases h2
        rw [lookup_put, if_pos rfl]
      | succ k => cases h1
theorem ini2 (hnm : n ≠ m) (h : spI C [n, m] vs H Q E) : ∃ (a : Addr) (x y : V), vs = [.ref a, x, y] ∧ (ExK K C → PySem.W.findIn K (.ref C) n = some none → PySem.W.findIn K (.ref C) m = some none → ∀ N : Hp → Prop,
    (∀ H2, (∃ a' C' : Addr, V.ref a = .ref a' ∧ ExK K C' ∧ PySem.W.findIn K (.ref C') m = some none ∧ ((H2 a' = some (exo a' C' none) ∧ ∀ dx, H2 dx = none → dx ≠ a' → Q .non (upd (upd H2 dx (exd dx [(m, y)])) a' (exo a' C' (some dx)))) ∨
      ∃ (dx : Addr) (fs : List (Str × V)), H2 a' = some (exo a' C' (some dx)) ∧ H2 dx = some (exd dx fs) ∧ fs.length ≤ 900 ∧ Q .non (upd H2 dx (exd dx ((m, y) :: fs))))) → N H2) →
    ∃ a' C' : Addr, V.ref a = .ref a' ∧ ExK K C' ∧ PySem.W.findIn K (.ref C') n = some none ∧ ((H a' = some (exo a' C' none) ∧ ∀ dx, H dx = none → dx ≠ a' → N (upd (upd H dx (exd dx [(n, x)])) a' (exo a' C' (some dx)))) ∨
      ∃ (dx : Addr) (fs : List (Str × V)), H a' = some (exo a' C' (some dx)) ∧ H dx = some (exd dx fs) ∧ fs.length ≤ 900 ∧ N (upd H dx (exd dx ((n, x) :: fs))))) := by
  obtain ⟨a, xs, rfl, hl, ha, q⟩ := h
  match xs, hl with
  | [x, y], _ =>
    refine ⟨a, x, y, rfl, fun T hn hm N hN => ⟨a, C, rfl, T, hn, .inl ⟨ha, fun dx hd hne => hN _ ⟨a, C, rfl, T, hm, .inr ⟨dx, _, upd_same, (upd_ne hne).trans upd_same, Nat.le_of_ble_eq_true rfl, ?_⟩⟩⟩⟩⟩
    have hne' : a ≠ dx := Ne.symm hne
    refine q _ (fun b o hb e => ?_) ⟨[(m, y), (n, x)], .inr ⟨dx, hne, (upd_ne hne').trans upd_same, upd_same⟩, fun k n' v h1 h2 => ?_⟩
    · have e1 : b ≠ dx := ne_of_none e hd
      exact (upd_ne e1).trans ((upd_ne hb).trans ((upd_ne e1).trans e))
    · match k with
      | 0 =>
        cases h1
        cases h2
        rw [lookup_put, if_neg hnm, lookup_put, if_pos rfl]
      | 1 =>
        cases h1
        cases h2
        rw [lookup_put, if_pos rfl]
      | k + 2 => cases h1
end
/-- an exception of C is made, its fields the values -/
def tMke (C : Addr) (ns : List Str) (t : TA) : TE := fun σ H Q => t σ H fun vs H1 => vs.length = ns.length ∧ ns.length ≤ 1000 ∧ ∀ a H', H1 a = none → Same H1 H' → ExI H' a C ns vs → Q (.ref a) H'
theorem PE.of {X : Cx} {e : Expr} {t t' : TE} (h : PE X e t) (k : ∀ σ H Q, t' σ H Q → t σ H Q) : PE X e t' := ⟨fun pins s σ H Q I q => h.run pins s σ H Q I (k σ H Q q)⟩
/-- by keywords: pm puts their values in the fields' order -/
def tMkk (C : Addr) (ns : List Str) (m : Nat) (pm : List V → List V) (tk : TA) : TE := fun σ H Q => tk σ H fun zs H1 => zs.length = m ∧ (pm zs).length = ns.length ∧ ∀ a H', H1 a = none → Same H1 H' → ExI H' a C ns (pm zs) → Q (.ref a) H'
theorem spI_of {C a : Addr} {ns : List Str} {H1 : Hp} {Q : VK} {ws : List V} (hl : ws.length = ns.length) (ha : H1 a = none) (q : ∀ a H', H1 a = none → Same H1 H' → ExI H' a C ns ws → Q (.ref a) H') : spI C ns (.ref a :: ws) (upd H1 a (exo a C none)) (fun v H3 => v = .non ∧ Q (.ref a) H3) E0 :=
  ⟨a, ws, rfl, hl, upd_same, fun H' k h => ⟨rfl, q a H' ha (fun b o eb => k b o (ne_of_none eb ha) ((upd_ne (ne_of_none eb ha)).trans eb)) h⟩⟩
section
variable {X : Cx} {n : Nat} {C : Addr} {ks ns : List Str} {x : Str} {p pos : Pos} {e : Expr} {es : List Expr} {kws : List Keyword} {t tk : TA} {pm : List V → List V}
/-- C(e, ..) -/
theorem pe_mke (c : Cx1 X.prog X.w X.K X.mg X.base x C ns.length [] (spI C ns) (fun vs _ => vs)) (hr : Room 2 X.A) (hg : Gl X x) (ha : PA X (e :: es) t)
    (hdb : (x == ("__debug__" : Str)) = false := by decide) (he : starEach (e :: es) X.env = (false, eval e X.env) :: starEach es X.env := by rfl) (hpl : (backTo pos (starEach es X.env)).any (·.1) = false := by rfl) :
    PE X (.Call (.Name x p) (e :: es) [] pos) (tMke C ns t) := by
  obtain ⟨fI, fd, ps, g, T, hm, iC, tI, F, hb⟩ := c.ex
  refine ⟨fun pins s σ H Q I h => wpAny_Call_Name_kw (ld_glob I hg hm ?_ hdb)⟩
  refine PySem.W.callWith_K (h₀ := X.base) I.ok.mod.kin T.kC (thn (ha.run pos pins s σ H _ I h) fun us s1 hh => ?_) he hpl
  obtain ⟨vs, H1, I1, r, l1, hn, q⟩ := hh
  exact ⟨I1.kIn, run_mkx T iC tI F hr hb I1 r (ws := []) .nil l1 rfl hn fun a ha => spI_of l1 ha q⟩
/-- C(k = e, ..) -/
theorem pe_mkke (c : Cx1 X.prog X.w X.K X.mg X.base x C 0 ks (spI C ns) (fun vs zs => vs ++ pm zs)) (hr : Room 2 X.A) (hg : Gl X x) (hkw : PK X kws tk)
    (hall : (backToKw pos (keywordEach kws X.env)).all (·.1.isSome) = true := by rfl) (hks : (backToKw pos (keywordEach kws X.env)).filterMap (·.1) = ks := by rfl) (hdb : (x == ("__debug__" : Str)) = false := by decide)
    (hpl : ((backTo pos (starEach [] X.env)).any (·.1) || (backToKw pos (keywordEach kws X.env)).any (·.1.isNone)) = false := by rfl) :
    PE X (.Call (.Name x p) [] kws pos) (tMkk C ns ks.length pm tk) := by
  obtain ⟨fI, fd, ps, g, T, hm, iC, tI, F, hb⟩ := c.ex
  refine ⟨fun pins s σ H Q I h => wpAny_Call_Name_kw (ld_glob I hg hm ?_ hdb)⟩
  refine PySem.W.callWith_KW0 (h₀ := X.base) I.ok.mod.kin T.kC hall (thn (hkw.run pos pins s σ H _ I h) fun ws s2 hh => ?_) hpl
  obtain ⟨zs, H2, I2, rz, l2, l3, q⟩ := hh
  refine ⟨I2.kIn, ?_⟩
  rw [hks]
  exact run_mkx T iC tI F hr hb I2 .nil rz rfl l2 (Nat.zero_le _) fun a ha => spI_of l3 ha q
/-- C() -/
theorem pe_mk0e (c : Cx1 X.prog X.w X.K X.mg X.base x C 0 [] (spI C []) (fun vs _ => vs)) (hr : Room 2 X.A) (hg : Gl X x) (hdb : (x == ("__debug__" : Str)) = false := by decide) :
    PE X (.Call (.Name x p) [] [] pos) (tMke C [] tNil) := by
  obtain ⟨fI, fd, ps, g, T, hm, iC, tI, F, hb⟩ := c.ex
  refine ⟨fun pins s σ H Q I h => wpAny_Call_Name_kw (ld_glob I hg hm ?_ hdb)⟩
  obtain ⟨_, _, q⟩ := h
  exact PySem.W.callWith_K0 (I.tok _).kIn T.kC (run_mkx T iC tI F hr hb (I.tok _) .nil (ws := []) .nil rfl rfl (Nat.zero_le _) fun a ha => spI_of rfl ha q)
/-- many made at once: what each is -/
def Many (H : Hp) : List Addr → List (Addr × List Str × List V) → Prop
  | [], [] => True
  | a :: as, c :: cs => ExI H a c.1 c.2.1 c.2.2 ∧ Many H as cs
  | _, _ => False
theorem Many.mono {H H' : Hp} (k : Same H H') : ∀ {as : List Addr} {cs : List (Addr × List Str × List V)}, Many H as cs → Many H' as cs
  | [], [], _ => True.intro
  | a :: as, c :: cs, h => ⟨h.1.mono k, Many.mono k h.2⟩
  | [], _ :: _, h => h.elim
  | _ :: _, [], h => h.elim
theorem Many.app {H : Hp} {bs : List Addr} {ds : List (Addr × List Str × List V)} (k : Many H bs ds) : ∀ {as : List Addr} {cs : List (Addr × List Str × List V)}, Many H as cs → Many H (as ++ bs) (cs ++ ds)
  | [], [], _ => k
  | a :: as, c :: cs, h => ⟨h.1, Many.app k h.2⟩
  | [], _ :: _, h => h.elim
  | _ :: _, [], h => h.elim
theorem Many.len {H : Hp} : ∀ {as : List Addr} {cs : List (Addr × List Str × List V)}, Many H as cs → as.length = cs.length
  | [], [], _ => rfl
  | a :: as, c :: cs, h => congrArg Nat.succ (Many.len h.2)
  | [], _ :: _, h => h.elim
  | _ :: _, [], h => h.elim
theorem Many.get {H : Hp} : ∀ {as : List Addr} {cs : List (Addr × List Str × List V)} (i : Nat) (a : Addr) (c : Addr × List Str × List V), Many H as cs → as[i]? = some a → cs[i]? = some c → ExI H a c.1 c.2.1 c.2.2
  | [], [], i, a, c, _, h1, _ => by cases h1
  | a :: as, c :: cs, 0, _, _, h, h1, h2 => by
    cases h1
    cases h2
    exact h.1
  | a :: as, c :: cs, i + 1, _, _, h, h1, h2 => Many.get i _ _ h.2 h1 h2
  | [], _ :: _, _, _, _, h, _, _ => h.elim
  | _ :: _, [], _, _, _, h, _, _ => h.elim
/-- a row of arguments, each of which makes an exception of what σ tells -/
def tMany (cs : L2.St → Option (List (Addr × List Str × List V))) : TA := fun σ H Q => ∃ c, cs σ = some c ∧ ∀ as H', Same H H' → Many H' as c → Q (as.map V.ref) H'
/-- one expression that makes one -/
def tOne (c : L2.St → Option (Addr × List Str × List V)) : TE := fun σ H Q => ∃ d, c σ = some d ∧ ∀ a H', H a = none → Same H H' → ExI H' a d.1 d.2.1 d.2.2 → Q (.ref a) H'
theorem pa_many0 : PA X [] (tMany fun _ => some []) := ⟨fun pos pins s σ H Q I h => by
  obtain ⟨c, e, q⟩ := h
  cases e
  exact pa_nil.run pos pins s σ H Q I (q [] H (fun _ _ e => e) True.intro)⟩
theorem pa_many {c : L2.St → Option (Addr × List Str × List V)} {cs : L2.St → Option (List (Addr × List Str × List V))} (h1 : PE X e (tOne c)) (h2 : PA X es (tMany cs)) (he : starEach (e :: es) X.env = (false, eval e X.env) :: starEach es X.env := by rfl) :
    PA X (e :: es) (tMany fun σ => (c σ).bind fun d => (cs σ).map fun ds => d :: ds) := ⟨fun pos pins s σ H Q I h => by
  obtain ⟨l, el, q⟩ := h
  obtain ⟨d, ed, el⟩ := Option.bind_eq_some_iff.mp el
  obtain ⟨ds, eds, rfl⟩ := Option.map_eq_some_iff.mp el
  refine (pa_cons h1 h2 he).run pos pins s σ H Q I ⟨d, ed, fun a H1 _ k1 x1 => ⟨ds, eds, fun as H2 k2 x2 => q (a :: as) H2 (fun b o eb => k2 b o (k1 b o eb)) ⟨x1.mono k2, x2⟩⟩⟩⟩
/-- the value of slot i, m times -/
theorem pa_rep {i : Nat} : ∀ {es : List Expr}, True → True := fun _ => True.intro
end
end Tp
set_option Elab.async false
set_option linter.all false
set_option maxRecDepth 100000
set_option maxHeartbeats 4000000
/-! isinstance of any value: plain data, an instance, an exception -/
namespace Tp
open PySem PySem.Spec PyProof.Rows L2
def IsR (K : PySem.W.Frag) (H : Hp) (v : V) (cv : Value) (b : Bool) : Prop := (∃ t, TyX K H v t ∧ PySem.W.kitOne K t cv = some b) ∨ ∃ (a D : Addr) (fs : List (Str × V)), v = .ref a ∧ ExAt H a D fs ∧ ExK K D ∧ PySem.W.kitOne K (.ref D) cv = some b
def IsA (K : PySem.W.Frag) (H : Hp) (v : V) (cs : List Value) (b : Bool) : Prop := (∃ t, TyX K H v t ∧ PySem.W.kitAny K t cs = some b) ∨ ∃ (a D : Addr) (fs : List (Str × V)), v = .ref a ∧ ExAt H a D fs ∧ ExK K D ∧ PySem.W.kitAny K (.ref D) cs = some b
def rIsD (K : PySem.W.Frag) : List V → Hp → VK → Prop := fun xs H Q => ∃ (v c : V) (cv : Value) (b : Bool), xs = [v, c] ∧ ClsV c cv ∧ IsR K H v cv b ∧ Q (.bl b) H
def rIsDT (K : PySem.W.Frag) : List V → Hp → VK → Prop := fun xs H Q => ∃ (v : V) (tp : Addr) (cs : List V) (us : List Value) (b : Bool), xs = [v, .ref tp] ∧ H tp = some (.tup cs) ∧ Paired ClsV cs us ∧ IsA K H v us b ∧ Q (.bl b) H
theorem call_isd {X : Cx} : CallR X (.builtin "isinstance") (rIsD X.K) := by
  intro pins s σ H xs us Q I r h
  obtain ⟨v, c, cv, b, e, k, hr, q⟩ := h
  rcases hr with ⟨t, ty, e1⟩ | ⟨a, D, fs, rfl, hA, T, e1⟩
  · exact call_isi pins s σ H xs us Q I r ⟨v, c, t, cv, b, e, k, ty, e1, q⟩
  · exact call_isx pins s σ H xs us Q I r ⟨a, D, fs, c, cv, b, e, hA, T, k, e1, q⟩
theorem call_isdT {X : Cx} : CallR X (.builtin "isinstance") (rIsDT X.K) := by
  intro pins s σ H xs us Q I r h
  obtain ⟨v, tp, cs, ws, b, e, hT, k, hr, q⟩ := h
  rcases hr with ⟨t, ty, e1⟩ | ⟨a, D, fs, rfl, hA, T, e1⟩
  · exact call_isiT pins s σ H xs us Q I r ⟨v, tp, cs, t, ws, b, e, hT, k, ty, e1, q⟩
  · exact call_isxT pins s σ H xs us Q I r ⟨a, D, fs, tp, cs, ws, b, e, hA, T, hT, k, e1, q⟩
theorem TyX.up {K : PySem.W.Frag} {H H' : Hp} (k : Same H H') {v : V} {t : Value} (h : TyX K H v t) : TyX K H' v t := by
  cases h with
  | base b =>
    cases b with
    | non => exact .base .non
    | bl x => exact .base (.bl x)
    | int i => exact .base (.int i)
    | str x => exact .base (.str x)
    | flt x => exact .base (.flt x)
    | lst e => exact .base (.lst (k _ _ e))
    | frz e => exact .base (.frz (k _ _ e))
    | tup e => exact .base (.tup (k _ _ e))
    | dK e => exact .base (.dK (k _ _ e))
    | dT e => exact .base (.dT (k _ _ e))
    | ins e cl ha hn htk hm => exact .base (.ins (k _ _ e) cl ha hn htk hm)
  | byt b => exact .byt b
  | set e => exact .set (k _ _ e)
  | kList e c => exact .kList e c
  | kTuple e c => exact .kTuple e c
  | kDict e c => exact .kDict e c
  | fTuple e => exact .fTuple (k _ _ e)
  | fDict e => exact .fDict (k _ _ e)
theorem IsA.mono {K : PySem.W.Frag} {H H' : Hp} {v : V} {cs : List Value} {b : Bool} (k : Same H H') (h : IsA K H v cs b) : IsA K H' v cs b := by
  rcases h with ⟨t, ty, e⟩ | ⟨a, D, fs, e1, hA, T, e⟩
  · exact .inl ⟨t, TyX.up k ty, e⟩
  · exact .inr ⟨a, D, fs, e1, hA.mono k, T, e⟩
theorem IsR.mono {K : PySem.W.Frag} {H H' : Hp} {v : V} {c : Value} {b : Bool} (k : Same H H') (h : IsR K H v c b) : IsR K H' v c b := by
  rcases h with ⟨t, ty, e⟩ | ⟨a, D, fs, e1, hA, T, e⟩
  · exact .inl ⟨t, TyX.up k ty, e⟩
  · exact .inr ⟨a, D, fs, e1, hA.mono k, T, e⟩
theorem none_put {H : Hp} {p q : Addr} {o : HO} (hq : H q = none) (hp : upd H q o p = none) : H p = none := by
  by_cases e : p = q
  · rw [e]
    exact hq
  · rwa [upd_ne e] at hp
end Tp
set_option Elab.async false
set_option linter.all false
set_option maxRecDepth 100000
set_option maxHeartbeats 4000000
/-! a list or a tuple as what is walked; enumerate of a tuple -/
namespace Tp
open PySem PySem.Spec PyProof.Rows L2
open Sem (wp)
theorem meets_enum_one {v : Value} {o : Obj} {H : Heap → Prop} (B : Begins v o H) :
    Meets (Builtin.«enumerate.__new__» ⟨[.type "enumerate", v], []⟩) (fun _ R s => H s.heap ∧
      R (.ok (.ret (.ref (s.heap.push o).objs.size))) { s with heap := (s.heap.push o).push { cls := .type "enumerate", data := .fields #[.none, .bool false, .ref s.heap.objs.size, rawInt 0, .none, .none] } }) :=
  .of_wp fun prog w A R s h => by
    obtain ⟨hp, g, d, tk, os⟩ := s; obtain ⟨h1, h⟩ := h
    have hsub := sub_enumerate
    have q1 : ∀ {A' : Around} {E : Value → Shared → Prop} {Q : Value → Shared → Prop}, Q (.ref hp.objs.size) ⟨hp.push o, g, d, tk, os⟩ → wpAny (model prog w) A' (pyIter v) Q E ⟨hp, g, d, tk, os⟩ :=
      fun q => B.iter prog w _ _ ⟨hp, g, d, tk, os⟩ _ h1 q
    wp_walk using q1
    refine wpAny_stack_any fun st => wpAny_pure ?_
    split
    · rename_i c _ _ _ _ _
      cases (c == Value.type "enumerate")
      · wp_walk using q1
        exact ⟨_, rfl, h⟩
      · wp_walk using q1
        exact ⟨_, rfl, h⟩
    · wp_walk using q1
      exact ⟨_, rfl, h⟩
section
variable {prog : Program} {w : World} {A : Around} {E : Value → Shared → Prop} {s : Shared}
theorem enum_one {v : Value} {o : Obj} {H : Heap → Prop} {Q : Value → Shared → Prop} (B : Begins v o H) (h1 : H s.heap) (hn : ∀ obj, argsOk "object.__init__" ⟨[obj, v], []⟩)
    (ht : checkTypeCall "enumerate" ⟨[v], []⟩ = pure ()) (hc : checkBuiltinCall "enumerate.__new__" ⟨[.type "enumerate", v], []⟩ = pure ())
    (h : ∀ h', IsEnum h' (s.heap.objs.size + 1) s.heap.objs.size 0 .none → h'.get? s.heap.objs.size = some o → h'.objs.size = s.heap.objs.size + 2 →
      (∀ b o, s.heap.get? b = some o → h'.get? b = some o) → Q (.ref (s.heap.objs.size + 1)) { s with heap := h' }) :
    wpAny (model prog w) A (call (.type "enumerate") [v]) Q E s := by
  refine callType_new F.called_enumerate (by decide) ht hc hn F.entry_enumerate_new
    (meets_enum_one B) ⟨h1, ?_⟩
  have hz : (s.heap.push o).objs.size = s.heap.objs.size + 1 := Heap.size_push ..
  show _ ∧ _
  rw [hz]
  have he : IsEnum ((s.heap.push o).push { cls := .type "enumerate", data := .fields #[.none, .bool false, .ref s.heap.objs.size, rawInt 0, .none, .none] }) (s.heap.objs.size + 1) s.heap.objs.size 0 .none := by
    have := Heap.get?_push_size (s.heap.push o) (o := { cls := .type "enumerate", data := .fields #[.none, .bool false, .ref s.heap.objs.size, rawInt 0, .none, .none] }) rfl
    rw [hz] at this; exact this
  refine ⟨⟨_, he, rfl⟩, h _ he (Heap.get?_push_of_some _ (Heap.get?_push_size _ B.free)) (by rw [Heap.size_push, hz]) fun b o x => Heap.get?_push_of_some _ (Heap.get?_push_of_some _ x)⟩
end
theorem enum_endT {prog : Program} {w : World} {A : Around} {E : Value → Shared → Prop} {s : Shared} {e it l : Addr} {i : Nat} {items : Array Value} {old : Value} {Q : Option Value → Shared → Prop} (hh : A.handled = none)
    (he : IsEnum s.heap e it i old) (hit : s.heap.IsTupleIter it l i) (hl : s.heap.IsTuple l items) (hx : items[i]? = none)
    (hQ : ∀ h', Heap.ExtBut it s.heap h' → Q none { s with heap := h' }) : wpAny (model prog w) A (pyNext (.ref e)) Q E s := by
  have hT : s.TypeIs (.ref e) "enumerate" := ⟨_, he, rfl⟩
  unfold pyNext
  refine wpAny_bind (wpAny_attempt (wpAny_callSpecial?_slot (name := Str.ofString "__next__") hT F.slot_enumerate_next
    (wpAny_call_entry F.slot_enumerate_next hT F.entry_enumerate_next ?_ (F.args_enumerate_next_1 _))))
  show wpAny _ _ (field (.ref e) 2 >>= _) _ _ _
  refine wpAny_bind (wpAny_field he rfl (x := .ref it) rfl ?_)
  refine wpAny_bind (wpAny_nextOf_tuple_end hh hit hl hx fun h' x he' hx' => ?_)
  obtain ⟨o, ho, hc⟩ := hx'
  refine wpAny_bind (wpAny_isInstance (T := "StopIteration") (b := true) ⟨o, ho, hc⟩ isSubtype_stop ?_)
  exact wpAny_pure (hQ _ he')
/-- the tuple at a as it stands at each turn, each item in a new pair -/
def IteT (K : PySem.W.Frag) (a : Addr) : It :=
  ⟨fun i H => ∃ (xs : List V) (x : V), SqT K H a xs ∧ xs[i]? = some x, fun i H v H' => ∃ T x, v = .ref T ∧ H T = none ∧ H' = upd H T (.tup [.int (i : Nat), x]) ∧ ∀ xs, SqT K H a xs → xs[i]? = some x, fun i H => ∃ xs : List V, SqT K H a xs ∧ xs.length ≤ i⟩
/-- how the iterator of a tuple stands, that of enumerate ahead of it -/
def DrT (t : Addr) (items : Array Value) (i : Nat) (h : Heap) (it : Addr) : Prop := h.IsTupleIter it t i ∧ h.IsTuple t items
theorem turn_enumT {P : Program} {w : World} {K : PySem.W.Frag} {elts : List Expr} {kk : Nat} {tpos : Pos} (a e it : Addr) (ha : a ≠ it) (hae : a ≠ e) :
    Turn P w K (.Tuple elts kk tpos) (IteT K a) [e, it] e (fun i h => (∃ old, IsEnum h e it ((i : Nat) : Int) old) ∧ h.IsTupleIter it a i ∧ e ≠ it) where
  mem := by simp
  obj := fun i h st b hb => by
    obtain ⟨⟨old, he⟩, ⟨o, ho, hc, hd⟩, _⟩ := st
    have e' : b = e ∨ b = it := by simpa using hb
    rcases e' with z | z
    · rw [z]; exact ⟨_, he, fun v q => nomatch q⟩
    · rw [z]; exact ⟨o, ho, fun v q => by rw [hd] at q; cases q⟩
  keep := fun i h h' st k => let ⟨⟨old, he⟩, hi, hne⟩ := st; ⟨⟨old, k e (by simp) _ he⟩, hi.at fun o q => k it (by simp) o q, hne⟩
  item := by
    intro X hP hw hK hc i pins s σ H E I hf st hg
    subst hP hw hK
    obtain ⟨⟨old, he⟩, hit, hne⟩ := st
    obtain ⟨xs, x, hq, hx⟩ := hg
    obtain ⟨its, rv, p, hz⟩ := I.tuple hq
    obtain ⟨u, hu, ru⟩ := rv.get hx
    have hel : e < s.heap.objs.size := Heap.lt_size he
    have hil : it < s.heap.objs.size := by obtain ⟨_, q, _⟩ := hit; exact Heap.lt_size q
    have hi : i < its.toArray.size := by
      have := (List.getElem?_eq_some_iff.mp hu).1
      simpa using this
    refine wpAny_pyNext_enum_itemD (i := i) (Draws.tuple (A := X.A.in1) (I.ok.hd hc) it a ha its.toArray) he ⟨hit, p⟩ hi hne (by simp [hne, hae.symm]) fun u' h' tk hu' ho st' hT hsz hk => ?_
    have eu : u' = u := by
      have h1 : its.toArray[i]? = some u' := hu'
      have h2 : its.toArray[i]? = some u := by simpa using hu
      rw [h1] at h2
      exact Option.some.inj h2
    subst eu
    refine ⟨_, rfl, wpAny_letOwnedTupleGo_enum (s := { s with heap := h', toks := tk + 1 }) ho fun h'' he' sb => ?_⟩
    have hT2 : h''.get? s.heap.objs.size = some { cls := .type "tuple", data := .seq #[.int i tk, u'] } := (sb.2 _ (Nat.ne_of_gt hel)).trans hT
    have new : ObjOk X.prog X.w (upd H s.heap.objs.size (.tup [.int (i : Nat), x])) h'' s.heap.objs.size (.tup [.int (i : Nat), x]) :=
      ⟨by show 2 ≤ sizeLine; decide, [.int i tk, u'], .cons ⟨_, rfl⟩ (.cons ru .nil), ⟨_, hT2, rfl, _, rfl⟩⟩
    have I1 : Inv X pins σ (upd H s.heap.objs.size (.tup [.int (i : Nat), x])) { s with heap := h'', toks := tk + 1 } :=
      I.turnedNew (ch := [e, it]) (fun b ob hb q => (sb.2 b (fun z => hb (by simp [z]))).trans (hk b ob (fun z => hb (by simp [z])) (fun z => hb (by simp [z])) q)) hf (Nat.le_refl _) new
    refine ⟨.ref s.heap.objs.size, _, I1, rfl, ⟨_, x, rfl, I.hok.fresh (Nat.le_refl _), rfl, fun ys hy => by rw [I.tuple_inj hy hq]; exact hx⟩, ⟨⟨u', ?_⟩, st'.1.at fun o q => (sb.2 it (Ne.symm hne)).trans q, hne⟩, fun b hb => ?_⟩
    · have e1 : ((i + 1 : Nat) : Int) = (i : Int) + 1 := by omega
      rw [e1]; exact he'
    · have hb' : b < s.heap.objs.size := by
        have e' : b = e ∨ b = it := by simpa using hb
        rcases e' with z | z
        · rw [z]; exact hel
        · rw [z]; exact hil
      rw [upd_ne (Nat.ne_of_lt hb')]
      exact (hf b hb).1
  done := by
    intro X hP hw hK hc i pins s σ H E I hf st hg
    subst hP hw hK
    obtain ⟨⟨old, he⟩, hit, hne⟩ := st
    obtain ⟨xs, hq, hx⟩ := hg
    obtain ⟨its, rv, p, hz⟩ := I.tuple hq
    obtain ⟨f0, f1, f2, f3, f4, f5⟩ := hf it (by simp)
    have hl := rv.length
    exact enum_endT (I.ok.hd hc) he hit p (by simp; omega) fun h' eb => ⟨rfl, I.turned (t' := s.toks) (fun b o hb q => eb b o hb q) f0 f1 f3 f4 f5⟩
  self := fun A i s Q E st h => let ⟨⟨_, he⟩, _⟩ := st; wpAny_pyIter_enum he h
def iEnumT (K : PySem.W.Frag) (ta : TA) : TI := fun σ H R => ta σ H fun vs H1 => ∃ a xs, vs = [.ref a] ∧ SqT K H1 a xs ∧ R (IteT K a) H1
theorem pi_enumT {X : Cx} {e : Expr} {ta : TA} {p pos tpos : Pos} {elts : List Expr} {kk : Nat} (hg : Gl X "enumerate") (hm : X.mg "enumerate" = none) (ha : PA X [e] ta) (hs : starEach [e] X.env = [(false, eval e X.env)] := by rfl) :
    PI X (.Tuple elts kk tpos) (.Call (.Name "enumerate" p) [e] [] pos) (iEnumT X.K ta) := by
  refine ⟨fun pins s σ H R I h => ?_⟩
  refine Call_ (ld_blt I hg hm boot_enumerate (PyProof.Rows.callWith_type1 (thn (ha.run pos pins s σ H _ I h) fun us s1 ⟨vs, H1, I1, r1, q1⟩ => ?_) hs rfl))
  obtain ⟨a, xs, ex, hq, q⟩ := q1
  subst ex
  cases r1 with
  | cons r rr =>
    cases rr
    cases r
    obtain ⟨its, rv, p', hz⟩ := I1.tuple hq
    have hal : a < s1.heap.objs.size := by obtain ⟨_, q, _⟩ := id p'; exact Heap.lt_size q
    refine enum_one (begins_tuple a its.toArray) p' (fun obj => F.args_object_init_2 obj _) (F.typeCall_enumerate_1 _) (F.newCall_enumerate_1 _) fun h' he hit hsz hk => wpAny_pyIter_enum he ?_
    have I2 : Inv X pins σ H1 { s1 with heap := h' } := I1.kept (t' := s1.toks) hk
    refine ⟨s1.heap.objs.size + 1, [s1.heap.objs.size + 1, s1.heap.objs.size], _, _, H1, rfl, I2, turn_enumT a (s1.heap.objs.size + 1) s1.heap.objs.size (Nat.ne_of_lt hal) (Nat.ne_of_lt (Nat.lt_succ_of_lt hal)), ⟨⟨.none, he⟩, ⟨_, hit, rfl, rfl⟩, Nat.succ_ne_self _⟩, fun b hb => ?_, q⟩
    have e' : b = s1.heap.objs.size + 1 ∨ b = s1.heap.objs.size := by simpa using hb
    have hle : s1.heap.objs.size ≤ b := by
      rcases e' with z | z
      · rw [z]; exact Nat.le_add_right _ _
      · rw [z]; exact Nat.le_refl _
    exact I1.fpOk hle (I1.hok.fresh hle)
theorem walk_enumT {K : PySem.W.Frag} {a : Addr} {xs : List V} : Walk (IteT K a) xs.length (fun H => SqT K H a xs) (YPair (fun i => some (.int (i : Nat))) (fun i => xs[i]?)) := by
  refine ⟨fun i _ hi q => ⟨xs, xs[i], q, by simp [hi]⟩, fun _ q => ⟨xs, q, Nat.le_refl _⟩, fun i H v H' _ q y => ?_⟩
  obtain ⟨T, x, h1, h2, h3, h4⟩ := y
  exact ⟨T, .int (i : Nat), x, h1, h2, h3, rfl, h4 xs q⟩
/-- one of two walks -/
def iOr (w1 w2 : TI) : TI := fun σ H R => w1 σ H R ∨ w2 σ H R
theorem pi_or {X : Cx} {tg iter : Expr} {w1 w2 : TI} (h1 : PI X tg iter w1) (h2 : PI X tg iter w2) : PI X tg iter (iOr w1 w2) :=
  ⟨fun pins s σ H R I h => h.elim (h1.run pins s σ H R I) (h2.run pins s σ H R I)⟩
/-- a list or a tuple stands there -/
def SqA (K : PySem.W.Frag) (H : Hp) (a : Addr) (xs : List V) : Prop := SqL K H a xs ∨ SqT K H a xs
def SeqR (K : PySem.W.Frag) (a : Addr) (H : Hp) (R : It → Hp → Prop) : Prop := ((∃ xs, SqL K H a xs) ∧ R (Itl K a) H) ∨ ((∃ xs, SqT K H a xs) ∧ R (Itt K a) H)
def EnumR (K : PySem.W.Frag) (a : Addr) (H : Hp) (R : It → Hp → Prop) : Prop := ((∃ xs, SqL K H a xs) ∧ R (Ite K a) H) ∨ ((∃ xs, SqT K H a xs) ∧ R (IteT K a) H)
/-- what is walked: a list or a tuple -/
def iSeq (K : PySem.W.Frag) (te : TE) : TI := fun σ H R => te σ H fun x H1 => ∃ a, x = .ref a ∧ SeqR K a H1 R
theorem pi_seq {X : Cx} {tg l : Expr} {tl : TE} (hl : PE X l tl) : PI X tg l (iSeq X.K tl) := by
  refine ⟨fun pins s σ H R I h => ?_⟩
  refine thn (hl.run pins s σ H _ I h) fun v s1 ⟨x, H1, I1, r1, q1⟩ => ?_
  obtain ⟨a, e, q⟩ := q1
  subst e
  cases r1
  rcases q with ⟨⟨xs, hq⟩, q⟩ | ⟨⟨xs, hq⟩, q⟩
  · obtain ⟨its, rv, p, hz⟩ := I1.list hq
    refine wpAny_pyIter_list p.isList ?_
    refine ⟨s1.heap.objs.size, [s1.heap.objs.size], _, _, H1, rfl, I1.kept (t' := s1.toks) fun b o e => Heap.get?_push_of_some _ e, turn_list a _, ⟨_, Heap.get?_push_size _ rfl, rfl, rfl⟩, fun b hb => ?_, q⟩
    have e : b = s1.heap.objs.size := by simpa using hb
    subst e
    exact I1.fpOk (Nat.le_refl _) (I1.hok.fresh (Nat.le_refl _))
  · obtain ⟨its, rv, p, hz⟩ := I1.tuple hq
    refine wpAny_pyIter_tuple (show s1.heap.IsTuple a its.toArray from p) ?_
    refine ⟨s1.heap.objs.size, [s1.heap.objs.size], _, _, H1, rfl, I1.kept (t' := s1.toks) fun b o e => Heap.get?_push_of_some _ e, turn_tuple a _, ⟨_, Heap.get?_push_size _ rfl, rfl, rfl⟩, fun b hb => ?_, q⟩
    have e : b = s1.heap.objs.size := by simpa using hb
    subst e
    exact I1.fpOk (Nat.le_refl _) (I1.hok.fresh (Nat.le_refl _))
/-- enumerate of a list or a tuple -/
def iEnumS (K : PySem.W.Frag) (ta : TA) : TI := fun σ H R => ta σ H fun vs H1 => ∃ a, vs = [.ref a] ∧ EnumR K a H1 R
theorem pi_enumS {X : Cx} {e : Expr} {ta : TA} {p pos tpos : Pos} {elts : List Expr} {kk : Nat} (hg : Gl X "enumerate") (hm : X.mg "enumerate" = none) (ha : PA X [e] ta) (hs : starEach [e] X.env = [(false, eval e X.env)] := by rfl) :
    PI X (.Tuple elts kk tpos) (.Call (.Name "enumerate" p) [e] [] pos) (iEnumS X.K ta) := by
  refine ⟨fun pins s σ H R I h => ?_⟩
  refine Call_ (ld_blt I hg hm boot_enumerate (PyProof.Rows.callWith_type1 (thn (ha.run pos pins s σ H _ I h) fun us s1 ⟨vs, H1, I1, r1, q1⟩ => ?_) hs rfl))
  obtain ⟨a, ex, hq⟩ := q1
  subst ex
  cases r1 with
  | cons r rr =>
    cases rr
    cases r
    have fin : ∀ b, b ∈ [s1.heap.objs.size + 1, s1.heap.objs.size] → s1.heap.objs.size ≤ b := fun b hb => by
      have e' : b = s1.heap.objs.size + 1 ∨ b = s1.heap.objs.size := by simpa using hb
      rcases e' with z | z
      · rw [z]; exact Nat.le_add_right _ _
      · rw [z]; exact Nat.le_refl _
    rcases hq with ⟨⟨xs, hq⟩, q⟩ | ⟨⟨xs, hq⟩, q⟩
    · obtain ⟨its, rv, p', hz⟩ := I1.list hq
      refine call_enumerate_list p'.isList fun h' he hit hsz hk => wpAny_pyIter_enum he ?_
      have I2 : Inv X pins σ H1 { s1 with heap := h' } := I1.kept (t' := s1.toks) hk
      exact ⟨s1.heap.objs.size + 1, [s1.heap.objs.size + 1, s1.heap.objs.size], _, _, H1, rfl, I2, turn_enum a (s1.heap.objs.size + 1) s1.heap.objs.size, ⟨⟨.none, he⟩, hit, Nat.succ_ne_self _⟩, fun b hb => I1.fpOk (fin b hb) (I1.hok.fresh (fin b hb)), q⟩
    · obtain ⟨its, rv, p', hz⟩ := I1.tuple hq
      have hal : a < s1.heap.objs.size := by obtain ⟨_, q, _⟩ := id p'; exact Heap.lt_size q
      refine enum_one (begins_tuple a its.toArray) p' (fun obj => F.args_object_init_2 obj _) (F.typeCall_enumerate_1 _) (F.newCall_enumerate_1 _) fun h' he hit hsz hk => wpAny_pyIter_enum he ?_
      have I2 : Inv X pins σ H1 { s1 with heap := h' } := I1.kept (t' := s1.toks) hk
      exact ⟨s1.heap.objs.size + 1, [s1.heap.objs.size + 1, s1.heap.objs.size], _, _, H1, rfl, I2, turn_enumT a (s1.heap.objs.size + 1) s1.heap.objs.size (Nat.ne_of_lt hal) (Nat.ne_of_lt (Nat.lt_succ_of_lt hal)), ⟨⟨.none, he⟩, ⟨_, hit, rfl, rfl⟩, Nat.succ_ne_self _⟩, fun b hb => I1.fpOk (fin b hb) (I1.hok.fresh (fin b hb)), q⟩
section
variable {K : PySem.W.Frag} {H H' : Hp} {a : Addr} {xs : List V}
theorem SqA.up (k : Same H H') (h : SqA K H a xs) : SqA K H' a xs := by
  rcases h with h | h
  · refine .inl ?_
    rcases h with (h | ⟨o, h⟩) | h
    · exact .inl (.inl (k _ _ h))
    · exact .inl (.inr ⟨o, k _ _ h⟩)
    · exact .inr h
  · refine .inr ?_
    rcases h with (h | ⟨o, h⟩) | h
    · exact .inl (.inl (k _ _ h))
    · exact .inl (.inr ⟨o, k _ _ h⟩)
    · exact .inr h
theorem upL (k : Same H H') (h : SqL K H a xs) : SqL K H' a xs := by
  rcases h with (h | ⟨o, h⟩) | h
  · exact .inl (.inl (k _ _ h))
  · exact .inl (.inr ⟨o, k _ _ h⟩)
  · exact .inr h
theorem upT (k : Same H H') (h : SqT K H a xs) : SqT K H' a xs := by
  rcases h with (h | ⟨o, h⟩) | h
  · exact .inl (.inl (k _ _ h))
  · exact .inl (.inr ⟨o, k _ _ h⟩)
  · exact .inr h
/-- the walk of a list or a tuple while all stands as it stood -/
theorem seq_it {R : It → Hp → Prop} (h : SqA K H a xs) (hR : ∀ J, Walk J xs.length (fun G => Same H G) (YAt xs) → R J H) : SeqR K a H R := by
  rcases h with h | h
  · exact .inl ⟨⟨xs, h⟩, hR _ (walk_list.mono (fun G k => upL k h) fun _ _ _ _ _ _ y => y)⟩
  · exact .inr ⟨⟨xs, h⟩, hR _ (walk_tup.mono (fun G k => upT k h) fun _ _ _ _ _ _ y => y)⟩
theorem enum_it {R : It → Hp → Prop} (h : SqA K H a xs) (hR : ∀ J, Walk J xs.length (fun G => Same H G) (YPair (fun i => some (.int (i : Nat))) (fun i => xs[i]?)) → R J H) : EnumR K a H R := by
  rcases h with h | h
  · exact .inl ⟨⟨xs, h⟩, hR _ (walk_enum.mono (fun G k => upL k h) fun _ _ _ _ _ _ y => y)⟩
  · exact .inr ⟨⟨xs, h⟩, hR _ (walk_enumT.mono (fun G k => upT k h) fun _ _ _ _ _ _ y => y)⟩
end
end Tp
namespace Tp
open PySem PySem.Spec PyProof.Rows L2
theorem lenA {K : PySem.W.Frag} {H : Hp} {a : Addr} {xs : List V} (h : SqA K H a xs) : LenV K (.ref a) H xs.length := h.elim (fun h => .inl ⟨xs, h, rfl⟩) fun h => .inr ⟨xs, h, rfl⟩
theorem ixA {K : PySem.W.Frag} {H : Hp} {a : Addr} {xs : List V} {i : Int} {v : V} {Q : VK} (h : SqA K H a xs) (e : atI xs i = some v) (q : Q v H) : rIxL K (.ref a) (.int i) H Q ∨ rIxT K (.ref a) (.int i) H Q :=
  h.elim (fun h => .inl ⟨a, xs, i, v, rfl, rfl, h, e, q⟩) fun h => .inr ⟨a, xs, i, v, rfl, rfl, h, e, q⟩
end Tp
set_option Elab.async false
set_option linter.all false
set_option maxRecDepth 100000
set_option maxHeartbeats 4000000
/-! calls of defs whose promises know the guards: by keywords, by methods, a new instance; parts that are never reached -/
namespace Tp
open PySem PySem.Spec PyProof.Rows L2
section
variable {X : Cx} {CX : CXT} {k n : Nat} {f C : Addr} {fd : FuncData} {ps ks : List Str} {sp : Sp} {E : XK} {x m : Str} {p pos apos : Pos} {e o : Expr} {es : List Expr} {kws : List Keyword} {te ta : TE} {t tk : TA}
variable {dvs : List V} {ds : List Value} {g : List Value → List Value → List Value} {gV : List V → List V → List V}
theorem run_g {pins : List (Addr × Obj)} {σ : L2.St} {H : Hp} {s : Shared} {Q : VK} {us : List Value} {vs : List V} (F : FnG X.prog X.w X.K X.mg X.base CX k f fd ps sp) (hr : Room k X.A) (hG : X.A.guards = some []) (hb : Binds X.K fd ps ds) (hd : Vals dvs ds) (hx : Passes CX X E)
    (I : Inv X pins σ H s) (r : Vals vs us) (h : sp (vs ++ dvs) H Q E) : wpAny (model X.prog X.w) X.A (call (.ref f) us) (EP X pins σ Q) X.xe s := by
  have r2 : Vals (vs ++ dvs) (us ++ ds) := r.append hd
  have hl : (us ++ ds).length = ps.length := by rw [← r2.length]; exact F.len _ _ _ _ h
  refine wpAny_call (codeAny_mono (F.run X.A X.stack s H ⟨us, []⟩ (us ++ ds) (vs ++ dvs) Q E hr hG I.env0 (hb s us I.kIn hl) r2 h) fun r s' hq => ?_)
  cases r with
  | error e => exact hx pins σ H s e s' I hq
  | ok fl =>
    cases fl with
    | ret u => exact I.after hq
    | next => exact False.elim hq
    | brk => exact False.elim hq
    | cont => exact False.elim hq
theorem run_gN {pins : List (Addr × Obj)} {σ : L2.St} {H : Hp} {s : Shared} {Q : VK} {us ws : List Value} {vs zs : List V} (F : FnG X.prog X.w X.K X.mg X.base CX k f fd ps sp) (hr : Room k X.A) (hG : X.A.guards = some []) (hb : KBn X.K fd ps n ks g gV) (hx : Passes CX X E)
    (I : Inv X pins σ H s) (r : Vals vs us) (rz : Vals zs ws) (l1 : vs.length = n) (l2 : zs.length = ks.length) (h : sp (gV vs zs) H Q E) : wpAny (model X.prog X.w) X.A (call (.ref f) us (ks.zip ws)) (EP X pins σ Q) X.xe s := by
  have r2 := hb.rel r rz
  refine wpAny_call (codeAny_mono (F.run X.A X.stack s H ⟨us, ks.zip ws⟩ (g us ws) (gV vs zs) Q E hr hG I.env0 (hb.to s us ws I.kIn (r.length.symm.trans l1) (rz.length.symm.trans l2)) r2 h) fun r s' hq => ?_)
  cases r with
  | error e => exact hx pins σ H s e s' I hq
  | ok fl =>
    cases fl with
    | ret u => exact I.after hq
    | next => exact False.elim hq
    | brk => exact False.elim hq
    | cont => exact False.elim hq
theorem run_gmake {pins : List (Addr × Obj)} {σ : L2.St} {H : Hp} {s : Shared} {Q : VK} {us : List Value} {vs : List V} (M : Mk X.K C f) (F : FnG X.prog X.w X.K X.mg X.base CX k f fd ps sp) (hr : Room (k + 1) X.A) (hG : X.A.guards = some []) (hb : Binds X.K fd ps ds) (hd : Vals dvs ds)
    (hx : Passes CX X E) (I : Inv X pins σ H s) (r : Vals vs us)
    (h : ∀ x dx, H x = none → H dx = none → dx ≠ x → sp (.ref x :: (vs ++ dvs)) (upd (upd H dx (.own x)) x (.ins C dx [])) (fun v H2 => v = .non ∧ Q (.ref x) H2) E) :
    wpAny (model X.prog X.w) X.A (call (.ref C) us) (EP X pins σ Q) X.xe s := by
  have hq := h (s.heap.objs.size + 1) s.heap.objs.size (I.hok.fresh (Nat.le_succ _)) (I.hok.fresh (Nat.le_refl _)) (Nat.ne_of_lt (Nat.lt_succ_self _))
  have I2 := Inv.made (C := C) I
  have r2 : Vals (V.ref (s.heap.objs.size + 1) :: (vs ++ dvs)) (Value.ref (s.heap.objs.size + 1) :: (us ++ ds)) := .cons rfl (r.append hd)
  have hl : (Value.ref (s.heap.objs.size + 1) :: us ++ ds).length = ps.length := by
    have e := r2.length
    rw [F.len _ _ _ _ hq] at e
    exact e.symm
  refine wpAny_call (make_map (f := f) I.kIn M.makes M.init (beq_iff_eq.mp M.fn) (codeAny_mono (F.run _ X.stack _ _ ⟨Value.ref (s.heap.objs.size + 1) :: us, []⟩ (Value.ref (s.heap.objs.size + 1) :: (us ++ ds)) _ _ E (hr.make C us []) hG
    (I2.env0.make C us []) (hb _ (Value.ref (s.heap.objs.size + 1) :: us) I2.kIn hl) r2 hq) fun r s' hq' => ?_))
  cases r with
  | error e => exact hx pins σ _ _ e s' I2 hq'
  | ok fl =>
    cases fl with
    | ret u =>
      obtain ⟨v, H', I3, rv, ev, q3⟩ := I2.after hq'
      subst ev
      exact ⟨rv, ⟨V.ref (s.heap.objs.size + 1), H', I3, rfl, q3⟩⟩
    | next => exact False.elim hq'
    | brk => exact False.elim hq'
    | cont => exact False.elim hq'
theorem pe_gd (F : FnG X.prog X.w X.K X.mg X.base CX k f fd ps sp) (hr : Room k X.A) (hG : X.A.guards = some []) (hg : Gl X x) (hm : X.mg x = some (.ref f)) (hk : PySem.W.keepIn X.K (.ref f) = true) (hb : Binds X.K fd ps ds) (hd : Vals dvs ds) (hx : Passes CX X E)
    (ha : PA X (e :: es) t) (hdb : (x == ("__debug__" : Str)) = false := by decide) (he : starEach (e :: es) X.env = (false, eval e X.env) :: starEach es X.env := by rfl) (hpl : (backTo pos (starEach es X.env)).any (·.1) = false := by rfl) :
    PE X (.Call (.Name x p) (e :: es) [] pos) (tCall sp dvs E t) := by
  refine ⟨fun pins s σ H Q I h => ?_⟩
  refine wpAny_Call_Name_kw (ld_glob I hg hm ?_ hdb)
  refine PySem.W.callWith_K (h₀ := X.base) I.ok.mod.kin hk (thn (ha.run pos pins s σ H _ I h) fun us s1 ⟨vs, H1, I1, r, q⟩ => ⟨I1.kIn, ?_⟩) he hpl
  exact run_g F hr hG hb hd hx I1 r q
theorem pe_gmake (M : Mk X.K C f) (F : FnG X.prog X.w X.K X.mg X.base CX k f fd ps sp) (hr : Room (k + 1) X.A) (hG : X.A.guards = some []) (hg : Gl X x) (hm : X.mg x = some (.ref C)) (hb : Binds X.K fd ps ds) (hd : Vals dvs ds) (hx : Passes CX X E)
    (ha : PA X (e :: es) t) (hdb : (x == ("__debug__" : Str)) = false := by decide) (he : starEach (e :: es) X.env = (false, eval e X.env) :: starEach es X.env := by rfl) (hpl : (backTo pos (starEach es X.env)).any (·.1) = false := by rfl) :
    PE X (.Call (.Name x p) (e :: es) [] pos) (tMake C sp dvs E t) := by
  refine ⟨fun pins s σ H Q I h => ?_⟩
  refine wpAny_Call_Name_kw (ld_glob I hg hm ?_ hdb)
  refine PySem.W.callWith_K (h₀ := X.base) I.ok.mod.kin M.kp (thn (ha.run pos pins s σ H _ I h) fun us s1 ⟨vs, H1, I1, r, q⟩ => ⟨I1.kIn, ?_⟩) he hpl
  exact run_gmake M F hr hG hb hd hx I1 r q
theorem pe_gmake0 (M : Mk X.K C f) (F : FnG X.prog X.w X.K X.mg X.base CX k f fd ps sp) (hr : Room (k + 1) X.A) (hG : X.A.guards = some []) (hg : Gl X x) (hm : X.mg x = some (.ref C)) (hb : Binds X.K fd ps ds) (hd : Vals dvs ds) (hx : Passes CX X E)
    (hdb : (x == ("__debug__" : Str)) = false := by decide) : PE X (.Call (.Name x p) [] [] pos) (tMake C sp dvs E tNil) := by
  refine ⟨fun pins s σ H Q I h => ?_⟩
  refine wpAny_Call_Name_kw (ld_glob I hg hm ?_ hdb)
  exact PySem.W.callWith_K0 I.kIn M.kp (run_gmake (us := []) M F hr hG hb hd hx I .nil h)
theorem pe_gmeth {pl : Sem Bool} (he : PE X o ta) (c : Cls X.K C) (hm : Meth X.K C m f) (F : FnG X.prog X.w X.K X.mg X.base CX k f fd ps sp) (hr : Room k X.A) (hG : X.A.guards = some []) (hb : Binds X.K fd ps ds) (hd : Vals dvs ds) (hx : Passes CX X E) (ha : PA X (e :: es) t)
    (hst : starEach (e :: es) X.env = (false, eval e X.env) :: starEach es X.env := by rfl) (hpl : (backTo pos (starEach es X.env)).any (·.1) = false := by rfl)
    (ht : eval (.Call (.Attribute o m apos) (e :: es) [] pos) X.env = (do
      let ov ← eval o X.env
      standAt apos.atName
      let (f, first) ← holding [ov] (getMethod ov m pl)
      callWith pos f first (backTo pos (starEach (e :: es) X.env)) (backToKw pos (keywordEach [] X.env))) := by rfl) :
    PE X (.Call (.Attribute o m apos) (e :: es) [] pos) (tMeth C m sp dvs E ta t) := by
  refine ⟨fun pins s σ H Q I h => ?_⟩
  refine PySem.W.methodCall_KW (pl := pl) (thn (he.run pins s σ H _ I h) fun u s1 ⟨x, H1, I1, rx, a, dx, fs, ex, ea, l, q⟩ => ?_) ht
  subst ex
  obtain rfl : u = Value.ref a := rx
  refine getmeth_ok I1 ea c hm l ?_
  refine PySem.W.callWith_K (first := [.ref a]) (h₀ := X.base) I.ok.mod.kin hm.kp (thn (ha.run pos pins s1 σ H1 _ I1 q) fun us s2 ⟨vs, H2, I2, r, q2⟩ => ⟨I2.kIn, ?_⟩) hst hpl
  exact run_g (us := .ref a :: us) (vs := .ref a :: vs) F hr hG hb hd hx I2 (.cons rfl r) q2
theorem pe_gmeth0 {pl : Sem Bool} (he : PE X o ta) (c : Cls X.K C) (hm : Meth X.K C m f) (F : FnG X.prog X.w X.K X.mg X.base CX k f fd ps sp) (hr : Room k X.A) (hG : X.A.guards = some []) (hb : Binds X.K fd ps ds) (hd : Vals dvs ds) (hx : Passes CX X E)
    (ht : eval (.Call (.Attribute o m apos) [] [] pos) X.env = (do
      let ov ← eval o X.env
      standAt apos.atName
      let (f, first) ← holding [ov] (getMethod ov m pl)
      callWith pos f first (backTo pos (starEach [] X.env)) (backToKw pos (keywordEach [] X.env))) := by rfl) :
    PE X (.Call (.Attribute o m apos) [] [] pos) (tMeth C m sp dvs E ta tNil) := by
  refine ⟨fun pins s σ H Q I h => ?_⟩
  refine PySem.W.methodCall_KW (pl := pl) (thn (he.run pins s σ H _ I h) fun u s1 ⟨x, H1, I1, rx, a, dx, fs, ex, ea, l, q⟩ => ?_) ht
  subst ex
  obtain rfl : u = Value.ref a := rx
  refine getmeth_ok I1 ea c hm l ?_
  exact PySem.W.callWith_K0 (first := [.ref a]) I1.kIn hm.kp (run_g (us := [.ref a]) (vs := [.ref a]) F hr hG hb hd hx I1 (.cons rfl .nil) q)
theorem pe_gN (F : FnG X.prog X.w X.K X.mg X.base CX k f fd ps sp) (hr : Room k X.A) (hG : X.A.guards = some []) (hg : Gl X x) (hm : X.mg x = some (.ref f)) (hk : PySem.W.keepIn X.K (.ref f) = true) (hb : KBn X.K fd ps n ks g gV) (hx : Passes CX X E)
    (ha : PA X (e :: es) t) (hkw : PK X kws tk) (hall : (backToKw pos (keywordEach kws X.env)).all (·.1.isSome) = true := by rfl) (hks : (backToKw pos (keywordEach kws X.env)).filterMap (·.1) = ks := by rfl)
    (hdb : (x == ("__debug__" : Str)) = false := by decide) (he : starEach (e :: es) X.env = (false, eval e X.env) :: starEach es X.env := by rfl)
    (hpl : ((backTo pos (starEach (e :: es) X.env)).any (·.1) || (backToKw pos (keywordEach kws X.env)).any (·.1.isNone)) = false := by rfl) :
    PE X (.Call (.Name x p) (e :: es) kws pos) (tCallN n ks.length sp gV E t tk) := by
  refine ⟨fun pins s σ H Q I h => ?_⟩
  refine wpAny_Call_Name_kw (ld_glob I hg hm ?_ hdb)
  refine PySem.W.callWith_KW (h₀ := X.base) I.ok.mod.kin hk hall (thn (ha.run pos pins s σ H _ I h) fun us s1 ⟨vs, H1, I1, r, q⟩ => ?_) hpl he
  refine thn (hkw.run pos pins s1 σ H1 _ I1 q) fun ws s2 ⟨zs, H2, I2, rz, l1, l2, q2⟩ => ⟨I2.kIn, ?_⟩
  rw [hks]
  exact run_gN F hr hG hb hx I2 r rz l1 l2 q2
theorem pe_gN0 (F : FnG X.prog X.w X.K X.mg X.base CX k f fd ps sp) (hr : Room k X.A) (hG : X.A.guards = some []) (hg : Gl X x) (hm : X.mg x = some (.ref f)) (hk : PySem.W.keepIn X.K (.ref f) = true) (hb : KBn X.K fd ps 0 ks g gV) (hx : Passes CX X E) (hkw : PK X kws tk)
    (hall : (backToKw pos (keywordEach kws X.env)).all (·.1.isSome) = true := by rfl) (hks : (backToKw pos (keywordEach kws X.env)).filterMap (·.1) = ks := by rfl) (hdb : (x == ("__debug__" : Str)) = false := by decide)
    (hpl : ((backTo pos (starEach [] X.env)).any (·.1) || (backToKw pos (keywordEach kws X.env)).any (·.1.isNone)) = false := by rfl) :
    PE X (.Call (.Name x p) [] kws pos) (tCallN 0 ks.length sp gV E tNil tk) := by
  refine ⟨fun pins s σ H Q I h => wpAny_Call_Name_kw (ld_glob I hg hm ?_ hdb)⟩
  refine PySem.W.callWith_KW0 (h₀ := X.base) I.ok.mod.kin hk hall (thn (hkw.run pos pins s σ H _ I h) fun ws s2 hh => ?_) hpl
  obtain ⟨zs, H2, I2, rz, l1, l2, q2⟩ := hh
  refine ⟨I2.kIn, ?_⟩
  rw [hks]
  exact run_gN F hr hG hb hx I2 .nil rz l1 l2 q2
end
/-- what a caller knows of a def that is called by keywords too -/
structure Cn (P : Program) (w : World) (K : PySem.W.Frag) (mg : Str → Option Value) (base : Heap) (k : Nat) (x : Str) (n : Nat) (ks : List Str) (gV : List V → List V → List V) (sp : Sp) : Prop where
  ex : ∃ (f : Addr) (fd : FuncData) (ps : List Str) (g : List Value → List Value → List Value), FnG P w K mg base CX0 k f fd ps sp ∧ mg x = some (.ref f) ∧ PySem.W.keepIn K (.ref f) = true ∧ KBn K fd ps n ks g gV
section
variable {X : Cx} {j k n : Nat} {ks : List Str} {sp : Sp} {x : Str} {p pos : Pos} {e : Expr} {es : List Expr} {kws : List Keyword} {t tk : TA} {gV : List V → List V → List V}
theorem pe_cn (c : Cn X.prog X.w X.K X.mg X.base j x n ks gV sp) (hr : Room k X.A) (hG : X.A.guards = some []) (hk : j ≤ k) (hg : Gl X x)
    (ha : PA X (e :: es) t) (hkw : PK X kws tk) (hall : (backToKw pos (keywordEach kws X.env)).all (·.1.isSome) = true := by rfl) (hks : (backToKw pos (keywordEach kws X.env)).filterMap (·.1) = ks := by rfl)
    (hdb : (x == ("__debug__" : Str)) = false := by decide) (he : starEach (e :: es) X.env = (false, eval e X.env) :: starEach es X.env := by rfl)
    (hpl : ((backTo pos (starEach (e :: es) X.env)).any (·.1) || (backToKw pos (keywordEach kws X.env)).any (·.1.isNone)) = false := by rfl) :
    PE X (.Call (.Name x p) (e :: es) kws pos) (tCallN n ks.length sp gV E0 t tk) := by
  obtain ⟨f, fd, ps, g, F, hm, hkp, hb⟩ := c.ex
  exact pe_gN F (hr.mono hk) hG hg hm hkp hb pass0 ha hkw hall hks hdb he hpl
theorem pe_cn0 (c : Cn X.prog X.w X.K X.mg X.base j x 0 ks gV sp) (hr : Room k X.A) (hG : X.A.guards = some []) (hk : j ≤ k) (hg : Gl X x) (hkw : PK X kws tk)
    (hall : (backToKw pos (keywordEach kws X.env)).all (·.1.isSome) = true := by rfl) (hks : (backToKw pos (keywordEach kws X.env)).filterMap (·.1) = ks := by rfl) (hdb : (x == ("__debug__" : Str)) = false := by decide)
    (hpl : ((backTo pos (starEach [] X.env)).any (·.1) || (backToKw pos (keywordEach kws X.env)).any (·.1.isNone)) = false := by rfl) :
    PE X (.Call (.Name x p) [] kws pos) (tCallN 0 ks.length sp gV E0 tNil tk) := by
  obtain ⟨f, fd, ps, g, F, hm, hkp, hb⟩ := c.ex
  exact pe_gN0 F (hr.mono hk) hG hg hm hkp hb pass0 hkw hall hks hdb hpl
end
/-- what a caller knows of a class of the text: how an instance is made -/
structure Cm (P : Program) (w : World) (K : PySem.W.Frag) (mg : Str → Option Value) (base : Heap) (k : Nat) (x : Str) (C : Addr) (dvs : List V) (sp : Sp) : Prop where
  ex : ∃ (f : Addr) (fd : FuncData) (ps : List Str) (ds : List Value), Mk K C f ∧ FnG P w K mg base CX0 k f fd ps sp ∧ mg x = some (.ref C) ∧ Binds K fd ps ds ∧ Vals dvs ds
section
variable {X : Cx} {j k n : Nat} {sp : Sp} {x : Str} {C : Addr} {dvs : List V} {p pos : Pos} {e : Expr} {es : List Expr} {t : TA}
theorem pe_cm (c : Cm X.prog X.w X.K X.mg X.base j x C dvs sp) (hr : Room k X.A) (hG : X.A.guards = some []) (hk : j + 1 ≤ k) (hg : Gl X x)
    (ha : PA X (e :: es) t) (hdb : (x == ("__debug__" : Str)) = false := by decide) (he : starEach (e :: es) X.env = (false, eval e X.env) :: starEach es X.env := by rfl) (hpl : (backTo pos (starEach es X.env)).any (·.1) = false := by rfl) :
    PE X (.Call (.Name x p) (e :: es) [] pos) (tMake C sp dvs E0 t) := by
  obtain ⟨f, fd, ps, ds, M, F, hm, hb, hd⟩ := c.ex
  exact pe_gmake M F (hr.mono hk) hG hg hm hb hd pass0 ha hdb he hpl
theorem pe_cm0 (c : Cm X.prog X.w X.K X.mg X.base j x C dvs sp) (hr : Room k X.A) (hG : X.A.guards = some []) (hk : j + 1 ≤ k) (hg : Gl X x)
    (hdb : (x == ("__debug__" : Str)) = false := by decide) : PE X (.Call (.Name x p) [] [] pos) (tMake C sp dvs E0 tNil) := by
  obtain ⟨f, fd, ps, ds, M, F, hm, hb, hd⟩ := c.ex
  exact pe_gmake0 M F (hr.mono hk) hG hg hm hb hd pass0 hdb
end
/-- what a caller knows of a method -/
structure Ct (P : Program) (w : World) (K : PySem.W.Frag) (mg : Str → Option Value) (base : Heap) (k : Nat) (C : Addr) (m : Str) (dvs : List V) (sp : Sp) : Prop where
  ex : ∃ (f : Addr) (fd : FuncData) (ps : List Str) (ds : List Value), Cls K C ∧ Meth K C m f ∧ FnG P w K mg base CX0 k f fd ps sp ∧ Binds K fd ps ds ∧ Vals dvs ds
section
variable {X : Cx} {j k n : Nat} {sp : Sp} {m : Str} {C : Addr} {dvs : List V} {p pos apos : Pos} {e o : Expr} {es : List Expr} {t : TA} {ta : TE}
theorem pe_ct {pl : Sem Bool} (he : PE X o ta) (c : Ct X.prog X.w X.K X.mg X.base j C m dvs sp) (hr : Room k X.A) (hG : X.A.guards = some []) (hk : j ≤ k) (ha : PA X (e :: es) t)
    (hst : starEach (e :: es) X.env = (false, eval e X.env) :: starEach es X.env := by rfl) (hpl : (backTo pos (starEach es X.env)).any (·.1) = false := by rfl)
    (ht : eval (.Call (.Attribute o m apos) (e :: es) [] pos) X.env = (do
      let ov ← eval o X.env
      standAt apos.atName
      let (f, first) ← holding [ov] (getMethod ov m pl)
      callWith pos f first (backTo pos (starEach (e :: es) X.env)) (backToKw pos (keywordEach [] X.env))) := by rfl) :
    PE X (.Call (.Attribute o m apos) (e :: es) [] pos) (tMeth C m sp dvs E0 ta t) := by
  obtain ⟨f, fd, ps, ds, cl, hm, F, hb, hd⟩ := c.ex
  exact pe_gmeth (pl := pl) he cl hm F (hr.mono hk) hG hb hd pass0 ha hst hpl ht
theorem pe_ct0 {pl : Sem Bool} (he : PE X o ta) (c : Ct X.prog X.w X.K X.mg X.base j C m dvs sp) (hr : Room k X.A) (hG : X.A.guards = some []) (hk : j ≤ k)
    (ht : eval (.Call (.Attribute o m apos) [] [] pos) X.env = (do
      let ov ← eval o X.env
      standAt apos.atName
      let (f, first) ← holding [ov] (getMethod ov m pl)
      callWith pos f first (backTo pos (starEach [] X.env)) (backToKw pos (keywordEach [] X.env))) := by rfl) :
    PE X (.Call (.Attribute o m apos) [] [] pos) (tMeth C m sp dvs E0 ta tNil) := by
  obtain ⟨f, fd, ps, ds, cl, hm, F, hb, hd⟩ := c.ex
  exact pe_gmeth0 (pl := pl) he cl hm F (hr.mono hk) hG hb hd pass0 ht
end
/-! ### name = {k: v for ..} on one line, the name a local -/
section
variable {X : Cx}
theorem ps_setDc {i : Nat} {y : Str} {py : Pos} {kx vx tg iter : Expr} {ifs : List Expr} {scope : Scope} {own : List (Str × Nat)} {pos spos : Pos} {wi : TI} {g : TG} {tt : TT} {tk tv : TE} (hc : X.calm = true) (hN : X.N.Nodup) (hy : X.N[i]? = some y) (hyl : X.env.scope.names.lookup y = some .local)
    (hsw : swapsWith (.DictComp kx vx [⟨tg, iter, ifs, 0⟩] scope pos) (some (.Name y py)) spos.line X.env = pure true) (hi : PI X tg iter wi) (ok : BlkOk X.N X.env.scope scope own)
    (hg : ∀ (s : Shared) (H : Hp) (C : Addr) (cl : List (Str × Addr)) (fp : List Addr), PG (X.blk s H scope (compEnvC scope cl C X.env) fp) tg g) (ht : ∀ (s : Shared) (H : Hp) (C : Addr) (cl : List (Str × Addr)) (fp : List Addr), PTs (X.blk s H scope (compEnvC scope cl C X.env) fp) ifs tt)
    (hk : ∀ (s : Shared) (H : Hp) (C : Addr) (cl : List (Str × Addr)) (fp : List Addr), PE (X.blk s H scope (compEnvC scope cl C X.env) fp) kx tk)
    (he : ∀ (s : Shared) (H : Hp) (C : Addr) (cl : List (Str × Addr)) (fp : List Addr), PE (X.blk s H scope (compEnvC scope cl C X.env) fp) vx tv) (hs : ∀ x, foldedSetIterable iter X.env x = pure x := by intro _; rfl) :
    PS X (.Assign [.Name y py] (.DictComp kx vx [⟨tg, iter, ifs, 0⟩] scope pos) spos) (tAsg (tDc wi g tt tk tv (own.map (·.2))) (gName i)) := by
  refine ⟨fun pins s σ H D I h => ?_⟩
  rw [exec_Assign_Name_used _ _ _ _ hsw]
  refine wpAny_bind (wpAny_standAt (wpAny_bind ?_))
  show wpAny _ X.A (do let _ ← comprehension (.DictComp kx vx [⟨tg, iter, ifs, 0⟩] scope pos) scope X.env (firstIterPos [⟨tg, iter, ifs, 0⟩] pos) newDict false (eval iter X.env) (some (assign (.Name y py) X.env))) _ _ s
  have h : tDc wi g tt tk tv (own.map (·.2)) σ H (fun x H1 => gName i x σ H1 D.nx) := h
  refine wpAny_bind (thn (dc_core (Qf := fun _ s' => SP X pins D .next s') hc hN I hi ok hg ht hk he hs h fun L C s' m H' I' q hn f => ?_) fun _ s' hq => wpAny_pure (wpAny_pure hq))
  show wpAny _ _ (assign (.Name y py) X.env (.ref L)) _ _ _
  refine wpAny_assign_Name (store_ok2 (v := V.ref L) I' hN hy (.inl hyl) rfl (fun s2 I2 ⟨a, sb, ha⟩ => ?_) (.inr hyl))
  obtain ⟨f0, f1, f2, f3, f4, f5⟩ := f
  have haC : C ≠ a := by
    rcases ha with z | z
    · rw [z]; exact f1
    · exact fun e => f4 y a z e.symm
  refine ⟨m, hn.sameBut sb haC, fun h3 sb3 => ?_⟩
  exact ⟨_, H', I2.turned (t' := s2.toks) (fun b o hb e => (sb3.2 b hb).trans e) f0 f1 f3 f4 f5, q⟩
theorem sw_trueD {kx vx : Expr} {gs : List Comprehension} {scope : Scope} {pos py : Pos} {y : Str} {l : Nat} {env : Env} (hk : env.scope.kind = .function) (hy : env.scope.names.lookup y = some .local) (hl : (py.line == pos.line) = true)
    (ha : (scope.names.any fun (n, k) => n == y && (k == .local || k == .cell)) = false) : swapsWith (.DictComp kx vx gs scope pos) (some (.Name y py)) l env = pure true := by
  have ky : env.kindOf y = some .local := hy
  have hb : env.blockKind = .function := by unfold Env.blockKind; rw [hk]; rfl
  unfold swapsWith
  simp only [hb, ky, ha, Expr.pos, hl]
  rfl
end
/-! ### never reached -/
def tNev : TE := fun _ _ _ => False
theorem pe_never {X : Cx} {e : Expr} : PE X e tNev := ⟨fun _ _ _ _ _ _ h => h.elim⟩
def gNev : TG := fun _ _ _ _ => False
theorem pg_never {X : Cx} {e : Expr} : PG X e gNev := ⟨fun _ _ _ _ _ _ _ _ _ h => h.elim⟩
def tNevT : TT := fun _ _ _ => False
theorem pts_never {X : Cx} {es : List Expr} : PTs X es tNevT := ⟨fun _ _ _ _ _ _ h => h.elim⟩
/-- nothing is walked: an empty list or tuple -/
theorem dc_it {J : It} {n : Nat} {G : Hp → Prop} {Y : Nat → Hp → V → Hp → Prop} (w : Walk J n G Y) {g : TG} {tt : TT} {tk tv : TE} {vs : List Nat} {σ : L2.St} {H1 : Hp} {D : Addr} {Qd : Hp → Prop} (Pv : Nat → Hp → Prop) (h0 : Pv 0 (upd H1 D (.dK []))) (hG : ∀ i H, i ≤ n → Pv i H → G H)
    (hs : ∀ i x H H', i < n → Pv i H → Y i H x H' → g x (wipe σ vs) H' fun σ2 H2 => wipe σ2 vs = wipe σ vs ∧ tt σ2 H2 fun b H3 =>
      if b = true then tk σ2 H3 fun y H4 => tv σ2 H4 fun z H5 => ∃ kvs k, y = kV k ∧ H5 D = some (.dK kvs) ∧ kvs.length < sizeLine ∧ Pv (i + 1) (upd H5 D (.dK (putK kvs k z))) else Pv (i + 1) H3) (hd : ∀ H, Pv n H → Qd H) :
    ∃ W : Nat → Nat → Hp → Prop, (∃ m, W 0 m (upd H1 D (.dK []))) ∧ ∀ i m H, W i m H →
      (J.stop i H ∧ Qd H) ∨ (J.go i H ∧ ∃ Nx : Hp → Prop, (∀ H', Nx H' → ∃ m', m' < m ∧ W (i + 1) m' H') ∧ ∀ x H', J.yld i H x H' → g x (wipe σ vs) H' fun σ2 H2 => wipe σ2 vs = wipe σ vs ∧ tt σ2 H2 fun b H3 =>
        if b = true then tk σ2 H3 fun y H4 => tv σ2 H4 fun z H5 => ∃ kvs k, y = kV k ∧ H5 D = some (.dK kvs) ∧ kvs.length < sizeLine ∧ Nx (upd H5 D (.dK (putK kvs k z))) else Nx H3) := by
  refine ⟨fun i m H => m = n - i ∧ i ≤ n ∧ Pv i H, ⟨n, by simp, Nat.zero_le _, h0⟩, ?_⟩
  rintro i m H ⟨rfl, hi, p⟩
  have q := hG i H hi p
  by_cases hlt : i < n
  · refine .inr ⟨w.goes i H hlt q, Pv (i + 1), fun H' p' => ⟨n - (i + 1), by omega, rfl, hlt, p'⟩, fun x H' y => hs i x H H' hlt p (w.yields i H x H' hlt q y)⟩
  · have e : i = n := by omega
    subst e
    exact .inl ⟨w.stops H q, hd H p⟩
end Tp
namespace Tp
open PySem PySem.Spec PyProof.Rows L2
/-- a while that does not begin -/
theorem while_no {c : TT} {tb : TS} {D : Ends} {σ : L2.St} {H : Hp} (hc : ∀ Q : Bool → Hp → Prop, Q false H → c σ H Q) (hd : D.nx σ H) : tWhile c tb D σ H :=
  ⟨fun m σ' H' => m = 0 ∧ σ' = σ ∧ H' = H, ⟨0, rfl, rfl, rfl⟩, fun m σ' H' e => by
    obtain ⟨rfl, rfl, rfl⟩ := e
    exact hc _ hd⟩
end Tp
namespace Tp
open PySem PySem.Spec PyProof.Rows L2
/-- a def with defaults, its promise where the guards are known -/
theorem FunDG.ok {P : Program} {w : World} {K : PySem.W.Frag} {mg : Str → Option Value} {base : Heap} {x qual : Str} {params : Arguments} {body : List Stmt} {scope : Scope} {dvs : List V} {kws : List (Str × V)} {f : Addr} {fd : FuncData} {N ps : List Str} {k : Nat} {sp : Sp}
    (F : FunD K x qual params body scope dvs kws f fd) (S : FnScope N ps scope) (len : ∀ vs H Q E, sp vs H Q E → vs.length = ps.length)
    (hb : ∀ (cdv : Value) (B : Around) (out : List Env) (s : Shared) (H : Hp) (vs : List V) (Q : VK) (E : XK),
      Room k (B.deeper (envOfC qual scope s.heap.objs.size f cdv)) → (B.deeper (envOfC qual scope s.heap.objs.size f cdv)).guards = some [] → sp vs H Q E →
      ∃ t, PSs (cxOf CX0 P w K mg base N qual scope f cdv B out s H E).nox body t ∧ t { nx := fun _ H' => Q .non H', rt := Q } (start N vs) H) :
    FnG P w K mg base CX0 (k + 1) f fd ps sp := by
  obtain ⟨oc, od, dV, kV, doc, pm, an, cdv, ct, osl, rfl, lk, hcd, _, _⟩ := F.ex
  refine fnG_of lk hcd S len fun B out s H vs Q E hr hg hsp => ?_
  obtain ⟨t, h, q⟩ := hb cdv B out s H vs Q E hr hg hsp
  exact ⟨t, h.nox, q⟩
end Tp
namespace Tp
open PySem PySem.Spec PyProof.Rows L2
/-- a + b, the sum handed on as a letter -/
def rAddL : R2 := fun x y H Q => ∃ i j : Int, x = .int i ∧ y = .int j ∧ ∀ z : Int, z = i + j → Q (.int z) H
theorem op_addL {X : Cx} : OpR X (binaryOp .Add) rAddL := by
  intro pins s σ H x y v u Q I rx ry h
  obtain ⟨i, j, e1, e2, q⟩ := h
  exact op_add pins s σ H x y v u Q I rx ry ⟨i, j, e1, e2, q _ rfl⟩
def rSubL : R2 := fun x y H Q => ∃ i j : Int, x = .int i ∧ y = .int j ∧ ∀ z : Int, z = i - j → Q (.int z) H
theorem op_subL {X : Cx} : OpR X (binaryOp .Sub) rSubL := by
  intro pins s σ H x y v u Q I rx ry h
  obtain ⟨i, j, e1, e2, q⟩ := h
  exact op_sub pins s σ H x y v u Q I rx ry ⟨i, j, e1, e2, q _ rfl⟩
end Tp
set_option Elab.async false
set_option linter.all false
set_option maxRecDepth 100000
set_option maxHeartbeats 4000000
/-! data of any depth with dicts in it, and its repr -/
namespace Tp
open PySem PySem.Spec PyProof.Rows L2
/-- a key as data -/
def kD : Key → PyData
  | .inl i => .int i
  | .inr x => .str x
mutual
inductive Dd (K : PySem.W.Frag) (H : Hp) : V → PyData → Prop
  | non : Dd K H .non .none
  | bl (b : Bool) : Dd K H (.bl b) (.bool b)
  | int (i : Int) : Dd K H (.int i) (.int i)
  | str (x : Str) : Dd K H (.str x) (.str x)
  | lst {a : Addr} {xs : List V} {ds : List PyData} : SqL K H a xs → DdAll K H xs ds → Dd K H (.ref a) (.list ds)
  | tup {a : Addr} {xs : List V} {ds : List PyData} : SqT K H a xs → DdAll K H xs ds → Dd K H (.ref a) (.tuple ds)
  | dct {a : Addr} {kvs : List (Key × V)} {es : List (PyData × PyData)} : H a = some (.dK kvs) → es.map (·.1) = kvs.map (fun kv => kD kv.1) → DdAll K H (kvs.map (·.2)) (es.map (·.2)) → Dd K H (.ref a) (.dict es)
inductive DdAll (K : PySem.W.Frag) (H : Hp) : List V → List PyData → Prop
  | nil : DdAll K H [] []
  | cons {v : V} {vs : List V} {d : PyData} {ds : List PyData} : Dd K H v d → DdAll K H vs ds → DdAll K H (v :: vs) (d :: ds)
end
/-- the table of modules is a dict of the written part -/
def Sm (K : PySem.W.Frag) : Prop := ∃ o : Obj, K.lookup sysModules = some o ∧ o.cls = .type "dict"
theorem reads_pairs {P : Program} {w : World} {h : Heap} : ∀ {es : List DictEntry} {kvs : List (Key × Value)}, Pairs (mixKind P w) es kvs → ReadsAll h (es.map (·.key)) (kvs.map fun kv => kD kv.1) [] ∧ es.map (·.val) = kvs.map (·.2)
  | _, _, .nil => ⟨.nil, rfl⟩
  | _, _, .cons h1 h2 h3 => by
    obtain ⟨ih1, ih2⟩ := reads_pairs (h := h) h3
    have e1 := keyIs_shape (show keyIs _ _ = true from h1)
    refine ⟨?_, ?_⟩
    · rcases e1 with ⟨i, t, e, e'⟩ | ⟨x, t, e, e'⟩
      · rw [List.map_cons, List.map_cons, e', e]
        exact ReadsAll.cons (as := []) (bs := []) (.int i t) ih1
      · rw [List.map_cons, List.map_cons, e', e]
        exact ReadsAll.cons (as := []) (bs := []) (.str x t) ih1
    · rw [List.map_cons, List.map_cons, ih2, h2]
theorem kv_keys : ∀ {kvs : List (Key × V)} {vs : List (Key × Value)}, KV kvs vs → vs.map (fun kv => kD kv.1) = kvs.map (fun kv => kD kv.1)
  | _, _, .nil => rfl
  | _, _, .cons a b => by rw [List.map_cons, List.map_cons, kv_keys b, a.1]
theorem kv_vals : ∀ {kvs : List (Key × V)} {vs : List (Key × Value)}, KV kvs vs → Vals (kvs.map (·.2)) (vs.map (·.2))
  | _, _, .nil => .nil
  | _, _, .cons a b => .cons a.2 (kv_vals b)
section
variable {X : Cx} {pins : List (Addr × Obj)} {σ : L2.St} {H : Hp} {s : Shared}
theorem not_list_sm (I : Inv X pins σ H s) (S : Sm X.K) {a : Addr} {o : Obj} (ho : s.heap.get? a = some o) (hc : o.cls = .type "list") : sysModules ≠ a := fun e => by
  obtain ⟨o2, hk, c2⟩ := S
  have h2 := I.kIn _ _ hk
  rw [e, ho] at h2
  have e3 := Option.some.inj h2
  rw [← e3, hc] at c2
  exact absurd (Value.type.inj c2) (by decide)
mutual
theorem Dd.reads (I : Inv X pins σ H s) (S : Sm X.K) : ∀ (d : PyData) (v : V) (u : Value), Dd X.K H v d → RelV v u → ∃ as, Reads s.heap u d as ∧ sysModules ∉ as
  | .none, _, _, h, r => by
    cases h
    cases r
    exact ⟨_, Reads.none, List.not_mem_nil⟩
  | .bool b, _, _, h, r => by
    cases h
    cases r
    exact ⟨_, Reads.bool b, List.not_mem_nil⟩
  | .int i, _, _, h, r => by
    cases h
    obtain ⟨t, rfl⟩ := r
    exact ⟨_, Reads.int i t, List.not_mem_nil⟩
  | .str x, _, _, h, r => by
    cases h
    obtain ⟨t, rfl⟩ := r
    exact ⟨_, Reads.str x t, List.not_mem_nil⟩
  | .list ds, _, _, h, r => by
    cases h with
    | lst hs ha =>
      cases r
      obtain ⟨its, rv, ⟨o, n, ho, hc, _, hd⟩, _⟩ := I.list hs
      obtain ⟨as, hr, hm⟩ := Dd.readsAll I S ds _ its ha rv
      refine ⟨_, Reads.list ho hc hd hr, fun z => ?_⟩
      rcases List.mem_cons.mp z with e | e
      · exact not_list_sm I S ho hc e
      · exact hm e
  | .tuple ds, _, _, h, r => by
    cases h with
    | tup hs ha =>
      cases r
      obtain ⟨its, rv, ⟨o, ho, hc, n, hd⟩, _⟩ := I.tuple hs
      obtain ⟨as, hr, hm⟩ := Dd.readsAll I S ds _ its ha rv
      exact ⟨_, Reads.tuple ho hc hd hr, hm⟩
  | .dict es, _, _, h, r => by
    cases h with
    | @dct a kvs _ ha he hv =>
      cases r
      obtain ⟨_, hsm, vs, rel, o, des, ep, ho, hx, hdat, _, hpr, _⟩ := dk_of I.hok ha
      obtain ⟨p1, p2⟩ := reads_pairs (h := s.heap) hpr
      have hkeys := kv_keys rel
      have hvals := kv_vals rel
      rw [← p2] at hvals
      obtain ⟨bs, hr, hm⟩ := Dd.readsPairs I S es _ _ hv hvals
      refine ⟨_, Reads.dict (as := []) (bs := bs) ho hx.1 hdat ?_ hr, fun z => ?_⟩
      · rw [he, ← hkeys]
        exact p1
      · rcases List.mem_cons.mp z with e | e
        · rw [← e] at hsm
          cases hsm
        · exact hm e
theorem Dd.readsAll (I : Inv X pins σ H s) (S : Sm X.K) : ∀ (ds : List PyData) (vs : List V) (us : List Value), DdAll X.K H vs ds → Vals vs us → ∃ as, ReadsAll s.heap us ds as ∧ sysModules ∉ as
  | [], _, _, h, r => by
    cases h
    cases r
    exact ⟨_, ReadsAll.nil, List.not_mem_nil⟩
  | d :: ds, _, _, h, r => by
    cases h with
    | cons h1 h2 =>
      cases r with
      | cons r1 r2 =>
        obtain ⟨as, q1, n1⟩ := Dd.reads I S d _ _ h1 r1
        obtain ⟨bs, q2, n2⟩ := Dd.readsAll I S ds _ _ h2 r2
        exact ⟨_, ReadsAll.cons q1 q2, fun z => (List.mem_append.mp z).elim n1 n2⟩
theorem Dd.readsPairs (I : Inv X pins σ H s) (S : Sm X.K) : ∀ (es : List (PyData × PyData)) (vs : List V) (us : List Value), DdAll X.K H vs (es.map (·.2)) → Vals vs us → ∃ as, ReadsAll s.heap us (es.map (·.2)) as ∧ sysModules ∉ as
  | [], _, _, h, r => by
    cases h
    cases r
    exact ⟨_, ReadsAll.nil, List.not_mem_nil⟩
  | (k, d) :: ds, _, _, h, r => by
    cases h with
    | cons h1 h2 =>
      cases r with
      | cons r1 r2 =>
        obtain ⟨as, q1, n1⟩ := Dd.reads I S d _ _ h1 r1
        obtain ⟨bs, q2, n2⟩ := Dd.readsPairs I S ds _ _ h2 r2
        exact ⟨_, ReadsAll.cons q1 q2, fun z => (List.mem_append.mp z).elim n1 n2⟩
end
end
/-- repr(x) of data -/
def rReprD (K : PySem.W.Frag) : List V → Hp → VK → Prop := fun xs H Q => ∃ (a : Addr) (d : PyData), xs = [.ref a] ∧ Dd K H (.ref a) d ∧ d.showable = true ∧ d.depth ≤ 60 ∧ d.shown.length ≤ sizeLine ∧ Q (.str d.shown) H
theorem call_reprD {X : Cx} {k : Nat} (S : Sm X.K) (hr : Room k X.A) (hG : X.A.guards = some []) : CallR X (.builtin "repr") (rReprD X.K) := by
  intro pins s σ H xs us Q I r h
  obtain ⟨a, d, rfl, hd, hs, hdep, hz, q⟩ := h
  obtain ⟨u, rfl, r1⟩ := vals1 r
  cases (show u = Value.ref a from r1)
  obtain ⟨as, hrd, hm⟩ := Dd.reads I S d _ _ hd rfl
  have hu := hr.units
  exact repr_of_reads' hrd hs (fun _ => hm) hG (by omega) (fun _ _ e => e) (fun h' u tk hk => ⟨.str d.shown, H, I.kept hk, ⟨u, rfl⟩, q⟩) hz
section
variable {K : PySem.W.Frag} {H H' : Hp}
theorem SqL.up (k : Same H H') {a : Addr} {xs : List V} (h : SqL K H a xs) : SqL K H' a xs := by
  rcases h with (h | ⟨o, h⟩) | h
  · exact .inl (.inl (k _ _ h))
  · exact .inl (.inr ⟨o, k _ _ h⟩)
  · exact .inr h
theorem SqT.up (k : Same H H') {a : Addr} {xs : List V} (h : SqT K H a xs) : SqT K H' a xs := by
  rcases h with (h | ⟨o, h⟩) | h
  · exact .inl (.inl (k _ _ h))
  · exact .inl (.inr ⟨o, k _ _ h⟩)
  · exact .inr h
mutual
theorem Dd.up (k : Same H H') : ∀ (d : PyData) (v : V), Dd K H v d → Dd K H' v d
  | .none, _, h => by cases h; exact .non
  | .bool _, _, h => by cases h; exact .bl _
  | .int _, _, h => by cases h; exact .int _
  | .str _, _, h => by cases h; exact .str _
  | .list ds, _, h => by
    cases h with
    | lst hs ha => exact .lst (SqL.up k hs) (Dd.upAll k ds _ ha)
  | .tuple ds, _, h => by
    cases h with
    | tup hs ha => exact .tup (SqT.up k hs) (Dd.upAll k ds _ ha)
  | .dict es, _, h => by
    cases h with
    | dct ha he hv => exact .dct (k _ _ ha) he (Dd.upPairs k es _ hv)
theorem Dd.upAll (k : Same H H') : ∀ (ds : List PyData) (vs : List V), DdAll K H vs ds → DdAll K H' vs ds
  | [], _, h => by cases h; exact .nil
  | d :: ds, _, h => by
    cases h with
    | cons h1 h2 => exact .cons (Dd.up k d _ h1) (Dd.upAll k ds _ h2)
theorem Dd.upPairs (k : Same H H') : ∀ (es : List (PyData × PyData)) (vs : List V), DdAll K H vs (es.map (·.2)) → DdAll K H' vs (es.map (·.2))
  | [], _, h => by cases h; exact .nil
  | (_, d) :: ds, _, h => by
    cases h with
    | cons h1 h2 => exact .cons (Dd.up k d _ h1) (Dd.upPairs k ds _ h2)
end
theorem Dd.mono {v : V} {d : PyData} (k : Same H H') (h : Dd K H v d) : Dd K H' v d := Dd.up k d v h
theorem DdAll.mono {vs : List V} {ds : List PyData} (k : Same H H') (h : DdAll K H vs ds) : DdAll K H' vs ds := Dd.upAll k ds vs h
theorem DdAll.len : ∀ {vs : List V} {ds : List PyData}, DdAll K H vs ds → vs.length = ds.length
  | _, _, .nil => rfl
  | _, _, .cons _ h => congrArg Nat.succ (DdAll.len h)
theorem DdAll.get : ∀ {vs : List V} {ds : List PyData} {i : Nat} {v : V}, DdAll K H vs ds → vs[i]? = some v → ∃ d, ds[i]? = some d ∧ Dd K H v d
  | _, _, 0, _, .cons h _, e => by
    cases e
    exact ⟨_, rfl, h⟩
  | _, _, i + 1, _, .cons _ h, e => DdAll.get (i := i) h e
  | _, _, _, _, .nil, e => by cases e
theorem DdAll.set : ∀ {vs : List V} {ds : List PyData} {i : Nat} {v : V} {d : PyData}, DdAll K H vs ds → Dd K H v d → DdAll K H (vs.set i v) (ds.set i d)
  | _, _, 0, _, _, .cons _ h, e => .cons e h
  | _, _, i + 1, _, _, .cons h1 h, e => .cons h1 (DdAll.set (i := i) h e)
  | _, _, _, _, _, .nil, _ => .nil
theorem DdAll.app : ∀ {vs ws : List V} {ds es : List PyData}, DdAll K H vs ds → DdAll K H ws es → DdAll K H (vs ++ ws) (ds ++ es)
  | _, _, _, _, .nil, h => h
  | _, _, _, _, .cons h1 h2, h => .cons h1 (DdAll.app h2 h)
theorem ddAll_flat : ∀ {vs : List V}, vs.all isFlat = true → DdAll K H vs (vs.map dV)
  | [], _ => .nil
  | v :: vs, h => by
    rw [List.all_cons, Bool.and_eq_true] at h
    refine .cons ?_ (ddAll_flat h.2)
    match v, h.1 with
    | .non, _ => exact .non
    | .bl b, _ => exact .bl b
    | .int i, _ => exact .int i
    | .str x, _ => exact .str x
end
end Tp
set_option Elab.async false
set_option linter.all false
set_option maxRecDepth 100000
set_option maxHeartbeats 4000000
/-! kinds of any value, and what the four questions of the document answer -/
namespace Tp
open PySem PySem.Spec PyProof.Rows L2
def tys6 : List String := ["int", "bool", "str", "list", "tuple", "dict"]
/-- the answer of isinstance, by the kind's name -/
def ansB (k t : String) : Bool := k == t || (k == "bool" && t == "int")
/-- all that isinstance answers of a value, by its kind -/
def Knd (K : PySem.W.Frag) (H : Hp) (x : V) (k : String) : Prop := (∃ t, TyX K H x t ∧ ∀ u ∈ tys6, PySem.W.kitOne K t (.type u) = some (ansB k u)) ∨
  ∃ (a D : Addr) (fs : List (Str × V)), x = .ref a ∧ ExAt H a D fs ∧ ExK K D ∧ ∀ u ∈ tys6, PySem.W.kitOne K (.ref D) (.type u) = some (ansB k u)
theorem Knd.mono {K : PySem.W.Frag} {H H' : Hp} {x : V} {k : String} (s : Same H H') (h : Knd K H x k) : Knd K H' x k := by
  rcases h with ⟨t, ty, e⟩ | ⟨a, D, fs, e1, hA, T, e⟩
  · exact .inl ⟨t, TyX.up s ty, e⟩
  · exact .inr ⟨a, D, fs, e1, hA.mono s, T, e⟩
theorem Knd.is {K : PySem.W.Frag} {H : Hp} {x : V} {k : String} (h : Knd K H x k) (u : String) (hu : u ∈ tys6) : IsR K H x (.type u) (ansB k u) := by
  rcases h with ⟨t, ty, e⟩ | ⟨a, D, fs, e1, hA, T, e⟩
  · exact .inl ⟨t, ty, e u hu⟩
  · exact .inr ⟨a, D, fs, e1, hA, T, e u hu⟩
theorem any2 {K : PySem.W.Frag} {t a b : Value} {p q : Bool} (h1 : PySem.W.kitOne K t a = some p) (h2 : PySem.W.kitOne K t b = some q) : PySem.W.kitAny K t [a, b] = some (p || q) :=
  kitAny_cons h1 (fun z => by
    rw [z, Bool.false_or]
    exact kitAny_cons h2 (fun z => by rw [z]; rfl) fun z => z) fun z => by rw [z, Bool.true_or]
theorem Knd.lt {K : PySem.W.Frag} {H : Hp} {x : V} {k : String} (h : Knd K H x k) : IsA K H x [.type "list", .type "tuple"] (ansB k "list" || ansB k "tuple") := by
  rcases h with ⟨t, ty, e⟩ | ⟨a, D, fs, e1, hA, T, e⟩
  · exact .inl ⟨t, ty, any2 (e _ (by decide)) (e _ (by decide))⟩
  · exact .inr ⟨a, D, fs, e1, hA, T, any2 (e _ (by decide)) (e _ (by decide))⟩
theorem knd_ty {K : PySem.W.Frag} {H : Hp} {x : V} (t : String) (h : TyX K H x (.type t)) (e : tys6.all (fun u => decide (kitB t u = some (ansB t u))) = true) : Knd K H x t :=
  .inl ⟨_, h, fun u hu => kit_ty (of_decide_eq_true (List.all_eq_true.mp e u hu))⟩
/-- a value with its kind; what an int and a text are -/
structure Vk (K : PySem.W.Frag) (H : Hp) (x : V) (k : String) : Prop where
  kd : Knd K H x k
  i : k = "int" → ∃ i, x = .int i
  s : k = "str" → ∃ z : Str, x = .str z ∧ z.length ≤ 5000
theorem Vk.mono {K : PySem.W.Frag} {H H' : Hp} {x : V} {k : String} (s : Same H H') (h : Vk K H x k) : Vk K H' x k := ⟨h.kd.mono s, h.i, h.s⟩
theorem vk_of {K : PySem.W.Frag} {H : Hp} {x : V} (k : String) (h : Knd K H x k) (h1 : k ≠ "int" := by decide) (h2 : k ≠ "str" := by decide) : Vk K H x k := ⟨h, fun e => absurd e h1, fun e => absurd e h2⟩
section
variable {K : PySem.W.Frag} {H : Hp}
theorem vk_non : Vk K H .non "NoneType" := vk_of _ (knd_ty _ (.base .non) (by decide +kernel))
theorem vk_bl (b : Bool) : Vk K H (.bl b) "bool" := vk_of _ (knd_ty _ (.base (.bl b)) (by decide +kernel))
theorem vk_int (i : Int) : Vk K H (.int i) "int" := ⟨knd_ty _ (.base (.int i)) (by decide +kernel), fun _ => ⟨i, rfl⟩, fun e => absurd e (by decide)⟩
theorem vk_str (z : Str) (h : z.length ≤ 5000) : Vk K H (.str z) "str" := ⟨knd_ty _ (.base (.str z)) (by decide +kernel), fun e => absurd e (by decide), fun _ => ⟨z, rfl, h⟩⟩
theorem tyx_list {a : Addr} {xs : List V} (h : SqL K H a xs) : TyX K H (.ref a) (.type "list") := by
  rcases h with (h | ⟨o, h⟩) | ⟨o, _, _, h, c, _⟩
  · exact .base (.lst h)
  · exact .base (.frz h)
  · exact .kList h c
theorem tyx_tuple {a : Addr} {xs : List V} (h : SqT K H a xs) : TyX K H (.ref a) (.type "tuple") := by
  rcases h with (h | ⟨o, h⟩) | ⟨o, _, _, h, c, _⟩
  · exact .base (.tup h)
  · exact .fTuple h
  · exact .kTuple h c
theorem vk_list {a : Addr} {xs : List V} (h : SqL K H a xs) : Vk K H (.ref a) "list" := vk_of _ (knd_ty _ (tyx_list h) (by decide +kernel))
theorem vk_tuple {a : Addr} {xs : List V} (h : SqT K H a xs) : Vk K H (.ref a) "tuple" := vk_of _ (knd_ty _ (tyx_tuple h) (by decide +kernel))
theorem vk_dict {a : Addr} {kvs : List (Key × V)} (h : H a = some (.dK kvs)) : Vk K H (.ref a) "dict" := vk_of _ (knd_ty _ (.base (.dK h)) (by decide +kernel))
/-- what isinstance asks of an instance of an own class -/
structure InsK (K : PySem.W.Frag) (C : Addr) : Prop where
  cl : Cls K C
  ha : PySem.W.findIn K (.ref C) "__class__" = some (some (.builtin "object.__class__"))
  hn : PySem.W.specialIn K (.builtin "object.__class__") "__get__" = some (some (.builtin "getset_descriptor.__get__"))
  ht : PySem.W.takesIn K (.builtin "object.__class__") = some true
  hm : PySem.W.mroIn K C (.type "object") = some true
  no : ∀ u ∈ tys6, PySem.W.kitOne K (.ref C) (.type u) = some false
theorem vk_ins {C a dx : Addr} {fs : List (Str × V)} (I : InsK K C) (h : H a = some (.ins C dx fs)) : Vk K H (.ref a) "object" :=
  vk_of _ (.inl ⟨_, .base (.ins h I.cl I.ha I.hn I.ht I.hm), fun u hu => by
    rw [I.no u hu]
    have : ∀ u ∈ tys6, ansB "object" u = false := by decide
    rw [this u hu]⟩)
theorem vk_exc {C a : Addr} {fs : List (Str × V)} (T : ExK K C) (no : ∀ u ∈ tys6, PySem.W.kitOne K (.ref C) (.type u) = some false) (h : ExAt H a C fs) : Vk K H (.ref a) "object" :=
  vk_of _ (.inr ⟨a, C, fs, rfl, h, T, fun u hu => by
    rw [no u hu]
    have : ∀ u ∈ tys6, ansB "object" u = false := by decide
    rw [this u hu]⟩)
end
/-! ### the answers -/
def lowB (c : Nat) : Bool := decide (97 ≤ c ∧ c ≤ 122)
def digB (c : Nat) : Bool := decide (48 ≤ c ∧ c ≤ 57)
/-- is it a name? -/
def nameB (l : List Nat) : Bool := decide (1 ≤ l.length ∧ l.length ≤ 8) && (l.head?.any lowB && l.all fun c => lowB c || digB c)
def nameV : V → Bool
  | .str z => nameB (TL.tl z)
  | _ => false
def intB (lo hi : Int) : V → Bool
  | .int i => decide (lo ≤ i ∧ i ≤ hi)
  | _ => false
/-- is_whole -/
def spWhole (K : PySem.W.Frag) : Sp := fun vs H Q _ => ∃ (x : V) (k : String), vs = [x] ∧ Vk K H x k ∧ Q (.bl (k == "int")) H
/-- is_integer -/
def spInteger (K : PySem.W.Frag) : Sp := fun vs H Q _ => ∃ (x : V) (lo hi : Int) (k : String), vs = [x, .int lo, .int hi] ∧ Vk K H x k ∧ (k ≠ "int" → Q (.bl false) H) ∧ ∀ i, x = .int i → Q (.bl (decide (lo ≤ i ∧ i ≤ hi))) H
/-- is_name -/
def spName (K : PySem.W.Frag) : Sp := fun vs H Q _ => ∃ (x : V) (k : String), vs = [x] ∧ Vk K H x k ∧ (k ≠ "str" → Q (.bl false) H) ∧ ∀ z, x = .str z → ∀ H', Same H H' → Q (.bl (nameB (TL.tl z))) H'
/-- is_list -/
def spList (K : PySem.W.Frag) : Sp := fun vs H Q _ => ∃ (x : V) (k : String), vs = [x] ∧ Vk K H x k ∧ ∀ H', Same H H' → Q (.bl (k == "list" || k == "tuple")) H'
theorem low_mem (c : Nat) : decide (c ∈ (("abcdefghijklmnopqrstuvwxyz" : Str)).cps.toList) = lowB c := by
  have e : (("abcdefghijklmnopqrstuvwxyz" : Str)).cps.toList = (List.range 26).map (· + 97) := by decide +kernel
  rw [e]
  unfold lowB
  refine decide_eq_decide.mpr ⟨fun h => ?_, fun h => ?_⟩
  · obtain ⟨i, hi, rfl⟩ := List.mem_map.mp h
    have := List.mem_range.mp hi
    omega
  · exact List.mem_map.mpr ⟨c - 97, List.mem_range.mpr (by omega), by omega⟩
theorem dig_mem' (c : Nat) : decide (c ∈ (("0123456789" : Str)).cps.toList) = digB c := by
  have e : (("0123456789" : Str)).cps.toList = (List.range 10).map (· + 48) := by decide +kernel
  rw [e]
  unfold digB
  refine decide_eq_decide.mpr ⟨fun h => ?_, fun h => ?_⟩
  · obtain ⟨i, hi, rfl⟩ := List.mem_map.mp h
    have := List.mem_range.mp hi
    omega
  · exact List.mem_map.mpr ⟨c - 48, List.mem_range.mpr (by omega), by omega⟩
/-! data: the kind, and the shape of a term row -/
def kindD : PyData → String
  | .none => "NoneType"
  | .bool _ => "bool"
  | .int _ => "int"
  | .str _ => "str"
  | .list _ => "list"
  | .tuple _ => "tuple"
  | .dict _ => "dict"
mutual
def shortD : PyData → Bool
  | .str z => decide (z.length ≤ 5000)
  | .list ds => shortAll ds
  | .tuple ds => shortAll ds
  | .none => true
  | .bool _ => true
  | .int _ => true
  | .dict _ => true
def shortAll : List PyData → Bool
  | [] => true
  | d :: ds => shortD d && shortAll ds
end
theorem shortAll_get : ∀ {ds : List PyData} {i : Nat} {d : PyData}, shortAll ds = true → ds[i]? = some d → shortD d = true
  | d :: ds, 0, _, h, e => by
    cases e
    simp only [shortAll, Bool.and_eq_true] at h
    exact h.1
  | d :: ds, i + 1, _, h, e => by
    simp only [shortAll, Bool.and_eq_true] at h
    exact shortAll_get (i := i) h.2 e
theorem vk_dd {K : PySem.W.Frag} {H : Hp} : ∀ {v : V} {d : PyData}, Dd K H v d → shortD d = true → Vk K H v (kindD d)
  | _, _, .non, _ => vk_non
  | _, _, .bl b, _ => vk_bl b
  | _, _, .int i, _ => vk_int i
  | _, _, .str z, h => vk_str z (of_decide_eq_true (by simpa only [shortD] using h))
  | _, _, .lst h _, _ => vk_list h
  | _, _, .tup h _, _ => vk_tuple h
  | _, _, .dct h _ _, _ => vk_dict h
/-- the items of a list or a tuple -/
def seqD : PyData → Option (List PyData)
  | .list ds => some ds
  | .tuple ds => some ds
  | _ => none
def nameD : PyData → Bool
  | .str z => nameB (TL.tl z)
  | _ => false
def idxD (i : Nat) : PyData → Bool
  | .int n => decide (0 ≤ n ∧ n ≤ (i : Int) - 1)
  | _ => false
def numsB (i : Nat) (d : PyData) : Bool := match seqD d with
  | some ns => decide (ns.length ≤ 3) && ns.all (idxD i)
  | none => false
/-- may it stand at index i as a term row? -/
def rowB (i : Nat) (d : PyData) : Bool := match seqD d with
  | some [a, b] => nameD a && numsB i b
  | _ => false
def rowsB : Nat → List PyData → Bool
  | _, [] => true
  | i, d :: ds => rowB i d && rowsB (i + 1) ds
def termsB (d : PyData) : Bool := match seqD d with
  | some ds => rowsB 0 ds
  | none => false
/-- _is_term_row -/
def spTermRow (K : PySem.W.Frag) : Sp := fun vs H Q _ => ∃ (x : V) (i : Nat) (d : PyData), vs = [x, .int (i : Nat)] ∧ Dd K H x d ∧ shortD d = true ∧ i ≤ 5000 ∧ ∀ H', Same H H' → Q (.bl (rowB i d)) H'
/-- is_terms of data, or of what is no list -/
def spTerms (K : PySem.W.Frag) : Sp := fun vs H Q _ => ∃ x : V, vs = [x] ∧ ((∃ d, Dd K H x d ∧ shortD d = true ∧ (∀ ds, seqD d = some ds → ds.length ≤ 5000) ∧ ∀ H', Same H H' → Q (.bl (termsB d)) H') ∨ (∃ k, Vk K H x k ∧ (k == "list" || k == "tuple") = false ∧ ∀ H', Same H H' → Q (.bl false) H'))
end Tp
namespace Tp
open PySem PySem.Spec PyProof.Rows L2
theorem ans_int {k : String} (h : ansB k "int" = true) : (!ansB k "bool") = (k == "int") := by
  unfold ansB at h ⊢
  by_cases e : k = "int"
  · subst e
    decide
  · have e2 : k = "bool" := by simpa [e] using h
    subst e2
    decide
theorem ans_int0 {k : String} (h : ansB k "int" = false) : (k == "int") = false := by
  unfold ansB at h
  simp only [Bool.or_eq_false_iff] at h
  exact h.1
theorem ans_lt (k : String) : (ansB k "list" || ansB k "tuple") = (k == "list" || k == "tuple") := by
  unfold ansB
  have h1 : ("list" == "int") = false := by decide
  have h2 : ("tuple" == "int") = false := by decide
  rw [h1, h2, Bool.and_false, Bool.or_false, Bool.or_false]
theorem ans_str (k : String) : ansB k "str" = (k == "str") := by
  unfold ansB
  have h1 : ("str" == "int") = false := by decide
  rw [h1, Bool.and_false, Bool.or_false]
theorem if_true_of {c : Bool} {A B : Prop} (hc : c = true) (h : A) : if c = true then A else B := by
  rw [hc]
  exact iteT h
theorem if_false_of {c : Bool} {A B : Prop} (hc : c = false) (h : B) : if c = true then A else B := by
  rw [hc]
  exact iteF h
theorem gl_c {X : Cx} {x : Str} {v : V} {pos : Pos} (hg : Gl X x) (h : ∃ u, X.mg x = some u ∧ RelV v u) (hd : (x == ("__debug__" : Str)) = false := by decide) : PE X (.Name x pos) (tC v) := by
  obtain ⟨u, h1, h2⟩ := h
  exact pe_glob hg h1 h2 hd
end Tp
namespace Tp
open PySem PySem.Spec PyProof.Rows L2
theorem dd_seq {K : PySem.W.Frag} {H : Hp} {x : V} {d : PyData} {ds : List PyData} (h : Dd K H x d) (e : seqD d = some ds) : ∃ a xs, x = .ref a ∧ SqA K H a xs ∧ DdAll K H xs ds := by
  cases h with
  | lst hs ha =>
    cases e
    exact ⟨_, _, rfl, .inl hs, ha⟩
  | tup hs ha =>
    cases e
    exact ⟨_, _, rfl, .inr hs, ha⟩
  | _ => cases e
theorem kind_seq (d : PyData) : (kindD d == "list" || kindD d == "tuple") = (seqD d).isSome := by
  cases d <;> first | rfl | simp [kindD, seqD]
theorem short_seq {d : PyData} {ds : List PyData} (h : shortD d = true) (e : seqD d = some ds) : shortAll ds = true := by
  cases d with
  | list xs =>
    cases e
    simpa only [shortD] using h
  | tuple xs =>
    cases e
    simpa only [shortD] using h
  | _ => cases e
theorem kind_str {K : PySem.W.Frag} {H : Hp} {x : V} {d : PyData} (h : Dd K H x d) : kindD d ≠ "str" → nameD d = false := by
  cases h <;> first | (intro _; rfl) | (intro e; exact absurd rfl e)
theorem kind_int {K : PySem.W.Frag} {H : Hp} {x : V} {d : PyData} (h : Dd K H x d) (i : Nat) : kindD d ≠ "int" → idxD i d = false := by
  cases h <;> first | (intro _; rfl) | (intro e; exact absurd rfl e)
/-- is_name of data -/
theorem name_dd {K : PySem.W.Frag} {H : Hp} {x : V} {d : PyData} {Q : VK} {E : XK} (h : Dd K H x d) (hs : shortD d = true) (q : ∀ H', Same H H' → Q (.bl (nameD d)) H') : spName K [x] H Q E :=
  ⟨x, kindD d, rfl, vk_dd h hs, fun e => by
    have := q H (Same.refl _)
    rwa [kind_str h e] at this, fun z e H' s => by
    subst e
    cases h
    exact q H' s⟩
/-- is_integer of data -/
theorem int_dd {K : PySem.W.Frag} {H : Hp} {x : V} {d : PyData} {i : Nat} {Q : VK} {E : XK} (h : Dd K H x d) (hs : shortD d = true) (q : Q (.bl (idxD i d)) H) : spInteger K [x, .int 0, .int ((i : Nat) - 1)] H Q E :=
  ⟨x, 0, (i : Nat) - 1, kindD d, rfl, vk_dd h hs, fun e => by
    rwa [kind_int h i e] at q, fun n e => by
    subst e
    cases h
    exact q⟩
theorem DdAll.at {K : PySem.W.Frag} {H : Hp} : ∀ {vs : List V} {ds : List PyData} {i : Nat} {d : PyData}, DdAll K H vs ds → ds[i]? = some d → ∃ v, vs[i]? = some v ∧ Dd K H v d
  | _, _, 0, _, .cons h _, e => by
    cases e
    exact ⟨_, rfl, h⟩
  | _, _, i + 1, _, .cons _ h, e => DdAll.at (i := i) h e
  | _, _, _, _, .nil, e => by cases e
def rowsAt (k : Nat) : List PyData → List Bool
  | [] => []
  | d :: ds => rowB k d :: rowsAt (k + 1) ds
theorem rowsAt_len (k : Nat) : ∀ ds : List PyData, (rowsAt k ds).length = ds.length
  | [] => rfl
  | _ :: ds => congrArg Nat.succ (rowsAt_len (k + 1) ds)
theorem rowsAt_all (k : Nat) : ∀ ds : List PyData, (rowsAt k ds).all id = rowsB k ds
  | [] => rfl
  | d :: ds => by
    rw [rowsAt, List.all_cons, rowsAt_all (k + 1) ds]
    rfl
theorem rowsAt_take : ∀ (k : Nat) (ds : List PyData) (i : Nat) (d : PyData), ds[i]? = some d → (rowsAt k ds).take (i + 1) = (rowsAt k ds).take i ++ [rowB (k + i) d]
  | k, [], i, d, e => by cases e
  | k, x :: ds, 0, d, e => by
    cases e
    rfl
  | k, x :: ds, i + 1, d, e => by
    have ih := rowsAt_take (k + 1) ds i d e
    rw [rowsAt, List.take_succ_cons, ih, List.take_succ_cons]
    rw [show k + 1 + i = k + (i + 1) by omega]
    rfl
end Tp
namespace Tp
open PySem PySem.Spec PyProof.Rows L2
theorem Same.tr {A B D : Hp} (a : Same A B) (b : Same B D) : Same A D := fun x o e => b x o (a x o e)
theorem ne_dec1 {n : Nat} {z : Int} (h : ¬ ((n : Nat) : Int) = z) : (!decide (V.int ((n : Nat) : Int) = V.int z)) = true := by
  rw [decide_eq_false fun e => h (V.int.inj e)]
  rfl
theorem ne_dec2 {n : Nat} {z : Int} (h : ((n : Nat) : Int) = z) : (!decide (V.int ((n : Nat) : Int) = V.int z)) = false := by
  rw [decide_eq_true (congrArg V.int h)]
  rfl
end Tp
namespace Tp
open PySem PySem.Spec PyProof.Rows L2
/-- an empty or any list or tuple is a list -/
theorem vk_seqA {K : PySem.W.Frag} {H : Hp} {a : Addr} {xs : List V} (h : SqA K H a xs) : ∃ k, Vk K H (.ref a) k ∧ (k == "list" || k == "tuple") = true :=
  h.elim (fun h => ⟨_, vk_list h, by decide⟩) fun h => ⟨_, vk_tuple h, by decide⟩
end Tp
set_option Elab.async false
set_option linter.all false
set_option maxRecDepth 100000
set_option maxHeartbeats 4000000
/-! len(o), o[k], x in o, o == x, o != x by an own class's own methods, whose promises know the guards -/
namespace Tp
open PySem PySem.Spec PyProof.Rows L2
section
variable {X : Cx} {pins : List (Addr × Obj)} {σ : L2.St} {H : Hp} {s : Shared} {j k : Nat} {f C a dx : Addr} {fd : FuncData} {ps : List Str} {ds : List Value} {dvs : List V} {sp : Sp} {fs : List (Str × V)}
theorem run_at {A : Around} {Q : VK} {us : List Value} {vs : List V} (F : FnG X.prog X.w X.K X.mg X.base CX0 k f fd ps sp) (hr : Room k A) (hG : A.guards = some []) (hf : A.frames = X.A.frames) (hb : Binds X.K fd ps ds) (hd : Vals dvs ds)
    (I : Inv X pins σ H s) (r : Vals vs us) (h : sp (vs ++ dvs) H Q E0) : wpAny (model X.prog X.w) A (call (.ref f) us) (EP X pins σ Q) X.xe s := by
  have r2 : Vals (vs ++ dvs) (us ++ ds) := r.append hd
  have hl : (us ++ ds).length = ps.length := by rw [← r2.length]; exact F.len _ _ _ _ h
  have e0 : Env0 X.prog X.w X.K X.mg X.base A X.stack s H := by
    have e := I.env0
    exact ⟨by rw [hf]; exact e.frames, e.mod, e.bs, e.bsz, e.funs, e.frf, e.hok, e.bare⟩
  refine wpAny_call (codeAny_mono (F.run A X.stack s H ⟨us, []⟩ (us ++ ds) (vs ++ dvs) Q E0 hr hG e0 (hb s us I.kIn hl) r2 h) fun r s' hq => ?_)
  cases r with
  | error e => exact (show False from hq).elim
  | ok fl =>
    cases fl with
    | ret u => exact I.after hq
    | next => exact False.elim hq
    | brk => exact False.elim hq
    | cont => exact False.elim hq
theorem ins_at (I : Inv X pins σ H s) (e : H a = some (.ins C dx fs)) : ∃ ox od, PySem.W.InstAt s.heap a ox C od := by
  obtain ⟨mA, J, _⟩ := ins_get I.hok e
  obtain ⟨od, J, _⟩ := J.look
  exact ⟨_, _, J⟩
/-- len(o) -/
def rLenO (C : Addr) (sp : Sp) : List V → Hp → VK → Prop := fun xs H Q => ∃ a dx fs, xs = [.ref a] ∧ H a = some (.ins C dx fs) ∧ sp [.ref a] H (fun v H' => ∃ n : Nat, v = .int n ∧ n ≤ sizeLine ∧ Q v H') E0
theorem call_lenO (c : Ct X.prog X.w X.K X.mg X.base j C "__len__" [] sp) (hr : Room (j + 1) X.A) (hG : X.A.guards = some []) : CallR X (.builtin "len") (rLenO C sp) := by
  intro pins s σ H xs us Q I r h
  obtain ⟨a, dx, fs, rfl, ha, q⟩ := h
  obtain ⟨u, rfl, r1⟩ := vals1 r
  cases (show u = Value.ref a from r1)
  obtain ⟨f, fd, ps, ds, cl, hm, F, hb, hd⟩ := c.ex
  cases hd
  obtain ⟨ox, od, J⟩ := ins_at I ha
  obtain ⟨m, hF⟩ := I.fr
  refine PySem.W.len_K hF I.ok.mod.kin J hm.at_ hm.fn (wpAny_mono (run_at (A := X.A.in1) (us := [.ref a]) (vs := [.ref a]) F hr.in1 hG rfl hb .nil I (.cons rfl .nil) q) (fun u s' hv => ?_) fun _ _ x => x)
  obtain ⟨v, H', I', rv, n, rfl, hn, q'⟩ := hv
  obtain ⟨t, rfl⟩ := rv
  refine ⟨⟨by omega, by rw [PySem.sizeLine_eq] at hn; omega⟩, .int n, H', I'.tok _, ⟨_, rfl⟩, q'⟩
/-- x in o -/
def rInO (C : Addr) (sp : Sp) (no : Bool) : R2 := fun x y H Q => ∃ a dx fs, y = .ref a ∧ H a = some (.ins C dx fs) ∧ sp [.ref a, x] H (fun v H' => ∃ b, v = .bl b ∧ Q (.bl (b != no)) H') E0
theorem op_inO (c : Ct X.prog X.w X.K X.mg X.base j C "__contains__" [] sp) (hr : Room j X.A) (hG : X.A.guards = some []) : OpR X (compareOp .In) (rInO C sp false) := by
  intro pins s σ H x y v u Q I rx ry h
  obtain ⟨a, dx, fs, rfl, ha, q⟩ := h
  cases (show u = Value.ref a from ry)
  obtain ⟨f, fd, ps, ds, cl, hm, F, hb, hd⟩ := c.ex
  cases hd
  obtain ⟨ox, od, J⟩ := ins_at I ha
  obtain ⟨m, hF⟩ := I.fr
  refine PySem.W.in_K hF I.ok.mod.kin J hm.at_ hm.fn (wpAny_mono (run_at (A := X.A) (us := [.ref a, v]) (vs := [.ref a, x]) F hr hG rfl hb .nil I (.cons rfl (.cons rx .nil)) q) (fun u s' hv => ?_) fun _ _ x => x)
  obtain ⟨w, H', I', rv, b, rfl, q'⟩ := hv
  cases (show u = Value.bool b from rv)
  rw [Bool.bne_false] at q'
  exact wpAny_truthy_bool ⟨.bl b, H', I', rfl, q'⟩
theorem op_notInO (c : Ct X.prog X.w X.K X.mg X.base j C "__contains__" [] sp) (hr : Room j X.A) (hG : X.A.guards = some []) : OpR X (compareOp .NotIn) (rInO C sp true) := by
  intro pins s σ H x y v u Q I rx ry h
  obtain ⟨a, dx, fs, rfl, ha, q⟩ := h
  cases (show u = Value.ref a from ry)
  obtain ⟨f, fd, ps, ds, cl, hm, F, hb, hd⟩ := c.ex
  cases hd
  obtain ⟨ox, od, J⟩ := ins_at I ha
  obtain ⟨m, hF⟩ := I.fr
  refine PySem.W.notIn_K hF I.ok.mod.kin J hm.at_ hm.fn (wpAny_mono (run_at (A := X.A) (us := [.ref a, v]) (vs := [.ref a, x]) F hr hG rfl hb .nil I (.cons rfl (.cons rx .nil)) q) (fun u s' hv => ?_) fun _ _ x => x)
  obtain ⟨w, H', I', rv, b, rfl, q'⟩ := hv
  cases (show u = Value.bool b from rv)
  rw [Bool.bne_true] at q'
  exact wpAny_truthy_bool ⟨.bl (!b), H', I', rfl, q'⟩
/-- o[k] -/
def tGetO (C : Addr) (sp : Sp) (E : XK) (to ti : TE) : TE := fun σ H Q => to σ H fun y H1 => ti σ H1 fun x H2 => ∃ a dx fs, y = .ref a ∧ H2 a = some (.ins C dx fs) ∧ sp [.ref a, x] H2 Q E
theorem pe_getO {o i : Expr} {pos : Pos} {to ti : TE} (c : Ct X.prog X.w X.K X.mg X.base j C "__getitem__" [] sp) (hfn : ∀ f, PySem.W.isFn X.K (.ref f) = true → PySem.W.fnIn X.K f = true) (hr : Room (j + 1) X.A) (hG : X.A.guards = some []) (ho : PE X o to) (hi : PE X i ti)
    (hsl : ∀ (a : Addr) (v : Value), subscripted i true (.ref a) v = runValue (.builtin "lifetime.subscript" ⟨[.ref a, v], []⟩) := by (intro _ _; with_unfolding_all rfl)) : PE X (.Subscript o i pos) (tGetO C sp E0 to ti) := by
  refine ⟨fun pins s σ H Q I h => ?_⟩
  refine Subscript_ (thn (ho.run pins s σ H _ I h) fun u s1 ⟨y, H1, I1, r1, q1⟩ => thn (hi.run pins s1 σ H1 _ I1 q1) fun v s2 ⟨x, H2, I2, r2, a, dx, fs, ey, ha, q2⟩ => ?_)
  subst ey
  cases (show u = Value.ref a from r1)
  obtain ⟨f, fd, ps, ds, cl, hm, F, hb, hd⟩ := c.ex
  cases hd
  obtain ⟨ox, od, J⟩ := ins_at I2 ha
  obtain ⟨m, hF⟩ := I2.fr
  exact PySem.W.sub_K hF I2.ok.mod.kin J hm.at_ (hfn _ hm.fn) hm.fn (run_at (A := X.A.in1) (us := [.ref a, v]) (vs := [.ref a, x]) F hr.in1 hG rfl hb .nil I2 (.cons rfl (.cons r2 .nil)) q2) (hsl _ _)
/-- o == x -/
def rEqO (K : PySem.W.Frag) (C : Addr) (sp : Sp) (no : Bool) : R2 := fun x y H Q => ∃ a dx fs, x = .ref a ∧ H a = some (.ins C dx fs) ∧ ((∃ b dy gs, y = .ref b ∧ H b = some (.ins C dy gs)) ∨ ∃ t, TyX K H y t ∧ PySem.W.subIn K t (.ref C) = some false) ∧
  sp [.ref a, y] H (fun v H' => ∃ b, v = .bl b ∧ Q (.bl (b != no)) H') E0
theorem ty_own {x : V} {u : Value} (I : Inv X pins σ H s) (rx : RelV x u) (h : (∃ b dy gs, x = .ref b ∧ H b = some (.ins C dy gs)) ∨ ∃ t, TyX X.K H x t ∧ PySem.W.subIn X.K t (.ref C) = some false) : ∃ tb, PySem.W.Looks (model X.prog X.w) s.heap (typeOf u) tb ∧ PySem.W.notFirst X.K C tb = true := by
  rcases h with ⟨b, dy, gs, rfl, hb⟩ | ⟨t, ty, ht⟩
  · cases (show u = Value.ref b from rx)
    obtain ⟨ox, od, J⟩ := ins_at I hb
    exact ⟨_, J.type, by simp [PySem.W.notFirst]⟩
  · obtain ⟨P, Z, hp, _⟩ := kit_of I rx ty
    refine ⟨t, Z.ty _ _ I.kIn hp, ?_⟩
    unfold PySem.W.notFirst
    rw [ht]
    simp
theorem op_eqO (c : Ct X.prog X.w X.K X.mg X.base j C "__eq__" [] sp) (hr : Room j X.A) (hG : X.A.guards = some []) : OpR X (compareOp .Eq) (rEqO X.K C sp false) := by
  intro pins s σ H x y v u Q I rx ry h
  obtain ⟨a, dx, fs, rfl, ha, hy, q⟩ := h
  cases (show v = Value.ref a from rx)
  obtain ⟨f, fd, ps, ds, cl, hm, F, hb, hd⟩ := c.ex
  cases hd
  obtain ⟨ox, od, J⟩ := ins_at I ha
  obtain ⟨m, hF⟩ := I.fr
  obtain ⟨tb, L1, L2⟩ := ty_own I ry hy
  show wpAny (model X.prog X.w) X.A (richCompare .Eq (.ref a) u) (EP X pins σ Q) X.xe s
  refine PySem.W.cmp_K (op := .Eq) hr.units0 hF I.ok.mod.kin J L1 L2 hm.at_ hm.fn (wpAny_mono (run_at (A := X.A) (us := [.ref a, u]) (vs := [.ref a, y]) F hr hG rfl hb .nil I (.cons rfl (.cons ry .nil)) q) (fun r s' hv => ?_) fun _ _ x => x)
  obtain ⟨w, H', I', rv, b, rfl, q'⟩ := hv
  cases (show r = Value.bool b from rv)
  rw [Bool.bne_false] at q'
  exact ⟨.bl b, H', I', rfl, q'⟩
end
section
open PySem.W PySem.Calls
variable {prog : Program} {w : World} {A : Around} {E : Value → Shared → Prop} {s : Shared} {K : Frag} {x C L f : Addr} {h₀ : Heap} {m : Str → Option Value} {ox : Obj} {od : Option Obj} {b tb : Value}
theorem ifBound_B {M : Model} {name : Str} {i : String} {args : List Value} {Q : Option Value → Shared → Prop} (X : K.In s.heap) (I : InstAt s.heap x ox C od) (hs : findIn K (.ref C) name = some (some (.builtin i))) (hbd : bindSpecial (.builtin i) (.ref x) = pure (.builtin i, [.ref x]))
    (h : wpAny M A (call (.builtin i) (.ref x :: args)) (fun v => Q (some v)) E s) : wpAny M A (callSpecialIfBound? (.ref x) name args) Q E s := by
  simp only [callSpecialIfBound?, bindSpecialIfBound?]
  refine wpAny_holding (wpAny_bind (wpAny_bind (wpAny_bind (I.type.here ((looks_findIn X hs).here ?_)))))
  simp only [hbd]
  refine wpAny_bind (wpAny_askSetting (wpAny_ite ?_))
  have fin : wpAny M A (call (.builtin i) ([.ref x] ++ args) >>= fun v => pure (some v)) Q E s := wpAny_bind (wpAny_mono h (fun v s' h' => wpAny_pure h') fun _ _ h' => h')
  split
  · exact wpAny_bind (wpAny_pure (wpAny_pure (by exact fin)))
  · exact wpAny_tryCatch (wpAny_bind (wpAny_pure (wpAny_pure (by exact fin))))
theorem ne_K {Q : Value → Shared → Prop} (hu : A.units + 1 < cLine) (F : Fr h₀ L s.heap m) (X₀ : K.In h₀) (I : InstAt s.heap x ox C od) (hb : Looks (model prog w) s.heap (typeOf b) tb) (hn : notFirst K C tb = true)
    (hne : findIn K (.ref C) "__ne__" = some (some (.builtin "object.__ne__"))) (hob : subIn K (.ref C) (.type "object") = some true) (hs : findIn K (.ref C) "__eq__" = some (some (.ref f))) (hf : isFn K (.ref f) = true)
    (h : wpAny (model prog w) A.in1 (call (.ref f) [.ref x, b]) (fun v s' => ∃ r, v = .bool r ∧ Q (.bool (!r)) s') E s) : wpAny (model prog w) A (richCompare .NotEq (.ref x) b) Q E s := by
  have X := X₀.keeps F.keep
  have one : wpAny (model prog w) A (tryCompare (.ref x) "__ne__" b) (fun r s' => ∃ v, r = some v ∧ Q v s') E s := by
    unfold tryCompare
    refine wpAny_bind (ifBound_B X I hne (PySem.F.cmp_object.ne.bind _) (wpAny_call (codeAny_call_builtin PySem.F.cmp_object.ne.plain PySem.F.cmpEntry_ne (PySem.W.check_slot PySem.F.cmpKind_ne PySem.F.cmpSplit_ne (I.type.andThen (looks_subIn X hob)) (PySem.F.cmpArgs_ne _ _) ?_))))
    unfold Builtin.«object.__ne__»
    repeat (first | with_reducible refine wpAny_cRoomFor hu ?_ | (with_reducible refine ifBound_K X I hs hf ?_; refine wpAny_mono h (fun v s' hv => ?_) (fun _ _ e => e); obtain ⟨r, rfl, q⟩ := hv; refine wpAny_bind (wpAny_truthy_bool ?_)) | wp_step)
    exact ⟨_, rfl, q⟩
  unfold richCompare
  simp only [oneThing_ref]
  refine wpAny_holding (wpAny_bind (wpAny_cRoomFor (by omega) ?_))
  refine wpAny_bind (I.type.here (wpAny_bind (hb.here ?_)))
  split
  · rename_i q
    have e : subIn K tb (.ref C) = some false := by
      rcases Bool.or_eq_true_iff.mp hn with e | e
      · rw [beq_iff_eq.mp e] at q; simp at q
      · exact beq_iff_eq.mp e
    refine wpAny_bind ((looks_subIn X e).here ?_)
    simp only [Bool.false_eq_true, if_false]
    refine wpAny_bind (wpAny_mono one (fun r s' z => ?_) fun _ _ e => e)
    obtain ⟨v, rfl, hq⟩ := z
    exact wpAny_pure hq
  · refine wpAny_bind (wpAny_pure ?_)
    simp only [Bool.false_eq_true, if_false]
    refine wpAny_bind (wpAny_mono one (fun r s' z => ?_) fun _ _ e => e)
    obtain ⟨v, rfl, hq⟩ := z
    exact wpAny_pure hq
end
section
variable {X : Cx} {pins : List (Addr × Obj)} {σ : L2.St} {H : Hp} {s : Shared} {j k : Nat} {C : Addr} {sp : Sp}
theorem op_neO (c : Ct X.prog X.w X.K X.mg X.base j C "__eq__" [] sp) (hne : PySem.W.findIn X.K (.ref C) "__ne__" = some (some (.builtin "object.__ne__"))) (hob : PySem.W.subIn X.K (.ref C) (.type "object") = some true) (hr : Room (j + 1) X.A) (hG : X.A.guards = some []) : OpR X (compareOp .NotEq) (rEqO X.K C sp true) := by
  intro pins s σ H x y v u Q I rx ry h
  obtain ⟨a, dx, fs, rfl, ha, hy, q⟩ := h
  cases (show v = Value.ref a from rx)
  obtain ⟨f, fd, ps, ds, cl, hm, F, hb, hd⟩ := c.ex
  cases hd
  obtain ⟨ox, od, J⟩ := ins_at I ha
  obtain ⟨m, hF⟩ := I.fr
  obtain ⟨tb, L1, L2⟩ := ty_own I ry hy
  show wpAny (model X.prog X.w) X.A (richCompare .NotEq (.ref a) u) (EP X pins σ Q) X.xe s
  refine ne_K (by have := hr.un; omega) hF I.ok.mod.kin J L1 L2 hne hob hm.at_ hm.fn (wpAny_mono (run_at (A := X.A.in1) (us := [.ref a, u]) (vs := [.ref a, y]) F hr.in1 hG rfl hb .nil I (.cons rfl (.cons ry .nil)) q) (fun r s' hv => ?_) fun _ _ x => x)
  obtain ⟨w, H', I', rv, b, rfl, q'⟩ := hv
  cases (show r = Value.bool b from rv)
  rw [Bool.bne_true] at q'
  exact ⟨b, rfl, .bl (!b), H', I', rfl, q'⟩
end
end Tp
set_option Elab.async false
set_option linter.all false
set_option maxRecDepth 100000
set_option maxHeartbeats 4000000
/-! operators of an own class between two of its instances, its negative, its abs; a starred dict in a display; dicts of ints compared -/
namespace Tp
open PySem PySem.Spec PyProof.Rows L2
section
open PySem.W PySem.Calls
variable {prog : Program} {w : World} {A : Around} {E : Value → Shared → Prop} {s : Shared} {K : Frag} {x C L f : Addr} {h₀ : Heap} {m : Str → Option Value} {ox : Obj} {od : Option Obj} {b : Value}
theorem binC {op : Operator} {Q : Value → Shared → Prop} (F : Fr h₀ L s.heap m) (X₀ : K.In h₀) (I : InstAt s.heap x ox C od) (hb : Looks (model prog w) s.heap (typeOf b) (.ref C)) (hc : selfFirst K C = true)
    (hs : findIn K (.ref C) (PySem.dunder op.info.2) = some (some (.ref f))) (hf : isFn K (.ref f) = true)
    (h : wpAny (model prog w) A (call (.ref f) [.ref x, b]) (PySem.W.CmpBack Q) E s) : wpAny (model prog w) A (binaryOp op (.ref x) b) Q E s := by
  have X := X₀.keeps F.keep
  obtain ⟨cd, rest, hcd, hm⟩ := ksp_first hc
  rcases hi : op.info with ⟨sym, nm'⟩
  rw [hi] at hs
  dsimp only at hs
  have one := ksp_try X I hs hf h
  obtain ⟨hh, g, d, tt, os⟩ := s
  have L1 : Looks (model prog w) hh (typeOf (.ref x)) (.ref C) := I.type
  have L2 : Looks (model prog w) hh (typeOf b) (.ref C) := hb
  have L3 : Looks (model prog w) hh (fillsNumberSlot (.ref C) nm') true := fills_K X hcd hm hs
  simp only [binaryOp, hi]
  refine wpAny_holding (wpAny_bind ?_)
  unfold binaryOp1
  refine wpAny_bind (L1.at (wpAny_bind (L2.at (wpAny_bind (L3.at ?_)))))
  simp only [beq_self_eq_true, if_true]
  ksp_lk
  refine wpAny_mono one (fun r s' hr' => ?_) fun _ _ e => e
  obtain ⟨v, rfl, hq⟩ := hr'
  ksp_lk
  exact hq
theorem abs_K {Q : Value → Shared → Prop} (F : Fr h₀ L s.heap m) (X₀ : K.In h₀) (I : InstAt s.heap x ox C od) (hs : findIn K (.ref C) "__abs__" = some (some (.ref f))) (hf : isFn K (.ref f) = true)
    (h : wpAny (model prog w) A.in1 (call (.ref f) [.ref x]) Q E s) : wpAny (model prog w) A (call (.builtin "abs") [.ref x]) Q E s := by
  refine Calls.call_function_entry PyProof.Rows.kind_abs PyProof.Rows.plain_abs PyProof.Rows.entry_abs (PyProof.Rows.args_abs _) ?_
  unfold Builtin.«abs»
  refine wpAny_bind (m := oneArg "abs" _) (wpAny_pure ?_)
  refine wpAny_bind (m := callSpecial? (.ref x) (Str.ofString "__abs__")) (special_fn (X₀.keeps F.keep) I hs (beq_iff_eq.mp hf) (wpAny_mono h (fun r s' hr => ?_) fun _ _ y => y))
  exact wpAny_pure ⟨_, rfl, hr⟩
end
section
variable {X : Cx} {pins : List (Addr × Obj)} {σ : L2.St} {H : Hp} {s : Shared} {j k : Nat} {C : Addr} {sp : Sp}
/-- o op o' -/
def rBinO (C : Addr) (sp : Sp) : R2 := fun x y H Q => ∃ a dx fs b dy gs, x = .ref a ∧ H a = some (.ins C dx fs) ∧ y = .ref b ∧ H b = some (.ins C dy gs) ∧ sp [.ref a, .ref b] H (fun v H' => (∃ p, v = .ref p) ∧ Q v H') E0
theorem op_binO {op : Operator} {n : Str} (c : Ct X.prog X.w X.K X.mg X.base j C n [] sp) (hsf : PySem.W.selfFirst X.K C = true) (hn : PySem.dunder op.info.2 = n) (hr : Room j X.A) (hG : X.A.guards = some []) : OpR X (binaryOp op) (rBinO C sp) := by
  subst hn
  intro pins s σ H x y v u Q I rx ry h
  obtain ⟨a, dx, fs, b, dy, gs, rfl, ha, rfl, hb0, q⟩ := h
  cases (show v = Value.ref a from rx)
  cases (show u = Value.ref b from ry)
  obtain ⟨f, fd, ps, ds, cl, hm, F, hb, hd⟩ := c.ex
  cases hd
  obtain ⟨ox, od, J⟩ := ins_at I ha
  obtain ⟨oy, oe, J2⟩ := ins_at I hb0
  obtain ⟨m, hF⟩ := I.fr
  refine binC hF I.ok.mod.kin J J2.type hsf hm.at_ hm.fn (wpAny_mono (run_at (A := X.A) (us := [.ref a, .ref b]) (vs := [.ref a, .ref b]) F hr hG rfl hb .nil I (.cons rfl (.cons rfl .nil)) q) (fun r s' hv => ?_) fun _ _ x => x)
  obtain ⟨v, H', I', rv, ⟨p, rfl⟩, q'⟩ := hv
  cases (show r = Value.ref p from rv)
  exact ⟨.ref p, H', I', rfl, q'⟩
/-- -o -/
def rNegO (C : Addr) (sp : Sp) : V → Hp → VK → Prop := fun x H Q => ∃ a dx fs, x = .ref a ∧ H a = some (.ins C dx fs) ∧ sp [.ref a] H Q E0
theorem un_negO (c : Ct X.prog X.w X.K X.mg X.base j C "__neg__" [] sp) (hr : Room j X.A) (hG : X.A.guards = some []) : UnR X (unaryOp .USub) (rNegO C sp) := by
  intro pins s σ H x v Q I rx h
  obtain ⟨a, dx, fs, rfl, ha, q⟩ := h
  cases (show v = Value.ref a from rx)
  obtain ⟨f, fd, ps, ds, cl, hm, F, hb, hd⟩ := c.ex
  cases hd
  obtain ⟨ox, od, J⟩ := ins_at I ha
  obtain ⟨m, hF⟩ := I.fr
  exact PySem.W.ksp_neg hF I.ok.mod.kin J hm.at_ hm.fn (run_at (A := X.A) (us := [.ref a]) (vs := [.ref a]) F hr hG rfl hb .nil I (.cons rfl .nil) q)
/-- abs(o) -/
def rAbsO (C : Addr) (sp : Sp) : List V → Hp → VK → Prop := fun xs H Q => ∃ a dx fs, xs = [.ref a] ∧ H a = some (.ins C dx fs) ∧ sp [.ref a] H Q E0
theorem call_absO (c : Ct X.prog X.w X.K X.mg X.base j C "__abs__" [] sp) (hr : Room (j + 1) X.A) (hG : X.A.guards = some []) : CallR X (.builtin "abs") (rAbsO C sp) := by
  intro pins s σ H xs us Q I r h
  obtain ⟨a, dx, fs, rfl, ha, q⟩ := h
  obtain ⟨u, rfl, r1⟩ := vals1 r
  cases (show u = Value.ref a from r1)
  obtain ⟨f, fd, ps, ds, cl, hm, F, hb, hd⟩ := c.ex
  cases hd
  obtain ⟨ox, od, J⟩ := ins_at I ha
  obtain ⟨m, hF⟩ := I.fr
  exact abs_K hF I.ok.mod.kin J hm.at_ hm.fn (run_at (A := X.A.in1) (us := [.ref a]) (vs := [.ref a]) F hr.in1 hG rfl hb .nil I (.cons rfl .nil) q)
end
/-! ### *d in a display -/
def tStarD (te : TE) (t : TA) : TA := fun σ H Q => te σ H fun x H1 => ∃ d kvs, x = V.ref d ∧ Rd H1 d (.dK kvs) ∧ t σ H1 fun ys H2 => Q ((kvs.map fun kv => kV kv.1) ++ ys) H2
section
variable {X : Cx} {pins : List (Addr × Obj)} {σ : L2.St} {H : Hp} {s : Shared}
theorem star_dict {d : Addr} {kvs : List (Key × V)} {E : Value → Shared → Prop} {Q : List Value → Shared → Prop} (hc : X.calm = true) (I : Inv X pins σ H s) (h : Rd H d (.dK kvs)) (hQ : ∀ us s', Inv X pins σ H s' → Vals (kvs.map fun kv => kV kv.1) us → Q us s') : PySem.W.StarOf (model X.prog X.w) X.A E (.ref d) Q s := by
  obtain ⟨z, lo, vs, rel, dd⟩ := dk_rd I.hok h
  obtain ⟨ep, hat⟩ := dd.dictAt
  have ek : (kvs.map fun kv => kV kv.1) = vs.map fun p => kV p.1 := by
    have e := congrArg (List.map kV) rel.keys
    rw [List.map_map, List.map_map] at e
    exact e
  have z' : wpAny (model X.prog X.w) X.A (collect (.ref d)) Q E s := by
    refine PySem.W.kdu_collect (PySem.W.kdl_dict (knd := mixKind X.prog X.w) (kvs := vs) (ep := ep) lo) (I.ok.hd hc) hat (by rw [← rel.length]; exact z) fun h' tk acc hk hacc => ?_
    have hv : Vals (vs.map fun p => kV p.1) acc.toList := keys_at (by rw [Array.length_toList]; exact hacc.1) fun j v e => hacc.2 j v (by rw [← Array.getElem?_toList]; exact e)
    exact hQ _ _ (I.kept hk) (by rw [ek]; exact hv)
  unfold PySem.W.StarOf notIterableAtAll
  exact wpAny_bind (wpAny_specialOf dd.typeIs F.slot_dict_iter.lookup (wpAny_pure ⟨rfl, z'⟩))
theorem pa_starD {e : Expr} {es : List Expr} {te : TE} {t : TA} {p : Pos} (hc : X.calm = true) (he : PE X e te) (hr : PA X es t) (hs : starEach (.Starred e p :: es) X.env = (true, eval e X.env) :: starEach es X.env := by rfl) : PA X (.Starred e p :: es) (tStarD te t) := by
  refine ⟨fun pos pins s σ H Q I h => ?_⟩
  refine PySem.W.items_star (thn (he.run pins s σ H _ I h) fun v s1 ⟨y, H1, I1, ry, a, kvs, ey, hx, q⟩ => ?_) hs
  subst ey
  obtain rfl : v = Value.ref a := ry
  refine star_dict hc I1 hx fun us s2 I2 rv => ?_
  exact thn (hr.run pos pins s2 σ H1 _ I2 q) fun ws s3 ⟨vs, H3, I3, r3, q3⟩ => ⟨_ ++ vs, H3, I3, rv.append r3, q3⟩
end
/-! ### dicts of texts and ints -/
def kvI (p : Str × Int) : Key × V := (Sum.inr p.1, V.int p.2)
def lk (ls : List (Str × Int)) (n : Str) : Option Int := (ls.find? fun p => decide (p.1 = n)).map (·.2)
theorem lk_nil {n : Str} : lk [] n = none := rfl
theorem lk_cons {p : Str × Int} {ls : List (Str × Int)} {n : Str} : lk (p :: ls) n = if p.1 = n then some p.2 else lk ls n := by
  unfold lk
  rw [List.find?_cons]
  by_cases h : p.1 = n
  · rw [if_pos h, decide_eq_true h]
    rfl
  · rw [if_neg h, decide_eq_false h]
theorem valV_kvI {ls : List (Str × Int)} {n : Str} : valV (ls.map kvI) (Sum.inr n : Key) = (lk ls n).map V.int := by
  induction ls with
  | nil => rfl
  | cons p ls ih =>
    rw [lk_cons, List.map_cons]
    by_cases h : p.1 = n
    · rw [if_pos h, ← h]
      exact valV_pos (p := kvI p) rfl
    · rw [if_neg h, valV_neg (p := kvI p) (fun z => h (Sum.inr.inj z)), ih]
def eqI (as bs : List (Str × Int)) : Bool := as.length == bs.length && as.all fun p => decide (lk bs p.1 = some p.2)
theorem hits_int {A : Around} {s : Shared} {bs : List (Str × Int)} {vb : List (Key × Value)} (rb : KV (bs.map kvI) vb) : ∀ {as : List (Str × Int)} {va : List (Key × Value)}, KV (as.map kvI) va →
    PySem.W.KeqHits A s vb va (as.all fun p => decide (lk bs p.1 = some p.2))
  | [], va, ra => by
    cases ra
    exact .nil
  | p :: as, va, ra => by
    cases ra with
    | cons h t =>
      rename_i q qs
      obtain ⟨h1, t0, h2⟩ := h
      obtain ⟨k, v⟩ := q
      have h1' : (Sum.inr p.1 : Key) = k := h1
      have h2' : v = Value.int p.2 t0 := h2
      subst h1' h2'
      have rr : RelO (valV (bs.map kvI) (Sum.inr p.1 : Key)) (valueAt vb (Sum.inr p.1 : Key)) := rb.val _
      rw [valV_kvI] at rr
      rw [List.all_cons]
      cases e : lk bs p.1 with
      | none =>
        rw [e] at rr
        have hn : valueAt vb (Sum.inr p.1 : Key) = none := by
          cases e2 : valueAt vb (Sum.inr p.1 : Key) with
          | none => rfl
          | some y => rw [e2] at rr; exact (show False from rr).elim
        rw [decide_eq_false (by intro z; cases z), Bool.false_and]
        exact .miss hn
      | some i =>
        rw [e] at rr
        obtain ⟨y, hy, t1, ry⟩ := rr.some_of
        have ry' : y = Value.int i t1 := ry
        subst ry'
        have e3 : decide (some i = some p.2) = (p.2 == i) := by
          by_cases z : p.2 = i
          · rw [z]; simp
          · rw [decide_eq_false (fun w => z (Option.some.inj w).symm)]
            exact (beq_eq_false_iff_ne.mpr z).symm
        rw [e3]
        exact .hit hy (SeqAt.EqAt.int_int p.2 t0 i t1) (hits_int rb t)
section
variable {X : Cx}
def rEqDI (no : Bool) : R2 := fun x y H Q => ∃ a b as bs, x = .ref a ∧ y = .ref b ∧ H a = some (.dK (as.map kvI)) ∧ H b = some (.dK (bs.map kvI)) ∧ Q (.bl (eqI as bs != no)) H
theorem op_eqDI (hu : X.A.units < cLine) : OpR X (compareOp .Eq) (rEqDI false) := by
  intro pins s σ H x y v u Q I rx ry h
  obtain ⟨a, b, as, bs, rfl, rfl, ea, eb, q⟩ := h
  obtain rfl : v = Value.ref a := rx
  obtain rfl : u = Value.ref b := ry
  obtain ⟨_, ya, va, ra, da⟩ := (show ObjOk X.prog X.w H s.heap a (.dK (as.map kvI)) from I.hok a _ ea)
  obtain ⟨_, yb, vb, rb, db⟩ := (show ObjOk X.prog X.w H s.heap b (.dK (bs.map kvI)) from I.hok b _ eb)
  have la : va.length = as.length := by rw [← ra.length, List.length_map]
  have lb : vb.length = bs.length := by rw [← rb.length, List.length_map]
  rw [Bool.bne_false] at q
  exact PySem.W.keq_eq (knd := mixKind X.prog X.w) ya yb da db hu (fun _ => hits_int rb ra) (fin_bl I q (by rw [la, lb]; rfl))
theorem op_neDI (hu : X.A.units < cLine) : OpR X (compareOp .NotEq) (rEqDI true) := by
  intro pins s σ H x y v u Q I rx ry h
  obtain ⟨a, b, as, bs, rfl, rfl, ea, eb, q⟩ := h
  obtain rfl : v = Value.ref a := rx
  obtain rfl : u = Value.ref b := ry
  obtain ⟨_, ya, va, ra, da⟩ := (show ObjOk X.prog X.w H s.heap a (.dK (as.map kvI)) from I.hok a _ ea)
  obtain ⟨_, yb, vb, rb, db⟩ := (show ObjOk X.prog X.w H s.heap b (.dK (bs.map kvI)) from I.hok b _ eb)
  have la : va.length = as.length := by rw [← ra.length, List.length_map]
  have lb : vb.length = bs.length := by rw [← rb.length, List.length_map]
  rw [Bool.bne_true] at q
  exact PySem.W.keq_ne (knd := mixKind X.prog X.w) ya yb da db hu (fun _ => hits_int rb ra) (fin_bl I q (by rw [la, lb]; rfl))
end
end Tp
set_option Elab.async false
set_option linter.all false
set_option maxRecDepth 100000
set_option maxHeartbeats 4000000
namespace T10
open PySem PySem.Spec PyProof.Rows L2 Tp
def top (i : Nat) : Stmt := PySem.Challenge.pw_toldpast_k10_readers_and_edges.main.body.getD i (.Pass ⟨0, 0, 0, 0⟩)
abbrev sCell : Stmt := top 52
abbrev sBox : Stmt := top 53
abbrev sTake : Stmt := top 54
section
variable {P : Program} {w : World} {K : PySem.W.Frag} {mg : Str → Option Value} {base : Heap} {f : Addr} {fd : FuncData}
theorem scCell : FnScope ["_law_script", "_law_index"] ["_law_script", "_law_index"] (defScope sCell) := ⟨rfl, rfl, rfl, by decide +kernel, rfl, by decide +kernel, by decide +kernel⟩
theorem ok_cell (F : Fun K "_law_cell" "_law_cell" sCell f fd) (mL : mg "len" = none) : FnG P w K mg base CX0 1 f fd ["_law_script", "_law_index"] (spCellT K) := by
  refine FunG.ok F scCell (fun vs H Q E h => ?_) (fun cdv B out s H vs Q E hr hG h => ?_)
  · obtain ⟨a, ns, k, rfl, _⟩ := h
    rfl
  · obtain ⟨a, ns, k, rfl, hs, hl, hk, q⟩ := h
    refine ⟨_, pss_cons (ps_if (pt_cmpR op_lt (pv 1) (pe_callB call_len (by rfl) mL PySem.boot_len (pa_cons (pv 0) pa_nil)) (nomark _)) (pss_one (ps_ret (pe_ix ix_list (pv 0) (pv 1) fun _ _ => rfl))) pss_nil)
      (pss_one (ps_ret (pe_op op_add (pe_op op_mul pe_int (pv 1)) pe_int))), ?_⟩
    refine ⟨_, rfl, _, rfl, _, _, rfl, .inl ⟨_, hs, rfl⟩, _, _, rfl, rfl, _, rfl, ?_⟩
    refine ite2 (fun hlt => ?_) (fun hge => ?_)
    · have hlt' := of_decide_eq_true hlt
      rw [List.length_map] at hlt'
      have hkl : k < ns.length := by omega
      refine ⟨_, rfl, _, rfl, a, _, _, .int (ns[k]), rfl, rfl, hs, atI_nat ?_, q _⟩
      rw [List.getElem?_map, List.getElem?_eq_getElem hkl]
      rfl
    · refine ⟨_, rfl, _, _, rfl, rfl, .inl ⟨by decide, by decide⟩, _, _, rfl, rfl, q _⟩
theorem scBox : FnScope ["_law_cell_here"] ["_law_cell_here"] (defScope sBox) := ⟨rfl, rfl, rfl, by decide +kernel, rfl, by decide +kernel, by decide +kernel⟩
theorem ok_box (F : Fun K "_law_bag" "_law_bag" sBox f fd) (mM : mg "max" = none) : FnG P w K mg base CX0 1 f fd ["_law_cell_here"] spBox := by
  refine FunG.ok F scBox (fun vs H Q E h => ?_) (fun cdv B out s H vs Q E hr hG h => ?_)
  · obtain ⟨z, rfl, _⟩ := h
    rfl
  · obtain ⟨z, rfl, q⟩ := h
    refine ⟨_, pss_one (ps_ret (pe_lst (pa_cons (pe_callB (call_max2 rfl) (by rfl) mM (by decide +kernel) (pa_cons pe_int (pa_cons (pe_op op_sub (pv 0) (pe_op op_pow pe_int pe_int)) pa_nil)))
      (pa_cons (pe_op op_mod (pv 0) pe_int) (pa_cons pe_int pa_nil))))), ?_⟩
    refine ⟨_, rfl, _, _, rfl, rfl, ⟨by decide, by decide, by decide⟩, _, _, rfl, rfl, _, _, rfl, _, rfl, _, _, rfl, rfl, (by decide : (0:Int) < 2147483629), ?_⟩
    refine ⟨(by show 3 ≤ sizeLine; decide), fun p hp => ?_⟩
    refine q p _ hp ⟨_, _, _, upd_same, ?_, Int.emod_nonneg _ (by decide), Int.emod_lt_of_pos _ (by decide), by decide, by decide⟩ Keep.put
    split <;> omega
theorem scTake : FnScope ["_law_bag_here", "_law_many", "_law_digit", "_law_mixed"] ["_law_bag_here", "_law_many"] (defScope sTake) := ⟨rfl, rfl, rfl, by decide +kernel, rfl, by decide +kernel, by decide +kernel⟩
theorem pow_small {x : Int} {b : Nat} (h0 : 0 ≤ x) (h : x < 2 ^ 63) : x.natAbs < 2 ^ 64 := by omega
theorem ok_take (F : Fun K "_law_take" "_law_take" sTake f fd) : FnG P w K mg base CX0 1 f fd ["_law_bag_here", "_law_many"] spTake := by
  refine FunG.ok F scTake (fun vs H Q E h => ?_) (fun cdv B out s H vs Q E hr hG h => ?_)
  · obtain ⟨p, m, n, rfl, _⟩ := h
    rfl
  · obtain ⟨p, m, n, rfl, ⟨a, b, c, hp, ha, hb, hb2, hc, hcn⟩, hm, hm2, hn, q⟩ := h
    refine ⟨_, pss_cons (ps_if (pt_cmpR op_gt (pe_ix ix_list (pv 0) pe_int fun _ _ => rfl) pe_int (nomark _))
        (pss_cons (ps_set (i := 2) scTake.nd rfl (.inl rfl) (pe_op op_mod (pe_ix ix_list (pv 0) pe_int fun _ _ => rfl) (pv 1)))
          (pss_cons (ps_asg (pe_op op_fdivW (pe_ix ix_list (pv 0) pe_int fun _ _ => rfl) (pv 1)) (pg_sub (pv 0) pe_int set_list))
            (pss_one (ps_ret (pv 2))))) pss_nil)
      (pss_cons (ps_asg (pe_op op_add (pe_ix ix_list (pv 0) pe_int fun _ _ => rfl) pe_int) (pg_sub (pv 0) pe_int set_list))
        (pss_cons (ps_set (i := 3) scTake.nd rfl (.inl rfl) (pe_op op_mod (pe_op op_pow (pe_op op_add (pe_op op_add (pe_ix ix_list (pv 0) pe_int fun _ _ => rfl) (pe_op op_mul pe_int (pe_ix ix_list (pv 0) pe_int fun _ _ => rfl))) pe_int) pe_int) pe_int))
          (pss_cons (ps_set (i := 3) scTake.nd rfl (.inl rfl) (pe_op op_mod (pe_op op_pow (pe_op op_add (pv 3) (pe_op op_mul pe_int (pe_ix ix_list (pv 0) pe_int fun _ _ => rfl))) pe_int) pe_int))
            (pss_one (ps_ret (pe_op op_mod (pe_op op_fdiv (pv 3) pe_int) (pv 1))))))), ?_⟩
    have sq : SqL K H p [V.int a, V.int b, V.int c] := SqL.of hp
    refine ⟨_, rfl, p, _, _, .int a, rfl, rfl, sq, rfl, _, _, rfl, rfl, _, rfl, ?_⟩
    refine ite2 (fun h1 => ?_) (fun h1 => ?_)
    · have h1' := of_decide_eq_true h1
      refine ⟨_, rfl, p, _, _, .int a, rfl, rfl, sq, rfl, _, rfl, _, _, rfl, rfl, hm, ?_⟩
      refine ⟨_, rfl, p, _, _, .int a, rfl, rfl, sq, rfl, _, rfl, _, _, rfl, rfl, ⟨hm, by omega⟩, _, rfl, p, _, _, 0, rfl, rfl, hp, rfl, ?_⟩
      refine ⟨_, rfl, q _ _ (Int.emod_nonneg _ (by omega)) (Int.emod_lt_of_pos _ hm) ⟨_, _, _, upd_same, ?_, hb, hb2, hc, by omega⟩ fun x hx => upd_ne hx⟩
      exact Int.ediv_nonneg (by omega) (by omega)
    · have sq2 : SqL K (upd H p (.lst [.int a, .int b, .int (c + 1)])) p [V.int a, V.int b, V.int (c + 1)] := SqL.of upd_same
      refine ⟨_, rfl, p, _, _, .int c, rfl, rfl, sq, rfl, _, _, rfl, rfl, _, rfl, p, _, _, 2, rfl, rfl, hp, rfl, ?_⟩
      refine ⟨_, rfl, p, _, _, .int b, rfl, rfl, sq2, rfl, _, rfl, p, _, _, .int (c + 1), rfl, rfl, sq2, rfl, _, _, rfl, rfl, .inl ⟨by decide, by decide⟩, _, _, rfl, rfl, _, _, rfl, rfl, _, _, rfl, rfl, ⟨by decide, by decide, by omega⟩, _, _, rfl, rfl, (by decide : (0 : Int) < 2147483647), ?_⟩
      have hx1 := Int.emod_nonneg ((b + 122949829 * (c + 1) + 941) ^ (5 : Int).toNat) (by decide : (2147483647 : Int) ≠ 0)
      have hx2 := Int.emod_lt_of_pos ((b + 122949829 * (c + 1) + 941) ^ (5 : Int).toNat) (by decide : (0 : Int) < 2147483647)
      generalize (b + 122949829 * (c + 1) + 941) ^ (5 : Int).toNat % 2147483647 = y at hx1 hx2 ⊢
      refine ⟨_, rfl, _, rfl, p, _, _, .int (c + 1), rfl, rfl, sq2, rfl, _, _, rfl, rfl, .inl ⟨by decide, by decide⟩, _, _, rfl, rfl, _, _, rfl, rfl, ⟨by decide, by decide, by omega⟩, _, _, rfl, rfl, (by decide : (0 : Int) < 2147483587), ?_⟩
      generalize (y + 103217 * (c + 1)) ^ (3 : Int).toNat % 2147483587 = z
      refine ⟨_, rfl, _, _, rfl, rfl, ⟨by decide, by decide⟩, _, rfl, _, _, rfl, rfl, hm, ?_⟩
      exact q _ _ (Int.emod_nonneg _ (by omega)) (Int.emod_lt_of_pos _ hm) ⟨_, _, _, upd_same, ha, hb, hb2, by omega, by omega⟩ fun x hx => upd_ne hx
end
end T10
set_option Elab.async false
set_option linter.all false
set_option maxRecDepth 100000
set_option maxHeartbeats 4000000
/-! more on data whose repr fits; equality with an empty list -/
namespace Tp
open PySem PySem.Spec PyProof.Rows L2
theorem nice_small {i : Int} {k : Nat} (h : i.natAbs < 2 ^ k) (hk : k ≤ 999) : Nice k 0 (.int i) := by
  have hl : i.natAbs.log2 < 1000 ∧ (¬ i = 0 → i.natAbs.log2 < k) := by
    by_cases z : i.natAbs = 0
    · have : i = 0 := by omega
      subst this
      exact ⟨by decide, fun e => absurd rfl e⟩
    · have := (Nat.log2_lt z).mpr h
      exact ⟨by omega, fun _ => this⟩
  have n := nice_int hl.1
  refine ⟨n.sh, n.ls, ?_, n.dp⟩
  simp only [PyData.weight]
  split
  · omega
  · rename_i hz
    have := hl.2 (by simpa using hz)
    omega
theorem NiceAll.app {n m k j : Nat} : ∀ {ds es : List PyData}, NiceAll n k ds → NiceAll m j es → NiceAll (n + m) (max k j) (ds ++ es)
  | [], es, _, h => h.mono (by omega) (by omega)
  | d :: ds, es, h1, h2 => by
    obtain ⟨a, b, c, e⟩ := h1
    obtain ⟨a', b', c', e'⟩ := h2
    simp only [PyData.showableAll, Bool.and_eq_true] at a
    simp only [PyData.leavesShortAll, Bool.and_eq_true] at b
    simp only [PyData.weightAll] at c
    simp only [PyData.depthAll] at e
    have ih := NiceAll.app (n := PyData.weightAll ds) (k := PyData.depthAll ds) (ds := ds) ⟨a.2, b.2, Nat.le_refl _, Nat.le_refl _⟩ ⟨a', b', c', e'⟩
    refine ⟨?_, ?_, ?_, ?_⟩
    · simp only [List.cons_append, PyData.showableAll, a.1, ih.sh, Bool.and_self]
    · simp only [List.cons_append, PyData.leavesShortAll, b.1, ih.ls, Bool.and_self]
    · have := ih.wt
      simp only [List.cons_append, PyData.weightAll]
      omega
    · have := ih.dp
      simp only [List.cons_append, PyData.depthAll]
      omega
theorem niceAll_of {n k : Nat} : ∀ {ds : List PyData}, (∀ d ∈ ds, Nice n k d) → NiceAll (ds.length * (n + 1)) k ds
  | [], _ => niceAll_nil.mono (by omega) (by omega)
  | d :: ds, h => (NiceAll.cons (h d List.mem_cons_self) (niceAll_of (ds := ds) fun x hx => h x (List.mem_cons_of_mem _ hx))).mono (by rw [List.length_cons, Nat.succ_mul]; omega) (by omega)
theorem niceAll_bools : ∀ (bs : List Bool), NiceAll bs.length 0 (bs.map PyData.bool)
  | [] => niceAll_nil
  | b :: bs => (NiceAll.cons (nice_bool b) (niceAll_bools bs)).mono (by rw [List.length_cons]; omega) (by omega)
theorem ddAll_bools {K : PySem.W.Frag} {H : Hp} : ∀ (bs : List Bool), DdAll K H (bs.map V.bl) (bs.map PyData.bool)
  | [] => .nil
  | b :: bs => .cons (.bl b) (ddAll_bools bs)
theorem ddAll_strs {K : PySem.W.Frag} {H : Hp} : ∀ (bs : List Str), DdAll K H (bs.map V.str) (bs.map PyData.str)
  | [] => .nil
  | b :: bs => .cons (.str b) (ddAll_strs bs)
/-- repr(x), x data -/
theorem rReprD_of {K : PySem.W.Frag} {H : Hp} {a : Addr} {d : PyData} {n k : Nat} {Q : VK} (h : Dd K H (.ref a) d) (hn : Nice n k d) (h1 : n ≤ 8000) (h2 : k ≤ 60) (q : Q (.str d.shown) H) : rReprD K [.ref a] H Q :=
  ⟨a, d, rfl, h, hn.sh, Nat.le_trans hn.dp h2, hn.fits h1, q⟩
theorem NiceAll.mem {n k : Nat} : ∀ {ds : List PyData}, NiceAll n k ds → ∀ d ∈ ds, Nice n k d
  | d :: ds, h, x, hx => by
    obtain ⟨a, b, c, e⟩ := h
    simp only [PyData.showableAll, Bool.and_eq_true] at a
    simp only [PyData.leavesShortAll, Bool.and_eq_true] at b
    simp only [PyData.weightAll] at c
    simp only [PyData.depthAll] at e
    rcases List.mem_cons.mp hx with z | z
    · subst z
      exact ⟨a.1, b.1, by omega, by omega⟩
    · exact NiceAll.mem (ds := ds) (n := n) (k := k) ⟨a.2, b.2, by omega, by omega⟩ x z
theorem NiceAll.set {n k m j : Nat} {d : PyData} (hd : Nice m j d) : ∀ {ds : List PyData} {i : Nat}, NiceAll n k ds → NiceAll (n + m) (max k j) (ds.set i d)
  | [], i, h => h.mono (by omega) (by omega)
  | x :: ds, 0, h => by
    obtain ⟨a, b, c, e⟩ := h
    simp only [PyData.showableAll, Bool.and_eq_true] at a
    simp only [PyData.leavesShortAll, Bool.and_eq_true] at b
    simp only [PyData.weightAll] at c
    simp only [PyData.depthAll] at e
    exact (NiceAll.cons hd (m := PyData.weightAll ds) (j := PyData.depthAll ds) ⟨a.2, b.2, Nat.le_refl _, Nat.le_refl _⟩).mono (by omega) (by omega)
  | x :: ds, i + 1, h => by
    obtain ⟨a, b, c, e⟩ := h
    simp only [PyData.showableAll, Bool.and_eq_true] at a
    simp only [PyData.leavesShortAll, Bool.and_eq_true] at b
    simp only [PyData.weightAll] at c
    simp only [PyData.depthAll] at e
    have ih := NiceAll.set hd (ds := ds) (i := i) (n := PyData.weightAll ds) (k := PyData.depthAll ds) ⟨a.2, b.2, Nat.le_refl _, Nat.le_refl _⟩
    exact (NiceAll.cons (d := x) ⟨a.1, b.1, Nat.le_refl _, Nat.le_refl _⟩ ih).mono (by omega) (by omega)
/-! a short text lies in a light datum -/
mutual
theorem short_of_weight : ∀ (d : PyData), d.weight ≤ 5000 → shortD d = true
  | .none, _ => rfl
  | .bool _, _ => rfl
  | .int _, _ => rfl
  | .dict _, _ => rfl
  | .str z, h => by
    simp only [shortD]
    refine decide_eq_true ?_
    simp only [PyData.weight] at h
    exact h
  | .list ds, h => by
    simp only [PyData.weight] at h
    simp only [shortD]
    exact short_of_weightAll ds h
  | .tuple ds, h => by
    simp only [PyData.weight] at h
    simp only [shortD]
    exact short_of_weightAll ds h
theorem short_of_weightAll : ∀ (ds : List PyData), PyData.weightAll ds ≤ 5000 → shortAll ds = true
  | [], _ => rfl
  | d :: ds, h => by
    simp only [PyData.weightAll] at h
    simp only [shortAll, Bool.and_eq_true]
    exact ⟨short_of_weight d (by omega), short_of_weightAll ds (by omega)⟩
end
theorem len_of_weight : ∀ (ds : List PyData), ds.length ≤ PyData.weightAll ds
  | [] => Nat.le_refl _
  | d :: ds => by
    have := len_of_weight ds
    simp only [PyData.weightAll, List.length_cons]
    omega
theorem eqv_nil (ds : List PyData) : PyData.eqv (.list ds) (.list []) = ds.isEmpty := by
  cases ds <;> simp [PyData.eqv, PyData.eqvAll]
theorem canLay_strs : ∀ (ys : List Str), (∀ y ∈ ys, ∀ c ∈ TL.tl y, c < 256) → PyData.canLayAll0 (ys.map PyData.str) = true
  | [], _ => rfl
  | y :: ys, h => by
    simp only [List.map_cons, PyData.canLayAll0, Bool.and_eq_true]
    refine ⟨?_, canLay_strs ys fun z hz => h z (List.mem_cons_of_mem _ hz)⟩
    simp only [PyData.canLay0, PyData.strOk]
    rw [← Array.all_toList]
    exact List.all_eq_true.mpr fun c hc => decide_eq_true (Nat.lt_trans (h y List.mem_cons_self c hc) (by decide))
theorem depth_strs : ∀ (ys : List Str), PyData.depthAll (ys.map PyData.str) = 0
  | [] => rfl
  | y :: ys => by
    simp only [List.map_cons, PyData.depthAll, PyData.depth, depth_strs ys]
    rfl
theorem shaped_strs {ys : List Str} (h : ∀ y ∈ ys, ∀ c ∈ TL.tl y, c < 256) : SeqAt.shaped (.list (ys.map PyData.str)) = true := by
  unfold SeqAt.shaped
  rw [Bool.and_eq_true]
  refine ⟨by simpa only [PyData.canLay0] using canLay_strs ys h, decide_eq_true ?_⟩
  simp only [PyData.depth, depth_strs]
  decide
end Tp
set_option Elab.async false
set_option linter.all false
set_option maxRecDepth 100000
set_option maxHeartbeats 4000000
/-! the heap without some addresses: data that lies apart from a box -/
namespace Tp
open PySem PySem.Spec PyProof.Rows L2
/-- all that is tracked but at p and q -/
def rs (p q : Addr) (G : Hp) : Hp := fun b => if b = p ∨ b = q then none else G b
section
variable {p q a : Addr} {G G' : Hp} {o : HO}
theorem rs_same : Same (rs p q G) G := fun b u e => by
  unfold rs at e
  split at e
  · cases e
  · exact e
theorem rs_at (h1 : a ≠ p) (h2 : a ≠ q) (e : G a = some o) : rs p q G a = some o := by
  unfold rs
  rw [if_neg fun z => z.elim h1 h2]
  exact e
theorem rs_keep (k : Keep2 p q G G') : Same (rs p q G) (rs p q G') := fun b u e => by
  unfold rs at e ⊢
  split at e
  · cases e
  · rename_i h
    rw [if_neg h]
    exact k b u (fun z => h (.inl z)) (fun z => h (.inr z)) e
theorem rs_keep1 (k : Keep p G G') : Same (rs p p G) (rs p p G') := rs_keep (Keep2.of k)
theorem rs_more : Same (rs p q G) (rs p p G) := fun b u e => by
  unfold rs at e ⊢
  split at e
  · cases e
  · rename_i h
    rw [if_neg fun z => h (.inl (z.elim id id))]
    exact e
theorem rs_up (k : Same G G') : Same (rs p q G) (rs p q G') := rs_keep fun b u _ _ e => k b u e
/-- a new object beside a box -/
theorem alloc {n : Nat} (hb : BoxAt G p n) (e : G a = none) : BoxAt (upd G a o) p n ∧ Same (rs p p G) (rs p p (upd G a o)) ∧ rs p p (upd G a o) a = some o ∧ Keep p G (upd G a o) ∧ Same G (upd G a o) :=
  ⟨hb.new e, rs_up (Same.put e), rs_at (hb.ne e).symm (hb.ne e).symm upd_same, Keep.new e, Same.put e⟩
end
/-- one of two targets -/
def gOr (g1 g2 : TG) : TG := fun v σ H Q => g1 v σ H Q ∨ g2 v σ H Q
theorem pg_or {X : Cx} {tg : Expr} {g1 g2 : TG} (h1 : PG X tg g1) (h2 : PG X tg g2) : PG X tg (gOr g1 g2) :=
  ⟨fun pins s σ H v u Q I r hw => hw.elim (h1.run pins s σ H v u Q I r) (h2.run pins s σ H v u Q I r)⟩
theorem pair_of {K : PySem.W.Frag} {H : Hp} {a : Addr} {xs : List V} {n : Nat} {t : TGs} {σ : L2.St} {Q : L2.St → Hp → Prop} (h : SqA K H a xs) (hn : xs.length = n) (q : t xs σ H Q) : gOr (gTup K n t) (gLst K n t) (.ref a) σ H Q :=
  h.elim (fun h => .inr ⟨a, xs, rfl, h, hn, q⟩) fun h => .inl ⟨a, xs, rfl, h, hn, q⟩
mutual
/-- data whose texts have small signs -/
def smD : PyData → Bool
  | .str z => (TL.tl z).all fun c => decide (c < 256)
  | .list ds => smAll ds
  | .tuple ds => smAll ds
  | .none => true
  | .bool _ => true
  | .int _ => true
  | .dict _ => true
def smAll : List PyData → Bool
  | [] => true
  | d :: ds => smD d && smAll ds
end
theorem smAll_get : ∀ {ds : List PyData} {i : Nat} {d : PyData}, smAll ds = true → ds[i]? = some d → smD d = true
  | d :: ds, 0, _, h, e => by
    cases e
    simp only [smAll, Bool.and_eq_true] at h
    exact h.1
  | d :: ds, i + 1, _, h, e => by
    simp only [smAll, Bool.and_eq_true] at h
    exact smAll_get (i := i) h.2 e
theorem smD_seq {d : PyData} {ds : List PyData} (h : smD d = true) (e : seqD d = some ds) : smAll ds = true := by
  cases d with
  | list xs =>
    cases e
    simpa only [smD] using h
  | tuple xs =>
    cases e
    simpa only [smD] using h
  | _ => cases e
theorem smD_str {z : Str} (h : smD (.str z) = true) : ∀ c ∈ TL.tl z, c < 256 := fun c hc => by
  simp only [smD] at h
  exact of_decide_eq_true (List.all_eq_true.mp h c hc)
theorem smD_tz {n : Nat} {z : Str} (h : Tz n z) : smD (.str z) = true := by
  simp only [smD]
  exact List.all_eq_true.mpr fun c hc => decide_eq_true (h.sm c hc)
theorem smAll_of : ∀ {ds : List PyData}, (∀ d ∈ ds, smD d = true) → smAll ds = true
  | [], _ => rfl
  | d :: ds, h => by
    simp only [smAll, Bool.and_eq_true]
    exact ⟨h d List.mem_cons_self, smAll_of fun x hx => h x (List.mem_cons_of_mem _ hx)⟩
theorem smAll_mem : ∀ {ds : List PyData}, smAll ds = true → ∀ d ∈ ds, smD d = true
  | d :: ds, h, x, hx => by
    simp only [smAll, Bool.and_eq_true] at h
    rcases List.mem_cons.mp hx with e | e
    · subst e
      exact h.1
    · exact smAll_mem h.2 x e
mutual
/-- data without dicts are what the layer knows -/
theorem dp_of_dd {K : PySem.W.Frag} {H : Hp} : ∀ (d : PyData) (v : V), Dd K H v d → d.hasDict = false → Dp K H v d
  | .none, _, h, _ => by cases h; exact .non
  | .bool _, _, h, _ => by cases h; exact .bl _
  | .int _, _, h, _ => by cases h; exact .int _
  | .str _, _, h, _ => by cases h; exact .str _
  | .list ds, _, h, e => by
    cases h with
    | lst hs ha => exact .lst hs (dp_of_ddAll ds _ ha (by simpa only [PyData.hasDict] using e))
  | .tuple ds, _, h, e => by
    cases h with
    | tup hs ha => exact .tup hs (dp_of_ddAll ds _ ha (by simpa only [PyData.hasDict] using e))
  | .dict _, _, _, e => by simp [PyData.hasDict] at e
theorem dp_of_ddAll {K : PySem.W.Frag} {H : Hp} : ∀ (ds : List PyData) (vs : List V), DdAll K H vs ds → PyData.hasDictAll ds = false → DpAll K H vs ds
  | [], _, h, _ => by cases h; exact .nil
  | d :: ds, _, h, e => by
    cases h with
    | cons h1 h2 =>
      simp only [PyData.hasDictAll, Bool.or_eq_false_iff] at e
      exact .cons (dp_of_dd d _ h1 e.1) (dp_of_ddAll ds _ h2 e.2)
end
/-- data that may be shown and asked -/
structure Gd (n k : Nat) (d : PyData) : Prop where
  nc : Nice n k d
  sm : smD d = true
theorem Gd.mono {n k m j : Nat} {d : PyData} (h : Gd n k d) (h1 : n ≤ m) (h2 : k ≤ j) : Gd m j d := ⟨h.nc.mono h1 h2, h.sm⟩
end Tp
namespace Tp
open PySem PySem.Spec PyProof.Rows L2
mutual
theorem canLay_of_sm : ∀ d : PyData, smD d = true → d.hasDict = false → d.canLay0 = true
  | .none, _, _ => rfl
  | .bool _, _, _ => rfl
  | .int _, _, _ => rfl
  | .str z, h, _ => by
    simp only [PyData.canLay0, PyData.strOk]
    rw [← Array.all_toList]
    exact List.all_eq_true.mpr fun c hc => decide_eq_true (Nat.lt_trans (smD_str h c hc) (by decide))
  | .list ds, h, e => by
    simp only [smD] at h
    simp only [PyData.hasDict] at e
    simpa only [PyData.canLay0] using canLay_of_smAll ds h e
  | .tuple ds, h, e => by
    simp only [smD] at h
    simp only [PyData.hasDict] at e
    simpa only [PyData.canLay0] using canLay_of_smAll ds h e
  | .dict _, _, e => by simp [PyData.hasDict] at e
theorem canLay_of_smAll : ∀ ds : List PyData, smAll ds = true → PyData.hasDictAll ds = false → PyData.canLayAll0 ds = true
  | [], _, _ => rfl
  | d :: ds, h, e => by
    simp only [smAll, Bool.and_eq_true] at h
    simp only [PyData.hasDictAll, Bool.or_eq_false_iff] at e
    simp only [PyData.canLayAll0, Bool.and_eq_true]
    exact ⟨canLay_of_sm d h.1 e.1, canLay_of_smAll ds h.2 e.2⟩
end
theorem nodict_ints : ∀ ns : List Int, PyData.hasDictAll (ns.map PyData.int) = false
  | [] => rfl
  | n :: ns => by
    simp only [List.map_cons, PyData.hasDictAll, PyData.hasDict, Bool.false_or]
    exact nodict_ints ns
theorem gd_list {n k : Nat} {ds : List PyData} (h : ∀ d ∈ ds, Gd n k d) : Gd (ds.length * (n + 1)) (k + 1) (.list ds) :=
  ⟨(niceAll_of fun d hd => (h d hd).nc).list, by simpa only [smD] using smAll_of fun d hd => (h d hd).sm⟩
theorem gd_tup {n k : Nat} {ds : List PyData} (h : ∀ d ∈ ds, Gd n k d) : Gd (ds.length * (n + 1)) (k + 1) (.tuple ds) :=
  ⟨(niceAll_of fun d hd => (h d hd).nc).tuple, by simpa only [smD] using smAll_of fun d hd => (h d hd).sm⟩
theorem gd_none : Gd 0 0 .none := ⟨nice_none, rfl⟩
theorem gd_bool (b : Bool) : Gd 0 0 (.bool b) := ⟨nice_bool b, rfl⟩
theorem gd_int {i : Int} {k : Nat} (h : i.natAbs < 2 ^ k) (hk : k ≤ 999) : Gd k 0 (.int i) := ⟨nice_small h hk, rfl⟩
theorem gd_str {n : Nat} {z : Str} (h : Tz n z) : Gd n 0 (.str z) := ⟨nice_str h, smD_tz h⟩
end Tp
set_option Elab.async false
set_option linter.all false
set_option maxRecDepth 100000
set_option maxHeartbeats 8000000
/-! the head of a law by facts: what is read off the written part, and how it is told -/
namespace Tp
open PySem PySem.Spec PyProof.Rows L2
def dfn (x : Str) (st : Stmt) (dfl : List He.Dv := []) (kwd : List (Str × He.Dv) := []) : He.DefD := ⟨(x, none), x, x, defArgs st, defBody st, defScope st, dfl, kwd⟩
def dmt (c m q : Str) (st : Stmt) (dfl : List He.Dv := []) (kwd : List (Str × He.Dv) := []) : He.DefD := ⟨(c, some m), m, q, defArgs st, defBody st, defScope st, dfl, kwd⟩
theorem fun_of {K : PySem.W.Frag} {x qual : Str} {st : Stmt} {f : Addr} {fd : FuncData} (F : FunD K x qual (defArgs st) (defBody st) (defScope st) [] [] f fd) : Fun K x qual st f fd := by
  obtain ⟨oc, od, dV, kV, doc, pm, an, cdv, ct, osl, e, lk, hcd, hD, _⟩ := F.ex
  rcases hD with ⟨_, e2⟩ | ⟨z, _⟩
  · subst e2
    exact ⟨⟨oc, od, kV, doc, pm, an, cdv, ct, osl, e, lk, hcd⟩, F.kp⟩
  · exact absurd rfl z
theorem kb_of {K : PySem.W.Frag} {x q : Str} {st : Stmt} {f : Addr} {fd : FuncData} {ps ks : List Str} {n : Nat} {g : List Value → List Value → List Value} {gV : List V → List V → List V} (G : Fun K x q st f fd)
    (h : ∀ (kV doc pm : Value) (an : Option Addr) (cdv ct : Value) (us ws : List Value), us.length = n → ws.length = ks.length → bindArgs (PySem.W.fnOf x q (defArgs st) (defBody st) (defScope st) .none kV doc pm an cdv ct) ⟨us, ks.zip ws⟩ = pure (ps.zip (g us ws)))
    (rel : ∀ {vs : List V} {us : List Value} {zs : List V} {ws : List Value}, Vals vs us → Vals zs ws → Vals (gV vs zs) (g us ws)) : KBn K fd ps n ks g gV := by
  obtain ⟨oc, od, kV, doc, pm, an, cdv, ct, osl, rfl, lk, hcd⟩ := G.ex
  exact ⟨fun s us ws _ l1 l2 => .of_eq (h kV doc pm an cdv ct us ws l1 l2), rel⟩
/-- the goal that such a head leaves -/
theorem walkGE {l : PySem.W.OpenLaw} {n k : Nat} {q : Program} {loose : List Str} {XP : (Str → Option Value) → Heap → Prop} {YP : World → Heap → Prop} {d : DefRec} {x : Str}
    (hn : l.most = some n) (hn2 : n ≤ sizeLine) (hdf : d.params.defaults = []) (hr : Room k callerA)
    (F : ∀ (w : World) (mg : Str → Option Value) (fa : Addr) (h : Heap), YP w h → h.Ns mainGlobals mg → mg d.name = some (.ref fa) →
      ∃ (K : PySem.W.Frag) (fd : FuncData) (sp : Sp), K.In h ∧ (∀ (s : Shared) (u : Value), BindsTo s fd ⟨[u], []⟩ [(x, u)]) ∧ (∀ base : Heap, K.In base → base.Ns mainGlobals mg → FnG l.prog w K mg base CX0 k fa fd [x] sp) ∧
        ∀ (H : Hp) (a : Addr) (ns : List Int), ns.length ≤ n → Only H → SqL K H a (ns.map V.int) → sp [.ref a] H (fun v _ => v = .bl true) E0) :
    PySem.W.WalkO q loose XP YP l.row.toRowW d [] (fun f vs => PySem.call f vs) := by
  refine Att.attach_call hn hdf fun w s0 s1 mg mb fa o pm cd doc a vs ns G Y ho hd hcd hmg hobj hints hlen hg => ?_
  obtain ⟨K, fd, sp, KX, hb, hF, hsp⟩ := F w mg fa _ Y G.T.g hmg
  exact law_callG KX G.T.g G.T.b G.T.builtins G.T.nolimit hg hobj hints (Nat.le_trans hlen hn2) hr hF hb fun H hO hS => hsp H a ns hlen hO hS
/-! ### facts by one Bool -/
def emB (K : PySem.W.Frag) (a : Addr) : Bool := match K.lookup a with
  | some ⟨.type t, _, .seq its _, _⟩ => decide (t = "tuple") && decide (its = #[])
  | _ => false
theorem emB_ok {K : PySem.W.Frag} {a : Addr} (h : emB K a = true) : ∃ (o : Obj) (n : Nat), K.lookup a = some o ∧ o.cls = .type "tuple" ∧ o.data = .seq #[] n := by
  unfold emB at h
  split at h
  · rename_i t od its n sl e
    rw [Bool.and_eq_true, decide_eq_true_eq, decide_eq_true_eq] at h
    obtain ⟨rfl, rfl⟩ := h
    exact ⟨_, n, e, rfl, rfl⟩
  · cases h
def smB (K : PySem.W.Frag) : Bool := match K.lookup sysModules with
  | some ⟨.type t, _, _, _⟩ => decide (t = "dict")
  | _ => false
theorem smB_ok {K : PySem.W.Frag} (h : smB K = true) : Sm K := by
  unfold smB at h
  split at h
  · rename_i t od dt sl e
    rw [decide_eq_true_eq] at h
    subst h
    exact ⟨_, e, rfl⟩
  · cases h
/-- what all instances and exceptions share -/
def glB (K : PySem.W.Frag) : Bool := He.eqO (PySem.W.specialIn K (.builtin "object.__class__") "__get__") (some (some (.builtin "getset_descriptor.__get__"))) && decide (PySem.W.takesIn K (.builtin "object.__class__") = some true)
def insB (K : PySem.W.Frag) (C : Addr) : Bool := He.eqO (PySem.W.findIn K (.ref C) "__class__") (some (some (.builtin "object.__class__"))) && (decide (PySem.W.mroIn K C (.type "object") = some true) && tys6.all fun u => decide (PySem.W.subIn K (.ref C) (.type u) = some false))
theorem kit_sub {K : PySem.W.Frag} {C : Addr} {u : String} {b : Bool} (hu : u ∈ tys6) (h : PySem.W.subIn K (.ref C) (.type u) = some b) : PySem.W.kitOne K (.ref C) (.type u) = some b := by
  have km : ∀ u ∈ tys6, PySem.W.kitMeta u = true := by decide +kernel
  unfold PySem.W.kitOne
  rw [if_neg (show ¬ (Value.ref C == Value.type u) = true from fun z => by cases z)]
  show (if PySem.W.kitMeta u = true then PySem.W.subIn K (.ref C) (.type u) else none) = some b
  rw [if_pos (km u hu)]
  exact h
theorem insB_ok {K : PySem.W.Frag} {C : Addr} (g : glB K = true) (c : Cls K C) (h : insB K C = true) : InsK K C := by
  unfold insB at h
  unfold glB at g
  simp only [Bool.and_eq_true, decide_eq_true_eq, List.all_eq_true] at g h
  exact ⟨c, He.eqO_ok h.1, He.eqO_ok g.1, g.2, h.2.1, fun u hu => kit_sub hu (h.2.2 u hu)⟩
/-! ### exceptions -/
def classB (K : PySem.W.Frag) (C : Addr) (tl : List Value) (newId : String) : Bool := match K.lookup C with
  | some ⟨.type t, _, .cls cd, sl⟩ => decide (t = "type") && (cd.hasDict && (!cd.hasDel && (decide (cd.mro = .ref C :: tl) && (match sl.toList with
    | [_, _, _, _, some (.builtin n), _] => decide (n = newId)
    | _ => false))))
  | _ => false
/-- how a class is written -/
def Lin (K : PySem.W.Frag) (C : Addr) (tl : List Value) (newId : String) : Prop := ∃ (nm qn : Str) (N : Addr) (bs : List Value) (sn : List Str) (sub : List Value) (ab : Bool) (col : Option Bool) (dd : Option Addr) (k0 k1 k2 k3 k5 : Option Value),
  K.lookup C = some (excClassObj nm qn C N bs tl true sn sub ab col dd k0 k1 k2 k3 k5 newId)
theorem classB_ok {K : PySem.W.Frag} {C : Addr} {tl : List Value} {newId : String} (h : classB K C tl newId = true) : Lin K C tl newId := by
  unfold classB at h
  split at h
  · rename_i t dd cd sl ho
    simp only [Bool.and_eq_true, decide_eq_true_eq, Bool.not_eq_true'] at h
    obtain ⟨rfl, h1, h2, h3, h4⟩ := h
    split at h4
    · rename_i k0 k1 k2 k3 n k5 hs
      have en := of_decide_eq_true h4
      obtain ⟨nm, bs, mro, ns, qn, hd, sn, sub, ab, col, del⟩ := cd
      dsimp only at h1 h2 h3
      subst h1 h2 h3
      have hsl : sl = #[k0, k1, k2, k3, some (.builtin n), k5] := by
        obtain ⟨l⟩ := sl
        simp only at hs
        rw [hs]
      subst hsl
      exact ⟨nm, qn, ns, bs, sn, sub, ab, col, dd, k0, k1, k2, k3, k5, by rw [ho, en]⟩
    · cases h4
  · cases h
section
variable {K : PySem.W.Frag} {C Bc : Addr} {tl line : List Value} {newId : String}
theorem Lin.cls (h : Lin K C tl newId) : ∃ cd, PySem.W.clsIn K C = some cd ∧ cd.mro = .ref C :: tl ∧ cd.hasDict = true ∧ PySem.W.typeIn K (.ref C) = some (.type "type") := by
  obtain ⟨nm, qn, N, bs, sn, sub, ab, col, dd, k0, k1, k2, k3, k5, h⟩ := h
  refine ⟨_, (by unfold PySem.W.clsIn; rw [h]), rfl, rfl, ?_⟩
  show (K.lookup C).map (·.cls) = _
  rw [h]
  rfl
theorem Lin.own (h : Lin K C tl newId) (t : Value) {b : Bool} (e : (Value.ref C :: tl).contains t = b) : PySem.W.subIn K (.ref C) t = some b := by
  obtain ⟨cd, hc, hm, _⟩ := h.cls
  show PySem.W.mroIn K C t = some b
  unfold PySem.W.mroIn
  rw [hc, Option.bind_some, hm, e]
  rfl
theorem Lin.two (h : Lin K C tl newId) (ht : PySem.W.excTail line tl = true) : PySem.W.excInitIn K C line newId = true ∧ PySem.W.excOver K C line = true := by
  constructor
  · obtain ⟨nm, qn, N, bs, sn, sub, ab, col, dd, k0, k1, k2, k3, k5, h⟩ := h
    unfold PySem.W.excInitIn
    rw [h]
    simp [ht]
  · obtain ⟨cd, hc, hm, _⟩ := h.cls
    unfold PySem.W.excOver
    rw [hc, Option.any_some]
    simp only [hm]
    simp [ht]
/-- the three lines behind the package's bases -/
def lnN (i : Nat) : List Value := if i = 0 then valLine else if i = 1 then keyLine else lookLine
def nwN (i : Nat) : String := if i = 0 then "ValueError.__new__" else "LookupError.__new__"
theorem ln_ref (i : Nat) (a : Addr) (r : List Value) : lnN i ≠ .ref a :: r := fun z => by
  unfold lnN at z
  split at z
  · cases z
  · split at z <;> cases z
theorem ln_tail (i : Nat) : PySem.W.excTail (lnN i) (.ref Bc :: lnN i) = true := by
  show PySem.W.excTail (lnN i) (lnN i) = true
  unfold lnN
  split
  · decide +kernel
  · split <;> decide +kernel
theorem ln_base (i : Nat) : BaseX (nwN i) (lnN i) := by
  unfold nwN lnN
  split
  · exact baseV
  · split
    · exact baseK
    · exact baseL
/-- all that is asked of class C below Bc, kind i, the fields fs -/
def excB (K : PySem.W.Frag) (C Bc : Addr) (i : Nat) (fs : List Str) (fI : Addr) : Bool := classB K C (.ref Bc :: lnN i) (nwN i) && (He.eqO (PySem.W.findIn K (.ref C) "__setattr__") (some (some (.builtin "object.__setattr__"))) &&
  (He.eqO (PySem.W.findIn K (.ref C) "__getattribute__") (some (some (.builtin "BaseException.__getattribute__"))) && (He.eqO (PySem.W.findIn K (.ref C) "__getattr__") (some none) && (PySem.W.keepIn K (.ref C) &&
  (He.eqO (PySem.W.findIn K (.ref C) "__class__") (some (some (.builtin "object.__class__"))) && (He.eqO (PySem.W.findIn K (.ref C) "__init__") (some (some (.ref fI))) && (decide (PySem.W.typeIn K (.ref fI) = some (.type "function")) && fs.all fun f => He.eqO (PySem.W.findIn K (.ref C) f) (some none))))))))
/-- what is told of it -/
structure ExcK (K : PySem.W.Frag) (C Bc : Addr) (i : Nat) (fs : List Str) (fI : Addr) : Prop where
  ex : ExK K C
  no : ∀ f ∈ fs, PySem.W.findIn K (.ref C) f = some none
  ini : PySem.W.findIn K (.ref C) "__init__" = some (some (.ref fI))
  fn : PySem.W.typeIn K (.ref fI) = some (.type "function")
  lin : Lin K C (.ref Bc :: lnN i) (nwN i)
theorem ln_no (i : Nat) (C Bc : Addr) : ∀ u ∈ tys6, (Value.ref C :: Value.ref Bc :: lnN i).contains (.type u) = false := by
  have a1 : ∀ u ∈ tys6, ∀ l ∈ [valLine, keyLine, lookLine], l.contains (.type u) = false := by decide +kernel
  intro u hu
  have e1 : (Value.type u == Value.ref C) = false := rfl
  have e2 : (Value.type u == Value.ref Bc) = false := rfl
  rw [List.contains_cons, e1, Bool.false_or, List.contains_cons, e2, Bool.false_or]
  refine a1 u hu _ ?_
  unfold lnN
  split
  · simp
  · split <;> simp
theorem ExcK.kit {i : Nat} {fs : List Str} {fI : Addr} (h : ExcK K C Bc i fs fI) : ∀ u ∈ tys6, PySem.W.kitOne K (.ref C) (.type u) = some false := fun u hu => kit_sub hu (h.lin.own _ (ln_no i C Bc u hu))
theorem excB_ok {i : Nat} {fs : List Str} {fI : Addr} (g : glB K = true) (h : excB K C Bc i fs fI = true) : ExcK K C Bc i fs fI := by
  unfold excB at h
  unfold glB at g
  simp only [Bool.and_eq_true, decide_eq_true_eq, List.all_eq_true] at g h
  obtain ⟨h1, sa, ga, gg, kc, ha, hi, hf, hfs⟩ := h
  have L := classB_ok h1
  obtain ⟨cd, hc, hm, hd, hty⟩ := L.cls
  have lb : ∀ l ∈ [valLine, keyLine, lookLine], l.contains (.type "BaseException") = true ∧ l.contains (.type "object") = true := by decide +kernel
  have hl : lnN i ∈ [valLine, keyLine, lookLine] := by
    unfold lnN
    split
    · simp
    · split <;> simp
  have up : ∀ t, (lnN i).contains (.type t) = true → (Value.ref C :: Value.ref Bc :: lnN i).contains (.type t) = true := fun t e => by
    rw [List.contains_cons, List.contains_cons, e]
    simp
  refine ⟨⟨⟨_, _, ln_base i, L.two (ln_tail i)⟩, He.eqO_ok sa, He.eqO_ok ga, He.eqO_ok gg, L.own _ (up _ (lb _ hl).1), hty, ?_, kc, He.eqO_ok ha, He.eqO_ok g.1, g.2, L.own _ (up _ (lb _ hl).2)⟩, fun f hf => He.eqO_ok (hfs f hf), He.eqO_ok hi, hf, L⟩
  unfold PySem.W.hasDictIn
  rw [hc, Option.any_some]
  exact hd
end
/-! ### the run's hook -/
/-- the addresses that are looked at: the module's names, their classes' bodies, what stands in them, code, defaults, the table of modules -/
def refsR (o : Obj) : List Addr := match o.data with
  | .cls cd => [cd.ns]
  | .func fd => He.refV fd.code ++ (He.refV fd.defaults ++ He.refV fd.kwdefaults)
  | .seq its _ => its.toList.flatMap He.refV
  | _ => []
def dictR (o : Obj) : List Addr := match o.data with
  | .dict es _ => es.toList.flatMap fun e => He.refV e.val
  | _ => []
def viaR (g : Addr → Option Obj) (f : Obj → List Addr) (as : List Addr) : List Addr := as.flatMap fun a => match g a with
  | some o => f o
  | none => []
def asR (g : Addr → Option Obj) : List Addr :=
  let l1 := viaR g dictR [mainGlobals]
  let l2 := viaR g refsR l1
  let l3 := viaR g dictR l2
  let l4 := viaR g refsR l2
  let l5 := viaR g refsR l3
  sysModules :: mainGlobals :: (l1 ++ (l2 ++ (l3 ++ (l4 ++ (l5 ++ viaR g refsR l5)))))
abbrev AlR : Type := He.AlD × Bool
def obsR (fa : List He.Fa) (fn : List He.DefD) (ex : PySem.W.Frag → Bool) (g : Addr → Option Obj) : AlR := (He.obsD fa fn (He.frG g (asR g)), ex (He.frG g (asR g)))
def hookR (fa : List He.Fa) (fn : List He.DefD) (ex : PySem.W.Frag → Bool) : PySem.W.Hook where
  α := AlR
  obs := fun s => obsR fa fn ex s.heap.get?
  val := fun _ => (He.valD fn, true)
  says := fun _ h => ∃ K : PySem.W.Frag, K.In h ∧ He.SaysD fa fn K ∧ ex K = true
  of := fun _ s e => ⟨_, He.frG_in, congrArg (fun z : AlR => z.1) e, congrArg (fun z : AlR => z.2) e⟩
  keeps := fun _ _ _ ⟨K, hK, c⟩ k => ⟨K, PySem.W.Frag.In.keeps hK k, c⟩
theorem obsR_eq {fa : List He.Fa} {fn : List He.DefD} {ex : PySem.W.Frag → Bool} {g : Addr → Option Obj} {s : Shared} (h : ∀ a, g a = s.heap.get? a) : obsR fa fn ex g = (hookR fa fn ex).obs s := by
  have e : g = s.heap.get? := funext h
  rw [e] <;> rfl
end Tp
set_option Elab.async false
set_option linter.all false
set_option maxRecDepth 100000
set_option maxHeartbeats 4000000
/-! try with several clauses, each of which may name the exception; the field of a caught one -/
namespace Tp
open PySem PySem.Spec PyProof.Rows L2
/-- a clause: its class, the slot of its name (none: no name), what its suite wishes -/
abbrev Cla : Type := Value × Option Nat × (Addr → Value → Option Addr → TS)
def offSlot (j : Option Nat) (D : Ends) : Ends := match j with
  | none => D
  | some i => { nx := fun σ H => D.nx (σ.set i none) H, rt := D.rt, bk := fun σ H => D.bk (σ.set i none) H, ct := fun σ H => D.ct (σ.set i none) H }
def onSlot (j : Option Nat) (a : Addr) (σ : L2.St) : L2.St := match j with
  | none => σ
  | some i => σ.set i (some (.ref a))
/-- what an exception of the body must meet: the first clause that takes it, or the way out -/
def wCla (K : PySem.W.Frag) (out : WX) (D : Ends) : List Cla → WX
  | [] => out
  | (c, j, t) :: more => fun cls d σ H => ∃ b, PySem.W.exmOne K cls c = some b ∧ (b = true → ∀ a, H a = none → t a cls d (offSlot j D) (onSlot j a σ) H) ∧ (b = false → wCla K out D more cls d σ H)
inductive ClaOk (X : Cx) : List ExceptHandler → List Cla → Prop
  | nil : ClaOk X [] []
  | bare {x : Str} {c : Value} {t : Addr → Value → Option Addr → TS} {b : Stmt} {bs : List Stmt} {p q : Pos} {hs : List ExceptHandler} {l : List Cla} (hc : Names X x c)
      (hb : ∀ (a : Addr) (oe : Obj) (cls : Value) (d : Option Addr) (pn : List (Addr × Obj)), Zc cls d oe → (∃ vs, oe.data = .fields vs) → PSs (X.suite a ((a, oe) :: pn)) (b :: bs) (t a cls d)) (more : ClaOk X hs l) :
      ClaOk X (.ExceptHandler (some (.Name x p)) none (b :: bs) q :: hs) ((c, none, t) :: l)
  | named {x n : Str} {i : Nat} {c : Value} {t : Addr → Value → Option Addr → TS} {b : Stmt} {bs : List Stmt} {p q : Pos} {hs : List ExceptHandler} {l : List Cla} (hc : Names X x c) (hi : X.N[i]? = some n) (hn : X.env.kindOf n = some .local)
      (hb : ∀ (a : Addr) (oe : Obj) (cls : Value) (d : Option Addr) (pn : List (Addr × Obj)), Zc cls d oe → (∃ vs, oe.data = .fields vs) → PSs (X.suite a ((a, oe) :: pn)) (b :: bs) (t a cls d)) (more : ClaOk X hs l) :
      ClaOk X (.ExceptHandler (some (.Name x p)) (some n) (b :: bs) q :: hs) ((c, some i, t) :: l)
section
variable {X : Cx} {D : Ends} {out : WX} {pins : List (Addr × Obj)} {σ : L2.St} {H : Hp} {sI s : Shared} {B : Heap} {a : Addr} {cls : Value} {d : Option Addr}
/-- the clauses, asked one after the other of an exception that lies noted on the ground -/
theorem run_cla (stk : X.stack = X.env :: X.outer) (loc : X.env.frame = some X.env.locals) (nd : X.N.Nodup) (tk : Takes X out) (ok : X.Ok) (J : Inv X pins σ H sI) (gB : ∀ b o, sI.heap.get? b = some o → b ∉ frs X.stack → B.get? b = some o) (up : sI.heap.UpToSlots s.heap)
    (fly : HandSPX.FlyingZ B (X.env :: X.outer) a (Zc cls d) s.heap) (na : H a = none) (os : s.os = sI.os) (bare : AllBare s.gens) :
    ∀ {hds : List ExceptHandler} {l : List Cla}, ClaOk X hds l → wCla X.K out D l cls d σ H → wpAny (model X.prog X.w) X.A (handleBy (.ref a) X.env hds) (SP X pins D) X.xe s := by
  have away : ∀ {h : Heap}, HandSPX.FlyingZ B (X.env :: X.outer) a (Zc cls d) h → a ∉ frs (X.env :: X.outer) := fun {h} f m => by
    obtain ⟨o1, w1, p1, _, p2⟩ := f.there
    obtain ⟨_, o2, p3, p4⟩ := f.2.2.1.mem m
    cases p1.symm.trans p3
    exact p4 _ p2
  have out1 := away fly
  have neL : a ≠ X.env.locals := fun z => out1 (List.mem_filterMap.mpr ⟨X.env, List.mem_cons_self, by rw [loc, z]⟩)
  have neF : a ∉ X.fs := fun m => by
    obtain ⟨e, he, q⟩ := List.mem_filterMap.mp m
    exact out1 (List.mem_filterMap.mpr ⟨e, List.mem_cons_of_mem _ he, q⟩)
  have here : Inv X pins σ H s := J.landed gB fly.1 up os bare
  obtain ⟨oe, ws, ho, hz, hd⟩ := fly.there
  have inS := here.suite ho hd na neL neF
  have kind : PySem.W.Looks (model X.prog X.w) s.heap (typeOf (.ref a)) cls := fun A' Q' E' s' k q => wpAny_typeOf_ref (k _ _ ho) (by rw [hz.1]; exact q)
  -- the class of a clause is read
  have read : ∀ {x : Str} {p : Pos} {c : Value} {Q' : Value → Shared → Prop} {E' : Value → Shared → Prop}, Names X x c → Q' c s → wpAny (model X.prog X.w) (X.A.mark (some (.ref a))) (eval (.Name x p) X.env) Q' E' s := fun {x p c Q' E'} hc q => by
    obtain ⟨g1, g2, g3⟩ := hc
    rcases g3 with g3 | ⟨g3, g4, g5⟩
    · exact ld_glob (X := X.suite a ((a, oe) :: (X.pn ++ pins))) inS g1 g3 q g2
    · exact ld_blt (X := X.suite a ((a, oe) :: (X.pn ++ pins))) inS g1 g3 g4 q g5 g2
  -- a suite is entered
  have enter : ∀ {h2 : Heap}, HandSPX.FlyingZ B (X.env :: X.outer) a (Zc cls d) h2 → s.heap.UpToSlots h2 → ∃ o2, Zc cls d o2 ∧ (∃ vs, o2.data = .fields vs) ∧ Inv (X.suite a ((a, o2) :: (X.pn ++ pins))) [] σ H { s with heap := h2 } := fun {h2} f2 u2 => by
    obtain ⟨o2, w2, p1, p2, p3⟩ := f2.there
    have J2 : Inv X pins σ H { s with heap := h2 } := J.landed gB f2.1 (up.trans u2) os bare
    exact ⟨o2, p2, ⟨_, p3⟩, J2.suite p1 p3 na neL neF⟩
  intro hds l hk
  induction hk with
  | nil =>
    intro hw
    refine wpAny_handleBy_nil ?_
    obtain ⟨_, _, _, o1, w1, T, _, _, p1, _, p2, p3, _⟩ := id fly
    unfold PySem.passOn
    refine wpAny_bind (wpAny_field p1 p2 p3 ?_)
    rw [if_neg (show ¬ ((Value.ref T == Value.none) = true) from by simp)]
    have last : wpAny (model X.prog X.w) X.A (setFlight (.ref a) X.env.frame) (fun _ s' => wpAny (model X.prog X.w) X.A (throw (.ref a) : Sem Flow) (SP X pins D) X.xe s') X.xe s := by
      rw [loc]
      refine HandSPX.setFlight_upZ fly fun h2 f2 u2 => wpAny_throw (tk _ _ ⟨a, B, sI, pins, σ, H, cls, d, rfl, J, gB, up.trans u2, .inr (.inr ?_), na, os, bare, hw⟩)
      rw [stk]
      exact f2
    first
      | exact wpAny_bind last
      | exact wpAny_bind (wpAny_pure (wpAny_bind last))
  | bare hc hb more ih =>
    rintro ⟨b, e1, yes, no⟩
    refine wpAny_handleBy_cons (codeAny_handlers_test ?_) (fun z => by cases z)
    refine read hc ((PySem.W.exm_one (M := model X.prog X.w) here.kIn kind e1).here ?_)
    cases b with
    | false => exact ih (no rfl)
    | true =>
      refine codeAny_handlers_suite (HandSPX.lands_againZ fly fun h2 f2 u2 => ?_)
      obtain ⟨o2, z2, dd2, I2⟩ := enter f2 u2
      refine wpAny_mono ((hb a o2 cls d (X.pn ++ pins) z2 dd2).run [] _ _ H _ I2 (yes rfl a na)) (fun f s' q => ?_) fun _ _ z => False.elim z
      cases f with
      | next =>
        obtain ⟨σ', H', I', q⟩ := q
        exact ⟨σ', H', I'.unsuite ok, q⟩
      | brk =>
        obtain ⟨σ', H', I', q⟩ := q
        exact ⟨σ', H', I'.unsuite ok, q⟩
      | cont =>
        obtain ⟨σ', H', I', q⟩ := q
        exact ⟨σ', H', I'.unsuite ok, q⟩
      | ret u =>
        obtain ⟨v, σ', H', I', r, q⟩ := q
        exact ⟨v, σ', H', I'.unsuite ok, r, q⟩
  | @named x n i c t b0 bs p q0 hs l hc hi hn hb more ih =>
    rintro ⟨b, e1, yes, no⟩
    refine wpAny_handleBy_cons (codeAny_handlers_test ?_) (fun z => by cases z)
    refine read hc ((PySem.W.exm_one (M := model X.prog X.w) here.kIn kind e1).here ?_)
    cases b with
    | false => exact ih (no rfl)
    | true =>
      refine codeAny_handlers_suite_as (HandSPX.lands_againZ fly fun h2 f2 u2 => ?_)
      obtain ⟨o2, z2, dd2, I2⟩ := enter f2 u2
      refine store_ok (X := X.suite a ((a, o2) :: (X.pn ++ pins))) (v := .ref a) I2 nd hi (.inl hn) rfl (fun s3 I3 => ?_) (.inr hn)
      refine wpAny_mono ((hb a o2 cls d (X.pn ++ pins) z2 dd2).run [] s3 _ H _ I3 (yes rfl a na)) (fun f s' q => ?_) fun _ _ z => False.elim z
      have gone : ∀ {σ' : L2.St} {H' : Hp} {Q' : Shared → Prop}, Inv (X.suite a ((a, o2) :: (X.pn ++ pins))) [] σ' H' s' → (∀ s4, Inv X pins (σ'.set i none) H' s4 → Q' s4) →
          wpAny (model X.prog X.w) X.A (do bindName X.env n .none; unbindBehindTheSuite X.env n q0) (fun _ s4 => Q' s4) X.xe s' := fun {σ' H' Q'} I' k => gone_ok (I'.unsuite ok) nd hi hn k
      cases f with
      | next =>
        obtain ⟨σ', H', I', q⟩ := q
        exact gone I' fun s4 I4 => ⟨_, _, I4, q⟩
      | brk =>
        obtain ⟨σ', H', I', q⟩ := q
        exact gone I' fun s4 I4 => ⟨_, _, I4, q⟩
      | cont =>
        obtain ⟨σ', H', I', q⟩ := q
        exact gone I' fun s4 I4 => ⟨_, _, I4, q⟩
      | ret u =>
        obtain ⟨v, σ', H', I', r, q⟩ := q
        exact gone I' fun s4 I4 => ⟨_, _, _, I4, r, q⟩
end
section
variable {X : Cx} {body : List Stmt} {h0 : ExceptHandler} {hds : List ExceptHandler} {l : List Cla} {pos : Pos} {tb : WX → TS} {out : WX}
/-- try: body, with such clauses -/
theorem ps_try_cla (stk : X.stack = X.env :: X.outer) (loc : X.env.frame = some X.env.locals) (nd : X.N.Nodup) (tk : Takes X out)
    (hb : ∀ (W : WX) (pn : List (Addr × Obj)) (xe : Value → Shared → Prop), Takes (X.tr pn xe) W → PassesOwn (model X.prog X.w) X.A X.env xe → PSs (X.tr pn xe) body (tb W))
    (hk : ClaOk X (h0 :: hds) l) : PS X (.Try body (h0 :: hds) [] [] pos) (fun D σ H => tb (wCla X.K out D l) D σ H) := by
  refine ⟨fun pins s σ H D I h => wpAny_Try_except ?_⟩
  have ok := I.ok
  have fr : X.A.frames = some (X.env :: X.outer) := ok.frames.trans (congrArg some stk)
  have run := (hb (wCla X.K out D l) (X.pn ++ pins) (fun e s1 => wpAny (model X.prog X.w) X.A (noteFrame e X.env) (fun _ s2 => wpAny (model X.prog X.w) X.A (setFlight e none)
    (fun _ s3 => wpAny (model X.prog X.w) X.A (handleBy e X.env (h0 :: hds)) (SP X pins D) X.xe s3) X.xe s2) X.xe s1) (fun u s' x => ?_) PassesOwn.looking).run [] s σ H D (I.toTry _) h
  · refine wpAny_mono run (fun f s1 q => ?_) fun _ _ q => q
    cases f with
    | next =>
      obtain ⟨σ', H', J, q⟩ := q
      exact wpAny_execs_nil ⟨σ', H', J.ofTry ok, q⟩
    | brk =>
      obtain ⟨σ', H', J, q⟩ := q
      exact ⟨σ', H', J.ofTry ok, q⟩
    | cont =>
      obtain ⟨σ', H', J, q⟩ := q
      exact ⟨σ', H', J.ofTry ok, q⟩
    | ret u =>
      obtain ⟨v, σ', H', J, r, q⟩ := q
      exact ⟨v, σ', H', J.ofTry ok, r, q⟩
  · obtain ⟨a, B, sI, pins', σ', H', cls, d, rfl, J', gB, up, sky, na, os, bare, hw⟩ := x
    have J : Inv X pins σ' H' sI := J'.ofTry ok
    have sky' : Sky B (X.env :: X.outer) a (Zc cls d) X.env.locals s'.heap := stk ▸ sky
    show wpAny (model X.prog X.w) X.A (noteFrame (.ref a) X.env) _ _ _
    exact Sky.land Zc.steady fr loc sky' fun h3 f3 u3 => run_cla (s := { s' with heap := h3 }) stk loc nd tk ok J gB (up.trans u3) f3 na os bare hk hw
/-- e.f of a caught exception that was raised by pmk_x: its dict lies at d -/
def tXh (a : Addr) (cls : Value) (d : Option Addr) (f : Str) (te : TE) : TE := fun σ H Q => te σ H fun x H1 => x = .ref a ∧ ∃ (C dd : Addr) (fs : List (Str × V)) (v : V), cls = .ref C ∧ d = some dd ∧ H1 dd = some (exd dd fs) ∧ fs.lookup f = some v ∧ Q v H1
theorem pe_xh {a C : Addr} {oe : Obj} {cls : Value} {d : Option Addr} {pn : List (Addr × Obj)} {e : Expr} {te : TE} {f : Str} (hT : ∀ C, cls = .ref C → ExK X.K C ∧ PySem.W.findIn X.K (.ref C) f = some none)
    (hz : Zc cls d oe) (hf : ∃ vs, oe.data = .fields vs) (he : PE (X.suite a ((a, oe) :: pn)) e te) (hb : attributeBase e f X.env (eval e X.env) = eval e X.env := by rfl) :
    PE (X.suite a ((a, oe) :: pn)) (.Attribute e f pos) (tXh a cls d f te) := by
  refine ⟨fun pins s σ H Q I h => attr_of hb (thn (he.run pins s σ H _ I h) fun u s1 hh => ?_)⟩
  obtain ⟨x, H1, I1, rx, rfl, C, dd, fs, v, ec, ed, ea, l, q⟩ := hh
  cases (show u = Value.ref a from rx)
  obtain ⟨T, hno⟩ := hT C ec
  obtain ⟨ha, _⟩ := I1.pin (a, oe) (List.mem_append_left _ List.mem_cons_self)
  obtain ⟨ws, hd⟩ := hf
  obtain ⟨mA, hns, rel⟩ := exd_at I1.hok ea
  obtain ⟨od, ho, hl⟩ := lookIn_ns hns
  obtain ⟨w', hw, rw'⟩ := RelO.some_of (v := v) (o := mA f) (by rw [← l]; exact rel f)
  have J : PySem.W.InstAt s1.heap a oe C (some od) := ⟨ha, hz.1.trans ec, by unfold PySem.W.notCls; rw [hd] <;> rfl, by rw [hz.2, ed]; exact ho⟩
  exact HandSPX.exc_get I1.kIn J T.ga T.gg T.exC (PySem.W.findObj_own T.hdC hno rfl (by rw [hl, hw])) (handed_of rw') ⟨v, H1, I1.tok _, rw', q⟩
end
end Tp
set_option Elab.async false
set_option linter.all false
set_option maxRecDepth 100000
set_option maxHeartbeats 4000000
/-! defs whose promises know the guards and that may raise: their bodies, their calls (what is raised is wished for at the caller's slots) -/
namespace Tp
open PySem PySem.Spec PyProof.Rows L2
section
variable {P : Program} {w : World} {K : PySem.W.Frag} {mg : Str → Option Value} {base : Heap} {k : Nat} {f : Addr} {fd : FuncData} {N ps : List Str} {sp : Sp}
theorem FunG.okX {x qual : Str} {st : Stmt} (F : Fun K x qual st f fd) (S : FnScope N ps (defScope st)) (len : ∀ vs H Q E, sp vs H Q E → vs.length = ps.length)
    (hb : ∀ (cdv : Value) (B : Around) (out : List Env) (s : Shared) (H : Hp) (vs : List V) (Q : VK) (E : XK),
      Room k (B.deeper (envOfC qual (defScope st) s.heap.objs.size f cdv)) → (B.deeper (envOfC qual (defScope st) s.heap.objs.size f cdv)).guards = some [] → sp vs H Q E →
      ∃ t, PSs (cxOf (L2.CX P w) P w K mg base N qual (defScope st) f cdv B out s H E) (defBody st) t ∧ t { nx := fun _ H' => Q .non H', rt := Q } (start N vs) H) :
    FnG P w K mg base (L2.CX P w) (k + 1) f fd ps sp := by
  obtain ⟨oc, od, kV, doc, pm, an, cdv, ct, osl, rfl, lk, hcd⟩ := F.ex
  exact fnG_of lk hcd S len fun B out s H vs Q E hr hg hsp => hb cdv B out s H vs Q E hr hg hsp
theorem FunDG.okX {x qual : Str} {params : Arguments} {body : List Stmt} {scope : Scope} {dvs : List V} {kws : List (Str × V)}
    (F : FunD K x qual params body scope dvs kws f fd) (S : FnScope N ps scope) (len : ∀ vs H Q E, sp vs H Q E → vs.length = ps.length)
    (hb : ∀ (cdv : Value) (B : Around) (out : List Env) (s : Shared) (H : Hp) (vs : List V) (Q : VK) (E : XK),
      Room k (B.deeper (envOfC qual scope s.heap.objs.size f cdv)) → (B.deeper (envOfC qual scope s.heap.objs.size f cdv)).guards = some [] → sp vs H Q E →
      ∃ t, PSs (cxOf (L2.CX P w) P w K mg base N qual scope f cdv B out s H E) body t ∧ t { nx := fun _ H' => Q .non H', rt := Q } (start N vs) H) :
    FnG P w K mg base (L2.CX P w) (k + 1) f fd ps sp := by
  obtain ⟨oc, od, dV, kV, doc, pm, an, cdv, ct, osl, rfl, lk, hcd, _, _⟩ := F.ex
  exact fnG_of lk hcd S len fun B out s H vs Q E hr hg hsp => hb cdv B out s H vs Q E hr hg hsp
end
/-! within a comprehension: the written part by its own letter -/
theorem ix_listK {X : Cx} {K : PySem.W.Frag} (h : X.K = K) : IxR X (rIxL K) := by
  subst h
  exact ix_list
theorem ix_tupK {X : Cx} {K : PySem.W.Frag} (h : X.K = K) : IxR X (rIxT K) := by
  subst h
  exact ix_tup
theorem pe_fldK {X : Cx} {K : PySem.W.Frag} {e : Expr} {f : Str} {pos : Pos} {ta : TE} (h : X.K = K) (he : PE X e ta) (hb : attributeBase e f X.env (eval e X.env) = eval e X.env) : PE X (.Attribute e f pos) (tFld K ta f) := by
  subst h
  exact pe_fld he hb
theorem hu65 {k : Nat} {A : Around} (hr : Room k A) : A.units + 65 < cLine := by
  have := hr.un
  omega
/-- what a caller knows of a method that may raise; of a def; of a class -/
structure Ctr (P : Program) (w : World) (K : PySem.W.Frag) (mg : Str → Option Value) (base : Heap) (k : Nat) (C : Addr) (m : Str) (dvs : List V) (sp : Sp) : Prop where
  ex : ∃ (f : Addr) (fd : FuncData) (ps : List Str) (ds : List Value), Cls K C ∧ Meth K C m f ∧ FnG P w K mg base (L2.CX P w) k f fd ps sp ∧ Binds K fd ps ds ∧ Vals dvs ds
structure Cgr (P : Program) (w : World) (K : PySem.W.Frag) (mg : Str → Option Value) (base : Heap) (k : Nat) (x : Str) (dvs : List V) (sp : Sp) : Prop where
  ex : ∃ (f : Addr) (fd : FuncData) (ps : List Str) (ds : List Value), FnG P w K mg base (L2.CX P w) k f fd ps sp ∧ mg x = some (.ref f) ∧ PySem.W.keepIn K (.ref f) = true ∧ Binds K fd ps ds ∧ Vals dvs ds
structure Cmr (P : Program) (w : World) (K : PySem.W.Frag) (mg : Str → Option Value) (base : Heap) (k : Nat) (x : Str) (C : Addr) (dvs : List V) (sp : Sp) : Prop where
  ex : ∃ (f : Addr) (fd : FuncData) (ps : List Str) (ds : List Value), Mk K C f ∧ FnG P w K mg base (L2.CX P w) k f fd ps sp ∧ mg x = some (.ref C) ∧ Binds K fd ps ds ∧ Vals dvs ds
/-- wished for at the caller's slots -/
def tCallX (sp : Sp) (dvs : List V) (W : WX) (t : TA) : TE := fun σ H Q => t σ H fun vs H1 => sp (vs ++ dvs) H1 Q (WE W σ)
def tMethX (C : Addr) (m : Str) (sp : Sp) (dvs : List V) (W : WX) (ta : TE) (t : TA) : TE := fun σ H Q => ta σ H fun x H1 => ∃ a dx fs, x = .ref a ∧ H1 a = some (.ins C dx fs) ∧ fs.lookup m = none ∧
  t σ H1 fun vs H2 => sp (x :: (vs ++ dvs)) H2 Q (WE W σ)
def tMakeX (C : Addr) (sp : Sp) (dvs : List V) (W : WX) (t : TA) : TE := fun σ H Q => t σ H fun vs H1 => ∀ x dx, H1 x = none → H1 dx = none → dx ≠ x →
  sp (.ref x :: (vs ++ dvs)) (upd (upd H1 dx (.own x)) x (.ins C dx [])) (fun v H2 => v = .non ∧ Q (.ref x) H2) (WE W σ)
def tGetX (C : Addr) (sp : Sp) (W : WX) (to ti : TE) : TE := fun σ H Q => to σ H fun y H1 => ti σ H1 fun x H2 => ∃ a dx fs, y = .ref a ∧ H2 a = some (.ins C dx fs) ∧ sp [.ref a, x] H2 Q (WE W σ)
section
variable {X : Cx} {j k : Nat} {f C : Addr} {fd : FuncData} {ps : List Str} {sp : Sp} {x m : Str} {p pos apos : Pos} {e o i : Expr} {es : List Expr} {ta to ti : TE} {t : TA} {dvs : List V} {ds : List Value} {W : WX}
theorem run_gX {A : Around} {pins : List (Addr × Obj)} {σ : L2.St} {H : Hp} {s : Shared} {Q : VK} {us : List Value} {vs : List V} (F : FnG X.prog X.w X.K X.mg X.base (L2.CX X.prog X.w) k f fd ps sp) (hr : Room k A) (hG : A.guards = some []) (hf : A.frames = X.A.frames) (hb : Binds X.K fd ps ds) (hd : Vals dvs ds)
    (tk : Takes X W) (I : Inv X pins σ H s) (r : Vals vs us) (h : sp (vs ++ dvs) H Q (WE W σ)) : wpAny (model X.prog X.w) A (call (.ref f) us) (EP X pins σ Q) X.xe s := by
  have r2 : Vals (vs ++ dvs) (us ++ ds) := r.append hd
  have hl : (us ++ ds).length = ps.length := by rw [← r2.length]; exact F.len _ _ _ _ h
  have e0 : Env0 X.prog X.w X.K X.mg X.base A X.stack s H := by
    have e := I.env0
    exact ⟨by rw [hf]; exact e.frames, e.mod, e.bs, e.bsz, e.funs, e.frf, e.hok, e.bare⟩
  refine wpAny_call (codeAny_mono (F.run A X.stack s H ⟨us, []⟩ (us ++ ds) (vs ++ dvs) Q (WE W σ) hr hG e0 (hb s us I.kIn hl) r2 h) fun r s' hq => ?_)
  cases r with
  | error e => exact passAt tk σ pins H s e s' I hq
  | ok fl =>
    cases fl with
    | ret u => exact I.after hq
    | next => exact False.elim hq
    | brk => exact False.elim hq
    | cont => exact False.elim hq
theorem run_gmakeX {pins : List (Addr × Obj)} {σ : L2.St} {H : Hp} {s : Shared} {Q : VK} {us : List Value} {vs : List V} (M : Mk X.K C f) (F : FnG X.prog X.w X.K X.mg X.base (L2.CX X.prog X.w) k f fd ps sp) (hr : Room (k + 1) X.A) (hG : X.A.guards = some []) (hb : Binds X.K fd ps ds) (hd : Vals dvs ds)
    (tk : Takes X W) (I : Inv X pins σ H s) (r : Vals vs us)
    (h : ∀ x dx, H x = none → H dx = none → dx ≠ x → sp (.ref x :: (vs ++ dvs)) (upd (upd H dx (.own x)) x (.ins C dx [])) (fun v H2 => v = .non ∧ Q (.ref x) H2) (WE W σ)) :
    wpAny (model X.prog X.w) X.A (call (.ref C) us) (EP X pins σ Q) X.xe s := by
  have hq := h (s.heap.objs.size + 1) s.heap.objs.size (I.hok.fresh (Nat.le_succ _)) (I.hok.fresh (Nat.le_refl _)) (Nat.ne_of_lt (Nat.lt_succ_self _))
  have I2 := Inv.made (C := C) I
  have r2 : Vals (V.ref (s.heap.objs.size + 1) :: (vs ++ dvs)) (Value.ref (s.heap.objs.size + 1) :: (us ++ ds)) := .cons rfl (r.append hd)
  have hl : (Value.ref (s.heap.objs.size + 1) :: us ++ ds).length = ps.length := by
    have e := r2.length
    rw [F.len _ _ _ _ hq] at e
    exact e.symm
  refine wpAny_call (make_map (f := f) I.kIn M.makes M.init (beq_iff_eq.mp M.fn) (codeAny_mono (F.run _ X.stack _ _ ⟨Value.ref (s.heap.objs.size + 1) :: us, []⟩ (Value.ref (s.heap.objs.size + 1) :: (us ++ ds)) _ _ (WE W σ) (hr.make C us []) hG
    (I2.env0.make C us []) (hb _ (Value.ref (s.heap.objs.size + 1) :: us) I2.kIn hl) r2 hq) fun r s' hq' => ?_))
  cases r with
  | error e => exact passAt tk σ pins _ _ e s' I2 hq'
  | ok fl =>
    cases fl with
    | ret u =>
      obtain ⟨v, H', I3, rv, ev, q3⟩ := I2.after hq'
      subst ev
      exact ⟨rv, ⟨V.ref (s.heap.objs.size + 1), H', I3, rfl, q3⟩⟩
    | next => exact False.elim hq'
    | brk => exact False.elim hq'
    | cont => exact False.elim hq'
theorem pe_cgr (c : Cgr X.prog X.w X.K X.mg X.base j x dvs sp) (hr : Room k X.A) (hG : X.A.guards = some []) (hk : j ≤ k) (tk : Takes X W) (hg : Gl X x)
    (ha : PA X (e :: es) t) (hdb : (x == ("__debug__" : Str)) = false := by decide) (he : starEach (e :: es) X.env = (false, eval e X.env) :: starEach es X.env := by rfl) (hpl : (backTo pos (starEach es X.env)).any (·.1) = false := by rfl) :
    PE X (.Call (.Name x p) (e :: es) [] pos) (tCallX sp dvs W t) := by
  obtain ⟨f, fd, ps, ds, F, hm, hkp, hb, hd⟩ := c.ex
  refine ⟨fun pins s σ H Q I h => ?_⟩
  refine wpAny_Call_Name_kw (ld_glob I hg hm ?_ hdb)
  refine PySem.W.callWith_K (h₀ := X.base) I.ok.mod.kin hkp (thn (ha.run pos pins s σ H _ I h) fun us s1 ⟨vs, H1, I1, r, q⟩ => ⟨I1.kIn, ?_⟩) he hpl
  exact run_gX F (hr.mono hk) hG rfl hb hd tk I1 r q
theorem pe_cmr (c : Cmr X.prog X.w X.K X.mg X.base j x C dvs sp) (hr : Room k X.A) (hG : X.A.guards = some []) (hk : j + 1 ≤ k) (tk : Takes X W) (hg : Gl X x)
    (ha : PA X (e :: es) t) (hdb : (x == ("__debug__" : Str)) = false := by decide) (he : starEach (e :: es) X.env = (false, eval e X.env) :: starEach es X.env := by rfl) (hpl : (backTo pos (starEach es X.env)).any (·.1) = false := by rfl) :
    PE X (.Call (.Name x p) (e :: es) [] pos) (tMakeX C sp dvs W t) := by
  obtain ⟨f, fd, ps, ds, M, F, hm, hb, hd⟩ := c.ex
  refine ⟨fun pins s σ H Q I h => ?_⟩
  refine wpAny_Call_Name_kw (ld_glob I hg hm ?_ hdb)
  refine PySem.W.callWith_K (h₀ := X.base) I.ok.mod.kin M.kp (thn (ha.run pos pins s σ H _ I h) fun us s1 ⟨vs, H1, I1, r, q⟩ => ⟨I1.kIn, ?_⟩) he hpl
  exact run_gmakeX M F (hr.mono hk) hG hb hd tk I1 r q
theorem pe_cmr0 (c : Cmr X.prog X.w X.K X.mg X.base j x C dvs sp) (hr : Room k X.A) (hG : X.A.guards = some []) (hk : j + 1 ≤ k) (tk : Takes X W) (hg : Gl X x)
    (hdb : (x == ("__debug__" : Str)) = false := by decide) : PE X (.Call (.Name x p) [] [] pos) (tMakeX C sp dvs W tNil) := by
  obtain ⟨f, fd, ps, ds, M, F, hm, hb, hd⟩ := c.ex
  refine ⟨fun pins s σ H Q I h => ?_⟩
  refine wpAny_Call_Name_kw (ld_glob I hg hm ?_ hdb)
  exact PySem.W.callWith_K0 I.kIn M.kp (run_gmakeX (us := []) M F (hr.mono hk) hG hb hd tk I .nil h)
theorem pe_ctr {pl : Sem Bool} (he : PE X o ta) (c : Ctr X.prog X.w X.K X.mg X.base j C m dvs sp) (hr : Room k X.A) (hG : X.A.guards = some []) (hk : j ≤ k) (tk : Takes X W) (ha : PA X (e :: es) t)
    (hst : starEach (e :: es) X.env = (false, eval e X.env) :: starEach es X.env := by rfl) (hpl : (backTo pos (starEach es X.env)).any (·.1) = false := by rfl)
    (ht : eval (.Call (.Attribute o m apos) (e :: es) [] pos) X.env = (do
      let ov ← eval o X.env
      standAt apos.atName
      let (f, first) ← holding [ov] (getMethod ov m pl)
      callWith pos f first (backTo pos (starEach (e :: es) X.env)) (backToKw pos (keywordEach [] X.env))) := by rfl) :
    PE X (.Call (.Attribute o m apos) (e :: es) [] pos) (tMethX C m sp dvs W ta t) := by
  obtain ⟨f, fd, ps, ds, cl, hm, F, hb, hd⟩ := c.ex
  refine ⟨fun pins s σ H Q I h => ?_⟩
  refine PySem.W.methodCall_KW (pl := pl) (thn (he.run pins s σ H _ I h) fun u s1 ⟨x, H1, I1, rx, a, dx, fs, ex, ea, l, q⟩ => ?_) ht
  subst ex
  obtain rfl : u = Value.ref a := rx
  refine getmeth_ok I1 ea cl hm l ?_
  refine PySem.W.callWith_K (first := [.ref a]) (h₀ := X.base) I.ok.mod.kin hm.kp (thn (ha.run pos pins s1 σ H1 _ I1 q) fun us s2 ⟨vs, H2, I2, r, q2⟩ => ⟨I2.kIn, ?_⟩) hst hpl
  exact run_gX (us := .ref a :: us) (vs := .ref a :: vs) F (hr.mono hk) hG rfl hb hd tk I2 (.cons rfl r) q2
theorem pe_ctr0 {pl : Sem Bool} (he : PE X o ta) (c : Ctr X.prog X.w X.K X.mg X.base j C m dvs sp) (hr : Room k X.A) (hG : X.A.guards = some []) (hk : j ≤ k) (tk : Takes X W)
    (ht : eval (.Call (.Attribute o m apos) [] [] pos) X.env = (do
      let ov ← eval o X.env
      standAt apos.atName
      let (f, first) ← holding [ov] (getMethod ov m pl)
      callWith pos f first (backTo pos (starEach [] X.env)) (backToKw pos (keywordEach [] X.env))) := by rfl) :
    PE X (.Call (.Attribute o m apos) [] [] pos) (tMethX C m sp dvs W ta tNil) := by
  obtain ⟨f, fd, ps, ds, cl, hm, F, hb, hd⟩ := c.ex
  refine ⟨fun pins s σ H Q I h => ?_⟩
  refine PySem.W.methodCall_KW (pl := pl) (thn (he.run pins s σ H _ I h) fun u s1 ⟨x, H1, I1, rx, a, dx, fs, ex, ea, l, q⟩ => ?_) ht
  subst ex
  obtain rfl : u = Value.ref a := rx
  refine getmeth_ok I1 ea cl hm l ?_
  exact PySem.W.callWith_K0 (first := [.ref a]) I1.kIn hm.kp (run_gX (us := [.ref a]) (vs := [.ref a]) F (hr.mono hk) hG rfl hb hd tk I1 (.cons rfl .nil) q)
theorem pe_getX (c : Ctr X.prog X.w X.K X.mg X.base j C "__getitem__" dvs sp) (h0 : dvs = []) (hfn : ∀ f, PySem.W.isFn X.K (.ref f) = true → PySem.W.fnIn X.K f = true) (hr : Room (j + 1) X.A) (hG : X.A.guards = some []) (tk : Takes X W) (ho : PE X o to) (hi : PE X i ti)
    (hsl : ∀ (a : Addr) (v : Value), subscripted i true (.ref a) v = runValue (.builtin "lifetime.subscript" ⟨[.ref a, v], []⟩) := by (intro _ _; with_unfolding_all rfl)) : PE X (.Subscript o i pos) (tGetX C sp W to ti) := by
  subst h0
  refine ⟨fun pins s σ H Q I h => ?_⟩
  refine Subscript_ (thn (ho.run pins s σ H _ I h) fun u s1 ⟨y, H1, I1, r1, q1⟩ => thn (hi.run pins s1 σ H1 _ I1 q1) fun v s2 ⟨x, H2, I2, r2, a, dx, fs, ey, ha, q2⟩ => ?_)
  subst ey
  cases (show u = Value.ref a from r1)
  obtain ⟨f, fd, ps, ds, cl, hm, F, hb, hd⟩ := c.ex
  cases hd
  obtain ⟨ox, od, J⟩ := ins_at I2 ha
  obtain ⟨m, hF⟩ := I2.fr
  exact PySem.W.sub_K hF I2.ok.mod.kin J hm.at_ (hfn _ hm.fn) hm.fn (run_gX (A := X.A.in1) (us := [.ref a, v]) (vs := [.ref a, x]) F hr.in1 hG rfl hb .nil tk I2 (.cons rfl (.cons r2 .nil)) q2) (hsl _ _)
end
end Tp
set_option Elab.async false
set_option linter.all false
set_option maxRecDepth 100000
set_option maxHeartbeats 4000000
/-! the rows of a book as keys of a dict: a text, and an int or a tuple of ints -/
namespace Tp
open PySem
/-- a row: its name, and its turn or the numbers of its arguments -/
abbrev RowK : Type := Str × Sum Int (List Int)
def rowD : RowK → PyData
  | (x, .inl n) => .tuple [.str x, .int n]
  | (x, .inr ns) => .tuple [.str x, .tuple (ns.map PyData.int)]
def IsRow (h : Heap) (k : RowK) (a : Addr) : Prop := Reads h (.ref a) (rowD k) [] ∧ PyData.strOk k.1 = true
theorem can_ints : ∀ ns : List Int, PyData.canLayAll0 (ns.map PyData.int) = true
  | [] => rfl
  | n :: ns => by
    simp only [List.map_cons, PyData.canLayAll0, PyData.canLay0, can_ints ns, Bool.and_self]
theorem can_row (k : RowK) (hk : PyData.strOk k.1 = true) : (rowD k).canLay0 = true := by
  obtain ⟨x, n | ns⟩ := k
  · have hk' : PyData.strOk x = true := hk
    simp [rowD, PyData.canLay0, PyData.canLayAll0, hk']
  · have hk' : PyData.strOk x = true := hk
    simp [rowD, PyData.canLay0, PyData.canLayAll0, can_ints ns, hk']
theorem ints_inj : ∀ {ns ms : List Int}, ns.map PyData.int = ms.map PyData.int → ns = ms
  | [], [], _ => rfl
  | [], _ :: _, e => by cases e
  | _ :: _, [], e => by cases e
  | n :: ns, m :: ms, e => by
    rw [List.map_cons, List.map_cons] at e
    injection e with e1 e2
    injection e1 with e3
    rw [e3, ints_inj e2]
theorem rowD_inj : ∀ {k j : RowK}, rowD k = rowD j → k = j := by
  rintro ⟨x, n | ns⟩ ⟨y, m | ms⟩ e
  · simp only [rowD, PyData.tuple.injEq, List.cons.injEq, PyData.str.injEq, PyData.int.injEq, and_true] at e
    rw [e.1, e.2]
  · simp [rowD] at e
  · simp [rowD] at e
  · simp only [rowD, PyData.tuple.injEq, List.cons.injEq, PyData.str.injEq, and_true] at e
    rw [e.1, ints_inj e.2]
theorem isRow_inj {h : Heap} {a : Addr} {k j : RowK} (hk : IsRow h k a) (hj : IsRow h j a) : k = j := rowD_inj (SeqAt.Reads.unique _ _ _ _ _ (can_row k hk.2) hk.1 hj.1)
theorem eqv_ints : ∀ ns ms : List Int, PyData.eqvAll (ns.map PyData.int) (ms.map PyData.int) = decide (ns = ms)
  | [], [] => rfl
  | [], _ :: _ => rfl
  | _ :: _, [] => rfl
  | n :: ns, m :: ms => by
    rw [List.map_cons, List.map_cons, PyData.eqvAll, PyData.eqv, eqv_ints ns ms, Bool.eq_iff_iff]
    simp
theorem eqv_row (k j : RowK) : PyData.eqv (rowD k) (rowD j) = decide (k = j) := by
  obtain ⟨x, n | ns⟩ := k <;> obtain ⟨y, m | ms⟩ := j <;> rw [Bool.eq_iff_iff] <;> simp [rowD, PyData.eqv, PyData.eqvAll, eqv_ints]
section
variable {prog : Program} {w : World} {A : Around} {E : Value → Shared → Prop} {s : Shared}
theorem row_eq {x y : RowK} {a b : Addr} {Q : Bool → Shared → Prop} (hu : A.units + 64 < cLine) (hx : IsRow s.heap x a) (hy : IsRow s.heap y b) (h : Q (decide (x = y)) s) : wpAny (model prog w) A (eqBool (.ref a) (.ref b)) Q E s := by
  have hd : ∀ k : RowK, (rowD k).depth ≤ 10 := fun k => by
    obtain ⟨x, n | ns⟩ := k
    · simp [rowD, PyData.depth, PyData.depthAll]
    · have : ∀ ns : List Int, PyData.depthAll (ns.map PyData.int) = 0 := fun ns => by
        induction ns with
        | nil => rfl
        | cons n ns ih => simp [PyData.depthAll, PyData.depth, ih]
      simp [rowD, PyData.depth, PyData.depthAll, this]
  refine SeqAt.eqAt_reads (rowD x) (rowD y) A s _ _ [] [] hx.1 hy.1 (can_row x hx.2) (can_row y hy.2) ?_ prog w E Q ?_
  · have h1 := hd x
    have h2 : min (rowD x).depth (rowD y).depth ≤ (rowD x).depth := Nat.min_le_left _ _
    omega
  · rw [eqv_row]
    exact h
theorem ints_any {h h' : Heap} : ∀ (ns : List Int) (vs : List Value) (as : List Addr), ReadsAll h vs (ns.map PyData.int) as → ReadsAll h' vs (ns.map PyData.int) as
  | [], _, _, r => by
    cases r
    exact .nil
  | n :: ns, _, _, r => by
    rw [List.map_cons] at r ⊢
    cases r with
    | cons h1 h2 =>
      cases h1
      exact .cons (.int _ _) (ints_any ns _ _ h2)
/-- a row's own parts -/
theorem row_parts {h : Heap} {k : RowK} {a : Addr} (r : IsRow h k a) : ∃ (o : Obj) (t : Tok) (u : Value) (items : Array Value) (n : Nat), h.get? a = some o ∧ o.cls = .type "tuple" ∧ o.data = .seq items n ∧ items.toList = [.str k.1 t, u] ∧
    ((∃ (i : Int) (t2 : Tok), k.2 = .inl i ∧ u = .int i t2) ∨ ∃ (ns : List Int) (b : Addr) (ob : Obj) (its : Array Value) (m : Nat), k.2 = .inr ns ∧ u = .ref b ∧ h.get? b = some ob ∧ ob.cls = .type "tuple" ∧ ob.data = .seq its m ∧ ReadsAll h its.toList (ns.map PyData.int) []) := by
  obtain ⟨r, _⟩ := r
  obtain ⟨x, i | ns⟩ := k
  · generalize e : rowD (x, .inl i) = d at r
    generalize e0 : ([] : List Addr) = as at r
    cases r with
    | tuple h1 h2 h3 h4 =>
      simp only [rowD, PyData.tuple.injEq] at e
      subst e
      generalize ev : (_ : Array Value).toList = l at h4
      cases h4 with
      | cons g1 g2 =>
        cases g1
        cases g2 with
        | cons g3 g4 =>
          cases g3
          cases g4
          exact ⟨_, _, _, _, _, h1, h2, h3, ev, .inl ⟨i, _, rfl, rfl⟩⟩
    | _ => cases e
  · generalize e : rowD (x, .inr ns) = d at r
    generalize e0 : ([] : List Addr) = as at r
    cases r with
    | tuple h1 h2 h3 h4 =>
      simp only [rowD, PyData.tuple.injEq] at e
      subst e
      generalize ev : (_ : Array Value).toList = l at h4
      cases h4 with
      | cons g1 g2 =>
        cases g1
        cases g2 with
        | cons g3 g4 =>
          cases g4
          cases g3 with
          | tuple k1 k2 k3 k4 =>
            rw [List.nil_append, List.append_nil] at e0
            subst e0
            exact ⟨_, _, _, _, _, h1, h2, h3, ev, .inr ⟨ns, _, _, _, _, rfl, rfl, k1, k2, k3, k4⟩⟩
    | _ => cases e
theorem row_of {h : Heap} {k : RowK} {a : Addr} (hk : PyData.strOk k.1 = true) {o : Obj} {t : Tok} {u : Value} {items : Array Value} {n : Nat} (h1 : h.get? a = some o) (h2 : o.cls = .type "tuple") (h3 : o.data = .seq items n) (h4 : items.toList = [.str k.1 t, u])
    (h5 : (∃ (i : Int) (t2 : Tok), k.2 = .inl i ∧ u = .int i t2) ∨ ∃ (ns : List Int) (b : Addr) (ob : Obj) (its : Array Value) (m : Nat), k.2 = .inr ns ∧ u = .ref b ∧ h.get? b = some ob ∧ ob.cls = .type "tuple" ∧ ob.data = .seq its m ∧ ReadsAll h its.toList (ns.map PyData.int) []) : IsRow h k a := by
  refine ⟨?_, hk⟩
  obtain ⟨x, y⟩ := k
  rcases h5 with ⟨i, t2, e, rfl⟩ | ⟨ns, b, ob, its, m, e, rfl, g1, g2, g3, g4⟩
  · have e' : y = .inl i := e
    subst e'
    exact .tuple (as := []) h1 h2 h3 (by rw [h4]; exact ReadsAll.cons (as := []) (bs := []) (.str x t) (ReadsAll.cons (as := []) (bs := []) (.int i t2) .nil))
  · have e' : y = .inr ns := e
    subst e'
    exact .tuple (as := []) h1 h2 h3 (by rw [h4]; exact ReadsAll.cons (as := []) (bs := []) (.str x t) (ReadsAll.cons (as := []) (bs := []) (.tuple g1 g2 g3 g4) .nil))
theorem row_keeps {h h' : Heap} {k : RowK} {a d : Addr} {o : Obj} {es : Array DictEntry} {ep : Nat} (r : IsRow h k a) (ho : h.get? d = some o) (hd : o.data = .dict es ep) (hs : Heap.SameBut d h h') : IsRow h' k a := by
  have ne : ∀ {b : Addr} {ob : Obj} {its : Array Value} {m : Nat}, h.get? b = some ob → ob.data = .seq its m → b ≠ d := fun {b ob its m} e1 e2 z => by
    rw [z, ho] at e1
    cases e1
    rw [hd] at e2
    cases e2
  obtain ⟨o1, t, u, items, n, h1, h2, h3, h4, h5⟩ := row_parts r
  refine row_of r.2 ((hs.2 a (ne h1 h3)).trans h1) h2 h3 h4 (h5.imp id ?_)
  rintro ⟨ns, b, ob, its, m, e, eu, g1, g2, g3, g4⟩
  exact ⟨ns, b, ob, its, m, e, eu, (hs.2 b (ne g1 g3)).trans g1, g2, g3, ints_any ns _ _ g4⟩
/-- a tuple all of whose items are quiet is so -/
theorem quiet_tup {k : Nat} {a : Addr} {o : Obj} {items : Array Value} {n : Nat} {Q : Bool → Shared → Prop} (ho : s.heap.get? a = some o) (hc : o.cls = .type "tuple") (hd : o.data = .seq items n)
    (hq : ∀ v ∈ items.toList, ∀ (E' : Value → Shared → Prop) (Q' : Bool → Shared → Prop), Q' true s → wpAny (model prog w) A (eqIsQuiet k v) Q' E' s) (h : Q true s) : wpAny (model prog w) A (eqIsQuiet (k + 1) (.ref a)) Q E s := by
  have ty : s.TypeIs (.ref a) "tuple" := ⟨o, ho, hc⟩
  unfold eqIsQuiet
  refine wpAny_bind (wpAny_specialOf ty F.slot_tuple_eq.lookup ?_)
  show wpAny _ _ (isInstance (.ref a) (.type "tuple") >>= fun _ => _) _ _ s
  refine wpAny_bind (wpAny_isInstance ty isSubtype_tuple_tuple ?_)
  simp only [Bool.false_eq_true, Bool.not_true, if_false]
  refine wpAny_bind (wpAny_seqItems ho hd (wpAny_bind ?_))
  show wpAny _ _ (forIn items _ _) _ _ s
  rw [← Array.forIn_toList]
  refine wpAny_forIn_list _ (fun left acc s1 => acc.1 = none ∧ s1 = s ∧ ∀ v ∈ left, v ∈ items.toList) _ ?_ ?_ _ _ ⟨rfl, rfl, fun _ m => m⟩
  · rintro v left acc s1 ⟨e1, e2, hm⟩
    subst e2
    refine wpAny_bind (hq v (hm v List.mem_cons_self) _ _ ?_)
    simp only [Bool.false_eq_true, Bool.not_true, if_false]
    exact wpAny_pure ⟨rfl, rfl, fun u hu => hm u (List.mem_cons_of_mem _ hu)⟩
  · rintro ⟨acc1, acc2⟩ s1 ⟨e1, e2, _⟩
    subst e2
    have e1' : acc1 = none := e1
    subst e1'
    exact wpAny_pure h
theorem ints_items {h : Heap} : ∀ (ns : List Int) (vs : List Value) (as : List Addr), ReadsAll h vs (ns.map PyData.int) as → ItemsAre (intKind prog w) ns vs
  | [], _, _, r => by
    cases r
    exact .nil
  | n :: ns, _, _, r => by
    rw [List.map_cons] at r
    cases r with
    | cons h1 h2 =>
      cases h1
      exact .cons (by simp [intKind, Value.isInt]) (ints_items ns _ _ h2)
theorem row_quiet {k : RowK} {a : Addr} {Q : Bool → Shared → Prop} (r : IsRow s.heap k a) (h : Q true s) : wpAny (model prog w) A (eqIsQuiet 8 (.ref a)) Q E s := by
  obtain ⟨o, t, u, items, n, h1, h2, h3, h4, h5⟩ := row_parts r
  refine quiet_tup h1 h2 h3 (fun v hv E' Q' q => ?_) h
  rw [h4] at hv
  rcases List.mem_cons.mp hv with e | hv
  · rw [e, eqIsQuiet_byValue _ rfl]
    exact wpAny_pure q
  · rw [List.mem_singleton.mp hv]
    rcases h5 with ⟨i, t2, _, eu⟩ | ⟨ns, b, ob, its, m, _, eu, g1, g2, g3, g4⟩
    · rw [eu, eqIsQuiet_byValue _ rfl]
      exact wpAny_pure q
    · rw [eu]
      refine quiet_tup g1 g2 g3 (fun v hv E'' Q'' q' => ?_) q
      have by1 := (ints_items (prog := prog) (w := w) ns _ _ g4).byValue v hv
      rw [eqIsQuiet_byValue _ by1]
      exact wpAny_pure q'
/-- hash of a row -/
def rowH (w : World) : RowK → Int
  | (x, .inl i) => reduceHash (Builtin.Tuple.tupleHashOf [hashStr w x, hashInt i])
  | (x, .inr ns) => reduceHash (Builtin.Tuple.tupleHashOf [hashStr w x, reduceHash (Builtin.Tuple.tupleHashOf (ns.map hashInt))])
def rowN : RowK → Nat
  | (_, .inl _) => 3
  | (_, .inr ns) => 1 + (ns.length + 1) + 1
/-- v's hash is z, found with n new marks, wherever there is room -/
def HashTo (r : Nat) (prog : Program) (w : World) (h : Heap) (v : Value) (z : Int) (n : Nat) : Prop := ∀ (A : Around) (E : Value → Shared → Prop) (s : Shared) (Q : Int → Shared → Prop), A.units + r < cLine → s.heap = h → Q z { s with toks := s.toks + n } → wpAny (model prog w) A (pyHash v) Q E s
inductive AllHash (r : Nat) (prog : Program) (w : World) (h : Heap) : List Value → List Int → Nat → Prop
  | nil : AllHash r prog w h [] [] 0
  | cons {v : Value} {vs : List Value} {z : Int} {zs : List Int} {n m : Nat} : HashTo r prog w h v z n → AllHash r prog w h vs zs m → AllHash r prog w h (v :: vs) (z :: zs) (n + m)
theorem hash_tup {r : Nat} {a : Addr} {o : Obj} {items : Array Value} {n m : Nat} {zs : List Int} {Q : Int → Shared → Prop} (hu : A.units + (r + 3) < cLine) (ho : s.heap.get? a = some o) (hc : o.cls = .type "tuple") (hd : o.data = .seq items n)
    (hz : AllHash r prog w s.heap items.toList zs m) (h : Q (reduceHash (Builtin.Tuple.tupleHashOf zs)) { s with toks := s.toks + (m + 1) }) : wpAny (model prog w) A (pyHash (.ref a)) Q E s := by
  have ty : s.TypeIs (.ref a) "tuple" := ⟨o, ho, hc⟩
  unfold pyHash pyHashByItsType
  refine wpAny_bind (wpAny_cRoomFor_or (.inr (by omega)) (wpAny_bind (wpAny_specialOf ty F.slot_tuple_hash.lookup ?_)))
  show wpAny _ _ (if (some (Value.builtin "tuple.__hash__") == some Value.none) = true then _ else _) _ _ _
  rw [beq_builtin_none, if_neg Bool.false_ne_true]
  refine wpAny_bind (wpAny_specialOf ty F.slot_tuple_hash.lookup ?_)
  show wpAny _ _ (callSpecialIfBoundUnlessNone? (.ref a) "__hash__" _ >>= fun _ => _) _ _ _
  refine wpAny_bind (wpAny_callSpecialIfBoundUnlessNone?_slot ty F.slot_tuple_hash (wpAny_call_entry F.slot_tuple_hash ty F.entry_tuple_hash ?_ (F.args_tuple_hash_1 _)))
  show wpAny _ _ (Builtin.Tuple.tupleItemsOf (.ref a) >>= fun _ => _) _ _ _
  refine wpAny_bind (wpAny_tupleItemsOf ho hd (wpAny_bind ?_))
  rw [← Array.forIn_toList]
  refine wpAny_forIn_list _ (fun left (acc : Array Int) s1 => ∃ (d l : List Int) (i j : Nat), zs = d ++ l ∧ acc.toList = d ∧ i + j = m ∧ AllHash r prog w s.heap left l j ∧ s1 = { s with toks := s.toks + i }) _ ?_ ?_ _ _ ⟨[], zs, 0, m, rfl, rfl, Nat.zero_add m, hz, rfl⟩
  · rintro v left acc s1 ⟨d, l, i, j, e1, e2, e3, hl, rfl⟩
    cases hl with
    | @cons _ _ z zs' n' m' g1 g2 =>
      refine wpAny_bind (g1 _ _ _ _ ?_ rfl ?_)
      · show _ + 1 + r < cLine
        omega
      · have fin : ∃ (d' l' : List Int) (i' j' : Nat), zs = d' ++ l' ∧ (acc.push z).toList = d' ∧ i' + j' = m ∧ AllHash r prog w s.heap left l' j' ∧ ({ s with toks := s.toks + i + n' } : Shared) = { s with toks := s.toks + i' } :=
          ⟨d ++ [z], zs', i + n', m', by rw [e1]; simp, by rw [Array.toList_push, e2], by omega, g2, by rw [Nat.add_assoc]⟩
        first
          | exact wpAny_pure fin
          | exact wpAny_bind (wpAny_pure (wpAny_pure fin))
  · rintro acc s1 ⟨d, l, i, j, e1, e2, e3, hl, rfl⟩
    cases hl
    rw [List.append_nil] at e1
    subst e1
    show wpAny _ _ (retInt (Builtin.Tuple.tupleHashOf acc.toList)) _ _ _
    rw [e2]
    refine wpAny_ret_mkInt ?_
    show wpAny _ _ (if (decide (-(2 : Int) ^ 63 ≤ Builtin.Tuple.tupleHashOf zs) && decide (Builtin.Tuple.tupleHashOf zs < 2 ^ 63)) = true then _ else _) _ _ _
    have em : s.toks + i + 1 = s.toks + (m + 1) := by omega
    unfold reduceHash at h
    split
    · rename_i hr
      rw [if_pos hr] at h
      refine wpAny_pure ?_
      rw [show ({ s with toks := s.toks + i + 1 } : Shared) = { s with toks := s.toks + (m + 1) } from by rw [em]]
      exact h
    · rename_i hr
      rw [if_neg hr] at h
      refine wpAny_bind (wpAny_rule (wpAny_pure ?_))
      rw [show ({ s with toks := s.toks + i + 1 } : Shared) = { s with toks := s.toks + (m + 1) } from by rw [em]]
      exact h
theorem hash_int {r : Nat} {h : Heap} (i : Int) (t : Tok) : HashTo r prog w h (.int i t) (hashInt i) 1 := fun A E s Q _ _ q => (intKind prog w).pyHash (k := i) (by simp [intKind, Value.isInt]) q
theorem hash_str {r : Nat} {h : Heap} (x : Str) (t : Tok) : HashTo r prog w h (.str x t) (hashStr w x) 1 := fun A E s Q _ _ q => (strKind prog w).pyHash (k := x) (by simp [strKind, Value.isStrOf]) q
theorem ints_hash {r : Nat} {h : Heap} : ∀ (ns : List Int) (vs : List Value) (as : List Addr), ReadsAll h vs (ns.map PyData.int) as → AllHash r prog w h vs (ns.map hashInt) ns.length
  | [], _, _, r => by
    cases r
    exact .nil
  | n :: ns, _, _, r => by
    rw [List.map_cons] at r
    cases r with
    | cons h1 h2 =>
      cases h1
      rw [List.length_cons, Nat.add_comm]
      exact .cons (hash_int _ _) (ints_hash ns _ _ h2)
theorem row_hash {k : RowK} {a : Addr} {Q : Int → Shared → Prop} (hu : A.units + 10 < cLine) (r : IsRow s.heap k a) (h : Q (rowH w k) { s with toks := s.toks + rowN k }) : wpAny (model prog w) A (pyHash (.ref a)) Q E s := by
  obtain ⟨o, t, u, items, n, h1, h2, h3, h4, h5⟩ := row_parts r
  obtain ⟨x, y⟩ := k
  rcases h5 with ⟨i, t2, e, rfl⟩ | ⟨ns, b, ob, its, m, e, rfl, g1, g2, g3, g4⟩
  · have e' : y = .inl i := e
    subst e'
    refine hash_tup (r := 5) (m := 2) (by omega) h1 h2 h3 (zs := [hashStr w x, hashInt i]) ?_ h
    rw [h4]
    exact AllHash.cons (hash_str x t) (AllHash.cons (hash_int i t2) .nil)
  · have e' : y = .inr ns := e
    subst e'
    refine hash_tup (r := 5) (m := 1 + (ns.length + 1)) (by omega) h1 h2 h3 (zs := [hashStr w x, reduceHash (Builtin.Tuple.tupleHashOf (ns.map hashInt))]) ?_ h
    rw [h4]
    refine AllHash.cons (hash_str x t) ?_
    have z : AllHash 5 prog w s.heap [Value.ref b] [reduceHash (Builtin.Tuple.tupleHashOf (ns.map hashInt))] ((ns.length + 1) + 0) := .cons (fun A' E' s' Q' hu' hs' q' => ?_) .nil
    · exact z
    · rw [← hs'] at g1 g4
      exact hash_tup (r := 1) (by omega) g1 g2 g3 (ints_hash ns _ _ g4) q'
end
/-- rows as keys -/
def rowKind (prog : Program) (w : World) : HeapKind prog w RowK where
  is := IsRow
  hash := rowH w
  draws := rowN
  room := fun A => A.units + 64 < cLine
  inj := isRow_inj
  keeps := row_keeps
  pyHash := fun hu hk h => row_hash (by omega) hk h
  eqBool := fun hu hx hy h => row_eq hu hx hy h
  quiet := fun hk h => row_quiet hk h
end Tp
set_option Elab.async false
set_option linter.all false
set_option maxRecDepth 100000
set_option maxHeartbeats 4000000
/-! a dict the keys of which are rows of a book -/
namespace Tp
open PySem PySem.Spec PyProof.Rows L2
/-- a tuple is the row k -/
def RowAt (K : PySem.W.Frag) (H : Hp) (k : RowK) (a : Addr) : Prop := PyData.strOk k.1 = true ∧ ((∃ n : Int, k.2 = .inl n ∧ SqT K H a [.str k.1, .int n]) ∨ ∃ (ns : List Int) (b : Addr), k.2 = .inr ns ∧ SqT K H a [.str k.1, .ref b] ∧ SqT K H b (ns.map V.int))
theorem RowAt.mono {K : PySem.W.Frag} {H H' : Hp} {k : RowK} {a : Addr} (ht : ∀ b ys, SqT K H b ys → SqT K H' b ys) (h : RowAt K H k a) : RowAt K H' k a := by
  obtain ⟨h1, h2⟩ := h
  refine ⟨h1, ?_⟩
  rcases h2 with ⟨n, e, h⟩ | ⟨ns, b, e, g1, g2⟩
  · exact .inl ⟨n, e, ht _ _ h⟩
  · exact .inr ⟨ns, b, e, ht _ _ g1, ht _ _ g2⟩
theorem vals_intsR {h : Heap} : ∀ (ns : List Int) (us : List Value), Vals (ns.map V.int) us → ReadsAll h us (ns.map PyData.int) []
  | [], us, r => by
    cases us with
    | nil => exact .nil
    | cons u us => cases r
  | n :: ns, us, r => by
    rw [List.map_cons] at r ⊢
    cases r with
    | cons r1 r2 =>
      obtain ⟨t, rfl⟩ := r1
      exact ReadsAll.cons (as := []) (bs := []) (.int n t) (vals_intsR ns _ r2)
theorem row_is {X : Cx} {pins : List (Addr × Obj)} {σ : L2.St} {s : Shared} {H : Hp} {k : RowK} {a : Addr} (I : Inv X pins σ H s) (r : RowAt X.K H k a) : IsRow s.heap k a := by
  obtain ⟨h0, h1⟩ := r
  rcases h1 with ⟨n, e, ea⟩ | ⟨ns, b, e, ea, eb⟩
  · obtain ⟨its, rv, ⟨o, g1, g2, m, g3⟩, _⟩ := I.tuple ea
    obtain ⟨u1, u2, rfl, ⟨t1, rfl⟩, ⟨t2, rfl⟩⟩ := vals2 rv
    exact row_of h0 g1 g2 g3 (t := t1) (by simp) (.inl ⟨n, t2, e, rfl⟩)
  · obtain ⟨its, rv, ⟨o, g1, g2, m, g3⟩, _⟩ := I.tuple ea
    obtain ⟨jts, rj, ⟨ob, j1, j2, mj, j3⟩, _⟩ := I.tuple eb
    obtain ⟨u1, u2, rfl, ⟨t1, rfl⟩, r2⟩ := vals2 rv
    cases (show u2 = Value.ref b from r2)
    exact row_of h0 g1 g2 g3 (t := t1) (by simp) (.inr ⟨ns, b, ob, jts.toArray, mj, e, rfl, j1, j2, j3, by simpa using vals_intsR ns jts rj⟩)
/-- keys, where they lie, values -/
abbrev RowE : Type := RowK × Addr × V
abbrev KR : List RowE → List (RowK × Addr × Value) → Prop := Paired fun p q => p.1 = q.1 ∧ p.2.1 = q.2.1 ∧ RelV p.2.2 q.2.2
/-- the dict at d -/
def dRow (P : Program) (w : World) (d : Addr) (xs : List RowE) : HO := .ext fun h => xs.length ≤ sizeLine ∧ (d == sysModules) = false ∧ ∃ (ys : List (RowK × Addr × Value)) (o : Obj) (es : Array DictEntry) (ep : Nat), KR xs ys ∧ h.get? d = some o ∧ o.ExactDict ∧ o.data = .dict es ep ∧
  es.toList = ys.map (entryOfKey (rowKind P w)) ∧ (ys.map (·.1)).Nodup
def RowsIn (K : PySem.W.Frag) (H : Hp) (xs : List RowE) : Prop := ∀ x ∈ xs, RowAt K H x.1 x.2.1
def findR (xs : List RowE) (k : RowK) : Option V := (xs.find? fun x => decide (x.1 = k)).map (·.2.2)
section
variable {P : Program} {w : World} {H : Hp} {h : Heap} {d : Addr} {xs : List RowE}
theorem dRow_ok {ys : List (RowK × Addr × Value)} {o : Obj} {es : Array DictEntry} {ep : Nat} (z : xs.length ≤ sizeLine) (hd : (d == sysModules) = false) (r : KR xs ys) (h1 : h.get? d = some o) (h2 : o.ExactDict) (h3 : o.data = .dict es ep) (h4 : es.toList = ys.map (entryOfKey (rowKind P w))) (h5 : (ys.map (·.1)).Nodup) : ObjOk P w H h d (dRow P w d xs) :=
  ⟨⟨z, hd, ys, o, es, ep, r, h1, h2, h3, h4, h5⟩, ⟨o, h1⟩, fun g1 g2 q k => by
    obtain ⟨z, hd, ys, o, es, ep, r, h1, h2⟩ := q
    exact ⟨z, hd, ys, o, es, ep, r, k _ h1, h2⟩⟩
theorem find_rel (k : RowK) : ∀ {xs : List RowE} {ys : List (RowK × Addr × Value)}, KR xs ys → RelO (findR xs k) ((atKey ys k).map (·.2))
  | _, _, .nil => True.intro
  | x :: xs, y :: ys, .cons hq t => by
    have ih := find_rel k t
    unfold findR atKey at ih ⊢
    rw [List.find?_cons, List.find?_cons, hq.1]
    by_cases e : y.1 = k
    · simp only [e, decide_true]
      exact hq.2.2
    · simp only [e, decide_false]
      exact ih
end
section
variable {X : Cx} {pins : List (Addr × Obj)} {σ : L2.St} {H : Hp} {s : Shared} {d a : Addr} {xs : List RowE} {k : RowK} {A : Around} {E : Value → Shared → Prop}
theorem dRow_at (I : Inv X pins σ H s) (e : H d = some (dRow X.prog X.w d xs)) (hr : RowsIn X.K H xs) : xs.length ≤ sizeLine ∧ (d == sysModules) = false ∧ ∃ ys, KR xs ys ∧ s.heap.DictOfH (rowKind X.prog X.w) d ys := by
  have x : ObjOk X.prog X.w H s.heap d (.ext _) := I.hok d _ e
  obtain ⟨z, hd, ys, o, es, ep, r, h1, h2, h3, h4, h5⟩ := x.1
  refine ⟨z, hd, ys, r, o, es, ep, h1, h2, h3, h4, ?_, h5⟩
  have all : ∀ {l : List RowE} {m : List (RowK × Addr × Value)}, KR l m → (∀ x ∈ l, RowAt X.K H x.1 x.2.1) → ∀ y ∈ m, IsRow s.heap y.1 y.2.1 := by
    intro l m q
    induction q with
    | nil => exact fun _ y hy => absurd hy List.not_mem_nil
    | @cons p q ps qs hq t ih =>
      intro hl y hy
      rcases List.mem_cons.mp hy with e | hy
      · have := row_is I (hl p List.mem_cons_self)
        rw [e, ← hq.1, ← hq.2.1]
        exact this
      · exact ih (fun x hx => hl x (List.mem_cons_of_mem _ hx)) y hy
  exact all r hr
theorem rd_in {Q : Value → Shared → Prop} (hu : A.units + 65 < cLine) (I : Inv X pins σ H s) (e : H d = some (dRow X.prog X.w d xs)) (hr : RowsIn X.K H xs) (ek : RowAt X.K H k a) (h : ∀ s', Inv X pins σ H s' → Q (.bool (findR xs k).isSome) s') :
    wpAny (model X.prog X.w) A (compareOp .In (.ref a) (.ref d)) Q E s := by
  obtain ⟨z, hd, ys, rel, dd⟩ := dRow_at I e hr
  refine wpAny_in_heap (knd := rowKind X.prog X.w) (k := k) (show A.units + 1 + 64 < cLine from by omega) (row_is I ek) hd dd ?_
  have q := (find_rel k rel).isSome_eq
  rw [Option.isSome_map] at q
  rw [← q]
  exact h _ (I.tok _)
theorem rd_get {v : V} {Q : Value → Shared → Prop} (hu : A.units + 65 < cLine) (I : Inv X pins σ H s) (e : H d = some (dRow X.prog X.w d xs)) (hr : RowsIn X.K H xs) (ek : RowAt X.K H k a) (l : findR xs k = some v) (h : ∀ w' s', Inv X pins σ H s' → RelV v w' → Q w' s') :
    wpAny (model X.prog X.w) A (getItem (.ref d) (.ref a)) Q E s := by
  obtain ⟨z, hd, ys, rel, dd⟩ := dRow_at I e hr
  obtain ⟨w', hw, rw'⟩ := RelO.some_of (v := v) (o := (atKey ys k).map (·.2)) (by rw [← l]; exact find_rel k rel)
  obtain ⟨p, hp, hp2⟩ := Option.map_eq_some_iff.mp hw
  refine wpAny_getItem_heap (knd := rowKind X.prog X.w) (k := k) (show A.units + 1 + 64 < cLine from by omega) (row_is I ek) dd hp ?_
  rw [hp2]
  exact h w' _ (I.tok _) rw'
/-- a new row -/
theorem rd_put {v : V} {r : Value} {Q : Unit → Shared → Prop} (hu : A.units + 65 < cLine) (I : Inv X pins σ H s) (e : H d = some (dRow X.prog X.w d xs)) (hr : RowsIn X.K H xs) (ek : RowAt X.K H k a) (l : findR xs k = none) (hz : xs.length < sizeLine) (rv : RelV v r)
    (h : ∀ s', Inv X pins σ (upd H d (dRow X.prog X.w d (xs ++ [(k, a, v)]))) s' → Q () s') : wpAny (model X.prog X.w) A (setItem (.ref d) (.ref a) r) Q E s := by
  obtain ⟨z, hd, ys, rel, dd⟩ := dRow_at I e hr
  have hn : atKey ys k = none := Option.map_eq_none_iff.mp (RelO.none_of (by rw [← l]; exact find_rel k rel))
  have hzy : ys.length ≤ sizeLine := by rw [← Paired.length rel]; exact z
  refine wpAny_setItem_heap (knd := rowKind X.prog X.w) (k := k) (hsz := hzy) (show A.units + 1 + 64 < cLine from by omega) (row_is I ek) dd fun h' dd' hs => h _ ?_
  obtain ⟨o, es, ep, h1, h2, h3, h4, _, h5⟩ := dd'
  rw [storedH_new hn] at h4 h5
  exact d_write I (by rw [e]; exact True.intro) hs ⟨o, h1⟩ (dRow_ok (by rw [List.length_append, List.length_singleton]; omega) hd (Paired.snoc rel ⟨rfl, rfl, rv⟩) h1 h2 h3 h4 h5)
end
end Tp
set_option Elab.async false
set_option linter.all false
set_option maxRecDepth 100000
set_option maxHeartbeats 4000000
/-! rules: {}, row in d, row not in d, d[row], d[row] = v -/
namespace Tp
open PySem PySem.Spec PyProof.Rows L2
def tRNew (P : Program) (w : World) : TE := fun _ H Q => ∀ p, H p = none → Q (.ref p) (upd H p (dRow P w p []))
/-- what is asked of the row at a and the dict at d -/
def RowIn (P : Program) (w : World) (K : PySem.W.Frag) (H : Hp) (x y : V) (xs : List RowE) (k : RowK) (a d : Addr) : Prop := x = .ref a ∧ y = .ref d ∧ H d = some (dRow P w d xs) ∧ RowsIn K H xs ∧ RowAt K H k a
def rRIn (P : Program) (w : World) (K : PySem.W.Frag) (no : Bool) : R2 := fun x y H Q => ∃ xs k a d, RowIn P w K H x y xs k a d ∧ Q (.bl ((findR xs k).isSome != no)) H
def tRGet (P : Program) (w : World) (K : PySem.W.Frag) (td ty : TE) : TE := fun σ H Q => td σ H fun y H1 => ty σ H1 fun x H2 => ∃ xs k a d v, RowIn P w K H2 x y xs k a d ∧ findR xs k = some v ∧ Q v H2
def tRPut (P : Program) (w : World) (K : PySem.W.Frag) (td ty tv : TE) : TS := fun D σ H => tv σ H fun v H1 => td σ H1 fun y H2 => ty σ H2 fun x H3 => ∃ xs k a d, RowIn P w K H3 x y xs k a d ∧ findR xs k = none ∧ xs.length < sizeLine ∧ D.nx σ (upd H3 d (dRow P w d (xs ++ [(k, a, v)])))
section
variable {X : Cx} {o i value : Expr} {pos pos' : Pos} {td ty tv : TE}
theorem pe_rnew : PE X (.Dict [] [] pos) (tRNew X.prog X.w) := ⟨fun pins s σ H Q I h =>
  wpAny_Dict_empty ⟨.ref s.heap.objs.size, _, I.laid (a := s.heap.objs.size) (o := dRow X.prog X.w s.heap.objs.size []) (t' := s.toks) (fun _ _ q => Heap.get?_push_of_some _ q) (Nat.le_refl _)
    (dRow_ok (Nat.zero_le _) (beq_eq_false_iff_ne.mpr (Ne.symm (Nat.ne_of_lt I.big))) .nil (Heap.get?_push_size _ rfl) ⟨rfl, rfl, rfl⟩ rfl rfl List.nodup_nil), rfl, h _ (I.hok.fresh (Nat.le_refl _))⟩⟩
theorem op_rin (hu : X.A.units + 65 < cLine) : OpR X (compareOp .In) (rRIn X.prog X.w X.K false) := by
  intro pins s σ H x y u v Q I rx ry h
  obtain ⟨xs, k, a, d, ⟨rfl, rfl, ed, hr, ek⟩, q⟩ := h
  cases (show u = Value.ref a from rx)
  cases (show v = Value.ref d from ry)
  refine rd_in hu I ed hr ek fun s' J => ⟨.bl (findR xs k).isSome, H, J, rfl, ?_⟩
  rwa [Bool.bne_false] at q
theorem op_rnotIn (hu : X.A.units + 65 < cLine) : OpR X (compareOp .NotIn) (rRIn X.prog X.w X.K true) := by
  intro pins s σ H x y u v Q I rx ry h
  obtain ⟨xs, k, a, d, ⟨rfl, rfl, ed, hr, ek⟩, q⟩ := h
  cases (show u = Value.ref a from rx)
  cases (show v = Value.ref d from ry)
  obtain ⟨z, hd, ys, rel, dd⟩ := dRow_at I ed hr
  refine wpAny_notIn_heap (knd := rowKind X.prog X.w) (k := k) (show X.A.units + 1 + 64 < cLine from by omega) (row_is I ek) hd dd ⟨.bl (!(findR xs k).isSome), H, I.tok _, ?_, ?_⟩
  · have e := (find_rel k rel).isSome_eq
    rw [Option.isSome_map] at e
    rw [← e]
    rfl
  · rwa [Bool.bne_true] at q
theorem pe_rget (hu : X.A.units + 65 < cLine) (ho : PE X o td) (hi : PE X i ty) (hs : NoSl i) : PE X (.Subscript o i pos) (tRGet X.prog X.w X.K td ty) := by
  refine ⟨fun pins s σ H Q I h => ?_⟩
  refine subD_of PySem.F.slot_dict_getitem.lookup hs (thn (ho.run pins s σ H _ I h) fun u s1 ⟨y, H1, I1, r1, q1⟩ => thn (hi.run pins s1 σ H1 _ I1 q1) fun v s2 ⟨x, H2, I2, r2, xs, k, a, d, c, ⟨ex, ey, ed, hr, ek⟩, l, q2⟩ => ?_)
  subst ex ey
  cases (show u = Value.ref d from r1)
  cases (show v = Value.ref a from r2)
  obtain ⟨z, hd, ys, rel, dd⟩ := dRow_at I2 ed hr
  exact ⟨dd.typeIs, rd_get hu I2 ed hr ek l fun w' s3 I3 rw' => ⟨c, H2, I3, rw', q2⟩⟩
theorem ps_rput (hu : X.A.units + 65 < cLine) (ho : PE X o td) (hi : PE X i ty) (hv : PE X value tv) (hs : swapsWith value (some (.Subscript o i pos')) pos.line X.env = pure false) :
    PS X (.Assign [.Subscript o i pos'] value pos) (tRPut X.prog X.w X.K td ty tv) := by
  refine ⟨fun pins s σ H D I h => ?_⟩
  refine wpAny_Assign_Subscript (thn (hv.run pins s σ H _ I h) fun r s1 ⟨v, H1, I1, rv, q1⟩ => thn (ho.run pins s1 σ H1 _ I1 q1) fun u s2 ⟨y, H2, I2, r2, q2⟩ => thn (hi.run pins s2 σ H2 _ I2 q2) fun iv s3 ⟨x, H3, I3, r3, xs, k, a, d, ⟨ex, ey, ed, hr, ek⟩, l, hz, q3⟩ => ?_) hs
  subst ex ey
  cases (show u = Value.ref d from r2)
  cases (show iv = Value.ref a from r3)
  exact rd_put hu I3 ed hr ek l hz rv fun s4 I4 => ⟨σ, _, I4, q3⟩
theorem ps_rputK {P : Program} {w : World} {K : PySem.W.Frag} (eP : X.prog = P) (ew : X.w = w) (eK : X.K = K) (hu : X.A.units + 65 < cLine) (ho : PE X o td) (hi : PE X i ty) (hv : PE X value tv) (hs : swapsWith value (some (.Subscript o i pos')) pos.line X.env = pure false) :
    PS X (.Assign [.Subscript o i pos'] value pos) (tRPut P w K td ty tv) := by
  subst eP
  subst ew
  subst eK
  exact ps_rput hu ho hi hv hs
theorem pe_rnewK {P : Program} {w : World} (eP : X.prog = P) (ew : X.w = w) : PE X (.Dict [] [] pos) (tRNew P w) := by
  subst eP
  subst ew
  exact pe_rnew
end
end Tp
set_option Elab.async false
set_option linter.all false
set_option maxRecDepth 100000
set_option maxHeartbeats 4000000
/-! books: the rows, the tables beside them, where they stand; max with a default -/
namespace Tp
open PySem PySem.Spec PyProof.Rows L2
/-! ### max(xs, default=k) -/
def rMaxDef (K : PySem.W.Frag) : List V → List V → Hp → VK → Prop := fun vs zs H Q => ∃ (a : Addr) (ns : List Int) (k : Int), vs = [.ref a] ∧ zs = [.int k] ∧ SqL K H a (ns.map V.int) ∧ ∀ m : Int, (ns = [] ∧ m = k ∨ m ∈ ns ∧ ∀ n ∈ ns, n ≤ m) → Q (.int m) H
open PySem.W (maxOf DatumOrd Datum max_list_datum_default) in
theorem maxOf_is : ∀ (ys : List Int) (y : Int), (maxOf y ys ∈ y :: ys) ∧ ∀ n ∈ y :: ys, n ≤ maxOf y ys
  | [], y => ⟨List.mem_cons_self, fun n hn => by
      have : n = y := by simpa using hn
      rw [this]
      exact Int.le_refl _⟩
  | z :: ys, y => by
    have e : maxOf y (z :: ys) = maxOf (if DatumOrd.lt y z = true then z else y) ys := rfl
    have lt : DatumOrd.lt y z = decide (y < z) := rfl
    rw [e, lt]
    by_cases h : y < z
    · rw [decide_eq_true h, if_pos rfl]
      obtain ⟨h1, h2⟩ := maxOf_is ys z
      refine ⟨List.mem_cons_of_mem _ h1, fun n hn => ?_⟩
      rcases List.mem_cons.mp hn with rfl | hn
      · exact Int.le_trans (Int.le_of_lt h) (h2 z List.mem_cons_self)
      · exact h2 n hn
    · rw [decide_eq_false h, if_neg (by decide)]
      obtain ⟨h1, h2⟩ := maxOf_is ys y
      refine ⟨?_, fun n hn => ?_⟩
      · rcases List.mem_cons.mp h1 with e | e
        · rw [e]
          exact List.mem_cons_self
        · exact List.mem_cons_of_mem _ (List.mem_cons_of_mem _ e)
      · rcases List.mem_cons.mp hn with rfl | hn
        · exact h2 n List.mem_cons_self
        · rcases List.mem_cons.mp hn with rfl | hn
          · exact Int.le_trans (Int.not_lt.mp h) (h2 y List.mem_cons_self)
          · exact h2 n (List.mem_cons_of_mem _ hn)
open PySem.W (Datum) in
theorem ints_hold {h : Heap} : ∀ {its : List Value} {ns : List Int}, Vals (ns.map V.int) its → ReadsAll h its (ns.map Datum.toD) []
  | its, [], r => by
    cases its with
    | nil => exact .nil
    | cons u us => cases r
  | its, n :: ns, r => by
    rw [List.map_cons] at r ⊢
    cases r with
    | cons r1 r2 =>
      obtain ⟨t, rfl⟩ := r1
      exact ReadsAll.cons (as := []) (bs := []) (.int n t) (ints_hold r2)
open PySem.W (maxOf DatumOrd Datum max_list_datum_default) in
theorem cr_maxDef {X : Cx} (hc : X.calm = true) (hu : X.A.units + 64 < cLine) : CallRK X (.builtin "max") [Str.ofString "default"] (rMaxDef X.K) := by
  intro pins s σ H vs zs us ws Q I r rz h
  obtain ⟨a, ns, k, rfl, rfl, hs, q⟩ := h
  obtain ⟨its, rv, hl, _⟩ := I.list hs
  rw [Vals.ref1 r]
  obtain ⟨w1, rfl, t, rfl⟩ := vals1 rz
  refine max_list_datum_default (xs := ns) (I.ok.hd hc) hl.isList ⟨_, ints_hold (by simpa using rv)⟩ ?_ (fun e h' tk hk => ⟨.int k, H, I.kept hk, ⟨_, rfl⟩, q k (.inl ⟨e, rfl⟩)⟩) fun y ys i v h' tk e hi hv hk => ?_
  · show X.A.units + 1 + 0 < cLine
    omega
  · obtain ⟨as, hr⟩ := hv
    have hr : Reads h' v (.int (maxOf y ys)) as := hr
    cases hr
    subst e
    exact ⟨.int _, H, I.kept hk, ⟨_, rfl⟩, q _ (.inr (maxOf_is ys y))⟩
/-! ### the rows of a book, and the tables beside them -/
/-- the numbers of the arguments -/
def argsK : RowK → List Int
  | (_, .inl _) => []
  | (_, .inr ns) => ns
/-- a term as a text, from the texts of its arguments -/
def textK : RowK → List Str → Str
  | (x, .inl n), _ => x ++ "@" ++ toString n
  | (x, .inr []), _ => x
  | (x, .inr (_ :: _)), ts => x ++ "(" ++ Txt.join "," ts ++ ")"
def atL (l : List Int) (i : Int) : Int := l.getD i.toNat 0
def sumAt (l : List Int) (k : RowK) : Int := ((argsK k).map (atL l)).sum
def maxAt (l : List Int) (k : RowK) : Int := ((argsK k).map (atL l)).foldl max 0
def bareK (k : RowK) : Int := ((textK k (List.replicate (argsK k).length ("" : Str))).length : Nat)
def szs : List RowK → List Int := fun rs => rs.foldl (fun l k => l ++ [1 + sumAt l k]) []
def dps : List RowK → List Int := fun rs => rs.foldl (fun l k => l ++ [1 + maxAt l k]) []
def lns : List RowK → List Int := fun rs => rs.foldl (fun l k => l ++ [bareK k + sumAt l k]) []
theorem szs_snoc (rs : List RowK) (k : RowK) : szs (rs ++ [k]) = szs rs ++ [1 + sumAt (szs rs) k] := by unfold szs; rw [List.foldl_append]; rfl
theorem dps_snoc (rs : List RowK) (k : RowK) : dps (rs ++ [k]) = dps rs ++ [1 + maxAt (dps rs) k] := by unfold dps; rw [List.foldl_append]; rfl
theorem lns_snoc (rs : List RowK) (k : RowK) : lns (rs ++ [k]) = lns rs ++ [bareK k + sumAt (lns rs) k] := by unfold lns; rw [List.foldl_append]; rfl
theorem fold_len {g : List Int → RowK → Int} : ∀ (rs : List RowK) (l : List Int), (rs.foldl (fun l k => l ++ [g l k]) l).length = l.length + rs.length
  | [], _ => rfl
  | k :: rs, l => by
    rw [List.foldl_cons, fold_len rs, List.length_append, List.length_singleton, List.length_cons]
    omega
theorem szs_len (rs : List RowK) : (szs rs).length = rs.length := by unfold szs; rw [fold_len (g := fun l k => 1 + sumAt l k)]; simp
theorem dps_len (rs : List RowK) : (dps rs).length = rs.length := by unfold dps; rw [fold_len (g := fun l k => 1 + maxAt l k)]; simp
theorem lns_len (rs : List RowK) : (lns rs).length = rs.length := by unfold lns; rw [fold_len (g := fun l k => bareK k + sumAt l k)]; simp
theorem max_fold : ∀ (ns : List Int) (m b : Int), (∀ n ∈ ns, n ≤ m) → b ≤ m → (m = b ∨ m ∈ ns) → ns.foldl max b = m
  | [], m, b, _, _, h => h.elim (fun e => e.symm) fun z => absurd z List.not_mem_nil
  | n :: ns, m, b, h, hb, hm => by
    have h0 := h n List.mem_cons_self
    refine max_fold ns m (max b n) (fun x hx => h x (List.mem_cons_of_mem _ hx)) (by omega) ?_
    rcases hm with e | e
    · exact .inl (by omega)
    · rcases List.mem_cons.mp e with e | e
      · exact .inl (by omega)
      · exact .inr e
theorem max_is {ns : List Int} {m : Int} (h : ns = [] ∧ m = 0 ∨ m ∈ ns ∧ ∀ n ∈ ns, n ≤ m) (h0 : ∀ n ∈ ns, 0 ≤ n) : m = ns.foldl max 0 := by
  rcases h with ⟨rfl, rfl⟩ | ⟨h1, h2⟩
  · rfl
  · exact (max_fold ns m 0 h2 (h0 m h1) (.inr h1)).symm
theorem fold_ge : ∀ (ns : List Int) (b : Int), b ≤ ns.foldl max b
  | [], b => Int.le_refl b
  | n :: ns, b => by
    have := fold_ge ns (max b n)
    show b ≤ ns.foldl max (max b n)
    omega
theorem fold_pos {g : List Int → RowK → Int} (hg : ∀ l k, 0 ≤ g l k) : ∀ (rs : List RowK) (l : List Int), (∀ x ∈ l, 0 ≤ x) → ∀ x ∈ rs.foldl (fun l k => l ++ [g l k]) l, 0 ≤ x
  | [], _, h => h
  | k :: rs, l, h => fold_pos hg rs _ fun x hx => by
    rcases List.mem_append.mp hx with e | e
    · exact h x e
    · rw [List.mem_singleton.mp e]
      exact hg l k
theorem dps_pos (rs : List RowK) : ∀ x ∈ dps rs, 0 ≤ x := fold_pos (g := fun l k => 1 + maxAt l k) (fun l k => by
  have := fold_ge ((argsK k).map (atL l)) 0
  unfold maxAt
  omega) rs [] fun x hx => absurd hx List.not_mem_nil
theorem atL_pos {l : List Int} (h : ∀ x ∈ l, 0 ≤ x) (i : Int) : 0 ≤ atL l i := by
  unfold atL
  rw [List.getD_eq_getElem?_getD]
  cases e : l[i.toNat]? with
  | none => exact Int.le_refl 0
  | some x => exact h x (List.mem_of_getElem? e)
/-- may the row stand behind n rows? -/
def OkK (n : Nat) (k : RowK) : Prop := nameB (TL.tl k.1) = true ∧ match k.2 with
  | .inl t => 0 ≤ t ∧ t.natAbs.log2 < 1000
  | .inr ns => ns.length ≤ 3 ∧ ∀ i ∈ ns, 0 ≤ i ∧ i < (n : Int)
def OkRows (rs : List RowK) : Prop := ∀ i k, rs[i]? = some k → OkK i k
theorem okRows_nil : OkRows [] := fun i k e => by simp at e
theorem okRows_snoc {rs : List RowK} {k : RowK} (h : OkRows rs) (hk : OkK rs.length k) : OkRows (rs ++ [k]) := fun i j e => by
  rcases Nat.lt_or_ge i rs.length with hi | hi
  · rw [List.getElem?_append_left hi] at e
    exact h i j e
  · rw [List.getElem?_append_right hi] at e
    have h0 : i - rs.length = 0 := by
      rcases Nat.eq_zero_or_pos (i - rs.length) with z | z
      · exact z
      · rw [List.getElem?_eq_none (by rw [List.length_singleton]; omega)] at e
        cases e
    rw [h0] at e
    cases e
    have : i = rs.length := by omega
    rw [this]
    exact hk
theorem name_ok {x : Str} (h : nameB (TL.tl x) = true) : PyData.strOk x = true ∧ x.length ≤ 8 := by
  unfold nameB at h
  simp only [Bool.and_eq_true, decide_eq_true_eq] at h
  obtain ⟨⟨_, h1⟩, _, h2⟩ := h
  refine ⟨?_, by rw [TL.len_tl]; exact h1⟩
  have h3 : ∀ c ∈ TL.tl x, c < 0x110000 := fun c hc => by
    have := (List.all_eq_true.mp h2) c hc
    simp only [lowB, digB, Bool.or_eq_true, decide_eq_true_eq] at this
    omega
  show x.cps.all _ = true
  rw [← Array.all_toList]
  exact List.all_eq_true.mpr fun c hc => decide_eq_true (h3 c hc)
/-- what the dict holds -/
def entR : Nat → List RowK → List Addr → List RowE
  | i, k :: ks, a :: as => (k, a, .int (i : Nat)) :: entR (i + 1) ks as
  | _, _, _ => []
theorem entR_snoc : ∀ (i : Nat) (ks : List RowK) (as : List Addr) (k : RowK) (a : Addr), ks.length = as.length → entR i (ks ++ [k]) (as ++ [a]) = entR i ks as ++ [(k, a, .int ((i + ks.length : Nat)))]
  | i, [], [], k, a, _ => rfl
  | i, x :: ks, y :: as, k, a, h => by
    have ih := entR_snoc (i + 1) ks as k a (by simpa using h)
    show (x, y, V.int (i : Nat)) :: entR (i + 1) (ks ++ [k]) (as ++ [a]) = _
    rw [ih]
    have e : i + 1 + ks.length = i + (x :: ks).length := by rw [List.length_cons]; omega
    rw [e]
    rfl
  | _, [], _ :: _, _, _, h => by cases h
  | _, _ :: _, [], _, _, h => by cases h
theorem entR_len : ∀ (i : Nat) (ks : List RowK) (as : List Addr), ks.length = as.length → (entR i ks as).length = ks.length
  | i, [], [], _ => rfl
  | i, x :: ks, y :: as, h => congrArg Nat.succ (entR_len (i + 1) ks as (by simpa using h))
  | _, [], _ :: _, h => by cases h
  | _, _ :: _, [], h => by cases h
theorem findR_none : ∀ (i : Nat) (ks : List RowK) (as : List Addr) (k : RowK), k ∉ ks → findR (entR i ks as) k = none
  | i, [], _, k, _ => rfl
  | i, x :: ks, [], k, _ => rfl
  | i, x :: ks, y :: as, k, h => by
    have ih := findR_none (i + 1) ks as k fun z => h (List.mem_cons_of_mem _ z)
    unfold findR at ih ⊢
    show (List.find? _ ((x, y, V.int (i : Nat)) :: entR (i + 1) ks as)).map _ = none
    rw [List.find?_cons, show decide (x = k) = false from decide_eq_false fun z => h (by rw [z]; exact List.mem_cons_self)]
    exact ih
theorem findR_some : ∀ (i : Nat) (ks : List RowK) (as : List Addr) (k : RowK) (j : Nat), ks.length = as.length → ks[j]? = some k → (∀ m, m < j → ks[m]? ≠ some k) → findR (entR i ks as) k = some (.int ((i + j : Nat)))
  | i, x :: ks, y :: as, k, 0, hl, e, _ => by
    have e' : x = k := by simpa using e
    unfold findR
    show (List.find? _ ((x, y, V.int (i : Nat)) :: entR (i + 1) ks as)).map _ = _
    rw [List.find?_cons, show decide (x = k) = true from decide_eq_true e']
    rfl
  | i, x :: ks, y :: as, k, j + 1, hl, e, hn => by
    have ih := findR_some (i + 1) ks as k j (by simpa using hl) (by simpa using e) fun m hm => by
      have := hn (m + 1) (by omega)
      simpa using this
    unfold findR at ih ⊢
    show (List.find? _ ((x, y, V.int (i : Nat)) :: entR (i + 1) ks as)).map _ = _
    have hx : x ≠ k := fun z => hn 0 (by omega) (by rw [z]; rfl)
    rw [List.find?_cons, show decide (x = k) = false from decide_eq_false hx]
    have e2 : i + 1 + j = i + (j + 1) := by omega
    rw [← e2]
    exact ih
  | _, [], _, _, _, _, e, _ => by simp at e
  | _, _ :: _, [], _, _, h, _, _ => by cases h
end Tp
set_option Elab.async false
set_option linter.all false
set_option maxRecDepth 100000
set_option maxHeartbeats 4000000
/-! where a book stands, and that it stands on -/
namespace Tp
open PySem PySem.Spec PyProof.Rows L2
def NotTup (H : Hp) (b : Addr) : Prop := ∀ xs, ¬ Rd H b (.tup xs)
/-- all that was tracked is as it was, but at S -/
def Frame (S : List Addr) (H H' : Hp) : Prop := ∀ b o, b ∉ S → H b = some o → H' b = some o
theorem Frame.of {S : List Addr} {H H' : Hp} (s : Same H H') : Frame S H H' := fun b o _ e => s b o e
theorem Frame.tr {S : List Addr} {A B D : Hp} (a : Frame S A B) (b : Frame S B D) : Frame S A D := fun x o h e => b x o h (a x o h e)
theorem Frame.wide {S T : List Addr} {H H' : Hp} (h : Frame S H H') (hs : ∀ b ∈ S, b ∈ T) : Frame T H H' := fun b o hb e => h b o (fun z => hb (hs b z)) e
theorem Frame.put {S : List Addr} {H : Hp} {l : Addr} {o : HO} (h : l ∈ S) : Frame S H (upd H l o) := fun b u hb e => by
  rw [upd_ne fun z => hb (by rw [z]; exact h)]
  exact e
theorem SqT.fr {K : PySem.W.Frag} {S : List Addr} {H H' : Hp} {a : Addr} {xs : List V} (f : Frame S H H') (hS : ∀ b ∈ S, NotTup H b) (h : SqT K H a xs) : SqT K H' a xs := by
  rcases h with h | h
  · have hn : a ∉ S := fun z => hS a z xs h
    rcases h with h | ⟨o, h⟩
    · exact .inl (.inl (f _ _ hn h))
    · exact .inl (.inr ⟨o, f _ _ hn h⟩)
  · exact .inr h
theorem not_lst {H : Hp} {b : Addr} {xs : List V} (h : H b = some (.lst xs)) : NotTup H b := fun ys r => by
  rcases r with r | ⟨o, r⟩
  · rw [h] at r
    cases r
  · rw [h] at r
    cases r
theorem not_ext {H : Hp} {b : Addr} {p : Heap → Prop} (h : H b = some (.ext p)) : NotTup H b := fun ys r => by
  rcases r with r | ⟨o, r⟩
  · rw [h] at r
    cases r
  · rw [h] at r
    cases r
abbrev bkF : List Str := ["_rows", "_numbers", "_sizes", "_depths", "_lengths"]
/-- a book at p; its lists and its dict at fp; its rows -/
structure BookAt (P : Program) (w : World) (K : PySem.W.Frag) (H : Hp) (C p : Addr) (fp : List Addr) (rs : List RowK) : Prop where
  ex : ∃ (dx l1 d l2 l3 l4 : Addr) (as : List Addr) (fs : List (Str × V)), fp = [l1, d, l2, l3, l4] ∧ fp.Nodup ∧ H p = some (.ins C dx fs) ∧
    fs.lookup ("_rows" : Str) = some (.ref l1) ∧ fs.lookup ("_numbers" : Str) = some (.ref d) ∧ fs.lookup ("_sizes" : Str) = some (.ref l2) ∧ fs.lookup ("_depths" : Str) = some (.ref l3) ∧ fs.lookup ("_lengths" : Str) = some (.ref l4) ∧ (∀ m, m ∉ bkF → fs.lookup m = none) ∧
    as.length = rs.length ∧ (∀ (i : Nat) (k : RowK) (a : Addr), rs[i]? = some k → as[i]? = some a → RowAt K H k a) ∧
    H l1 = some (.lst (as.map V.ref)) ∧ H d = some (dRow P w d (entR 0 rs as)) ∧ H l2 = some (.lst ((szs rs).map V.int)) ∧ H l3 = some (.lst ((dps rs).map V.int)) ∧ H l4 = some (.lst ((lns rs).map V.int)) ∧
    rs.Nodup ∧ OkRows rs ∧ rs.length ≤ 5000
section
variable {P : Program} {w : World} {K : PySem.W.Frag} {H H' : Hp} {C p : Addr} {fp : List Addr} {rs : List RowK}
theorem BookAt.notTup (B : BookAt P w K H C p fp rs) : ∀ b ∈ fp, NotTup H b := by
  obtain ⟨dx, l1, d, l2, l3, l4, as, fs, rfl, _, _, _, _, _, _, _, _, _, _, h1, h2, h3, h4, h5, _⟩ := B.ex
  intro b hb
  simp only [List.mem_cons, List.not_mem_nil, or_false] at hb
  rcases hb with rfl | rfl | rfl | rfl | rfl
  · exact not_lst h1
  · exact not_ext h2
  · exact not_lst h3
  · exact not_lst h4
  · exact not_lst h5
theorem BookAt.off (B : BookAt P w K H C p fp rs) : p ∉ fp := by
  obtain ⟨dx, l1, d, l2, l3, l4, as, fs, rfl, _, hp, _, _, _, _, _, _, _, _, h1, h2, h3, h4, h5, _⟩ := B.ex
  intro hb
  simp only [List.mem_cons, List.not_mem_nil, or_false] at hb
  rcases hb with rfl | rfl | rfl | rfl | rfl
  · rw [h1] at hp; cases hp
  · rw [h2] at hp; cases hp
  · rw [h3] at hp; cases hp
  · rw [h4] at hp; cases hp
  · rw [h5] at hp; cases hp
theorem BookAt.fr {S : List Addr} (B : BookAt P w K H C p fp rs) (f : Frame S H H') (hS : ∀ b ∈ S, NotTup H b) (hp : p ∉ S) (hf : ∀ b ∈ fp, b ∉ S) : BookAt P w K H' C p fp rs := by
  obtain ⟨dx, l1, d, l2, l3, l4, as, fs, rfl, nd, h0, a1, a2, a3, a4, a5, a6, b1, b2, h1, h2, h3, h4, h5, b3⟩ := B.ex
  exact ⟨⟨dx, l1, d, l2, l3, l4, as, fs, rfl, nd, f _ _ hp h0, a1, a2, a3, a4, a5, a6, b1, fun i k a e1 e2 => (b2 i k a e1 e2).mono fun b ys => SqT.fr f hS,
    f _ _ (hf _ (by simp)) h1, f _ _ (hf _ (by simp)) h2, f _ _ (hf _ (by simp)) h3, f _ _ (hf _ (by simp)) h4, f _ _ (hf _ (by simp)) h5, b3⟩⟩
theorem BookAt.up (B : BookAt P w K H C p fp rs) (s : Same H H') : BookAt P w K H' C p fp rs :=
  B.fr (S := []) (Frame.of s) (fun _ h => absurd h List.not_mem_nil) List.not_mem_nil fun _ _ => List.not_mem_nil
theorem BookAt.there (B : BookAt P w K H C p fp rs) : ∃ dx fs, H p = some (.ins C dx fs) ∧ ∀ m, m ∉ bkF → fs.lookup m = none := by
  obtain ⟨dx, l1, d, l2, l3, l4, as, fs, rfl, nd, h0, a1, a2, a3, a4, a5, a6, _⟩ := B.ex
  exact ⟨dx, fs, h0, a6⟩
end
/-- the rows with one more, if it is new -/
def hasR (rs : List RowK) (k : RowK) : Bool := rs.any fun j => decide (j = k)
theorem hasR_iff {rs : List RowK} {k : RowK} : hasR rs k = true ↔ k ∈ rs := by
  unfold hasR
  rw [List.any_eq_true]
  exact ⟨fun ⟨j, hj, e⟩ => by rw [← of_decide_eq_true e]; exact hj, fun h => ⟨k, h, decide_eq_true rfl⟩⟩
theorem hasR_not {rs : List RowK} {k : RowK} (h : hasR rs k = false) : k ∉ rs := fun z => by rw [hasR_iff.mpr z] at h; cases h
def addR (rs : List RowK) (k : RowK) : List RowK := if hasR rs k = true then rs else rs ++ [k]
def posR (rs : List RowK) (k : RowK) : Nat := (addR rs k).findIdx fun j => decide (j = k)
theorem posR_old {rs : List RowK} {k : RowK} (h : hasR rs k = true) : addR rs k = rs ∧ rs[posR rs k]? = some k ∧ ∀ m, m < posR rs k → rs[m]? ≠ some k := by
  have e : addR rs k = rs := by unfold addR; rw [if_pos h]
  unfold posR
  rw [e]
  have hl : rs.findIdx (fun j => decide (j = k)) < rs.length := List.findIdx_lt_length_of_exists ⟨k, hasR_iff.mp h, decide_eq_true rfl⟩
  refine ⟨rfl, ?_, fun m hm z => ?_⟩
  · rw [List.getElem?_eq_getElem hl]
    exact congrArg some (of_decide_eq_true (List.findIdx_getElem (p := fun j => decide (j = k)) (w := hl)))
  · have hlt : m < rs.length := by omega
    rw [List.getElem?_eq_getElem hlt] at z
    have z' := Option.some.inj z
    have := List.not_of_lt_findIdx (p := fun j => decide (j = k)) (xs := rs) (i := m) hm
    rw [decide_eq_true z'] at this
    cases this
theorem posR_new {rs : List RowK} {k : RowK} (h : hasR rs k = false) : addR rs k = rs ++ [k] ∧ posR rs k = rs.length := by
  have e : addR rs k = rs ++ [k] := by unfold addR; rw [if_neg (by rw [h]; decide)]
  unfold posR
  rw [e]
  refine ⟨rfl, ?_⟩
  rw [List.findIdx_append, List.findIdx_eq_length_of_false fun x hx => decide_eq_false fun z => hasR_not h (by rw [← z]; exact hx)]
  simp [List.findIdx_cons]
/-- what the written part says of the class -/
structure TxtBk (K : PySem.W.Frag) (C : Addr) : Prop where
  cl : Cls K C
  no : ∀ f ∈ bkF, NoAttr K C f
theorem raise_e {K : PySem.W.Frag} {H0 H1 : Hp} {C : Addr} {n : Str} {ns : List Str} {vs : List V} {Q : XK} (hT : ExK K C) (s : Same H0 H1) (hl : vs.length = (n :: ns).length) (hn : (n :: ns).length ≤ 1000) (q : ∀ H' dd fs, Same H1 H' → H' dd = some (exd dd fs) → Has fs (n :: ns) vs → Q (.ref C) (some dd) H') :
    vs.length = (n :: ns).length ∧ (n :: ns).length ≤ 1000 ∧ ∀ a H', H1 a = none → Same H1 H' → ExI H' a C (n :: ns) vs → ∃ (a' C' : Addr) (d : Option Addr), V.ref a = .ref a' ∧ H' a' = some (exo a' C' d) ∧ Fr0 H0 a' ∧ ExK K C' ∧ Q (.ref C') d (delH H' a') := by
  refine ⟨hl, hn, fun a H' ha sm he => ?_⟩
  obtain ⟨fs, hA, hf⟩ := he
  have fr : Fr0 H0 a := fun o ho => by
    rw [s a o ho] at ha
    cases ha
  rcases hA with ⟨rfl, hA⟩ | ⟨dx, ne, hA, hd⟩
  · match vs, hl with
    | v :: vs, _ => exact absurd (hf 0 n v rfl rfl) (by simp)
  · exact ⟨a, C, some dx, rfl, hA, fr, hT, q _ dx fs (fun b o e => (delH_ne (ne_of_none e ha)).trans (sm b o e)) ((delH_ne ne).trans hd) hf⟩
theorem Vk.int_k {K : PySem.W.Frag} {H : Hp} {i : Int} {k : String} (h : Vk K H (.int i) k) : k = "int" := by
  have e1 : ∀ u ∈ tys6, ansB k u = ansB "int" u := by
    rcases h.kd with ⟨t, ty, e⟩ | ⟨a, D, fs, e1, _⟩
    · have et : t = .type "int" := by
        cases ty with
        | base b => cases b; rfl
      subst et
      intro u hu
      have h1 := e u hu
      have h2 : PySem.W.kitOne K (.type "int") (.type u) = some (ansB "int" u) := kit_ty (of_decide_eq_true (List.all_eq_true.mp (show tys6.all (fun u => decide (kitB "int" u = some (ansB "int" u))) = true by decide +kernel) u hu))
      rw [h1] at h2
      exact Option.some.inj h2
    · cases e1
  have a1 := e1 "int" (by decide)
  have a2 := e1 "bool" (by decide)
  have := ans_int (k := k) (by rw [a1]; decide)
  rw [a2] at this
  have h3 : (k == "int") = true := by rw [← this]; decide
  exact eq_of_beq h3
theorem Vk.str_k {K : PySem.W.Frag} {H : Hp} {z : Str} {k : String} (h : Vk K H (.str z) k) : k = "str" := by
  have e1 : ∀ u ∈ tys6, ansB k u = ansB "str" u := by
    rcases h.kd with ⟨t, ty, e⟩ | ⟨a, D, fs, e1, _⟩
    · have et : t = .type "str" := by
        cases ty with
        | base b => cases b; rfl
      subst et
      intro u hu
      have h1 := e u hu
      have h2 : PySem.W.kitOne K (.type "str") (.type u) = some (ansB "str" u) := kit_ty (of_decide_eq_true (List.all_eq_true.mp (show tys6.all (fun u => decide (kitB "str" u = some (ansB "str" u))) = true by decide +kernel) u hu))
      rw [h1] at h2
      exact Option.some.inj h2
    · cases e1
  have a1 := e1 "str" (by decide)
  rw [ans_str, ans_str] at a1
  exact eq_of_beq (a1.trans rfl)
theorem name_to {K : PySem.W.Frag} {H : Hp} {x : V} {k : String} {Q : VK} {E : XK} (hv : Vk K H x k) (q : ∀ H1, Same H H1 → Q (.bl (nameV x)) H1) : spName K [x] H Q E :=
  ⟨x, k, rfl, hv, fun hk => by
    have e : nameV x = false := by
      cases x with
      | str z => exact absurd hv.str_k hk
      | _ => rfl
    have := q H (Same.refl _)
    rwa [e] at this, fun z hz H1 s1 => by
    subst hz
    exact q H1 s1⟩
/-- the methods that ask for numbers -/
def numV (n : Nat) : V → Bool
  | .int i => decide (0 ≤ i ∧ i < (n : Int))
  | _ => false
def spHas (P : Program) (w : World) (K : PySem.W.Frag) (C : Addr) : Sp := fun vs H Q _ => ∃ (p : Addr) (fp : List Addr) (rs : List RowK) (x : V) (k : String), vs = [.ref p, x] ∧ BookAt P w K H C p fp rs ∧ Vk K H x k ∧ Q (.bl (numV rs.length x)) H
def spHasAll (P : Program) (w : World) (K : PySem.W.Frag) (C : Addr) : Sp := fun vs H Q _ => ∃ (p b : Addr) (fp : List Addr) (rs : List RowK) (ys : List V), vs = [.ref p, .ref b] ∧ BookAt P w K H C p fp rs ∧ SqA K H b ys ∧ ys.length ≤ 5000 ∧ (∀ y ∈ ys, ∃ k, Vk K H y k) ∧ ∀ H', Same H H' → Q (.bl (ys.all (numV rs.length))) H'
/-- raised: a class, a field, its value -/
def Rsd (E : XK) (H : Hp) (C : Addr) (n : Str) (x : V) : Prop := ∀ H' dd fs, Same H H' → H' dd = some (exd dd fs) → fs.lookup n = some x → E (.ref C) (some dd) H'
def spReq (P : Program) (w : World) (K : PySem.W.Frag) (C CU : Addr) : Sp := fun vs H Q E => ∃ (p : Addr) (fp : List Addr) (rs : List RowK) (x : V) (k : String), vs = [.ref p, x] ∧ BookAt P w K H C p fp rs ∧ Vk K H x k ∧ (numV rs.length x = true → Q .non H) ∧ (numV rs.length x = false → Rsd E H CU "number" x)
theorem nd_ne {l : List Addr} {x y : Addr} (h : l.Nodup) (i j : Nat) (e1 : l[i]? = some x) (e2 : l[j]? = some y) (hij : i ≠ j) : x ≠ y := fun z => by
  subst z
  have hi : i < l.length := by
    rcases Nat.lt_or_ge i l.length with h | h
    · exact h
    · rw [List.getElem?_eq_none h] at e1
      cases e1
  exact hij ((List.getElem?_inj hi h).mp (e1.trans e2.symm))
theorem SqT_row {K : PySem.W.Frag} {S : List Addr} {H H' : Hp} {k : RowK} {a : Addr} (h : RowAt K H k a) (f : Frame S H H') (hS : ∀ b ∈ S, NotTup H b) : RowAt K H' k a := h.mono fun _ _ => SqT.fr f hS
theorem rowsIn_of {K : PySem.W.Frag} {H : Hp} : ∀ {i : Nat} {rs : List RowK} {as : List Addr}, as.length = rs.length → (∀ (i : Nat) (k : RowK) (a : Addr), rs[i]? = some k → as[i]? = some a → RowAt K H k a) → RowsIn K H (entR i rs as)
  | i, [], [], _, _ => fun x hx => absurd hx List.not_mem_nil
  | i, k :: rs, a :: as, hl, h => fun x hx => by
    rcases List.mem_cons.mp hx with rfl | hx
    · exact h 0 k a rfl rfl
    · exact rowsIn_of (i := i + 1) (by simpa using hl) (fun j k' a' e1 e2 => h (j + 1) k' a' (by simpa using e1) (by simpa using e2)) x hx
  | _, [], _ :: _, h, _ => by cases h
  | _, _ :: _, [], h, _ => by cases h
theorem atI_at {l : List Int} {i : Int} {n : Nat} (hl : l.length = n) (h0 : 0 ≤ i) (h1 : i < (n : Int)) : atI (l.map V.int) i = some (.int (atL l i)) := by
  have e : i = ((i.toNat : Nat) : Int) := by omega
  have hlt : i.toNat < l.length := by omega
  have h2 : (l.map V.int)[i.toNat]? = some (.int (atL l i)) := by
    unfold atL
    rw [List.getElem?_map, List.getElem?_eq_getElem hlt, List.getD_eq_getElem?_getD, List.getElem?_eq_getElem hlt]
    rfl
  rw [e]
  exact atI_nat (j := i.toNat) (by rw [h2, ← e])
/-- a row is added, unless it is there -/
def spEnt (P : Program) (w : World) (K : PySem.W.Frag) (C : Addr) : Sp := fun vs H Q _ => ∃ (p a : Addr) (fp : List Addr) (rs : List RowK) (k : RowK), vs = [.ref p, .ref a] ∧ BookAt P w K H C p fp rs ∧ RowAt K H k a ∧ OkK rs.length k ∧ rs.length < 5000 ∧
  ∀ H', Frame fp H H' → BookAt P w K H' C p fp (addR rs k) → Q (.int (posR rs k : Nat)) H'
/-- the methods that add -/
def Added (P : Program) (w : World) (K : PySem.W.Frag) (C p : Addr) (fp : List Addr) (rs : List RowK) (H : Hp) (Q : VK) (k : RowK) : Prop := ∀ H', Frame fp H H' → BookAt P w K H' C p fp (addR rs k) → Q (.int (posR rs k : Nat)) H'
def spConst (P : Program) (w : World) (K : PySem.W.Frag) (C CN : Addr) : Sp := fun vs H Q E => ∃ (p : Addr) (fp : List Addr) (rs : List RowK) (x : V) (k : String), vs = [.ref p, x] ∧ BookAt P w K H C p fp rs ∧ rs.length < 5000 ∧ Vk K H x k ∧
  (nameV x = false → Rsd E H CN "value" x) ∧ ∀ z, x = .str z → nameB (TL.tl z) = true → Added P w K C p fp rs H Q (z, .inr [])
def spSample (P : Program) (w : World) (K : PySem.W.Frag) (C CN CT : Addr) : Sp := fun vs H Q E => ∃ (p : Addr) (fp : List Addr) (rs : List RowK) (x y : V) (k ky : String), vs = [.ref p, x, y] ∧ BookAt P w K H C p fp rs ∧ rs.length < 5000 ∧ Vk K H x k ∧ Vk K H y ky ∧
  (nameV x = false → Rsd E H CN "value" x) ∧ ∀ z, x = .str z → nameB (TL.tl z) = true → ((∀ i, y = .int i → ¬ 0 ≤ i) → Rsd E H CT "value" y) ∧ ∀ i, y = .int i → 0 ≤ i → i.natAbs.log2 < 1000 ∧ Added P w K C p fp rs H Q (z, .inl i)
def spApply (P : Program) (w : World) (K : PySem.W.Frag) (C CN CP CU : Addr) : Sp := fun vs H Q E => ∃ (p : Addr) (fp : List Addr) (rs : List RowK) (x y : V) (k ky : String), vs = [.ref p, x, y] ∧ BookAt P w K H C p fp rs ∧ rs.length < 5000 ∧ Vk K H x k ∧ Vk K H y ky ∧
  (nameV x = false → Rsd E H CN "value" x) ∧ ∀ z, x = .str z → nameB (TL.tl z) = true → ((ky == "list" || ky == "tuple") = false → Rsd E H CP "value" y) ∧ ((ky == "list" || ky == "tuple") = true → ∃ (b : Addr) (ys : List V), y = .ref b ∧ SqA K H b ys ∧
    (¬ (1 ≤ ys.length ∧ ys.length ≤ 3) → Rsd E H CP "value" y) ∧ (1 ≤ ys.length ∧ ys.length ≤ 3 → (∀ v ∈ ys, ∃ kv, Vk K H v kv) ∧ (∀ (i : Nat) v, ys[i]? = some v → numV rs.length v = false → (∀ (j : Nat) u, j < i → ys[j]? = some u → numV rs.length u = true) → Rsd E H CU "number" v) ∧
      ∀ ns : List Int, ys = ns.map V.int → (∀ i ∈ ns, 0 ≤ i ∧ i < (rs.length : Int)) → Added P w K C p fp rs H Q (z, .inr ns)))
theorem Rsd.up {E : XK} {H H1 : Hp} {C : Addr} {n : Str} {x : V} (h : Rsd E H C n x) (s : Same H H1) : Rsd E H1 C n x := fun H' dd fs s' he hf => h H' dd fs (Same.tr s s') he hf
theorem numV_ints {n : Nat} : ∀ {ys : List V}, (∀ y ∈ ys, numV n y = true) → ∃ ns : List Int, ys = ns.map V.int ∧ ∀ i ∈ ns, 0 ≤ i ∧ i < (n : Int)
  | [], _ => ⟨[], rfl, fun i hi => absurd hi List.not_mem_nil⟩
  | y :: ys, h => by
    obtain ⟨ns, rfl, h2⟩ := numV_ints fun x hx => h x (List.mem_cons_of_mem _ hx)
    have h0 := h y List.mem_cons_self
    cases y with
    | int i =>
      refine ⟨i :: ns, rfl, fun j hj => ?_⟩
      rcases List.mem_cons.mp hj with rfl | hj
      · exact of_decide_eq_true h0
      · exact h2 j hj
    | _ => cases h0
/-- the small defs -/
def spTurn (K : PySem.W.Frag) : Sp := fun vs H Q _ => ∃ (x : V) (k : String), vs = [x] ∧ Vk K H x k ∧ (k ≠ "int" → Q (.bl false) H) ∧ ∀ i, x = .int i → Q (.bl (decide (0 ≤ i))) H
def spArgs (K : PySem.W.Frag) : Sp := fun vs H Q _ => ∃ (r : Addr) (u v : V) (k : String), vs = [.ref r] ∧ SqA K H r [u, v] ∧ Vk K H v k ∧ ((k == "list" || k == "tuple") = true → ∀ H', Same H H' → Q v H') ∧ ((k == "list" || k == "tuple") = false → ∀ b H', Same H H' → SqT K H' b [] → Q (.ref b) H')
/-- a name, and an int or a list or tuple of ints -/
def PreRow (K : PySem.W.Frag) (H : Hp) (r : Addr) (k : RowK) : Prop := PyData.strOk k.1 = true ∧ k.1.length ≤ 5000 ∧ ((∃ n : Int, k.2 = .inl n ∧ SqA K H r [.str k.1, .int n]) ∨ ∃ (ns : List Int) (b : Addr), k.2 = .inr ns ∧ SqA K H r [.str k.1, .ref b] ∧ SqA K H b (ns.map V.int))
theorem args_row {K : PySem.W.Frag} {H : Hp} {k : RowK} {a : Addr} {Q : VK} {E : XK} (hA : RowAt K H k a) (q : ∀ b H1, Same H H1 → SqT K H1 b ((argsK k).map V.int) → Q (.ref b) H1) : spArgs K [.ref a] H Q E := by
  obtain ⟨x, y⟩ := k
  obtain ⟨_, h⟩ := hA
  rcases h with ⟨n, e, h⟩ | ⟨ns, b, e, h1, h2⟩
  · have e' : y = .inl n := e
    subst e'
    exact ⟨a, _, _, "int", rfl, .inr h, vk_int n, (fun z => absurd z (by decide)), fun _ b H' s hb => q b H' s hb⟩
  · have e' : y = .inr ns := e
    subst e'
    exact ⟨a, _, _, "tuple", rfl, .inr h1, vk_tuple h2, (fun _ H' s => q b H' s (upT s h2)), fun z => absurd z (by decide)⟩
theorem rep_flat (n : Nat) (x : Str) : (List.replicate n [V.str x]).flatten = (List.replicate n x).map V.str := by
  induction n with
  | zero => rfl
  | succ n ih => rw [List.replicate_succ, List.replicate_succ, List.flatten_cons, ih]; rfl
def spKept (K : PySem.W.Frag) : Sp := fun vs H Q _ => ∃ (r : Addr) (k : RowK), vs = [.ref r] ∧ PreRow K H r k ∧ ∀ a H', Same H H' → RowAt K H' k a → Q (.ref a) H'
def spRowText (K : PySem.W.Frag) : Sp := fun vs H Q _ => ∃ (a l : Addr) (k : RowK) (ts : List Str), vs = [.ref a, .ref l] ∧ RowAt K H k a ∧ SqL K H l (ts.map V.str) ∧ k.1.length ≤ 8 ∧ (∀ n, k.2 = .inl n → n.natAbs.log2 < 1000) ∧ ts.length ≤ 3 ∧ (∀ t ∈ ts, t.length ≤ 400) ∧ ∀ H', Same H H' → Q (.str (textK k ts)) H'
theorem lens_le : ∀ ts : List Str, (∀ t ∈ ts, t.length ≤ 400) → (ts.map (fun x => x.length)).sum ≤ ts.length * 400
  | [], _ => Nat.le_refl _
  | t :: ts, h => by
    have ih := lens_le ts fun x hx => h x (List.mem_cons_of_mem _ hx)
    have h0 := h t List.mem_cons_self
    rw [List.map_cons, List.sum_cons, List.length_cons]
    omega
theorem joins_le (ts : List Str) (hl : ts.length ≤ 3) (h : ∀ t ∈ ts, t.length ≤ 400) : (Txt.join ("," : Str) ts).length ≤ 1203 := by
  rw [TL.len_tl, tl_joinT]
  have := joinL_len (TL.tl ",") 400 1 (by decide) (ts.map TL.tl) fun q hq => by
    obtain ⟨t, ht, rfl⟩ := List.mem_map.mp hq
    rw [← TL.len_tl]
    exact h t ht
  rw [List.length_map] at this
  have h2 : ts.length * (400 + 1) ≤ 3 * 401 := Nat.mul_le_mul hl (Nat.le_refl _)
  omega
theorem textK_le {k : RowK} {ts : List Str} (hx : k.1.length ≤ 8) (hn : ∀ n, k.2 = .inl n → n.natAbs.log2 < 1000) (hl : ts.length ≤ 3) (h : ∀ t ∈ ts, t.length ≤ 400) : (textK k ts).length ≤ 3000 := by
  obtain ⟨x, y⟩ := k
  have hx : x.length ≤ 8 := hx
  cases y with
  | inl n =>
    have hi : (Str.ofString (toString n)).length ≤ 1001 := by
      rw [PySem.ofString_length]
      exact int_text_length_le (k := 1000) (by decide) (hn n rfl)
    have ea : (("@" : Str)).length = 1 := rfl
    show (x ++ ("@" : Str) ++ Str.ofString (toString n)).length ≤ _
    rw [Str.length_append, Str.length_append, ea]
    omega
  | inr ns =>
    cases ns with
    | nil => show x.length ≤ _; omega
    | cons n ns =>
      have hj := joins_le ts hl h
      have ea : (("(" : Str)).length = 1 := rfl
      have eb : ((")" : Str)).length = 1 := rfl
      show (x ++ ("(" : Str) ++ Txt.join "," ts ++ (")" : Str)).length ≤ _
      rw [Str.length_append, Str.length_append, Str.length_append, ea, eb]
      omega
def secB (b : PyData) : Bool := match seqD b with
  | some ns => decide (ns.length ≤ 3)
  | none => (match b with
    | .int n => decide (0 ≤ n)
    | _ => false)
def formB (d : PyData) : Bool := match seqD d with
  | some [_, b] => secB b
  | _ => false
def spForm (K : PySem.W.Frag) : Sp := fun vs H Q _ => ∃ x : V, vs = [x] ∧ ((∃ d, Dd K H x d ∧ shortD d = true ∧ ∀ H', Same H H' → Q (.bl (formB d)) H') ∨ (∃ k, Vk K H x k ∧ (k == "list" || k == "tuple") = false ∧ ∀ H', Same H H' → Q (.bl false) H'))
end Tp
set_option Elab.async false
set_option linter.all false
set_option maxRecDepth 100000
set_option maxHeartbeats 4000000
/-! what a book tells: its rows, len, [..], in, ==; rows as data -/
namespace Tp
open PySem PySem.Spec PyProof.Rows L2
/-- what is told of a book -/
def spRows (P : Program) (w : World) (K : PySem.W.Frag) (C : Addr) : Sp := fun vs H Q _ => ∃ (p : Addr) (fp : List Addr) (rs : List RowK), vs = [.ref p] ∧ BookAt P w K H C p fp rs ∧
  ∀ (l : Addr) (H' : Hp) (as : List Addr), H l = none → H' = upd H l (.lst (as.map V.ref)) → as.length = rs.length → (∀ (i : Nat) (k : RowK) (a : Addr), rs[i]? = some k → as[i]? = some a → RowAt K H k a) → Q (.ref l) H'
def spLen (P : Program) (w : World) (K : PySem.W.Frag) (C : Addr) : Sp := fun vs H Q _ => ∃ (p : Addr) (fp : List Addr) (rs : List RowK), vs = [.ref p] ∧ BookAt P w K H C p fp rs ∧ Q (.int (rs.length : Nat)) H
def spItem (P : Program) (w : World) (K : PySem.W.Frag) (C CU : Addr) : Sp := fun vs H Q E => ∃ (p : Addr) (fp : List Addr) (rs : List RowK) (x : V) (k : String), vs = [.ref p, x] ∧ BookAt P w K H C p fp rs ∧ Vk K H x k ∧ (numV rs.length x = false → Rsd E H CU "number" x) ∧
  ∀ (i : Nat) (k : RowK) (a : Addr), x = .int (i : Nat) → rs[i]? = some k → RowAt K H k a → Q (.ref a) H
def strD : PyData → Str
  | .str z => z
  | _ => Str.empty
def intD : PyData → Int
  | .int i => i
  | _ => 0
/-- are the numbers those of rows? -/
def allD (n : Nat) (d : PyData) : Bool := match seqD d with
  | some ns => ns.all (idxD n)
  | none => true
def keyT (d : PyData) : Sum Int (List Int) := match seqD d with
  | some ns => .inr (ns.map intD)
  | none => .inl (intD d)
/-- the row that data is, if it may be one -/
def keyD (n : Nat) (d : PyData) : Option RowK := if formB d = true then (match seqD d with
  | some [a, b] => if (nameD a && allD n b) = true then some (strD a, keyT b) else none
  | _ => none) else none
def memD (rs : List RowK) (d : PyData) : Bool := match keyD rs.length d with
  | some k => hasR rs k
  | none => false
def spCont (P : Program) (w : World) (K : PySem.W.Frag) (C : Addr) : Sp := fun vs H Q _ => ∃ (p : Addr) (fp : List Addr) (rs : List RowK) (x : V), vs = [.ref p, x] ∧ BookAt P w K H C p fp rs ∧
  ((∃ d, Dd K H x d ∧ shortD d = true ∧ ∀ H', Same H H' → Q (.bl (memD rs d)) H') ∨ ∃ k, Vk K H x k ∧ (k == "list" || k == "tuple") = false ∧ ∀ H', Same H H' → Q (.bl false) H')
def spEqB (P : Program) (w : World) (K : PySem.W.Frag) (C : Addr) : Sp := fun vs H Q _ => ∃ (p : Addr) (fp : List Addr) (rs : List RowK) (y : V), vs = [.ref p, y] ∧ BookAt P w K H C p fp rs ∧
  ((∃ q fq qs, y = .ref q ∧ BookAt P w K H C q fq qs ∧ IsR K H y (.ref C) true ∧ Q (.bl (decide (rs = qs))) H) ∨ (IsR K H y (.ref C) false ∧ Q (.bl false) H))
/-! rows as data -/
theorem row_dp {K : PySem.W.Frag} {H : Hp} {k : RowK} {a : Addr} (h : RowAt K H k a) : Dp K H (.ref a) (rowD k) := by
  obtain ⟨x, y⟩ := k
  obtain ⟨_, h⟩ := h
  rcases h with ⟨n, e, h⟩ | ⟨ns, b, e, h1, h2⟩
  · have e' : y = .inl n := e
    subst e'
    exact .tup h (.cons (.str x) (.cons (.int n) .nil))
  · have e' : y = .inr ns := e
    subst e'
    refine .tup h1 (.cons (.str x) (.cons (.tup h2 ?_) .nil))
    have all : ∀ ms : List Int, DpAll K H (ms.map V.int) (ms.map PyData.int) := fun ms => by
      induction ms with
      | nil => exact .nil
      | cons m ms ih => exact .cons (.int m) ih
    exact all ns
theorem rows_dp {K : PySem.W.Frag} {H : Hp} : ∀ {rs : List RowK} {as : List Addr}, as.length = rs.length → (∀ (i : Nat) (k : RowK) (a : Addr), rs[i]? = some k → as[i]? = some a → RowAt K H k a) → DpAll K H (as.map V.ref) (rs.map rowD)
  | [], [], _, _ => .nil
  | k :: rs, a :: as, hl, h => .cons (row_dp (h 0 k a rfl rfl)) (rows_dp (by simpa using hl) fun j k' a' e1 e2 => h (j + 1) k' a' (by simpa using e1) (by simpa using e2))
  | [], _ :: _, h, _ => by cases h
  | _ :: _, [], h, _ => by cases h
theorem rows_eqv : ∀ rs qs : List RowK, PyData.eqvAll (rs.map rowD) (qs.map rowD) = decide (rs = qs)
  | [], [] => rfl
  | [], _ :: _ => rfl
  | _ :: _, [] => rfl
  | r :: rs, q :: qs => by
    rw [List.map_cons, List.map_cons, PyData.eqvAll, eqv_row, rows_eqv rs qs, Bool.eq_iff_iff]
    simp
theorem rowD_depth (k : RowK) : (rowD k).depth ≤ 2 := by
  obtain ⟨x, n | ns⟩ := k
  · simp [rowD, PyData.depth, PyData.depthAll]
  · have : ∀ ns : List Int, PyData.depthAll (ns.map PyData.int) = 0 := fun ns => by
      induction ns with
      | nil => rfl
      | cons n ns ih => simp [PyData.depthAll, PyData.depth, ih]
    simp [rowD, PyData.depth, PyData.depthAll, this]
theorem rows_depth : ∀ rs : List RowK, PyData.depthAll (rs.map rowD) ≤ 2
  | [] => by simp [PyData.depthAll]
  | k :: rs => by
    have h1 := rows_depth rs
    have h2 := rowD_depth k
    simp only [List.map_cons, PyData.depthAll]
    omega
theorem rows_lay : ∀ {rs : List RowK}, (∀ k ∈ rs, PyData.strOk k.1 = true) → PyData.canLayAll0 (rs.map rowD) = true
  | [], _ => by simp [PyData.canLayAll0]
  | k :: rs, h => by
    simp only [List.map_cons, PyData.canLayAll0, can_row k (h k List.mem_cons_self), rows_lay fun x hx => h x (List.mem_cons_of_mem _ hx), Bool.and_self]
theorem rows_shaped {rs : List RowK} (h : ∀ k ∈ rs, PyData.strOk k.1 = true) : SeqAt.shaped (.list (rs.map rowD)) = true := by
  have h2 : PyData.depth (.list (rs.map rowD)) ≤ 64 := by
    have := rows_depth rs
    simp only [PyData.depth]
    omega
  show (PyData.canLay0 (.list (rs.map rowD)) && decide (PyData.depth (.list (rs.map rowD)) ≤ 64)) = true
  rw [Bool.and_eq_true]
  exact ⟨by simp only [PyData.canLay0]; exact rows_lay h, decide_eq_true h2⟩
theorem okRows_str {rs : List RowK} (h : OkRows rs) : ∀ k ∈ rs, PyData.strOk k.1 = true := fun k hk => by
  obtain ⟨i, hi, e⟩ := List.getElem_of_mem hk
  exact (name_ok (h i k (by rw [List.getElem?_eq_getElem hi, e])).1).1
/-! data that has the form of a row -/
theorem form_of {K : PySem.W.Frag} {H : Hp} {x : V} {d : PyData} (hd : Dd K H x d) (hs : shortD d = true) (hf : formB d = true) : ∃ (a : Addr) (v0 v1 : V) (d0 d1 : PyData), x = .ref a ∧ SqA K H a [v0, v1] ∧ Dd K H v0 d0 ∧ Dd K H v1 d1 ∧ seqD d = some [d0, d1] ∧ secB d1 = true ∧ shortD d0 = true ∧ shortD d1 = true := by
  unfold formB at hf
  split at hf
  · rename_i d0 d1 e
    obtain ⟨a, xs, rfl, hA, hall⟩ := dd_seq hd e
    have hsh := short_seq hs e
    cases hall with
    | cons h0 hr =>
      cases hr with
      | cons h1 hn =>
        cases hn
        exact ⟨a, _, _, d0, d1, rfl, hA, h0, h1, e, hf, shortAll_get (i := 0) hsh rfl, shortAll_get (i := 1) hsh rfl⟩
  · cases hf
theorem num_dd {K : PySem.W.Frag} {H : Hp} {v : V} {d : PyData} (n : Nat) (h : Dd K H v d) : numV n v = idxD n d := by
  cases h with
  | int i => exact decide_eq_decide.mpr (by omega)
  | _ => rfl
theorem nums_dd {K : PySem.W.Frag} {H : Hp} (n : Nat) : ∀ {vs : List V} {ds : List PyData}, DdAll K H vs ds → vs.all (numV n) = ds.all (idxD n)
  | _, _, .nil => rfl
  | _, _, .cons h hs => by rw [List.all_cons, List.all_cons, num_dd n h, nums_dd n hs]
theorem vks_dd {K : PySem.W.Frag} {H : Hp} : ∀ {vs : List V} {ds : List PyData}, DdAll K H vs ds → shortAll ds = true → ∀ y ∈ vs, ∃ k, Vk K H y k
  | _, _, .nil, _ => fun y hy => absurd hy List.not_mem_nil
  | _, _, .cons h hs, e => fun y hy => by
    simp only [shortAll, Bool.and_eq_true] at e
    rcases List.mem_cons.mp hy with rfl | hy
    · exact ⟨_, vk_dd h e.1⟩
    · exact vks_dd hs e.2 y hy
theorem args_dd {K : PySem.W.Frag} {H : Hp} {a : Addr} {v0 v1 : V} {d1 : PyData} {n : Nat} {Q : VK} {E : XK} (hA : SqA K H a [v0, v1]) (h1 : Dd K H v1 d1) (hs : secB d1 = true) (hsh : shortD d1 = true)
    (q : ∀ (b : Addr) (ys : List V) (H' : Hp), Same H H' → SqA K H' b ys → ys.length ≤ 3 → (∀ y ∈ ys, ∃ k, Vk K H' y k) → ys.all (numV n) = allD n d1 → Q (.ref b) H') : spArgs K [.ref a] H Q E := by
  refine ⟨a, v0, v1, kindD d1, rfl, hA, vk_dd h1 hsh, fun hk H' s => ?_, fun hk b H' s hb => ?_⟩
  · rw [kind_seq] at hk
    cases e : seqD d1 with
    | none => rw [e] at hk; cases hk
    | some ns =>
      obtain ⟨b, ys, rfl, hB, hall⟩ := dd_seq h1 e
      unfold secB at hs
      rw [e] at hs
      have hs := of_decide_eq_true hs
      refine q b ys H' s (hB.up s) (by rw [hall.len]; exact hs) (fun y hy => ?_) ?_
      · obtain ⟨k, vk⟩ := vks_dd hall (short_seq hsh e) y hy
        exact ⟨k, vk.mono s⟩
      · rw [nums_dd n hall]
        unfold allD
        rw [e]
  · rw [kind_seq] at hk
    cases e : seqD d1 with
    | some ns => rw [e] at hk; cases hk
    | none =>
      refine q b [] H' s (.inr hb) (by show 0 ≤ 3; omega) (fun y hy => absurd hy List.not_mem_nil) ?_
      unfold allD
      rw [e]
      rfl
theorem ints_dd {K : PySem.W.Frag} {H : Hp} {n : Nat} : ∀ {vs : List V} {ds : List PyData}, DdAll K H vs ds → ds.all (idxD n) = true → vs = (ds.map intD).map V.int ∧ ∀ i ∈ ds.map intD, 0 ≤ i ∧ i < (n : Int)
  | _, _, .nil, _ => ⟨rfl, fun i hi => absurd hi List.not_mem_nil⟩
  | v :: vs, d :: ds, .cons h hs, e => by
    rw [List.all_cons, Bool.and_eq_true] at e
    obtain ⟨e1, e2⟩ := ints_dd hs e.2
    have e0 := e.1
    rw [e1]
    cases h with
    | int i =>
      have e0 := of_decide_eq_true e0
      refine ⟨rfl, fun j hj => ?_⟩
      rcases List.mem_cons.mp hj with e | hj
      · have e : j = i := e
        rw [e]
        omega
      · exact e2 j hj
    | _ => cases e0
/-- such data, its name and its numbers right, is a row -/
theorem pre_row {K : PySem.W.Frag} {H : Hp} {a : Addr} {v0 v1 : V} {d0 d1 : PyData} {n : Nat} (hA : SqA K H a [v0, v1]) (h0 : Dd K H v0 d0) (h1 : Dd K H v1 d1) (hs : secB d1 = true) (hn : nameD d0 = true) (hall : allD n d1 = true) :
    PreRow K H a (strD d0, keyT d1) ∧ nameB (TL.tl (strD d0)) = true ∧ ∀ ns, keyT d1 = .inr ns → ns.length ≤ 3 ∧ ∀ i ∈ ns, 0 ≤ i ∧ i < (n : Int) := by
  cases h0 with
  | str z =>
    have hz : nameB (TL.tl z) = true := hn
    obtain ⟨k1, k2⟩ := name_ok hz
    have hz5 : z.length ≤ 5000 := by omega
    cases e : seqD d1 with
    | none =>
      have ek : keyT d1 = .inl (intD d1) := by unfold keyT; rw [e]
      have ei : v1 = .int (intD d1) := by
        unfold secB at hs
        rw [e] at hs
        cases h1 with
        | int i => rfl
        | lst _ _ => cases e
        | tup _ _ => cases e
        | _ => cases hs
      rw [ek]
      subst ei
      exact ⟨⟨k1, hz5, .inl ⟨_, rfl, hA⟩⟩, hz, fun ns e => by cases e⟩
    | some ds =>
      have ek : keyT d1 = .inr (ds.map intD) := by unfold keyT; rw [e]
      obtain ⟨b, ys, rfl, hB, hds⟩ := dd_seq h1 e
      have ha : ds.all (idxD n) = true := by unfold allD at hall; rw [e] at hall; exact hall
      obtain ⟨e1, e2⟩ := ints_dd hds ha
      unfold secB at hs
      rw [e] at hs
      have hs := of_decide_eq_true hs
      rw [ek]
      refine ⟨⟨k1, hz5, .inr ⟨_, b, rfl, hA, e1 ▸ hB⟩⟩, hz, fun ns e => ?_⟩
      cases e
      exact ⟨by rw [List.length_map]; exact hs, e2⟩
  | _ => cases hn
theorem key_some {n : Nat} {d d0 d1 : PyData} (hf : formB d = true) (e : seqD d = some [d0, d1]) : keyD n d = if (nameD d0 && allD n d1) = true then some (strD d0, keyT d1) else none := by
  unfold keyD
  rw [if_pos hf, e]
theorem find_has {rs : List RowK} {as : List Addr} (h : as.length = rs.length) (k : RowK) : (findR (entR 0 rs as) k).isSome = hasR rs k := by
  cases hk : hasR rs k with
  | true =>
    obtain ⟨_, e2, e3⟩ := posR_old hk
    rw [findR_some 0 rs as k (posR rs k) h.symm e2 e3]
    rfl
  | false =>
    rw [findR_none 0 rs as k (hasR_not hk)]
    rfl
end Tp
set_option Elab.async false
set_option linter.all false
set_option maxRecDepth 100000
set_option maxHeartbeats 4000000
/-! books that are made of rows -/
namespace Tp
open PySem PySem.Spec PyProof.Rows L2
/-- what becomes of an item of the list that a book is made of -/
inductive TakeR where
  | row
  | name
  | ok (k : RowK)
def takeD (rs : List RowK) (d : PyData) : TakeR := if formB d = true then (match seqD d with
  | some [a, b] => if nameD a = true then (if (!allD rs.length b || hasR rs (strD a, keyT b)) = true then .row else .ok (strD a, keyT b)) else .name
  | _ => .row) else .row
def spTakeB (P : Program) (w : World) (K : PySem.W.Frag) (C CR CN : Addr) : Sp := fun vs H Q E => ∃ (p : Addr) (fp : List Addr) (rs : List RowK) (x : V) (d : PyData), vs = [.ref p, x] ∧ BookAt P w K H C p fp rs ∧ rs.length < 5000 ∧ Dd K H x d ∧ shortD d = true ∧
  (takeD rs d = .row → Rsd E H CR "value" x) ∧ (takeD rs d = .name → ∃ a v0 v1, x = .ref a ∧ SqA K H a [v0, v1] ∧ Rsd E H CN "value" v0) ∧
  ∀ k, takeD rs d = .ok k → (∀ n, k.2 = .inl n → n.natAbs.log2 < 1000) ∧ ∀ H', Frame fp H H' → BookAt P w K H' C p fp (rs ++ [k]) → Q .non H'
theorem take_form {rs : List RowK} {d d0 d1 : PyData} (hf : formB d = true) (e : seqD d = some [d0, d1]) : takeD rs d = if nameD d0 = true then (if (!allD rs.length d1 || hasR rs (strD d0, keyT d1)) = true then .row else .ok (strD d0, keyT d1)) else .name := by
  unfold takeD
  rw [if_pos hf, e]
theorem take_no {rs : List RowK} {d : PyData} (hf : formB d = false) : takeD rs d = .row := by
  unfold takeD
  rw [if_neg (by rw [hf]; decide)]
/-- the way of a whole list: the rows, or the first item that is refused -/
def buildR : List RowK → List PyData → Sum (Nat × Bool) (List RowK)
  | rs, [] => .inr rs
  | rs, d :: ds => match takeD rs d with
    | .row => .inl (0, false)
    | .name => .inl (0, true)
    | .ok k => match buildR (rs ++ [k]) ds with
      | .inl (i, b) => .inl (i + 1, b)
      | .inr qs => .inr qs
/-- raised, all but p as it was -/
def RsdK (E : XK) (H : Hp) (p : Addr) (C : Addr) (n : Str) (x : V) : Prop := ∀ H' dd fs, Keep p H H' → H' dd = some (exd dd fs) → fs.lookup n = some x → E (.ref C) (some dd) H'
def spInitB (P : Program) (w : World) (K : PySem.W.Frag) (C CP CR CN : Addr) : Sp := fun vs H Q E => ∃ (p dx : Addr) (x : V), vs = [.ref p, x] ∧ H p = some (.ins C dx []) ∧
  ((∃ k, Vk K (rs p p H) x k ∧ (k == "list" || k == "tuple") = false ∧ RsdK E H p CP "value" x) ∨
   ∃ (b : Addr) (ys : List V) (ds : List PyData), x = .ref b ∧ SqA K (rs p p H) b ys ∧ DdAll K (rs p p H) ys ds ∧ shortAll ds = true ∧ ds.length < 5000 ∧ (∀ m qs, buildR [] (ds.take m) = .inr qs → ∀ k ∈ qs, ∀ n, k.2 = .inl n → n.natAbs.log2 < 1000) ∧
    (∀ i, buildR [] ds = .inl (i, false) → ∃ y, ys[i]? = some y ∧ RsdK E H p CR "value" y) ∧
    (∀ i, buildR [] ds = .inl (i, true) → ∃ a v0 v1, ys[i]? = some (.ref a) ∧ SqA K (rs p p H) a [v0, v1] ∧ RsdK E H p CN "value" v0) ∧
    ∀ qs, buildR [] ds = .inr qs → ∀ H' fp, Keep p H H' → (∀ b ∈ fp, H b = none) → BookAt P w K H' C p fp qs → Q .non H')
theorem build_snoc : ∀ (ds : List PyData) (d : PyData) (r0 : List RowK), buildR r0 (ds ++ [d]) = match buildR r0 ds with
    | .inl e => .inl e
    | .inr qs => match takeD qs d with
      | .row => .inl (ds.length, false)
      | .name => .inl (ds.length, true)
      | .ok k => .inr (qs ++ [k])
  | [], d, r0 => by
    show buildR r0 [d] = _
    unfold buildR
    cases e : takeD r0 d <;> simp [buildR, e]
  | x :: ds, d, r0 => by
    rw [List.cons_append]
    unfold buildR
    cases e : takeD r0 x with
    | row => rfl
    | name => rfl
    | ok k =>
      have ih := build_snoc ds d (r0 ++ [k])
      dsimp only
      rw [ih]
      cases e2 : buildR (r0 ++ [k]) ds with
      | inl z => rfl
      | inr qs =>
        dsimp only
        cases takeD qs d <;> rfl
/-- once refused, refused -/
theorem build_stop : ∀ (ds es : List PyData) (r0 : List RowK) (i : Nat) (b : Bool), buildR r0 ds = .inl (i, b) → buildR r0 (ds ++ es) = .inl (i, b)
  | [], es, r0, i, b, h => by cases h
  | x :: ds, es, r0, i, b, h => by
    rw [List.cons_append]
    unfold buildR at h ⊢
    cases e : takeD r0 x with
    | row => rw [e] at h; exact h
    | name => rw [e] at h; exact h
    | ok k =>
      rw [e] at h
      cases e2 : buildR (r0 ++ [k]) ds with
      | inr qs =>
        have h : (match buildR (r0 ++ [k]) ds with | .inl (i, b) => (.inl (i + 1, b) : Sum (Nat × Bool) (List RowK)) | .inr qs => .inr qs) = .inl (i, b) := h
        rw [e2] at h
        cases h
      | inl z =>
        obtain ⟨j, c⟩ := z
        have h : (match buildR (r0 ++ [k]) ds with | .inl (i, b) => (.inl (i + 1, b) : Sum (Nat × Bool) (List RowK)) | .inr qs => .inr qs) = .inl (i, b) := h
        rw [e2] at h
        have := build_stop ds es (r0 ++ [k]) j c e2
        show (match buildR (r0 ++ [k]) (ds ++ es) with | .inl (i, b) => (.inl (i + 1, b) : Sum (Nat × Bool) (List RowK)) | .inr qs => .inr qs) = .inl (i, b)
        rw [this]
        exact h
def spCopied (P : Program) (w : World) (K : PySem.W.Frag) (C : Addr) : Sp := fun vs H Q _ => ∃ (p : Addr) (fp : List Addr) (rs : List RowK), vs = [.ref p] ∧ BookAt P w K H C p fp rs ∧ rs.length < 5000 ∧ ∀ q H' fq, Same H H' → H q = none → (∀ b ∈ fq, H b = none) → BookAt P w K H' C q fq rs → Q (.ref q) H'
theorem sec_pos {d : PyData} {n : Int} (h : secB d = true) (e : keyT d = .inl n) : 0 ≤ n := by
  unfold secB at h
  unfold keyT at e
  cases e1 : seqD d with
  | some ns =>
    rw [e1] at e
    cases e
  | none =>
    rw [e1] at e h
    cases e
    cases d with
    | int i => exact of_decide_eq_true h
    | _ => cases h
theorem raise_g {K : PySem.W.Frag} {H0 H1 : Hp} {C : Addr} {n : Str} {ns : List Str} {vs : List V} {Q : XK} (hT : ExK K C) (g : ∀ a, H1 a = none → H0 a = none) (hl : vs.length = (n :: ns).length) (hn : (n :: ns).length ≤ 1000) (q : ∀ H' dd fs, Same H1 H' → H' dd = some (exd dd fs) → Has fs (n :: ns) vs → Q (.ref C) (some dd) H') :
    vs.length = (n :: ns).length ∧ (n :: ns).length ≤ 1000 ∧ ∀ a H', H1 a = none → Same H1 H' → ExI H' a C (n :: ns) vs → ∃ (a' C' : Addr) (d : Option Addr), V.ref a = .ref a' ∧ H' a' = some (exo a' C' d) ∧ Fr0 H0 a' ∧ ExK K C' ∧ Q (.ref C') d (delH H' a') := by
  refine ⟨hl, hn, fun a H' ha sm he => ?_⟩
  obtain ⟨fs, hA, hf⟩ := he
  have fr : Fr0 H0 a := fr0_none (g a ha)
  rcases hA with ⟨rfl, hA⟩ | ⟨dx, ne, hA, hd⟩
  · match vs, hl with
    | v :: vs, _ => exact absurd (hf 0 n v rfl rfl) (by simp)
  · exact ⟨a, C, some dx, rfl, hA, fr, hT, q _ dx fs (fun b o e => (delH_ne (ne_of_none e ha)).trans (sm b o e)) ((delH_ne ne).trans hd) hf⟩
theorem seq_itK {K : PySem.W.Frag} {H0 H : Hp} {a : Addr} {xs : List V} {R : It → Hp → Prop} (h : SqA K H0 a xs) (s : Same H0 H) (hR : ∀ (J : It) (S : Hp → Prop), Walk J xs.length S (YAt xs) → (∀ G, Same H0 G → S G) → R J H) : SeqR K a H R := by
  rcases h with h | h
  · exact .inl ⟨⟨xs, upL s h⟩, hR _ _ walk_list fun G k => upL k h⟩
  · exact .inr ⟨⟨xs, upT s h⟩, hR _ _ walk_tup fun G k => upT k h⟩
theorem build_len : ∀ (ds : List PyData) (r0 qs : List RowK), buildR r0 ds = .inr qs → qs.length ≤ r0.length + ds.length
  | [], r0, qs, h => by
    cases h
    exact Nat.le_refl _
  | d :: ds, r0, qs, h => by
    unfold buildR at h
    cases e : takeD r0 d with
    | row => rw [e] at h; cases h
    | name => rw [e] at h; cases h
    | ok k =>
      rw [e] at h
      dsimp only at h
      cases e2 : buildR (r0 ++ [k]) ds with
      | inl z => rw [e2] at h; cases h
      | inr ps =>
        rw [e2] at h
        cases h
        have := build_len ds (r0 ++ [k]) qs e2
        rw [List.length_append, List.length_singleton] at this
        rw [List.length_cons]
        omega
theorem keep_fr {p : Addr} {fp : List Addr} {H G G' : Hp} (k : Keep p H G) (f : Frame fp G G') (h : ∀ b ∈ fp, H b = none) : Keep p H G' := fun b o hb e => f b o (fun z => by rw [h b z] at e; cases e) (k b o hb e)
theorem build_at {ds : List PyData} {qs : List RowK} {i : Nat} {d : PyData} (h : buildR [] (ds.take i) = .inr qs) (e : ds[i]? = some d) :
    (takeD qs d = .row → buildR [] ds = .inl (i, false)) ∧ (takeD qs d = .name → buildR [] ds = .inl (i, true)) ∧ ∀ k, takeD qs d = .ok k → buildR [] (ds.take (i + 1)) = .inr (qs ++ [k]) := by
  have hi : i < ds.length := by
    rcases Nat.lt_or_ge i ds.length with h | h
    · exact h
    · rw [List.getElem?_eq_none h] at e
      cases e
  have e1 : ds.take (i + 1) = ds.take i ++ [d] := by rw [List.take_add_one, e]; rfl
  have e2 : ds = ds.take (i + 1) ++ ds.drop (i + 1) := (List.take_append_drop _ _).symm
  have e3 := build_snoc (ds.take i) d []
  rw [h, ← e1] at e3
  dsimp only at e3
  have el : (ds.take i).length = i := by rw [List.length_take]; omega
  rw [el] at e3
  refine ⟨fun z => ?_, fun z => ?_, fun k z => ?_⟩
  · rw [z] at e3
    rw [e2]
    exact build_stop _ _ _ _ _ e3
  · rw [z] at e3
    rw [e2]
    exact build_stop _ _ _ _ _ e3
  · rw [z] at e3
    exact e3
/-! rows of a book as data of which a book is made -/
theorem row_dd {K : PySem.W.Frag} {H : Hp} {k : RowK} {a : Addr} (h : RowAt K H k a) : Dd K H (.ref a) (rowD k) := by
  obtain ⟨x, y⟩ := k
  obtain ⟨_, h⟩ := h
  rcases h with ⟨n, e, h⟩ | ⟨ns, b, e, h1, h2⟩
  · have e' : y = .inl n := e
    subst e'
    exact .tup h (.cons (.str x) (.cons (.int n) .nil))
  · have e' : y = .inr ns := e
    subst e'
    refine .tup h1 (.cons (.str x) (.cons (.tup h2 ?_) .nil))
    have all : ∀ ms : List Int, DdAll K H (ms.map V.int) (ms.map PyData.int) := fun ms => by
      induction ms with
      | nil => exact .nil
      | cons m ms ih => exact .cons (.int m) ih
    exact all ns
theorem rows_dd {K : PySem.W.Frag} {H : Hp} : ∀ {rs : List RowK} {as : List Addr}, as.length = rs.length → (∀ (i : Nat) (k : RowK) (a : Addr), rs[i]? = some k → as[i]? = some a → RowAt K H k a) → DdAll K H (as.map V.ref) (rs.map rowD)
  | [], [], _, _ => .nil
  | k :: rs, a :: as, hl, h => .cons (row_dd (h 0 k a rfl rfl)) (rows_dd (by simpa using hl) fun j k' a' e1 e2 => h (j + 1) k' a' (by simpa using e1) (by simpa using e2))
  | [], _ :: _, h, _ => by cases h
  | _ :: _, [], h, _ => by cases h
theorem short_ints : ∀ ns : List Int, shortAll (ns.map PyData.int) = true
  | [] => rfl
  | n :: ns => by simp only [List.map_cons, shortAll, shortD, short_ints ns, Bool.and_self]
theorem short_row {n : Nat} {k : RowK} (h : OkK n k) : shortD (rowD k) = true := by
  obtain ⟨x, y⟩ := k
  have h5 : x.length ≤ 5000 := by
    have : x.length ≤ 8 := (name_ok h.1).2
    omega
  cases y with
  | inl t => simp [rowD, shortD, shortAll, h5]
  | inr ns => simp [rowD, shortD, shortAll, h5, short_ints ns]
theorem short_rows : ∀ {rs : List RowK}, (∀ k ∈ rs, ∃ n, OkK n k) → shortAll (rs.map rowD) = true
  | [], _ => rfl
  | k :: rs, h => by
    obtain ⟨n, hk⟩ := h k List.mem_cons_self
    simp only [List.map_cons, shortAll, short_row hk, short_rows fun x hx => h x (List.mem_cons_of_mem _ hx), Bool.and_self]
theorem int_back (ns : List Int) : (ns.map PyData.int).map intD = ns := by
  rw [List.map_map]
  exact List.map_id'' (fun _ => rfl) ns
theorem take_row {rs : List RowK} {k : RowK} (h : OkK rs.length k) (hn : k ∉ rs) : takeD rs (rowD k) = .ok k := by
  obtain ⟨x, y⟩ := k
  have hx : nameB (TL.tl x) = true := h.1
  have h2 := h.2
  have hh : hasR rs (x, y) = false := by
    cases e : hasR rs (x, y) with
    | false => rfl
    | true => exact absurd (hasR_iff.mp e) hn
  cases y with
  | inl t =>
    have f : formB (rowD (x, .inl t)) = true := by
      show secB (.int t) = true
      unfold secB
      exact decide_eq_true h2.1
    rw [take_form f (d0 := .str x) (d1 := .int t) rfl]
    have e1 : nameD (.str x) = true := hx
    have e2 : allD rs.length (.int t) = true := rfl
    have e3 : (strD (.str x), keyT (.int t)) = (x, Sum.inl t) := rfl
    rw [e1, e2, e3, hh]
    rfl
  | inr ns =>
    have hl : ns.length ≤ 3 := h2.1
    have f : formB (rowD (x, .inr ns)) = true := by
      show secB (.tuple (ns.map PyData.int)) = true
      unfold secB
      exact decide_eq_true (by rw [List.length_map]; exact hl)
    rw [take_form f (d0 := .str x) (d1 := .tuple (ns.map PyData.int)) rfl]
    have e1 : nameD (.str x) = true := hx
    have e2 : allD rs.length (.tuple (ns.map PyData.int)) = true := by
      show (ns.map PyData.int).all (idxD rs.length) = true
      rw [List.all_map]
      refine List.all_eq_true.mpr fun i hi => decide_eq_true ?_
      have := h2.2 i hi
      omega
    have e3 : (strD (.str x), keyT (.tuple (ns.map PyData.int))) = (x, Sum.inr ns) := by
      show (x, Sum.inr ((ns.map PyData.int).map intD)) = _
      rw [int_back]
    rw [e1, e2, e3, hh]
    rfl
theorem build_rows : ∀ (ks rs : List RowK), OkRows (rs ++ ks) → (rs ++ ks).Nodup → buildR rs (ks.map rowD) = .inr (rs ++ ks)
  | [], rs, _, _ => by rw [List.append_nil]; rfl
  | k :: ks, rs, ho, hn => by
    have hk : OkK rs.length k := ho rs.length k (by simp)
    have hnk : k ∉ rs := fun z => by
      have := (List.nodup_append.mp hn).2.2 k z k List.mem_cons_self
      exact this rfl
    have e : rs ++ k :: ks = (rs ++ [k]) ++ ks := by simp
    rw [List.map_cons]
    unfold buildR
    rw [take_row hk hnk]
    dsimp only
    rw [build_rows ks (rs ++ [k]) (e ▸ ho) (e ▸ hn), ← e]
end Tp
set_option Elab.async false
set_option linter.all false
set_option maxRecDepth 100000
set_option maxHeartbeats 0
namespace T10
open PySem PySem.Spec PyProof.Rows L2 Tp
def xeB (K : PySem.W.Frag) (CM CS CE : Addr) : Bool := decide (PySem.W.exmOne K (.ref CS) (.ref CS) = some true) && (decide (PySem.W.exmOne K (.ref CE) (.ref CS) = some false) && (decide (PySem.W.exmOne K (.ref CE) (.ref CE) = some true) && (decide (PySem.W.kitOne K (.ref CS) (.ref CM) = some true) && decide (PySem.W.kitOne K (.ref CE) (.ref CM) = some true))))
def ntB (K : PySem.W.Frag) (C : Addr) : Bool := decide (PySem.W.kitOne K (.type "str") (.ref C) = some false) && decide (PySem.W.subIn K (.ref C) (.type "str") = some false)
def fnL : List He.DefD := [dfn "_law_cell" (top 52),
  dfn "_law_bag" (top 53),
  dfn "_law_take" (top 54),
  dfn "_law_names" (top 55),
  dfn "_law_place" (top 56),
  dfn "_law_symbols" (top 57),
  dfn "_law_terms" (top 58),
  dfn "_law_starts" (top 59),
  dfn "_law_parts" (top 60),
  dfn "_law_edges" (top 61),
  dfn "_law_caught" (top 62),
  dfn "_law_right" (top 63),
  dfn "_law_odd_right" (top 64),
  dfn "law" (top 65),
  dfn "is_whole" (top 20),
  dfn "is_integer" (top 19),
  dfn "is_list" (top 22),
  dfn "is_name" (top 21),
  dfn "arguments_of" (top 44),
  dfn "moved_row" (top 45),
  dfn "joined_edges" (top 24),
  dfn "all_starts" (top 25),
  dfn "_direct_sources" (top 27),
  dfn "_spread" (top 31),
  dfn "working_order" (top 26),
  dfn "ring_without_delay" (top 28),
  dfn "ends_of_ways" (top 29),
  dfn "beginnings_of_ways" (top 30),
  dfn "_take_name" (top 35),
  dfn "_check_inputs" (top 34),
  dfn "_check_gates" (top 36),
  dfn "_are_indices" (top 38),
  dfn "check_terms" (top 37),
  dfn "_check_edge" (top 40),
  dfn "_check_edges" (top 39),
  dfn "_check_ways" (top 41),
  dfn "_kept_edges" (top 48),
  dfn "check_parts" (top 33),
  dmt "TermTable" "__init__" "TermTable.__init__" (inClass (top 43) 0),
  dmt "TermTable" "enter" "TermTable.enter" (inClass (top 43) 1),
  dmt "TermTable" "enter_terms" "TermTable.enter_terms" (inClass (top 43) 3),
  dmt "TermTable" "used" "TermTable.used" (inClass (top 43) 4),
  dmt "Net" "__init__" "Net.__init__" (inClass (top 47) 0) [.adr (He.dflAt ("Net", some "__init__") 0)],
  dmt "Net" "has_gate" "Net.has_gate" (inClass (top 47) 13),
  dmt "Net" "__eq__" "Net.__eq__" (inClass (top 47) 18),
  dmt "Net" "__contains__" "Net.__contains__" (inClass (top 47) 15),
  dmt "Net" "_edges_to" "Net._edges_to" (inClass (top 47) 12),
  dmt "Net" "_edge" "Net._edge" (inClass (top 47) 11),
  dmt "Net" "delays" "Net.delays" (inClass (top 47) 9),
  dmt "Net" "source" "Net.source" (inClass (top 47) 10),
  dmt "Net" "readers" "Net.readers" (inClass (top 47) 8),
  dmt "UnknownSource" "__init__" "UnknownSource.__init__" (inClass (top 11) 0),
  dmt "UnknownEdge" "__init__" "UnknownEdge.__init__" (inClass (top 13) 0)]
def fa0 : List He.Fa := [.free "isinstance", .free "int", .free "bool", .free "str", .free "list", .free "tuple", .free "len", .free "all", .free "enumerate", .str "LETTERS" "abcdefghijklmnopqrstuvwxyz", .str "DIGITS" "0123456789", .int "LONGEST_NAME" 8, .int "MOST_ARGUMENTS" 3, .free "range", .free "min", .free "zip", .free "repr", .cls "Net", .noat "Net" "_terms", .noat "Net" "_inputs", .noat "Net" "_names", .noat "Net" "_symbols", .noat "Net" "_edges", .noat "Net" "_outs", .glo "UnknownSource", .glo "UnknownEdge", .glo "is_whole", .glo "is_integer", .glo "is_list", .glo "is_name"]
def fa1 : List He.Fa := [.glo "arguments_of", .glo "moved_row", .glo "joined_edges", .glo "all_starts", .glo "_direct_sources", .glo "_spread", .glo "working_order", .glo "ring_without_delay", .glo "ends_of_ways", .glo "beginnings_of_ways", .glo "_take_name", .glo "_check_inputs", .glo "_check_gates", .glo "_are_indices", .glo "check_terms", .glo "_check_edge", .glo "_check_edges", .glo "_check_ways", .glo "_kept_edges", .glo "check_parts", .cls "TermTable", .noat "TermTable" "_listed", .noat "TermTable" "_places", .mkr "TermTable", .glo "TermTable", .meth "TermTable" "enter", .meth "TermTable" "enter_terms", .meth "TermTable" "used", .mkr "Net", .glo "Net"]
def fa2 : List He.Fa := [.meth "Net" "has_gate", .meth "Net" "__eq__", .meth "Net" "__contains__", .meth "Net" "_edges_to", .meth "Net" "_edge", .meth "Net" "delays", .meth "Net" "source", .meth "Net" "readers", .glo "_law_cell", .free "max", .glo "_law_bag", .glo "_law_take", .glo "_law_place", .glo "_law_symbols", .glo "_law_names", .glo "_law_terms", .glo "_law_starts", .glo "_law_parts", .glo "_law_edges", .glo "MissingError", .glo "_law_caught", .glo "_law_right", .glo "_law_odd_right", .glo "law"]
def faL : List He.Fa := fa0 ++ (fa1 ++ (fa2))
def exB (K : PySem.W.Frag) : Bool := (glB K) && ((smB K) && ((emB K (He.dflAt ("Net", some "__init__") 0 K)) && ((insB K (He.ga K "Net")) && ((ntB K (He.ga K "Net")) && ((excB K (He.ga K "UnknownSource") (He.ga K "MissingError") 1 ["name"] (He.fAd K ("UnknownSource", some "__init__"))) && ((excB K (He.ga K "UnknownEdge") (He.ga K "MissingError") 1 ["reader", "slot"] (He.fAd K ("UnknownEdge", some "__init__"))) && ((xeB K (He.ga K "MissingError") (He.ga K "UnknownSource") (He.ga K "UnknownEdge")))))))))
abbrev R : PySem.W.OpenRow := PySem.W.OpenLaw.row PySem.Challenge.rw_toldpast_k10_readers_and_edges
def lo0 : List PySem.Str := ["NetError", "MissingError", "InvalidPart", "InvalidName", "Duplicate", "InvalidRow", "InvalidEdge", "Ring", "Dry", "Idle", "UnknownSource", "UnknownGate", "UnknownEdge", "LETTERS", "DIGITS", "LONGEST_NAME", "MOST_ARGUMENTS", "is_integer", "is_whole", "is_name", "is_list", "joined_edges", "all_starts", "working_order", "_direct_sources", "ring_without_delay", "ends_of_ways", "beginnings_of_ways", "_spread", "check_parts"]
def lo1 : List PySem.Str := ["_check_inputs", "_take_name", "_check_gates", "check_terms", "_are_indices", "_check_edges", "_check_edge", "_check_ways", "TermTable", "arguments_of", "moved_row", "Net", "_kept_edges", "_given_edges", "require_gate", "_law_cell", "_law_bag", "_law_take", "_law_names", "_law_place", "_law_symbols", "_law_terms", "_law_starts", "_law_parts", "_law_edges", "_law_caught", "_law_right", "_law_odd_right"]
abbrev hk : PySem.W.Hook := Tp.hookR faL fnL exB
def ob (s : PySem.W.SharedT) : Tp.AlR := Tp.obsR faL fnL exB (HandSHeadRun.getT s)
theorem ob_eq (s : PySem.W.SharedT) : ob s = hk.obs s.abs := Tp.obsR_eq (HandSHeadRun.getT_eq s)
theorem run (w : World) : HandSHeadRun.RunEq R (PySem.W.view R.prog [65]) hk ob 20000 (T10.lo0 ++ (T10.lo1)) w := by
  intro os
  kernel_rfl
end T10
set_option Elab.async false
set_option linter.all false
set_option maxRecDepth 100000
set_option maxHeartbeats 4000000
namespace T10
open PySem PySem.Spec PyProof.Rows L2 Tp

/-- the built-ins and constants that the checks name -/
structure TxtV (mg : Str → Option Value) : Prop where
  isinstance : mg "isinstance" = none
  int : mg "int" = none
  bool : mg "bool" = none
  str : mg "str" = none
  list : mg "list" = none
  tuple : mg "tuple" = none
  len : mg "len" = none
  all : mg "all" = none
  enumerate : mg "enumerate" = none
  letters : ∃ u, mg "LETTERS" = some u ∧ RelV (.str "abcdefghijklmnopqrstuvwxyz") u
  digits : ∃ u, mg "DIGITS" = some u ∧ RelV (.str "0123456789") u
  longest : ∃ u, mg "LONGEST_NAME" = some u ∧ RelV (.int 8) u
  most : ∃ u, mg "MOST_ARGUMENTS" = some u ∧ RelV (.int 3) u

section
variable {P : Program} {w : World} {K : PySem.W.Frag} {mg : Str → Option Value} {base : Heap} {f : Addr} {fd : FuncData}

abbrev sVw : Stmt := top 20
abbrev nVw : List Str := ["value"]
theorem scVw : FnScope nVw ["value"] (defScope sVw) := ⟨rfl, rfl, rfl, by decide +kernel, rfl, by decide +kernel, by decide +kernel⟩

theorem ok_whole (F : Fun K "is_whole" "is_whole" sVw f fd) (T : TxtV mg) : FnG P w K mg base CX0 1 f fd ["value"] (spWhole K) := by
  refine FunG.ok F scVw (fun vs H Q E h => ?_) (fun cdv B out s H vs Q E hr hG h => ?_)
  · obtain ⟨x, k, rfl, _⟩ := h
    rfl
  · obtain ⟨x, k, rfl, v, q⟩ := h
    refine ⟨_, (pss_one (ps_ret (pe_and (pe_callB call_isd (by rfl) T.isinstance (by decide +kernel) (pa_cons (pv 0) (pa_cons (pe_bltn (by rfl) T.int (by decide +kernel) (show RelV (.ty "int") _ from rfl)) pa_nil))) (pe_one (pe_not (pe_callB call_isd (by rfl) T.isinstance (by decide +kernel) (pa_cons (pv 0) (pa_cons (pe_bltn (by rfl) T.bool (by decide +kernel) (show RelV (.ty "bool") _ from rfl)) pa_nil)))))))), ?_⟩
    refine ⟨_, rfl, _, _, _, _, rfl, .ty _, v.kd.is "int" (by decide), _, rfl, ?_⟩
    refine ite2 (fun h1 => ?_) (fun h1 => ?_)
    · refine ⟨_, rfl, _, _, _, _, rfl, .ty _, v.kd.is "bool" (by decide), _, rfl, ?_⟩
      have e : (!ansB k "bool") = (k == "int") := ans_int h1
      rw [e]
      exact q
    · have e : (k == "int") = false := ans_int0 (Bool.eq_false_iff.mpr h1)
      rw [e] at q
      exact q

abbrev sVi : Stmt := top 19
abbrev nVi : List Str := ["value", "low", "high"]
theorem scVi : FnScope nVi ["value", "low", "high"] (defScope sVi) := ⟨rfl, rfl, rfl, by decide +kernel, rfl, by decide +kernel, by decide +kernel⟩

theorem ok_integer (F : Fun K "is_integer" "is_integer" sVi f fd) (W : Cg P w K mg base 1 "is_whole" (spWhole K)) : FnG P w K mg base CX0 2 f fd ["value", "low", "high"] (spInteger K) := by
  refine FunG.ok F scVi (fun vs H Q E h => ?_) (fun cdv B out s H vs Q E hr hG h => ?_)
  · obtain ⟨x, lo, hi, k, rfl, _⟩ := h
    rfl
  · obtain ⟨x, lo, hi, k, rfl, v, q0, q1⟩ := h
    refine ⟨_, (pss_one (ps_ret (pe_and (pe_g W hr hG (by decide) (by rfl) (pa_cons (pv 0) pa_nil)) (pe_one (pe_chain op_le op_le (pv 1) (pv 0) (pv 2)))))), ?_⟩
    refine ⟨_, rfl, _, k, rfl, v, _, rfl, ?_⟩
    refine ite2 (fun h1 => ?_) (fun h1 => ?_)
    · obtain ⟨i, rfl⟩ := v.i (by simpa using h1)
      refine ⟨_, rfl, _, rfl, _, _, rfl, rfl, _, rfl, ?_⟩
      have q := q1 i rfl
      refine ite2 (fun h2 => ?_) (fun h2 => ?_)
      · refine ⟨_, rfl, _, _, rfl, rfl, ?_⟩
        have e : decide (lo ≤ i ∧ i ≤ hi) = decide (i ≤ hi) := decide_eq_decide.mpr ⟨fun z => z.2, fun z => ⟨of_decide_eq_true h2, z⟩⟩
        rw [e] at q
        exact q
      · have e : decide (lo ≤ i ∧ i ≤ hi) = false := decide_eq_false fun z => h2 (decide_eq_true z.1)
        rw [e] at q
        exact q
    · exact q0 fun e => h1 (by rw [e]; rfl)

abbrev sVl : Stmt := top 22
abbrev nVl : List Str := ["value"]
theorem scVl : FnScope nVl ["value"] (defScope sVl) := ⟨rfl, rfl, rfl, by decide +kernel, rfl, by decide +kernel, by decide +kernel⟩

theorem ok_list (F : Fun K "is_list" "is_list" sVl f fd) (T : TxtV mg) : FnG P w K mg base CX0 1 f fd ["value"] (spList K) := by
  refine FunG.ok F scVl (fun vs H Q E h => ?_) (fun cdv B out s H vs Q E hr hG h => ?_)
  · obtain ⟨x, k, rfl, _⟩ := h
    rfl
  · obtain ⟨x, k, rfl, v, q⟩ := h
    refine ⟨_, (pss_one (ps_ret (pe_callB call_isdT (by rfl) T.isinstance (by decide +kernel) (pa_cons (pv 0) (pa_cons (pe_tup (pa_cons (pe_bltn (by rfl) T.list (by decide +kernel) (show RelV (.ty "list") _ from rfl)) (pa_cons (pe_bltn (by rfl) T.tuple (by decide +kernel) (show RelV (.ty "tuple") _ from rfl)) pa_nil))) pa_nil))))), ?_⟩
    have prs : Paired ClsV [V.ty "list", V.ty "tuple"] [.type "list", .type "tuple"] := .cons (.ty _) (.cons (.ty _) .nil)
    refine ⟨_, rfl, (by show 2 ≤ sizeLine; decide), fun p hp => ⟨_, p, _, _, _, rfl, upd_same, prs, v.kd.lt.mono (Same.put hp), ?_⟩⟩
    rw [ans_lt]
    exact q _ (Same.put hp)

abbrev sVn : Stmt := top 21
abbrev nVn : List Str := ["value", "character"]
theorem scVn : FnScope nVn ["value"] (defScope sVn) := ⟨rfl, rfl, rfl, by decide +kernel, rfl, by decide +kernel, by decide +kernel⟩

theorem ok_name (F : Fun K "is_name" "is_name" sVn f fd) (T : TxtV mg) : FnG P w K mg base CX0 1 f fd ["value"] (spName K) := by
  refine FunG.ok F scVn (fun vs H Q E h => ?_) (fun cdv B out s H vs Q E hr hG h => ?_)
  · obtain ⟨x, k, rfl, _⟩ := h
    rfl
  · obtain ⟨x, k, rfl, v, q0, q1⟩ := h
    refine ⟨_, (pss_cons (ps_if (PW.pt (pw_or (pt_not (pt_val (pe_callB call_isd (by rfl) T.isinstance (by decide +kernel) (pa_cons (pv 0) (pa_cons (pe_bltn (by rfl) T.str (by decide +kernel) (show RelV (.ty "str") _ from rfl)) pa_nil))))) (pw_or1 (pt_not (pt_chain op_le op_le pe_int (pe_callB call_len (by rfl) T.len PySem.boot_len (pa_cons (pv 0) pa_nil)) (gl_c (by rfl) T.longest)))))) (pss_one (ps_ret pe_bl)) pss_nil)
      (pss_one (ps_ret (pe_and (pe_cmpR op_in_sign (pe_ix ix_str (pv 0) pe_int fun _ _ => rfl) (gl_c (by rfl) T.letters) rfl) (pe_one (pe_callB (cr_all rfl) (by rfl) T.all (by decide +kernel) (pa_cons (pe_lc (own := [("character", 1)]) (g := gName 1) (tt := tYes) rfl scVn.nd (pi_str (pv 0)) (blkOk_by (N := nVn) (sc := defScope sVn) (by decide +kernel)) (fun _ _ _ _ _ => pg_name (i := 1) scVn.nd rfl (Or.inl rfl)) (fun _ _ _ _ _ => pts_nil) (fun _ _ _ _ _ => (pe_or (pe_cmpR op_in_sign (pv 1) (gl_c (by rfl) T.letters) rfl) (pe_one (pe_cmpR op_in_sign (pv 1) (gl_c (by rfl) T.digits) rfl))))) pa_nil))))))), ?_⟩
    refine ⟨_, rfl, _, _, _, _, rfl, .ty _, v.kd.is "str" (by decide), _, rfl, ?_⟩
    rw [ans_str]
    cases hk : (k == "str") with
    | false => exact iteT (iteT (q0 fun e => by rw [e] at hk; cases hk))
    | true =>
      obtain ⟨z, rfl, hz⟩ := v.s (by simpa using hk)
      have q := q1 z rfl
      have hzl : z.length = (TL.tl z).length := TL.len_tl z
      refine iteF ⟨_, rfl, _, _, rfl, ⟨by rw [PySem.sizeLine_eq]; omega, rfl⟩, _, _, rfl, rfl, _, rfl, ?_⟩
      have bad : ¬ (1 ≤ (TL.tl z).length ∧ (TL.tl z).length ≤ 8) → Q (.bl false) H := fun hn => by
        have q' := q H (Same.refl _)
        unfold nameB at q'
        rw [decide_eq_false hn] at q'
        exact q'
      refine ite2 (fun h1 => ?_) (fun h1 => ?_)
      · have h1' := of_decide_eq_true h1
        refine ⟨_, _, rfl, rfl, _, rfl, ?_⟩
        by_cases h2 : ((z.length : Nat) : Int) ≤ 8
        · refine if_false_of (by rw [decide_eq_true h2]; rfl) ?_
          have hpos : 0 < (TL.tl z).length := by omega
          have h0 : (TL.tl z)[0]? = some ((TL.tl z)[0]) := List.getElem?_eq_getElem hpos
          have hh : (TL.tl z).head? = some ((TL.tl z)[0]) := by rw [List.head?_eq_getElem?, h0]
          refine ⟨_, rfl, _, _, _, rfl, rfl, by rw [PySem.sizeLine_eq]; omega, atI_nat (j := 0) h0, _, _, rfl, rfl, _, rfl, ?_⟩
          rw [low_mem]
          cases h3 : lowB ((TL.tl z)[0]) with
          | false =>
            refine iteF ?_
            have q' := q H (Same.refl _)
            unfold nameB at q'
            rw [hh, Option.any_some, h3, Bool.false_and, Bool.and_false] at q'
            exact q'
          | true =>
            refine iteT ⟨_, rfl, _, rfl, fun D hD => ?_⟩
            refine lc_it walk_str (fun i G => Same H G ∧ G D = some (.lst ((((TL.tl z).take i).map fun c => lowB c || digB c).map V.bl))) ⟨Same.put hD, upd_same⟩ (fun _ _ _ _ => trivial) ?_ ?_
            · rintro i x G G' hi ⟨sm, hGD⟩ ⟨rfl, c, hc, rfl⟩
              have hi' : i < (TL.tl z).length := by rw [← hzl]; exact hi
              have hc' : (TL.tl z)[i]? = some c := by rw [← hc]; simp
              have fin : ∃ acc, G' D = some (.lst acc) ∧ acc.length < sizeLine ∧ Same H (upd G' D (.lst (acc ++ [V.bl (lowB c || digB c)]))) ∧ (upd G' D (.lst (acc ++ [V.bl (lowB c || digB c)]))) D = some (.lst ((((TL.tl z).take (i + 1)).map fun c => lowB c || digB c).map V.bl)) := by
                refine ⟨_, hGD, ?_, fun b o e => ?_, ?_⟩
                · rw [List.length_map, List.length_map, List.length_take, PySem.sizeLine_eq]
                  omega
                · rw [upd_ne (ne_of_none e hD)]
                  exact sm b o e
                · rw [upd_same, List.take_add_one, hc']
                  simp
              refine ⟨rfl, _, rfl, c, _, rfl, rfl, _, rfl, ?_⟩
              rw [low_mem]
              cases h4 : lowB c with
              | true =>
                refine iteT ?_
                rw [h4, Bool.true_or] at fin
                exact fin
              | false =>
                refine iteF ⟨_, rfl, c, _, rfl, rfl, ?_⟩
                rw [dig_mem']
                rw [h4, Bool.false_or] at fin
                exact fin
            · rintro G ⟨sm, hGD⟩
              have ez : (TL.tl z).take z.cps.size = TL.tl z := List.take_of_length_le (by rw [← hzl]; exact Nat.le_refl _)
              rw [ez] at hGD
              refine ⟨D, _, rfl, SqL.of hGD, ?_⟩
              have q' := q G sm
              unfold nameB at q'
              rw [hh, Option.any_some, h3, Bool.true_and, decide_eq_true (show 1 ≤ (TL.tl z).length ∧ (TL.tl z).length ≤ 8 from ⟨by omega, by omega⟩), Bool.true_and] at q'
              rw [List.all_map]
              exact q'
        · refine if_true_of (by rw [decide_eq_false h2]; rfl) ?_
          exact bad (by omega)
      · refine ⟨_, rfl, ?_⟩
        exact bad (by have h1' : ¬ (1 : Int) ≤ ((z.length : Nat) : Int) := fun e => h1 (decide_eq_true e); omega)

end
end T10
set_option Elab.async false
set_option linter.all false
set_option maxRecDepth 100000
set_option maxHeartbeats 4000000
/-! networks as data: edges, gates, terms; lists or tuples at any place -/
namespace Tp
open PySem PySem.Spec PyProof.Rows L2
/-- a, b, .. = a list or a tuple of that length -/
def gSeq (K : PySem.W.Frag) (n : Nat) (t : TGs) : TG := fun v σ H Q => gTup K n t v σ H Q ∨ gLst K n t v σ H Q
theorem pg_seq {X : Cx} {pos : Pos} {es : List Expr} {k : Nat} {t : TGs} {n : Nat} (hc : X.calm = true) (h : PGs X es t)
    (hn : (assignEach es X.env).length = n := by rfl) (hst : (assignEach es X.env).findIdx? (·.1) = none := by rfl) : PG X (.Tuple es k pos) (gSeq X.K n t) :=
  ⟨fun pins s σ H v u Q I r hw => hw.elim (fun q => (pg_tup hc h hn hst).run pins s σ H v u Q I r q) fun q => (pg_lst hc h hn hst).run pins s σ H v u Q I r q⟩
theorem pt_truthK {X : Cx} {K : PySem.W.Frag} (h : X.K = K) {a : Expr} {ta : TE} (ha : PE X a ta) (he : ∀ whole, isTrue a X.env whole = (do let v ← whole; standAt a.pos; holding [v] (truthy v))) : PT X a (tTru K ta) := by
  subst h
  exact pt_truth ha he
theorem gSeq_of {K : PySem.W.Frag} {n : Nat} {t : TGs} {a : Addr} {xs : List V} {σ : L2.St} {H : Hp} {Q : L2.St → Hp → Prop} (h : SqA K H a xs) (hl : xs.length = n) (q : t xs σ H Q) : gSeq K n t (.ref a) σ H Q :=
  h.elim (fun h => .inr ⟨a, xs, rfl, h, hl, q⟩) fun h => .inl ⟨a, xs, rfl, h, hl, q⟩
theorem Pd.at {α β : Type} {F : α → β → Prop} : ∀ {xs : List α} {ys : List β} {i : Nat} {x : α}, Paired F xs ys → xs[i]? = some x → ∃ y, ys[i]? = some y ∧ F x y
  | _, _, _, _, .nil, h => by simp at h
  | _, _, 0, _, .cons r _, h => by simp at h; subst h; exact ⟨_, rfl, r⟩
  | _, _, i + 1, x, .cons _ t, h => by
    obtain ⟨y, h1, h2⟩ := Pd.at (i := i) t (by simpa using h)
    exact ⟨y, by simpa using h1, h2⟩
theorem Pd.att {α β : Type} {F : α → β → Prop} : ∀ {xs : List α} {ys : List β} {i : Nat} {y : β}, Paired F xs ys → ys[i]? = some y → ∃ x, xs[i]? = some x ∧ F x y
  | _, _, _, _, .nil, h => by simp at h
  | _, _, 0, _, .cons r _, h => by simp at h; subst h; exact ⟨_, rfl, r⟩
  | _, _, i + 1, y, .cons _ t, h => by
    obtain ⟨x, h1, h2⟩ := Pd.att (i := i) t (by simpa using h)
    exact ⟨x, by simpa using h1, h2⟩
theorem Pd.app {α β : Type} {F : α → β → Prop} : ∀ {a c : List α} {b d : List β}, Paired F a b → Paired F c d → Paired F (a ++ c) (b ++ d)
  | _, _, _, _, .nil, s => s
  | _, _, _, _, .cons r t, s => .cons r (Pd.app t s)
theorem Pd.take {α β : Type} {F : α → β → Prop} : ∀ {a : List α} {b : List β} (n : Nat), Paired F a b → Paired F (a.take n) (b.take n)
  | _, _, 0, _ => .nil
  | _, _, _ + 1, .nil => .nil
  | _, _, n + 1, .cons r t => .cons r (Pd.take n t)
abbrev EdgeK : Type := Str × List Int
abbrev GateK : Type := Str × Str × List EdgeK
section
variable {K : PySem.W.Frag} {H H' : Hp}
/-- what a list may be extended by -/
def SqE (K : PySem.W.Frag) (H : Hp) (a : Addr) (xs : List V) : Prop := H a = some (.lst xs)
theorem SqE.A {a : Addr} {xs : List V} (h : SqE K H a xs) : SqA K H a xs := .inl (SqL.of h)
theorem SqE.up (s : Same H H') {a : Addr} {xs : List V} (h : SqE K H a xs) : SqE K H' a xs := s _ _ h
/-- an edge as it is passed -/
def EdgeD (K : PySem.W.Frag) (H : Hp) (v : V) (e : EdgeK) : Prop := ∃ a b, v = .ref a ∧ SqA K H a [.str e.1, .ref b] ∧ SqE K H b (e.2.map V.int)
def EdgesD (K : PySem.W.Frag) (H : Hp) (x : V) (es : List EdgeK) : Prop := ∃ a vs, x = .ref a ∧ SqE K H a vs ∧ Paired (EdgeD K H) vs es
/-- a term row as it is passed -/
def TermD (K : PySem.W.Frag) (H : Hp) (v : V) (e : EdgeK) : Prop := ∃ a b, v = .ref a ∧ SqA K H a [.str e.1, .ref b] ∧ SqA K H b (e.2.map V.int)
def TermsD (K : PySem.W.Frag) (H : Hp) (x : V) (es : List EdgeK) : Prop := ∃ a vs, x = .ref a ∧ SqA K H a vs ∧ Paired (TermD K H) vs es
def GateD (K : PySem.W.Frag) (H : Hp) (v : V) (g : GateK) : Prop := ∃ a x, v = .ref a ∧ SqA K H a [.str g.1, .str g.2.1, x] ∧ EdgesD K H x g.2.2
def GatesD (K : PySem.W.Frag) (H : Hp) (x : V) (gs : List GateK) : Prop := ∃ a vs, x = .ref a ∧ SqA K H a vs ∧ Paired (GateD K H) vs gs
/-- names, in a list or a tuple -/
def NamesD (K : PySem.W.Frag) (H : Hp) (x : V) (ns : List Str) : Prop := ∃ a, x = .ref a ∧ SqA K H a (ns.map V.str)
theorem EdgeD.up (s : Same H H') {v : V} {e : EdgeK} (h : EdgeD K H v e) : EdgeD K H' v e := let ⟨a, b, h1, h2, h3⟩ := h; ⟨a, b, h1, h2.up s, h3.up s⟩
theorem TermD.up (s : Same H H') {v : V} {e : EdgeK} (h : TermD K H v e) : TermD K H' v e := let ⟨a, b, h1, h2, h3⟩ := h; ⟨a, b, h1, h2.up s, h3.up s⟩
theorem TermsD.up (s : Same H H') {x : V} {es : List EdgeK} (h : TermsD K H x es) : TermsD K H' x es := let ⟨a, vs, h1, h2, h3⟩ := h; ⟨a, vs, h1, h2.up s, Paired.mono (fun _ _ q => q.up s) h3⟩
theorem edges_up (s : Same H H') {vs : List V} {es : List EdgeK} (h : Paired (EdgeD K H) vs es) : Paired (EdgeD K H') vs es := Paired.mono (fun _ _ q => q.up s) h
theorem EdgesD.up (s : Same H H') {x : V} {es : List EdgeK} (h : EdgesD K H x es) : EdgesD K H' x es := let ⟨a, vs, h1, h2, h3⟩ := h; ⟨a, vs, h1, h2.up s, edges_up s h3⟩
theorem GateD.up (s : Same H H') {v : V} {g : GateK} (h : GateD K H v g) : GateD K H' v g := let ⟨a, b, h1, h2, h3⟩ := h; ⟨a, b, h1, h2.up s, h3.up s⟩
theorem GatesD.up (s : Same H H') {x : V} {gs : List GateK} (h : GatesD K H x gs) : GatesD K H' x gs := let ⟨a, vs, h1, h2, h3⟩ := h; ⟨a, vs, h1, h2.up s, Paired.mono (fun _ _ q => q.up s) h3⟩
theorem NamesD.up (s : Same H H') {x : V} {ns : List Str} (h : NamesD K H x ns) : NamesD K H' x ns := let ⟨a, h1, h2⟩ := h; ⟨a, h1, h2.up s⟩
/-- name, symbol, edges = a gate -/
theorem gate_to {G : Hp} (kG : Same H G) {v : V} {g : GateK} (h : GateD K H v g) {i j k n : Nat} (hn : n = 3 := by rfl) {σ : L2.St} {R : L2.St → Hp → Prop} (q : ∀ x, EdgesD K H x g.2.2 → R (((σ.set i (some (.str g.1))).set j (some (.str g.2.1))).set k (some x)) G) :
    gSeq K n (gCons (gName i) (gCons (gName j) (gCons (gName k) gNil))) v σ G R := by
  subst hn
  obtain ⟨a, x, rfl, h1, h2⟩ := h
  exact gSeq_of (h1.up kG) rfl ⟨_, _, rfl, _, _, rfl, _, _, rfl, rfl, q x h2⟩
/-- source, starts = an edge -/
theorem edge_to {G : Hp} (kG : Same H G) {v : V} {e : EdgeK} (h : EdgeD K H v e) {i j n : Nat} (hn : n = 2 := by rfl) {σ : L2.St} {R : L2.St → Hp → Prop} (q : ∀ b, SqE K H b (e.2.map V.int) → R ((σ.set i (some (.str e.1))).set j (some (.ref b))) G) :
    gSeq K n (gCons (gName i) (gCons (gName j) gNil)) v σ G R := by
  subst hn
  obtain ⟨a, b, rfl, h1, h2⟩ := h
  exact gSeq_of (h1.up kG) rfl ⟨_, _, rfl, _, _, rfl, rfl, q b h2⟩
/-- symbol, arguments = a term row -/
theorem term_to {G : Hp} (kG : Same H G) {v : V} {e : EdgeK} (h : TermD K H v e) {i j n : Nat} (hn : n = 2 := by rfl) {σ : L2.St} {R : L2.St → Hp → Prop} (q : ∀ b, SqA K H b (e.2.map V.int) → R ((σ.set i (some (.str e.1))).set j (some (.ref b))) G) :
    gSeq K n (gCons (gName i) (gCons (gName j) gNil)) v σ G R := by
  subst hn
  obtain ⟨a, b, rfl, h1, h2⟩ := h
  exact gSeq_of (h1.up kG) rfl ⟨_, _, rfl, _, _, rfl, rfl, q b h2⟩
def joinedE (gs : List GateK) (os : List EdgeK) : List EdgeK := (gs.flatMap fun g => g.2.2) ++ os
def startsE (gs : List GateK) (os : List EdgeK) : List Int := (joinedE gs os).flatMap fun e => e.2
/-- how much there may be -/
structure Sized (ins : List Str) (gs : List GateK) (os : List EdgeK) (ts : List EdgeK) : Prop where
  nI : ins.length ≤ 1000
  nG : gs.length ≤ 1000
  nO : os.length ≤ 1000
  nT : ts.length ≤ 1000
  nJ : (joinedE gs os).length ≤ 100000
  nS : (startsE gs os).length ≤ 100000
theorem Same.at0 {a : Addr} {o : HO} {G : Hp} (hl : H a = none) (k : Same H G) : Same H (upd G a o) := fun b u e => (upd_ne (ne_of_none e hl)).trans (k b u e)
theorem Same.none {a : Addr} (k : Same H H') (h : H' a = none) : H a = none := by
  cases e : H a with
  | none => rfl
  | some o => rw [k _ _ e] at h; cases h
theorem fm_take {α β : Type} {f : α → List β} {xs : List α} {i : Nat} {x : α} (h : xs[i]? = some x) : (xs.take (i + 1)).flatMap f = (xs.take i).flatMap f ++ f x := by
  rw [List.take_add_one, h]
  simp
theorem fm_le {α β : Type} {f : α → List β} (xs : List α) (i : Nat) : ((xs.take i).flatMap f).length ≤ (xs.flatMap f).length := by
  have e2 : xs.flatMap f = ((xs.take i).flatMap f) ++ ((xs.drop i).flatMap f) := by rw [← List.flatMap_append, List.take_append_drop]
  rw [e2, List.length_append]
  omega
theorem tk_snoc {α : Type} {xs : List α} {i : Nat} {x : α} (h : xs[i]? = some x) : xs.take (i + 1) = xs.take i ++ [x] := by
  rw [List.take_add_one, h]
  rfl
/-- a dict of names, each True -/
def kvN (ks : List Str) : List (Key × V) := ks.map fun n => (Sum.inr n, V.bl true)
theorem valN : ∀ (ks : List Str) (m : Str), valV (kvN ks) (Sum.inr m) = if m ∈ ks then some (V.bl true) else none
  | [], m => rfl
  | k :: ks, m => by
    have ih := valN ks m
    unfold kvN at ih ⊢
    rw [List.map_cons]
    by_cases e : k = m
    · subst e
      rw [valV_pos rfl, if_pos List.mem_cons_self]
    · rw [valV_neg (fun z => e (Sum.inr.inj z)), ih]
      by_cases h : m ∈ ks
      · rw [if_pos h, if_pos (List.mem_cons_of_mem _ h)]
      · rw [if_neg h, if_neg fun h2 => (List.mem_cons.mp h2).elim (fun z => e z.symm) h]
theorem putN {ks : List Str} {m : Str} (h : m ∉ ks) : putK (kvN ks) (Sum.inr m) (V.bl true) = kvN (ks ++ [m]) := by
  rw [putK_new _ (by rw [valN, if_neg h])]
  unfold kvN
  rw [List.map_append]
  rfl
theorem putNs {ks : List Str} {m : Str} (h : m ∈ ks) : putK (kvN ks) (Sum.inr m) (V.bl true) = kvN ks := by
  have e : ((kvN ks).any fun kv => decide (kv.1 = Sum.inr m)) = true := by rw [valV_any, valN, if_pos h]; rfl
  unfold putK
  rw [if_pos e]
  unfold kvN
  rw [List.map_map]
  refine List.map_congr_left fun n _ => ?_
  show (if (Sum.inr n : Key) = Sum.inr m then ((Sum.inr n : Key), V.bl true) else (Sum.inr n, V.bl true)) = _
  by_cases z : (Sum.inr n : Key) = Sum.inr m
  · rw [if_pos z]
  · rw [if_neg z]
/-- the names so far, each once -/
def addN (ks : List Str) (m : Str) : List Str := if m ∈ ks then ks else ks ++ [m]
theorem putA (ks : List Str) (m : Str) : putK (kvN ks) (Sum.inr m) (V.bl true) = kvN (addN ks m) := by
  unfold addN
  by_cases h : m ∈ ks
  · rw [if_pos h, putNs h]
  · rw [if_neg h, putN h]
theorem addN_nodup {ks : List Str} {m : Str} (h : ks.Nodup) : (addN ks m).Nodup := by
  unfold addN
  split
  · exact h
  · rename_i hm
    rw [List.nodup_append]
    refine ⟨h, List.nodup_cons.mpr ⟨List.not_mem_nil, List.nodup_nil⟩, fun a ha b hb e => ?_⟩
    rw [List.mem_singleton.mp hb] at e
    exact hm (e ▸ ha)
theorem mem_addN {ks : List Str} {m n : Str} : n ∈ addN ks m ↔ n ∈ ks ∨ n = m := by
  unfold addN
  split
  · rename_i h
    exact ⟨.inl, fun z => z.elim id fun z => z ▸ h⟩
  · rw [List.mem_append, List.mem_singleton]
theorem addN_len {ks : List Str} {m : Str} : (addN ks m).length ≤ ks.length + 1 := by
  unfold addN
  split
  · omega
  · rw [List.length_append, List.length_singleton]
    omega
def onceN (ns : List Str) : List Str := ns.foldl addN []
theorem once_snoc (ns : List Str) (m : Str) : onceN (ns ++ [m]) = addN (onceN ns) m := by
  unfold onceN
  rw [List.foldl_append]
  rfl
theorem once_go : ∀ (ns ks : List Str), (ks.Nodup → (ns.foldl addN ks).Nodup) ∧ (∀ n, n ∈ ns.foldl addN ks ↔ n ∈ ks ∨ n ∈ ns) ∧ (ns.foldl addN ks).length ≤ ks.length + ns.length
  | [], ks => ⟨id, fun n => ⟨.inl, fun z => z.elim id fun z => nomatch z⟩, Nat.le_refl _⟩
  | m :: ns, ks => by
    obtain ⟨h1, h2, h3⟩ := once_go ns (addN ks m)
    refine ⟨fun h => h1 (addN_nodup h), fun n => ?_, ?_⟩
    · rw [List.foldl_cons, h2, mem_addN, List.mem_cons, or_assoc]
    · rw [List.foldl_cons, List.length_cons]
      have := addN_len (ks := ks) (m := m)
      omega
theorem once_nodup (ns : List Str) : (onceN ns).Nodup := (once_go ns []).1 List.nodup_nil
theorem mem_once {ns : List Str} {n : Str} : n ∈ onceN ns ↔ n ∈ ns := ((once_go ns []).2.1 n).trans ⟨fun z => z.elim (fun z => nomatch z) id, .inr⟩
theorem once_len (ns : List Str) : (onceN ns).length ≤ ns.length := by
  have := (once_go ns []).2.2
  unfold onceN
  simpa using this
theorem kvN_len (ks : List Str) : (kvN ks).length = ks.length := List.length_map ..
theorem kvN_keys (ks : List Str) : (kvN ks).map (fun kv => kV kv.1) = ks.map V.str := by
  unfold kvN
  rw [List.map_map]
  rfl
/-- a dict of names, each with a list of names -/
def LsD (H : Hp) (kvs : List (Key × V)) (F : List (Str × List Str)) : Prop := Paired (fun kv p => kv.1 = Sum.inr p.1 ∧ ∃ a, kv.2 = .ref a ∧ H a = some (.lst (p.2.map V.str))) kvs F
theorem LsD.up (s : Same H H') {kvs : List (Key × V)} {F : List (Str × List Str)} (h : LsD H kvs F) : LsD H' kvs F := by
  refine Paired.mono (fun x y q => ?_) h
  obtain ⟨e, a, e2, h⟩ := q
  exact ⟨e, a, e2, s _ _ h⟩
theorem LsD.val : ∀ {kvs : List (Key × V)} {F : List (Str × List Str)}, LsD H kvs F → ∀ n, (∀ ys, F.lookup n = some ys → ∃ a, valV kvs (Sum.inr n) = some (.ref a) ∧ H a = some (.lst (ys.map V.str))) ∧ (F.lookup n = none → valV kvs (Sum.inr n) = none)
  | _, _, .nil, n => ⟨fun _ h => (nomatch h), fun _ => rfl⟩
  | _, _, .cons (a := kv) (b := p) r t, n => by
    obtain ⟨e, a, e2, h⟩ := r
    obtain ⟨m, ys⟩ := p
    by_cases z : n = m
    · subst z
      have e3 : ∀ l : List (Str × List Str), List.lookup n ((n, ys) :: l) = some ys := fun l => by rw [List.lookup_cons]; simp
      refine ⟨fun ys' h' => ?_, fun h' => ?_⟩
      · rw [e3] at h'
        cases h'
        exact ⟨a, by rw [valV_pos e, e2], h⟩
      · rw [e3] at h'
        cases h'
    · obtain ⟨i1, i2⟩ := LsD.val t n
      have ne : ¬ kv.1 = Sum.inr n := fun w => z (Sum.inr.inj (w.symm.trans e))
      have e3 : ∀ l : List (Str × List Str), List.lookup n ((m, ys) :: l) = List.lookup n l := fun l => by
        rw [List.lookup_cons]
        rw [show (n == m) = false from beq_false_of_ne z]
      refine ⟨fun ys' h' => ?_, fun h' => ?_⟩
      · rw [e3] at h'
        rw [valV_neg ne]
        exact i1 _ h'
      · rw [e3] at h'
        rw [valV_neg ne]
        exact i2 h'
/-- what spreads from some names -/
inductive Spr (B : Str → Prop) (F : Str → List Str) : Str → Prop
  | base {n : Str} (h : B n) : Spr B F n
  | step {m n : Str} (h : Spr B F m) (hn : n ∈ F m) : Spr B F n
theorem LsD.put {d : Addr} {k0 k1 kvs : List (Key × V)} {F : List (Str × List Str)} (h : LsD H kvs F) (e : H d = some (.dK k0)) : LsD (upd H d (.dK k1)) kvs F := by
  refine Paired.mono (fun x y q => ?_) h
  obtain ⟨e1, a, e2, h⟩ := q
  exact ⟨e1, a, e2, (upd_ne fun z => by rw [z, e] at h; cases h).trans h⟩
theorem lookup_none {β : Type} : ∀ {F : List (Str × β)} {n : Str}, n ∉ F.map (·.1) → F.lookup n = none
  | [], _, _ => rfl
  | (m, y) :: F, n, h => by
    rw [List.map_cons, List.mem_cons, not_or] at h
    rw [List.lookup_cons, show (n == m) = false from beq_false_of_ne h.1]
    exact lookup_none h.2
/-- the sources without delays among some names -/
def dirS (ns : List Str) (es : List EdgeK) : List Str := (es.filter fun e => decide (e.1 ∈ ns) && e.2.isEmpty).map (·.1)
def dirF (gs : List GateK) : List (Str × List Str) := gs.map fun g => (g.1, dirS (gs.map (·.1)) g.2.2)
theorem dirS_snoc (ns : List Str) (es : List EdgeK) (e : EdgeK) : dirS ns (es ++ [e]) = dirS ns es ++ (if decide (e.1 ∈ ns) && e.2.isEmpty then [e.1] else []) := by
  unfold dirS
  rw [List.filter_append, List.map_append]
  congr 1
  rw [List.filter_cons]
  split
  · rfl
  · rfl
theorem dirS_len (ns : List Str) (es : List EdgeK) : (dirS ns es).length ≤ es.length := by
  unfold dirS
  rw [List.length_map]
  exact List.length_filter_le _ _
theorem lookup_map {α β : Type} {f : α → Str} {v : α → β} : ∀ {xs : List α} {x : α}, (xs.map f).Nodup → x ∈ xs → (xs.map fun y => (f y, v y)).lookup (f x) = some (v x)
  | [], _, _, h => nomatch h
  | y :: xs, x, hn, h => by
    rw [List.map_cons, List.nodup_cons] at hn
    rw [List.map_cons, List.lookup_cons]
    rcases List.mem_cons.mp h with rfl | h
    · simp
    · have ne : f x ≠ f y := fun z => hn.1 (z ▸ List.mem_map_of_mem h)
      rw [show (f x == f y) = false from beq_false_of_ne ne]
      exact lookup_map hn.2 h
end
end Tp
set_option Elab.async false
set_option linter.all false
set_option maxRecDepth 100000
set_option maxHeartbeats 4000000
/-! the heap without the addresses of a predicate: data that lies apart from all that is changed -/
namespace Tp
open PySem PySem.Spec PyProof.Rows L2
open Classical in
/-- all that is tracked but where S -/
noncomputable def ms (S : Addr → Prop) (G : Hp) : Hp := fun b => if S b then none else G b
section
variable {S S' : Addr → Prop} {p a : Addr} {H G G' : Hp} {o : HO}
theorem ms_some {b : Addr} {u : HO} (e : ms S G b = some u) : ¬ S b ∧ G b = some u := by
  unfold ms at e
  split at e
  · cases e
  · rename_i h
    exact ⟨h, e⟩
theorem ms_at (h : ¬ S a) (e : G a = some o) : ms S G a = some o := by
  unfold ms
  rw [if_neg h]
  exact e
theorem ms_same : Same (ms S G) G := fun b u e => (ms_some e).2
theorem ms_of (h : ∀ b u, ¬ S b → G b = some u → G' b = some u) : Same (ms S G) (ms S G') := fun b u e => ms_at (ms_some e).1 (h b u (ms_some e).1 (ms_some e).2)
theorem ms_up (s : Same G G') : Same (ms S G) (ms S G') := ms_of fun b u _ e => s b u e
theorem ms_keep (hp : S p) (k : Keep p G G') : Same (ms S G) (ms S G') := ms_of fun b u h e => k b u (fun z => h (z ▸ hp)) e
theorem ms_fr {l : List Addr} (hl : ∀ b ∈ l, S b) (k : ∀ b o, b ∉ l → G b = some o → G' b = some o) : Same (ms S G) (ms S G') := ms_of fun b u h e => k b u (fun z => h (hl b z)) e
theorem ms_more (h : ∀ b, S' b → S b) : Same (ms S G) (ms S' G) := fun b u e => ms_at (fun z => (ms_some e).1 (h b z)) (ms_some e).2
theorem ms_put (h : S a) : ms S (upd G a o) = ms S G := by
  funext b
  unfold ms
  split
  · rfl
  · rename_i z
    exact upd_ne fun e => z (e ▸ h)
/-- one more address that is not there -/
theorem ms_to (h : G a = none) : Same (ms S G) (ms (fun b => S b ∨ b = a) G) := fun b u e => ms_at (fun z => z.elim (ms_some e).1 fun z => by have := (ms_some e).2; rw [z, h] at this; cases this) (ms_some e).2
/-- the addresses are all in use -/
def Sub (S : Addr → Prop) (H : Hp) : Prop := ∀ b, S b → H b ≠ none
theorem Sub.up (h : Sub S H) (s : Same H G) : Sub S G := fun b z => by
  obtain ⟨o, e⟩ := Option.ne_none_iff_exists'.mp (h b z)
  rw [s b o e]
  exact nofun
theorem Sub.keep {n : Nat} (h : Sub S H) (hb : BoxAt G p n) (k : Keep p H G) : Sub S G := fun b z => by
  by_cases e : b = p
  · obtain ⟨_, _, _, e1, _⟩ := hb
    rw [e, e1]
    exact nofun
  · obtain ⟨o, e1⟩ := Option.ne_none_iff_exists'.mp (h b z)
    rw [k b o e e1]
    exact nofun
theorem Sub.out (h : Sub S H) (e : H a = none) : ¬ S a := fun z => h a z e
theorem Sub.new {n : Nat} (h : Sub S H) (hb : BoxAt G p n) (k : Keep p H G) (e : G a = none) : ¬ S a := (h.keep hb k).out e
end
end Tp
set_option Elab.async false
set_option linter.all false
set_option maxRecDepth 100000
set_option maxHeartbeats 4000000
namespace T10
open PySem PySem.Spec PyProof.Rows L2 Tp
section
variable {P : Program} {w : World} {K : PySem.W.Frag} {mg : Str → Option Value} {base : Heap} {f : Addr} {fd : FuncData}


theorem hu1 {k : Nat} {A : Around} (hr : Room k A) : A.units + 1 < cLine := by
  have := hr.un
  omega
structure TxtN (mg : Str → Option Value) : Prop where
  list : mg "list" = none
  len : mg "len" = none
  enumerate : mg "enumerate" = none
  tuple : mg "tuple" = none
/-- the edges of all gates and of the outs, in a new list -/
def spJoin (K : PySem.W.Frag) : Sp := fun vs H Q _ => ∃ (H0 : Hp) (x y : V) (gs : List GateK) (os : List EdgeK), vs = [x, y] ∧ Same H0 H ∧ GatesD K H0 x gs ∧ EdgesD K H0 y os ∧ (joinedE gs os).length ≤ 100000 ∧
  ∀ a us H', Same H H' → H' a = some (.lst us) → H a = none → Paired (EdgeD K H0) us (joinedE gs os) → Q (.ref a) H'

abbrev sJe : Stmt := top 24
abbrev nJe : List Str := ["gates", "outs", "found", "_", "edges"]
theorem scJe : FnScope nJe ["gates", "outs"] (defScope sJe) := ⟨rfl, rfl, rfl, by decide +kernel, rfl, by decide +kernel, by decide +kernel⟩

theorem ok_Je (F : Fun K "joined_edges" "joined_edges" sJe f fd) (T : TxtN mg) : FnG P w K mg base CX0 1 f fd ["gates", "outs"] (spJoin K) := by
  refine FunG.ok F scJe (fun vs H Q E h => ?_) (fun cdv B out s H vs Q E hr hG h => ?_)
  · obtain ⟨H0, x, y, gs, os, rfl, _⟩ := h
    rfl
  · obtain ⟨H0, x, y, gs, os, rfl, k0, hx, hy, hl, q⟩ := h
    refine ⟨_, (pss_cons (ps_set (i := 2) scJe.nd rfl (.inl rfl) (pe_lst pa_nil))
      (pss_cons (ps_for PassesOwn.never rfl (pi_seq (pv 0)) (pg_seq rfl (pgs_cons (pg_name (i := 3) scJe.nd rfl (Or.inl rfl)) (pgs_cons (pg_name (i := 3) scJe.nd rfl (Or.inl rfl)) (pgs_cons (pg_name (i := 4) scJe.nd rfl (Or.inl rfl)) pgs_nil)))) (pss_one (ps_expr (pe_bm PySem.F.plainAttrs_list PySem.F.slot_list_extend PySem.F.type_list_extend mt_extend (pv 2) (pa_cons (pv 4) pa_nil)))))
      (pss_one (ps_ret (pe_op op_cat (pv 2) (pe_callTy call_list_of (by rfl) T.list (by decide +kernel) (pa_cons (pv 1) pa_nil))))))), ?_⟩
    refine ⟨(by show 0 ≤ sizeLine; decide), fun l hl0 => ?_⟩
    have k1 : Same H (upd H l (.lst [])) := Same.put hl0
    have h1 : (upd H l (.lst [])) l = some (.lst []) := upd_same
    generalize upd H l (.lst []) = H1 at k1 h1 ⊢
    obtain ⟨a, gv, rfl, ha, hg⟩ := hx
    have hj : (joinedE gs os).length = (gs.flatMap fun g => g.2.2).length + os.length := by unfold joinedE; rw [List.length_append]
    refine ⟨_, rfl, a, rfl, seq_itK (ha.up k0) k1 fun J S wk hS => ?_⟩
    refine for_it wk (fun i σ G => ∃ o3 o4 us, σ = [some (.ref a), some y, some (.ref l), o3, o4] ∧ Same H G ∧ G l = some (.lst us) ∧ Paired (EdgeD K H0) us ((gs.take i).flatMap fun g => g.2.2)) ⟨_, _, [], rfl, k1, h1, .nil⟩ (fun i σ G _ ⟨_, _, us, _, kG, _⟩ => hS G kG) ?_ ?_
    · rintro i v σ G G' hi ⟨o3, o4, us, rfl, kG, gl, pu⟩ ⟨rfl, hv⟩
      obtain ⟨g, hgi, hd⟩ := Pd.at hg hv
      have hs := fm_take (f := fun g : GateK => g.2.2) hgi
      have hle := fm_le (f := fun g : GateK => g.2.2) gs (i + 1)
      rw [hs, List.length_append] at hle
      refine gate_to (Same.tr k0 kG) hd (q := fun x he => ?_)
      obtain ⟨b, es, rfl, hb, hp⟩ := he
      refine ⟨_, rfl, .inl ⟨rfl, _, SqL.of gl⟩, _, rfl, l, b, us, es, rfl, rfl, gl, kG _ _ (k0 _ _ hb), (by rw [pu.length, hp.length, PySem.sizeLine_eq]; omega), ?_⟩
      refine ⟨_, _, us ++ es, rfl, Same.at0 hl0 kG, upd_same, ?_⟩
      rw [hs]
      exact Pd.app pu hp
    · rintro σ G ⟨o3, o4, us, rfl, kG, gl, pu⟩
      obtain ⟨b, vs, rfl, hb, hp⟩ := hy
      rw [hg.length, List.take_length] at pu
      refine ⟨_, rfl, _, rfl, b, vs, rfl, ((hb.up k0).up kG).A, fun m hm => ?_⟩
      refine ⟨l, m, us, vs, rfl, rfl, (upd_ne (ne_of_none gl hm)).trans gl, upd_same, (by rw [pu.length, hp.length, PySem.sizeLine_eq]; omega), fun p hp' => ?_⟩
      have k2 := Same.tr kG (Same.tr (Same.put (o := .lst vs) hm) (Same.put (o := .lst (us ++ vs)) hp'))
      exact q p (us ++ vs) _ k2 upd_same (Same.none (Same.tr kG (Same.put hm)) hp') (Pd.app pu hp)

/-- all starts, in a new list -/
def spStarts (K : PySem.W.Frag) : Sp := fun vs H Q _ => ∃ (H0 : Hp) (x y : V) (gs : List GateK) (os : List EdgeK), vs = [x, y] ∧ Same H0 H ∧ GatesD K H0 x gs ∧ EdgesD K H0 y os ∧ (joinedE gs os).length ≤ 100000 ∧ (startsE gs os).length ≤ 100000 ∧
  ∀ a H', Same H H' → H' a = some (.lst ((startsE gs os).map V.int)) → H a = none → Q (.ref a) H'

abbrev sAs : Stmt := top 25
abbrev nAs : List Str := ["gates", "outs", "found", "_", "starts"]
theorem scAs : FnScope nAs ["gates", "outs"] (defScope sAs) := ⟨rfl, rfl, rfl, by decide +kernel, rfl, by decide +kernel, by decide +kernel⟩

theorem ok_As (F : Fun K "all_starts" "all_starts" sAs f fd) (CJ : Cg P w K mg base 1 "joined_edges" (spJoin K)) : FnG P w K mg base CX0 2 f fd ["gates", "outs"] (spStarts K) := by
  refine FunG.ok F scAs (fun vs H Q E h => ?_) (fun cdv B out s H vs Q E hr hG h => ?_)
  · obtain ⟨H0, x, y, gs, os, rfl, _⟩ := h
    rfl
  · obtain ⟨H0, x, y, gs, os, rfl, k0, hx, hy, hl, hs, q⟩ := h
    refine ⟨_, (pss_cons (ps_set (i := 2) scAs.nd rfl (.inl rfl) (pe_lst pa_nil))
      (pss_cons (ps_for PassesOwn.never rfl (pi_list (pe_g CJ hr hG (by decide) (by rfl) (pa_cons (pv 0) (pa_cons (pv 1) pa_nil)))) (pg_seq rfl (pgs_cons (pg_name (i := 3) scAs.nd rfl (Or.inl rfl)) (pgs_cons (pg_name (i := 4) scAs.nd rfl (Or.inl rfl)) pgs_nil))) (pss_one (ps_expr (pe_bm PySem.F.plainAttrs_list PySem.F.slot_list_extend PySem.F.type_list_extend mt_extend (pv 2) (pa_cons (pv 4) pa_nil)))))
      (pss_one (ps_ret (pv 2))))), ?_⟩
    refine ⟨(by show 0 ≤ sizeLine; decide), fun l hl0 => ?_⟩
    have k1 : Same H (upd H l (.lst [])) := Same.put hl0
    have h1 : (upd H l (.lst [])) l = some (.lst []) := upd_same
    generalize upd H l (.lst []) = H1 at k1 h1 ⊢
    refine ⟨_, rfl, _, rfl, H0, x, y, gs, os, rfl, Same.tr k0 k1, hx, hy, hl, fun a us H2 k2 h2 n2 pu => ?_⟩
    have k12 := Same.tr k1 k2
    have nla : a ≠ l := fun z => by rw [z, h1] at n2; cases n2
    refine ⟨a, rfl, ⟨us, SqL.of h2⟩, for_it (walk_list (xs := us)) (fun i σ G => ∃ o3 o4, σ = [some x, some y, some (.ref l), o3, o4] ∧ Same H G ∧ G a = some (.lst us) ∧ G l = some (.lst ((((joinedE gs os).take i).flatMap fun e => e.2).map V.int))) ⟨_, _, rfl, k12, h2, k2 _ _ h1⟩ (fun i σ G _ ⟨_, _, _, _, ga, _⟩ => SqL.of ga) ?_ ?_⟩
    · rintro i v σ G G' hi ⟨o3, o4, rfl, kG, ga, gl⟩ ⟨rfl, hv⟩
      obtain ⟨e, hei, hd⟩ := Pd.at pu hv
      have hs2 := fm_take (f := fun e : EdgeK => e.2) hei
      have hle := fm_le (f := fun e : EdgeK => e.2) (joinedE gs os) (i + 1)
      rw [hs2, List.length_append] at hle
      have hs3 : ((joinedE gs os).flatMap fun e => e.2).length ≤ 100000 := hs
      refine edge_to (Same.tr k0 kG) hd (q := fun b hb => ?_)
      refine ⟨_, rfl, .inl ⟨rfl, _, SqL.of gl⟩, _, rfl, l, b, _, _, rfl, rfl, gl, kG _ _ (k0 _ _ hb), (by rw [List.length_map, List.length_map, PySem.sizeLine_eq]; omega), ?_⟩
      refine ⟨_, _, rfl, Same.at0 hl0 kG, (upd_ne nla).trans ga, ?_⟩
      rw [upd_same, hs2, List.map_append]
    · rintro σ G ⟨o3, o4, rfl, kG, ga, gl⟩
      rw [pu.length, List.take_length] at gl
      exact ⟨_, rfl, q l G kG gl hl0⟩
end
end T10
set_option Elab.async false
set_option linter.all false
set_option maxRecDepth 100000
set_option maxHeartbeats 4000000
namespace T10
open PySem PySem.Spec PyProof.Rows L2 Tp
section
variable {P : Program} {w : World} {K : PySem.W.Frag} {mg : Str → Option Value} {base : Heap} {f : Addr} {fd : FuncData}


/-- for each gate its sources without delays, in a new dict of new lists -/
def spDir (K : PySem.W.Frag) : Sp := fun vs H Q _ => ∃ (H0 : Hp) (x : V) (gs : List GateK), vs = [x] ∧ Same H0 H ∧ GatesD K H0 x gs ∧ (gs.map (·.1)).Nodup ∧ gs.length ≤ 1000 ∧ (∀ g ∈ gs, g.2.2.length ≤ 1000) ∧
  ∀ d kvs H', Same H H' → H d = none → H' d = some (.dK kvs) → LsD H' kvs (dirF gs) → Q (.ref d) H'

abbrev sDs : Stmt := top 27
abbrev nDs : List Str := ["gates", "name", "_", "names", "found", "edges", "source", "starts"]
theorem scDs : FnScope nDs ["gates"] (defScope sDs) := ⟨rfl, rfl, rfl, by decide +kernel, rfl, by decide +kernel, by decide +kernel⟩

theorem ok_Ds (F : Fun K "_direct_sources" "_direct_sources" sDs f fd) : FnG P w K mg base CX0 1 f fd ["gates"] (spDir K) := by
  refine FunG.ok F scDs (fun vs H Q E h => ?_) (fun cdv B out s H vs Q E hr hG h => ?_)
  · obtain ⟨H0, x, gs, rfl, _⟩ := h
    rfl
  · obtain ⟨H0, x, gs, rfl, k0, hx, nd, hl, he3, q⟩ := h
    refine ⟨_, (pss_cons (ps_set (i := 3) scDs.nd rfl (.inr rfl) (pe_dc (own := [("name", 1), ("_", 2), ("_", 2)]) (g := gSeq K 3 (gCons (gName 1) (gCons (gName 2) (gCons (gName 2) gNil)))) (tt := tYes) rfl scDs.nd (pi_seq (pv 0)) (blkOk_by (N := nDs) (sc := defScope sDs) (by decide +kernel)) (fun _ _ _ _ _ => pg_seq rfl (pgs_cons (pg_name (i := 1) scDs.nd rfl (Or.inl rfl)) (pgs_cons (pg_name (i := 2) scDs.nd rfl (Or.inl rfl)) (pgs_cons (pg_name (i := 2) scDs.nd rfl (Or.inl rfl)) pgs_nil)))) (fun _ _ _ _ _ => pts_nil) (fun _ _ _ _ _ => (pv 1)) (fun _ _ _ _ _ => pe_bl)))
      (pss_cons (ps_set (i := 4) scDs.nd rfl (.inl rfl) pe_dnewK)
      (pss_cons (ps_for PassesOwn.never rfl (pi_seq (pv 0)) (pg_seq rfl (pgs_cons (pg_name (i := 1) scDs.nd rfl (Or.inl rfl)) (pgs_cons (pg_name (i := 2) scDs.nd rfl (Or.inl rfl)) (pgs_cons (pg_name (i := 5) scDs.nd rfl (Or.inl rfl)) pgs_nil)))) (pss_one (ps_dput (hu1 hr) (pv 4) (pv 1) (pe_lc (own := [("source", 6), ("starts", 7)]) (g := gSeq K 2 (gCons (gName 6) (gCons (gName 7) gNil))) rfl scDs.nd (pi_seq (pv 5)) (blkOk_by (N := nDs) (sc := defScope sDs) (by decide +kernel)) (fun _ _ _ _ _ => pg_seq rfl (pgs_cons (pg_name (i := 6) scDs.nd rfl (Or.inl rfl)) (pgs_cons (pg_name (i := 7) scDs.nd rfl (Or.inl rfl)) pgs_nil))) (fun _ _ _ _ _ => (pts_one (PW.pt (pw_and (pt_cmp (pc_din (hu1 hr) (pv 6) (pv 3))) (pw_and1 (pt_not (pt_truthK (K := K) rfl (pv 7) (by intro _; rfl)))))))) (fun _ _ _ _ _ => (pv 6))) rfl)))
      (pss_one (ps_ret (pv 4)))))), ?_⟩
    obtain ⟨a, gv, rfl, ha, hg⟩ := hx
    refine ⟨_, rfl, a, rfl, seq_itK (ha.up k0) (Same.refl _) fun J S wk hS => fun D hD => dc_it wk (fun i G => Same H G ∧ G D = some (.dK (kvN (onceN ((gs.take i).map (·.1)))))) ⟨Same.put hD, upd_same⟩ (fun i G _ h => hS G h.1) ?_ ?_⟩
    · rintro i v G G' hi ⟨kG, gD⟩ ⟨rfl, hv⟩
      obtain ⟨g, hgi, hd⟩ := Pd.at hg hv
      refine gate_to (Same.tr k0 kG) hd (q := fun x he => ⟨rfl, _, rfl, _, Sum.inr g.1, rfl, gD, ?_, ?_⟩)
      · rw [kvN_len, PySem.sizeLine_eq]
        have := once_len ((gs.take i).map (·.1))
        rw [List.length_map, List.length_take] at this
        omega
      · rw [putA, ← once_snoc]
        refine ⟨Same.at0 hD kG, ?_⟩
        rw [upd_same, tk_snoc hgi, List.map_append]
        rfl
    · rintro G1 ⟨k1, g1⟩
      rw [hg.length, List.take_length] at g1
      refine fun d hd => ?_
      have k2 : Same G1 (upd G1 d (.dK [])) := Same.put hd
      have h2 : (upd G1 d (.dK [])) d = some (.dK []) := upd_same
      have n2 := k2 _ _ g1
      generalize upd G1 d (.dK []) = G2 at k2 h2 n2 ⊢
      have k02 := Same.tr k1 k2
      have hdH := Same.none k1 hd
      have nDd : D ≠ d := ne_of_none g1 hd
      dsimp only [gName]
      refine ⟨_, rfl, a, rfl, seq_itK (ha.up k0) k02 fun J S wk hS => ?_⟩
      refine for_it wk (fun i σ G => ∃ o1 o2 o5 kvs, σ = [some (.ref a), o1, o2, some (.ref D), some (.ref d), o5, none, none] ∧ Same H G ∧ G D = some (.dK (kvN (onceN (gs.map (·.1))))) ∧ G d = some (.dK kvs) ∧ LsD G kvs ((dirF gs).take i)) ⟨_, _, _, [], rfl, k02, n2, h2, .nil⟩ (fun i σ G _ ⟨_, _, _, _, _, kG, _⟩ => hS G kG) ?_ ?_
      · rintro i v σ G G' hi ⟨o1, o2, o5, kvs, rfl, kG, gn, gd, hk⟩ ⟨rfl, hv⟩
        obtain ⟨g, hgi, hdd⟩ := Pd.at hg hv
        have hgm : g ∈ gs := List.mem_of_getElem? hgi
        have hig : i < gs.length := (List.getElem?_eq_some_iff.mp hgi).1
        refine gate_to (Same.tr k0 kG) hdd (q := fun x he => ?_)
        obtain ⟨b, es, rfl, hb, hp⟩ := he
        have hbG := (hb.up (Same.tr k0 kG)).A
        refine ⟨_, rfl, b, rfl, seq_itK hbG (Same.refl _) fun J S wk hS => fun D2 hD2 => lc_it wk (fun j M => Same G' M ∧ M D2 = some (.lst ((dirS (gs.map (·.1)) (g.2.2.take j)).map V.str))) ⟨Same.put hD2, upd_same⟩ (fun j M _ h => hS M h.1) ?_ ?_⟩
        · rintro j v2 M M' hj ⟨kM, md⟩ ⟨rfl, hv2⟩
          obtain ⟨e, hej, hed⟩ := Pd.at hp hv2
          have hle := dirS_len (gs.map (·.1)) (g.2.2.take j)
          rw [List.length_take] at hle
          have h3 := he3 g hgm
          have hsn : dirS (gs.map (·.1)) (g.2.2.take (j + 1)) = dirS (gs.map (·.1)) (g.2.2.take j) ++ (if decide (e.1 ∈ gs.map (·.1)) && e.2.isEmpty then [e.1] else []) := by
            rw [tk_snoc hej, dirS_snoc]
          refine edge_to (Same.tr k0 (Same.tr kG kM)) hed (q := fun b2 hb2 => ⟨rfl, ?_⟩)
          have hb2M := hb2.up (Same.tr k0 (Same.tr kG kM))
          refine ⟨_, rfl, _, rfl, D, _, rfl, DGet.k (kM _ _ gn) (k := Sum.inr e.1), _, rfl, ?_⟩
          rw [valN]
          by_cases hm : e.1 ∈ onceN (gs.map (·.1))
          · have hm' := mem_once.mp hm
            rw [if_pos hm]
            refine iteT ?_
            refine ⟨_, rfl, _, .inl ⟨_, SqL.of hb2M, rfl⟩, ?_⟩
            cases he2 : e.2 with
            | nil =>
              rw [he2] at hsn
              rw [decide_eq_true hm'] at hsn
              refine iteT ?_
              refine ⟨_, rfl, _, md, (by rw [List.length_map, PySem.sizeLine_eq]; omega), Same.at0 hD2 kM, ?_⟩
              rw [upd_same, hsn, List.map_append]
              rfl
            | cons c cs =>
              rw [he2, List.isEmpty_cons, Bool.and_false] at hsn
              refine iteF ?_
              refine ⟨kM, ?_⟩
              rw [hsn, md]
              simp
          · have hm' : e.1 ∉ gs.map (·.1) := fun z => hm (mem_once.mpr z)
            rw [if_neg hm]
            rw [decide_eq_false hm', Bool.false_and] at hsn
            refine iteF ?_
            refine iteF ?_
            refine ⟨kM, ?_⟩
            rw [hsn, md]
            simp
        · rintro M ⟨kM, md⟩
          rw [hp.length, List.take_length] at md
          have kvl := hk.length
          rw [List.length_take] at kvl
          have hnn : valV kvs (Sum.inr g.1) = none := by
            refine (hk.val g.1).2 (lookup_none fun z => ?_)
            unfold dirF at z
            rw [← List.map_take, List.map_map] at z
            obtain ⟨g2, hg2, e2⟩ := List.mem_map.mp z
            obtain ⟨j, hj, ej⟩ := List.getElem_of_mem hg2
            rw [List.length_take] at hj
            rw [List.getElem_take] at ej
            have hi1 : (gs.map (·.1))[i]? = some g.1 := by rw [List.getElem?_map, hgi]; rfl
            have hj1 : (gs.map (·.1))[j]? = some g.1 := by
              rw [List.getElem?_map, List.getElem?_eq_getElem (by omega), ej]
              exact congrArg some e2
            have := (List.getElem?_inj (by rw [List.length_map]; omega) nd).mp (hj1.trans hi1.symm)
            omega
          refine ⟨_, rfl, _, rfl, d, _, rfl, DPut.k (kM _ _ gd) (k := Sum.inr g.1) (by rw [PySem.sizeLine_eq]; omega), ?_⟩
          rw [putK_new _ hnn]
          refine ⟨_, _, _, _, rfl, Same.at0 hdH (Same.tr kG kM), (upd_ne nDd).trans (kM _ _ gn), upd_same, ?_⟩
          have hF : (dirF gs).take (i + 1) = (dirF gs).take i ++ [(g.1, dirS (gs.map (·.1)) g.2.2)] := tk_snoc (by unfold dirF; rw [List.getElem?_map, hgi]; rfl)
          rw [hF]
          refine Paired.snoc ((hk.up kM).put (kM _ _ gd)) ⟨rfl, D2, rfl, ?_⟩
          have ne : D2 ≠ d := fun z => by rw [z, gd] at hD2; cases hD2
          exact (upd_ne ne).trans md
      · rintro σ G ⟨o1, o2, o5, kvs, rfl, kG, gn, gd, hk⟩
        have hlen : gs.length = (dirF gs).length := by unfold dirF; rw [List.length_map]
        rw [hg.length, hlen, List.take_length] at hk
        exact ⟨_, rfl, q d kvs G kG hdH gd hk⟩
end
end T10
set_option Elab.async false
set_option linter.all false
set_option maxRecDepth 100000
set_option maxHeartbeats 4000000
namespace T10
open PySem PySem.Spec PyProof.Rows L2 Tp
section
variable {P : Program} {w : World} {K : PySem.W.Frag} {mg : Str → Option Value} {base : Heap} {f : Addr} {fd : FuncData}


def muW : L2.St → Hp → Nat := fun σ _ => match σ[4]? with
  | some (some (V.int n)) => (5000 - n).toNat
  | _ => 0
/-- all gates can be worked out: a rank -/
def Rank (gs : List GateK) (rk : Str → Nat) : Prop := ∀ g ∈ gs, ∀ s ∈ dirS (gs.map (·.1)) g.2.2, rk s < rk g.1
/-- the names of all gates, in some order, in a new list -/
def spWork (K : PySem.W.Frag) : Sp := fun vs H Q _ => ∃ (H0 : Hp) (x : V) (gs : List GateK) (rk : Str → Nat), vs = [x] ∧ Same H0 H ∧ GatesD K H0 x gs ∧ (gs.map (·.1)).Nodup ∧ gs.length ≤ 1000 ∧ (∀ g ∈ gs, g.2.2.length ≤ 1000) ∧ Rank gs rk ∧
  ∀ (a : Addr) (ws : List Str) (H' : Hp), Same H H' → H a = none → H' a = some (.lst (ws.map V.str)) → ws.length ≤ 1000 → (∀ g ∈ gs, g.1 ∈ ws) → Q (.ref a) H'
theorem nodup_le {ks ns : List Str} (h : ks.Nodup) (hs : ∀ k ∈ ks, k ∈ ns) : ks.length ≤ ns.length := by
  have : ∀ (ks ns : List Str), ks.Nodup → (∀ k ∈ ks, k ∈ ns) → ks.length ≤ ns.length := by
    intro ks
    induction ks with
    | nil => intro ns _ _; exact Nat.zero_le _
    | cons k ks ih =>
      intro rs hn h
      obtain ⟨a, b, e⟩ := List.append_of_mem (h k List.mem_cons_self)
      have hk := List.nodup_cons.mp hn
      have := ih (a ++ b) hk.2 fun j hj => by
        have hj2 := h j (List.mem_cons_of_mem _ hj)
        rw [e] at hj2
        rcases List.mem_append.mp hj2 with z | z
        · exact List.mem_append_left _ z
        · rcases List.mem_cons.mp z with z | z
          · exact absurd (z ▸ hj) hk.1
          · exact List.mem_append_right _ z
      rw [e, List.length_append, List.length_cons, List.length_cons]
      rw [List.length_append] at this
      omega
  exact this ks ns h hs
theorem dirF_at {gs : List GateK} (nd : (gs.map (·.1)).Nodup) {g : GateK} (hg : g ∈ gs) : (dirF gs).lookup g.1 = some (dirS (gs.map (·.1)) g.2.2) := lookup_map (f := fun g : GateK => g.1) (v := fun g => dirS (gs.map fun y : GateK => y.1) g.2.2) nd hg
theorem lsd_keys : ∀ {H : Hp} {kvs : List (Key × V)} {F : List (Str × List Str)}, LsD H kvs F → kvs.map (fun kv => kV kv.1) = (F.map (·.1)).map V.str
  | _, _, _, .nil => rfl
  | _, _, _, .cons r t => by rw [List.map_cons, List.map_cons, List.map_cons, lsd_keys t, r.1]; rfl
theorem dirF_keys (gs : List GateK) : (dirF gs).map (·.1) = gs.map (·.1) := by
  unfold dirF
  rw [List.map_map]
  rfl
/-- all that waits is placed in the end -/
theorem rank_all {gs : List GateK} {rk : Str → Nat} (R : Rank gs rk) {ks : List Str} (h : ∀ g ∈ gs, (∀ s ∈ dirS (gs.map (·.1)) g.2.2, s ∈ ks) → g.1 ∈ ks) : ∀ (n : Nat) (g : GateK), g ∈ gs → rk g.1 < n → g.1 ∈ ks
  | 0, _, _, h0 => absurd h0 (Nat.not_lt_zero _)
  | n + 1, g, hg, hn => by
    refine h g hg fun s hs => ?_
    have hs2 : s ∈ gs.map (·.1) := by
      unfold dirS at hs
      obtain ⟨e, he, rfl⟩ := List.mem_map.mp hs
      have := (List.mem_filter.mp he).2
      rw [Bool.and_eq_true] at this
      exact of_decide_eq_true this.1
    obtain ⟨g2, hg2, rfl⟩ := List.mem_map.mp hs2
    exact rank_all R h n g2 hg2 (by have := R g hg _ hs; omega)
/-- what stands at each turn: what is placed, what waits -/
structure WoI (gs : List GateK) (ks ws : List Str) (n : Int) : Prop where
  kn : ks.Nodup
  kg : ∀ k ∈ ks, k ∈ gs.map (·.1)
  wg : ∀ k ∈ ws, k ∈ gs.map (·.1)
  al : ∀ g ∈ gs, g.1 ∈ ks ∨ g.1 ∈ ws
  wl : ws.length ≤ gs.length
  nn : (n = -1 ∧ ks = []) ∨ ∃ kb more : List Str, n = kb.length ∧ ks = kb ++ more ∧ ∀ g ∈ gs, (∀ s ∈ dirS (gs.map (·.1)) g.2.2, s ∈ kb) → g.1 ∈ ks

abbrev sWo : Stmt := top 26
abbrev nWo : List Str := ["gates", "direct", "placed", "waiting", "many", "name", "source"]
theorem scWo : FnScope nWo ["gates"] (defScope sWo) := ⟨rfl, rfl, rfl, by decide +kernel, rfl, by decide +kernel, by decide +kernel⟩

theorem ok_Wo (F : Fun K "working_order" "working_order" sWo f fd) (T : TxtN mg) (TV : TxtV mg) (CD : Cg P w K mg base 1 "_direct_sources" (spDir K)) : FnG P w K mg base CX0 2 f fd ["gates"] (spWork K) := by
  refine FunG.ok F scWo (fun vs H Q E h => ?_) (fun cdv B out s H vs Q E hr hG h => ?_)
  · obtain ⟨H0, x, gs, rk, rfl, _⟩ := h
    rfl
  · obtain ⟨H0, x, gs, rk, rfl, k0, hx, nd, hl, he3, hR, q⟩ := h
    refine ⟨_, (pss_cons (ps_set (i := 1) scWo.nd rfl (.inl rfl) (pe_g CD hr hG (by decide) (by rfl) (pa_cons (pv 0) pa_nil)))
      (pss_cons (ps_set (i := 2) scWo.nd rfl (.inr rfl) pe_dnewK)
      (pss_cons (ps_set (i := 3) scWo.nd rfl (.inl rfl) (pe_callTy (call_list_dK rfl) (by rfl) T.list (by decide +kernel) (pa_cons (pv 1) pa_nil)))
      (pss_cons (ps_set (i := 4) scWo.nd rfl (.inl rfl) (pe_un un_neg pe_int))
      (pss_cons (ps_while PassesOwn.never (pt_cmpR op_gt (pe_callB call_lenD (by rfl) T.len PySem.boot_len (pa_cons (pv 2) pa_nil)) (pv 4) (nomark _)) (pss_cons (ps_set (i := 4) scWo.nd rfl (.inl rfl) (pe_callB call_lenD (by rfl) T.len PySem.boot_len (pa_cons (pv 2) pa_nil)))
        (pss_cons (ps_for PassesOwn.never rfl (pi_list (pv 3)) (pg_name (i := 5) scWo.nd rfl (Or.inl rfl)) (pss_one (ps_if (pt_val (pe_callB (cr_all rfl) (by rfl) TV.all (by decide +kernel) (pa_cons (pe_lc (own := [("source", 6)]) (g := gName 6) (tt := tYes) rfl scWo.nd (pi_list (pe_dget (hu1 hr) (pv 1) (pv 5) (fun _ _ => rfl))) (blkOk_by (N := nWo) (sc := defScope sWo) (by decide +kernel)) (fun _ _ _ _ _ => pg_name (i := 6) scWo.nd rfl (Or.inl rfl)) (fun _ _ _ _ _ => pts_nil) (fun _ _ _ _ _ => (pe_cmp (pc_din (hu1 hr) (pv 6) (pv 2))))) pa_nil))) (pss_one (ps_dput (hu1 hr) (pv 2) (pv 5) pe_bl rfl)) pss_nil)))
        (pss_one (ps_setLc (i := 3) (own := [("name", 5)]) (g := gName 5) rfl scWo.nd rfl rfl (sw_true rfl rfl rfl (by decide +kernel)) (pi_list (pv 3)) (blkOk_by (N := nWo) (sc := defScope sWo) (by decide +kernel)) (fun _ _ _ _ _ => pg_name (i := 5) scWo.nd rfl (Or.inl rfl)) (fun _ _ _ _ _ => (pts_one (pt_cmp (pc_dnotin (hu1 hr) (pv 5) (pv 2))))) (fun _ _ _ _ _ => (pv 5)))))))
      (pss_one (ps_ret (pe_callTy (call_list_dK rfl) (by rfl) T.list (by decide +kernel) (pa_cons (pv 2) pa_nil))))))))), ?_⟩
    refine ⟨_, rfl, H0, x, gs, rfl, k0, hx, nd, hl, he3, fun d kvs H1 k1 nd1 h1 hk => ?_⟩
    refine fun e he => ?_
    have k2 : Same H1 (upd H1 e (.dK [])) := Same.put he
    have e2 : (upd H1 e (.dK [])) e = some (.dK (kvN [])) := upd_same
    have d2 := k2 _ _ h1
    have hk2 := hk.up k2
    generalize upd H1 e (.dK []) = H2 at k2 e2 d2 hk2 ⊢
    refine ⟨_, rfl, d, kvs, rfl, d2, fun v hv => ?_⟩
    have k3 : Same H2 (upd H2 v (.lst (kvs.map fun kv => kV kv.1))) := Same.put hv
    have v3 : (upd H2 v (.lst (kvs.map fun kv => kV kv.1))) v = some (.lst ((gs.map (·.1)).map V.str)) := by
      rw [upd_same, lsd_keys hk, dirF_keys]
    have e3 := k3 _ _ e2
    have d3 := k3 _ _ d2
    have hk3 := hk2.up k3
    generalize upd H2 v (.lst (kvs.map fun kv => kV kv.1)) = H3 at k3 v3 e3 d3 hk3 ⊢
    refine ⟨_, rfl, ?_⟩
    have kk := Same.tr k1 (Same.tr k2 k3)
    have eH : H e = none := Same.none k1 he
    have nde : d ≠ e := ne_of_none h1 he
    refine while_by (fun σ G => Same H G ∧ ∃ (n : Int) (u : Addr) (ks ws : List Str) (o5 : Option V), WoI gs ks ws n ∧ G d = some (.dK kvs) ∧ LsD G kvs (dirF gs) ∧ G e = some (.dK (kvN ks)) ∧ G u = some (.lst (ws.map V.str)) ∧ σ = [some x, some (.ref d), some (.ref e), some (.ref u), some (.int n), o5, none]) muW ⟨kk, -1, v, [], gs.map (·.1), none, ⟨List.nodup_nil, fun _ h => (nomatch h), fun _ h => h, fun g hg => .inr (List.mem_map_of_mem hg), by rw [List.length_map]; exact Nat.le_refl _, .inl ⟨rfl, rfl⟩⟩, d3, hk3, e3, v3, rfl⟩ ?_ (fun σ H Q Q' hq ⟨v, e1, a, kvs, e2, e3, v', e4, i, j, e5, e6, b, e7, q⟩ => ⟨v, e1, a, kvs, e2, e3, v', e4, i, j, e5, e6, b, e7, hq _ _ q⟩)
    rintro σ G ⟨kG, n, u, ks, ws, o5, I, gd, hkG, ge, gu, rfl⟩
    have hkl : ks.length ≤ gs.length := by
      have := nodup_le I.kn I.kg
      rwa [List.length_map] at this
    refine ⟨_, rfl, e, kvN ks, rfl, ge, _, rfl, _, _, rfl, rfl, _, rfl, ?_⟩
    rw [kvN_len]
    refine ite2 (fun hlt => ?_) (fun hge => ?_)
    · have hlt' : (n : Int) < (ks.length : Nat) := of_decide_eq_true hlt
      refine ⟨_, rfl, e, kvN ks, rfl, ge, ?_⟩
      rw [kvN_len]
      have ude : u ≠ e := fun z => by rw [z, ge] at gu; cases gu
      refine ⟨_, rfl, u, rfl, ⟨_, SqL.of gu⟩, for_it (walk_list (xs := ws.map V.str)) (fun i σ M => ∃ o5 ks', σ = [some x, some (.ref d), some (.ref e), some (.ref u), some (.int (ks.length : Nat)), o5, none] ∧ Same H M ∧ M d = some (.dK kvs) ∧ LsD M kvs (dirF gs) ∧ M e = some (.dK (kvN ks')) ∧ M u = some (.lst (ws.map V.str)) ∧ ks'.Nodup ∧ (∀ k ∈ ks', k ∈ gs.map (·.1)) ∧ (∃ more, ks' = ks ++ more) ∧ ∀ g ∈ gs, g.1 ∈ ws.take i → (∀ s ∈ dirS (gs.map (·.1)) g.2.2, s ∈ ks) → g.1 ∈ ks') ⟨_, ks, rfl, kG, gd, hkG, ge, gu, I.kn, I.kg, ⟨[], (List.append_nil _).symm⟩, fun g _ h => by rw [List.take_zero] at h; cases h⟩ (fun i σ M _ ⟨_, _, _, _, _, _, _, mu, _⟩ => SqL.of mu) ?_ ?_⟩
      · rintro i v2 σ M M' hi ⟨o5, ks', rfl, kM, md, hkM, me, mu, kn', kg', ⟨more, hmore⟩, hcl⟩ ⟨rfl, hv2⟩
        rw [List.getElem?_map] at hv2
        obtain ⟨m, hm, rfl⟩ := Option.map_eq_some_iff.mp hv2
        have hmg : m ∈ gs.map (·.1) := I.wg m (List.mem_of_getElem? hm)
        obtain ⟨g, hg, rfl⟩ := List.mem_map.mp hmg
        obtain ⟨b, hvb, hb⟩ := (hkM.val g.1).1 _ (dirF_at nd hg)
        have dlen := dirS_len (gs.map (·.1)) g.2.2
        have h3 := he3 g hg
        have hkl' : ks'.length ≤ gs.length := by
          have := nodup_le kn' kg'
          rwa [List.length_map] at this
        refine ⟨_, rfl, _, rfl, d, .ref b, rfl, (by rw [← hvb]; exact DGet.k md (k := Sum.inr g.1)), b, rfl, ⟨_, SqL.of hb⟩, fun D hD => ?_⟩
        refine lc_it (walk_list (xs := (dirS (gs.map (·.1)) g.2.2).map V.str)) (fun j N => Same M' N ∧ N D = some (.lst ((((dirS (gs.map (·.1)) g.2.2).take j).map fun s => decide (s ∈ ks')).map V.bl))) ⟨Same.put hD, upd_same⟩ (fun j N _ h => SqL.of (h.1 _ _ hb)) ?_ ?_
        · rintro j v3 N N' hj ⟨kN, nD⟩ ⟨rfl, hv3⟩
          rw [List.getElem?_map] at hv3
          obtain ⟨s, hs, rfl⟩ := Option.map_eq_some_iff.mp hv3
          refine ⟨rfl, _, rfl, _, rfl, e, _, rfl, DGet.k (kN _ _ me) (k := Sum.inr s), _, nD, (by rw [List.length_map, List.length_map, List.length_take, PySem.sizeLine_eq]; omega), Same.at0 hD kN, ?_⟩
          rw [upd_same, tk_snoc hs, List.map_append, List.map_append, valN]
          by_cases z : s ∈ ks'
          · rw [if_pos z, List.map_singleton, decide_eq_true z]
            rfl
          · rw [if_neg z, List.map_singleton, decide_eq_false z]
            rfl
        · rintro N ⟨kN, nD⟩
          rw [List.length_map, List.take_length] at nD
          refine ⟨D, _, rfl, SqL.of nD, _, rfl, ?_⟩
          have ued : u ≠ e := ude
          refine ite2 (fun ha => ?_) (fun ha => ?_)
          · rw [List.all_map, List.all_eq_true] at ha
            refine ⟨_, rfl, _, rfl, e, _, rfl, DPut.k (kN _ _ me) (k := Sum.inr g.1) (by rw [kvN_len, PySem.sizeLine_eq]; omega), ?_⟩
            rw [putA]
            have kE : Same H (upd N e (.dK (kvN (addN ks' g.1)))) := Same.at0 eH (Same.tr kM kN)
            refine ⟨_, addN ks' g.1, rfl, kE, (upd_ne nde).trans (kN _ _ md), (hkM.up kN).put (kN _ _ me), upd_same, (upd_ne ued).trans (kN _ _ mu), addN_nodup kn', fun k hk' => (mem_addN.mp hk').elim (kg' k) fun z => z ▸ hmg, ?_, fun g2 hg2 hw2 hs2 => ?_⟩
            · unfold addN
              split
              · exact ⟨more, hmore⟩
              · exact ⟨more ++ [g.1], by rw [hmore, List.append_assoc]⟩
            · rw [tk_snoc hm] at hw2
              rcases List.mem_append.mp hw2 with z | z
              · exact mem_addN.mpr (.inl (hcl g2 hg2 z hs2))
              · exact mem_addN.mpr (.inr (List.mem_singleton.mp z))
          · refine ⟨_, ks', rfl, Same.tr kM kN, kN _ _ md, hkM.up kN, kN _ _ me, kN _ _ mu, kn', kg', ⟨more, hmore⟩, fun g2 hg2 hw2 hs2 => ?_⟩
            rw [tk_snoc hm] at hw2
            rcases List.mem_append.mp hw2 with z | z
            · exact hcl g2 hg2 z hs2
            · exfalso
              refine ha ?_
              have e1 : g2.1 = g.1 := List.mem_singleton.mp z
              have hd1 := dirF_at nd hg2
              rw [e1, dirF_at nd hg] at hd1
              rw [List.all_map, List.all_eq_true]
              intro s hs
              have : s ∈ ks := hs2 s (by rw [← Option.some.inj hd1]; exact hs)
              exact decide_eq_true (by rw [hmore]; exact List.mem_append_left _ this)
      · rintro σ M ⟨o5, ks', rfl, kM, md, hkM, me, mu, kn', kg', ⟨more, hmore⟩, hcl⟩
        rw [List.length_map, List.take_length] at hcl
        have hkl' : ks'.length ≤ gs.length := by
          have := nodup_le kn' kg'
          rwa [List.length_map] at this
        refine ⟨_, rfl, u, rfl, ⟨_, SqL.of mu⟩, fun D hD => lc_it (walk_list (xs := ws.map V.str)) (fun j N => Same M N ∧ N D = some (.lst (((ws.take j).filter fun m => decide (m ∉ ks')).map V.str))) ⟨Same.put hD, upd_same⟩ (fun j N _ h => SqL.of (h.1 _ _ mu)) ?_ ?_⟩
        · rintro j v3 N N' hj ⟨kN, nD⟩ ⟨rfl, hv3⟩
          rw [List.getElem?_map] at hv3
          obtain ⟨m, hm, rfl⟩ := Option.map_eq_some_iff.mp hv3
          rw [List.length_map] at hj
          have hwl := I.wl
          have hfl := List.length_filter_le (fun m => decide (m ∉ ks')) (ws.take j)
          rw [List.length_take] at hfl
          refine ⟨rfl, _, rfl, _, rfl, e, _, rfl, DGet.k (kN _ _ me) (k := Sum.inr m), _, rfl, ?_⟩
          rw [valN]
          by_cases z : m ∈ ks'
          · rw [if_pos z]
            refine iteF ?_
            refine ⟨kN, ?_⟩
            rw [nD, tk_snoc hm, List.filter_append, List.filter_cons, decide_eq_false (fun w => w z)]
            simp
          · rw [if_neg z]
            refine iteT ?_
            refine ⟨_, rfl, _, nD, (by rw [List.length_map, PySem.sizeLine_eq]; omega), Same.at0 hD kN, ?_⟩
            rw [upd_same, tk_snoc hm, List.filter_append, List.filter_cons, decide_eq_true z, List.map_append]
            rfl
        · rintro N ⟨kN, nD⟩
          rw [List.length_map, List.take_length] at nD
          refine ⟨⟨Same.tr kM kN, (ks.length : Nat), D, ks', _, o5, ⟨kn', kg', fun k hk' => I.wg k (List.mem_filter.mp hk').1, fun g hg => ?_, Nat.le_trans (List.length_filter_le _ _) I.wl, .inr ⟨ks, more, rfl, hmore, fun g hg hs => ?_⟩⟩, kN _ _ md, hkM.up kN, kN _ _ me, nD, rfl⟩, ?_⟩
          · by_cases z : g.1 ∈ ks'
            · exact .inl z
            · refine .inr (List.mem_filter.mpr ⟨?_, decide_eq_true z⟩)
              refine (I.al g hg).resolve_left fun w => z ?_
              rw [hmore]
              exact List.mem_append_left _ w
          · rcases I.al g hg with z | z
            · rw [hmore]
              exact List.mem_append_left _ z
            · exact hcl g hg z hs
          · show (5000 - ((ks.length : Nat) : Int)).toNat < (5000 - n).toNat
            omega
    · have hge' : ¬ (n : Int) < (ks.length : Nat) := fun z => hge (decide_eq_true z)
      refine ⟨_, rfl, e, kvN ks, rfl, ge, fun p hp => ?_⟩
      rw [kvN_keys]
      refine q p ks _ (Same.tr kG (Same.put hp)) (Same.none kG hp) upd_same (by omega) fun g hg => ?_
      rcases I.nn with ⟨rfl, rfl⟩ | ⟨kb, more, rfl, hks, hcl⟩
      · exfalso
        exact hge' (by show (-1 : Int) < ((0 : Nat) : Int); decide)
      · have hm0 : more = [] := by
          rw [hks, List.length_append] at hge'
          exact List.eq_nil_of_length_eq_zero (by omega)
        rw [hm0, List.append_nil] at hks
        subst hks
        exact rank_all hR (fun g hg h => hcl g hg h) (rk g.1 + 1) g hg (Nat.lt_succ_self _)
end
end T10
set_option Elab.async false
set_option linter.all false
set_option maxRecDepth 100000
set_option maxHeartbeats 4000000
namespace T10
open PySem PySem.Spec PyProof.Rows L2 Tp
section
variable {P : Program} {w : World} {K : PySem.W.Frag} {mg : Str → Option Value} {base : Heap} {f : Addr} {fd : FuncData}


def spRing (K : PySem.W.Frag) : Sp := fun vs H Q _ => ∃ (H0 : Hp) (x : V) (gs : List GateK) (rk : Str → Nat), vs = [x] ∧ Same H0 H ∧ GatesD K H0 x gs ∧ (gs.map (·.1)).Nodup ∧ gs.length ≤ 1000 ∧ (∀ g ∈ gs, g.2.2.length ≤ 1000) ∧ Rank gs rk ∧
  ∀ (a : Addr) (H' : Hp), Same H H' → H' a = some (.lst []) → Q (.ref a) H'
/-- names in a list, each True in a new dict -/
theorem dict_names {J : It} {S : Hp → Prop} {K : PySem.W.Frag} {ns : List Str} {H H2 : Hp} {D : Addr} : True := trivial

abbrev sRg : Stmt := top 28
abbrev nRg : List Str := ["gates", "name", "working", "stuck", "direct", "walk", "sources", "_", "source"]
theorem scRg : FnScope nRg ["gates"] (defScope sRg) := ⟨rfl, rfl, rfl, by decide +kernel, rfl, by decide +kernel, by decide +kernel⟩

theorem ok_Rg (F : Fun K "ring_without_delay" "ring_without_delay" sRg f fd) (CW : Cg P w K mg base 2 "working_order" (spWork K)) : FnG P w K mg base CX0 3 f fd ["gates"] (spRing K) := by
  refine FunG.ok F scRg (fun vs H Q E h => ?_) (fun cdv B out s H vs Q E hr hG h => ?_)
  · obtain ⟨H0, x, gs, rk, rfl, _⟩ := h
    rfl
  · obtain ⟨H0, x, gs, rk, rfl, k0, hx, nd, hl, he3, hR, q⟩ := h
    refine ⟨_, (pss_cons (ps_set (i := 2) scRg.nd rfl (.inr rfl) (pe_dc (own := [("name", 1)]) (g := gName 1) (tt := tYes) rfl scRg.nd (pi_list (pe_g CW hr hG (by decide) (by rfl) (pa_cons (pv 0) pa_nil))) (blkOk_by (N := nRg) (sc := defScope sRg) (by decide +kernel)) (fun _ _ _ _ _ => pg_name (i := 1) scRg.nd rfl (Or.inl rfl)) (fun _ _ _ _ _ => pts_nil) (fun _ _ _ _ _ => (pv 1)) (fun _ _ _ _ _ => pe_bl)))
      (pss_cons (ps_setLc (i := 3) (own := [("name", 1), ("_", 7), ("_", 7)]) (g := gSeq K 3 (gCons (gName 1) (gCons (gName 7) (gCons (gName 7) gNil)))) rfl scRg.nd rfl rfl (sw_true rfl rfl rfl (by decide +kernel)) (pi_seq (pv 0)) (blkOk_by (N := nRg) (sc := defScope sRg) (by decide +kernel)) (fun _ _ _ _ _ => pg_seq rfl (pgs_cons (pg_name (i := 1) scRg.nd rfl (Or.inl rfl)) (pgs_cons (pg_name (i := 7) scRg.nd rfl (Or.inl rfl)) (pgs_cons (pg_name (i := 7) scRg.nd rfl (Or.inl rfl)) pgs_nil)))) (fun _ _ _ _ _ => (pts_one (pt_cmp (pc_dnotin (hu1 hr) (pv 1) (pv 2))))) (fun _ _ _ _ _ => (pv 1)))
      (pss_cons (ps_if (pt_not (pt_truth (pv 3) (by intro _; rfl))) (pss_one (ps_ret (pe_lst pa_nil))) pss_nil)
      pss_never))), ?_⟩
    refine ⟨_, rfl, H0, x, gs, rk, rfl, k0, hx, nd, hl, he3, hR, fun a ws H1 k1 na h1 wl hall => ?_⟩
    refine ⟨a, rfl, ⟨_, SqL.of h1⟩, fun D hD => dc_it (walk_list (xs := ws.map V.str)) (fun i G => Same H1 G ∧ G D = some (.dK (kvN (onceN (ws.take i))))) ⟨Same.put hD, upd_same⟩ (fun i G _ h => SqL.of (h.1 _ _ h1)) ?_ ?_⟩
    · rintro i v G G' hi ⟨kG, gD⟩ ⟨rfl, hv⟩
      rw [List.getElem?_map] at hv
      obtain ⟨m, hm, rfl⟩ := Option.map_eq_some_iff.mp hv
      have ol := once_len (ws.take i)
      rw [List.length_take] at ol
      refine ⟨rfl, _, rfl, _, Sum.inr m, rfl, gD, (by rw [kvN_len, PySem.sizeLine_eq]; omega), Same.at0 hD kG, ?_⟩
      rw [upd_same, putA, ← once_snoc, ← tk_snoc hm]
    · rintro G ⟨kG, gD⟩
      rw [List.length_map, List.take_length] at gD
      obtain ⟨b, gv, rfl, hb, hg⟩ := hx
      have k01 := Same.tr k1 kG
      refine ⟨_, rfl, b, rfl, seq_itK (hb.up k0) k01 fun J S wk hS => fun D2 hD2 => lc_it wk (fun i N => Same G N ∧ N D2 = some (.lst [])) ⟨Same.put hD2, upd_same⟩ (fun i N _ h => hS N (Same.tr k01 h.1)) ?_ ?_⟩
      · rintro i v N N' hi ⟨kN, nD⟩ ⟨rfl, hv⟩
        obtain ⟨g, hgi, hd⟩ := Pd.at hg hv
        refine gate_to (Same.tr k0 (Same.tr k01 kN)) hd (q := fun x he => ⟨rfl, _, rfl, _, rfl, D, _, rfl, DGet.k (kN _ _ gD) (k := Sum.inr g.1), _, rfl, ?_⟩)
        rw [valN, if_pos (mem_once.mpr (hall g (List.mem_of_getElem? hgi)))]
        refine iteF ?_
        exact ⟨kN, nD⟩
      · rintro N ⟨kN, nD⟩
        refine ⟨_, rfl, false, .inl ⟨[], SqL.of nD, rfl⟩, iteT ?_⟩
        exact ⟨(by show 0 ≤ sizeLine; decide), fun p hp => q p _ (Same.tr k01 (Same.tr kN (Same.put hp))) upd_same⟩

/-- the marked names and those that wait -/
structure SSt (bs U : List Str) (F : Str → List Str) (keys ws : List Str) : Prop where
  kn : keys.Nodup
  wn : ws.Nodup
  wk : ∀ j ∈ ws, j ∈ keys
  bk : ∀ j ∈ bs, j ∈ keys
  re : ∀ j ∈ keys, Spr (· ∈ bs) F j
  uk : ∀ j ∈ keys, j ∈ U
structure SIn (bs U : List Str) (F : Str → List Str) (n0 : Str) (M0 j : Nat) (keys ws : List Str) : Prop where
  st : SSt bs U F keys ws
  n0k : n0 ∈ keys
  n0w : n0 ∉ ws
  cl : ∀ n, n ∈ keys → n ∉ ws → n ≠ n0 → ∀ m ∈ F n, m ∈ keys
  ar : ∀ t m, t < j → (F n0)[t]? = some m → m ∈ keys
  mu : 2 * (U.length - keys.length) + ws.length ≤ M0
theorem SSt.len {bs U : List Str} {F : Str → List Str} {keys ws : List Str} (h : SSt bs U F keys ws) : keys.length ≤ U.length := nodup_le h.kn h.uk
theorem SSt.wlen {bs U : List Str} {F : Str → List Str} {keys ws : List Str} (h : SSt bs U F keys ws) : ws.length ≤ keys.length := nodup_le h.wn h.wk
theorem nodup_snocS {keys : List Str} {m : Str} (h : keys.Nodup) (hm : m ∉ keys) : (keys ++ [m]).Nodup := by
  rw [List.nodup_append]
  refine ⟨h, List.nodup_cons.mpr ⟨List.not_mem_nil, List.nodup_nil⟩, fun a ha b hb e => ?_⟩
  rw [List.mem_singleton.mp hb] at e
  exact hm (e ▸ ha)
theorem SIn.add {bs U : List Str} {F : Str → List Str} (hU : ∀ n, ∀ m ∈ F n, m ∈ U) {n0 : Str} {M0 j : Nat} {keys ws : List Str} (h : SIn bs U F n0 M0 j keys ws) {m : Str} (hm : (F n0)[j]? = some m) : (m ∈ keys → SIn bs U F n0 M0 (j + 1) keys ws) ∧ (m ∉ keys → SIn bs U F n0 M0 (j + 1) (keys ++ [m]) (ws ++ [m])) := by
  have arn : ∀ (ks : List Str), (∀ x ∈ keys, x ∈ ks) → m ∈ ks → ∀ t m', t < j + 1 → (F n0)[t]? = some m' → m' ∈ ks := fun ks hs hmk t m' ht hm' => by
    rcases Nat.lt_or_ge t j with z | z
    · exact hs _ (h.ar t m' z hm')
    · have e : t = j := by omega
      subst e
      rw [hm] at hm'
      cases hm'
      exact hmk
  refine ⟨fun hmk => ⟨h.st, h.n0k, h.n0w, h.cl, arn keys (fun _ z => z) hmk, h.mu⟩, fun hmk => ?_⟩
  have hmw : m ∉ ws := fun z => hmk (h.st.wk m z)
  have st' : SSt bs U F (keys ++ [m]) (ws ++ [m]) := ⟨nodup_snocS h.st.kn hmk, nodup_snocS h.st.wn hmw, fun x hx => by
      rcases List.mem_append.mp hx with z | z
      · exact List.mem_append_left _ (h.st.wk x z)
      · exact List.mem_append_right _ z, fun x hx => List.mem_append_left _ (h.st.bk x hx), fun x hx => by
      rcases List.mem_append.mp hx with z | z
      · exact h.st.re x z
      · rw [List.mem_singleton.mp z]
        exact .step (h.st.re _ h.n0k) (List.mem_of_getElem? hm), fun x hx => by
      rcases List.mem_append.mp hx with z | z
      · exact h.st.uk x z
      · rw [List.mem_singleton.mp z]
        exact hU n0 m (List.mem_of_getElem? hm)⟩
  have hl2 := st'.len
  rw [List.length_append, List.length_singleton] at hl2
  refine ⟨st', List.mem_append_left _ h.n0k, fun z => ?_, fun n hn hnw hne x hx => ?_, arn _ (fun _ z => List.mem_append_left _ z) (List.mem_append_right _ List.mem_cons_self), ?_⟩
  · rcases List.mem_append.mp z with z | z
    · exact h.n0w z
    · exact hmk (List.mem_singleton.mp z ▸ h.n0k)
  · have hnm : n ≠ m := fun z => hnw (List.mem_append_right _ (List.mem_singleton.mpr z))
    have hnk : n ∈ keys := (List.mem_append.mp hn).elim id fun z => absurd (List.mem_singleton.mp z) hnm
    exact List.mem_append_left _ (h.cl n hnk (fun z => hnw (List.mem_append_left _ z)) hne x hx)
  · have := h.mu
    rw [List.length_append, List.length_append, List.length_singleton]
    omega
/-- what spreads from names along a dict of lists: the names, each True, in a new dict -/
def spSpread (K : PySem.W.Frag) : Sp := fun vs H Q _ => ∃ (x : V) (d0 : Addr) (bs U : List Str) (kvs : List (Key × V)) (F : List (Str × List Str)), vs = [x, .ref d0] ∧ NamesD K H x bs ∧ H d0 = some (.dK kvs) ∧ LsD H kvs F ∧ bs.length ≤ 100000 ∧ U.length ≤ 100000 ∧ (∀ b ∈ bs, b ∈ U) ∧ (∀ n, ∀ m ∈ (F.lookup n).getD [], m ∈ U) ∧
  ∀ (a : Addr) (ks : List Str) (H' : Hp), Same H H' → H' a = some (.dK (kvN ks)) → (∀ n, n ∈ ks ↔ Spr (· ∈ bs) (fun m => (F.lookup m).getD []) n) → Q (.ref a) H'

abbrev sSp : Stmt := top 31
abbrev nSp : List Str := ["names", "following", "name", "found", "waiting", "other"]
theorem scSp : FnScope nSp ["names", "following"] (defScope sSp) := ⟨rfl, rfl, rfl, by decide +kernel, rfl, by decide +kernel, by decide +kernel⟩

theorem ok_Sp (F : Fun K "_spread" "_spread" sSp f fd) (T : TxtN mg) : FnG P w K mg base CX0 1 f fd ["names", "following"] (spSpread K) := by
  refine FunG.ok F scSp (fun vs H Q E h => ?_) (fun cdv B out s H vs Q E hr hG h => ?_)
  · obtain ⟨x, d0, bs, U, kvs, F, rfl, _⟩ := h
    rfl
  · obtain ⟨x, d0, bs, U, kvs, F, rfl, hx, h0, hk, hbl, hUl, hbU, hFU, q⟩ := h
    refine ⟨_, (pss_cons (ps_setDc (i := 3) (own := [("name", 2)]) (g := gName 2) (tt := tYes) rfl scSp.nd rfl rfl (sw_trueD rfl rfl rfl (by decide +kernel)) (pi_seq (pv 0)) (blkOk_by (N := nSp) (sc := defScope sSp) (by decide +kernel)) (fun _ _ _ _ _ => pg_name (i := 2) scSp.nd rfl (Or.inl rfl)) (fun _ _ _ _ _ => pts_nil) (fun _ _ _ _ _ => (pv 2)) (fun _ _ _ _ _ => pe_bl))
      (pss_cons (ps_set (i := 4) scSp.nd rfl (.inl rfl) (pe_callTy (call_list_dK rfl) (by rfl) T.list (by decide +kernel) (pa_cons (pv 3) pa_nil)))
      (pss_cons (ps_while PassesOwn.never (pt_truth (pv 4) (by intro _; rfl)) (pss_cons (ps_set (i := 2) scSp.nd rfl (.inl rfl) (pe_bm0 PySem.F.plainAttrs_list PySem.F.slot_list_pop PySem.F.type_list_pop mt_pop (pv 4)))
        (pss_one (ps_for PassesOwn.never rfl (pi_list (pe_dget2 (hu1 hr) (pv 1) (pv 2) (pe_lst pa_nil) ⟨rfl, rfl, rfl, rfl⟩)) (pg_name (i := 5) scSp.nd rfl (Or.inl rfl)) (pss_one (ps_if (pt_cmp (pc_dnotin (hu1 hr) (pv 5) (pv 3))) (pss_cons (ps_dput (hu1 hr) (pv 3) (pv 5) pe_bl rfl)
            (pss_one (ps_expr (pe_bm PySem.F.plainAttrs_list PySem.F.slot_list_append PySem.F.type_list_append mt_append (pv 4) (pa_cons (pv 5) pa_nil))))) pss_nil))))))
      (pss_one (ps_ret (pv 3)))))), ?_⟩
    obtain ⟨a, rfl, ha⟩ := hx
    refine ⟨_, rfl, a, rfl, seq_itK ha (Same.refl _) fun J S wk hS => fun D hD => dc_it wk (fun i G => Same H G ∧ G D = some (.dK (kvN (onceN (bs.take i))))) ⟨Same.put hD, upd_same⟩ (fun i G _ h => hS G h.1) ?_ ?_⟩
    · rintro i v G G' hi ⟨kG, gD⟩ ⟨rfl, hv⟩
      rw [List.getElem?_map] at hv
      obtain ⟨m, hm, rfl⟩ := Option.map_eq_some_iff.mp hv
      have ol := once_len (bs.take i)
      rw [List.length_take] at ol
      refine ⟨rfl, _, rfl, _, Sum.inr m, rfl, gD, (by rw [kvN_len, PySem.sizeLine_eq]; omega), Same.at0 hD kG, ?_⟩
      rw [upd_same, putA, ← once_snoc, ← tk_snoc hm]
    · rintro G1 ⟨k1, g1⟩
      rw [List.length_map, List.take_length] at g1
      refine ⟨_, rfl, D, _, rfl, g1, fun wl hwl => ?_⟩
      have k2 : Same G1 (upd G1 wl (.lst ((kvN (onceN bs)).map fun kv => kV kv.1))) := Same.put hwl
      have w2 : (upd G1 wl (.lst ((kvN (onceN bs)).map fun kv => kV kv.1))) wl = some (.lst ((onceN bs).map V.str)) := by rw [upd_same, kvN_keys]
      have g2 := k2 _ _ g1
      generalize upd G1 wl (.lst ((kvN (onceN bs)).map fun kv => kV kv.1)) = G2 at k2 w2 g2 ⊢
      have hwH : H wl = none := Same.none k1 hwl
      have nDw : D ≠ wl := ne_of_none g1 hwl
      dsimp only [gName]
      refine ⟨fun m σ G => ∃ keys ws o2 o5, σ = [some (.ref a), some (.ref d0), o2, some (.ref D), some (.ref wl), o5] ∧ Same H G ∧ G D = some (.dK (kvN keys)) ∧ G wl = some (.lst (ws.map V.str)) ∧ SSt bs U (fun m => (F.lookup m).getD []) keys ws ∧ (∀ n, n ∈ keys → n ∉ ws → ∀ m ∈ (F.lookup n).getD [], m ∈ keys) ∧ m = 2 * (U.length - keys.length) + ws.length,
        ⟨_, onceN bs, onceN bs, _, _, rfl, Same.tr k1 k2, g2, w2, ⟨once_nodup bs, once_nodup bs, fun _ z => z, fun j hj => mem_once.mpr hj, fun j hj => .base (mem_once.mp hj), fun j hj => hbU j (mem_once.mp hj)⟩, fun n hn hw => absurd hn hw, rfl⟩, ?_⟩
      rintro m σ G ⟨keys, ws, o2, o5, rfl, sG, gz, gw, st, cl, rfl⟩
      have hkl := st.len
      have hwl' := st.wlen
      rcases List.eq_nil_or_concat ws with rfl | ⟨ws', y, rfl⟩
      · refine ⟨_, rfl, false, .inl ⟨_, SqL.of gw, rfl⟩, iteF ?_⟩
        refine ⟨_, rfl, q D keys G sG gz fun n => ⟨st.re n, fun h => ?_⟩⟩
        induction h with
        | base h => exact st.bk _ h
        | step h hn ih => exact cl _ ih List.not_mem_nil _ hn
      · rw [List.concat_eq_append] at gw st cl hwl'
        rw [List.length_append, List.length_singleton] at hwl'
        obtain ⟨Nx, hNx⟩ : ∃ Nx : L2.St → Hp → Prop, Nx = fun σ' G' => ∃ keys2 ws2 o2 o5, σ' = [some (V.ref a), some (V.ref d0), o2, some (V.ref D), some (V.ref wl), o5] ∧ Same H G' ∧ G' D = some (.dK (kvN keys2)) ∧ G' wl = some (.lst (ws2.map V.str)) ∧ SSt bs U (fun m => (F.lookup m).getD []) keys2 ws2 ∧ (∀ n, n ∈ keys2 → n ∉ ws2 → ∀ m ∈ (F.lookup n).getD [], m ∈ keys2) ∧ 2 * (U.length - keys2.length) + ws2.length ≤ 2 * (U.length - keys.length) + ws'.length := ⟨_, rfl⟩
        refine ⟨_, rfl, true, .inl ⟨_, SqL.of gw, by rw [List.map_append]; cases ws' <;> rfl⟩, iteT ⟨Nx, fun σ' G' hN => ?_, ?_⟩⟩
        · rw [hNx] at hN
          obtain ⟨keys2, ws2, o4, o5, e1, e2, e3, e4, e5, e6, e7⟩ := hN
          exact ⟨_, by rw [List.concat_eq_append, List.length_append, List.length_singleton]; omega, keys2, ws2, o4, o5, e1, e2, e3, e4, e5, e6, rfl⟩
        refine ⟨_, rfl, .inl ⟨rfl, _, SqL.of gw⟩, wl, _, .str y, rfl, rfl, gw, (by rw [List.map_append, List.length_append, List.length_map, List.map_cons, List.map_nil, List.length_singleton, Nat.add_sub_cancel, List.getElem?_append_right (by rw [List.length_map]; exact Nat.le_refl _), List.length_map, Nat.sub_self]; rfl), ?_⟩
        rw [List.map_append, List.map_cons, List.map_nil, List.dropLast_concat]
        have s6 : Same H (upd G wl (.lst (ws'.map V.str))) := Same.at0 hwH sG
        have t6 : (upd G wl (.lst (ws'.map V.str))) wl = some (.lst (ws'.map V.str)) := upd_same
        have z6 : (upd G wl (.lst (ws'.map V.str))) D = some (.dK (kvN keys)) := (upd_ne nDw).trans gz
        generalize upd G wl (.lst (ws'.map V.str)) = G6 at s6 t6 z6 ⊢
        have wnd := List.nodup_append.mp st.wn
        have twn : y ∉ ws' := fun h => wnd.2.2 _ h _ List.mem_cons_self rfl
        have pin0 : SIn bs U (fun m => (F.lookup m).getD []) y (2 * (U.length - keys.length) + ws'.length) 0 keys ws' := ⟨⟨st.kn, wnd.1, fun j hj => st.wk j (List.mem_append_left _ hj), st.bk, st.re, st.uk⟩, st.wk _ (List.mem_append_right _ List.mem_cons_self), twn, fun n hn hw hne => cl n hn fun h => by
          rcases List.mem_append.mp h with h | h
          · exact hw h
          · exact hne (List.mem_singleton.mp h), fun u m hu => absurd hu (Nat.not_lt_zero _), Nat.le_refl _⟩
        refine ⟨_, rfl, d0, rfl, .inl ⟨_, .inl (s6 _ _ h0)⟩, _, rfl, (by show 0 ≤ sizeLine; decide), fun e0 he0 => ?_⟩
        have k7 : Same G6 (upd G6 e0 (.lst [])) := Same.put he0
        have h7 : (upd G6 e0 (.lst [])) e0 = some (.lst ([] : List V)) := upd_same
        generalize upd G6 e0 (.lst []) = G7 at k7 h7 ⊢
        have s7 := Same.tr s6 k7
        have hk7 := hk.up s7
        obtain ⟨b, hob, hb, nbD, nbw⟩ : ∃ b, ((valV kvs (Sum.inr y)).getD (.ref e0)) = .ref b ∧ G7 b = some (.lst (((F.lookup y).getD []).map V.str)) ∧ b ≠ D ∧ b ≠ wl := by
          obtain ⟨i1, i2⟩ := hk.val y
          cases hF : F.lookup y with
          | none =>
            refine ⟨e0, ?_, h7, fun z => ?_, fun z => ?_⟩
            · rw [i2 hF]
              rfl
            · rw [z, z6] at he0
              cases he0
            · rw [z, t6] at he0
              cases he0
          | some ys =>
            obtain ⟨b, h1, h2⟩ := i1 ys hF
            refine ⟨b, by rw [h1]; rfl, s7 _ _ h2, fun z => ?_, fun z => ?_⟩
            · rw [z, hD] at h2
              cases h2
            · rw [z, hwH] at h2
              cases h2
        refine ⟨_, DGet.k (s7 _ _ h0) (k := Sum.inr y), ?_⟩
        rw [hob]
        have t7 := k7 _ _ t6
        have z7 := k7 _ _ z6
        refine ⟨b, rfl, ⟨_, SqL.of hb⟩, ?_⟩
        refine for_it (D := { nx := Nx, rt := Q }) (walk_list (xs := ((F.lookup y).getD []).map V.str)) (fun j σ' M => M b = some (.lst (((F.lookup y).getD []).map V.str)) ∧ ∃ keys2 ws2 o5, σ' = [some (.ref a), some (.ref d0), some (.str y), some (.ref D), some (.ref wl), o5] ∧ Same H M ∧ M D = some (.dK (kvN keys2)) ∧ M wl = some (.lst (ws2.map V.str)) ∧ SIn bs U (fun m => (F.lookup m).getD []) y (2 * (U.length - keys.length) + ws'.length) j keys2 ws2) ⟨hb, keys, ws', _, rfl, s7, z7, t7, pin0⟩ (fun _ _ _ _ h => SqL.of h.1) ?_ ?_
        · rintro j v σ' M M' hj ⟨mb, keys2, ws2, o5', rfl, sM, mz, mw, hI⟩ ⟨rfl, hx⟩
          rw [List.getElem?_map] at hx
          obtain ⟨m, hm, rfl⟩ := Option.map_eq_some_iff.mp hx
          obtain ⟨i1', i2'⟩ := hI.add hFU hm
          have hkl2 := hI.st.len
          have hwl2 := hI.st.wlen
          refine ⟨_, rfl, _, rfl, D, _, rfl, DGet.k mz (k := Sum.inr m), _, rfl, ?_⟩
          rw [valN]
          by_cases hmk : m ∈ keys2
          · rw [if_pos hmk]
            exact iteF ⟨mb, keys2, ws2, _, rfl, sM, mz, mw, i1' hmk⟩
          · rw [if_neg hmk]
            refine iteT ?_
            refine ⟨_, rfl, _, rfl, D, _, rfl, DPut.k mz (k := Sum.inr m) (by rw [kvN_len, PySem.sizeLine_eq]; omega), ?_⟩
            rw [putN hmk]
            have mw' : (upd M' D (.dK (kvN (keys2 ++ [m])))) wl = some (.lst (ws2.map V.str)) := (upd_ne nDw.symm).trans mw
            refine ⟨_, rfl, .inl ⟨rfl, _, SqL.of mw'⟩, _, rfl, wl, _, .str m, rfl, rfl, mw', (by rw [List.length_map, PySem.sizeLine_eq]; omega), ?_, keys2 ++ [m], ws2 ++ [m], _, rfl, ?_, ?_, ?_, i2' hmk⟩
            · exact (upd_ne nbw).trans ((upd_ne nbD).trans mb)
            · exact Same.at0 hwH (Same.at0 hD sM)
            · exact (upd_ne nDw).trans upd_same
            · rw [upd_same, List.map_append]
              rfl
        · rintro σ' M ⟨mb, keys2, ws2, o5', rfl, sM, mz, mw, hI⟩
          show Nx _ _
          rw [hNx]
          refine ⟨keys2, ws2, _, _, rfl, sM, mz, mw, hI.st, fun n hn hw m hm => ?_, hI.mu⟩
          by_cases e : n = y
          · subst e
            obtain ⟨u, hu, eu⟩ := List.getElem_of_mem hm
            exact hI.ar u m (by rw [List.length_map]; exact hu) (by rw [List.getElem?_eq_getElem hu, eu])
          · exact hI.cl n hn hw e m hm
end
end T10
set_option Elab.async false
set_option linter.all false
set_option maxRecDepth 100000
set_option maxHeartbeats 4000000
namespace Tp
open PySem PySem.Spec PyProof.Rows L2
theorem pi_seqK {X : Cx} {K : PySem.W.Frag} (h : X.K = K) {tg l : Expr} {tl : TE} (hl : PE X l tl) : PI X tg l (iSeq K tl) := by
  subst h
  exact pi_seq hl
def rTupOf (K : PySem.W.Frag) : List V → Hp → VK → Prop := fun xs H Q => ∃ p ys, xs = [.ref p] ∧ ((SqL K H p ys ∧ ∀ l, H l = none → Q (.ref l) (upd H l (.tup ys))) ∨ (SqT K H p ys ∧ Q (.ref p) H))
theorem call_tuple_ofK {X : Cx} {K : PySem.W.Frag} (h : X.K = K) : CallR X (.type "tuple") (rTupOf K) := by
  subst h
  exact call_tuple_of
theorem wipe_set {σ : L2.St} {i : Nat} {o : Option V} : ∀ {vs : List Nat}, (i ∈ vs → wipe (σ.set i o) vs = wipe σ vs) ∧ (i ∉ vs → wipe (σ.set i o) vs = (wipe σ vs).set i o)
  | [] => ⟨fun h => (nomatch h), fun _ => rfl⟩
  | v :: vs => by
    obtain ⟨h1, h2⟩ := wipe_set (σ := σ) (i := i) (o := o) (vs := vs)
    unfold wipe
    by_cases hi : i ∈ vs
    · rw [h1 hi]
      exact ⟨fun _ => rfl, fun h => absurd (List.mem_cons_of_mem _ hi) h⟩
    · rw [h2 hi]
      by_cases e : i = v
      · subst e
        exact ⟨fun _ => List.set_set .., fun h => absurd List.mem_cons_self h⟩
      · exact ⟨fun h => absurd ((List.mem_cons.mp h).resolve_left e) hi, fun _ => List.set_comm _ _ e⟩
theorem wipe_sub {σ : L2.St} {vs : List Nat} : ∀ {us : List Nat}, (∀ u ∈ us, u ∈ vs) → wipe (wipe σ us) vs = wipe σ vs
  | [], _ => rfl
  | u :: us, h => by
    show wipe ((wipe σ us).set u none) vs = _
    rw [wipe_set.1 (h u List.mem_cons_self)]
    exact wipe_sub fun u' hu => h u' (List.mem_cons_of_mem _ hu)
theorem wp3 {σ : L2.St} {vs : List Nat} {i j k : Nat} {a b c : Option V} (hi : i ∈ vs) (hj : j ∈ vs) (hk : k ∈ vs) : wipe ((((wipe σ vs).set i a).set j b).set k c) vs = wipe σ vs := by
  rw [wipe_set.1 hk, wipe_set.1 hj, wipe_set.1 hi, wipe_sub fun _ h => h]
theorem wp2 {σ : L2.St} {vs : List Nat} {i j : Nat} {a b : Option V} (hi : i ∈ vs) (hj : j ∈ vs) : wipe (((wipe σ vs).set i a).set j b) vs = wipe σ vs := by
  rw [wipe_set.1 hj, wipe_set.1 hi, wipe_sub fun _ h => h]
section
variable {K : PySem.W.Frag} {H H' : Hp}
/-- what an input leads to -/
inductive Fed (ins : List Str) (gs : List GateK) : Str → Prop
  | inp {n : Str} (h : n ∈ ins) : Fed ins gs n
  | step {g : GateK} {e : EdgeK} (hg : g ∈ gs) (he : e ∈ g.2.2) (h : Fed ins gs e.1) : Fed ins gs g.1
/-- what leads to an out -/
inductive Led (gs : List GateK) (os : List EdgeK) : Str → Prop
  | out {e : EdgeK} (h : e ∈ os) : Led gs os e.1
  | step {g : GateK} {e : EdgeK} (hg : g ∈ gs) (h : Led gs os g.1) (he : e ∈ g.2.2) : Led gs os e.1
/-- who reads whom, as far as told -/
def pairsE (gs : List GateK) : List (Str × Str) := gs.flatMap fun g => g.2.2.map fun e => (e.1, g.1)
/-- names with lists that grow -/
structure RdI (Hb H : Hp) (kvs : List (Key × V)) (F : List (Str × List Str)) (ps : List (Str × Str)) : Prop where
  ls : LsD H kvs F
  vn : (kvs.map (·.2)).Nodup
  fn : (F.map (·.1)).Nodup
  fl : F.length ≤ ps.length
  yl : ∀ n ys, F.lookup n = some ys → ys.length ≤ ps.length
  fr : ∀ a, V.ref a ∈ kvs.map (·.2) → Hb a = none
  me : ∀ s n, n ∈ (F.lookup s).getD [] ↔ (s, n) ∈ ps
theorem RdI.up {Hb : Hp} {kvs : List (Key × V)} {F : List (Str × List Str)} {ps : List (Str × Str)} (s : Same H H') (h : RdI Hb H kvs F ps) : RdI Hb H' kvs F ps := ⟨h.ls.up s, h.vn, h.fn, h.fl, h.yl, h.fr, h.me⟩
theorem RdI.put {Hb : Hp} {kvs k0 k1 : List (Key × V)} {F : List (Str × List Str)} {ps : List (Str × Str)} {d : Addr} (h : RdI Hb H kvs F ps) (e : H d = some (.dK k0)) : RdI Hb (upd H d (.dK k1)) kvs F ps := ⟨h.ls.put e, h.vn, h.fn, h.fl, h.yl, h.fr, h.me⟩
theorem lookup_app {β : Type} : ∀ {F : List (Str × β)} {n s : Str} {y : β}, F.lookup s = none → (F ++ [(s, y)]).lookup n = if n = s then some y else F.lookup n
  | [], n, s, y, _ => by
    rw [List.nil_append, List.lookup_cons]
    by_cases e : n = s
    · subst e; simp
    · rw [if_neg e, show (n == s) = false from beq_false_of_ne e]
  | (m, z) :: F, n, s, y, h => by
    rw [List.lookup_cons] at h
    rw [List.cons_append, List.lookup_cons, List.lookup_cons]
    by_cases e : s = m
    · subst e
      simp at h
    · rw [show (s == m) = false from beq_false_of_ne e] at h
      by_cases e2 : n = m
      · subst e2
        rw [if_neg fun z => e z.symm]
        simp
      · rw [show (n == m) = false from beq_false_of_ne e2]
        exact lookup_app h
theorem lookup_mod {β : Type} {f : β → β} : ∀ {F : List (Str × β)} {n s : Str}, (F.map fun p => if p.1 = s then (p.1, f p.2) else p).lookup n = (F.lookup n).map fun y => if n = s then f y else y
  | [], _, _ => rfl
  | (m, z) :: F, n, s => by
    rw [List.map_cons, List.lookup_cons]
    by_cases e : m = s
    · rw [if_pos e]
      rw [List.lookup_cons]
      by_cases e2 : n = m
      · subst e2
        simp [e]
      · rw [show (n == m) = false from beq_false_of_ne e2]
        exact lookup_mod
    · rw [if_neg e]
      rw [List.lookup_cons]
      by_cases e2 : n = m
      · subst e2
        simp [e]
      · rw [show (n == m) = false from beq_false_of_ne e2]
        exact lookup_mod
theorem lookup_isSome {β : Type} {F : List (Str × β)} {n : Str} (h : n ∈ F.map (·.1)) : F.lookup n ≠ none := by
  induction F with
  | nil => cases h
  | cons p F ih =>
    obtain ⟨m, z⟩ := p
    rw [List.lookup_cons]
    by_cases e : n = m
    · subst e; simp
    · rw [show (n == m) = false from beq_false_of_ne e]
      exact ih ((List.mem_cons.mp h).resolve_left e)
/-- the list of a name grows -/
theorem RdI.grow {Hb : Hp} {kvs : List (Key × V)} {F : List (Str × List Str)} {ps : List (Str × Str)} (h : RdI Hb H kvs F ps) {s n : Str} {ys : List Str} {a : Addr} (hF : F.lookup s = some ys) (hv : valV kvs (Sum.inr s) = some (.ref a)) :
    RdI Hb (upd H a (.lst ((ys ++ [n]).map V.str))) kvs (F.map fun p => if p.1 = s then (p.1, p.2 ++ [n]) else p) (ps ++ [(s, n)]) := by
  have key : ∀ (p : Str × List Str), (if p.1 = s then (p.1, p.2 ++ [n]) else p).1 = p.1 := fun p => by split <;> rfl
  refine ⟨?_, h.vn, ?_, ?_, fun m zs hz => ?_, h.fr, fun s' n' => ?_⟩
  · have hvn := h.vn
    have hfn := h.fn
    have gen : ∀ {kvs : List (Key × V)} {F : List (Str × List Str)}, LsD H kvs F → (kvs.map (·.2)).Nodup → (F.map (·.1)).Nodup → (∀ ys', F.lookup s = some ys' → ys' = ys ∧ valV kvs (Sum.inr s) = some (.ref a)) → (F.lookup s = none → V.ref a ∉ kvs.map (·.2)) → LsD (upd H a (.lst ((ys ++ [n]).map V.str))) kvs (F.map fun p => if p.1 = s then (p.1, p.2 ++ [n]) else p) := by
      intro kvs F ls
      induction ls with
      | nil => intros; exact .nil
      | @cons kv p kvs F r t ih =>
        intro hvn hfn hs hs0
        rw [List.map_cons, List.nodup_cons] at hvn hfn
        obtain ⟨e1, b, e2, hb⟩ := r
        by_cases e : p.1 = s
        · have hl : (p :: F).lookup s = some p.2 := by
            obtain ⟨p1, p2⟩ := p
            cases e
            rw [List.lookup_cons]
            simp
          obtain ⟨e3, e4⟩ := hs _ hl
          rw [valV_pos (by rw [e1, e])] at e4
          have e5 := Option.some.inj e4
          rw [e2] at e5
          cases e5
          rw [List.map_cons, if_pos e]
          refine .cons ⟨e1, a, e2, ?_⟩ ?_
          · rw [upd_same, e3]
          · have : F.map (fun p => if p.1 = s then (p.1, p.2 ++ [n]) else p) = F := by
              refine (List.map_congr_left fun p' hp' => ?_).trans (List.map_id _)
              refine if_neg fun z => hfn.1 ?_
              rw [e, ← z]
              exact List.mem_map_of_mem hp'
            rw [this]
            have nA : V.ref a ∉ kvs.map (·.2) := by rw [← e2]; exact hvn.1
            clear ih hs hs0 hl this
            have go : ∀ {kvs : List (Key × V)} {F : List (Str × List Str)}, LsD H kvs F → V.ref a ∉ kvs.map (·.2) → LsD (upd H a (.lst ((ys ++ [n]).map V.str))) kvs F := by
              intro kvs F ls
              induction ls with
              | nil => intro _; exact .nil
              | cons r t ih =>
                intro hn
                rw [List.map_cons, List.mem_cons, not_or] at hn
                obtain ⟨f1, c, f2, hc⟩ := r
                refine .cons ⟨f1, c, f2, (upd_ne fun z => hn.1 (by rw [f2, z])).trans hc⟩ (ih hn.2)
            exact go t nA
        · have hl : (p :: F).lookup s = F.lookup s := by
            obtain ⟨p1, p2⟩ := p
            rw [List.lookup_cons, show (s == p1) = false from beq_false_of_ne fun z => e z.symm]
          have ne : b ≠ a := by
            intro z
            subst z
            cases hFs : F.lookup s with
            | none => exact hs0 (by rw [hl, hFs]) (by rw [List.map_cons, e2]; exact List.mem_cons_self)
            | some ys' =>
              obtain ⟨_, e4⟩ := hs ys' (by rw [hl, hFs])
              rw [valV_neg (fun w => e (Sum.inr.inj (e1.symm.trans w)))] at e4
              have : V.ref b ∈ kvs.map (·.2) := by
                unfold valV at e4
                obtain ⟨kv', h1, h2⟩ := Option.map_eq_some_iff.mp e4
                rw [← h2]
                exact List.mem_map_of_mem (List.mem_of_find?_eq_some h1)
              exact hvn.1 (e2 ▸ this)
          rw [List.map_cons, if_neg e]
          refine .cons ⟨e1, b, e2, (upd_ne ne).trans hb⟩ (ih hvn.2 hfn.2 (fun ys' h' => ?_) fun h' => ?_)
          · obtain ⟨i1, i2⟩ := hs ys' (by rw [hl]; exact h')
            rw [valV_neg (fun w => e (Sum.inr.inj (e1.symm.trans w)))] at i2
            exact ⟨i1, i2⟩
          · have := hs0 (by rw [hl]; exact h')
            rw [List.map_cons, List.mem_cons, not_or] at this
            exact this.2
    exact gen h.ls h.vn h.fn (fun ys' h' => by rw [hF] at h'; exact ⟨(Option.some.inj h').symm, hv⟩) fun h' => by rw [hF] at h'; cases h'
  · rw [List.map_map]
    have : ((fun p : Str × List Str => p.1) ∘ fun p => if p.1 = s then (p.1, p.2 ++ [n]) else p) = fun p => p.1 := funext key
    rw [this]
    exact h.fn
  · rw [List.length_map, List.length_append]
    have := h.fl
    omega
  · rw [lookup_mod (f := fun ys => ys ++ [n])] at hz
    obtain ⟨ws, h1, h2⟩ := Option.map_eq_some_iff.mp hz
    have := h.yl _ _ h1
    rw [List.length_append, List.length_singleton]
    rw [← h2]
    split
    · rw [List.length_append, List.length_singleton]
      omega
    · omega
  · rw [lookup_mod (f := fun ys => ys ++ [n]), List.mem_append, List.mem_singleton, ← h.me s' n']
    by_cases e : s' = s
    · subst e
      rw [hF, Option.map_some, if_pos rfl, Option.getD_some, Option.getD_some, List.mem_append, List.mem_singleton]
      refine or_congr Iff.rfl ⟨fun z => by rw [z], fun z => (Prod.mk.inj z).2⟩
    · cases F.lookup s' with
      | none =>
        rw [Option.map_none]
        exact ⟨.inl, fun z => z.elim id fun z => absurd (Prod.mk.inj z).1 e⟩
      | some ws =>
        rw [Option.map_some, if_neg e]
        exact ⟨.inl, fun z => z.elim id fun z => absurd (Prod.mk.inj z).1 e⟩
/-- a new name, its list with one name -/
theorem RdI.fresh {Hb : Hp} {kvs : List (Key × V)} {F : List (Str × List Str)} {ps : List (Str × Str)} (h : RdI Hb H kvs F ps) {s n : Str} {p : Addr} (hF : F.lookup s = none) (hb : Hb p = none) (hp : H p = some (.lst [V.str n])) (hnew : V.ref p ∉ kvs.map (·.2)) :
    RdI Hb H (kvs ++ [(Sum.inr s, .ref p)]) (F ++ [(s, [n])]) (ps ++ [(s, n)]) := by
  refine ⟨Paired.snoc h.ls ⟨rfl, p, rfl, hp⟩, ?_, ?_, ?_, fun m ys hm => ?_, fun a ha => ?_, fun s' n' => ?_⟩
  · rw [List.map_append, List.nodup_append]
    refine ⟨h.vn, List.nodup_cons.mpr ⟨List.not_mem_nil, List.nodup_nil⟩, fun a ha b hb' e => ?_⟩
    rw [List.map_singleton, List.mem_singleton] at hb'
    exact hnew (by rw [e, hb'] at ha; exact ha)
  · rw [List.map_append, List.nodup_append]
    refine ⟨h.fn, List.nodup_cons.mpr ⟨List.not_mem_nil, List.nodup_nil⟩, fun a ha b hb' e => ?_⟩
    rw [List.map_singleton, List.mem_singleton] at hb'
    rw [e, hb'] at ha
    exact lookup_isSome ha hF
  · rw [List.length_append, List.length_append, List.length_singleton, List.length_singleton]
    have := h.fl
    omega
  · rw [lookup_app hF] at hm
    rw [List.length_append, List.length_singleton]
    split at hm
    · cases hm
      show 1 ≤ _
      omega
    · have := h.yl _ _ hm
      omega
  · rw [List.map_append, List.mem_append, List.map_singleton, List.mem_singleton] at ha
    rcases ha with z | z
    · exact h.fr a z
    · cases z
      exact hb
  · rw [lookup_app hF, List.mem_append, List.mem_singleton, ← h.me s' n']
    by_cases e : s' = s
    · subst e
      rw [if_pos rfl, hF, Option.getD_some, Option.getD_none, List.mem_singleton]
      exact ⟨fun z => .inr (by rw [z]), fun z => z.elim (fun z => nomatch z) fun z => (Prod.mk.inj z).2⟩
    · rw [if_neg e]
      exact ⟨.inl, fun z => z.elim id fun z => absurd (Prod.mk.inj z).1 e⟩
end
end Tp
set_option Elab.async false
set_option linter.all false
set_option maxRecDepth 100000
set_option maxHeartbeats 4000000
namespace T10
open PySem PySem.Spec PyProof.Rows L2 Tp
section
variable {P : Program} {w : World} {K : PySem.W.Frag} {mg : Str → Option Value} {base : Heap} {f : Addr} {fd : FuncData}


/-- the names that inputs lead to, each True in a new dict -/
def spEnds (K : PySem.W.Frag) : Sp := fun vs H Q _ => ∃ (H0 : Hp) (x y : V) (ins : List Str) (gs : List GateK) (U : List Str), vs = [x, y] ∧ Same H0 H ∧ NamesD K H0 x ins ∧ GatesD K H0 y gs ∧ (pairsE gs).length ≤ 100000 ∧ ins.length ≤ 100000 ∧ U.length ≤ 100000 ∧ (∀ n ∈ ins, n ∈ U) ∧ (∀ g ∈ gs, g.1 ∈ U) ∧
  ∀ (a : Addr) (ks : List Str) (H' : Hp), Same H H' → H' a = some (.dK (kvN ks)) → (∀ n, n ∈ ks ↔ Fed ins gs n) → Q (.ref a) H'
theorem pairs_mem {gs : List GateK} {s n : Str} : (s, n) ∈ pairsE gs ↔ ∃ g ∈ gs, ∃ e ∈ g.2.2, e.1 = s ∧ g.1 = n := by
  unfold pairsE
  rw [List.mem_flatMap]
  refine exists_congr fun g => and_congr Iff.rfl ?_
  rw [List.mem_map]
  refine exists_congr fun e => and_congr Iff.rfl ⟨fun z => Prod.mk.inj z, fun z => by rw [z.1, z.2]⟩
theorem fed_iff {ins : List Str} {gs : List GateK} {F : List (Str × List Str)} (h : ∀ s n, n ∈ (F.lookup s).getD [] ↔ (s, n) ∈ pairsE gs) (n : Str) : Spr (· ∈ ins) (fun m => (F.lookup m).getD []) n ↔ Fed ins gs n := by
  constructor
  · intro q
    induction q with
    | base h => exact .inp h
    | step _ hn ih =>
      obtain ⟨g, hg, e, he, e1, e2⟩ := pairs_mem.mp ((h _ _).mp hn)
      rw [← e2]
      exact .step hg he (by rw [e1]; exact ih)
  · intro q
    induction q with
    | inp h => exact .base h
    | step hg he _ ih => exact .step ih ((h _ _).mpr (pairs_mem.mpr ⟨_, hg, _, he, rfl, rfl⟩))

abbrev sEw : Stmt := top 29
abbrev nEw : List Str := ["inputs", "gates", "readers", "name", "_", "edges", "source"]
theorem scEw : FnScope nEw ["inputs", "gates"] (defScope sEw) := ⟨rfl, rfl, rfl, by decide +kernel, rfl, by decide +kernel, by decide +kernel⟩

theorem ok_Ew (F : Fun K "ends_of_ways" "ends_of_ways" sEw f fd) (CS : Cg P w K mg base 1 "_spread" (spSpread K)) : FnG P w K mg base CX0 2 f fd ["inputs", "gates"] (spEnds K) := by
  refine FunG.ok F scEw (fun vs H Q E h => ?_) (fun cdv B out s H vs Q E hr hG h => ?_)
  · obtain ⟨H0, x, y, ins, gs, U, rfl, _⟩ := h
    rfl
  · obtain ⟨H0, x, y, ins, gs, U, rfl, k0, hx, hy, hpl, hil, hUl, hiU, hgU, q⟩ := h
    refine ⟨_, (pss_cons (ps_set (i := 2) scEw.nd rfl (.inl rfl) pe_dnewK)
      (pss_cons (ps_for PassesOwn.never rfl (pi_seq (pv 1)) (pg_seq rfl (pgs_cons (pg_name (i := 3) scEw.nd rfl (Or.inl rfl)) (pgs_cons (pg_name (i := 4) scEw.nd rfl (Or.inl rfl)) (pgs_cons (pg_name (i := 5) scEw.nd rfl (Or.inl rfl)) pgs_nil)))) (pss_one (ps_for PassesOwn.never rfl (pi_seq (pv 5)) (pg_seq rfl (pgs_cons (pg_name (i := 6) scEw.nd rfl (Or.inl rfl)) (pgs_cons (pg_name (i := 4) scEw.nd rfl (Or.inl rfl)) pgs_nil))) (pss_one (ps_expr (pe_bm PySem.F.plainAttrs_list PySem.F.slot_list_append PySem.F.type_list_append mt_append (pe_dsetd (pv 2) (pv 6) (pe_lst pa_nil) ⟨rfl, rfl, rfl, rfl⟩) (pa_cons (pv 3) pa_nil)))))))
      (pss_one (ps_ret (pe_g CS hr hG (by decide) (by rfl) (pa_cons (pv 0) (pa_cons (pv 2) pa_nil))))))), ?_⟩
    refine fun d hd => ?_
    have k1 : Same H (upd H d (.dK [])) := Same.put hd
    have h1 : (upd H d (.dK [])) d = some (.dK []) := upd_same
    generalize upd H d (.dK []) = H1 at k1 h1 ⊢
    dsimp only [gName]
    obtain ⟨a, gv, rfl, ha, hg⟩ := hy
    refine ⟨_, rfl, a, rfl, seq_itK (ha.up k0) k1 fun J S wk hS => ?_⟩
    refine for_it wk (fun i σ G => ∃ o3 o4 o5 o6 kvs F, σ = [some x, some (.ref a), some (.ref d), o3, o4, o5, o6] ∧ Same H G ∧ G d = some (.dK kvs) ∧ RdI H G kvs F ((gs.take i).flatMap fun g => g.2.2.map fun e => (e.1, g.1))) ⟨_, _, _, _, [], [], rfl, k1, h1, ⟨.nil, List.nodup_nil, List.nodup_nil, Nat.le_refl _, fun _ _ h => (nomatch h), fun _ h => (nomatch h), fun s n => ⟨fun h => (nomatch h), fun h => (nomatch h)⟩⟩⟩ (fun i σ G _ ⟨_, _, _, _, _, _, _, kG, _⟩ => hS G kG) ?_ ?_
    · rintro i v σ G G' hi ⟨o3, o4, o5, o6, kvs, F, rfl, kG, gd, hI⟩ ⟨rfl, hv⟩
      obtain ⟨g, hgi, hdd⟩ := Pd.at hg hv
      have hs := fm_take (f := fun g : GateK => g.2.2.map fun e => (e.1, g.1)) hgi
      have hle := fm_le (f := fun g : GateK => g.2.2.map fun e => (e.1, g.1)) gs (i + 1)
      have hpl' : (gs.flatMap fun g => g.2.2.map fun e => (e.1, g.1)).length ≤ 100000 := hpl
      rw [hs, List.length_append, List.length_map] at hle
      refine gate_to (Same.tr k0 kG) hdd (q := fun x' he => ?_)
      obtain ⟨b, es, rfl, hb, hp⟩ := he
      have hbG := (hb.up (Same.tr k0 kG)).A
      generalize hps : ((gs.take i).flatMap fun g => g.2.2.map fun e => (e.1, g.1)) = ps at hI hs hle
      refine ⟨_, rfl, b, rfl, seq_itK ((hb.up k0).A) kG fun J S wk2 hS2 => ?_⟩
      refine for_it wk2 (fun j σ M => ∃ o4 o6 kvs F, σ = [some x, some (.ref a), some (.ref d), some (.str g.1), o4, some (.ref b), o6] ∧ Same H M ∧ M d = some (.dK kvs) ∧ RdI H M kvs F (ps ++ (g.2.2.take j).map fun e => (e.1, g.1))) ⟨_, _, kvs, F, rfl, kG, gd, by rw [List.take_zero, List.map_nil, List.append_nil]; exact hI⟩ (fun j σ M _ ⟨_, _, _, _, _, kM, _⟩ => hS2 M kM) ?_ ?_
      · rintro j v2 σ M M' hj ⟨o4, o6, kvs, F, rfl, kM, md, hI⟩ ⟨rfl, hv2⟩
        obtain ⟨e, hej, hed⟩ := Pd.at hp hv2
        have hjl : j < g.2.2.length := (List.getElem?_eq_some_iff.mp hej).1
        have hps2 : ps ++ (g.2.2.take (j + 1)).map (fun e => (e.1, g.1)) = (ps ++ (g.2.2.take j).map fun e => (e.1, g.1)) ++ [(e.1, g.1)] := by
          rw [tk_snoc hej, List.map_append, List.append_assoc]
          rfl
        have hpl2 : (ps ++ (g.2.2.take j).map fun e => (e.1, g.1)).length ≤ 100000 := by
          rw [List.length_append, List.length_map, List.length_take]
          omega
        generalize (ps ++ (g.2.2.take j).map fun e => (e.1, g.1)) = ps1 at hI hps2 hpl2
        have kvl : kvs.length ≤ 100000 := by
          have := hI.ls.length
          have := hI.fl
          omega
        refine edge_to (Same.tr k0 kM) hed (q := fun b2 hb2 => ?_)
        refine ⟨_, rfl, d, rfl, .inl ⟨_, .inl md⟩, _, rfl, (by show 0 ≤ sizeLine; decide), fun p hp0 => ?_⟩
        have k2 : Same M' (upd M' p (.lst [])) := Same.put hp0
        have h2 : (upd M' p (.lst [])) p = some (.lst ([] : List V)) := upd_same
        have md2 := k2 _ _ md
        have hI2 := hI.up k2
        have hpH : H p = none := Same.none kM hp0
        have npd : p ≠ d := fun z => by rw [z, md] at hp0; cases hp0
        have kM2 := Same.tr kM k2
        generalize upd M' p (.lst []) = M2 at k2 h2 md2 hI2 kM2 ⊢
        obtain ⟨i1, i2⟩ := hI2.ls.val e.1
        refine ⟨kvs, Sum.inr e.1, md2, rfl, (by rw [PySem.sizeLine_eq]; omega), fun v3 hv3 => ?_, fun hv3 => ?_⟩
        · cases hF : F.lookup e.1 with
          | none => rw [i2 hF] at hv3; cases hv3
          | some ys =>
            obtain ⟨c, hc1, hc2⟩ := i1 ys hF
            rw [hc1] at hv3
            cases hv3
            have hyl := hI2.yl _ _ hF
            have hcH : H c = none := hI2.fr c (by
              unfold valV at hc1
              obtain ⟨kv', z1, z2⟩ := Option.map_eq_some_iff.mp hc1
              rw [← z2]
              exact List.mem_map_of_mem (List.mem_of_find?_eq_some z1))
            have ncd : d ≠ c := fun z => by rw [← z, md2] at hc2; cases hc2
            refine ⟨.inl ⟨rfl, _, SqL.of hc2⟩, _, rfl, c, _, .str g.1, rfl, rfl, hc2, (by rw [List.length_map, PySem.sizeLine_eq]; omega), ?_⟩
            have hgr := hI2.grow (n := g.1) hF hc1
            rw [List.map_append, ← hps2] at hgr
            exact ⟨_, _, kvs, _, rfl, Same.at0 hcH kM2, (upd_ne ncd).trans md2, hgr⟩
        · cases hF : F.lookup e.1 with
          | some ys =>
            obtain ⟨c, hc1, hc2⟩ := i1 ys hF
            rw [hc1] at hv3
            cases hv3
          | none =>
            rw [putK_new _ hv3]
            have p3 : (upd M2 d (.dK (kvs ++ [(Sum.inr e.1, V.ref p)]))) p = some (.lst []) := (upd_ne npd).trans h2
            refine ⟨.inl ⟨rfl, _, SqL.of p3⟩, _, rfl, p, _, .str g.1, rfl, rfl, p3, (by show 0 < sizeLine; decide), ?_⟩
            have hnew : V.ref p ∉ kvs.map (·.2) := fun z => by
              obtain ⟨kv, hkv, ekv⟩ := List.mem_map.mp z
              obtain ⟨t, ht, et⟩ := List.getElem_of_mem hkv
              obtain ⟨pr, _, _, c, e5, h5⟩ := Pd.at hI.ls (show kvs[t]? = some kv by rw [List.getElem?_eq_getElem ht, et])
              rw [ekv] at e5
              cases e5
              rw [hp0] at h5
              cases h5
            have hIp : RdI H (upd (upd M2 d (.dK (kvs ++ [(Sum.inr e.1, V.ref p)]))) p (.lst ([] ++ [V.str g.1]))) kvs F ps1 := by
              have h5 := hI2.put (k1 := kvs ++ [(Sum.inr e.1, V.ref p)]) md2
              refine ⟨Paired.mono (fun kv pr q => q) ?_, h5.vn, h5.fn, h5.fl, h5.yl, h5.fr, h5.me⟩
              have go : ∀ {kvs : List (Key × V)} {F : List (Str × List Str)} {W : Hp}, LsD W kvs F → V.ref p ∉ kvs.map (·.2) → LsD (upd W p (.lst ([] ++ [V.str g.1]))) kvs F := by
                intro kvs F W ls
                induction ls with
                | nil => intro _; exact .nil
                | cons r t ih =>
                  intro hn
                  rw [List.map_cons, List.mem_cons, not_or] at hn
                  obtain ⟨f1, c, f2, hc⟩ := r
                  exact .cons ⟨f1, c, f2, (upd_ne fun z => hn.1 (by rw [f2, z])).trans hc⟩ (ih hn.2)
              exact go h5.ls hnew
            have hfr := hIp.fresh hF hpH upd_same hnew
            rw [← hps2] at hfr
            exact ⟨_, _, _, _, rfl, Same.at0 hpH (Same.at0 hd kM2), (upd_ne npd.symm).trans upd_same, hfr⟩
      · rintro σ M ⟨o4, o6, kvs, F, rfl, kM, md, hI⟩
        rw [hp.length, List.take_length] at hI
        refine ⟨_, _, _, _, kvs, F, rfl, kM, md, ?_⟩
        rw [hs]
        exact hI
    · rintro σ G ⟨o3, o4, o5, o6, kvs, F, rfl, kG, gd, hI⟩
      rw [hg.length, List.take_length] at hI
      have hme : ∀ s n, n ∈ (F.lookup s).getD [] ↔ (s, n) ∈ pairsE gs := hI.me
      refine ⟨_, rfl, _, rfl, x, d, ins, U, kvs, F, rfl, (hx.up k0).up kG, gd, hI.ls, hil, hUl, hiU, fun n m hm => ?_, fun a2 ks H2 k2 h2 hks => ?_⟩
      · obtain ⟨g, hg', e, _, _, e2⟩ := pairs_mem.mp ((hme _ _).mp hm)
        rw [← e2]
        exact hgU g hg'
      · exact q a2 ks H2 (Same.tr kG k2) h2 fun n => (hks n).trans (fed_iff hme n)

/-- the names that lead to outs, each True in a new dict -/
def spBegs (K : PySem.W.Frag) : Sp := fun vs H Q _ => ∃ (H0 : Hp) (x y : V) (gs : List GateK) (os : List EdgeK) (U : List Str), vs = [x, y] ∧ Same H0 H ∧ GatesD K H0 x gs ∧ EdgesD K H0 y os ∧ (gs.map (·.1)).Nodup ∧ gs.length ≤ 100000 ∧ (∀ g ∈ gs, g.2.2.length ≤ 100000) ∧ os.length ≤ 100000 ∧ U.length ≤ 100000 ∧ (∀ e ∈ os, e.1 ∈ U) ∧ (∀ g ∈ gs, ∀ e ∈ g.2.2, e.1 ∈ U) ∧
  ∀ (a : Addr) (ks : List Str) (H' : Hp), Same H H' → H' a = some (.dK (kvN ks)) → (∀ n, n ∈ ks ↔ Led gs os n) → Q (.ref a) H'
def srcF (gs : List GateK) : List (Str × List Str) := gs.map fun g => (g.1, g.2.2.map (·.1))
theorem srcF_mem {gs : List GateK} (nd : (gs.map (·.1)).Nodup) {n m : Str} : m ∈ ((srcF gs).lookup n).getD [] ↔ ∃ g ∈ gs, g.1 = n ∧ ∃ e ∈ g.2.2, e.1 = m := by
  constructor
  · intro h
    by_cases hn : n ∈ gs.map (·.1)
    · obtain ⟨g, hg, rfl⟩ := List.mem_map.mp hn
      unfold srcF at h
      rw [lookup_map (f := fun g : GateK => g.1) (v := fun g : GateK => g.2.2.map (·.1)) nd hg] at h
      obtain ⟨e, he, e2⟩ := List.mem_map.mp h
      exact ⟨g, hg, rfl, e, he, e2⟩
    · rw [lookup_none (F := srcF gs) (by unfold srcF; rw [List.map_map]; exact hn)] at h
      cases h
  · rintro ⟨g, hg, rfl, e, he, rfl⟩
    unfold srcF
    rw [lookup_map (f := fun g : GateK => g.1) (v := fun g : GateK => g.2.2.map (·.1)) nd hg]
    exact List.mem_map_of_mem he
theorem led_iff {gs : List GateK} {os : List EdgeK} (nd : (gs.map (·.1)).Nodup) (n : Str) : Spr (· ∈ os.map (·.1)) (fun m => ((srcF gs).lookup m).getD []) n ↔ Led gs os n := by
  constructor
  · intro q
    induction q with
    | base h =>
      obtain ⟨e, he, rfl⟩ := List.mem_map.mp h
      exact .out he
    | step _ hn ih =>
      obtain ⟨g, hg, e1, e, he, e2⟩ := (srcF_mem nd).mp hn
      rw [← e2]
      exact .step hg (by rw [e1]; exact ih) he
  · intro q
    induction q with
    | out h => exact .base (List.mem_map_of_mem h)
    | step hg _ he ih => exact .step ih ((srcF_mem nd).mpr ⟨_, hg, rfl, _, he, rfl⟩)

abbrev sBw : Stmt := top 30
abbrev nBw : List Str := ["gates", "outs", "sources", "name", "_", "edges", "source"]
theorem scBw : FnScope nBw ["gates", "outs"] (defScope sBw) := ⟨rfl, rfl, rfl, by decide +kernel, rfl, by decide +kernel, by decide +kernel⟩

theorem ok_Bw (F : Fun K "beginnings_of_ways" "beginnings_of_ways" sBw f fd) (CS : Cg P w K mg base 1 "_spread" (spSpread K)) : FnG P w K mg base CX0 2 f fd ["gates", "outs"] (spBegs K) := by
  refine FunG.ok F scBw (fun vs H Q E h => ?_) (fun cdv B out s H vs Q E hr hG h => ?_)
  · obtain ⟨H0, x, y, gs, os, U, rfl, _⟩ := h
    rfl
  · obtain ⟨H0, x, y, gs, os, U, rfl, k0, hx, hy, nd, hl, he3, hol, hUl, hoU, hgU, q⟩ := h
    refine ⟨_, (pss_cons (ps_set (i := 2) scBw.nd rfl (.inl rfl) pe_dnewK)
      (pss_cons (ps_for PassesOwn.never rfl (pi_seq (pv 0)) (pg_seq rfl (pgs_cons (pg_name (i := 3) scBw.nd rfl (Or.inl rfl)) (pgs_cons (pg_name (i := 4) scBw.nd rfl (Or.inl rfl)) (pgs_cons (pg_name (i := 5) scBw.nd rfl (Or.inl rfl)) pgs_nil)))) (pss_one (ps_dput (hu1 hr) (pv 2) (pv 3) (pe_lc (own := [("source", 6), ("_", 4)]) (g := gSeq K 2 (gCons (gName 6) (gCons (gName 4) gNil))) (tt := tYes) rfl scBw.nd (pi_seq (pv 5)) (blkOk_by (N := nBw) (sc := defScope sBw) (by decide +kernel)) (fun _ _ _ _ _ => pg_seq rfl (pgs_cons (pg_name (i := 6) scBw.nd rfl (Or.inl rfl)) (pgs_cons (pg_name (i := 4) scBw.nd rfl (Or.inl rfl)) pgs_nil))) (fun _ _ _ _ _ => pts_nil) (fun _ _ _ _ _ => (pv 6))) rfl)))
      (pss_one (ps_ret (pe_g CS hr hG (by decide) (by rfl) (pa_cons (pe_lc (own := [("source", 6), ("_", 4)]) (g := gSeq K 2 (gCons (gName 6) (gCons (gName 4) gNil))) (tt := tYes) rfl scBw.nd (pi_seq (pv 1)) (blkOk_by (N := nBw) (sc := defScope sBw) (by decide +kernel)) (fun _ _ _ _ _ => pg_seq rfl (pgs_cons (pg_name (i := 6) scBw.nd rfl (Or.inl rfl)) (pgs_cons (pg_name (i := 4) scBw.nd rfl (Or.inl rfl)) pgs_nil))) (fun _ _ _ _ _ => pts_nil) (fun _ _ _ _ _ => (pv 6))) (pa_cons (pv 2) pa_nil))))))), ?_⟩
    refine fun d hd => ?_
    have k1 : Same H (upd H d (.dK [])) := Same.put hd
    have h1 : (upd H d (.dK [])) d = some (.dK []) := upd_same
    generalize upd H d (.dK []) = H1 at k1 h1 ⊢
    dsimp only [gName]
    obtain ⟨a, gv, rfl, ha, hg⟩ := hx
    refine ⟨_, rfl, a, rfl, seq_itK (ha.up k0) k1 fun J S wk hS => ?_⟩
    refine for_it wk (fun i σ G => ∃ o3 o4 o5 o6 kvs, σ = [some (.ref a), some y, some (.ref d), o3, o4, o5, o6] ∧ Same H G ∧ G d = some (.dK kvs) ∧ LsD G kvs ((srcF gs).take i)) ⟨_, _, _, _, [], rfl, k1, h1, .nil⟩ (fun i σ G _ ⟨_, _, _, _, _, _, kG, _⟩ => hS G kG) ?_ ?_
    · rintro i v σ G G' hi ⟨o3, o4, o5, o6, kvs, rfl, kG, gd, hk⟩ ⟨rfl, hv⟩
      obtain ⟨g, hgi, hdd⟩ := Pd.at hg hv
      have hgm : g ∈ gs := List.mem_of_getElem? hgi
      have hig : i < gs.length := (List.getElem?_eq_some_iff.mp hgi).1
      refine gate_to (Same.tr k0 kG) hdd (q := fun x' he => ?_)
      obtain ⟨b, es, rfl, hb, hp⟩ := he
      refine ⟨_, rfl, b, rfl, seq_itK ((hb.up k0).A) kG fun J S wk hS => fun D2 hD2 => lc_it wk (fun j M => Same G' M ∧ M D2 = some (.lst (((g.2.2.take j).map (·.1)).map V.str))) ⟨Same.put hD2, upd_same⟩ (fun j M _ h => hS M (Same.tr kG h.1)) ?_ ?_⟩
      · rintro j v2 M M' hj ⟨kM, md⟩ ⟨rfl, hv2⟩
        obtain ⟨e, hej, hed⟩ := Pd.at hp hv2
        have h3 := he3 g hgm
        refine edge_to (Same.tr k0 (Same.tr kG kM)) hed (q := fun b2 hb2 => ⟨rfl, _, rfl, _, md, (by rw [List.length_map, List.length_map, List.length_take, PySem.sizeLine_eq]; omega), Same.at0 hD2 kM, ?_⟩)
        rw [upd_same, tk_snoc hej, List.map_append, List.map_append]
        rfl
      · rintro M ⟨kM, md⟩
        rw [hp.length, List.take_length] at md
        have kvl := hk.length
        rw [List.length_take] at kvl
        have hnn : valV kvs (Sum.inr g.1) = none := by
          refine (hk.val g.1).2 (lookup_none fun z => ?_)
          unfold srcF at z
          rw [← List.map_take, List.map_map] at z
          obtain ⟨g2, hg2, e2⟩ := List.mem_map.mp z
          obtain ⟨j, hj, ej⟩ := List.getElem_of_mem hg2
          rw [List.length_take] at hj
          rw [List.getElem_take] at ej
          have hi1 : (gs.map (·.1))[i]? = some g.1 := by rw [List.getElem?_map, hgi]; rfl
          have hj1 : (gs.map (·.1))[j]? = some g.1 := by
            rw [List.getElem?_map, List.getElem?_eq_getElem (by omega), ej]
            exact congrArg some e2
          have := (List.getElem?_inj (by rw [List.length_map]; omega) nd).mp (hj1.trans hi1.symm)
          omega
        refine ⟨_, rfl, _, rfl, d, _, rfl, DPut.k (kM _ _ gd) (k := Sum.inr g.1) (by rw [PySem.sizeLine_eq]; omega), ?_⟩
        rw [putK_new _ hnn]
        refine ⟨_, _, _, _, _, rfl, Same.at0 hd (Same.tr kG kM), upd_same, ?_⟩
        have hF : (srcF gs).take (i + 1) = (srcF gs).take i ++ [(g.1, g.2.2.map (·.1))] := tk_snoc (by unfold srcF; rw [List.getElem?_map, hgi]; rfl)
        rw [hF]
        have ne : D2 ≠ d := fun z => by rw [z, gd] at hD2; cases hD2
        exact Paired.snoc ((hk.up kM).put (kM _ _ gd)) ⟨rfl, D2, rfl, (upd_ne ne).trans md⟩
    · rintro σ G ⟨o3, o4, o5, o6, kvs, rfl, kG, gd, hk⟩
      have hlen : gs.length = (srcF gs).length := by unfold srcF; rw [List.length_map]
      rw [hg.length, hlen, List.take_length] at hk
      obtain ⟨b, es, rfl, hb, hp⟩ := hy
      refine ⟨_, rfl, b, rfl, seq_itK ((hb.up k0).A) kG fun J S wk hS => fun D2 hD2 => lc_it wk (fun j M => Same G M ∧ M D2 = some (.lst (((os.take j).map (·.1)).map V.str))) ⟨Same.put hD2, upd_same⟩ (fun j M _ h => hS M (Same.tr kG h.1)) ?_ ?_⟩
      · rintro j v2 M M' hj ⟨kM, md⟩ ⟨rfl, hv2⟩
        obtain ⟨e, hej, hed⟩ := Pd.at hp hv2
        refine edge_to (Same.tr k0 (Same.tr kG kM)) hed (q := fun b2 hb2 => ⟨rfl, _, rfl, _, md, (by rw [List.length_map, List.length_map, List.length_take, PySem.sizeLine_eq]; omega), Same.at0 hD2 kM, ?_⟩)
        rw [upd_same, tk_snoc hej, List.map_append, List.map_append]
        rfl
      · rintro M ⟨kM, md⟩
        rw [hp.length, List.take_length] at md
        refine ⟨_, rfl, _, d, os.map (·.1), U, kvs, srcF gs, rfl, ⟨D2, rfl, .inl (SqL.of md)⟩, kM _ _ gd, hk.up kM, (by rw [List.length_map]; exact hol), hUl, fun n hn => ?_, fun n m hm => ?_, fun a2 ks H2 k2 h2 hks => ?_⟩
        · obtain ⟨e, he, rfl⟩ := List.mem_map.mp hn
          exact hoU e he
        · obtain ⟨g, hg', _, e, he, rfl⟩ := (srcF_mem nd).mp hm
          exact hgU g hg' e he
        · exact q a2 ks H2 (Same.tr kG (Same.tr kM k2)) h2 fun n => (hks n).trans (led_iff nd n)
end
end T10
set_option Elab.async false
set_option linter.all false
set_option maxRecDepth 100000
set_option maxHeartbeats 4000000
namespace T10
open PySem PySem.Spec PyProof.Rows L2 Tp
section
variable {P : Program} {w : World} {K : PySem.W.Frag} {mg : Str → Option Value} {base : Heap} {f : Addr} {fd : FuncData}


theorem name_len {z : Str} (h : nameB (TL.tl z) = true) : z.length ≤ 8 := by
  unfold nameB at h
  rw [Bool.and_eq_true] at h
  have := of_decide_eq_true h.1
  have hz : z.length = (TL.tl z).length := TL.len_tl z
  omega
theorem name_ask {K : PySem.W.Frag} {H : Hp} {z : Str} {Q : VK} {E : XK} (h : nameB (TL.tl z) = true) (q : ∀ H', Same H H' → Q (.bl true) H') : spName K [.str z] H Q E := by
  have := name_len h
  refine ⟨_, "str", rfl, vk_str z (by omega), fun e => absurd rfl e, fun z' e H' s => ?_⟩
  cases e
  rw [h]
  exact q H' s
theorem list_ask {K : PySem.W.Frag} {H : Hp} {a : Addr} {xs : List V} {Q : VK} {E : XK} (h : SqA K H a xs) (q : ∀ H', Same H H' → Q (.bl true) H') : spList K [.ref a] H Q E := by
  obtain ⟨k, hk, e⟩ := vk_seqA h
  refine ⟨_, k, rfl, hk, fun H' s => ?_⟩
  rw [e]
  exact q H' s
/-- a name that is free is put among those that are taken -/
def spTakeN (K : PySem.W.Frag) : Sp := fun vs H Q _ => ∃ (H0 : Hp) (n : Str) (d : Addr) (ks : List Str), vs = [.str n, .ref d] ∧ Same H0 H ∧ H0 d = none ∧ H d = some (.dK (kvN ks)) ∧ nameB (TL.tl n) = true ∧ n ∉ ks ∧ ks.length ≤ 100000 ∧
  ∀ G : Hp, Same H0 G → G d = some (.dK (kvN (ks ++ [n]))) → Q .non G

abbrev sTn : Stmt := top 35
abbrev nTn : List Str := ["value", "names"]
theorem scTn : FnScope nTn ["value", "names"] (defScope sTn) := ⟨rfl, rfl, rfl, by decide +kernel, rfl, by decide +kernel, by decide +kernel⟩

theorem ok_Tn (F : Fun K "_take_name" "_take_name" sTn f fd) (N : Cg P w K mg base 1 "is_name" (spName K)) : FnG P w K mg base CX0 2 f fd ["value", "names"] (spTakeN K) := by
  refine FunG.ok F scTn (fun vs H Q E h => ?_) (fun cdv B out s H vs Q E hr hG h => ?_)
  · obtain ⟨H0, n, d, ks, rfl, _⟩ := h
    rfl
  · obtain ⟨H0, n, d, ks, rfl, k0, d0, hd, hn, hk, hkl, q⟩ := h
    refine ⟨_, (pss_cons (ps_if (pt_not (pt_val (pe_g N hr hG (by decide) (by rfl) (pa_cons (pv 0) pa_nil)))) (pss_one (ps_never)) pss_nil)
      (pss_cons (ps_if (pt_cmp (pc_din (hu1 hr) (pv 0) (pv 1))) (pss_one (ps_never)) pss_nil)
      (pss_one (ps_dput (hu1 hr) (pv 1) (pv 0) pe_bl rfl)))), ?_⟩
    refine ⟨_, rfl, ?_⟩
    dsimp only [tNil]
    refine name_ask hn fun H1 k1 => ⟨_, rfl, iteF ?_⟩
    refine ⟨_, rfl, _, rfl, d, _, rfl, DGet.k (k1 _ _ hd) (k := Sum.inr n), _, rfl, ?_⟩
    rw [valN, if_neg hk]
    refine iteF ?_
    refine ⟨_, rfl, _, rfl, d, _, rfl, DPut.k (k1 _ _ hd) (k := Sum.inr n) (by rw [kvN_len, PySem.sizeLine_eq]; omega), ?_⟩
    rw [putN hk]
    exact q _ (Same.at0 d0 (Same.tr k0 k1)) upd_same

def spInsN (K : PySem.W.Frag) : Sp := fun vs H Q _ => ∃ (H0 : Hp) (x : V) (d : Addr) (ns : List Str), vs = [x, .ref d] ∧ Same H0 H ∧ H0 d = none ∧ H d = some (.dK (kvN [])) ∧ NamesD K H0 x ns ∧ (∀ n ∈ ns, nameB (TL.tl n) = true) ∧ ns.Nodup ∧ ns.length ≤ 1000 ∧
  ∀ G : Hp, Same H0 G → G d = some (.dK (kvN ns)) → Q .non G
theorem nodup_at {α : Type} {ns : List α} (h : ns.Nodup) {i : Nat} {n : α} (hn : ns[i]? = some n) : n ∉ ns.take i := fun z => by
  obtain ⟨j, hj, e⟩ := List.getElem_of_mem z
  rw [List.length_take] at hj
  rw [List.getElem_take] at e
  have hi := (List.getElem?_eq_some_iff.mp hn).1
  have := (List.getElem?_inj (by omega) h).mp ((show ns[j]? = some n by rw [List.getElem?_eq_getElem (by omega), e]).trans hn.symm)
  omega

abbrev sCi : Stmt := top 34
abbrev nCi : List Str := ["inputs", "names", "item"]
theorem scCi : FnScope nCi ["inputs", "names"] (defScope sCi) := ⟨rfl, rfl, rfl, by decide +kernel, rfl, by decide +kernel, by decide +kernel⟩

theorem ok_Ci (F : Fun K "_check_inputs" "_check_inputs" sCi f fd) (TK : Cg P w K mg base 2 "_take_name" (spTakeN K)) : FnG P w K mg base CX0 3 f fd ["inputs", "names"] (spInsN K) := by
  refine FunG.ok F scCi (fun vs H Q E h => ?_) (fun cdv B out s H vs Q E hr hG h => ?_)
  · obtain ⟨H0, x, d, ns, rfl, _⟩ := h
    rfl
  · obtain ⟨H0, x, d, ns, rfl, k0, d0, hd, hx, hn, nd, hl, q⟩ := h
    refine ⟨_, (pss_one (ps_for PassesOwn.never rfl (pi_seq (pv 0)) (pg_name (i := 2) scCi.nd rfl (Or.inl rfl)) (pss_one (ps_expr (pe_g TK hr hG (by decide) (by rfl) (pa_cons (pv 2) (pa_cons (pv 1) pa_nil))))))), ?_⟩
    obtain ⟨a, rfl, ha⟩ := hx
    refine ⟨_, rfl, a, rfl, seq_itK ha k0 fun J S wk hS => ?_⟩
    refine for_it wk (fun i σ G => ∃ o2, σ = [some (.ref a), some (.ref d), o2] ∧ Same H0 G ∧ G d = some (.dK (kvN (ns.take i)))) ⟨_, rfl, k0, hd⟩ (fun i σ G _ ⟨_, _, kG, _⟩ => hS G kG) ?_ ?_
    · rintro i v σ G G' hi ⟨o2, rfl, kG, gd⟩ ⟨rfl, hv⟩
      rw [List.getElem?_map] at hv
      obtain ⟨n, hni, rfl⟩ := Option.map_eq_some_iff.mp hv
      refine ⟨_, rfl, _, rfl, H0, n, d, ns.take i, rfl, kG, d0, gd, hn n (List.mem_of_getElem? hni), nodup_at nd hni, (by rw [List.length_take]; omega), fun M kM md => ?_⟩
      rw [← tk_snoc hni] at md
      exact ⟨_, rfl, kM, md⟩
    · rintro σ G ⟨o2, rfl, kG, gd⟩
      rw [List.length_map, List.take_length] at gd
      exact q G kG gd

def spGatN (K : PySem.W.Frag) : Sp := fun vs H Q _ => ∃ (H0 : Hp) (x : V) (d : Addr) (ks : List Str) (gs : List GateK), vs = [x, .ref d] ∧ Same H0 H ∧ H0 d = none ∧ H d = some (.dK (kvN ks)) ∧ GatesD K H0 x gs ∧ (∀ g ∈ gs, nameB (TL.tl g.1) = true ∧ nameB (TL.tl g.2.1) = true ∧ 1 ≤ g.2.2.length ∧ g.2.2.length ≤ 3) ∧ (ks ++ gs.map (·.1)).Nodup ∧ ks.length ≤ 1000 ∧ gs.length ≤ 1000 ∧
  ∀ G : Hp, Same H0 G → G d = some (.dK (kvN (ks ++ gs.map (·.1)))) → Q .non G
theorem gate_asg {K : PySem.W.Frag} {G : Hp} {a : Addr} {x y z : V} (h : SqA K G a [x, y, z]) {i j k n : Nat} (hn : n = 3 := by rfl) {σ : L2.St} {R : L2.St → Hp → Prop} (q : R (((σ.set i (some x)).set j (some y)).set k (some z)) G) :
    gSeq K n (gCons (gName i) (gCons (gName j) (gCons (gName k) gNil))) (.ref a) σ G R := by
  subst hn
  exact gSeq_of h rfl ⟨_, _, rfl, _, _, rfl, _, _, rfl, rfl, q⟩
theorem pair_asg {K : PySem.W.Frag} {G : Hp} {a : Addr} {x y : V} (h : SqA K G a [x, y]) {i j n : Nat} (hn : n = 2 := by rfl) {σ : L2.St} {R : L2.St → Hp → Prop} (q : R ((σ.set i (some x)).set j (some y)) G) :
    gSeq K n (gCons (gName i) (gCons (gName j) gNil)) (.ref a) σ G R := by
  subst hn
  exact gSeq_of h rfl ⟨_, _, rfl, _, _, rfl, rfl, q⟩

abbrev sCg : Stmt := top 36
abbrev nCg : List Str := ["gates", "names", "item", "name", "symbol", "edges"]
theorem scCg : FnScope nCg ["gates", "names"] (defScope sCg) := ⟨rfl, rfl, rfl, by decide +kernel, rfl, by decide +kernel, by decide +kernel⟩

theorem ok_Cg (F : Fun K "_check_gates" "_check_gates" sCg f fd) (T : TxtV mg) (L : Cg P w K mg base 1 "is_list" (spList K)) (N : Cg P w K mg base 1 "is_name" (spName K)) (TK : Cg P w K mg base 2 "_take_name" (spTakeN K)) : FnG P w K mg base CX0 3 f fd ["gates", "names"] (spGatN K) := by
  refine FunG.ok F scCg (fun vs H Q E h => ?_) (fun cdv B out s H vs Q E hr hG h => ?_)
  · obtain ⟨H0, x, d, ks, gs, rfl, _⟩ := h
    rfl
  · obtain ⟨H0, x, d, ks, gs, rfl, k0, d0, hd, hx, hg0, nd, hkl, hl, q⟩ := h
    refine ⟨_, (pss_one (ps_for PassesOwn.never rfl (pi_seq (pv 0)) (pg_name (i := 2) scCg.nd rfl (Or.inl rfl)) (pss_cons (ps_if (PW.pt (pw_or (pt_not (pt_val (pe_g L hr hG (by decide) (by rfl) (pa_cons (pv 2) pa_nil)))) (pw_or1 (pt_cmpR op_ne (pe_callB call_len (by rfl) T.len PySem.boot_len (pa_cons (pv 2) pa_nil)) pe_int (nomark _))))) (pss_one (ps_never)) pss_nil)
        (pss_cons (ps_asg (pv 2) (pg_seq rfl (pgs_cons (pg_name (i := 3) scCg.nd rfl (Or.inl rfl)) (pgs_cons (pg_name (i := 4) scCg.nd rfl (Or.inl rfl)) (pgs_cons (pg_name (i := 5) scCg.nd rfl (Or.inl rfl)) pgs_nil)))))
        (pss_cons (ps_expr (pe_g TK hr hG (by decide) (by rfl) (pa_cons (pv 3) (pa_cons (pv 1) pa_nil))))
        (pss_cons (ps_if (pt_not (pt_val (pe_g N hr hG (by decide) (by rfl) (pa_cons (pv 4) pa_nil)))) (pss_one (ps_never)) pss_nil)
        (pss_one (ps_if (PW.pt (pw_or (pt_not (pt_val (pe_g L hr hG (by decide) (by rfl) (pa_cons (pv 5) pa_nil)))) (pw_or1 (pt_not (pt_chain op_le op_le pe_int (pe_callB call_len (by rfl) T.len PySem.boot_len (pa_cons (pv 5) pa_nil)) (gl_c (by rfl) T.most)))))) (pss_one (ps_never)) pss_nil)))))))), ?_⟩
    obtain ⟨a, gv, rfl, ha, hg⟩ := hx
    refine ⟨_, rfl, a, rfl, seq_itK ha k0 fun J S wk hS => ?_⟩
    refine for_it wk (fun i σ G => ∃ o2 o3 o4 o5, σ = [some (.ref a), some (.ref d), o2, o3, o4, o5] ∧ Same H0 G ∧ G d = some (.dK (kvN (ks ++ (gs.map (·.1)).take i)))) ⟨_, _, _, _, rfl, k0, by rw [List.take_zero, List.append_nil]; exact hd⟩ (fun i σ G _ ⟨_, _, _, _, _, kG, _⟩ => hS G kG) ?_ ?_
    · rintro i v σ G G' hi ⟨o2, o3, o4, o5, rfl, kG, gd⟩ ⟨rfl, hv⟩
      obtain ⟨g, hgi, hdd⟩ := Pd.at hg hv
      obtain ⟨hn1, hn2, hl1, hl2⟩ := hg0 g (List.mem_of_getElem? hgi)
      obtain ⟨b, x', rfl, hb, c, es, rfl, hc, hp⟩ := hdd
      refine ⟨_, rfl, ?_⟩
      dsimp only [tNil]
      refine list_ask (hb.up kG) fun H1 k1 => ⟨_, rfl, ?_⟩
      have k01 := Same.tr kG k1
      refine iteF ⟨_, rfl, _, _, rfl, lenA (hb.up k01), rfl, _, rfl, ?_⟩
      refine if_false_of (ne_dec2 rfl) ?_
      refine ⟨_, rfl, gate_asg (hb.up k01) (q := ?_)⟩
      have hi1 : (gs.map (·.1))[i]? = some g.1 := by rw [List.getElem?_map, hgi]; rfl
      have hig : i < gs.length := (List.getElem?_eq_some_iff.mp hgi).1
      have hnk : g.1 ∉ ks ++ (gs.map (·.1)).take i := fun z => by
        have := nodup_at nd (i := ks.length + i) (n := g.1) (by rw [List.getElem?_append_right (by omega), Nat.add_sub_cancel_left]; exact hi1)
        rw [List.take_append, List.take_of_length_le (by omega), Nat.add_sub_cancel_left] at this
        exact this z
      refine ⟨_, rfl, _, rfl, H0, g.1, d, _, rfl, k01, d0, k1 _ _ gd, hn1, hnk, (by rw [List.length_append, List.length_take, List.length_map]; omega), fun M kM md => ?_⟩
      refine ⟨_, rfl, ?_⟩
      dsimp only [tNil]
      refine name_ask hn2 fun H2 k2 => ⟨_, rfl, iteF ?_⟩
      refine ⟨_, rfl, ?_⟩
      dsimp only [tNil]
      refine list_ask ((hc.up (Same.tr kM k2)).A) fun H3 k3 => ⟨_, rfl, ?_⟩
      have k03 := Same.tr kM (Same.tr k2 k3)
      refine iteF ⟨_, rfl, _, _, rfl, lenA ((hc.up k03).A), _, _, rfl, rfl, _, rfl, ?_⟩
      have e1 : (1 : Int) ≤ ((es.length : Nat) : Int) := by rw [hp.length]; omega
      have e2 : ((es.length : Nat) : Int) ≤ 3 := by rw [hp.length]; omega
      rw [decide_eq_true e1]
      refine iteT ⟨_, _, rfl, rfl, _, rfl, ?_⟩
      refine if_false_of (by rw [decide_eq_true e2]; rfl) ?_
      refine ⟨_, _, _, _, rfl, k03, ?_⟩
      rw [tk_snoc hi1, ← List.append_assoc]
      exact k3 _ _ (k2 _ _ md)
    · rintro σ G ⟨o2, o3, o4, o5, rfl, kG, gd⟩
      have e : gv.length = (gs.map (·.1)).length := by rw [hg.length, List.length_map]
      rw [e, List.take_length] at gd
      exact q G kG gd
end
end T10
set_option Elab.async false
set_option linter.all false
set_option maxRecDepth 100000
set_option maxHeartbeats 4000000
namespace T10
open PySem PySem.Spec PyProof.Rows L2 Tp
section
variable {P : Program} {w : World} {K : PySem.W.Frag} {mg : Str → Option Value} {base : Heap} {f : Addr} {fd : FuncData}


/-- are all these indices -/
def spInd (K : PySem.W.Frag) : Sp := fun vs H Q _ => ∃ (b : Addr) (c : Int) (ns : List Int), vs = [.ref b, .int c] ∧ SqA K H b (ns.map V.int) ∧ ns.length ≤ 100000 ∧
  ∀ H' : Hp, Same H H' → Q (.bl (ns.all fun m => decide (0 ≤ m ∧ m ≤ c - 1))) H'

abbrev sAi : Stmt := top 38
abbrev nAi : List Str := ["values", "count", "value"]
theorem scAi : FnScope nAi ["values", "count"] (defScope sAi) := ⟨rfl, rfl, rfl, by decide +kernel, rfl, by decide +kernel, by decide +kernel⟩

theorem ok_Ai (F : Fun K "_are_indices" "_are_indices" sAi f fd) (T : TxtV mg) (I : Cg P w K mg base 2 "is_integer" (spInteger K)) : FnG P w K mg base CX0 3 f fd ["values", "count"] (spInd K) := by
  refine FunG.ok F scAi (fun vs H Q E h => ?_) (fun cdv B out s H vs Q E hr hG h => ?_)
  · obtain ⟨b, c, ns, rfl, _⟩ := h
    rfl
  · obtain ⟨b, c, ns, rfl, hb, hl, q⟩ := h
    refine ⟨_, (pss_one (ps_ret (pe_callB (cr_all rfl) (by rfl) T.all (by decide +kernel) (pa_cons (pe_lc (own := [("value", 2)]) (g := gName 2) (tt := tYes) rfl scAi.nd (pi_seq (pv 0)) (blkOk_by (N := nAi) (sc := defScope sAi) (by decide +kernel)) (fun _ _ _ _ _ => pg_name (i := 2) scAi.nd rfl (Or.inl rfl)) (fun _ _ _ _ _ => pts_nil) (fun _ _ _ _ _ => (pe_g I hr hG (by decide) (by rfl) (pa_cons (pv 2) (pa_cons pe_int (pa_cons (pe_op op_sub (pv 1) pe_int) pa_nil)))))) pa_nil)))), ?_⟩
    refine ⟨_, rfl, b, rfl, seq_itK hb (Same.refl _) fun J S wk hS => fun D hD => lc_it wk (fun j G => Same H G ∧ G D = some (.lst (((ns.take j).map fun m => decide (0 ≤ m ∧ m ≤ c - 1)).map V.bl))) ⟨Same.put hD, upd_same⟩ (fun j G _ h => hS G h.1) ?_ ?_⟩
    · rintro j v G G' hj ⟨kG, gD⟩ ⟨rfl, hv⟩
      rw [List.getElem?_map] at hv
      obtain ⟨m, hm, rfl⟩ := Option.map_eq_some_iff.mp hv
      refine ⟨rfl, _, rfl, _, rfl, _, _, rfl, rfl, .int m, 0, c - 1, "int", rfl, vk_int m, fun e => absurd rfl e, fun i e => ?_⟩
      cases e
      refine ⟨_, gD, (by rw [List.length_map, List.length_map, List.length_take, PySem.sizeLine_eq]; omega), Same.at0 hD kG, ?_⟩
      rw [upd_same, tk_snoc hm, List.map_append, List.map_append]
      rfl
    · rintro G ⟨kG, gD⟩
      rw [List.length_map, List.take_length] at gD
      refine ⟨D, _, rfl, SqL.of gD, ?_⟩
      rw [List.all_map]
      exact q G kG

theorem ind_ask {K : PySem.W.Frag} {H : Hp} {b : Addr} {c : Int} {ns : List Int} {Q : VK} {E : XK} (h : SqA K H b (ns.map V.int)) (hl : ns.length ≤ 100000) (hm : ∀ m ∈ ns, 0 ≤ m ∧ m < c) (q : ∀ H' : Hp, Same H H' → Q (.bl true) H') : spInd K [.ref b, .int c] H Q E := by
  refine ⟨b, c, ns, rfl, h, hl, fun H' s => ?_⟩
  rw [show (ns.all fun m => decide (0 ≤ m ∧ m ≤ c - 1)) = true from List.all_eq_true.mpr fun m hm' => decide_eq_true ⟨(hm m hm').1, by have := (hm m hm').2; omega⟩]
  exact q H' s
/-- term rows that may stand where they stand -/
def TermsOk (ts : List EdgeK) : Prop := ∀ (i : Nat) t, ts[i]? = some t → nameB (TL.tl t.1) = true ∧ t.2.length ≤ 3 ∧ ∀ m ∈ t.2, 0 ≤ m ∧ m < i
def spCkT (K : PySem.W.Frag) : Sp := fun vs H Q _ => ∃ (x : V) (ts : List EdgeK), vs = [x] ∧ TermsD K H x ts ∧ TermsOk ts ∧ ts.length ≤ 1000 ∧ ∀ G : Hp, Same H G → Q .non G

abbrev sCt : Stmt := top 37
abbrev nCt : List Str := ["terms", "index", "item"]
theorem scCt : FnScope nCt ["terms"] (defScope sCt) := ⟨rfl, rfl, rfl, by decide +kernel, rfl, by decide +kernel, by decide +kernel⟩

theorem ok_Ct (F : Fun K "check_terms" "check_terms" sCt f fd) (T : TxtV mg) (L : Cg P w K mg base 1 "is_list" (spList K)) (N : Cg P w K mg base 1 "is_name" (spName K)) (A : Cg P w K mg base 3 "_are_indices" (spInd K)) : FnG P w K mg base CX0 4 f fd ["terms"] (spCkT K) := by
  refine FunG.ok F scCt (fun vs H Q E h => ?_) (fun cdv B out s H vs Q E hr hG h => ?_)
  · obtain ⟨x, ts, rfl, _⟩ := h
    rfl
  · obtain ⟨x, ts, rfl, hx, ht, hl, q⟩ := h
    refine ⟨_, (pss_one (ps_for PassesOwn.never rfl (pi_enumS (by rfl) T.enumerate (pa_cons (pv 0) pa_nil)) (pg_seq rfl (pgs_cons (pg_name (i := 1) scCt.nd rfl (Or.inl rfl)) (pgs_cons (pg_name (i := 2) scCt.nd rfl (Or.inl rfl)) pgs_nil))) (pss_cons (ps_if (PW.pt (pw_or (pt_not (pt_val (pe_g L hr hG (by decide) (by rfl) (pa_cons (pv 2) pa_nil)))) (pw_or (pt_cmpR op_ne (pe_callB call_len (by rfl) T.len PySem.boot_len (pa_cons (pv 2) pa_nil)) pe_int (nomark _)) (pw_or (pt_not (pt_val (pe_g L hr hG (by decide) (by rfl) (pa_cons (pe_ix (ix_list.or ix_tup) (pv 2) pe_int fun _ _ => rfl) pa_nil)))) (pw_or1 (pt_cmpR op_gt (pe_callB call_len (by rfl) T.len PySem.boot_len (pa_cons (pe_ix (ix_list.or ix_tup) (pv 2) pe_int fun _ _ => rfl) pa_nil)) (gl_c (by rfl) T.most) (nomark _))))))) (pss_one (ps_never)) pss_nil)
        (pss_cons (ps_if (pt_not (pt_val (pe_g N hr hG (by decide) (by rfl) (pa_cons (pe_ix (ix_list.or ix_tup) (pv 2) pe_int fun _ _ => rfl) pa_nil)))) (pss_one (ps_never)) pss_nil)
        (pss_one (ps_if (pt_not (pt_val (pe_g A hr hG (by decide) (by rfl) (pa_cons (pe_ix (ix_list.or ix_tup) (pv 2) pe_int fun _ _ => rfl) (pa_cons (pv 1) pa_nil))))) (pss_one (ps_never)) pss_nil)))))), ?_⟩
    obtain ⟨a, tv, rfl, ha, hp⟩ := hx
    refine ⟨_, rfl, a, rfl, enum_it ha fun J wk => ?_⟩
    refine for_it wk (fun i σ G => ∃ o1 o2, σ = [some (.ref a), o1, o2] ∧ Same H G) ⟨_, _, rfl, Same.refl _⟩ (fun i σ G _ ⟨_, _, _, kG⟩ => kG) ?_ ?_
    · rintro i v σ G G' hi ⟨o1, o2, rfl, kG⟩ ⟨T', x', y', rfl, hT, rfl, hx', hy'⟩
      cases hx'
      obtain ⟨t, hti, b, c, rfl, hb, hc⟩ := Pd.at hp hy'
      obtain ⟨t1, t2, t3⟩ := ht i t hti
      have kG1 : Same H (upd G T' (.tup [.int (i : Nat), .ref b])) := Same.tr kG (Same.put hT)
      have hT1 : SqA K (upd G T' (.tup [.int (i : Nat), .ref b])) T' [.int (i : Nat), .ref b] := .inr (SqT.of upd_same)
      generalize upd G T' (.tup [.int (i : Nat), .ref b]) = G1 at kG1 hT1 ⊢
      refine pair_asg hT1 (q := ?_)
      refine ⟨_, rfl, ?_⟩
      dsimp only [tNil]
      refine list_ask (hb.up kG1) fun H1 k1 => ⟨_, rfl, ?_⟩
      have k01 := Same.tr kG1 k1
      refine iteF ⟨_, rfl, _, _, rfl, lenA (hb.up k01), rfl, _, rfl, ?_⟩
      refine if_false_of (ne_dec2 rfl) ?_
      refine ⟨_, rfl, ixA (hb.up k01) (atI_nat (j := 1) rfl) ?_⟩
      dsimp only [tNil]
      refine list_ask (hc.up k01) fun H2 k2 => ⟨_, rfl, ?_⟩
      have k02 := Same.tr k01 k2
      refine iteF ⟨_, rfl, ixA (hb.up k02) (atI_nat (j := 1) rfl) ⟨_, _, rfl, lenA (hc.up k02), _, _, rfl, rfl, _, rfl, ?_⟩⟩
      have e2 : ¬ (3 : Int) < (((t.2.map V.int).length : Nat) : Int) := by rw [List.length_map]; omega
      refine if_false_of (decide_eq_false e2) ?_
      refine ⟨_, rfl, ixA (hb.up k02) (atI_nat (j := 0) rfl) ?_⟩
      dsimp only [tNil]
      refine name_ask t1 fun H3 k3 => ⟨_, rfl, iteF ?_⟩
      have k03 := Same.tr k02 k3
      refine ⟨_, rfl, ixA (hb.up k03) (atI_nat (j := 1) rfl) ?_⟩
      refine ⟨_, rfl, ?_⟩
      dsimp only [tNil]
      refine ind_ask (hc.up k03) (by omega) t3 fun H4 k4 => ⟨_, rfl, iteF ?_⟩
      exact ⟨_, _, rfl, Same.tr k03 k4⟩
    · rintro σ G ⟨o1, o2, rfl, kG⟩
      exact q G kG

def spCkE (K : PySem.W.Frag) : Sp := fun vs H Q _ => ∃ (v : V) (d : Addr) (c : Int) (e : EdgeK) (ks : List Str), vs = [v, .ref d, .int c] ∧ EdgeD K H v e ∧ H d = some (.dK (kvN ks)) ∧ nameB (TL.tl e.1) = true ∧ e.1 ∈ ks ∧ (∀ m ∈ e.2, 0 ≤ m ∧ m < c) ∧ e.2.length ≤ 100000 ∧ ∀ G : Hp, Same H G → Q .non G

abbrev sCe : Stmt := top 40
abbrev nCe : List Str := ["item", "names", "count", "source", "starts"]
theorem scCe : FnScope nCe ["item", "names", "count"] (defScope sCe) := ⟨rfl, rfl, rfl, by decide +kernel, rfl, by decide +kernel, by decide +kernel⟩

theorem ok_Ce (F : Fun K "_check_edge" "_check_edge" sCe f fd) (T : TxtV mg) (L : Cg P w K mg base 1 "is_list" (spList K)) (N : Cg P w K mg base 1 "is_name" (spName K)) (A : Cg P w K mg base 3 "_are_indices" (spInd K)) : FnG P w K mg base CX0 4 f fd ["item", "names", "count"] (spCkE K) := by
  refine FunG.ok F scCe (fun vs H Q E h => ?_) (fun cdv B out s H vs Q E hr hG h => ?_)
  · obtain ⟨v, d, c, e, ks, rfl, _⟩ := h
    rfl
  · obtain ⟨v, d, c, e, ks, rfl, hv, hd, hn, hk, hm, hl, q⟩ := h
    refine ⟨_, (pss_cons (ps_if (PW.pt (pw_or (pt_not (pt_val (pe_g L hr hG (by decide) (by rfl) (pa_cons (pv 0) pa_nil)))) (pw_or (pt_cmpR op_ne (pe_callB call_len (by rfl) T.len PySem.boot_len (pa_cons (pv 0) pa_nil)) pe_int (nomark _)) (pw_or1 (pt_not (pt_val (pe_g L hr hG (by decide) (by rfl) (pa_cons (pe_ix (ix_list.or ix_tup) (pv 0) pe_int fun _ _ => rfl) pa_nil)))))))) (pss_one (ps_never)) pss_nil)
      (pss_cons (ps_asg (pv 0) (pg_seq rfl (pgs_cons (pg_name (i := 3) scCe.nd rfl (Or.inl rfl)) (pgs_cons (pg_name (i := 4) scCe.nd rfl (Or.inl rfl)) pgs_nil))))
      (pss_cons (ps_if (PW.pt (pw_or (pt_not (pt_val (pe_g N hr hG (by decide) (by rfl) (pa_cons (pv 3) pa_nil)))) (pw_or1 (pt_cmp (pc_dnotin (hu1 hr) (pv 3) (pv 1)))))) (pss_one (ps_never)) pss_nil)
      (pss_one (ps_if (pt_not (pt_val (pe_g A hr hG (by decide) (by rfl) (pa_cons (pv 4) (pa_cons (pv 2) pa_nil))))) (pss_one (ps_never)) pss_nil))))), ?_⟩
    obtain ⟨a, b, rfl, ha, hb⟩ := hv
    refine ⟨_, rfl, ?_⟩
    dsimp only [tNil]
    refine list_ask ha fun H1 k1 => ⟨_, rfl, ?_⟩
    refine iteF ⟨_, rfl, _, _, rfl, lenA (ha.up k1), rfl, _, rfl, ?_⟩
    refine if_false_of (ne_dec2 rfl) ?_
    refine ⟨_, rfl, ixA (ha.up k1) (atI_nat (j := 1) rfl) ?_⟩
    dsimp only [tNil]
    refine list_ask ((hb.up k1).A) fun H2 k2 => ⟨_, rfl, iteF ?_⟩
    have k02 := Same.tr k1 k2
    refine ⟨_, rfl, pair_asg (ha.up k02) (q := ?_)⟩
    refine ⟨_, rfl, ?_⟩
    dsimp only [tNil]
    refine name_ask hn fun H3 k3 => ⟨_, rfl, ?_⟩
    have k03 := Same.tr k02 k3
    refine iteF ⟨_, rfl, _, rfl, d, _, rfl, DGet.k (k03 _ _ hd) (k := Sum.inr e.1), _, rfl, ?_⟩
    rw [valN, if_pos hk]
    refine iteF ?_
    refine ⟨_, rfl, _, rfl, ?_⟩
    dsimp only [tNil]
    refine ind_ask ((hb.up k03).A) hl hm fun H4 k4 => ⟨_, rfl, iteF ?_⟩
    exact q H4 (Same.tr k03 k4)

def spCkEs (K : PySem.W.Frag) : Sp := fun vs H Q _ => ∃ (x y : V) (d : Addr) (c : Int) (gs : List GateK) (os : List EdgeK) (ks : List Str), vs = [x, y, .ref d, .int c] ∧ GatesD K H x gs ∧ EdgesD K H y os ∧ H d = some (.dK (kvN ks)) ∧ (∀ k ∈ ks, nameB (TL.tl k) = true) ∧ (∀ e ∈ joinedE gs os, e.1 ∈ ks ∧ (∀ m ∈ e.2, 0 ≤ m ∧ m < c) ∧ e.2.length ≤ 100000) ∧ ∀ G : Hp, Same H G → Q .non G

abbrev sCs : Stmt := top 39
abbrev nCs : List Str := ["gates", "outs", "names", "count", "_", "edges", "item"]
theorem scCs : FnScope nCs ["gates", "outs", "names", "count"] (defScope sCs) := ⟨rfl, rfl, rfl, by decide +kernel, rfl, by decide +kernel, by decide +kernel⟩

theorem ok_Cs (F : Fun K "_check_edges" "_check_edges" sCs f fd) (E1 : Cg P w K mg base 4 "_check_edge" (spCkE K)) : FnG P w K mg base CX0 5 f fd ["gates", "outs", "names", "count"] (spCkEs K) := by
  refine FunG.ok F scCs (fun vs H Q E h => ?_) (fun cdv B out s H vs Q E hr hG h => ?_)
  · obtain ⟨x, y, d, c, gs, os, ks, rfl, _⟩ := h
    rfl
  · obtain ⟨x, y, d, c, gs, os, ks, rfl, hx, hy, hd, hn, he0, q⟩ := h
    refine ⟨_, (pss_cons (ps_for PassesOwn.never rfl (pi_seq (pv 0)) (pg_seq rfl (pgs_cons (pg_name (i := 4) scCs.nd rfl (Or.inl rfl)) (pgs_cons (pg_name (i := 4) scCs.nd rfl (Or.inl rfl)) (pgs_cons (pg_name (i := 5) scCs.nd rfl (Or.inl rfl)) pgs_nil)))) (pss_one (ps_for PassesOwn.never rfl (pi_seq (pv 5)) (pg_name (i := 6) scCs.nd rfl (Or.inl rfl)) (pss_one (ps_expr (pe_g E1 hr hG (by decide) (by rfl) (pa_cons (pv 6) (pa_cons (pv 2) (pa_cons (pv 3) pa_nil)))))))))
      (pss_one (ps_for PassesOwn.never rfl (pi_seq (pv 1)) (pg_name (i := 6) scCs.nd rfl (Or.inl rfl)) (pss_one (ps_expr (pe_g E1 hr hG (by decide) (by rfl) (pa_cons (pv 6) (pa_cons (pv 2) (pa_cons (pv 3) pa_nil))))))))), ?_⟩
    obtain ⟨a, gv, rfl, ha, hg⟩ := hx
    refine ⟨_, rfl, a, rfl, seq_itK ha (Same.refl _) fun J S wk hS => ?_⟩
    refine for_it wk (fun i σ G => ∃ o4 o5 o6, σ = [some (.ref a), some y, some (.ref d), some (.int c), o4, o5, o6] ∧ Same H G) ⟨_, _, _, rfl, Same.refl _⟩ (fun i σ G _ ⟨_, _, _, _, kG⟩ => hS G kG) ?_ ?_
    · rintro i v σ G G' hi ⟨o4, o5, o6, rfl, kG⟩ ⟨rfl, hv⟩
      obtain ⟨g, hgi, hdd⟩ := Pd.at hg hv
      have hgm := List.mem_of_getElem? hgi
      refine gate_to kG hdd (q := fun x' he => ?_)
      obtain ⟨b, es, rfl, hb, hp⟩ := he
      refine ⟨_, rfl, b, rfl, seq_itK hb.A kG fun J S wk2 hS2 => ?_⟩
      refine for_it wk2 (fun j σ M => ∃ o4 o6, σ = [some (.ref a), some y, some (.ref d), some (.int c), o4, some (.ref b), o6] ∧ Same H M) ⟨_, _, rfl, kG⟩ (fun j σ M _ ⟨_, _, _, kM⟩ => hS2 M kM) ?_ ?_
      · rintro j v2 σ M M' hj ⟨o4, o6, rfl, kM⟩ ⟨rfl, hv2⟩
        obtain ⟨e, hej, hed⟩ := Pd.at hp hv2
        obtain ⟨e1, e2, e3⟩ := he0 e (List.mem_append_left _ (List.mem_flatMap.mpr ⟨g, hgm, List.mem_of_getElem? hej⟩))
        exact ⟨_, rfl, _, rfl, _, rfl, v2, d, c, e, ks, rfl, hed.up kM, kM _ _ hd, hn _ e1, e1, e2, e3, fun G2 k2 => ⟨_, _, rfl, Same.tr kM k2⟩⟩
      · rintro σ M ⟨o4, o6, rfl, kM⟩
        exact ⟨_, _, _, rfl, kM⟩
    · rintro σ G ⟨o4, o5, o6, rfl, kG⟩
      obtain ⟨b, es, rfl, hb, hp⟩ := hy
      refine ⟨_, rfl, b, rfl, seq_itK hb.A kG fun J S wk2 hS2 => ?_⟩
      refine for_it wk2 (fun j σ M => ∃ o4 o5 o6, σ = [some (.ref a), some (.ref b), some (.ref d), some (.int c), o4, o5, o6] ∧ Same H M) ⟨_, _, _, rfl, kG⟩ (fun j σ M _ ⟨_, _, _, _, kM⟩ => hS2 M kM) ?_ ?_
      · rintro j v2 σ M M' hj ⟨o4, o5, o6, rfl, kM⟩ ⟨rfl, hv2⟩
        obtain ⟨e, hej, hed⟩ := Pd.at hp hv2
        obtain ⟨e1, e2, e3⟩ := he0 e (List.mem_append_right _ (List.mem_of_getElem? hej))
        exact ⟨_, rfl, _, rfl, _, rfl, v2, d, c, e, ks, rfl, hed.up kM, kM _ _ hd, hn _ e1, e1, e2, e3, fun G2 k2 => ⟨_, _, _, rfl, Same.tr kM k2⟩⟩
      · rintro σ M ⟨o4, o5, o6, rfl, kM⟩
        exact q M kM
end
end T10
set_option Elab.async false
set_option linter.all false
set_option maxRecDepth 100000
set_option maxHeartbeats 4000000
namespace T10
open PySem PySem.Spec PyProof.Rows L2 Tp
section
variable {P : Program} {w : World} {K : PySem.W.Frag} {mg : Str → Option Value} {base : Heap} {f : Addr} {fd : FuncData}


/-- the lists of a network -/
structure NetOk (ins : List Str) (gs : List GateK) (os ts : List EdgeK) : Prop where
  nm : ∀ n ∈ ins ++ gs.map (·.1), nameB (TL.tl n) = true
  nd : (ins ++ gs.map (·.1)).Nodup
  gt : ∀ g ∈ gs, nameB (TL.tl g.2.1) = true ∧ 1 ≤ g.2.2.length ∧ g.2.2.length ≤ 3
  tm : TermsOk ts
  ed : ∀ e ∈ joinedE gs os, e.1 ∈ ins ++ gs.map (·.1) ∧ (∀ m ∈ e.2, 0 ≤ m ∧ m < ts.length) ∧ e.2.length ≤ 1000
  rk : ∃ rk : Str → Nat, Rank gs rk
  fd : ∀ g ∈ gs, Fed ins gs g.1
  ld : ∀ g ∈ gs, Led gs os g.1
  nI : ins.length ≤ 1000
  nG : gs.length ≤ 1000
  nO : os.length ≤ 1000
  nT : ts.length ≤ 1000
  nS : (startsE gs os).length ≤ 100000
theorem NetOk.nj {ins : List Str} {gs : List GateK} {os ts : List EdgeK} (h : NetOk ins gs os ts) : (joinedE gs os).length ≤ 100000 ∧ (pairsE gs).length ≤ 100000 := by
  have go : ∀ (gs : List GateK), (∀ g ∈ gs, g.2.2.length ≤ 3) → (gs.flatMap fun g => g.2.2).length ≤ 3 * gs.length ∧ (pairsE gs).length ≤ 3 * gs.length := by
    intro gs
    induction gs with
    | nil => intro _; exact ⟨Nat.zero_le _, Nat.zero_le _⟩
    | cons g gs ih =>
      intro h
      obtain ⟨h1, h2⟩ := ih fun g' hg' => h g' (List.mem_cons_of_mem _ hg')
      have h3 := h g List.mem_cons_self
      unfold pairsE at h2 ⊢
      rw [List.flatMap_cons, List.flatMap_cons, List.length_append, List.length_append, List.length_cons, List.length_map]
      omega
  obtain ⟨h1, h2⟩ := go gs fun g hg => (h.gt g hg).2.2
  have := h.nG
  have := h.nO
  unfold joinedE
  rw [List.length_append]
  omega
/-- the lists as they are passed -/
structure NetD (K : PySem.W.Frag) (H : Hp) (x y z u : V) (ins : List Str) (gs : List GateK) (os ts : List EdgeK) : Prop where
  i : NamesD K H x ins
  g : GatesD K H y gs
  o : EdgesD K H z os
  t : TermsD K H u ts
theorem NetD.up {K : PySem.W.Frag} {H H' : Hp} {x y z u : V} {ins : List Str} {gs : List GateK} {os ts : List EdgeK} (s : Same H H') (h : NetD K H x y z u ins gs os ts) : NetD K H' x y z u ins gs os ts := ⟨h.i.up s, h.g.up s, h.o.up s, h.t.up s⟩
def spWays (K : PySem.W.Frag) : Sp := fun vs H Q _ => ∃ (x y z : V) (ins : List Str) (gs : List GateK) (os ts : List EdgeK), vs = [x, y, z] ∧ NamesD K H x ins ∧ GatesD K H y gs ∧ EdgesD K H z os ∧ NetOk ins gs os ts ∧ ∀ G : Hp, Same H G → Q .non G

abbrev sCw : Stmt := top 41
abbrev nCw : List Str := ["inputs", "gates", "outs", "ring", "reached", "name", "_", "leading"]
theorem scCw : FnScope nCw ["inputs", "gates", "outs"] (defScope sCw) := ⟨rfl, rfl, rfl, by decide +kernel, rfl, by decide +kernel, by decide +kernel⟩

theorem ok_Cw (F : Fun K "_check_ways" "_check_ways" sCw f fd) (CR : Cg P w K mg base 3 "ring_without_delay" (spRing K)) (CE : Cg P w K mg base 2 "ends_of_ways" (spEnds K)) (CB : Cg P w K mg base 2 "beginnings_of_ways" (spBegs K)) : FnG P w K mg base CX0 4 f fd ["inputs", "gates", "outs"] (spWays K) := by
  refine FunG.ok F scCw (fun vs H Q E h => ?_) (fun cdv B out s H vs Q E hr hG h => ?_)
  · obtain ⟨x, y, z, ins, gs, os, ts, rfl, _⟩ := h
    rfl
  · obtain ⟨x, y, z, ins, gs, os, ts, rfl, hx, hy, hz, hN, q⟩ := h
    refine ⟨_, (pss_cons (ps_set (i := 3) scCw.nd rfl (.inl rfl) (pe_g CR hr hG (by decide) (by rfl) (pa_cons (pv 1) pa_nil)))
      (pss_cons (ps_if (pt_truth (pv 3) (by intro _; rfl)) (pss_one (ps_never)) pss_nil)
      (pss_cons (ps_set (i := 4) scCw.nd rfl (.inl rfl) (pe_g CE hr hG (by decide) (by rfl) (pa_cons (pv 0) (pa_cons (pv 1) pa_nil))))
      (pss_cons (ps_for PassesOwn.never rfl (pi_seq (pv 1)) (pg_seq rfl (pgs_cons (pg_name (i := 5) scCw.nd rfl (Or.inl rfl)) (pgs_cons (pg_name (i := 6) scCw.nd rfl (Or.inl rfl)) (pgs_cons (pg_name (i := 6) scCw.nd rfl (Or.inl rfl)) pgs_nil)))) (pss_one (ps_if (pt_cmp (pc_dnotin (hu1 hr) (pv 5) (pv 4))) (pss_one (ps_never)) pss_nil)))
      (pss_cons (ps_set (i := 7) scCw.nd rfl (.inl rfl) (pe_g CB hr hG (by decide) (by rfl) (pa_cons (pv 1) (pa_cons (pv 2) pa_nil))))
      (pss_one (ps_for PassesOwn.never rfl (pi_seq (pv 1)) (pg_seq rfl (pgs_cons (pg_name (i := 5) scCw.nd rfl (Or.inl rfl)) (pgs_cons (pg_name (i := 6) scCw.nd rfl (Or.inl rfl)) (pgs_cons (pg_name (i := 6) scCw.nd rfl (Or.inl rfl)) pgs_nil)))) (pss_one (ps_if (pt_cmp (pc_dnotin (hu1 hr) (pv 5) (pv 7))) (pss_one (ps_never)) pss_nil))))))))), ?_⟩
    obtain ⟨hj1, hj2⟩ := hN.nj
    obtain ⟨rk, hrk⟩ := hN.rk
    have nd := (List.nodup_append.mp hN.nd).2.1
    have h3 : ∀ g ∈ gs, g.2.2.length ≤ 3 := fun g hg => (hN.gt g hg).2.2
    have hnI := hN.nI
    have hnG := hN.nG
    have hnO := hN.nO
    refine ⟨_, rfl, H, y, gs, rk, rfl, Same.refl _, hy, nd, hN.nG, fun g hg => by have := h3 g hg; omega, hrk, fun a H1 k1 h1 => ?_⟩
    refine ⟨_, rfl, false, .inl ⟨[], SqL.of h1, rfl⟩, iteF ?_⟩
    refine ⟨_, rfl, _, rfl, H, x, y, ins, gs, ins ++ gs.map (·.1), rfl, k1, hx, hy, hj2, by omega, (by rw [List.length_append, List.length_map]; omega), fun n hn => List.mem_append_left _ hn, fun g hg => List.mem_append_right _ (List.mem_map_of_mem hg), fun b ks H2 k2 h2 hks => ?_⟩
    have k02 := Same.tr k1 k2
    obtain ⟨a', gv, rfl, ha, hg⟩ := id hy
    refine ⟨_, rfl, a', rfl, seq_itK ha k02 fun J S wk hS => ?_⟩
    refine for_it wk (fun i σ G => ∃ o5 o6 o7, σ = [some x, some (.ref a'), some z, some (.ref a), some (.ref b), o5, o6, o7] ∧ Same H2 G) ⟨_, _, _, rfl, Same.refl _⟩ (fun i σ G _ ⟨_, _, _, _, kG⟩ => hS G (Same.tr k02 kG)) ?_ ?_
    · rintro i v σ G G' hi ⟨o5, o6, o7, rfl, kG⟩ ⟨rfl, hv⟩
      obtain ⟨g, hgi, hdd⟩ := Pd.at hg hv
      refine gate_to (Same.tr k02 kG) hdd (q := fun x' he => ?_)
      refine ⟨_, rfl, _, rfl, b, _, rfl, DGet.k (kG _ _ h2) (k := Sum.inr g.1), _, rfl, ?_⟩
      rw [valN, if_pos ((hks _).mpr (hN.fd g (List.mem_of_getElem? hgi)))]
      refine iteF ?_
      exact ⟨_, _, _, rfl, kG⟩
    · rintro σ G ⟨o5, o6, o7, rfl, kG⟩
      have k0G := Same.tr k02 kG
      refine ⟨_, rfl, _, rfl, H, .ref a', z, gs, os, ins ++ gs.map (·.1), rfl, k0G, hy, hz, nd, by omega, fun g hg => by have := h3 g hg; omega, by omega, (by rw [List.length_append, List.length_map]; omega), fun e he => (hN.ed e (List.mem_append_right _ he)).1, fun g hg e he => (hN.ed e (List.mem_append_left _ (List.mem_flatMap.mpr ⟨g, hg, he⟩))).1, fun c ls H3 k3 h3' hls => ?_⟩
      have k03 := Same.tr k0G k3
      refine ⟨_, rfl, a', rfl, seq_itK ha k03 fun J S wk2 hS2 => ?_⟩
      refine for_it wk2 (fun i σ G => ∃ o5 o6, σ = [some x, some (.ref a'), some z, some (.ref a), some (.ref b), o5, o6, some (.ref c)] ∧ Same H3 G) ⟨_, _, rfl, Same.refl _⟩ (fun i σ G _ ⟨_, _, _, kG⟩ => hS2 G (Same.tr k03 kG)) ?_ ?_
      · rintro i v σ G G' hi ⟨o5, o6, rfl, kG⟩ ⟨rfl, hv⟩
        obtain ⟨g, hgi, hdd⟩ := Pd.at hg hv
        refine gate_to (Same.tr k03 kG) hdd (q := fun x' he => ?_)
        refine ⟨_, rfl, _, rfl, c, _, rfl, DGet.k (kG _ _ h3') (k := Sum.inr g.1), _, rfl, ?_⟩
        rw [valN, if_pos ((hls _).mpr (hN.ld g (List.mem_of_getElem? hgi)))]
        refine iteF ?_
        exact ⟨_, _, rfl, kG⟩
      · rintro σ G ⟨o5, o6, rfl, kG⟩
        exact q G (Same.tr k03 kG)

def spParts (K : PySem.W.Frag) : Sp := fun vs H Q _ => ∃ (x y z u : V) (ins : List Str) (gs : List GateK) (os ts : List EdgeK), vs = [x, y, z, u] ∧ NetD K H x y z u ins gs os ts ∧ NetOk ins gs os ts ∧ ∀ G : Hp, Same H G → Q .non G
theorem NamesD.A {K : PySem.W.Frag} {H : Hp} {x : V} {ns : List Str} (h : NamesD K H x ns) : ∃ a xs, x = .ref a ∧ SqA K H a xs := let ⟨a, e, h⟩ := h; ⟨a, _, e, h⟩
theorem NetD.A {K : PySem.W.Frag} {H : Hp} {x y z u : V} {ins : List Str} {gs : List GateK} {os ts : List EdgeK} (h : NetD K H x y z u ins gs os ts) : ∀ v ∈ [x, y, z, u], ∃ a xs, v = .ref a ∧ SqA K H a xs := by
  obtain ⟨⟨a, e1, h1⟩, ⟨b, _, e2, h2, _⟩, ⟨c, _, e3, h3, _⟩, ⟨d, _, e4, h4, _⟩⟩ := h
  intro v hv
  rcases List.mem_cons.mp hv with rfl | hv
  · exact ⟨a, _, e1, h1⟩
  rcases List.mem_cons.mp hv with rfl | hv
  · exact ⟨b, _, e2, h2⟩
  rcases List.mem_cons.mp hv with rfl | hv
  · exact ⟨c, _, e3, h3.A⟩
  rcases List.mem_cons.mp hv with rfl | hv
  · exact ⟨d, _, e4, h4⟩
  · cases hv

abbrev sCp : Stmt := top 33
abbrev nCp : List Str := ["inputs", "gates", "outs", "terms", "argument", "names"]
theorem scCp : FnScope nCp ["inputs", "gates", "outs", "terms"] (defScope sCp) := ⟨rfl, rfl, rfl, by decide +kernel, rfl, by decide +kernel, by decide +kernel⟩

theorem ok_Cp (F : Fun K "check_parts" "check_parts" sCp f fd) (T : TxtV mg) (L : Cg P w K mg base 1 "is_list" (spList K)) (CI : Cg P w K mg base 3 "_check_inputs" (spInsN K)) (CG : Cg P w K mg base 3 "_check_gates" (spGatN K)) (CT : Cg P w K mg base 4 "check_terms" (spCkT K)) (CS : Cg P w K mg base 5 "_check_edges" (spCkEs K)) (CW : Cg P w K mg base 4 "_check_ways" (spWays K)) : FnG P w K mg base CX0 6 f fd ["inputs", "gates", "outs", "terms"] (spParts K) := by
  refine FunG.ok F scCp (fun vs H Q E h => ?_) (fun cdv B out s H vs Q E hr hG h => ?_)
  · obtain ⟨x, y, z, u, ins, gs, os, ts, rfl, _⟩ := h
    rfl
  · obtain ⟨x, y, z, u, ins, gs, os, ts, rfl, hD, hN, q⟩ := h
    refine ⟨_, (pss_cons (ps_for PassesOwn.never rfl (pi_tup (pe_tup (pa_cons (pv 0) (pa_cons (pv 1) (pa_cons (pv 2) (pa_cons (pv 3) pa_nil)))))) (pg_name (i := 4) scCp.nd rfl (Or.inl rfl)) (pss_one (ps_if (pt_not (pt_val (pe_g L hr hG (by decide) (by rfl) (pa_cons (pv 4) pa_nil)))) (pss_one (ps_never)) pss_nil)))
      (pss_cons (ps_set (i := 5) scCp.nd rfl (.inl rfl) pe_dnewK)
      (pss_cons (ps_expr (pe_g CI hr hG (by decide) (by rfl) (pa_cons (pv 0) (pa_cons (pv 5) pa_nil))))
      (pss_cons (ps_expr (pe_g CG hr hG (by decide) (by rfl) (pa_cons (pv 1) (pa_cons (pv 5) pa_nil))))
      (pss_cons (ps_expr (pe_g CT hr hG (by decide) (by rfl) (pa_cons (pv 3) pa_nil)))
      (pss_cons (ps_expr (pe_g CS hr hG (by decide) (by rfl) (pa_cons (pv 1) (pa_cons (pv 2) (pa_cons (pv 5) (pa_cons (pe_callB call_len (by rfl) T.len PySem.boot_len (pa_cons (pv 3) pa_nil)) pa_nil))))))
      (pss_one (ps_expr (pe_g CW hr hG (by decide) (by rfl) (pa_cons (pv 0) (pa_cons (pv 1) (pa_cons (pv 2) pa_nil)))))))))))), ?_⟩
    have hnI := hN.nI
    have hnG := hN.nG
    have hA := hD.A
    refine ⟨_, rfl, _, rfl, _, rfl, _, rfl, (by show 4 ≤ sizeLine; decide), fun t ht => ?_⟩
    have k1 : Same H (upd H t (.tup [x, y, z, u])) := Same.put ht
    have t1 : SqT K (upd H t (.tup [x, y, z, u])) t [x, y, z, u] := SqT.of upd_same
    generalize upd H t (.tup [x, y, z, u]) = H1 at k1 t1 ⊢
    refine ⟨t, rfl, ⟨_, t1⟩, for_it (walk_tup (xs := [x, y, z, u])) (fun i σ G => ∃ o4, σ = [some x, some y, some z, some u, o4, none] ∧ Same H1 G) ⟨_, rfl, Same.refl _⟩ (fun i σ G _ ⟨_, _, kG⟩ => upT kG t1) ?_ ?_⟩
    · rintro i v σ G G' hi ⟨o4, rfl, kG⟩ ⟨rfl, hv⟩
      obtain ⟨a, xs, rfl, hs⟩ := hA v (List.mem_of_getElem? hv)
      refine ⟨_, rfl, ?_⟩
      dsimp only [tNil]
      refine list_ask (hs.up (Same.tr k1 kG)) fun H2 k2 => ⟨_, rfl, iteF ?_⟩
      exact ⟨_, rfl, Same.tr kG k2⟩
    · rintro σ G ⟨o4, rfl, kG⟩
      have k0G := Same.tr k1 kG
      refine fun d hd => ?_
      have hdH := Same.none k0G hd
      have k2 : Same G (upd G d (.dK [])) := Same.put hd
      have h2 : (upd G d (.dK [])) d = some (.dK (kvN [])) := upd_same
      generalize upd G d (.dK []) = H2 at k2 h2 ⊢
      have k02 := Same.tr k0G k2
      dsimp only [gName]
      refine ⟨_, rfl, _, rfl, H, x, d, ins, rfl, k02, hdH, h2, hD.i, fun n hn => hN.nm n (List.mem_append_left _ hn), (List.nodup_append.mp hN.nd).1, hnI, fun H3 k3 h3 => ?_⟩
      refine ⟨_, rfl, _, rfl, H, y, d, ins, gs, rfl, k3, hdH, h3, hD.g, fun g hg => ⟨hN.nm _ (List.mem_append_right _ (List.mem_map_of_mem hg)), hN.gt g hg⟩, hN.nd, hnI, hnG, fun H4 k4 h4 => ?_⟩
      refine ⟨_, rfl, u, ts, rfl, hD.t.up k4, hN.tm, hN.nT, fun H5 k5 => ?_⟩
      have k05 := Same.tr k4 k5
      obtain ⟨a, tv, rfl, ha, hp⟩ := id hD.t
      refine ⟨_, rfl, _, rfl, _, rfl, _, rfl, _, _, rfl, lenA (ha.up k05), y, z, d, _, gs, os, ins ++ gs.map (·.1), rfl, hD.g.up k05, hD.o.up k05, k5 _ _ h4, hN.nm, fun e he => ?_, fun H6 k6 => ?_⟩
      · obtain ⟨e1, e2, e3⟩ := hN.ed e he
        rw [hp.length]
        exact ⟨e1, e2, by omega⟩
      · have k06 := Same.tr k05 k6
        exact ⟨_, rfl, _, rfl, _, rfl, x, y, z, ins, gs, os, ts, rfl, hD.i.up k06, hD.g.up k06, hD.o.up k06, hN, fun H7 k7 => q H7 (Same.tr k06 k7)⟩
end
end T10
set_option Elab.async false
set_option linter.all false
set_option maxRecDepth 100000
set_option maxHeartbeats 4000000
namespace T10
open PySem PySem.Spec PyProof.Rows L2 Tp
section
variable {P : Program} {w : World} {K : PySem.W.Frag} {mg : Str → Option Value} {base : Heap} {f : Addr} {fd : FuncData}

abbrev sBao : Stmt := top 44
abbrev nBao : List Str := ["row"]
theorem scBao : FnScope nBao ["row"] (defScope sBao) := ⟨rfl, rfl, rfl, by decide +kernel, rfl, by decide +kernel, by decide +kernel⟩

theorem ok_args (F : Fun K "arguments_of" "arguments_of" sBao f fd) (L : Cg P w K mg base 1 "is_list" (spList K)) : FnG P w K mg base CX0 2 f fd ["row"] (spArgs K) := by
  refine FunG.ok F scBao (fun vs H Q E h => ?_) (fun cdv B out s H vs Q E hr hG h => ?_)
  · obtain ⟨r, u, v, k, rfl, _⟩ := h
    rfl
  · obtain ⟨r, u, v, k, rfl, hA, hv, q1, q0⟩ := h
    refine ⟨_, (pss_one (ps_ret (pe_ifExp (pt_val (pe_g L hr hG (by decide) (by rfl) (pa_cons (pe_ix (ix_list.or ix_tup) (pv 0) pe_int fun _ _ => rfl) pa_nil))) (pe_ix (ix_list.or ix_tup) (pv 0) pe_int fun _ _ => rfl) (pe_tup pa_nil)))), ?_⟩
    refine ⟨_, rfl, ixA hA (atI_nat (j := 1) rfl) ?_⟩
    refine ⟨v, k, rfl, hv, fun H1 s1 => ⟨_, rfl, ?_⟩⟩
    cases hk : (k == "list" || k == "tuple") with
    | true => exact iteT ⟨_, rfl, ixA (hA.up s1) (atI_nat (j := 1) rfl) (q1 hk _ s1)⟩
    | false => exact iteF ⟨(by show 0 ≤ sizeLine; decide), fun t ht => q0 hk _ _ (Same.tr s1 (Same.put ht)) (SqT.of upd_same)⟩


/-- a row with its numbers moved -/
def movR (g : Int → Int) (k : RowK) : RowK := (k.1, match k.2 with
  | .inl n => .inl n
  | .inr ns => .inr (ns.map g))
def spMoved (K : PySem.W.Frag) : Sp := fun vs H Q _ => ∃ (a d : Addr) (k : RowK) (g : Int → Int) (kvs : List (Key × V)), vs = [.ref a, .ref d] ∧ RowAt K H k a ∧ H d = some (.dK kvs) ∧ k.1.length ≤ 5000 ∧ (argsK k).length ≤ 3 ∧ (∀ m ∈ argsK k, valV kvs (Sum.inl m) = some (.int (g m))) ∧ ∀ r H', Same H H' → RowAt K H' (movR g k) r → Q (.ref r) H'

abbrev sMv : Stmt := top 45
abbrev nMv : List Str := ["row", "places", "number"]
theorem scMv : FnScope nMv ["row", "places"] (defScope sMv) := ⟨rfl, rfl, rfl, by decide +kernel, rfl, by decide +kernel, by decide +kernel⟩

theorem ok_moved (F : Fun K "moved_row" "moved_row" sMv f fd) (T : TxtV mg) (L : Cg P w K mg base 1 "is_list" (spList K)) : FnG P w K mg base CX0 2 f fd ["row", "places"] (spMoved K) := by
  refine FunG.ok F scMv (fun vs H Q E h => ?_) (fun cdv B out s H vs Q E hr hG h => ?_)
  · obtain ⟨a, d, k, g, kvs, rfl, _⟩ := h
    rfl
  · obtain ⟨a, d, k, g, kvs, rfl, hA, hd, hz, hl3, hg, q⟩ := h
    refine ⟨_, (pss_cons (ps_if (pt_not (pt_val (pe_g L hr hG (by decide) (by rfl) (pa_cons (pe_ix ix_tup (pv 0) pe_int fun _ _ => rfl) pa_nil)))) (pss_one (ps_ret (pv 0))) pss_nil)
      (pss_one (ps_ret (pe_tup (pa_cons (pe_ix ix_tup (pv 0) pe_int fun _ _ => rfl) (pa_cons (pe_callTy call_tuple_of (by rfl) T.tuple (by decide +kernel) (pa_cons (pe_lc (own := [("number", 2)]) (g := gName 2) (tt := tYes) rfl scMv.nd (pi_seq (pe_ix ix_tup (pv 0) pe_int fun _ _ => rfl)) (blkOk_by (N := nMv) (sc := defScope sMv) (by decide +kernel)) (fun _ _ _ _ _ => pg_name (i := 2) scMv.nd rfl (Or.inl rfl)) (fun _ _ _ _ _ => pts_nil) (fun _ _ _ _ _ => (pe_dget (hu1 hr) (pv 1) (pv 2) (fun _ _ => rfl)))) pa_nil)) pa_nil)))))), ?_⟩
    obtain ⟨z, r⟩ := k
    obtain ⟨h0, ⟨n, e, h1⟩ | ⟨ns, b, e, h1, h2⟩⟩ := hA
    · dsimp only at e
      subst e
      refine ⟨_, rfl, a, _, _, _, rfl, rfl, h1, atI_nat (j := 1) rfl, ?_⟩
      dsimp only [tNil]
      refine ⟨.int n, "int", rfl, vk_int n, fun H1 s1 => ⟨_, rfl, ?_⟩⟩
      refine iteT ⟨_, rfl, ?_⟩
      exact q a H1 s1 ⟨h0, .inl ⟨n, rfl, upT s1 h1⟩⟩
    · dsimp only at e
      subst e
      refine ⟨_, rfl, a, _, _, _, rfl, rfl, h1, atI_nat (j := 1) rfl, ?_⟩
      dsimp only [tNil]
      refine ⟨.ref b, "tuple", rfl, vk_tuple h2, fun H1 s1 => ⟨_, rfl, ?_⟩⟩
      refine iteF ?_
      dsimp only [tNext]
      have h11 := upT s1 h1
      have h21 := upT s1 h2
      refine ⟨_, rfl, a, _, _, _, rfl, rfl, h11, atI_nat (j := 0) rfl, ?_⟩
      have hd1 := s1 _ _ hd
      refine ⟨_, rfl, a, _, _, _, rfl, rfl, h11, atI_nat (j := 1) rfl, b, rfl, seq_it (.inr h21) fun J wk => fun D hD => ?_⟩
      refine lc_it wk (fun j G => Same H1 G ∧ G D = some (.lst (((ns.map g).take j).map V.int))) ⟨Same.put hD, upd_same⟩ (fun _ _ _ h => h.1) ?_ ?_
      · rintro j v G G' hj ⟨sG, gD⟩ ⟨rfl, hx⟩
        rw [List.getElem?_map] at hx
        obtain ⟨m, hm, rfl⟩ := Option.map_eq_some_iff.mp hx
        refine ⟨rfl, _, rfl, _, rfl, d, .int (g m), rfl, .inl ⟨kvs, Sum.inl m, .inl (sG _ _ hd1), rfl, (hg m (List.mem_of_getElem? hm)).symm⟩, _, gD, ?_, fun c o e => (upd_ne (ne_of_none e hD)).trans (sG c o e), ?_⟩
        · rw [List.length_map, List.length_take, List.length_map, PySem.sizeLine_eq]
          have : ns.length ≤ 3 := hl3
          omega
        · rw [upd_same, List.take_add_one, List.getElem?_map, hm]
          simp
      · rintro G ⟨sG, gD⟩
        rw [List.length_map, List.take_of_length_le (by rw [List.length_map]; exact Nat.le_refl _)] at gD
        refine ⟨D, _, rfl, .inl ⟨SqL.of gD, fun t et => ⟨(by show 2 ≤ sizeLine; decide), fun r er => ?_⟩⟩⟩
        have s3 := Same.put (o := .tup ((ns.map g).map V.int)) et
        have s4 := Same.put (o := .tup [V.str z, V.ref t]) er
        exact q r _ (Same.tr s1 (Same.tr sG (Same.tr s3 s4))) ⟨h0, .inr ⟨ns.map g, t, rfl, SqT.of upd_same, upT s4 (SqT.of upd_same)⟩⟩


structure TxtTt (K : PySem.W.Frag) (C : Addr) : Prop where
  cl : Cls K C
  n1 : NoAttr K C "_listed"
  n2 : NoAttr K C "_places"
theorem sqt_put {K : PySem.W.Frag} {H : Hp} {l b : Addr} {o : HO} {ys : List V} (nt : NotTup H l) (h : SqT K H b ys) : SqT K (upd H l o) b ys := by
  rcases h with h | h
  · by_cases e : b = l
    · exact absurd (e ▸ h) (nt ys)
    · rcases h with h | ⟨u, h⟩
      · exact .inl (.inl ((upd_ne e).trans h))
      · exact .inl (.inr ⟨u, (upd_ne e).trans h⟩)
  · exact .inr h
theorem not_ext {P : Program} {w : World} {H : Hp} {d : Addr} {xs : List RowE} (h : H d = some (dRow P w d xs)) : NotTup H d := fun ys r => by
  rcases r with r | ⟨o, r⟩
  · rw [h] at r; cases r
  · rw [h] at r; cases r
/-- a table of rows: what stood in H0 does not name it -/
structure TabAt (P : Program) (w : World) (K : PySem.W.Frag) (H0 H : Hp) (C p dx l d : Addr) (rs : List RowK) : Prop where
  hp : H p = some (.ins C dx [("_listed", .ref l), ("_places", .ref d)])
  ex : ∃ as : List Addr, as.length = rs.length ∧ (∀ (i : Nat) (k : RowK) (a : Addr), rs[i]? = some k → as[i]? = some a → RowAt K H k a) ∧ H l = some (.lst (as.map V.ref)) ∧ H d = some (dRow P w d (entR 0 rs as))
  nd : rs.Nodup
  fl : H0 l = none
  fd : H0 d = none
theorem TabAt.up {P : Program} {w : World} {K : PySem.W.Frag} {H0 H H' : Hp} {C p dx l d : Addr} {rs : List RowK} (s : Same H H') (h : TabAt P w K H0 H C p dx l d rs) : TabAt P w K H0 H' C p dx l d rs := by
  obtain ⟨as, h1, h2, h3, h4⟩ := h.ex
  exact ⟨s _ _ h.hp, ⟨as, h1, fun i k a e1 e2 => (h2 i k a e1 e2).mono fun _ _ => upT s, s _ _ h3, s _ _ h4⟩, h.nd, h.fl, h.fd⟩
def spTab (P : Program) (w : World) (C : Addr) : Sp := fun vs H Q _ => ∃ p dx, vs = [.ref p] ∧ H p = some (.ins C dx []) ∧ ∀ (H' : Hp) (l d : Addr), H' p = some (.ins C dx [("_listed", .ref l), ("_places", .ref d)]) → H' l = some (.lst []) → H' d = some (dRow P w d []) → H l = none → H d = none → Keep p H H' → Q .non H'

abbrev sTi : Stmt := inClass (top 43) 0
abbrev nTi : List Str := ["self"]
theorem scTi : FnScope nTi ["self"] (defScope sTi) := ⟨rfl, rfl, rfl, by decide +kernel, rfl, by decide +kernel, by decide +kernel⟩

theorem ok_Ti (F : Fun K "__init__" "TermTable.__init__" sTi f fd) {C : Addr} (T : TxtTt K C) : FnG P w K mg base CX0 1 f fd ["self"] (spTab P w C) := by
  refine FunG.ok F scTi (fun vs H Q E h => ?_) (fun cdv B out s H vs Q E hr hG h => ?_)
  · obtain ⟨p, dx, rfl, _⟩ := h
    rfl
  · obtain ⟨p, dx, rfl, hp, q⟩ := h
    refine ⟨_, (pss_cons (ps_fld (pv 0) (pe_lst pa_nil) rfl)
      (pss_one (ps_fld (pv 0) (pe_rnewK (P := P) (w := w) rfl rfl) rfl))), ?_⟩
    refine ⟨(by show 0 ≤ sizeLine; decide), fun l hl => ?_⟩
    have nlp : l ≠ p := fun z => by rw [z, hp] at hl; cases hl
    refine ⟨_, rfl, p, C, dx, _, rfl, (upd_ne (ne_of_none hp hl)).trans hp, T.cl, T.n1, (by show 0 < 1000; decide), ?_⟩
    have k1 : Keep p H (upd (upd H l (.lst [])) p (.ins C dx (putF "_listed" (.ref l) []))) := (Keep.new hl).trans Keep.put
    have h1 : (upd (upd H l (.lst [])) p (.ins C dx (putF "_listed" (.ref l) []))) p = some (.ins C dx (putF "_listed" (.ref l) [])) := upd_same
    have l1 : (upd (upd H l (.lst [])) p (.ins C dx (putF "_listed" (.ref l) []))) l = some (.lst []) := (upd_ne nlp).trans upd_same
    have hno : ∀ d, (upd (upd H l (.lst [])) p (.ins C dx (putF "_listed" (.ref l) []))) d = none → H d = none := fun d hd => by
      cases e : H d with
      | none => rfl
      | some o =>
        by_cases z : d = p
        · rw [z, upd_same] at hd; cases hd
        · rw [upd_ne z] at hd
          by_cases z2 : d = l
          · rw [z2, upd_same] at hd; cases hd
          · rw [upd_ne z2, e] at hd; cases hd
    generalize upd (upd H l (.lst [])) p (.ins C dx (putF "_listed" (.ref l) [])) = H1 at k1 h1 l1 hno ⊢
    refine fun d hd => ?_
    have ndp : d ≠ p := fun z => by rw [z, h1] at hd; cases hd
    have ndl : l ≠ d := fun z => by rw [z, hd] at l1; cases l1
    refine ⟨_, rfl, p, C, dx, _, rfl, (upd_ne (ne_of_none h1 hd)).trans h1, T.cl, T.n2, (by show 1 < 1000; decide), ?_⟩
    exact q _ l d upd_same ((upd_ne nlp).trans ((upd_ne ndl).trans l1)) ((upd_ne ndp).trans upd_same) hl (hno d hd) (k1.trans ((Keep.new hd).trans Keep.put))

def spEnter (P : Program) (w : World) (K : PySem.W.Frag) (C : Addr) : Sp := fun vs H Q _ => ∃ (H0 : Hp) (p dx l d a : Addr) (rs : List RowK) (k : RowK), vs = [.ref p, .ref a] ∧ Same H0 H ∧ TabAt P w K H0 H C p dx l d rs ∧ RowAt K H k a ∧ rs.length ≤ 5000 ∧
  ∀ H' : Hp, Same H0 H' → (∀ b o, b ≠ l → b ≠ d → H b = some o → H' b = some o) → TabAt P w K H0 H' C p dx l d (addR rs k) → Q (.int (posR rs k : Nat)) H'

abbrev sEn : Stmt := inClass (top 43) 1
abbrev nEn : List Str := ["self", "row"]
theorem scEn : FnScope nEn ["self", "row"] (defScope sEn) := ⟨rfl, rfl, rfl, by decide +kernel, rfl, by decide +kernel, by decide +kernel⟩

theorem ok_En (F : Fun K "enter" "TermTable.enter" sEn f fd) {C : Addr} (T : TxtTt K C) (TV : TxtV mg) : FnG P w K mg base CX0 1 f fd ["self", "row"] (spEnter P w K C) := by
  refine FunG.ok F scEn (fun vs H Q E h => ?_) (fun cdv B out s H vs Q E hr hG h => ?_)
  · obtain ⟨H0, p, dx, l, d, a, rs, k, rfl, _⟩ := h
    rfl
  · obtain ⟨H0, p, dx, l, d, a, rs, k, rfl, k0, hT, hA, hlt, q⟩ := h
    refine ⟨_, (pss_cons (ps_if (pt_cmpR (op_rnotIn (hu65 hr)) (pv 1) (pe_fld (pv 0) rfl) rfl) (pss_cons (ps_rputK (P := P) (w := w) (K := K) rfl rfl rfl (hu65 hr) (pe_fld (pv 0) rfl) (pv 1) (pe_callB call_len (by rfl) TV.len PySem.boot_len (pa_cons (pe_fld (pv 0) rfl) pa_nil)) rfl)
        (pss_one (ps_expr (pe_bm PySem.F.plainAttrs_list PySem.F.slot_list_append PySem.F.type_list_append mt_append (pe_fld (pv 0) rfl) (pa_cons (pv 1) pa_nil))))) pss_nil)
      (pss_one (ps_ret (pe_rget (hu65 hr) (pe_fld (pv 0) rfl) (pv 1) (fun _ _ => rfl))))), ?_⟩
    obtain ⟨h0, ⟨as, b1, b2, h1, h2⟩, nd, fl, fd⟩ := id hT
    have hin : RowsIn K H (entR 0 rs as) := rowsIn_of b1 b2
    have e8 := PySem.sizeLine_eq
    refine ⟨_, rfl, _, rfl, p, C, dx, _, _, rfl, h0, T.cl, T.n2, rfl, _, k, a, d, ⟨rfl, rfl, h2, hin, hA⟩, _, rfl, ?_⟩
    cases hk : hasR rs k with
    | true =>
      obtain ⟨e1, e2, e3⟩ := posR_old hk
      have hf := findR_some 0 rs as k (posR rs k) b1.symm e2 e3
      rw [Nat.zero_add] at hf
      rw [hf]
      refine iteF ?_
      refine ⟨_, rfl, p, C, dx, _, _, rfl, h0, T.cl, T.n2, rfl, _, rfl, _, k, a, d, _, ⟨rfl, rfl, h2, hin, hA⟩, hf, ?_⟩
      refine q H k0 (fun _ _ _ _ e => e) ?_
      rw [e1]
      exact hT
    | false =>
      obtain ⟨e1, e2⟩ := posR_new hk
      have hn := findR_none 0 rs as k (hasR_not hk)
      rw [hn]
      refine iteT ?_
      refine ⟨_, rfl, p, C, dx, _, _, rfl, h0, T.cl, T.n1, rfl, _, _, rfl, .inl ⟨_, SqL.of h1, rfl⟩, ?_⟩
      refine ⟨_, rfl, p, C, dx, _, _, rfl, h0, T.cl, T.n2, rfl, _, rfl, _, k, a, d, ⟨rfl, rfl, h2, hin, hA⟩, hn, by rw [entR_len 0 rs as b1.symm]; omega, ?_⟩
      have ee := entR_snoc 0 rs as k a b1.symm
      rw [Nat.zero_add] at ee
      rw [List.length_map, b1, ← ee]
      have nld : l ≠ d := fun z => by rw [z, h2] at h1; cases h1
      have npd : p ≠ d := fun z => by rw [z, h2] at h0; cases h0
      have npl : p ≠ l := fun z => by rw [z, h1] at h0; cases h0
      have g0 := (upd_ne (o := dRow P w d (entR 0 (rs ++ [k]) (as ++ [a]))) npd).trans h0
      have g1 := (upd_ne (o := dRow P w d (entR 0 (rs ++ [k]) (as ++ [a]))) nld).trans h1
      have g2 : (upd H d (dRow P w d (entR 0 (rs ++ [k]) (as ++ [a])))) d = _ := upd_same
      have ntd := not_ext h2
      have gT : ∀ b ys, SqT K H b ys → SqT K (upd H d (dRow P w d (entR 0 (rs ++ [k]) (as ++ [a])))) b ys := fun b ys h => sqt_put ntd h
      have gk : ∀ b o, b ≠ l → b ≠ d → H b = some o → (upd H d (dRow P w d (entR 0 (rs ++ [k]) (as ++ [a])))) b = some o := fun b o _ z e => (upd_ne z).trans e
      have gs : Same H0 (upd H d (dRow P w d (entR 0 (rs ++ [k]) (as ++ [a])))) := Same.at0 fd k0
      generalize upd H d (dRow P w d (entR 0 (rs ++ [k]) (as ++ [a]))) = G at g0 g1 g2 gT gk gs ⊢
      refine ⟨_, rfl, p, C, dx, _, _, rfl, g0, T.cl, T.n1, rfl, .inl ⟨rfl, _, SqL.of g1⟩, _, rfl, l, _, _, rfl, rfl, g1, (by rw [List.length_map]; omega), ?_⟩
      rw [show as.map V.ref ++ [V.ref a] = (as ++ [a]).map V.ref from by rw [List.map_append]; rfl]
      have m0 := (upd_ne (o := HO.lst ((as ++ [a]).map V.ref)) npl).trans g0
      have m1 : (upd G l (HO.lst ((as ++ [a]).map V.ref))) l = _ := upd_same
      have m2 := (upd_ne (o := HO.lst ((as ++ [a]).map V.ref)) nld.symm).trans g2
      have mT : ∀ b ys, SqT K H b ys → SqT K (upd G l (HO.lst ((as ++ [a]).map V.ref))) b ys := fun b ys h => sqt_put (not_lst g1) (gT b ys h)
      have mk : ∀ b o, b ≠ l → b ≠ d → H b = some o → (upd G l (HO.lst ((as ++ [a]).map V.ref))) b = some o := fun b o z1 z2 e => (upd_ne z1).trans (gk b o z1 z2 e)
      have ms' : Same H0 (upd G l (HO.lst ((as ++ [a]).map V.ref))) := Same.at0 fl gs
      generalize upd G l (HO.lst ((as ++ [a]).map V.ref)) = M at m0 m1 m2 mT mk ms' ⊢
      have hrow : ∀ (i : Nat) (k' : RowK) (a' : Addr), (rs ++ [k])[i]? = some k' → (as ++ [a])[i]? = some a' → RowAt K M k' a' := fun i k' a' e1 e2 => by
        rcases Nat.lt_or_ge i rs.length with z | z
        · rw [List.getElem?_append_left z] at e1
          rw [List.getElem?_append_left (by omega)] at e2
          exact (b2 i k' a' e1 e2).mono mT
        · rw [List.getElem?_append_right z] at e1
          rw [List.getElem?_append_right (by omega)] at e2
          have hi : i - rs.length = 0 := by
            have := (List.getElem?_eq_some_iff.mp e1).1
            simp at this
            omega
          rw [hi] at e1
          rw [show i - as.length = 0 by omega] at e2
          cases e1
          cases e2
          exact hA.mono mT
      have hl2 : (as ++ [a]).length = (rs ++ [k]).length := by rw [List.length_append, List.length_append, b1]; rfl
      have hnd : (rs ++ [k]).Nodup := by
        rw [List.nodup_append]
        refine ⟨nd, List.nodup_cons.mpr ⟨List.not_mem_nil, List.nodup_nil⟩, fun x hx y hy e => ?_⟩
        rw [List.mem_singleton.mp hy] at e
        exact hasR_not hk (e ▸ hx)
      have hf : findR (entR 0 (rs ++ [k]) (as ++ [a])) k = some (.int (rs.length : Nat)) := by
        have := findR_some 0 (rs ++ [k]) (as ++ [a]) k rs.length hl2.symm (by rw [List.getElem?_append_right (Nat.le_refl _), Nat.sub_self]; rfl) fun m hm e => hasR_not hk (by
          rw [List.getElem?_append_left hm] at e
          exact List.mem_of_getElem? e)
        rw [Nat.zero_add] at this
        exact this
      have hin2 : RowsIn K M (entR 0 (rs ++ [k]) (as ++ [a])) := rowsIn_of hl2 hrow
      refine ⟨_, rfl, p, C, dx, _, _, rfl, m0, T.cl, T.n2, rfl, _, rfl, _, k, a, d, _, ⟨rfl, rfl, m2, hin2, hA.mono mT⟩, hf, ?_⟩
      rw [← e2]
      exact q M ms' mk ⟨m0, ⟨as ++ [a], by rw [e1]; exact hl2, by rw [e1]; exact hrow, m1, by rw [e1]; exact m2⟩, by rw [e1]; exact hnd, fl, fd⟩
end
end T10
set_option Elab.async false
set_option linter.all false
set_option maxRecDepth 100000
set_option maxHeartbeats 4000000
/-! o[k] by the own method, with a fact about that one method -/
namespace Tp
open PySem PySem.Spec PyProof.Rows L2
section
variable {X : Cx} {j : Nat} {C : Addr} {sp : Sp} {o i : Expr} {pos : Pos} {to ti : TE} {W : WX}
theorem pe_getL (c : Ctr X.prog X.w X.K X.mg X.base j C "__getitem__" [] sp) (hfn : ∀ f, PySem.W.findIn X.K (.ref C) "__getitem__" = some (some (.ref f)) → PySem.W.fnIn X.K f = true) (hr : Room (j + 1) X.A) (hG : X.A.guards = some []) (tk : Takes X W) (ho : PE X o to) (hi : PE X i ti)
    (hsl : ∀ (a : Addr) (v : Value), subscripted i true (.ref a) v = runValue (.builtin "lifetime.subscript" ⟨[.ref a, v], []⟩) := by (intro _ _; with_unfolding_all rfl)) : PE X (.Subscript o i pos) (tGetX C sp W to ti) := by
  refine ⟨fun pins s σ H Q I h => ?_⟩
  refine Subscript_ (thn (ho.run pins s σ H _ I h) fun u s1 ⟨y, H1, I1, r1, q1⟩ => thn (hi.run pins s1 σ H1 _ I1 q1) fun v s2 ⟨x, H2, I2, r2, a, dx, fs, ey, ha, q2⟩ => ?_)
  subst ey
  cases (show u = Value.ref a from r1)
  obtain ⟨f, fd, ps, ds, cl, hm, F, hb, hd⟩ := c.ex
  cases hd
  obtain ⟨ox, od, J⟩ := ins_at I2 ha
  obtain ⟨m, hF⟩ := I2.fr
  exact PySem.W.sub_K hF I2.ok.mod.kin J hm.at_ (hfn _ hm.at_) hm.fn (run_gX (A := X.A.in1) (us := [.ref a, v]) (vs := [.ref a, x]) F hr.in1 hG rfl hb .nil tk I2 (.cons rfl (.cons r2 .nil)) q2) (hsl _ _)
end
end Tp
set_option Elab.async false
set_option linter.all false
set_option maxRecDepth 100000
set_option maxHeartbeats 4000000
namespace T10
open PySem PySem.Spec PyProof.Rows L2 Tp
section
variable {P : Program} {w : World} {K : PySem.W.Frag} {mg : Str → Option Value} {base : Heap} {f : Addr} {fd : FuncData}


/-- a term row is entered -/
def stepT (s : List RowK × List Int) (t : EdgeK) : List RowK × List Int := (addR s.1 (t.1, .inr (t.2.map (atL s.2))), s.2 ++ [((posR s.1 (t.1, .inr (t.2.map (atL s.2))) : Nat) : Int)])
def tabT (ts : List EdgeK) : List RowK × List Int := ts.foldl stepT ([], [])
theorem tabT_snoc (ts : List EdgeK) (t : EdgeK) : tabT (ts ++ [t]) = stepT (tabT ts) t := by
  unfold tabT
  rw [List.foldl_append]
  rfl
/-- rows whose numbers stand ahead of them, and their numbers -/
structure TOk (rs : List RowK) (ns : List Int) : Prop where
  nr : ∀ n ∈ ns, 0 ≤ n ∧ n < (rs.length : Int)
  ro : ∀ (i : Nat) k, rs[i]? = some k → k.1.length ≤ 8 ∧ (argsK k).length ≤ 3 ∧ ∀ m ∈ argsK k, 0 ≤ m ∧ m < (i : Int)
  le : rs.length ≤ ns.length
theorem posR_lt (rs : List RowK) (k : RowK) : posR rs k < (addR rs k).length := by
  cases hk : hasR rs k with
  | true =>
    obtain ⟨e1, e2, e3⟩ := posR_old hk
    rw [e1]
    exact (List.getElem?_eq_some_iff.mp e2).1
  | false =>
    obtain ⟨e1, e2⟩ := posR_new hk
    rw [e1, e2, List.length_append, List.length_singleton]
    omega
theorem addR_len (rs : List RowK) (k : RowK) : rs.length ≤ (addR rs k).length ∧ (addR rs k).length ≤ rs.length + 1 := by
  unfold addR
  split
  · omega
  · rw [List.length_append, List.length_singleton]
    omega
theorem atL_mem {ns : List Int} {m : Int} (h0 : 0 ≤ m) (h1 : m < (ns.length : Int)) : atL ns m ∈ ns := by
  unfold atL
  have : m.toNat < ns.length := by omega
  rw [List.getD_eq_getElem?_getD, List.getElem?_eq_getElem this]
  exact List.getElem_mem this
theorem TOk.step {rs : List RowK} {ns : List Int} (h : TOk rs ns) {t : EdgeK} (h1 : t.1.length ≤ 8) (h2 : t.2.length ≤ 3) (h3 : ∀ m ∈ t.2, 0 ≤ m ∧ m < (ns.length : Int)) : TOk (stepT (rs, ns) t).1 (stepT (rs, ns) t).2 := by
  unfold stepT
  generalize hk : ((t.1, .inr (t.2.map (atL ns))) : RowK) = k
  have hk1 : k.1.length ≤ 8 := by rw [← hk]; exact h1
  have hk2 : (argsK k).length ≤ 3 := by rw [← hk]; show (t.2.map (atL ns)).length ≤ 3; rw [List.length_map]; exact h2
  have hk3 : ∀ m ∈ argsK k, 0 ≤ m ∧ m < (rs.length : Int) := by
    rw [← hk]
    intro m hm
    obtain ⟨m', hm', rfl⟩ := List.mem_map.mp (show m ∈ t.2.map (atL ns) from hm)
    exact h.nr _ (atL_mem (h3 m' hm').1 (h3 m' hm').2)
  obtain ⟨l1, l2⟩ := addR_len rs k
  have lp := posR_lt rs k
  refine ⟨fun n hn => ?_, fun i k' hk' => ?_, ?_⟩
  · rcases List.mem_append.mp hn with z | z
    · have := h.nr n z
      show 0 ≤ n ∧ n < ((addR rs k).length : Int)
      omega
    · rw [List.mem_singleton.mp z]
      show 0 ≤ ((posR rs k : Nat) : Int) ∧ ((posR rs k : Nat) : Int) < ((addR rs k).length : Int)
      omega
  · have hk'' : (addR rs k)[i]? = some k' := hk'
    unfold addR at hk''
    split at hk''
    · exact h.ro i k' hk''
    · rcases Nat.lt_or_ge i rs.length with z | z
      · rw [List.getElem?_append_left z] at hk''
        exact h.ro i k' hk''
      · rw [List.getElem?_append_right z] at hk''
        have hi : i - rs.length = 0 := by
          have := (List.getElem?_eq_some_iff.mp hk'').1
          simp at this
          omega
        rw [hi] at hk''
        cases hk''
        exact ⟨hk1, hk2, fun m hm => by have := hk3 m hm; omega⟩
  · show (addR rs k).length ≤ (ns ++ [_]).length
    rw [List.length_append, List.length_singleton]
    have := h.le
    omega
def spEnterT (P : Program) (w : World) (K : PySem.W.Frag) (C : Addr) : Sp := fun vs H Q _ => ∃ (H0 : Hp) (p dx l d : Addr) (x : V) (ts : List EdgeK), vs = [.ref p, x] ∧ Same H0 H ∧ TabAt P w K H0 H C p dx l d [] ∧ TermsD K H0 x ts ∧ TermsOk ts ∧ ts.length ≤ 1000 ∧
  ∀ (a : Addr) (H' : Hp), Same H0 H' → TabAt P w K H0 H' C p dx l d (tabT ts).1 → TOk (tabT ts).1 (tabT ts).2 → (tabT ts).2.length = ts.length → H' a = some (.lst ((tabT ts).2.map V.int)) → H0 a = none → Q (.ref a) H'

abbrev sEt : Stmt := inClass (top 43) 3
abbrev nEt : List Str := ["self", "terms", "numbers", "symbol", "arguments", "index"]
theorem scEt : FnScope nEt ["self", "terms"] (defScope sEt) := ⟨rfl, rfl, rfl, by decide +kernel, rfl, by decide +kernel, by decide +kernel⟩

theorem ok_Et (F : Fun K "enter_terms" "TermTable.enter_terms" sEt f fd) {C : Addr} (T : TxtTt K C) (mT : mg "tuple" = none) (CE : Ct P w K mg base 1 C "enter" [] (spEnter P w K C)) : FnG P w K mg base CX0 2 f fd ["self", "terms"] (spEnterT P w K C) := by
  refine FunG.ok F scEt (fun vs H Q E h => ?_) (fun cdv B out s H vs Q E hr hG h => ?_)
  · obtain ⟨H0, p, dx, l, d, x, ts, rfl, _⟩ := h
    rfl
  · obtain ⟨H0, p, dx, l, d, x, ts, rfl, k0, hT, hx, hok, hl, q⟩ := h
    refine ⟨_, (pss_cons (ps_set (i := 2) scEt.nd rfl (.inr rfl) (pe_lst pa_nil))
      (pss_cons (ps_for PassesOwn.never rfl (pi_seq (pv 1)) (pg_seq rfl (pgs_cons (pg_name (i := 3) scEt.nd rfl (Or.inl rfl)) (pgs_cons (pg_name (i := 4) scEt.nd rfl (Or.inl rfl)) pgs_nil))) (pss_one (ps_expr (pe_bm PySem.F.plainAttrs_list PySem.F.slot_list_append PySem.F.type_list_append mt_append (pv 2) (pa_cons (pe_ct (pv 0) CE hr hG (by decide) (pa_cons (pe_tup (pa_cons (pv 3) (pa_cons (pe_callTy call_tuple_of (by rfl) mT (by decide +kernel) (pa_cons (pe_lc (own := [("index", 5)]) (g := gName 5) (tt := tYes) rfl scEt.nd (pi_seq (pv 4)) (blkOk_by (N := nEt) (sc := defScope sEt) (by decide +kernel)) (fun _ _ _ _ _ => pg_name (i := 5) scEt.nd rfl (Or.inl rfl)) (fun _ _ _ _ _ => pts_nil) (fun _ _ _ _ _ => (pe_ix (ix_listK (K := K) rfl) (pv 2) (pv 5) fun _ _ => rfl))) pa_nil)) pa_nil))) pa_nil)) pa_nil)))))
      (pss_one (ps_ret (pv 2))))), ?_⟩
    refine ⟨(by show 0 ≤ sizeLine; decide), fun nl hnl => ?_⟩
    have k1 : Same H (upd H nl (.lst [])) := Same.put hnl
    have h1 : (upd H nl (.lst [])) nl = some (.lst (([] : List Int).map V.int)) := upd_same
    have hT1 := hT.up k1
    have n0 : H0 nl = none := Same.none k0 hnl
    have nll : nl ≠ l := fun z => by obtain ⟨as, _, _, h3, _⟩ := hT.ex; rw [z, h3] at hnl; cases hnl
    have nld : nl ≠ d := fun z => by obtain ⟨as, _, _, _, h4⟩ := hT.ex; rw [z, h4] at hnl; cases hnl
    generalize upd H nl (.lst []) = H1 at k1 h1 hT1 ⊢
    have k01 := Same.tr k0 k1
    dsimp only [gName]
    obtain ⟨a, tv, rfl, ha, hp⟩ := hx
    refine ⟨_, rfl, a, rfl, seq_itK ha k01 fun J S wk hS => ?_⟩
    refine for_it wk (fun i σ G => ∃ o3 o4, σ = [some (.ref p), some (.ref a), some (.ref nl), o3, o4, none] ∧ Same H0 G ∧ TabAt P w K H0 G C p dx l d (tabT (ts.take i)).1 ∧ TOk (tabT (ts.take i)).1 (tabT (ts.take i)).2 ∧ (tabT (ts.take i)).2.length = i ∧ G nl = some (.lst ((tabT (ts.take i)).2.map V.int))) ⟨_, _, rfl, k01, hT1, ⟨fun n hn => (nomatch hn), fun i k hk => (nomatch hk), Nat.le_refl _⟩, rfl, h1⟩ (fun i σ G _ ⟨_, _, _, kG, _⟩ => hS G kG) ?_ ?_
    · rintro i v σ G G' hi ⟨o3, o4, rfl, kG, hTG, hok', hlen, gn⟩ ⟨rfl, hv⟩
      obtain ⟨t, hti, hd⟩ := Pd.at hp hv
      obtain ⟨t1, t2, t3⟩ := hok i t hti
      obtain ⟨tn1, tn2⟩ := name_ok t1
      have hit : i < ts.length := (List.getElem?_eq_some_iff.mp hti).1
      have hsn : tabT (ts.take (i + 1)) = stepT (tabT (ts.take i)) t := by rw [tk_snoc hti, tabT_snoc]
      have hst := hok'.step tn2 t2 (fun m hm => by rw [hlen]; exact t3 m hm)
      generalize tabT (ts.take i) = sn at hTG hok' hlen gn hsn hst
      obtain ⟨rs, ns⟩ := sn
      have hle := hok'.le
      refine term_to kG hd (q := fun b hb => ?_)
      have hbG := hb.up kG
      refine ⟨_, rfl, .inl ⟨rfl, _, SqL.of gn⟩, _, rfl, p, dx, _, rfl, hTG.hp, rfl, _, rfl, _, rfl, b, rfl, seq_itK hbG (Same.refl _) fun J S wk2 hS2 => fun D hD => ?_⟩
      refine lc_it wk2 (fun j M => Same G' M ∧ M D = some (.lst (((t.2.take j).map (atL ns)).map V.int))) ⟨Same.put hD, upd_same⟩ (fun j M _ h => hS2 M h.1) ?_ ?_
      · rintro j v2 M M' hj ⟨kM, md⟩ ⟨rfl, hv2⟩
        rw [List.getElem?_map] at hv2
        obtain ⟨m, hm, rfl⟩ := Option.map_eq_some_iff.mp hv2
        obtain ⟨m0, m1⟩ := t3 m (List.mem_of_getElem? hm)
        refine ⟨rfl, _, rfl, _, rfl, nl, _, _, _, rfl, rfl, SqL.of (kM _ _ gn), atI_at hlen m0 m1, _, md, (by rw [List.length_map, List.length_map, List.length_take, PySem.sizeLine_eq]; omega), Same.at0 hD kM, ?_⟩
        rw [upd_same, tk_snoc hm, List.map_append, List.map_append]
        rfl
      · rintro M ⟨kM, md⟩
        rw [List.length_map, List.take_length] at md
        refine ⟨D, _, rfl, .inl ⟨SqL.of md, fun t' et => ⟨(by show 2 ≤ sizeLine; decide), fun r er => ?_⟩⟩⟩
        have s3 := Same.put (o := .tup ((t.2.map (atL ns)).map V.int)) et
        have s4 := Same.put (o := .tup [V.str t.1, V.ref t']) er
        have s34 := Same.tr kM (Same.tr s3 s4)
        refine ⟨H0, p, dx, l, d, r, rs, (t.1, .inr (t.2.map (atL ns))), rfl, Same.tr kG s34, hTG.up s34, ⟨tn1, .inr ⟨_, t', rfl, SqT.of upd_same, upT s4 (SqT.of upd_same)⟩⟩, (by show rs.length ≤ 5000; have : rs.length ≤ ns.length := hle; have : ns.length = i := hlen; omega), fun G2 k2 f2 hT2 => ?_⟩
        have gn2 := f2 nl _ nll nld (s34 _ _ gn)
        refine ⟨nl, _, _, rfl, rfl, gn2, (by rw [List.length_map, PySem.sizeLine_eq]; have : ns.length = i := hlen; omega), ?_⟩
        refine ⟨_, _, rfl, Same.at0 n0 k2, ?_, ?_, ?_, ?_⟩
        · rw [hsn]
          obtain ⟨as, c1, c2, c3, c4⟩ := hT2.ex
          have npn : p ≠ nl := fun z => by have := hT2.hp; rw [z, gn2] at this; cases this
          exact ⟨(upd_ne npn).trans hT2.hp, ⟨as, c1, fun i k a e1 e2 => (c2 i k a e1 e2).mono fun _ _ h => sqt_put (not_lst gn2) h, (upd_ne nll.symm).trans c3, (upd_ne nld.symm).trans c4⟩, hT2.nd, hT2.fl, hT2.fd⟩
        · rw [hsn]
          exact hst
        · rw [hsn]
          show (ns ++ [_]).length = i + 1
          rw [List.length_append, List.length_singleton]
          have : ns.length = i := hlen
          omega
        · rw [hsn, upd_same]
          show some (HO.lst (ns.map V.int ++ [_])) = some (HO.lst ((ns ++ [_]).map V.int))
          rw [List.map_append]
          rfl
    · rintro σ G ⟨o3, o4, rfl, kG, hTG, hok', hlen, gn⟩
      rw [hp.length, List.take_length] at hTG hok' hlen gn
      exact ⟨_, rfl, q nl G kG hTG hok' hlen gn n0⟩
end
end T10
set_option Elab.async false
set_option linter.all false
set_option maxRecDepth 100000
set_option maxHeartbeats 4000000
namespace T10
open PySem PySem.Spec PyProof.Rows L2 Tp
section
variable {P : Program} {w : World} {K : PySem.W.Frag} {mg : Str → Option Value} {base : Heap} {f : Addr} {fd : FuncData}


/-- numbers, each with its place -/
def kvF : Nat → List Int → List (Key × V)
  | _, [] => []
  | i, n :: l => (Sum.inl n, V.int (i : Nat)) :: kvF (i + 1) l
theorem kvF_len : ∀ (i : Nat) (l : List Int), (kvF i l).length = l.length
  | _, [] => rfl
  | i, n :: l => congrArg Nat.succ (kvF_len (i + 1) l)
theorem kvF_snoc : ∀ (i : Nat) (l : List Int) (n : Int), kvF i (l ++ [n]) = kvF i l ++ [(Sum.inl n, V.int ((i + l.length : Nat)))]
  | i, [], n => rfl
  | i, m :: l, n => by
    show (Sum.inl m, V.int (i : Nat)) :: kvF (i + 1) (l ++ [n]) = (Sum.inl m, V.int (i : Nat)) :: (kvF (i + 1) l ++ _)
    rw [kvF_snoc (i + 1) l n, List.length_cons, show i + 1 + l.length = i + (l.length + 1) by omega]
theorem kvF_val : ∀ (i : Nat) (l : List Int) (n : Int), (n ∈ l → valV (kvF i l) (Sum.inl n) = some (V.int ((i + l.idxOf n : Nat)))) ∧ (n ∉ l → valV (kvF i l) (Sum.inl n) = none)
  | i, [], n => ⟨fun h => (nomatch h), fun _ => rfl⟩
  | i, m :: l, n => by
    obtain ⟨h1, h2⟩ := kvF_val (i + 1) l n
    unfold kvF
    by_cases e : m = n
    · subst e
      refine ⟨fun _ => ?_, fun h => absurd List.mem_cons_self h⟩
      rw [valV_pos rfl, List.idxOf_cons_self]
      rfl
    · rw [valV_neg (fun z => e (Sum.inl.inj z))]
      refine ⟨fun h => ?_, fun h => h2 fun z => h (List.mem_cons_of_mem _ z)⟩
      rw [h1 ((List.mem_cons.mp h).resolve_left fun z => e z.symm), List.idxOf_cons, show (m == n) = false from beq_false_of_ne e]
      show some (V.int ((i + 1 + l.idxOf n : Nat) : Int)) = some (V.int ((i + (l.idxOf n + 1) : Nat) : Int))
      rw [show i + 1 + l.idxOf n = i + (l.idxOf n + 1) by omega]
/-- what is placed, what waits -/
structure UsI (rs : List RowK) (pl ws : List Int) : Prop where
  pn : pl.Nodup
  pr : ∀ n ∈ pl, 0 ≤ n ∧ n < (rs.length : Int)
  wn : ws.Pairwise (· > ·)
  wr : ∀ n ∈ ws, 0 ≤ n ∧ n < (rs.length : Int)
  wp : ∀ n ∈ ws, n ∉ pl
theorem int_le {ks : List Int} {n : Nat} (h : ks.Nodup) (hr : ∀ k ∈ ks, 0 ≤ k ∧ k < (n : Int)) : ks.length ≤ n := by
  have : ∀ (ks ns : List Int), ks.Nodup → (∀ k ∈ ks, k ∈ ns) → ks.length ≤ ns.length := by
    intro ks
    induction ks with
    | nil => intro ns _ _; exact Nat.zero_le _
    | cons k ks ih =>
      intro rs hn h
      obtain ⟨a, b, e⟩ := List.append_of_mem (h k List.mem_cons_self)
      have hk := List.nodup_cons.mp hn
      have := ih (a ++ b) hk.2 fun j hj => by
        have hj2 := h j (List.mem_cons_of_mem _ hj)
        rw [e] at hj2
        rcases List.mem_append.mp hj2 with z | z
        · exact List.mem_append_left _ z
        · rcases List.mem_cons.mp z with z | z
          · exact absurd (z ▸ hj) hk.1
          · exact List.mem_append_right _ z
      rw [e, List.length_append, List.length_cons, List.length_cons]
      rw [List.length_append] at this
      omega
  have h2 := this ks ((List.range n).map fun (j : Nat) => (j : Int)) h fun k hk => by
    obtain ⟨h0, h1⟩ := hr k hk
    exact List.mem_map.mpr ⟨k.toNat, List.mem_range.mpr (by omega), by omega⟩
  rwa [List.length_map, List.length_range] at h2
theorem UsI.len {rs : List RowK} {pl ws : List Int} (h : UsI rs pl ws) : pl.length + ws.length ≤ rs.length := by
  have := int_le (ks := pl ++ ws) (n := rs.length) (by
    rw [List.nodup_append]
    refine ⟨h.pn, h.wn.imp (fun z e => by omega), fun a ha b hb e => ?_⟩
    exact h.wp b hb (e ▸ ha)) fun k hk => (List.mem_append.mp hk).elim (h.pr k) (h.wr k)
  rwa [List.length_append] at this
def UsW (H : Hp) (rs : List RowK) (cov : List Int) (n : Int) (p nb kl pd : Addr) (m : Nat) (σ : L2.St) (M : Hp) : Prop := ∃ (wl : Addr) (o6 o7 : Option V) (us : List V) (pl ws : List Int), σ = [some (.ref p), some (.ref nb), some (.ref kl), some (.ref pd), some (.int n), some (.ref wl), o6, o7, none] ∧ Same H M ∧ H wl = none ∧ wl ≠ kl ∧ wl ≠ pd ∧ M kl = some (.lst us) ∧ us.length = pl.length ∧ M pd = some (.dK (kvF 0 pl)) ∧ M wl = some (.lst (ws.map V.int)) ∧ UsI rs pl ws ∧ (n ∈ pl ∨ n ∈ ws) ∧ (∀ m ∈ cov, m ∈ pl) ∧ m = 2 * (rs.length - pl.length) - ws.length
def spUsed (P : Program) (w : World) (K : PySem.W.Frag) (C : Addr) : Sp := fun vs H Q _ => ∃ (H0 : Hp) (p dx l d nb : Addr) (rs : List RowK) (xs : List Int), vs = [.ref p, .ref nb] ∧ TabAt P w K H0 H C p dx l d rs ∧ (∀ (i : Nat) k, rs[i]? = some k → k.1.length ≤ 8 ∧ (argsK k).length ≤ 3 ∧ ∀ m ∈ argsK k, 0 ≤ m ∧ m < (i : Int)) ∧ rs.length ≤ 5000 ∧ SqA K H nb (xs.map V.int) ∧ (∀ n ∈ xs, 0 ≤ n ∧ n < (rs.length : Int)) ∧
  ∀ (t kl pd : Addr) (us : List V) (pl : List Int) (H' : Hp), Same H H' → SqT K H' t [.ref kl, .ref pd] → H' kl = some (.lst us) → H' pd = some (.dK (kvF 0 pl)) → H kl = none → (∀ n ∈ xs, n ∈ pl) → Q (.ref t) H'

abbrev sUs : Stmt := inClass (top 43) 4
abbrev nUs : List Str := ["self", "numbers", "kept", "places", "number", "waiting", "row", "missing", "part"]
theorem scUs : FnScope nUs ["self", "numbers"] (defScope sUs) := ⟨rfl, rfl, rfl, by decide +kernel, rfl, by decide +kernel, by decide +kernel⟩

theorem ok_Us (F : Fun K "used" "TermTable.used" sUs f fd) {C : Addr} (T : TxtTt K C) (TV : TxtV mg) (AO : Cg P w K mg base 2 "arguments_of" (spArgs K)) (MV : Cg P w K mg base 2 "moved_row" (spMoved K)) : FnG P w K mg base CX0 3 f fd ["self", "numbers"] (spUsed P w K C) := by
  refine FunG.ok F scUs (fun vs H Q E h => ?_) (fun cdv B out s H vs Q E hr hG h => ?_)
  · obtain ⟨H0, p, dx, l, d, nb, rs, xs, rfl, _⟩ := h
    rfl
  · obtain ⟨H0, p, dx, l, d, nb, rs, xs, rfl, hT, hro, hrl, hnb, hxr, q⟩ := h
    refine ⟨_, (pss_cons (ps_set (i := 2) scUs.nd rfl (.inl rfl) (pe_lst pa_nil))
      (pss_cons (ps_set (i := 3) scUs.nd rfl (.inr rfl) pe_dnewK)
      (pss_cons (ps_for PassesOwn.never rfl (pi_seq (pv 1)) (pg_name (i := 4) scUs.nd rfl (Or.inl rfl)) (C8.pss_cut (ps_set (i := 5) scUs.nd rfl (.inl rfl) (pe_ifExp (pt_cmp (pc_din (hu1 hr) (pv 4) (pv 3))) (pe_lst pa_nil) (pe_lst (pa_cons (pv 4) pa_nil))))
        (pss_one (ps_while PassesOwn.never (pt_truth (pv 5) (by intro _; rfl)) (pss_cons (ps_set (i := 6) scUs.nd rfl (.inl rfl) (pe_ix ix_list (pe_fld (pv 0) rfl) (pe_ix ix_list (pv 5) (pe_un un_neg pe_int) fun _ _ => rfl) fun _ _ => rfl))
          (pss_cons (ps_setLc (i := 7) (own := [("part", 8)]) (g := gName 8) rfl scUs.nd rfl rfl (sw_true rfl rfl rfl (by decide +kernel)) (pi_seq (pe_g AO hr hG (by decide) (by rfl) (pa_cons (pv 6) pa_nil))) (blkOk_by (N := nUs) (sc := defScope sUs) (by decide +kernel)) (fun _ _ _ _ _ => pg_name (i := 8) scUs.nd rfl (Or.inl rfl)) (fun _ _ _ _ _ => (pts_one (pt_cmp (pc_dnotin (hu1 hr) (pv 8) (pv 3))))) (fun _ _ _ _ _ => (pv 8)))
          (pss_one (ps_if (pt_truth (pv 7) (by intro _; rfl)) (pss_one (ps_expr (pe_bm PySem.F.plainAttrs_list PySem.F.slot_list_append PySem.F.type_list_append mt_append (pv 5) (pa_cons (pe_ix ix_list (pv 7) pe_int fun _ _ => rfl) pa_nil)))) (pss_cons (ps_dput (hu1 hr) (pv 3) (pe_bm0 PySem.F.plainAttrs_list PySem.F.slot_list_pop PySem.F.type_list_pop mt_pop (pv 5)) (pe_callB call_len (by rfl) TV.len PySem.boot_len (pa_cons (pv 2) pa_nil)) rfl)
            (pss_one (ps_expr (pe_bm PySem.F.plainAttrs_list PySem.F.slot_list_append PySem.F.type_list_append mt_append (pv 2) (pa_cons (pe_g MV hr hG (by decide) (by rfl) (pa_cons (pv 6) (pa_cons (pv 3) pa_nil))) pa_nil)))))))))))))
      (pss_one (ps_ret (pe_tup (pa_cons (pv 2) (pa_cons (pv 3) pa_nil)))))))), ?_⟩
    have e8 := PySem.sizeLine_eq
    refine ⟨(by show 0 ≤ sizeLine; decide), fun kl hkl => ?_⟩
    have k1 : Same H (upd H kl (.lst [])) := Same.put hkl
    have h1 : (upd H kl (.lst [])) kl = some (.lst ([] : List V)) := upd_same
    generalize upd H kl (.lst []) = H1 at k1 h1 ⊢
    dsimp only [gName]
    refine fun pd hpd => ?_
    have k2 : Same H1 (upd H1 pd (.dK [])) := Same.put hpd
    have h2 : (upd H1 pd (.dK [])) pd = some (.dK (kvF 0 [])) := upd_same
    have kl2 := k2 _ _ h1
    generalize upd H1 pd (.dK []) = H2 at k2 h2 kl2 ⊢
    have k02 := Same.tr k1 k2
    have hpdH : H pd = none := Same.none k1 hpd
    have nkp : kl ≠ pd := ne_of_none h1 hpd
    dsimp only [gName]
    refine ⟨_, rfl, nb, rfl, seq_itK hnb k02 fun J S wk hS => ?_⟩
    refine for_it wk (fun i σ G => ∃ o4 o5 o6 o7 us pl, σ = [some (.ref p), some (.ref nb), some (.ref kl), some (.ref pd), o4, o5, o6, o7, none] ∧ Same H G ∧ G kl = some (.lst us) ∧ us.length = pl.length ∧ G pd = some (.dK (kvF 0 pl)) ∧ UsI rs pl [] ∧ (∀ m ∈ xs.take i, m ∈ pl)) ⟨_, _, _, _, [], [], rfl, k02, kl2, rfl, h2, ⟨List.nodup_nil, fun _ h => (nomatch h), .nil, fun _ h => (nomatch h), fun _ h => (nomatch h)⟩, fun m hm => by rw [List.take_zero] at hm; cases hm⟩ (fun i σ G _ ⟨_, _, _, _, _, _, _, kG, _⟩ => hS G kG) ?_ ?_
    · rintro i v σ G G' hi ⟨o4, o5, o6, o7, us, pl, rfl, kG, gk, ul, gp, hU, hcov⟩ ⟨rfl, hv⟩
      rw [List.getElem?_map] at hv
      obtain ⟨n, hn, rfl⟩ := Option.map_eq_some_iff.mp hv
      obtain ⟨n0, n1⟩ := hxr n (List.mem_of_getElem? hn)
      obtain ⟨v1, v2⟩ := kvF_val 0 pl n
      refine ⟨fun σ M => ∃ m, UsW H rs (xs.take i) n p nb kl pd m σ M, ?_, ?_⟩
      · refine ⟨_, rfl, _, rfl, pd, _, rfl, DGet.k gp (k := Sum.inl n), _, rfl, ?_⟩
        by_cases hnp : n ∈ pl
        · rw [v1 hnp]
          refine iteT ⟨(by show 0 ≤ sizeLine; decide), fun wl hwl => ?_⟩
          have s3 := Same.put (o := .lst []) hwl
          exact ⟨_, wl, o6, o7, us, pl, [], rfl, Same.tr kG s3, Same.none kG hwl, (ne_of_none gk hwl).symm, (ne_of_none gp hwl).symm, s3 _ _ gk, ul, s3 _ _ gp, upd_same, hU, .inl hnp, hcov, rfl⟩
        · rw [v2 hnp]
          refine iteF ⟨_, rfl, (by show 1 ≤ sizeLine; decide), fun wl hwl => ?_⟩
          have s3 := Same.put (o := .lst [V.int n]) hwl
          exact ⟨_, wl, o6, o7, us, pl, [n], rfl, Same.tr kG s3, Same.none kG hwl, (ne_of_none gk hwl).symm, (ne_of_none gp hwl).symm, s3 _ _ gk, ul, s3 _ _ gp, upd_same, ⟨hU.pn, hU.pr, List.pairwise_singleton _ _, fun m hm => by rw [List.mem_singleton.mp hm]; exact ⟨n0, n1⟩, fun m hm => by rw [List.mem_singleton.mp hm]; exact hnp⟩, .inr List.mem_cons_self, hcov, rfl⟩
      · rintro σ2 M2 ⟨m0, hW0⟩
        refine ⟨fun m σ M => UsW H rs (xs.take i) n p nb kl pd m σ M, ⟨m0, hW0⟩, ?_⟩
        rintro m σ M ⟨wl, o6, o7, us, pl, ws, rfl, kM, wH, nwk, nwp, mk, ul, mp, mw, hU, hnn, hcov, rfl⟩
        have hUl := hU.len
        rcases List.eq_nil_or_concat ws with rfl | ⟨ws', y, rfl⟩
        · refine ⟨_, rfl, false, .inl ⟨_, SqL.of mw, rfl⟩, iteF ?_⟩
          refine ⟨_, _, _, _, us, pl, rfl, kM, mk, ul, mp, hU, fun m hm => ?_⟩
          rw [tk_snoc hn] at hm
          rcases List.mem_append.mp hm with z | z
          · exact hcov m z
          · rw [List.mem_singleton.mp z]
            exact hnn.resolve_right List.not_mem_nil
        · rw [List.concat_eq_append] at mw hU hnn hUl
          rw [List.length_append, List.length_singleton] at hUl
          refine ⟨_, rfl, true, .inl ⟨_, SqL.of mw, by rw [List.map_append]; cases ws' <;> rfl⟩, iteT ⟨fun σ' M' => ∃ m', m' < 2 * (rs.length - pl.length) - (ws'.concat y).length ∧ UsW H rs (xs.take i) n p nb kl pd m' σ' M', fun σ' M' h => h, ?_⟩⟩
          obtain ⟨y0, y1⟩ := hU.wr y (List.mem_append_right _ List.mem_cons_self)
          have hyp := hU.wp y (List.mem_append_right _ List.mem_cons_self)
          obtain ⟨wd1, _, wd2⟩ := List.pairwise_append.mp hU.wn
          obtain ⟨h0, ⟨as, b1, b2, h1', h2'⟩, nd, fl, fd⟩ := hT.up kM
          obtain ⟨j, hj⟩ : ∃ j : Nat, y = (j : Int) := ⟨y.toNat, by omega⟩
          have hjl : j < rs.length := by omega
          obtain ⟨k, hk⟩ : ∃ k, rs[j]? = some k := ⟨_, List.getElem?_eq_getElem hjl⟩
          obtain ⟨a, ha⟩ : ∃ a, as[j]? = some a := ⟨_, List.getElem?_eq_getElem (by omega)⟩
          have hA := b2 j k a hk ha
          obtain ⟨r1, r2, r3⟩ := hro j k hk
          refine ⟨_, rfl, p, C, dx, _, _, rfl, h0, T.cl, T.n1, rfl, _, rfl, _, rfl, wl, _, _, .int y, rfl, rfl, SqL.of mw, (by rw [List.map_append]; exact atI_last _ _), l, _, _, .ref a, rfl, rfl, SqL.of h1', (by rw [hj]; exact atI_nat (by rw [List.getElem?_map, ha]; rfl)), ?_⟩
          refine ⟨_, rfl, ?_⟩
          dsimp only [tNil]
          refine args_row hA fun b M3 s3 hb => ?_
          refine ⟨b, rfl, seq_it (.inr hb) fun J wk => fun D hD => lc_it wk (fun t N => Same M3 N ∧ N D = some (.lst ((((argsK k).take t).filter fun m => decide (m ∉ pl)).map V.int))) ⟨Same.put hD, upd_same⟩ (fun t N _ h => h.1) ?_ ?_⟩
          · rintro t v3 N N' ht ⟨kN, nD⟩ ⟨rfl, hv3⟩
            rw [List.getElem?_map] at hv3
            obtain ⟨m, hm, rfl⟩ := Option.map_eq_some_iff.mp hv3
            have hfl := List.length_filter_le (fun m => decide (m ∉ pl)) ((argsK k).take t)
            rw [List.length_take] at hfl
            obtain ⟨w1, w2⟩ := kvF_val 0 pl m
            refine ⟨rfl, _, rfl, _, rfl, pd, _, rfl, DGet.k (kN _ _ (s3 _ _ mp)) (k := Sum.inl m), _, rfl, ?_⟩
            by_cases z : m ∈ pl
            · rw [w1 z]
              refine iteF ?_
              refine ⟨kN, ?_⟩
              rw [nD, tk_snoc hm, List.filter_append, List.filter_cons, decide_eq_false (fun w => w z)]
              simp
            · rw [w2 z]
              refine iteT ?_
              refine ⟨_, rfl, _, nD, (by rw [List.length_map]; omega), Same.at0 hD kN, ?_⟩
              rw [upd_same, tk_snoc hm, List.filter_append, List.filter_cons, decide_eq_true z, List.map_append]
              rfl
          · rintro N ⟨kN, nD⟩
            rw [List.length_map, List.take_length] at nD
            have k3N := Same.tr s3 kN
            have kHN := Same.tr kM k3N
            have mkN := k3N _ _ mk
            have mpN := k3N _ _ mp
            have mwN := k3N _ _ mw
            cases hms : (argsK k).filter (fun m => decide (m ∉ pl)) with
            | cons m rest =>
              rw [hms] at nD
              have hmm : m ∈ (argsK k).filter (fun m => decide (m ∉ pl)) := by rw [hms]; exact List.mem_cons_self
              obtain ⟨hm1, hm2⟩ := List.mem_filter.mp hmm
              have hm3 : m ∉ pl := of_decide_eq_true hm2
              obtain ⟨m0, m1⟩ := r3 m hm1
              refine ⟨_, rfl, true, .inl ⟨_, SqL.of nD, rfl⟩, iteT ?_⟩
              refine ⟨_, rfl, .inl ⟨rfl, _, SqL.of mwN⟩, _, rfl, D, _, _, .int m, rfl, rfl, SqL.of nD, atI_nat (j := 0) rfl, wl, _, _, rfl, rfl, mwN, (by rw [List.length_map, List.length_append, List.length_singleton]; omega), ?_⟩
              have hU2 : UsI rs pl ((ws' ++ [y]) ++ [m]) := by
                refine ⟨hU.pn, hU.pr, List.pairwise_append.mpr ⟨hU.wn, List.pairwise_singleton _ _, fun u hu w hw => ?_⟩, fun u hu => ?_, fun u hu => ?_⟩
                · rw [List.mem_singleton.mp hw]
                  rcases List.mem_append.mp hu with z | z
                  · have := wd2 u z y List.mem_cons_self
                    omega
                  · rw [List.mem_singleton.mp z]
                    omega
                · rcases List.mem_append.mp hu with z | z
                  · exact hU.wr u z
                  · rw [List.mem_singleton.mp z]
                    omega
                · rcases List.mem_append.mp hu with z | z
                  · exact hU.wp u z
                  · rw [List.mem_singleton.mp z]
                    exact hm3
              have hU2l := hU2.len
              rw [List.length_append, List.length_append, List.length_singleton, List.length_singleton] at hU2l
              refine ⟨2 * (rs.length - pl.length) - ((ws' ++ [y]) ++ [m]).length, ?_, wl, _, _, us, pl, (ws' ++ [y]) ++ [m], rfl, Same.at0 wH kHN, wH, nwk, nwp, (upd_ne nwk.symm).trans mkN, ul, (upd_ne nwp.symm).trans mpN, ?_, hU2, hnn.imp id fun z => List.mem_append_left _ z, hcov, rfl⟩
              · rw [List.concat_eq_append, List.length_append, List.length_append, List.length_singleton, List.length_singleton]
                omega
              · rw [upd_same, List.map_append (l₂ := [m])]
                rfl
            | nil =>
              rw [hms] at nD
              have hall : ∀ m ∈ argsK k, m ∈ pl := fun m hm => by
                by_cases z : m ∈ pl
                · exact z
                · have : m ∈ (argsK k).filter (fun m => decide (m ∉ pl)) := List.mem_filter.mpr ⟨hm, decide_eq_true z⟩
                  rw [hms] at this
                  cases this
              refine ⟨_, rfl, false, .inl ⟨_, SqL.of nD, rfl⟩, iteF ?_⟩
              refine ⟨_, rfl, _, _, rfl, .inl ⟨_, SqL.of mkN, rfl⟩, _, rfl, _, rfl, .inl ⟨rfl, _, SqL.of mwN⟩, wl, _, .int y, rfl, rfl, mwN, (by rw [List.map_append, List.length_append, List.length_map, List.map_cons, List.map_nil, List.length_singleton, Nat.add_sub_cancel, List.getElem?_append_right (by rw [List.length_map]; exact Nat.le_refl _), List.length_map, Nat.sub_self]; rfl), ?_⟩
              rw [List.map_append, List.map_cons, List.map_nil, List.dropLast_concat]
              have kW : Same H (upd N wl (.lst (ws'.map V.int))) := Same.at0 wH kHN
              have wW : (upd N wl (.lst (ws'.map V.int))) wl = some (.lst (ws'.map V.int)) := upd_same
              have kWk := (upd_ne (o := .lst (ws'.map V.int)) nwk.symm).trans mkN
              have kWp := (upd_ne (o := .lst (ws'.map V.int)) nwp.symm).trans mpN
              have aW : RowAt K (upd N wl (.lst (ws'.map V.int))) k a := (hA.mono fun _ _ => upT k3N).mono fun _ _ h => sqt_put (not_lst mwN) h
              generalize upd N wl (.lst (ws'.map V.int)) = N1 at kW wW kWk kWp aW ⊢
              refine ⟨pd, _, rfl, DPut.k kWp (k := Sum.inl y) (by rw [kvF_len]; omega), ?_⟩
              rw [putK_new _ ((kvF_val 0 pl y).2 hyp), ul]
              have esn := kvF_snoc 0 pl y
              rw [Nat.zero_add] at esn
              rw [← esn]
              have kX : Same H (upd N1 pd (.dK (kvF 0 (pl ++ [y])))) := Same.at0 hpdH kW
              have pX : (upd N1 pd (.dK (kvF 0 (pl ++ [y])))) pd = some (.dK (kvF 0 (pl ++ [y]))) := upd_same
              have kXk := (upd_ne (o := .dK (kvF 0 (pl ++ [y]))) nkp).trans kWk
              have kXw := (upd_ne (o := .dK (kvF 0 (pl ++ [y]))) nwp).trans wW
              have aX : RowAt K (upd N1 pd (.dK (kvF 0 (pl ++ [y])))) k a := aW.mono fun _ _ h => sqt_put (fun ys r => by
                rcases r with r | ⟨o, r⟩
                · rw [kWp] at r; cases r
                · rw [kWp] at r; cases r) h
              generalize upd N1 pd (.dK (kvF 0 (pl ++ [y]))) = N2 at kX pX kXk kXw aX ⊢
              have hkH : H kl = none := hkl
              refine ⟨_, rfl, .inl ⟨rfl, _, SqL.of kXk⟩, _, rfl, _, rfl, a, pd, k, (fun m => (((pl ++ [y]).idxOf m : Nat) : Int)), _, rfl, aX, pX, by omega, r2, fun m hm => ?_, fun r N3 s4 hr => ?_⟩
              · have := (kvF_val 0 (pl ++ [y]) m).1 (List.mem_append_left _ (hall m hm))
                rw [Nat.zero_add] at this
                exact this
              · have e3k := s4 _ _ kXk
                refine ⟨kl, _, _, rfl, rfl, e3k, (by rw [ul]; omega), ?_⟩
                have hU2 : UsI rs (pl ++ [y]) ws' := by
                  refine ⟨?_, fun u hu => ?_, wd1, fun u hu => hU.wr u (List.mem_append_left _ hu), fun u hu z => ?_⟩
                  · rw [List.nodup_append]
                    refine ⟨hU.pn, List.nodup_cons.mpr ⟨List.not_mem_nil, List.nodup_nil⟩, fun u hu w hw e => ?_⟩
                    rw [List.mem_singleton.mp hw] at e
                    exact hyp (e ▸ hu)
                  · rcases List.mem_append.mp hu with z | z
                    · exact hU.pr u z
                    · rw [List.mem_singleton.mp z]
                      exact ⟨y0, y1⟩
                  · rcases List.mem_append.mp z with z | z
                    · exact hU.wp u (List.mem_append_left _ hu) z
                    · have := wd2 u hu y List.mem_cons_self
                      rw [List.mem_singleton.mp z] at this
                      omega
                refine ⟨2 * (rs.length - (pl ++ [y]).length) - ws'.length, ?_, wl, _, _, us ++ [V.ref r], pl ++ [y], ws', rfl, Same.at0 hkH (Same.tr kX s4), wH, nwk, nwp, upd_same, by rw [List.length_append, List.length_append, ul]; rfl, (upd_ne nkp.symm).trans (s4 _ _ pX), (upd_ne nwk).trans (s4 _ _ kXw), hU2, ?_, fun m hm => List.mem_append_left _ (hcov m hm), rfl⟩
                · rw [List.concat_eq_append, List.length_append, List.length_append, List.length_singleton]
                  omega
                · rcases hnn with z | z
                  · exact .inl (List.mem_append_left _ z)
                  · rcases List.mem_append.mp z with z | z
                    · exact .inr z
                    · exact .inl (List.mem_append_right _ z)
    · rintro σ G ⟨o4, o5, o6, o7, us, pl, rfl, kG, gk, ul, gp, hU, hcov⟩
      rw [List.length_map, List.take_length] at hcov
      refine ⟨_, rfl, _, rfl, (by show 2 ≤ sizeLine; decide), fun t ht => ?_⟩
      have s3 := Same.put (o := .tup [V.ref kl, V.ref pd]) ht
      exact q t kl pd us pl _ (Same.tr kG s3) (SqT.of upd_same) (s3 _ _ gk) (s3 _ _ gp) hkl hcov
end
end T10
set_option Elab.async false
set_option linter.all false
set_option maxRecDepth 100000
set_option maxHeartbeats 4000000
namespace T10
open PySem PySem.Spec PyProof.Rows L2 Tp
section
variable {P : Program} {w : World} {K : PySem.W.Frag} {mg : Str → Option Value} {base : Heap} {f : Addr} {fd : FuncData}


/-- an edge as a network keeps it -/
def KEdge (K : PySem.W.Frag) (H : Hp) (v : V) (e : EdgeK) : Prop := ∃ a b, v = .ref a ∧ SqT K H a [.str e.1, .ref b] ∧ SqT K H b (e.2.map V.int)
theorem KEdge.mono {K : PySem.W.Frag} {H H' : Hp} {v : V} {e : EdgeK} (ht : ∀ b ys, SqT K H b ys → SqT K H' b ys) (h : KEdge K H v e) : KEdge K H' v e := let ⟨a, b, h1, h2, h3⟩ := h; ⟨a, b, h1, ht _ _ h2, ht _ _ h3⟩
def KEs (K : PySem.W.Frag) (H : Hp) (vs : List V) (es : List EdgeK) : Prop := Paired (KEdge K H) vs es
theorem KEs.mono {K : PySem.W.Frag} {H H' : Hp} {vs : List V} {es : List EdgeK} (ht : ∀ b ys, SqT K H b ys → SqT K H' b ys) (h : KEs K H vs es) : KEs K H' vs es := Paired.mono (fun _ _ q => q.mono ht) h
theorem KEs.up {K : PySem.W.Frag} {H H' : Hp} {vs : List V} {es : List EdgeK} (s : Same H H') (h : KEs K H vs es) : KEs K H' vs es := h.mono fun _ _ => upT s
/-- an edge with other numbers of its starts -/
def mvE (f : Int → Int) (e : EdgeK) : EdgeK := (e.1, e.2.map f)
def mvG (f : Int → Int) (g : GateK) : GateK := (g.1, g.2.1, g.2.2.map (mvE f))
def spKept (K : PySem.W.Frag) : Sp := fun vs H Q _ => ∃ (H0 : Hp) (x : V) (d : Addr) (es : List EdgeK) (kvs : List (Key × V)) (f : Int → Int), vs = [x, .ref d] ∧ Same H0 H ∧ EdgesD K H0 x es ∧ H d = some (.dK kvs) ∧ (∀ e ∈ es, ∀ s ∈ e.2, valV kvs (Sum.inl s) = some (.int (f s))) ∧ es.length ≤ 1000 ∧ (∀ e ∈ es, e.2.length ≤ 1000) ∧
  ∀ (l : Addr) (us : List V) (H' : Hp), Same H H' → H l = none → H' l = some (.lst us) → KEs K H' us (es.map (mvE f)) → Q (.ref l) H'
abbrev nscKe : Scope := { kind := .function, names := [(".0", .local), ("source", .local), ("starts", .local), ("tuple", .globalImplicit), ("moved", .cell)], isGenerator := false, isCoroutine := false }

abbrev sKe : Stmt := top 48
abbrev nKe : List Str := ["edges", "moved", "source", "start", "starts"]
theorem scKe : FnScope nKe ["edges", "moved"] (defScope sKe) := ⟨rfl, rfl, rfl, by decide +kernel, rfl, by decide +kernel, by decide +kernel⟩

theorem ok_Ke (F : Fun K "_kept_edges" "_kept_edges" sKe f fd) (mT : mg "tuple" = none) : FnG P w K mg base CX0 1 f fd ["edges", "moved"] (spKept K) := by
  refine FunG.ok F scKe (fun vs H Q E h => ?_) (fun cdv B out s H vs Q E hr hG h => ?_)
  · obtain ⟨H0, x, d, es, kvs, fn, rfl, _⟩ := h
    rfl
  · obtain ⟨H0, x, d, es, kvs, fn, rfl, k0, hx, hd, hf, hl, hl2, q⟩ := h
    refine ⟨_, (pss_one (ps_ret (pe_lc (own := [("source", 2), ("starts", 4)]) (g := gSeq K 2 (gCons (gName 2) (gCons (gName 4) gNil))) (tt := tYes) rfl scKe.nd (pi_seq (pv 0)) (blkOk_by (N := nKe) (sc := defScope sKe) (by decide +kernel)) (fun _ _ _ _ _ => pg_seq rfl (pgs_cons (pg_name (i := 2) scKe.nd rfl (Or.inl rfl)) (pgs_cons (pg_name (i := 4) scKe.nd rfl (Or.inl rfl)) pgs_nil))) (fun _ _ _ _ _ => pts_nil) (fun _ _ _ _ _ => (pe_tup (pa_cons (pv 2) (pa_cons (pe_callTy (call_tuple_ofK (K := K) rfl) (by rfl) mT (by decide +kernel) (pa_cons (pe_lc (own := [("start", 3)]) (g := gName 3) (tt := tYes) rfl scKe.nd (pi_seqK (K := K) rfl (pv 4)) (blkOk_by (N := nKe) (sc := nscKe) (by decide +kernel)) (fun _ _ _ _ _ => pg_name (i := 3) scKe.nd rfl (Or.inl rfl)) (fun _ _ _ _ _ => pts_nil) (fun _ _ _ _ _ => (pe_dget (hu1 hr) (pv 1) (pv 3) (fun _ _ => rfl)))) pa_nil)) pa_nil))))))), ?_⟩
    obtain ⟨a, vs, rfl, ha, hp⟩ := hx
    refine ⟨_, rfl, a, rfl, seq_itK (ha.A) k0 fun J S wk hS => fun D hD => lc_it wk (fun i G => Same H G ∧ ∃ us, G D = some (.lst us) ∧ KEs K G us ((es.take i).map (mvE fn))) ⟨Same.put hD, [], upd_same, .nil⟩ (fun i G _ h => hS G (Same.tr k0 h.1)) ?_ ?_⟩
    · rintro i v G G' hi ⟨kG, us, gD, hus⟩ ⟨rfl, hv⟩
      obtain ⟨e, hei, hed⟩ := Pd.at hp hv
      have hem := List.mem_of_getElem? hei
      have hul := hus.length
      rw [List.length_map, List.length_take] at hul
      have e8 := PySem.sizeLine_eq
      have hl2e := hl2 e hem
      refine edge_to (Same.tr k0 kG) hed (q := fun b hb => ⟨rfl, ?_⟩)
      have hbG := (hb.up (Same.tr k0 kG)).A
      refine ⟨_, rfl, _, rfl, b, rfl, seq_itK hbG (Same.refl _) fun J S wk2 hS2 => fun D2 hD2 => lc_it wk2 (fun j M => Same G' M ∧ M D2 = some (.lst (((e.2.take j).map fn).map V.int))) ⟨Same.put hD2, upd_same⟩ (fun j M _ h => hS2 M h.1) ?_ ?_⟩
      · rintro j v2 M M' hj ⟨kM, md⟩ ⟨rfl, hv2⟩
        rw [List.getElem?_map] at hv2
        obtain ⟨m, hm, rfl⟩ := Option.map_eq_some_iff.mp hv2
        refine ⟨rfl, _, rfl, _, rfl, d, .int (fn m), rfl, (by rw [← hf e hem m (List.mem_of_getElem? hm)]; exact DGet.k (kM _ _ (kG _ _ hd)) (k := Sum.inl m)), _, md, (by rw [List.length_map, List.length_map, List.length_take]; omega), Same.at0 hD2 kM, ?_⟩
        rw [upd_same, tk_snoc hm, List.map_append, List.map_append]
        rfl
      · rintro M ⟨kM, md⟩
        rw [List.length_map, List.take_length] at md
        refine ⟨D2, _, rfl, .inl ⟨SqL.of md, fun t et => ⟨(by show 2 ≤ sizeLine; decide), fun r er => ?_⟩⟩⟩
        have s3 := Same.put (o := .tup ((e.2.map fn).map V.int)) et
        have s4 := Same.put (o := .tup [V.str e.1, V.ref t]) er
        have s34 := Same.tr kM (Same.tr s3 s4)
        have gD4 := s34 _ _ gD
        refine ⟨us, gD4, by omega, Same.at0 hD (Same.tr kG s34), us ++ [V.ref r], upd_same, ?_⟩
        have nt := not_lst gD4
        rw [tk_snoc hei, List.map_append]
        exact Pd.app (KEs.mono (fun _ _ h => sqt_put nt h) (hus.up s34)) (.cons ⟨r, t, rfl, sqt_put nt (SqT.of upd_same), sqt_put nt (upT s4 (SqT.of upd_same))⟩ .nil)
    · rintro G ⟨kG, us, gD, hus⟩
      rw [hp.length, List.take_length] at hus
      exact q D us G kG hD gD hus

structure TxtNt (K : PySem.W.Frag) (C : Addr) : Prop where
  cl : Cls K C
  no : ∀ f ∈ (["_terms", "_inputs", "_names", "_symbols", "_edges", "_outs"] : List Str), NoAttr K C f
abbrev ntF : List Str := ["_terms", "_inputs", "_names", "_symbols", "_edges", "_outs"]
def symF (gs : List GateK) : List (Key × V) := gs.map fun g => (Sum.inr g.1, V.str g.2.1)
theorem symF_val : ∀ {gs : List GateK} {n : Str}, (n ∉ gs.map (·.1) → valV (symF gs) (Sum.inr n) = none) ∧ (∀ g ∈ gs, g.1 = n → (gs.map (·.1)).Nodup → valV (symF gs) (Sum.inr n) = some (.str g.2.1))
  | [], n => ⟨fun _ => rfl, fun g hg => (nomatch hg)⟩
  | g :: gs, n => by
    obtain ⟨h1, h2⟩ := symF_val (gs := gs) (n := n)
    rw [show symF (g :: gs) = (Sum.inr g.1, V.str g.2.1) :: symF gs from rfl]
    by_cases e : g.1 = n
    · refine ⟨fun h => absurd (by rw [← e]; exact List.mem_cons_self) h, fun g' hg' e' nd => ?_⟩
      rw [valV_pos (by rw [e])]
      rcases List.mem_cons.mp hg' with z | z
      · rw [z]
      · rw [List.map_cons, List.nodup_cons] at nd
        exact absurd (by rw [e, ← e']; exact List.mem_map_of_mem z) nd.1
    · rw [valV_neg (fun z => e (Sum.inr.inj z))]
      refine ⟨fun h => h1 fun z => h (List.mem_cons_of_mem _ z), fun g' hg' e' nd => ?_⟩
      rw [List.map_cons, List.nodup_cons] at nd
      exact h2 g' ((List.mem_cons.mp hg').resolve_left fun z => e (by rw [← z, e'])) e' nd.2
/-- a dict of the names of gates, each with the list of its edges -/
def EdF (K : PySem.W.Frag) (H : Hp) (kvs : List (Key × V)) (gs : List GateK) : Prop := Paired (fun kv g => kv.1 = Sum.inr g.1 ∧ ∃ a us, kv.2 = .ref a ∧ H a = some (.lst us) ∧ KEs K H us g.2.2) kvs gs
theorem EdF.up {K : PySem.W.Frag} {H H' : Hp} {kvs : List (Key × V)} {gs : List GateK} (s : Same H H') (h : EdF K H kvs gs) : EdF K H' kvs gs := by
  refine Paired.mono (fun x y q => ?_) h
  obtain ⟨e1, a, us, e2, h1, h2⟩ := q
  exact ⟨e1, a, us, e2, s _ _ h1, h2.up s⟩
theorem EdF.put {K : PySem.W.Frag} {H : Hp} {d : Addr} {k0 k1 kvs : List (Key × V)} {gs : List GateK} (h : EdF K H kvs gs) (e : H d = some (.dK k0)) : EdF K (upd H d (.dK k1)) kvs gs := by
  have nt : NotTup H d := fun ys r => by
    rcases r with r | ⟨o, r⟩
    · rw [e] at r; cases r
    · rw [e] at r; cases r
  refine Paired.mono (fun x y q => ?_) h
  obtain ⟨e1, a, us, e2, h1, h2⟩ := q
  exact ⟨e1, a, us, e2, (upd_ne fun z => by rw [z, e] at h1; cases h1).trans h1, h2.mono fun _ _ h => sqt_put nt h⟩
theorem EdF.val {K : PySem.W.Frag} {H : Hp} : ∀ {kvs : List (Key × V)} {gs : List GateK}, EdF K H kvs gs → ∀ n, (n ∉ gs.map (·.1) → valV kvs (Sum.inr n) = none) ∧ (∀ g ∈ gs, g.1 = n → (gs.map (·.1)).Nodup → ∃ a us, valV kvs (Sum.inr n) = some (.ref a) ∧ H a = some (.lst us) ∧ KEs K H us g.2.2)
  | _, _, .nil, n => ⟨fun _ => rfl, fun g hg => (nomatch hg)⟩
  | _, _, .cons (a := kv) (b := g) r t, n => by
    obtain ⟨h1, h2⟩ := EdF.val t n
    obtain ⟨e1, a, us, e2, q1, q2⟩ := r
    by_cases e : g.1 = n
    · refine ⟨fun h => absurd (by rw [← e]; exact List.mem_cons_self) h, fun g' hg' e' nd => ?_⟩
      rw [List.map_cons, List.nodup_cons] at nd
      rcases List.mem_cons.mp hg' with z | z
      · subst z
        exact ⟨a, us, by rw [valV_pos (by rw [e1, e]), e2], q1, q2⟩
      · exact absurd (by rw [e, ← e']; exact List.mem_map_of_mem z) nd.1
    · rw [valV_neg (fun z => e (Sum.inr.inj (e1.symm.trans z)))]
      refine ⟨fun h => h1 fun z => h (List.mem_cons_of_mem _ z), fun g' hg' e' nd => ?_⟩
      rw [List.map_cons, List.nodup_cons] at nd
      exact h2 g' ((List.mem_cons.mp hg').resolve_left fun z => e (by rw [← z, e'])) e' nd.2
/-- a network -/
structure NetAt (K : PySem.W.Frag) (H : Hp) (C p : Addr) (ins : List Str) (gs : List GateK) (os : List EdgeK) : Prop where
  ex : ∃ (dx lt li ln ds de lo : Addr) (fs : List (Str × V)) (ut uo : List V) (kvs : List (Key × V)), H p = some (.ins C dx fs) ∧ fs.lookup ("_terms" : Str) = some (.ref lt) ∧ fs.lookup ("_inputs" : Str) = some (.ref li) ∧ fs.lookup ("_names" : Str) = some (.ref ln) ∧ fs.lookup ("_symbols" : Str) = some (.ref ds) ∧ fs.lookup ("_edges" : Str) = some (.ref de) ∧ fs.lookup ("_outs" : Str) = some (.ref lo) ∧ (∀ m, m ∉ ntF → fs.lookup m = none) ∧
    H lt = some (.lst ut) ∧ H li = some (.lst (ins.map V.str)) ∧ H ln = some (.lst ((gs.map (·.1)).map V.str)) ∧ H ds = some (.dK (symF gs)) ∧ H de = some (.dK kvs) ∧ EdF K H kvs gs ∧ H lo = some (.lst uo) ∧ KEs K H uo os
theorem NetAt.up {K : PySem.W.Frag} {H H' : Hp} {C p : Addr} {ins : List Str} {gs : List GateK} {os : List EdgeK} (s : Same H H') (h : NetAt K H C p ins gs os) : NetAt K H' C p ins gs os := by
  obtain ⟨dx, lt, li, ln, ds, de, lo, fs, ut, uo, kvs, h0, a1, a2, a3, a4, a5, a6, a7, b1, b2, b3, b4, b5, b6, b7, b8⟩ := h.ex
  exact ⟨dx, lt, li, ln, ds, de, lo, fs, ut, uo, kvs, s _ _ h0, a1, a2, a3, a4, a5, a6, a7, s _ _ b1, s _ _ b2, s _ _ b3, s _ _ b4, s _ _ b5, b6.up s, s _ _ b7, b8.up s⟩
def spNet (K : PySem.W.Frag) (C : Addr) : Sp := fun vs H Q _ => ∃ (H0 : Hp) (p dx : Addr) (x y z u : V) (ins : List Str) (gs : List GateK) (os ts : List EdgeK), vs = [.ref p, x, y, z, u] ∧ H p = some (.ins C dx []) ∧ H0 p = none ∧ Same H0 H ∧ NetD K H0 x y z u ins gs os ts ∧ NetOk ins gs os ts ∧
  ∀ (f : Int → Int) (H' : Hp), NetAt K H' C p ins (gs.map (mvG f)) (os.map (mvE f)) → Same H0 H' → Keep p H H' → Q .non H'
theorem mv_names (f : Int → Int) (gs : List GateK) : (gs.map (mvG f)).map (·.1) = gs.map (·.1) := by
  rw [List.map_map]
  rfl
theorem mv_sym (f : Int → Int) (gs : List GateK) : symF (gs.map (mvG f)) = symF gs := by
  unfold symF
  rw [List.map_map]
  rfl
theorem sub_ms {H0 H : Hp} {p : Addr} (h : H0 p = none) (s : Same H0 H) : Same H0 (ms (· = p) H) := fun b o e => ms_at (fun z => by rw [z, h] at e; cases e) (s b o e)
theorem new_ms {H : Hp} {p l : Addr} {o : HO} (h : H l = none) (hp : H p ≠ none) : Same (ms (· = p) H) (upd H l o) := fun b u e => (upd_ne (ne_of_none (ms_some e).2 h)).trans (ms_some e).2

end
end T10
set_option Elab.async false
set_option linter.all false
set_option maxRecDepth 100000
set_option maxHeartbeats 4000000
namespace T10
open PySem PySem.Spec PyProof.Rows L2 Tp
section
variable {P : Program} {w : World} {K : PySem.W.Frag} {mg : Str → Option Value} {base : Heap} {f : Addr} {fd : FuncData}

theorem ms_upd {S : Addr → Prop} {G : Hp} {a : Addr} {o : HO} (h : ¬ S a) : ms S (upd G a o) = upd (ms S G) a o := by
  funext c
  by_cases c1 : S c
  · have c2 : c ≠ a := fun e => h (e ▸ c1)
    simp [ms, upd, c1, c2]
  · by_cases c2 : c = a
    · subst c2
      simp [ms, upd, c1]
    · simp [ms, upd, c1, c2]
theorem ms_putp {G : Hp} {p : Addr} {o : HO} : ms (· = p) (upd G p o) = ms (· = p) G := ms_put (S := (· = p)) rfl

abbrev sNi : Stmt := inClass (top 47) 0
abbrev nNi : List Str := ["self", "inputs", "gates", "outs", "terms", "table", "numbers", "starts", "kept", "places", "moved", "start", "name", "_", "symbol", "edges"]
theorem scNi : FnScope nNi ["self", "inputs", "gates", "outs", "terms"] (defScope sNi) := ⟨rfl, rfl, rfl, by decide +kernel, rfl, by decide +kernel, by decide +kernel⟩

theorem ok_Ni {C : Addr} {dvs : List V} (F : FunD K "__init__" "Net.__init__" (defArgs sNi) (defBody sNi) (defScope sNi) dvs [] f fd) {CT : Addr} (T : TxtNt K C) (TN : TxtN mg) (CP : Cg P w K mg base 6 "check_parts" (spParts K)) (CM : Cm P w K mg base 1 "TermTable" CT [] (spTab P w CT)) (CE : Ct P w K mg base 2 CT "enter_terms" [] (spEnterT P w K CT)) (CU : Ct P w K mg base 3 CT "used" [] (spUsed P w K CT)) (CA : Cg P w K mg base 2 "all_starts" (spStarts K)) (CK : Cg P w K mg base 1 "_kept_edges" (spKept K)) : FnG P w K mg base CX0 7 f fd ["self", "inputs", "gates", "outs", "terms"] (spNet K C) := by
  refine FunDG.ok F scNi (fun vs H Q E h => ?_) (fun cdv B out s H vs Q E hr hG h => ?_)
  · obtain ⟨H0, p, dx, x, y, z, u, ins, gs, os, ts, rfl, _⟩ := h
    rfl
  · obtain ⟨H0, p, dx, x, y, z, u, ins, gs, os, ts, rfl, hp, hp0, k0, hD, hN, q⟩ := h
    refine ⟨_, (pss_cons (ps_expr (pe_g CP hr hG (by decide) (by rfl) (pa_cons (pv 1) (pa_cons (pv 2) (pa_cons (pv 3) (pa_cons (pv 4) pa_nil))))))
      (pss_cons (ps_set (i := 5) scNi.nd rfl (.inl rfl) (pe_cm0 CM hr hG (by decide) (by rfl)))
      (pss_cons (ps_set (i := 6) scNi.nd rfl (.inr rfl) (pe_ct (pv 5) CE hr hG (by decide) (pa_cons (pv 4) pa_nil)))
      (pss_cons (ps_set (i := 7) scNi.nd rfl (.inl rfl) (pe_g CA hr hG (by decide) (by rfl) (pa_cons (pv 2) (pa_cons (pv 3) pa_nil))))
      (pss_cons (ps_asg (pe_ct (pv 5) CU hr hG (by decide) (pa_cons (pe_lc (own := [("start", 11)]) (g := gName 11) (tt := tYes) rfl scNi.nd (pi_list (pv 7)) (blkOk_by (N := nNi) (sc := defScope sNi) (by decide +kernel)) (fun _ _ _ _ _ => pg_name (i := 11) scNi.nd rfl (Or.inl rfl)) (fun _ _ _ _ _ => pts_nil) (fun _ _ _ _ _ => (pe_ix (ix_listK (K := K) rfl) (pv 6) (pv 11) fun _ _ => rfl))) pa_nil)) (pg_seq rfl (pgs_cons (pg_name (i := 8) scNi.nd rfl (Or.inl rfl)) (pgs_cons (pg_name (i := 9) scNi.nd rfl (Or.inr rfl)) pgs_nil))))
      (C8.pss_cut (ps_set (i := 10) scNi.nd rfl (.inr rfl) (pe_dc (own := [("start", 11)]) (g := gName 11) (tt := tYes) rfl scNi.nd (pi_list (pv 7)) (blkOk_by (N := nNi) (sc := defScope sNi) (by decide +kernel)) (fun _ _ _ _ _ => pg_name (i := 11) scNi.nd rfl (Or.inl rfl)) (fun _ _ _ _ _ => pts_nil) (fun _ _ _ _ _ => (pv 11)) (fun _ _ _ _ _ => (pe_dget (hu1 hr) (pv 9) (pe_ix (ix_listK (K := K) rfl) (pv 6) (pv 11) fun _ _ => rfl) (fun _ _ => rfl)))))
      (pss_cons (ps_fld (pv 0) (pv 8) rfl)
      (pss_cons (ps_fld (pv 0) (pe_callTy call_list_of (by rfl) TN.list (by decide +kernel) (pa_cons (pv 1) pa_nil)) rfl)
      (pss_cons (ps_fld (pv 0) (pe_lc (own := [("name", 12), ("_", 13), ("_", 13)]) (g := gSeq K 3 (gCons (gName 12) (gCons (gName 13) (gCons (gName 13) gNil)))) (tt := tYes) rfl scNi.nd (pi_seq (pv 2)) (blkOk_by (N := nNi) (sc := defScope sNi) (by decide +kernel)) (fun _ _ _ _ _ => pg_seq rfl (pgs_cons (pg_name (i := 12) scNi.nd rfl (Or.inl rfl)) (pgs_cons (pg_name (i := 13) scNi.nd rfl (Or.inl rfl)) (pgs_cons (pg_name (i := 13) scNi.nd rfl (Or.inl rfl)) pgs_nil)))) (fun _ _ _ _ _ => pts_nil) (fun _ _ _ _ _ => (pv 12))) rfl)
      (pss_cons (ps_fld (pv 0) (pe_dc (own := [("name", 12), ("symbol", 14), ("_", 13)]) (g := gSeq K 3 (gCons (gName 12) (gCons (gName 14) (gCons (gName 13) gNil)))) (tt := tYes) rfl scNi.nd (pi_seq (pv 2)) (blkOk_by (N := nNi) (sc := defScope sNi) (by decide +kernel)) (fun _ _ _ _ _ => pg_seq rfl (pgs_cons (pg_name (i := 12) scNi.nd rfl (Or.inl rfl)) (pgs_cons (pg_name (i := 14) scNi.nd rfl (Or.inl rfl)) (pgs_cons (pg_name (i := 13) scNi.nd rfl (Or.inl rfl)) pgs_nil)))) (fun _ _ _ _ _ => pts_nil) (fun _ _ _ _ _ => (pv 12)) (fun _ _ _ _ _ => (pv 14))) rfl)
      (pss_cons (ps_fld (pv 0) (pe_dc (own := [("name", 12), ("_", 13), ("edges", 15)]) (g := gSeq K 3 (gCons (gName 12) (gCons (gName 13) (gCons (gName 15) gNil)))) (tt := tYes) rfl scNi.nd (pi_seq (pv 2)) (blkOk_by (N := nNi) (sc := defScope sNi) (by decide +kernel)) (fun _ _ _ _ _ => pg_seq rfl (pgs_cons (pg_name (i := 12) scNi.nd rfl (Or.inl rfl)) (pgs_cons (pg_name (i := 13) scNi.nd rfl (Or.inl rfl)) (pgs_cons (pg_name (i := 15) scNi.nd rfl (Or.inl rfl)) pgs_nil)))) (fun _ _ _ _ _ => pts_nil) (fun _ _ _ _ _ => (pv 12)) (fun _ _ _ _ _ => (pe_g CK hr hG (by decide) (by rfl) (pa_cons (pv 15) (pa_cons (pv 10) pa_nil))))) rfl)
      (pss_one (ps_fld (pv 0) (pe_g CK hr hG (by decide) (by rfl) (pa_cons (pv 3) (pa_cons (pv 10) pa_nil))) rfl))))))))))))), ?_⟩
    refine ⟨_, rfl, _, rfl, _, rfl, _, rfl, x, y, z, u, ins, gs, os, ts, rfl, hD.up k0, hN, fun G1 k1 => ?_⟩
    have k01 := Same.tr k0 k1
    refine fun pt dt nb ndx nex => ⟨pt, dt, rfl, upd_same, fun H2 l d h2 hl hd nl nd' kb => ⟨rfl, ?_⟩⟩
    have kmade : Same G1 (upd (upd G1 dt (.own pt)) pt (.ins CT dt [])) := Same.made nb ndx (fun b o e hb => e)
    have k2 : Same G1 H2 := Same.made nb ndx (fun b o e hb => kb b o hb e)
    have hT : TabAt P w K G1 H2 CT pt dt l d [] := ⟨h2, ⟨[], rfl, fun i k a e => (nomatch e), hl, hd⟩, List.nodup_nil, Same.none kmade nl, Same.none kmade nd'⟩
    refine ⟨_, rfl, pt, dt, _, rfl, h2, rfl, _, rfl, G1, pt, dt, l, d, u, ts, rfl, k2, hT, hD.t.up k01, hN.tm, hN.nT, fun nl' H3 k3 hT3 hok hlen h3 n3 => ?_⟩
    generalize tabT ts = sn at hT3 hok hlen h3
    obtain ⟨rs, ns⟩ := sn
    have k03 := Same.tr k01 k3
    have hnT := hN.nT
    refine ⟨_, rfl, _, rfl, H0, y, z, gs, os, rfl, k03, hD.g, hD.o, hN.nj.1, hN.nS, fun sl H4 k4 h4 n4 => ?_⟩
    have hT4 := hT3.up k4
    have h34 := k4 _ _ h3
    have k04 := Same.tr k03 k4
    have hnS := hN.nS
    have hst : ∀ s ∈ startsE gs os, 0 ≤ s ∧ s < (ns.length : Int) := fun s hs => by
      obtain ⟨e, he, hse⟩ := List.mem_flatMap.mp hs
      have := (hN.ed e he).2.1 s hse
      have : ns.length = ts.length := hlen
      omega
    have hle : rs.length ≤ ns.length := hok.le
    have hlen' : ns.length = ts.length := hlen
    refine ⟨_, rfl, pt, dt, _, rfl, hT4.hp, rfl, _, rfl, sl, rfl, ⟨_, SqL.of h4⟩, fun D hD' => lc_it (walk_list (xs := (startsE gs os).map V.int)) (fun i M => Same H4 M ∧ M D = some (.lst ((((startsE gs os).take i).map (atL ns)).map V.int))) ⟨Same.put hD', upd_same⟩ (fun i M _ h => SqL.of (h.1 _ _ h4)) ?_ ?_⟩
    · rintro i v M M' hi ⟨kM, md⟩ ⟨rfl, hv⟩
      rw [List.getElem?_map] at hv
      obtain ⟨s', hs', rfl⟩ := Option.map_eq_some_iff.mp hv
      obtain ⟨s0, s1⟩ := hst s' (List.mem_of_getElem? hs')
      refine ⟨rfl, _, rfl, _, rfl, nl', _, _, _, rfl, rfl, SqL.of (kM _ _ h34), atI_at rfl s0 s1, _, md, (by rw [List.length_map, List.length_map, List.length_take, PySem.sizeLine_eq]; omega), Same.at0 hD' kM, ?_⟩
      rw [upd_same, tk_snoc hs', List.map_append, List.map_append]
      rfl
    rintro M ⟨kM, md⟩
    rw [List.length_map, List.take_length] at md
    refine ⟨G1, pt, dt, l, d, D, rs, (startsE gs os).map (atL ns), rfl, hT4.up kM, hok.ro, (by omega), .inl (SqL.of md), fun n hn => ?_, fun t kl pd us pl H5 k5 ht hkl hpd nkl hpl => ?_⟩
    · obtain ⟨s', hs', rfl⟩ := List.mem_map.mp hn
      obtain ⟨s0, s1⟩ := hst s' hs'
      exact hok.nr _ (atL_mem s0 s1)
    refine pair_asg (.inr ht) (q := ?_)
    have k45 := Same.tr kM k5
    have h35 := k45 _ _ h34
    have h45 := k45 _ _ h4
    have k05 := Same.tr k04 k45
    obtain ⟨fn, hfn⟩ : ∃ fn : Int → Int, fn = fun s => ((pl.idxOf (atL ns s) : Nat) : Int) := ⟨_, rfl⟩
    refine ⟨fun σ G => ∃ (md' : Addr) (kvm : List (Key × V)) (o : Option V), σ = [some (.ref p), some x, some y, some z, some u, some (.ref pt), some (.ref nl'), some (.ref sl), some (.ref kl), some (.ref pd), some (.ref md'), none, none, none, none, none] ∧ Same H5 G ∧ G md' = some (.dK kvm) ∧ ∀ s ∈ startsE gs os, valV kvm (Sum.inl s) = some (.int (fn s)), ?_, ?_⟩
    · refine ⟨_, rfl, sl, rfl, ⟨_, SqL.of h45⟩, fun md' hmd' => dc_it (walk_list (xs := (startsE gs os).map V.int)) (fun i M => Same H5 M ∧ ∃ kvs, M md' = some (.dK kvs) ∧ kvs.length ≤ i ∧ ∀ s ∈ (startsE gs os).take i, valV kvs (Sum.inl s) = some (.int (fn s))) ⟨Same.put hmd', [], upd_same, Nat.le_refl _, fun s hs => by rw [List.take_zero] at hs; cases hs⟩ (fun i M _ h => SqL.of (h.1 _ _ h45)) ?_ ?_⟩
      · rintro i v M1 M' hi ⟨kM1, kvs, mk, ml, mv⟩ ⟨rfl, hv⟩
        rw [List.getElem?_map] at hv
        obtain ⟨s', hs', rfl⟩ := Option.map_eq_some_iff.mp hv
        have hsm := List.mem_of_getElem? hs'
        obtain ⟨s0, s1⟩ := hst s' hsm
        rw [List.length_map] at hi
        have hv2 := (kvF_val 0 pl (atL ns s')).1 (hpl _ (List.mem_map_of_mem hsm))
        rw [Nat.zero_add] at hv2
        refine ⟨rfl, _, rfl, _, rfl, _, rfl, _, rfl, nl', _, _, _, rfl, rfl, SqL.of (kM1 _ _ h35), atI_at rfl s0 s1, pd, .int (fn s'), rfl, (by rw [hfn]; rw [← hv2]; exact DGet.k (kM1 _ _ hpd) (k := Sum.inl (atL ns s'))), kvs, Sum.inl s', rfl, mk, (by rw [PySem.sizeLine_eq]; omega), Same.at0 hmd' kM1, _, upd_same, Nat.le_trans (length_putK _ _ _) (by omega), fun s2 hs2 => ?_⟩
        rw [valV_put]
        by_cases e : (Sum.inl s2 : Key) = Sum.inl s'
        · rw [if_pos e, Sum.inl.inj e]
        · rw [if_neg e]
          rw [tk_snoc hs'] at hs2
          rcases List.mem_append.mp hs2 with w | w
          · exact mv s2 w
          · exact absurd (by rw [List.mem_singleton.mp w]) e
      rintro G ⟨kG, kvm, hm, _, hmv⟩
      rw [List.length_map, List.take_length] at hmv
      exact ⟨md', kvm, none, rfl, kG, hm, hmv⟩
    rintro σ G ⟨md', kvm, _, rfl, kG, hm, hmv⟩
    have kl6 := kG _ _ hkl
    have k06 := Same.tr k05 kG
    have hpH : H p = some (.ins C dx []) := hp
    have kall : Same H G := Same.tr k1 (Same.tr k3 (Same.tr k4 (Same.tr k45 kG)))
    have hpG := kall _ _ hpH
    have kp : Keep p H G := Keep.of kall
    have nps : ∀ {X : Hp} {a : Addr} {o : HO}, X p = some (.ins C dx []) → X a = some o → (∀ fs, o ≠ .ins C dx fs) → a ≠ p := fun h1 h2 h3 e => by rw [e, h1] at h2; exact h3 _ (Option.some.inj h2).symm
    have c0 : Same H0 (ms (· = p) G) := sub_ms hp0 k06
    have fT : (ms (· = p) G) kl = some (.lst us) := ms_at (nps hpG kl6 fun fs z => by cases z) kl6
    have fM : (ms (· = p) G) md' = some (.dK kvm) := ms_at (nps hpG hm fun fs z => by cases z) hm
    have nf : ∀ f ∈ (["_terms", "_inputs", "_names", "_symbols", "_edges", "_outs"] : List Str), NoAttr K C f := T.no
    have z0 : ([] : List (Str × V)).length ≤ 0 := Nat.le_refl _
    clear kb hT hT3 hT4 h2 hl hd nl nd' kmade k2 k3 k4 hok h3 h34 h35 h4 h45 md ht hkl hpd hpl k45 k5 kM kall
    generalize hf0 : ([] : List (Str × V)) = f0 at hpG z0
    refine ⟨_, rfl, _, rfl, p, C, dx, _, rfl, hpG, T.cl, nf _ (by simp), (by omega), ?_⟩
    have z1 := L2.length_putF "_terms" (V.ref kl) f0
    have sB : Same (ms (· = p) G) (ms (· = p) (upd G p (.ins C dx (putF "_terms" (V.ref kl) f0)))) := by rw [ms_putp]; exact Same.refl _
    have hpG' : (upd G p (.ins C dx (putF "_terms" (V.ref kl) f0))) p = some (.ins C dx (putF "_terms" (V.ref kl) f0)) := upd_same
    have kp' : Keep p H (upd G p (.ins C dx (putF "_terms" (V.ref kl) f0))) := kp.trans Keep.put
    have c0' := Same.tr c0 sB
    have fT' := sB _ _ fT
    have fM' := sB _ _ fM
    generalize hf1 : putF "_terms" (V.ref kl) f0 = f1 at hpG' kp' c0' z1 sB fT' fM'  ⊢
    generalize upd G p (.ins C dx f1) = Gn at hpG' kp' c0' fT' fM'  ⊢
    clear sB hpG kp c0 fT fM
    have hpG := hpG'
    clear hpG'
    have kp := kp'
    clear kp'
    have c0 := c0'
    clear c0'
    have fT := fT'
    clear fT'
    have fM := fM'
    clear fM'
    obtain ⟨xa, rfl, hxa⟩ := id hD.i
    refine ⟨_, rfl, xa, _, rfl, (hxa.up c0).up ms_same, fun li eli => ?_⟩
    have kk : Same Gn (upd Gn li (.lst (ins.map V.str))) := Same.put eli
    have hnew : (upd Gn li (.lst (ins.map V.str))) li = some (.lst (ins.map V.str)) := upd_same
    have nlp : li ≠ p := (ne_of_none hpG eli).symm
    generalize upd Gn li (.lst (ins.map V.str)) = Ga at kk hnew ⊢
    refine ⟨_, rfl, p, C, dx, _, rfl, kk _ _ hpG, T.cl, nf _ (by simp), (by omega), ?_⟩
    have z2 := L2.length_putF "_inputs" (V.ref li) f1
    have sB : Same (ms (· = p) Gn) (ms (· = p) (upd Ga p (.ins C dx (putF "_inputs" (V.ref li) f1)))) := by rw [ms_putp]; exact ms_up kk
    have hpG' : (upd Ga p (.ins C dx (putF "_inputs" (V.ref li) f1))) p = some (.ins C dx (putF "_inputs" (V.ref li) f1)) := upd_same
    have kp' : Keep p H (upd Ga p (.ins C dx (putF "_inputs" (V.ref li) f1))) := kp.trans ((Keep.of kk).trans Keep.put)
    have c0' := Same.tr c0 sB
    have fT' := sB _ _ fT
    have fM' := sB _ _ fM
    have fI' := (show (ms (· = p) (upd Ga p (.ins C dx (putF "_inputs" (V.ref li) f1)))) li = some (.lst (ins.map V.str)) from by rw [ms_putp]; exact ms_at nlp hnew)
    generalize hf2 : putF "_inputs" (V.ref li) f1 = f2 at hpG' kp' c0' z2 sB fT' fM' fI' ⊢
    generalize upd Ga p (.ins C dx f2) = Gn at hpG' kp' c0' fT' fM' fI' ⊢
    clear sB hpG kp c0 fT fM
    have hpG := hpG'
    clear hpG'
    have kp := kp'
    clear kp'
    have c0 := c0'
    clear c0'
    have fT := fT'
    clear fT'
    have fM := fM'
    clear fM'
    have fI := fI'
    clear fI'
    obtain ⟨ya, gv, rfl, hya, hg⟩ := id hD.g
    have kq := Same.tr c0 (ms_same (S := (· = p)) (G := Gn))
    refine ⟨_, rfl, ya, rfl, seq_itK hya kq fun J S wk hS => fun ln eln => lc_it wk (fun i M => Same Gn M ∧ M ln = some (.lst (((gs.map (·.1)).take i).map V.str))) ⟨Same.put eln, upd_same⟩ (fun i M _ h => hS M (Same.tr kq h.1)) ?_ ?_⟩
    · rintro i v M M' hi ⟨kM, md⟩ ⟨rfl, hv⟩
      obtain ⟨g, hgi, hdd⟩ := Pd.at hg hv
      have hig : i < gs.length := (List.getElem?_eq_some_iff.mp hgi).1
      have hnG := hN.nG
      refine gate_to (Same.tr kq kM) hdd (q := fun x' he => ⟨wp3 (by decide) (by decide) (by decide), _, rfl, _, md, (by rw [List.length_map, List.length_take, List.length_map, PySem.sizeLine_eq]; omega), Same.at0 eln kM, ?_⟩)
      rw [upd_same, tk_snoc (show (gs.map (·.1))[i]? = some g.1 by rw [List.getElem?_map, hgi]; rfl), List.map_append]
      rfl
    rintro Ga ⟨kk, hnew⟩
    rw [hg.length, show gs.length = (gs.map (·.1)).length from (List.length_map ..).symm, List.take_length] at hnew
    have nlp : ln ≠ p := (ne_of_none hpG eln).symm
    refine ⟨_, rfl, p, C, dx, _, rfl, kk _ _ hpG, T.cl, nf _ (by simp), (by omega), ?_⟩
    have z3 := L2.length_putF "_names" (V.ref ln) f2
    have sB : Same (ms (· = p) Gn) (ms (· = p) (upd Ga p (.ins C dx (putF "_names" (V.ref ln) f2)))) := by rw [ms_putp]; exact ms_up kk
    have hpG' : (upd Ga p (.ins C dx (putF "_names" (V.ref ln) f2))) p = some (.ins C dx (putF "_names" (V.ref ln) f2)) := upd_same
    have kp' : Keep p H (upd Ga p (.ins C dx (putF "_names" (V.ref ln) f2))) := kp.trans ((Keep.of kk).trans Keep.put)
    have c0' := Same.tr c0 sB
    have fT' := sB _ _ fT
    have fM' := sB _ _ fM
    have fI' := sB _ _ fI
    have fN' := (show (ms (· = p) (upd Ga p (.ins C dx (putF "_names" (V.ref ln) f2)))) ln = some (.lst ((gs.map (·.1)).map V.str)) from by rw [ms_putp]; exact ms_at nlp hnew)
    generalize hf3 : putF "_names" (V.ref ln) f2 = f3 at hpG' kp' c0' z3 sB fT' fM' fI' fN' ⊢
    generalize upd Ga p (.ins C dx f3) = Gn at hpG' kp' c0' fT' fM' fI' fN' ⊢
    clear sB hpG kp c0 fT fM fI
    have hpG := hpG'
    clear hpG'
    have kp := kp'
    clear kp'
    have c0 := c0'
    clear c0'
    have fT := fT'
    clear fT'
    have fM := fM'
    clear fM'
    have fI := fI'
    clear fI'
    have fN := fN'
    clear fN'
    have kq := Same.tr c0 (ms_same (S := (· = p)) (G := Gn))
    have nd := (List.nodup_append.mp hN.nd).2.1
    refine ⟨_, rfl, ya, rfl, seq_itK hya kq fun J S wk hS => fun ds eds => dc_it wk (fun i M => Same Gn M ∧ M ds = some (.dK (symF (gs.take i)))) ⟨Same.put eds, upd_same⟩ (fun i M _ h => hS M (Same.tr kq h.1)) ?_ ?_⟩
    · rintro i v M M' hi ⟨kM, md⟩ ⟨rfl, hv⟩
      obtain ⟨g, hgi, hdd⟩ := Pd.at hg hv
      have hig : i < gs.length := (List.getElem?_eq_some_iff.mp hgi).1
      have hnG := hN.nG
      have hno : g.1 ∉ (gs.take i).map (·.1) := by
        rw [List.map_take]
        exact nodup_at nd (by rw [List.getElem?_map, hgi]; rfl)
      refine gate_to (Same.tr kq kM) hdd (q := fun x' he => ⟨wp3 (by decide) (by decide) (by decide), _, rfl, _, rfl, _, Sum.inr g.1, rfl, md, (by unfold symF; rw [List.length_map, List.length_take, PySem.sizeLine_eq]; omega), Same.at0 eds kM, ?_⟩)
      rw [upd_same, putK_new _ (symF_val.1 hno), tk_snoc hgi]
      unfold symF
      rw [List.map_append]
      rfl
    rintro Ga ⟨kk, hnew⟩
    rw [hg.length, List.take_length] at hnew
    have nlp : ds ≠ p := (ne_of_none hpG eds).symm
    refine ⟨_, rfl, p, C, dx, _, rfl, kk _ _ hpG, T.cl, nf _ (by simp), (by omega), ?_⟩
    have z4 := L2.length_putF "_symbols" (V.ref ds) f3
    have sB : Same (ms (· = p) Gn) (ms (· = p) (upd Ga p (.ins C dx (putF "_symbols" (V.ref ds) f3)))) := by rw [ms_putp]; exact ms_up kk
    have hpG' : (upd Ga p (.ins C dx (putF "_symbols" (V.ref ds) f3))) p = some (.ins C dx (putF "_symbols" (V.ref ds) f3)) := upd_same
    have kp' : Keep p H (upd Ga p (.ins C dx (putF "_symbols" (V.ref ds) f3))) := kp.trans ((Keep.of kk).trans Keep.put)
    have c0' := Same.tr c0 sB
    have fT' := sB _ _ fT
    have fM' := sB _ _ fM
    have fI' := sB _ _ fI
    have fN' := sB _ _ fN
    have fS' := (show (ms (· = p) (upd Ga p (.ins C dx (putF "_symbols" (V.ref ds) f3)))) ds = some (.dK (symF gs)) from by rw [ms_putp]; exact ms_at nlp hnew)
    generalize hf4 : putF "_symbols" (V.ref ds) f3 = f4 at hpG' kp' c0' z4 sB fT' fM' fI' fN' fS' ⊢
    generalize upd Ga p (.ins C dx f4) = Gn at hpG' kp' c0' fT' fM' fI' fN' fS' ⊢
    clear sB hpG kp c0 fT fM fI fN
    have hpG := hpG'
    clear hpG'
    have kp := kp'
    clear kp'
    have c0 := c0'
    clear c0'
    have fT := fT'
    clear fT'
    have fM := fM'
    clear fM'
    have fI := fI'
    clear fI'
    have fN := fN'
    clear fN'
    have fS := fS'
    clear fS'
    have kq := Same.tr c0 (ms_same (S := (· = p)) (G := Gn))
    refine ⟨_, rfl, ya, rfl, seq_itK hya kq fun J S wk hS => fun de ede => dc_it wk (fun i M => Same Gn M ∧ ∃ kvs, M de = some (.dK kvs) ∧ EdF K (ms (· = p) M) kvs ((gs.map (mvG fn)).take i)) ⟨Same.put ede, [], upd_same, .nil⟩ (fun i M _ h => hS M (Same.tr kq h.1)) ?_ ?_⟩
    · rintro i v M M' hi ⟨kM, kvs, md, mE⟩ ⟨rfl, hv⟩
      obtain ⟨g, hgi, hdd⟩ := Pd.at hg hv
      have hig : i < gs.length := (List.getElem?_eq_some_iff.mp hgi).1
      have hgm := List.mem_of_getElem? hgi
      have hnG := hN.nG
      have hno : g.1 ∉ ((gs.map (mvG fn)).take i).map (·.1) := by
        rw [List.map_take, mv_names]
        exact nodup_at nd (by rw [List.getElem?_map, hgi]; rfl)
      have hl3 := (hN.gt g hgm).2.2
      have hkl := mE.length
      rw [List.length_take, List.length_map] at hkl
      refine gate_to (Same.tr kq kM) hdd (q := fun x' he => ⟨wp3 (by decide) (by decide) (by decide), _, rfl, _, rfl, _, rfl, H0, x', md', g.2.2, kvm, fn, rfl, Same.tr kq kM, he, kM _ _ (ms_same _ _ fM), fun e he' s hs => hmv s (List.mem_flatMap.mpr ⟨e, List.mem_append_left _ (List.mem_flatMap.mpr ⟨g, hgm, he'⟩), hs⟩), (by omega), fun e he' => (hN.ed e (List.mem_append_left _ (List.mem_flatMap.mpr ⟨g, hgm, he'⟩))).2.2, fun l' us' M2 k2 n2 h2 hE2 => ?_⟩)
      have md2 := k2 _ _ md
      refine ⟨kvs, Sum.inr g.1, rfl, md2, (by rw [PySem.sizeLine_eq]; omega), Same.at0 ede (Same.tr kM k2), _, upd_same, ?_⟩
      have nep : de ≠ p := (ne_of_none hpG ede).symm
      have hpM : M2 p = some (.ins C dx f4) := k2 _ _ (kM _ _ hpG)
      have nlp' : l' ≠ p := fun e => by rw [e, hpM] at h2; cases h2
      have mE2 : EdF K (ms (· = p) M2) kvs ((gs.map (mvG fn)).take i) := mE.up (ms_up k2)
      have gi2 : (gs.map (mvG fn))[i]? = some (mvG fn g) := by rw [List.getElem?_map, hgi]; rfl
      rw [putK_new _ ((mE2.val g.1).1 hno), tk_snoc gi2]
      have ntp : ∀ b ys, SqT K M2 b ys → SqT K (ms (· = p) M2) b ys := fun b ys h => by
        rcases h with h | h
        · have nb : b ≠ p := fun e => by
            rcases h with h | ⟨o, h⟩
            · rw [e, hpM] at h; cases h
            · rw [e, hpM] at h; cases h
          rcases h with h | ⟨o, h⟩
          · exact .inl (.inl (ms_at nb h))
          · exact .inl (.inr ⟨o, ms_at nb h⟩)
        · exact .inr h
      have mE3 := Paired.snoc mE2 (a := (Sum.inr g.1, V.ref l')) (b := mvG fn g) ⟨rfl, l', us', rfl, ms_at nlp' h2, hE2.mono ntp⟩
      have ems : ms (· = p) (upd M2 de (.dK (kvs ++ [(Sum.inr g.1, V.ref l')]))) = upd (ms (· = p) M2) de (.dK (kvs ++ [(Sum.inr g.1, V.ref l')])) := ms_upd nep
      rw [ems]
      exact EdF.put (k0 := kvs) mE3 (ms_at nep md2)
    rintro Ga ⟨kk, kve, hnew, hnE⟩
    rw [hg.length, show gs.length = (gs.map (mvG fn)).length from (List.length_map ..).symm, List.take_length] at hnE
    have nlp : de ≠ p := (ne_of_none hpG ede).symm
    refine ⟨_, rfl, p, C, dx, _, rfl, kk _ _ hpG, T.cl, nf _ (by simp), (by omega), ?_⟩
    have z5 := L2.length_putF "_edges" (V.ref de) f4
    have sB : Same (ms (· = p) Gn) (ms (· = p) (upd Ga p (.ins C dx (putF "_edges" (V.ref de) f4)))) := by rw [ms_putp]; exact ms_up kk
    have hpG' : (upd Ga p (.ins C dx (putF "_edges" (V.ref de) f4))) p = some (.ins C dx (putF "_edges" (V.ref de) f4)) := upd_same
    have kp' : Keep p H (upd Ga p (.ins C dx (putF "_edges" (V.ref de) f4))) := kp.trans ((Keep.of kk).trans Keep.put)
    have c0' := Same.tr c0 sB
    have fT' := sB _ _ fT
    have fM' := sB _ _ fM
    have fI' := sB _ _ fI
    have fN' := sB _ _ fN
    have fS' := sB _ _ fS
    have fE' := (show (ms (· = p) (upd Ga p (.ins C dx (putF "_edges" (V.ref de) f4)))) de = some (.dK kve) from by rw [ms_putp]; exact ms_at nlp hnew)
    have fK' := (show EdF K (ms (· = p) (upd Ga p (.ins C dx (putF "_edges" (V.ref de) f4)))) kve (gs.map (mvG fn)) from by rw [ms_putp]; exact hnE)
    generalize hf5 : putF "_edges" (V.ref de) f4 = f5 at hpG' kp' c0' z5 sB fT' fM' fI' fN' fS' fE' fK' ⊢
    generalize upd Ga p (.ins C dx f5) = Gn at hpG' kp' c0' fT' fM' fI' fN' fS' fE' fK' ⊢
    clear sB hpG kp c0 fT fM fI fN fS
    have hpG := hpG'
    clear hpG'
    have kp := kp'
    clear kp'
    have c0 := c0'
    clear c0'
    have fT := fT'
    clear fT'
    have fM := fM'
    clear fM'
    have fI := fI'
    clear fI'
    have fN := fN'
    clear fN'
    have fS := fS'
    clear fS'
    have fE := fE'
    clear fE'
    have fK := fK'
    clear fK'
    have kq := Same.tr c0 (ms_same (S := (· = p)) (G := Gn))
    have hnO := hN.nO
    refine ⟨_, rfl, _, rfl, H0, z, md', os, kvm, fn, rfl, kq, hD.o, ms_same _ _ fM, fun e he s hs => hmv s (List.mem_flatMap.mpr ⟨e, List.mem_append_right _ he, hs⟩), hnO, fun e he => (hN.ed e (List.mem_append_right _ he)).2.2, fun lo uo Ga kk n2 hnew hE2 => ?_⟩
    have hpM : Ga p = some (.ins C dx f5) := kk _ _ hpG
    have nlp : lo ≠ p := fun e => by rw [e, hpM] at hnew; cases hnew
    have ntp : ∀ b ys, SqT K Ga b ys → SqT K (ms (· = p) Ga) b ys := fun b ys h => by
      rcases h with h | h
      · have nb : b ≠ p := fun e => by
          rcases h with h | ⟨o, h⟩
          · rw [e, hpM] at h; cases h
          · rw [e, hpM] at h; cases h
        rcases h with h | ⟨o, h⟩
        · exact .inl (.inl (ms_at nb h))
        · exact .inl (.inr ⟨o, ms_at nb h⟩)
      · exact .inr h
    refine ⟨_, rfl, p, C, dx, _, rfl, kk _ _ hpG, T.cl, nf _ (by simp), (by omega), ?_⟩
    have z6 := L2.length_putF "_outs" (V.ref lo) f5
    have sB : Same (ms (· = p) Gn) (ms (· = p) (upd Ga p (.ins C dx (putF "_outs" (V.ref lo) f5)))) := by rw [ms_putp]; exact ms_up kk
    have hpG' : (upd Ga p (.ins C dx (putF "_outs" (V.ref lo) f5))) p = some (.ins C dx (putF "_outs" (V.ref lo) f5)) := upd_same
    have kp' : Keep p H (upd Ga p (.ins C dx (putF "_outs" (V.ref lo) f5))) := kp.trans ((Keep.of kk).trans Keep.put)
    have c0' := Same.tr c0 sB
    have fT' := sB _ _ fT
    have fM' := sB _ _ fM
    have fI' := sB _ _ fI
    have fN' := sB _ _ fN
    have fS' := sB _ _ fS
    have fE' := sB _ _ fE
    have fK' := fK.up sB
    have fO' := (show (ms (· = p) (upd Ga p (.ins C dx (putF "_outs" (V.ref lo) f5)))) lo = some (.lst uo) from by rw [ms_putp]; exact ms_at nlp hnew)
    have fU' := (show KEs K (ms (· = p) (upd Ga p (.ins C dx (putF "_outs" (V.ref lo) f5)))) uo (os.map (mvE fn)) from by rw [ms_putp]; exact hE2.mono ntp)
    generalize hf6 : putF "_outs" (V.ref lo) f5 = f6 at hpG' kp' c0' z6 sB fT' fM' fI' fN' fS' fE' fK' fO' fU' ⊢
    generalize upd Ga p (.ins C dx f6) = Gn at hpG' kp' c0' fT' fM' fI' fN' fS' fE' fK' fO' fU' ⊢
    clear sB hpG kp c0 fT fM fI fN fS fE fK
    have hpG := hpG'
    clear hpG'
    have kp := kp'
    clear kp'
    have c0 := c0'
    clear c0'
    have fT := fT'
    clear fT'
    have fM := fM'
    clear fM'
    have fI := fI'
    clear fI'
    have fN := fN'
    clear fN'
    have fS := fS'
    clear fS'
    have fE := fE'
    clear fE'
    have fK := fK'
    clear fK'
    have fO := fO'
    clear fO'
    have fU := fU'
    clear fU'
    have kq := Same.tr c0 (ms_same (S := (· = p)) (G := Gn))
    have sm : Same (ms (· = p) Gn) Gn := ms_same
    refine q fn _ ⟨dx, kl, li, ln, ds, de, lo, f6, us, uo, kve, hpG, ?_, ?_, ?_, ?_, ?_, ?_, ?_, sm _ _ fT, sm _ _ fI, (by rw [mv_names]; exact sm _ _ fN), (by rw [mv_sym]; exact sm _ _ fS), sm _ _ fE, fK.up sm, sm _ _ fO, fU.up sm⟩ kq kp
    iterate 6 (· rw [← hf6, ← hf5, ← hf4, ← hf3, ← hf2, ← hf1, ← hf0]; rfl)
    · intro m hm
      rw [← hf6, ← hf5, ← hf4, ← hf3, ← hf2, ← hf1, ← hf0]
      have ne : ∀ n ∈ ntF, m ≠ n := fun n hn z => hm (by rw [z]; exact hn)
      rw [lookup_putF, if_neg (ne _ (by simp)), lookup_putF, if_neg (ne _ (by simp)), lookup_putF, if_neg (ne _ (by simp)), lookup_putF, if_neg (ne _ (by simp)), lookup_putF, if_neg (ne _ (by simp)), lookup_putF, if_neg (ne _ (by simp))]
      rfl

end
end T10
set_option Elab.async false
set_option linter.all false
set_option maxRecDepth 100000
set_option maxHeartbeats 4000000
/-! == of whole numbers, texts and tuples of them with any data, dicts too -/
namespace PySem.SeqAt
open PySem.MeetsSeq
theorem dec_int {es : Array DictEntry} {n : Nat} {dd : Option Addr} {sl : Array (Option Value)} {e : Addr} {i : Int} {tk : Tok} :
    Meets (Builtin.«int.__eq__» ⟨[.int i tk, .ref e], []⟩) (fun _ Z w0 => w0.heap.get? e = some { cls := .type "dict", dict := dd, data := .dict es n, slots := sl } ∧ Z (.ok (.ret .notImplemented)) w0) :=
  .of_wp fun pr wd ar Z w0 q0 => by
    obtain ⟨a1, a2, a3, a4, a5⟩ := w0
    obtain ⟨q1, qz⟩ := q0
    skip
    wp_walk using wpAny_loadPart' q1, wpAny_load q1
    exact ⟨_, rfl, qz⟩
theorem dec_str {es : Array DictEntry} {n : Nat} {dd : Option Addr} {sl : Array (Option Value)} {e : Addr} {i : Str} {tk : Tok} :
    Meets (Builtin.«str.__eq__» ⟨[.str i tk, .ref e], []⟩) (fun _ Z w0 => w0.heap.get? e = some { cls := .type "dict", dict := dd, data := .dict es n, slots := sl } ∧ Z (.ok (.ret .notImplemented)) w0) :=
  .of_wp fun pr wd ar Z w0 q0 => by
    obtain ⟨a1, a2, a3, a4, a5⟩ := w0
    obtain ⟨q1, qz⟩ := q0
    skip
    wp_walk using wpAny_loadPart' q1, wpAny_load q1
    exact ⟨_, rfl, qz⟩
theorem dec_tup {es : Array DictEntry} {its : Array Value} {n m : Nat} {dd de : Option Addr} {sl su : Array (Option Value)} {e r : Addr} :
    Meets (Builtin.«tuple.__eq__» ⟨[.ref r, .ref e], []⟩) (fun _ Z w0 => w0.heap.get? r = some { cls := .type "tuple", dict := de, data := .seq its m, slots := su } ∧ w0.heap.get? e = some { cls := .type "dict", dict := dd, data := .dict es n, slots := sl } ∧ Z (.ok (.ret .notImplemented)) w0) :=
  .of_wp fun pr wd ar Z w0 q0 => by
    obtain ⟨a1, a2, a3, a4, a5⟩ := w0
    obtain ⟨q1, q2, qz⟩ := q0
    have f0 := F.sub_dict_tuple
    wp_walk using wpAny_loadPart' q1, wpAny_loadPart' q2
    exact ⟨_, rfl, qz⟩
theorem dec_dint {es : Array DictEntry} {n : Nat} {dd : Option Addr} {sl : Array (Option Value)} {e : Addr} {i : Int} {tk : Tok} :
    Meets (Builtin.«dict.__eq__» ⟨[.ref e, .int i tk], []⟩) (fun _ Z w0 => w0.heap.get? e = some { cls := .type "dict", dict := dd, data := .dict es n, slots := sl } ∧ Z (.ok (.ret .notImplemented)) w0) :=
  .of_wp fun pr wd ar Z w0 q0 => by
    obtain ⟨a1, a2, a3, a4, a5⟩ := w0
    obtain ⟨q1, qz⟩ := q0
    have f0 := F.sub_int_dict
    wp_walk using wpAny_loadPart' q1
    exact ⟨_, rfl, qz⟩
theorem dec_dstr {es : Array DictEntry} {n : Nat} {dd : Option Addr} {sl : Array (Option Value)} {e : Addr} {i : Str} {tk : Tok} :
    Meets (Builtin.«dict.__eq__» ⟨[.ref e, .str i tk], []⟩) (fun _ Z w0 => w0.heap.get? e = some { cls := .type "dict", dict := dd, data := .dict es n, slots := sl } ∧ Z (.ok (.ret .notImplemented)) w0) :=
  .of_wp fun pr wd ar Z w0 q0 => by
    obtain ⟨a1, a2, a3, a4, a5⟩ := w0
    obtain ⟨q1, qz⟩ := q0
    have f0 := F.sub_str_dict
    wp_walk using wpAny_loadPart' q1
    exact ⟨_, rfl, qz⟩
theorem dec_dtup {es : Array DictEntry} {its : Array Value} {n m : Nat} {dd de : Option Addr} {sl su : Array (Option Value)} {e r : Addr} :
    Meets (Builtin.«dict.__eq__» ⟨[.ref e, .ref r], []⟩) (fun _ Z w0 => w0.heap.get? r = some { cls := .type "tuple", dict := de, data := .seq its m, slots := su } ∧ w0.heap.get? e = some { cls := .type "dict", dict := dd, data := .dict es n, slots := sl } ∧ Z (.ok (.ret .notImplemented)) w0) :=
  .of_wp fun pr wd ar Z w0 q0 => by
    obtain ⟨a1, a2, a3, a4, a5⟩ := w0
    obtain ⟨q1, q2, qz⟩ := q0
    have f0 := F.sub_tuple_dict
    wp_walk using wpAny_loadPart' q1, wpAny_loadPart' q2
    exact ⟨_, rfl, qz⟩
/-- a dict at an address -/
def DicH (h : Heap) (e : Addr) : Prop := ∃ (o : Obj) (es : Array DictEntry) (n : Nat), h.get? e = some o ∧ o.cls = .type "dict" ∧ o.data = .dict es n
section
variable {A : Around} {s : Shared}
theorem of_rcI {i : Int} {tk : Tok} {e : Addr} (h : RcAt A s (.int i tk) (.ref e) false) : EqAt A s (.int i tk) (.ref e) false := fun pr wd ex z hz => by
  unfold eqBool
  exact wpAny_holding (wpAny_ite_split (fun y => absurd (eq_of_beq y) nofun) fun _ => wpAny_bind (h pr wd ex _ (wpAny_truthy_bool hz)))
theorem of_rcS {i : Str} {tk : Tok} {e : Addr} (h : RcAt A s (.str i tk) (.ref e) false) : EqAt A s (.str i tk) (.ref e) false := fun pr wd ex z hz => by
  unfold eqBool
  exact wpAny_holding (wpAny_ite_split (fun y => absurd (eq_of_beq y) nofun) fun _ => wpAny_bind (h pr wd ex _ (wpAny_truthy_bool hz)))
theorem eq_int_dic {i : Int} {tk : Tok} {e : Addr} (h : DicH s.heap e) (hu : A.units < cLine) : EqAt A s (.int i tk) (.ref e) false := by
  obtain ⟨⟨c, dd, dt, sl⟩, es, n, he, h1, h2⟩ := h
  simp only at h1 h2
  subst h1 h2
  refine of_rcI fun pr wd ex z hz => rc_eq_decline_or (k := false) (typeIs_int s i tk) ⟨_, he, rfl⟩ (by decide) F.sub_dict_int F.slot_int_eq F.slot_dict_eq_refl (fun _ y => ?_) (fun _ y => ?_) (fun _ y => wpAny_of_eq rfl y) (.inr hu) hz
  · exact call_meets F.slot_int_eq (typeIs_int s i tk) F.entry_int_eq (F.args_int_eq_2 _ _) dec_int ⟨he, y⟩
  · exact call_meets F.slot_dict_eq_refl ⟨_, he, rfl⟩ F.entry_dict_eq (F.args_dict_eq_2 _ _) dec_dint ⟨he, y⟩
theorem eq_str_dic {i : Str} {tk : Tok} {e : Addr} (h : DicH s.heap e) (hu : A.units < cLine) : EqAt A s (.str i tk) (.ref e) false := by
  obtain ⟨⟨c, dd, dt, sl⟩, es, n, he, h1, h2⟩ := h
  simp only at h1 h2
  subst h1 h2
  refine of_rcS fun pr wd ex z hz => rc_eq_decline_or (k := false) (typeIs_str s i tk) ⟨_, he, rfl⟩ (by decide) F.sub_dict_str F.slot_str_eq F.slot_dict_eq_refl (fun _ y => ?_) (fun _ y => ?_) (fun _ y => wpAny_of_eq rfl y) (.inr hu) hz
  · exact call_meets F.slot_str_eq (typeIs_str s i tk) F.entry_str_eq (F.args_str_eq_2 _ _) dec_str ⟨he, y⟩
  · exact call_meets F.slot_dict_eq_refl ⟨_, he, rfl⟩ F.entry_dict_eq (F.args_dict_eq_2 _ _) dec_dstr ⟨he, y⟩
theorem eq_tup_dic {r e : Addr} {its : Array Value} (t : s.heap.IsTuple r its) (h : DicH s.heap e) (hu : A.units < cLine) : EqAt A s (.ref r) (.ref e) false := by
  obtain ⟨⟨c, dd, dt, sl⟩, es, n, he, h1, h2⟩ := h
  obtain ⟨⟨c2, de, dt2, su⟩, hr, h3, m, h4⟩ := t
  simp only at h1 h2 h3 h4
  subst h1 h2 h3 h4
  have ne : r ≠ e := fun z => by
    rw [z, he] at hr
    exact absurd (congrArg Obj.cls (Option.some.inj hr)) (by simp)
  refine EqAt.of_refs ne fun pr wd ex z hz => rc_eq_decline_or (k := false) ⟨_, hr, rfl⟩ ⟨_, he, rfl⟩ (by decide) F.sub_dict_tuple F.slot_tuple_eq F.slot_dict_eq_refl (fun _ y => ?_) (fun _ y => ?_) (fun _ y => wpAny_isSame_ref_other' ne hr he (by simp) y) (.inr hu) hz
  · exact call_meets F.slot_tuple_eq ⟨_, hr, rfl⟩ F.entry_tuple_eq (F.args_tuple_eq_2 _ _) dec_tup ⟨hr, he, y⟩
  · exact call_meets F.slot_dict_eq_refl ⟨_, he, rfl⟩ F.entry_dict_eq (F.args_dict_eq_2 _ _) dec_dtup ⟨hr, he, y⟩
end
mutual
/-- whole numbers, texts, tuples of such -/
def leftD : PyData → Bool
  | .int _ => true
  | .str _ => true
  | .tuple xs => leftAll xs
  | .none => false
  | .bool _ => false
  | .list _ => false
  | .dict _ => false
def leftAll : List PyData → Bool
  | [] => true
  | x :: xs => leftD x && leftAll xs
end
mutual
theorem left_plain : ∀ d, leftD d = true → d.plain = true
  | .int _, _ => rfl
  | .str _, _ => rfl
  | .tuple xs, h => left_plainAll xs h
  | .none, h => nomatch h
  | .bool _, h => nomatch h
  | .list _, h => nomatch h
  | .dict _, h => nomatch h
theorem left_plainAll : ∀ xs, leftAll xs = true → PyData.plainAll xs = true
  | [], _ => rfl
  | x :: xs, h => by
    have h' : leftD x = true ∧ leftAll xs = true := by simpa [leftAll] using h
    simp only [PyData.plainAll, left_plain x h'.1, left_plainAll xs h'.2, Bool.and_self]
end
mutual
theorem eq_left : ∀ (da db : PyData) (A : Around) (s : Shared) (a b : Value) (as bs : List Addr), Reads s.heap a da as → Reads s.heap b db bs → leftD da = true → A.units + min da.depth db.depth < cLine → EqAt A s a b (PyData.eqv da db)
  | .int i, _, A, s, _, _, _, _, ra, rb, _, hu => by
    cases ra
    cases rb with
    | none => exact .int_none i _
    | bool y => exact .int_bool i _ y
    | int y u => exact .int_int i _ y u
    | str y u => exact .int_str i _ y u
    | list k1 k2 k3 _ => exact .int_list i _ ⟨_, k1, k2, _, k3⟩ (room_here hu)
    | tuple k1 k2 k3 _ => exact .int_tuple i _ ⟨_, k1, k2, _, k3⟩ (room_here hu)
    | dict k1 k2 k3 _ _ => exact eq_int_dic ⟨_, _, _, k1, k2, k3⟩ (room_here hu)
  | .str z, _, A, s, _, _, _, _, ra, rb, _, hu => by
    cases ra
    cases rb with
    | none => exact .str_none z _
    | bool y => exact .str_bool z _ y
    | int y u => exact .str_int z _ y u
    | str y u => exact .str_str z _ y u
    | list k1 k2 k3 _ => exact .str_list z _ ⟨_, k1, k2, _, k3⟩ (room_here hu)
    | tuple k1 k2 k3 _ => exact .str_tuple z _ ⟨_, k1, k2, _, k3⟩ (room_here hu)
    | dict k1 k2 k3 _ _ => exact eq_str_dic ⟨_, _, _, k1, k2, k3⟩ (room_here hu)
  | .tuple xs, db, A, s, _, _, _, _, ra, rb, ha, hu => by
    cases ra with
    | @tuple r o vs n _ ar g1 g2 g3 g4 =>
      have hr : s.heap.IsTuple r vs := ⟨_, g1, g2, _, g3⟩
      cases rb with
      | none => exact .tuple_none hr (room_here hu)
      | bool y => exact .tuple_bool y hr (room_here hu)
      | int y u => exact .tuple_int y u hr (room_here hu)
      | str y u => exact .tuple_str y u hr (room_here hu)
      | list k1 k2 k3 _ => exact .tuple_list hr ⟨_, k1, k2, _, k3⟩ (room_here hu)
      | dict k1 k2 k3 _ _ => exact eq_tup_dic hr ⟨_, _, _, k1, k2, k3⟩ (room_here hu)
      | @tuple q o' ws n' ys br k1 k2 k3 k4 =>
        have hq : s.heap.IsTuple q ws := ⟨_, k1, k2, _, k3⟩
        have z1 := ReadsAll.length _ _ _ g4
        have z2 := ReadsAll.length _ _ _ k4
        rw [Array.length_toList] at z1 z2
        show EqAt A s (.ref r) (.ref q) (PyData.eqvAll xs ys)
        by_cases e : r = q
        · subst e
          have e2 := plain_unique (.tuple xs) (.tuple ys) (.ref r) _ _ (left_plain _ ha) (.tuple g1 g2 g3 g4) (.tuple k1 k2 k3 k4)
          cases e2
          rw [eqvAll_refl_plain xs (left_plainAll xs ha)]
          exact EqAt.same _
        · have z3 := (eqvAll_eq xs ys).symm
          rw [z3, ← z1, ← z2]
          refine EqAt.of_refs e (RcAt.tuples hr hq (room_here hu) fun j h1 h2 => ?_)
          have := eq_leftAll xs ys A.in1 s vs.toList ws.toList _ _ g4 k4 ha (room_in hu) j (by rw [Array.length_toList]; exact h1) (by rw [Array.length_toList]; exact h2)
          rw [Array.getElem_toList, Array.getElem_toList] at this
          exact this
  | .none, _, _, _, _, _, _, _, _, _, h, _ => nomatch h
  | .bool _, _, _, _, _, _, _, _, _, _, h, _ => nomatch h
  | .list _, _, _, _, _, _, _, _, _, _, h, _ => nomatch h
  | .dict _, _, _, _, _, _, _, _, _, _, h, _ => nomatch h
theorem eq_leftAll : ∀ (xs ys : List PyData) (A : Around) (s : Shared) (vs ws : List Value) (as bs : List Addr), ReadsAll s.heap vs xs as → ReadsAll s.heap ws ys bs → leftAll xs = true → A.units + min (PyData.depthAll xs) (PyData.depthAll ys) < cLine → ∀ j (h1 : j < vs.length) (h2 : j < ws.length), EqAt A s vs[j] ws[j] (pairEq xs ys j)
  | [], _, _, _, _, _, _, _, ra, _, _, _, _, h1, _ => by
    cases ra
    cases h1
  | _ :: _, [], _, _, _, _, _, _, _, rb, _, _, _, _, h2 => by
    cases rb
    cases h2
  | x :: xs, y :: ys, A, s, _, _, _, _, ra, rb, ha, hu, j, h1, h2 => by
    have ha' : leftD x = true ∧ leftAll xs = true := by simpa [leftAll] using ha
    cases ra with
    | cons r rs =>
      cases rb with
      | cons q qs =>
        match j with
        | 0 => exact eq_left x y A s _ _ _ _ r q ha'.1 (room_head hu)
        | j + 1 => exact eq_leftAll xs ys A s _ _ _ _ rs qs ha'.2 (room_tail hu) j (Nat.lt_of_succ_lt_succ h1) (Nat.lt_of_succ_lt_succ h2)
end
end PySem.SeqAt
set_option Elab.async false
set_option linter.all false
set_option maxRecDepth 100000
set_option maxHeartbeats 4000000
/-! what laws over books share: rows drawn and made, lists of rows, books made of rows -/
namespace Tp
open PySem PySem.Spec PyProof.Rows L2
section
variable {P : Program} {w : World} {K : PySem.W.Frag} {mg : Str → Option Value} {base : Heap}
theorem step {p l : Addr} {n : Nat} {H G : Hp} {o : HO} (hb : BoxAt G p n) (k : Keep p H G) (e : G l = none) : BoxAt (upd G l o) p n ∧ Keep p H (upd G l o) ∧ Same G (upd G l o) ∧ l ≠ p ∧ upd G l o l = some o := ⟨hb.new e, k.trans (Keep.new e), Same.put e, (hb.ne e).symm, upd_same⟩
theorem tz_nil : Tz 0 ("" : Str) := ⟨by decide +kernel, fun c hc => by rw [show TL.tl ("" : Str) = [] from by decide +kernel] at hc; exact absurd hc List.not_mem_nil⟩
def rLenK (K : PySem.W.Frag) : List V → Hp → VK → Prop := fun xs H Q => ∃ x n, xs = [x] ∧ LenV K x H n ∧ Q (.int (n : Nat)) H
theorem call_lenK {X : Cx} {K : PySem.W.Frag} (h : X.K = K) : CallR X (.builtin "len") (rLenK K) := by
  subst h
  exact call_len
theorem small_log {m : Int} (h0 : 0 ≤ m) (h : m ≤ 100000) : m.natAbs.log2 < 1000 := by
  have := Nat.log2_le_self m.natAbs
  by_cases z : m.natAbs = 0
  · rw [z]; decide
  · exact Nat.lt_of_lt_of_le ((Nat.log2_lt z).mpr (show m.natAbs < 2 ^ 20 by omega)) (by decide)
theorem ixT {K : PySem.W.Frag} {H : Hp} {a : Addr} {xs : List V} {i : Int} {v : V} {Q : VK} (h : SqT K H a xs) (e : atI xs i = some v) (q : Q v H) : rIxT K (.ref a) (.int i) H Q := ⟨a, xs, i, v, rfl, rfl, h, e, q⟩
theorem name_sm {z : Str} (h : nameB (TL.tl z) = true) : shortD (.str z) = true ∧ smD (.str z) = true := by
  refine ⟨?_, ?_⟩
  · simp only [shortD]
    exact decide_eq_true (Nat.le_trans (name_ok h).2 (by decide))
  · unfold nameB at h
    simp only [Bool.and_eq_true, decide_eq_true_eq] at h
    obtain ⟨_, _, h2⟩ := h
    simp only [smD]
    refine List.all_eq_true.mpr fun c hc => decide_eq_true ?_
    have := (List.all_eq_true.mp h2) c hc
    simp only [lowB, digB, Bool.or_eq_true, decide_eq_true_eq] at this
    omega
theorem short_all : ∀ {ds : List PyData}, (∀ d ∈ ds, shortD d = true) → shortAll ds = true
  | [], _ => rfl
  | d :: ds, h => by
    simp only [shortAll, Bool.and_eq_true]
    exact ⟨h d List.mem_cons_self, short_all fun x hx => h x (List.mem_cons_of_mem _ hx)⟩
theorem dd_tup {H : Hp} {x : V} {ds : List PyData} (h : Dd K H x (.tuple ds)) : ∃ t ys, x = .ref t ∧ SqT K H t ys ∧ DdAll K H ys ds := by
  cases h with
  | tup hs ha => exact ⟨_, _, rfl, hs, ha⟩
theorem dd_cons {H : Hp} {ys : List V} {d : PyData} {ds : List PyData} (h : DdAll K H ys (d :: ds)) : ∃ v vs, ys = v :: vs ∧ Dd K H v d ∧ DdAll K H vs ds := by
  cases h with
  | cons a b => exact ⟨_, _, rfl, a, b⟩
theorem dd_nil {H : Hp} {ys : List V} (h : DdAll K H ys []) : ys = [] := by
  cases h
  rfl
theorem dd_str {H : Hp} {x : V} {z : Str} (h : Dd K H x (.str z)) : x = .str z := by
  cases h
  rfl
theorem rs_new {H : Hp} {p dr : Addr} {o o2 : HO} (h1 : H p = none) (h2 : H dr = none) : Same H (rs p p (upd (upd H dr o2) p o)) := fun b u e => by
  have n1 : b ≠ p := ne_of_none e h1
  have n2 : b ≠ dr := ne_of_none e h2
  exact rs_at n1 n1 ((upd_ne n1).trans ((upd_ne n2).trans e))
theorem same_new {H G : Hp} {p dr : Addr} {o o2 : HO} (h1 : H p = none) (h2 : H dr = none) (k : Keep p (upd (upd H dr o2) p o) G) : Same H G := fun b u e => by
  have n1 : b ≠ p := ne_of_none e h1
  have n2 : b ≠ dr := ne_of_none e h2
  exact k b u n1 ((upd_ne n1).trans ((upd_ne n2).trans e))
/-- where the way of a list ends -/
theorem build_end : ∀ (ds : List PyData) (r0 : List RowK) (i : Nat) (b : Bool), buildR r0 ds = .inl (i, b) → ∃ d qs, ds[i]? = some d ∧ buildR r0 (ds.take i) = .inr qs ∧ (b = true → takeD qs d = .name) ∧ (b = false → takeD qs d = .row)
  | [], r0, i, b, h => by simp [buildR] at h
  | d :: ds, r0, i, b, h => by
    simp only [buildR] at h
    cases ht : takeD r0 d with
    | row =>
      rw [ht] at h
      cases h
      exact ⟨d, r0, rfl, rfl, (fun z => nomatch z), fun _ => ht⟩
    | name =>
      rw [ht] at h
      cases h
      exact ⟨d, r0, rfl, rfl, (fun _ => ht), fun z => nomatch z⟩
    | ok k =>
      rw [ht] at h
      dsimp only at h
      cases hb : buildR (r0 ++ [k]) ds with
      | inr qs => rw [hb] at h; cases h
      | inl q =>
        obtain ⟨j, b2⟩ := q
        rw [hb] at h
        cases h
        obtain ⟨d2, qs, h1, h2, h3⟩ := build_end ds (r0 ++ [k]) j _ hb
        refine ⟨d2, qs, h1, ?_, h3⟩
        rw [List.take_succ_cons]
        simp only [buildR]
        rw [ht]
        dsimp only
        rw [h2]
theorem take_name {rs : List RowK} {d : PyData} (h : takeD rs d = .name) : ∃ d0 d1, seqD d = some [d0, d1] := by
  cases hf : formB d with
  | false => rw [take_no hf] at h; cases h
  | true =>
    unfold formB at hf
    split at hf
    · rename_i d0 d1 e
      exact ⟨_, _, e⟩
    · cases hf
theorem row_shaped {k : RowK} (h : PyData.strOk k.1 = true) : SeqAt.shaped (rowD k) = true := by
  unfold SeqAt.shaped
  rw [Bool.and_eq_true]
  refine ⟨?_, decide_eq_true (Nat.le_trans (rowD_depth k) (by decide))⟩
  have := rows_lay (rs := [k]) fun j hj => by rw [List.mem_singleton.mp hj]; exact h
  simp only [List.map_cons, List.map_nil, PyData.canLayAll0, Bool.and_true] at this
  exact this
theorem rows_any (qs : List RowK) (k : RowK) : (qs.map rowD).any (fun z => PyData.eqv z (rowD k)) = hasR qs k := by
  unfold hasR
  rw [List.any_map]
  congr 1
  funext q
  exact eqv_row q k
theorem op_eqDK {X : Cx} {K : PySem.W.Frag} (h : X.K = K) (hu : X.A.units + 64 < cLine) : OpR X (compareOp .Eq) (rEqD K) := h ▸ op_eqD hu
/-- what stands in the second place of a row -/
def RestAt (K : PySem.W.Frag) (H : Hp) (x : V) (k : RowK) : Prop := (∃ n, x = .int n ∧ k.2 = .inl n) ∨ ∃ b ns, x = .ref b ∧ SqT K H b (ns.map V.int) ∧ k.2 = .inr ns
theorem RestAt.up {H H' : Hp} {x : V} {k : RowK} (s : Same H H') (h : RestAt K H x k) : RestAt K H' x k := h.elim .inl fun ⟨b, ns, e, h, e2⟩ => .inr ⟨b, ns, e, upT s h, e2⟩
theorem BookAt.ok {P : Program} {w : World} {H : Hp} {C p : Addr} {fp : List Addr} {rs : List RowK} (B : BookAt P w K H C p fp rs) : rs.Nodup ∧ OkRows rs ∧ rs.length ≤ 5000 := by
  obtain ⟨dx, l1, d, l2, l3, l4, as, fs, rfl, nd, h0, a1, a2, a3, a4, a5, a6, b1, b2, h1, h2, h3, h4, h5, b3, b4, b5⟩ := B.ex
  exact ⟨b3, b4, b5⟩
theorem in_book {P : Program} {w : World} {H : Hp} {C p : Addr} {fp : List Addr} {rs : List RowK} {x : V} {d : PyData} {no : Bool} {Q : VK} (hB : BookAt P w K H C p fp rs) (hd : Dd K H x d) (hs : shortD d = true) (q : ∀ H', Same H H' → Q (.bl (memD rs d != no)) H') : rInO C (spCont P w K C) no x (.ref p) H Q := by
  obtain ⟨dx, gs, h0, _⟩ := hB.there
  exact ⟨p, dx, gs, rfl, h0, p, fp, rs, x, rfl, hB, .inl ⟨d, hd, hs, fun H' s => ⟨_, rfl, q H' s⟩⟩⟩
theorem dd_ints' {H : Hp} : ∀ ns : List Int, DdAll K H (ns.map V.int) (ns.map PyData.int)
  | [] => .nil
  | n :: ns => .cons (.int n) (dd_ints' ns)
section
variable {X : Cx}
open PySem.SeqAt in
theorem leftAll_mem {h : Heap} : ∀ {ds : List PyData} {vs : List Value} {as : List Addr} {z : Value} {dy : PyData} {bs : List Addr}, SeqAt.leftAll ds = true → ReadsAll h vs ds as → z ∈ vs → Reads h z dy bs → dy.canLay0 = true → SeqAt.leftD dy = true
  | [], _, _, _, _, _, _, r, hz, _, _ => by
    cases r
    cases hz
  | d :: ds, _, _, _, _, _, hl, r, hz, ry, hc => by
    have h' : leftD d = true ∧ leftAll ds = true := by simpa [leftAll] using hl
    cases r with
    | cons r rs =>
      rcases List.mem_cons.mp hz with e | e
      · subst e
        rw [← plain_unique d _ _ _ _ (left_plain d h'.1) r ry]
        exact h'.1
      · exact leftAll_mem h'.2 rs e ry hc
/-- x not in a list of rows, x any data -/
def rNotInL (K : PySem.W.Frag) : R2 := fun x y H Q => ∃ d ds, Dd K H x d ∧ Dp K H y (.list ds) ∧ SeqAt.leftAll ds = true ∧ PyData.canLayAll0 ds = true ∧ PyData.depthAll ds ≤ 8 ∧ Q (.bl (!ds.any fun z => PyData.eqv z d)) H
open PySem.SeqAt in
theorem op_notInL {K : PySem.W.Frag} (S : Sm K) (eK : X.K = K) (hu : X.A.units + 65 < cLine) : OpR X (compareOp .NotIn) (rNotInL K) := by
  subst eK
  intro pins s σ H x y v u Q I rx ry h
  obtain ⟨d, ds, hd, he, hl, hc, hdp, q⟩ := h
  obtain ⟨as, r1, _⟩ := Dd.reads I S d x v hd rx
  obtain ⟨bs, r2⟩ := Dp.reads I (.list ds) y u he ry
  cases r2 with
  | @list a o vs n _ cs h1 h2 h3 h4 =>
    refine notIn_listAt (fun z => PyData.eqv (readOf s.heap z) d) ⟨_, h1, h2, _, h3⟩ (fun z hz => ?_) ?_
    · obtain ⟨dy, es, ry, hcy, hle⟩ := readsAll_mem ds _ _ hc h4 z (by simpa using hz)
      rw [readOf_eq hcy ry]
      refine eq_left dy d _ s z v _ _ ry r1 (leftAll_mem hl h4 (by simpa using hz) ry hcy) ?_
      have e1 : min dy.depth d.depth ≤ 8 := Nat.le_trans (Nat.min_le_left _ _) (Nat.le_trans hle hdp)
      show X.A.units + 1 + min dy.depth d.depth < cLine
      omega
    · rw [any_by_data h4 hc]
      exact ⟨.bl _, H, I, rfl, q⟩
end
/-- a list of rows -/
def RowsL (K : PySem.W.Frag) (H : Hp) (l : Addr) (rs : List RowK) : Prop := ∃ as : List Addr, SqL K H l (as.map V.ref) ∧ as.length = rs.length ∧ ∀ (i : Nat) (k : RowK) (a : Addr), rs[i]? = some k → as[i]? = some a → RowAt K H k a
theorem RowsL.up {H H' : Hp} {l : Addr} {rs : List RowK} (s : Same H H') (h : RowsL K H l rs) : RowsL K H' l rs := by
  obtain ⟨as, h1, h2, h3⟩ := h
  exact ⟨as, upL s h1, h2, fun i k a e1 e2 => (h3 i k a e1 e2).mono fun _ _ => upT s⟩
/-- as many rows as the law makes -/
def SmR (rs : List RowK) : Prop := rs.length ≤ 60 ∧ ∀ k ∈ rs, ∀ n : Int, k.2 = .inl n → n.natAbs < 2 ^ 100
theorem name_tz {z : Str} (h : nameB (TL.tl z) = true) : Tz 8 z := ⟨by have := (name_ok h).2; rw [TL.len_tl] at this; exact this, fun c hc => smD_str (name_sm h).2 c hc⟩
theorem row_nice {n : Nat} {k : RowK} (h : OkK n k) (hn : n ≤ 5000) (hs : ∀ t : Int, k.2 = .inl t → t.natAbs < 2 ^ 100) : Nice 120 2 (rowD k) := by
  obtain ⟨z, r⟩ := k
  have hz : Nice 8 0 (.str z) := nice_str (name_tz h.1)
  cases r with
  | inl t =>
    exact ((NiceAll.cons hz (NiceAll.cons (nice_small (hs t rfl) (by decide)) niceAll_nil)).tuple).mono (by decide) (by decide)
  | inr ns =>
    have hl : ns.length ≤ 3 := h.2.1
    have ha : Nice (ns.length * 15) 1 (.tuple (ns.map PyData.int)) := by
      have := (niceAll_of (n := 14) (k := 0) (ds := ns.map PyData.int) fun d hd => by
        obtain ⟨i, hi, rfl⟩ := List.mem_map.mp hd
        have h2 := h.2.2 i hi
        exact (nice_small (k := 14) (by omega) (by decide)).mono (by decide) (by decide)).tuple
      rw [List.length_map] at this
      exact this.mono (by omega) (by decide)
    exact ((NiceAll.cons hz (NiceAll.cons ha niceAll_nil)).tuple).mono (by omega) (by decide)
theorem rows_nice {rs : List RowK} (h : OkRows rs) (hs : SmR rs) : Nice 8000 4 (.list (rs.map rowD)) := by
  have := (niceAll_of (n := 120) (k := 2) (ds := rs.map rowD) fun d hd => by
    obtain ⟨k, hk, rfl⟩ := List.mem_map.mp hd
    obtain ⟨i, hi⟩ := List.mem_iff_getElem?.mp hk
    have := (List.getElem?_eq_some_iff.mp hi).1
    have := hs.1
    exact row_nice (h i k hi) (by omega) (hs.2 k hk)).list
  refine this.mono ?_ (by decide)
  rw [List.length_map]
  have := hs.1
  omega
theorem row_two {H : Hp} {k : RowK} {a : Addr} (h : RowAt K H k a) : ∃ v1 d1, SqT K H a [.str k.1, v1] ∧ RestAt K H v1 k ∧ Dd K H v1 d1 ∧ rowD k = .tuple [.str k.1, d1] ∧ ((∃ n, k.2 = .inl n ∧ d1 = .int n) ∨ ∃ ns, k.2 = .inr ns ∧ d1 = .tuple (ns.map PyData.int)) := by
  obtain ⟨z, r⟩ := k
  obtain ⟨h0, ⟨n, e, h1⟩ | ⟨ns, b, e, h1, h2⟩⟩ := h
  · dsimp only at e
    subst e
    exact ⟨_, .int n, h1, .inl ⟨n, rfl, rfl⟩, .int n, rfl, .inl ⟨n, rfl, rfl⟩⟩
  · dsimp only at e
    subst e
    exact ⟨_, .tuple (ns.map PyData.int), h1, .inr ⟨b, ns, rfl, h2, rfl⟩, .tup h2 (dd_ints' ns), rfl, .inr ⟨ns, rfl, rfl⟩⟩
theorem rows_left : ∀ rs : List RowK, SeqAt.leftAll (rs.map rowD) = true
  | [] => rfl
  | (z, .inl n) :: rs => by
    simp only [List.map_cons, SeqAt.leftAll, rows_left rs, Bool.and_true]
    rfl
  | (z, .inr ns) :: rs => by
    have h : ∀ ns : List Int, SeqAt.leftAll (ns.map PyData.int) = true := fun ns => by
      induction ns with
      | nil => rfl
      | cons n ns ih => simp only [List.map_cons, SeqAt.leftAll, SeqAt.leftD, ih, Bool.and_self]
    simp only [List.map_cons, SeqAt.leftAll, rows_left rs, Bool.and_true]
    simp only [rowD, SeqAt.leftD, SeqAt.leftAll, h ns, Bool.and_self]
theorem BookAt.dom (B : BookAt P w K H C p fp rb) : ∀ b ∈ fp, H b ≠ none := by
  obtain ⟨dx, l1, d, l2, l3, l4, as, fs, rfl, nd, h0, a1, a2, a3, a4, a5, a6, b1, b2, h1, h2, h3, h4, h5, b3, b4, b5⟩ := B.ex
  intro b hb
  simp only [List.mem_cons, List.not_mem_nil, or_false] at hb
  rcases hb with rfl | rfl | rfl | rfl | rfl
  · rw [h1]; exact nofun
  · rw [h2]; exact nofun
  · rw [h3]; exact nofun
  · rw [h4]; exact nofun
  · rw [h5]; exact nofun
theorem box_nt (h : BoxAt H p0 n) : NotTup H p0 := by
  obtain ⟨a, b, c, h1, _⟩ := h
  exact not_lst h1
/-- the numbers of turns that the law draws -/
def SmT (rs : List RowK) : Prop := ∀ k ∈ rs, ∀ n : Int, k.2 = .inl n → n.natAbs < 2 ^ 100
theorem rows_snoc {H : Hp} {rs : List RowK} {as : List Addr} {k : RowK} {r : Addr} (hal : as.length = rs.length) (hrw : ∀ (i : Nat) (k : RowK) (a : Addr), rs[i]? = some k → as[i]? = some a → RowAt K H k a) (hr : RowAt K H k r) : ∀ (i : Nat) (k' : RowK) (a : Addr), (rs ++ [k])[i]? = some k' → (as ++ [r])[i]? = some a → RowAt K H k' a := fun m k' b h1 h2 => by
  rcases Nat.lt_or_ge m rs.length with h | h
  · rw [List.getElem?_append_left h] at h1
    rw [List.getElem?_append_left (by omega)] at h2
    exact hrw m k' b h1 h2
  · rw [List.getElem?_append_right h] at h1
    rw [List.getElem?_append_right (by omega)] at h2
    have e0 : m - rs.length = 0 := by
      by_cases w : m - rs.length = 0
      · exact w
      · rw [List.getElem?_eq_none (by simp; omega)] at h1
        cases h1
    rw [e0] at h1
    rw [show m - as.length = 0 by omega] at h2
    cases h1
    cases h2
    exact hr
theorem addR_twice (rs : List RowK) (k : RowK) : addR (addR rs k) k = addR rs k ∧ posR (addR rs k) k = posR rs k := by
  have h : hasR (addR rs k) k = true := by
    cases hh : hasR rs k with
    | true => rw [(posR_old hh).1]; exact hh
    | false =>
      rw [(posR_new hh).1]
      exact hasR_iff.mpr (List.mem_append_right _ List.mem_cons_self)
  have h2 : addR (addR rs k) k = addR rs k := (posR_old h).1
  exact ⟨h2, by unfold posR; rw [h2]⟩
theorem addR_len (rs : List RowK) (k : RowK) : rs.length ≤ (addR rs k).length ∧ (addR rs k).length ≤ rs.length + 1 := by
  cases hh : hasR rs k with
  | true => rw [(posR_old hh).1]; omega
  | false => rw [(posR_new hh).1, List.length_append]; exact ⟨Nat.le_add_right _ _, Nat.le_refl _⟩
theorem posR_at (rs : List RowK) (k : RowK) : (addR rs k)[posR rs k]? = some k ∧ ∀ m, m < posR rs k → (addR rs k)[m]? ≠ some k := by
  cases hh : hasR rs k with
  | true =>
    obtain ⟨h1, h2, h3⟩ := posR_old hh
    rw [h1]
    exact ⟨h2, h3⟩
  | false =>
    obtain ⟨h1, h2⟩ := posR_new hh
    rw [h1, h2]
    refine ⟨by rw [List.getElem?_append_right (Nat.le_refl _), Nat.sub_self]; rfl, fun m hm e => ?_⟩
    rw [List.getElem?_append_left hm] at e
    exact hasR_not hh (List.mem_of_getElem? e)
theorem posR_le (rs : List RowK) (k : RowK) : posR rs k ≤ rs.length := by
  have h := (List.getElem?_eq_some_iff.mp (posR_at rs k).1).1
  have := (addR_len rs k).2
  omega
/-- what is known of the class of books -/
structure TxtC (K : PySem.W.Frag) (C : Addr) : Prop where
  ik : InsK K C
  self : PySem.W.kitOne K (.ref C) (.ref C) = some true
theorem isR_book {H : Hp} {C p : Addr} {fp : List Addr} {rs : List RowK} (TC : TxtC K C) (hB : BookAt P w K H C p fp rs) : IsR K H (.ref p) (.ref C) true := by
  obtain ⟨dx, fs, h1, _⟩ := hB.there
  exact .inl ⟨_, .base (.ins h1 TC.ik.cl TC.ik.ha TC.ik.hn TC.ik.ht TC.ik.hm), TC.self⟩
theorem eq_to {H : Hp} {C p q : Addr} {fp fq : List Addr} {rs qs : List RowK} {no : Bool} {Q : VK} (TC : TxtC K C) (hB : BookAt P w K H C p fp rs) (hC : BookAt P w K H C q fq qs) (h : Q (.bl (decide (rs = qs) != no)) H) : rEqO K C (spEqB P w K C) no (.ref p) (.ref q) H Q := by
  obtain ⟨dx, fs, h1, _⟩ := hB.there
  obtain ⟨dy, gs, h2, _⟩ := hC.there
  exact ⟨p, dx, fs, rfl, h1, .inl ⟨q, dy, gs, rfl, h2⟩, p, fp, rs, .ref q, rfl, hB, .inl ⟨q, fq, qs, rfl, hC, isR_book TC hC, _, rfl, h⟩⟩
theorem rowsL_app {H : Hp} {rs ks : List RowK} {as bs : List Addr} {m : Addr} (hal : as.length = rs.length) (hrw : ∀ (i : Nat) (k : RowK) (a : Addr), rs[i]? = some k → as[i]? = some a → RowAt K H k a) (hbr : ∀ (i : Nat) (k : RowK) (a : Addr), ks[i]? = some k → bs[i]? = some a → RowAt K H k a) (hbl : bs.length = ks.length) (hm : SqL K H m (as.map V.ref ++ bs.map V.ref)) : RowsL K H m (rs ++ ks) := by
  refine ⟨as ++ bs, by rw [List.map_append]; exact hm, by rw [List.length_append, List.length_append, hal, hbl], fun i k a h1 h2 => ?_⟩
  rcases Nat.lt_or_ge i rs.length with h | h
  · rw [List.getElem?_append_left h] at h1
    rw [List.getElem?_append_left (by omega)] at h2
    exact hrw i k a h1 h2
  · rw [List.getElem?_append_right h] at h1
    rw [List.getElem?_append_right (by omega)] at h2
    rw [hal] at h2
    exact hbr _ k a h1 h2
theorem one_row {H : Hp} {k : RowK} {r : Addr} (h : RowAt K H k r) : ∀ (i : Nat) (j : RowK) (a : Addr), [k][i]? = some j → [r][i]? = some a → RowAt K H j a := fun i j a h1 h2 => by
  match i, h1, h2 with
  | 0, h1, h2 => cases h1; cases h2; exact h
theorem two_rows {H : Hp} {k k' : RowK} {r r' : Addr} (h : RowAt K H k r) (h' : RowAt K H k' r') : ∀ (i : Nat) (j : RowK) (a : Addr), [k, k'][i]? = some j → [r, r'][i]? = some a → RowAt K H j a := fun i j a h1 h2 => by
  match i, h1, h2 with
  | 0, h1, h2 => cases h1; cases h2; exact h
  | 1, h1, h2 => cases h1; cases h2; exact h'
theorem small_log100 {n : Int} (h : n.natAbs < 2 ^ 100) : n.natAbs.log2 < 1000 := by
  by_cases z : n.natAbs = 0
  · rw [z]
    decide
  · exact Nat.lt_of_lt_of_le ((Nat.log2_lt z).mpr h) (by decide)
theorem map_ref_inj : ∀ {as bs : List Addr}, as.map V.ref = bs.map V.ref → as = bs
  | [], [], _ => rfl
  | [], _ :: _, h => by cases h
  | _ :: _, [], h => by cases h
  | a :: as, b :: bs, h => by
    rw [List.map_cons, List.map_cons, List.cons.injEq] at h
    rw [map_ref_inj h.2]
    cases h.1
    rfl
/-- a book is made of rows of a book -/
theorem init_rows {H : Hp} {C CP CR CN b x dx : Addr} {as : List Addr} {rr : List RowK} {Q : VK} {E : XK} (hA : SqA K H b (as.map V.ref)) (hal : as.length = rr.length) (hrw : ∀ (i : Nat) (k : RowK) (a : Addr), rr[i]? = some k → as[i]? = some a → RowAt K H k a) (hok : OkRows rr) (hnd : rr.Nodup) (hlt : rr.length < 5000) (hx : H x = none) (hdx : H dx = none) (ne : x ≠ dx)
    (q : ∀ H' fq, Same H H' → (∀ b ∈ fq, H b = none) → BookAt P w K H' C x fq rr → Q .non H') : spInitB P w K C CP CR CN (.ref x :: ([.ref b] ++ [])) (upd (upd H dx (.own x)) x (.ins C dx [])) Q E := by
  have rn : Same H (rs x x (upd (upd H dx (.own x)) x (.ins C dx []))) := rs_new hx hdx
  have hb := build_rows rr [] hok hnd
  have okk : ∀ k ∈ rr, ∃ n, OkK n k := fun k hk => by
    obtain ⟨i, hi⟩ := List.mem_iff_getElem?.mp hk
    exact ⟨i, hok i k hi⟩
  refine ⟨x, dx, .ref b, rfl, upd_same, .inr ⟨b, _, _, rfl, hA.up rn, (Tp.rows_dd hal hrw).mono rn, short_rows okk, by rw [List.length_map]; exact hlt, fun m qs hq k hk n e => ?_, fun i e => ?_, fun i e => ?_, fun qs e H' fq kH hfq hBq => ?_⟩⟩
  · have hm := build_rows (rr.take m) [] (fun i k e => hok i k (by
      rw [List.nil_append, List.getElem?_take] at e
      split at e
      · exact e
      · cases e)) (by rw [List.nil_append]; exact hnd.sublist (List.take_sublist _ _))
    rw [List.map_take] at hm
    rw [hm] at hq
    cases hq
    obtain ⟨j, hj⟩ := okk k (List.mem_of_mem_take hk)
    have h2 := hj.2
    rw [e] at h2
    exact h2.2
  · rw [hb] at e
    cases e
  · rw [hb] at e
    cases e
  · rw [hb] at e
    cases e
    refine q H' fq (same_new hx hdx kH) (fun b hb => ?_) hBq
    cases e : H b with
    | none => rfl
    | some o =>
      have := hfq b hb
      rw [upd_ne (ne_of_none e hx), upd_ne (ne_of_none e hdx), e] at this
      cases this
theorem SqT_ms {H : Hp} {S : Addr → Prop} {a : Addr} {xs : List V} (hS : ∀ b, S b → NotTup H b) (h : SqT K H a xs) : SqT K (ms S H) a xs := by
  rcases h with h | h
  · rcases h with h | h
    · exact .inl (.inl (ms_at (fun z => hS a z xs (.inl h)) h))
    · obtain ⟨o, h⟩ := h
      exact .inl (.inr ⟨o, ms_at (fun z => hS a z xs (.inr ⟨o, h⟩)) h⟩)
  · exact .inr h
theorem row_ms {H : Hp} {S : Addr → Prop} {k : RowK} {a : Addr} (hS : ∀ b, S b → NotTup H b) (h : RowAt K H k a) : RowAt K (ms S H) k a := h.mono fun _ _ => SqT_ms hS
theorem both_of {B G : Prop} (hB : B) (h : B → G) : G := h hB
theorem upd_upd {H : Hp} {a : Addr} {o u : HO} : upd (upd H a o) a u = upd H a u := by
  funext b
  by_cases e : b = a
  · subst e
    rw [upd_same, upd_same]
  · rw [upd_ne e, upd_ne e, upd_ne e]
abbrev let1 : Str := "abcdefghijklmnopqrstuvwxyz0123456789"
theorem tz_let1 : Tz 36 let1 := ⟨by decide +kernel, by decide +kernel⟩
theorem let1_sm : ∀ c ∈ TL.tl let1, (lowB c || digB c) = true := by decide +kernel
theorem let1_low : ∀ j < 26, ((TL.tl let1)[j]?.any lowB) = true := by decide +kernel
theorem name_of {x : Nat} {ys : List Str} (hx : lowB x = true) (hl : ys.length ≤ 7) (hy : ∀ y ∈ ys, ∃ c, y = (⟨#[c]⟩ : Str) ∧ (lowB c || digB c) = true) : nameB (TL.tl ((⟨#[x]⟩ : Str) ++ Txt.join "" ys)) = true := by
  have e0 : TL.tl ("" : Str) = [] := by decide +kernel
  rw [TL.tl_append, tl_joinT, e0]
  have e1 : TL.tl (⟨#[x]⟩ : Str) = [x] := rfl
  rw [e1]
  have hj := joinL_len [] 1 0 (Nat.le_refl _) (ys.map TL.tl) fun q hq => by
    obtain ⟨y, hy', rfl⟩ := List.mem_map.mp hq
    obtain ⟨c, rfl, _⟩ := hy y hy'
    exact Nat.le_refl 1
  rw [List.length_map] at hj
  unfold nameB
  show (decide (1 ≤ (x :: TL.joinL [] (ys.map TL.tl)).length ∧ (x :: TL.joinL [] (ys.map TL.tl)).length ≤ 8) && (lowB x && ((lowB x || digB x) && (TL.joinL [] (ys.map TL.tl)).all fun c => lowB c || digB c))) = true
  have hall : ((TL.joinL [] (ys.map TL.tl)).all fun c => lowB c || digB c) = true := List.all_eq_true.mpr fun c hc => by
    rcases joinL_mem hc with z | ⟨q, hq, z⟩
    · exact absurd z List.not_mem_nil
    · obtain ⟨y, hy', rfl⟩ := List.mem_map.mp hq
      obtain ⟨d, rfl, hd⟩ := hy y hy'
      have : c = d := by simpa using (show c ∈ [d] from z)
      rw [this]
      exact hd
  rw [hx, hall, decide_eq_true (by rw [List.length_cons]; omega)]
  rfl
/-- a drawn name -/
def spLab : Sp := fun vs H Q _ => ∃ (p : Addr) (n : Nat), vs = [.ref p] ∧ BoxAt H p n ∧ n ≤ 100000 ∧ ∀ z H', nameB (TL.tl z) = true → BoxAt H' p (n + 20) → Keep p H H' → Q (.str z) H'
end
end Tp
set_option Elab.async false
set_option linter.all false
set_option maxRecDepth 100000
set_option maxHeartbeats 4000000
/-! o not in a list of texts, where o is an instance with its own ==; x in a list of data; != of two lists of the same things -/
namespace PySem.SeqAt
open PySem.MeetsSeq
theorem ins_str {C dx : Addr} {e : Addr} {i : Str} {tk : Tok} :
    Meets (Builtin.«str.__eq__» ⟨[.str i tk, .ref e], []⟩) (fun _ Z w0 => w0.heap.get? e = some (PySem.W.instObj C dx) ∧ Z (.ok (.ret .notImplemented)) w0) :=
  .of_wp fun pr wd ar Z w0 q0 => by
    obtain ⟨a1, a2, a3, a4, a5⟩ := w0
    obtain ⟨q1, qz⟩ := q0
    unfold PySem.W.instObj at q1
    wp_walk using wpAny_loadPart' q1, wpAny_load q1
    exact ⟨_, rfl, qz⟩
end PySem.SeqAt
namespace Tp
open PySem PySem.SeqAt
open AutoSeq1 (wpAny_loadPart')
open MeetsSeq MeetsSeq2 MeetsSeq3 SeqRoads2
section
variable {prog : Program} {w : World} {A : Around} {R : Result → Shared → Prop}
/-- at each turn the list is read anew: N items, the i-th not equal -/
def ListN (prog : Program) (w : World) (A : Around) (E : Value → Shared → Prop) (l : Addr) (x : Value) (N : Nat) (I : Nat → Shared → Prop) : Prop :=
  ∀ i s, I i s → ∃ (items : Array Value) (n : Nat) (dd : Option Addr) (sl : Array (Option Value)), s.heap.get? l = some { cls := .type "list", dict := dd, data := .seq items n, slots := sl } ∧ items.size = N ∧
    ∀ (h1 : i < items.size), wpAny (model prog w) A.in1 (eqBool items[i] x) (fun r s' => r = false ∧ I (i + 1) s') E s
theorem in_loopG (l : Addr) (x : Value) (N : Nat) (I : Nat → Shared → Prop) (hl : ListN prog w A (fun e s' => R (.error e) s') l x N I)
    (fin : ∀ s, I N s → R (.ok (.ret (.bool false))) s) (k : Nat) :
    ∀ i : Nat, N - i = k → i ≤ N → ∀ s, I i s →
      wpAny (model prog w) A.in1 (Builtin.«list.__contains__.loop» ⟨[.ref l, x, rawInt i], []⟩) (GQ.FinOf prog w A R) (fun e s' => R (.error e) s') s := by
  induction k with
  | zero =>
    intro i hk hi s h
    obtain ⟨items, n, dd, sl, hl1, hs1, _⟩ := hl _ _ h
    have hi' : i = N := by omega
    have hR := fin s (hi' ▸ h)
    obtain ⟨hp, g, d, tk, os⟩ := s
    wp_walk using wpAny_loadPart' hl1
    have hi1 : items[((i : Nat) : Int).toNat]? = none := by simp; omega
    rw [hi1]
    wp_walk
    exact hR
  | succ k ih =>
    intro i hk hi s h
    obtain ⟨items, n, dd, sl, hl1, hs1, turn⟩ := hl _ _ h
    have hlt : i < items.size := by omega
    have ht := turn hlt
    obtain ⟨hp, g, d, tk, os⟩ := s
    wp_walk using wpAny_loadPart' hl1
    have hi1 : items[((i : Nat) : Int).toNat]? = some items[i] := by simp [hlt]
    have hc : ((i : Int) + 1) = ((i + 1 : Nat) : Int) := by omega
    rw [hi1]
    refine wpAny_bind (wpAny_mono ht (fun r s2 h2 => ?_) fun _ _ x => x)
    obtain ⟨hr, h2⟩ := h2
    subst hr
    have hrec := ih (i + 1) (by omega) (by omega) s2 h2
    obtain ⟨hp2, g2, d2, tk2, os2⟩ := s2
    wp_walk
    rw [hc]
    exact ⟨plainId_quiet plain_contains_loop _, codeAny_builtin entry_contains_loop (by
      rw [Around.under_plainId plain_contains_loop _]
      exact hrec)⟩
theorem in_listG (l : Addr) (x : Value) (N : Nat) (I : Nat → Shared → Prop) (hl : ListN prog w A (fun e s' => R (.error e) s') l x N I)
    (fin : ∀ s, I N s → R (.ok (.ret (.bool false))) s) {s : Shared} (h : I 0 s) :
    wpAny (model prog w) A.in1 (Builtin.«list.__contains__» ⟨[.ref l, x], []⟩) (GQ.FinOf prog w A R) (fun e s' => R (.error e) s') s := by
  obtain ⟨items, n, dd, sl, hl1, hs1, _⟩ := hl _ _ h
  have hrec := in_loopG (A := A) (R := R) l x N I hl fin _ 0 rfl (Nat.zero_le _) s h
  obtain ⟨hp, g, d, tk, os⟩ := s
  wp_walk using wpAny_loadPart' hl1
  exact ⟨plainId_quiet plain_contains_loop _, codeAny_builtin entry_contains_loop (by
    rw [Around.under_plainId plain_contains_loop _]
    exact hrec)⟩
end
section
variable {prog : Program} {w : World} {A : Around} {E : Value → Shared → Prop} {s : Shared}
theorem notIn_listG {l : Addr} {x : Value} {N : Nat} {Q : Value → Shared → Prop} (I : Nat → Shared → Prop) (hl : ListN prog w A E l x N I)
    (fin : ∀ s, I N s → Q (.bool true) s) (h : I 0 s) : wpAny (model prog w) A (compareOp .NotIn x (.ref l)) Q E s := by
  obtain ⟨items, n, dd, sl, hl1, hs1, _⟩ := hl _ _ h
  show wpAny _ A (do return .bool (!(← contains (.ref l) x))) Q E s
  refine wpAny_bind (wpAny_contains_slot ⟨_, hl1, rfl⟩ F.slot_list_contains (GQ.call_here F.slot_list_contains ⟨_, hl1, rfl⟩ F.entry_list_contains (F.args_list_contains_2 _ _) ?_))
  exact in_listG (R := wants (fun r s' => wpAny (model prog w) A (truthy r) (fun b s'' => wpAny (model prog w) A (pure (.bool (!b))) Q E s'') E s') E) l x N I hl (fun s' q => wpAny_truthy_bool (wpAny_pure (fin s' q))) h
theorem in_listG2 {l : Addr} {x : Value} {N : Nat} {Q : Value → Shared → Prop} (I : Nat → Shared → Prop) (hl : ListN prog w A E l x N I)
    (fin : ∀ s, I N s → Q (.bool false) s) (h : I 0 s) : wpAny (model prog w) A (compareOp .In x (.ref l)) Q E s := by
  obtain ⟨items, n, dd, sl, hl1, hs1, _⟩ := hl _ _ h
  show wpAny _ A (do return .bool (← contains (.ref l) x)) Q E s
  refine wpAny_bind (wpAny_contains_slot ⟨_, hl1, rfl⟩ F.slot_list_contains (GQ.call_here F.slot_list_contains ⟨_, hl1, rfl⟩ F.entry_list_contains (F.args_list_contains_2 _ _) ?_))
  exact in_listG (R := wants (fun r s' => wpAny (model prog w) A (truthy r) (fun b s'' => wpAny (model prog w) A (pure (.bool b)) Q E s'') E s') E) l x N I hl (fun s' q => wpAny_truthy_bool (wpAny_pure (fin s' q))) h
end
section
open PySem.W PySem.Calls PySem.Spec PyProof.Rows L2
variable {prog : Program} {w : World} {A : Around} {E : Value → Shared → Prop} {s : Shared} {K : Frag} {x C L f dx : Addr} {h₀ : Heap} {m : Str → Option Value} {od : Option Obj} {i : Str} {tk : Tok}
/-- a text == an instance: its own == is asked, the other way round -/
theorem cmp_str_K {Q : Value → Shared → Prop} (hu : A.units < cLine) (hF : Fr h₀ L s.heap m) (X₀ : K.In h₀) (I : PySem.W.InstAt s.heap x (instObj C dx) C od) (hno : subIn K (.ref C) (.type "str") = some false)
    (hs : findIn K (.ref C) "__eq__" = some (some (.ref f))) (hf : isFn K (.ref f) = true)
    (h : wpAny (model prog w) A (call (.ref f) [.ref x, .str i tk]) (PySem.W.CmpBack Q) E s) : wpAny (model prog w) A (richCompare .Eq (.str i tk) (.ref x)) Q E s := by
  have X := X₀.keeps hF.keep
  have one : wpAny (model prog w) A (tryCompare (.ref x) "__eq__" (.str i tk)) (fun r s' => ∃ v, r = some v ∧ Q v s') E s := by
    unfold tryCompare
    refine wpAny_bind (ifBound_K X I hs hf (wpAny_mono h (fun v s' hv => ?_) fun _ _ e => e))
    cases v <;> first | exact hv.elim | exact wpAny_pure ⟨_, rfl, hv⟩
  have ts : s.TypeIs (.str i tk) "str" := typeIs_str s i tk
  have two : wpAny (model prog w) A (tryCompare (.str i tk) "__eq__" (.ref x)) (fun r s' => r = none ∧ s' = s) E s :=
    wpAny_tryCompare_declines ts F.slot_str_eq (call_meets F.slot_str_eq ts F.entry_str_eq (F.args_str_eq_2 _ _) ins_str ⟨I.at_, rfl, rfl, rfl⟩)
  unfold richCompare
  simp only [ts.oneThing_none]
  refine wpAny_holding (wpAny_bind (wpAny_cRoomFor hu ?_))
  refine wpAny_bind (wpAny_typeOf ts (wpAny_bind (I.type.here ?_)))
  rw [if_pos (by rfl)]
  refine wpAny_bind ((looks_subIn X hno).here ?_)
  simp only [Bool.false_eq_true, if_false]
  refine wpAny_bind (wpAny_mono two (fun r s' z => ?_) fun _ _ e => e)
  obtain ⟨rfl, rfl⟩ := z
  simp only [Bool.not_false, if_true]
  refine wpAny_bind (wpAny_mono one (fun r s' z => ?_) fun _ _ e => e)
  obtain ⟨v, rfl, hq⟩ := z
  exact wpAny_pure hq
end

section
open L2
variable {X : L2.Cx} {pins : List (Addr × Obj)} {σ : L2.St} {H : L2.Hp} {s : Shared} {j : Nat} {C : Addr}
/-- o not in a list of texts: o's own == says no to each -/
def rNotInOS (K : PySem.W.Frag) (C : Addr) (sp : Sp) : R2 := fun x y H Q => ∃ a dx fs l, ∃ ns : List Str, x = .ref a ∧ y = .ref l ∧ H a = some (.ins C dx fs) ∧ SqL K H l (ns.map V.str) ∧
  (∀ n ∈ ns, ∀ H1, Same H H1 → sp [.ref a, .str n] H1 (fun v H' => v = .bl false ∧ Same H H') E0) ∧ ∀ H', Same H H' → Q (.bl true) H'
theorem op_notInOS {sp : Sp} (c : Ct X.prog X.w X.K X.mg X.base j C "__eq__" [] sp) (hno : PySem.W.subIn X.K (.ref C) (.type "str") = some false) (hr : Room (j + 1) X.A) (hG : X.A.guards = some []) : OpR X (compareOp .NotIn) (rNotInOS X.K C sp) := by
  intro pins s σ H x y v u Q I rx ry h
  obtain ⟨a, dx, fs, l, ns, rfl, rfl, ha, hl, hs, q⟩ := h
  cases (show v = Value.ref a from rx)
  cases (show u = Value.ref l from ry)
  obtain ⟨f, fd, ps, ds, cl, hm, F, hb, hd⟩ := c.ex
  cases hd
  refine notIn_listG (N := ns.length) (fun _ s' => ∃ H', Inv X pins σ H' s' ∧ Same H H') (fun i s1 h1 => ?_) (fun s1 h1 => ?_) ⟨H, I, Same.refl _⟩
  · obtain ⟨H1, I1, k1⟩ := h1
    have hl1 := upL k1 hl
    obtain ⟨its, r, hp, hz⟩ := I1.list hl1
    obtain ⟨⟨cls, dd, data, sl⟩, hg, hc, n, hd⟩ := hp.isList
    simp only at hc hd
    subst hc hd
    have hlen : its.length = ns.length := by rw [← r.length, List.length_map]
    refine ⟨its.toArray, n, dd, sl, hg, by rw [List.size_toArray, hlen], fun h1 => ?_⟩
    have hi : i < ns.length := by rw [List.size_toArray] at h1; omega
    obtain ⟨u1, e1, q1⟩ := r.get (x := .str ns[i]) (i := i) (by rw [List.getElem?_map, List.getElem?_eq_getElem hi]; rfl)
    have g1 : its.toArray[i] = u1 := by
      have : its.toArray[i]? = some u1 := by simpa using e1
      rw [Array.getElem?_eq_getElem h1] at this
      exact Option.some.inj this
    rw [g1]
    obtain ⟨tk, rfl⟩ := (show ∃ tk, u1 = Value.str ns[i] tk from q1)
    have ha1 := k1 _ _ ha
    obtain ⟨m, hF⟩ := I1.fr
    obtain ⟨mA, J, _⟩ := ins_get I1.hok ha1
    obtain ⟨od, J', _⟩ := J.look
    unfold eqBool
    refine wpAny_holding (wpAny_ite_split (fun y => absurd (eq_of_beq y) nofun) fun _ => wpAny_bind ?_)
    refine cmp_str_K hr.in1.units0 hF I1.ok.mod.kin J' hno hm.at_ hm.fn (wpAny_mono (run_at (A := X.A.in1) (us := [.ref a, .str ns[i] tk]) (vs := [.ref a, .str ns[i]]) F hr.in1 hG rfl hb .nil I1 (.cons rfl (.cons ⟨_, rfl⟩ .nil)) (hs _ (List.getElem_mem hi) H1 k1)) (fun r' s' hv => ?_) fun _ _ x => x)
    obtain ⟨w, H2, I2, rv, rfl, k2⟩ := hv
    cases (show r' = Value.bool false from rv)
    exact wpAny_truthy_bool ⟨rfl, H2, I2, k2⟩
  · obtain ⟨H1, I1, k1⟩ := h1
    exact ⟨.bl true, H1, I1, rfl, q H1 k1⟩
/-- o in a list of texts: o's own == says no to each -/
def rInOS (K : PySem.W.Frag) (C : Addr) (sp : Sp) : R2 := fun x y H Q => ∃ a dx fs l, ∃ ns : List Str, x = .ref a ∧ y = .ref l ∧ H a = some (.ins C dx fs) ∧ SqL K H l (ns.map V.str) ∧
  (∀ n ∈ ns, ∀ H1, Same H H1 → sp [.ref a, .str n] H1 (fun v H' => v = .bl false ∧ Same H H') E0) ∧ ∀ H', Same H H' → Q (.bl false) H'
theorem op_inOS {sp : Sp} (c : Ct X.prog X.w X.K X.mg X.base j C "__eq__" [] sp) (hno : PySem.W.subIn X.K (.ref C) (.type "str") = some false) (hr : Room (j + 1) X.A) (hG : X.A.guards = some []) : OpR X (compareOp .In) (rInOS X.K C sp) := by
  intro pins s σ H x y v u Q I rx ry h
  obtain ⟨a, dx, fs, l, ns, rfl, rfl, ha, hl, hs, q⟩ := h
  cases (show v = Value.ref a from rx)
  cases (show u = Value.ref l from ry)
  obtain ⟨f, fd, ps, ds, cl, hm, F, hb, hd⟩ := c.ex
  cases hd
  refine in_listG2 (N := ns.length) (fun _ s' => ∃ H', Inv X pins σ H' s' ∧ Same H H') (fun i s1 h1 => ?_) (fun s1 h1 => ?_) ⟨H, I, Same.refl _⟩
  · obtain ⟨H1, I1, k1⟩ := h1
    have hl1 := upL k1 hl
    obtain ⟨its, r, hp, hz⟩ := I1.list hl1
    obtain ⟨⟨cls, dd, data, sl⟩, hg, hc, n, hd⟩ := hp.isList
    simp only at hc hd
    subst hc hd
    have hlen : its.length = ns.length := by rw [← r.length, List.length_map]
    refine ⟨its.toArray, n, dd, sl, hg, by rw [List.size_toArray, hlen], fun h1 => ?_⟩
    have hi : i < ns.length := by rw [List.size_toArray] at h1; omega
    obtain ⟨u1, e1, q1⟩ := r.get (x := .str ns[i]) (i := i) (by rw [List.getElem?_map, List.getElem?_eq_getElem hi]; rfl)
    have g1 : its.toArray[i] = u1 := by
      have : its.toArray[i]? = some u1 := by simpa using e1
      rw [Array.getElem?_eq_getElem h1] at this
      exact Option.some.inj this
    rw [g1]
    obtain ⟨tk, rfl⟩ := (show ∃ tk, u1 = Value.str ns[i] tk from q1)
    have ha1 := k1 _ _ ha
    obtain ⟨m, hF⟩ := I1.fr
    obtain ⟨mA, J, _⟩ := ins_get I1.hok ha1
    obtain ⟨od, J', _⟩ := J.look
    unfold eqBool
    refine wpAny_holding (wpAny_ite_split (fun y => absurd (eq_of_beq y) nofun) fun _ => wpAny_bind ?_)
    refine cmp_str_K hr.in1.units0 hF I1.ok.mod.kin J' hno hm.at_ hm.fn (wpAny_mono (run_at (A := X.A.in1) (us := [.ref a, .str ns[i] tk]) (vs := [.ref a, .str ns[i]]) F hr.in1 hG rfl hb .nil I1 (.cons rfl (.cons ⟨_, rfl⟩ .nil)) (hs _ (List.getElem_mem hi) H1 k1)) (fun r' s' hv => ?_) fun _ _ x => x)
    obtain ⟨w, H2, I2, rv, rfl, k2⟩ := hv
    cases (show r' = Value.bool false from rv)
    exact wpAny_truthy_bool ⟨rfl, H2, I2, k2⟩
  · obtain ⟨H1, I1, k1⟩ := h1
    exact ⟨.bl false, H1, I1, rfl, q H1 k1⟩
/-- two lists of the same things are not unequal -/
def rNeSame (K : PySem.W.Frag) : R2 := fun x y H Q => ∃ a b xs, x = .ref a ∧ y = .ref b ∧ SqL K H a xs ∧ SqL K H b xs ∧ (∀ v ∈ xs, flatB v = true ∨ ∃ r, v = .ref r) ∧ Q (.bl false) H
theorem op_neSame (hu : X.A.units < cLine) : OpR X (compareOp .NotEq) (rNeSame X.K) := by
  intro pins s σ H x y v u Q I rx ry h
  obtain ⟨a, b, xs, rfl, rfl, ha, hb, hx, q⟩ := h
  cases (show v = Value.ref a from rx)
  cases (show u = Value.ref b from ry)
  obtain ⟨us, r1, p1, _⟩ := I.list ha
  obtain ⟨ws, r2, p2, _⟩ := I.list hb
  have hsz : us.toArray.size = ws.toArray.size := by
    rw [List.size_toArray, List.size_toArray, ← r1.length, ← r2.length]
  have key := SeqAt.RcNeAt.lists (A := X.A) (e := fun _ => true) p1.isList p2.isList hsz hu fun j h1 h2 => by
    have hj : j < xs.length := by rw [r1.length]; simpa using h1
    obtain ⟨u1, e1, q1⟩ := r1.get (List.getElem?_eq_getElem hj)
    obtain ⟨u2, e2, q2⟩ := r2.get (List.getElem?_eq_getElem hj)
    have g1 : us.toArray[j] = u1 := by
      have : us.toArray[j]? = some u1 := by simpa using e1
      rw [Array.getElem?_eq_getElem h1] at this
      exact Option.some.inj this
    have g2 : ws.toArray[j] = u2 := by
      have : ws.toArray[j]? = some u2 := by simpa using e2
      rw [Array.getElem?_eq_getElem h2] at this
      exact Option.some.inj this
    rw [g1, g2]
    rcases hx _ (List.getElem_mem hj) with hf | ⟨r, hr⟩
    · exact eqAt_same q1 q2 hf
    · rw [hr] at q1 q2
      cases (show u1 = Value.ref r from q1)
      cases (show u2 = Value.ref r from q2)
      exact SeqAt.EqAt.same _
  refine key _ _ _ _ ?_
  rw [show ((List.range us.toArray.size).all fun _ => true) = true from List.all_eq_true.mpr fun _ _ => rfl]
  exact ⟨.bl false, H, I, rfl, q⟩
/-- x in a list of data, x any data -/
def rInLD (K : PySem.W.Frag) : R2 := fun x y H Q => ∃ d ds, Dd K H x d ∧ Dp K H y (.list ds) ∧ SeqAt.leftAll ds = true ∧ PyData.canLayAll0 ds = true ∧ PyData.depthAll ds ≤ 8 ∧ Q (.bl (ds.any fun z => PyData.eqv z d)) H
theorem op_inLD {K : PySem.W.Frag} (S : Sm K) (eK : X.K = K) (hu : X.A.units + 65 < cLine) : OpR X (compareOp .In) (rInLD K) := by
  subst eK
  intro pins s σ H x y v u Q I rx ry h
  obtain ⟨d, ds, hd, he, hl, hc, hdp, q⟩ := h
  obtain ⟨as, r1, _⟩ := Dd.reads I S d x v hd rx
  obtain ⟨bs, r2⟩ := Dp.reads I (.list ds) y u he ry
  cases r2 with
  | @list a o vs n _ cs h1 h2 h3 h4 =>
    refine in_listAt (fun z => PyData.eqv (readOf s.heap z) d) ⟨_, h1, h2, _, h3⟩ (fun z hz => ?_) ?_
    · obtain ⟨dy, es, ry, hcy, hle⟩ := readsAll_mem ds _ _ hc h4 z (by simpa using hz)
      rw [readOf_eq hcy ry]
      refine eq_left dy d _ s z v _ _ ry r1 (leftAll_mem hl h4 (by simpa using hz) ry hcy) ?_
      have e1 : min dy.depth d.depth ≤ 8 := Nat.le_trans (Nat.min_le_left _ _) (Nat.le_trans hle hdp)
      show X.A.units + 1 + min dy.depth d.depth < cLine
      omega
    · rw [any_by_data h4 hc]
      exact ⟨.bl _, H, I, rfl, q⟩
end
end Tp
set_option Elab.async false
set_option linter.all false
set_option maxRecDepth 100000
set_option maxHeartbeats 4000000
namespace T10
open PySem PySem.Spec PyProof.Rows L2 Tp
section
variable {P : Program} {w : World} {K : PySem.W.Frag} {mg : Str → Option Value} {base : Heap} {f : Addr} {fd : FuncData}


theorem op_or {X : Cx} {op : Value → Value → Sem Value} {r1 r2 : R2} (h1 : OpR X op r1) (h2 : OpR X op r2) : OpR X op (fun x y H Q => r1 x y H Q ∨ r2 x y H Q) := fun pins s σ H x y v u Q I rx ry h => h.elim (h1 pins s σ H x y v u Q I rx ry) (h2 pins s σ H x y v u Q I rx ry)
theorem dpAll_str {K : PySem.W.Frag} {H : Hp} : ∀ ns : List Str, DpAll K H (ns.map V.str) (ns.map PyData.str)
  | [] => .nil
  | n :: ns => .cons (.str n) (dpAll_str ns)
theorem name_sm {n : Str} (h : nameB (TL.tl n) = true) : ∀ c ∈ TL.tl n, c < 256 := fun c hc => by
  unfold nameB at h
  rw [Bool.and_eq_true, Bool.and_eq_true] at h
  have := List.all_eq_true.mp h.2.2 c hc
  rw [Bool.or_eq_true] at this
  rcases this with z | z
  · have := of_decide_eq_true z
    omega
  · have := of_decide_eq_true z
    omega
theorem shaped_str {ns : List Str} (h : ∀ n ∈ ns, nameB (TL.tl n) = true) : SeqAt.shaped (.list (ns.map PyData.str)) = true := shaped_strs fun y hy => name_sm (h y hy)
/-- is it the name of a gate -/
def hasV (gs : List GateK) : V → Bool
  | .str z => decide (z ∈ gs.map (·.1))
  | _ => false
def spHasG (K : PySem.W.Frag) (C : Addr) : Sp := fun vs H Q _ => ∃ (p : Addr) (ins : List Str) (gs : List GateK) (os : List EdgeK) (v : V) (k : String), vs = [.ref p, v] ∧ NetAt K H C p ins gs os ∧ Vk K H v k ∧ (∀ z, v = .str z → k = "str") ∧ (∀ g ∈ gs, nameB (TL.tl g.1) = true) ∧ (gs.map (·.1)).Nodup ∧ ∀ H' : Hp, Same H H' → Q (.bl (hasV gs v)) H'
theorem NetAt.there {K : PySem.W.Frag} {H : Hp} {C p : Addr} {ins : List Str} {gs : List GateK} {os : List EdgeK} (h : NetAt K H C p ins gs os) : ∃ dx fs, H p = some (.ins C dx fs) ∧ ∀ m, m ∉ ntF → fs.lookup m = none :=
  let ⟨dx, _, _, _, _, _, _, fs, _, _, _, h0, _, _, _, _, _, _, a7, _⟩ := h.ex; ⟨dx, fs, h0, a7⟩

abbrev sHg : Stmt := inClass (top 47) 13
abbrev nHg : List Str := ["self", "name"]
theorem scHg : FnScope nHg ["self", "name"] (defScope sHg) := ⟨rfl, rfl, rfl, by decide +kernel, rfl, by decide +kernel, by decide +kernel⟩

theorem ok_Hg (F : Fun K "has_gate" "Net.has_gate" sHg f fd) {C : Addr} (T : TxtNt K C) (N : Cg P w K mg base 1 "is_name" (spName K)) : FnG P w K mg base CX0 2 f fd ["self", "name"] (spHasG K C) := by
  refine FunG.ok F scHg (fun vs H Q E h => ?_) (fun cdv B out s H vs Q E hr hG h => ?_)
  · obtain ⟨p, ins, gs, os, v, k, rfl, _⟩ := h
    rfl
  · obtain ⟨p, ins, gs, os, v, k, rfl, hN, hv, hvs, hn, nd, q⟩ := h
    refine ⟨_, (pss_one (ps_ret (pe_and (pe_g N hr hG (by decide) (by rfl) (pa_cons (pv 1) pa_nil)) (pe_one (pe_cmp (pc_din (hu1 hr) (pv 1) (pe_fld (pv 0) rfl))))))), ?_⟩
    refine ⟨_, rfl, v, k, rfl, hv, fun e => ?_, fun z e H1 s1 => ?_⟩
    · refine ⟨_, rfl, iteF ?_⟩
      have : hasV gs v = false := by
        cases v with
        | str z =>
          exact absurd (hvs z rfl) e
        | _ => rfl
      have q' := q H (Same.refl _)
      rwa [this] at q'
    · subst e
      obtain ⟨dx, lt, li, ln, ds, de, lo, fs, ut, uo, kvs, h0, a1, a2, a3, a4, a5, a6, a7, b1, b2, b3, b4, b5, b6, b7, b8⟩ := (hN.up s1).ex
      cases hz : nameB (TL.tl z) with
      | false =>
        refine ⟨_, rfl, iteF ?_⟩
        have : hasV gs (.str z) = false := decide_eq_false fun h => by
          obtain ⟨g, hg, rfl⟩ := List.mem_map.mp h
          rw [hn g hg] at hz
          cases hz
        have q' := q H1 s1
        rwa [this] at q'
      | true =>
        refine ⟨_, rfl, iteT ?_⟩
        refine ⟨_, rfl, _, rfl, p, C, dx, fs, _, rfl, h0, T.cl, T.no _ (by simp), a5, de, _, rfl, DGet.k b5 (k := Sum.inr z), ?_⟩
        have q' := q H1 s1
        by_cases hm : z ∈ gs.map (·.1)
        · obtain ⟨g, hg, rfl⟩ := List.mem_map.mp hm
          obtain ⟨a, us, e1, _⟩ := (b6.val g.1).2 g hg rfl nd
          rw [e1]
          rw [show hasV gs (.str g.1) = true from decide_eq_true hm] at q'
          exact q'
        · rw [(b6.val z).1 hm]
          rw [show hasV gs (.str z) = false from decide_eq_false hm] at q'
          exact q'

/-- a text is no network -/
def spEqS : Sp := fun vs H Q _ => ∃ (p : Addr) (z : Str), vs = [.ref p, .str z] ∧ Q (.bl false) H

abbrev sQs : Stmt := inClass (top 47) 18
abbrev nQs : List Str := ["self", "other"]
theorem scQs : FnScope nQs ["self", "other"] (defScope sQs) := ⟨rfl, rfl, rfl, by decide +kernel, rfl, by decide +kernel, by decide +kernel⟩

theorem ok_Qs (F : Fun K "__eq__" "Net.__eq__" sQs f fd) {C : Addr} (mI : mg "isinstance" = none) (mN : mg "Net" = some (.ref C)) (hk : PySem.W.kitOne K (.type "str") (.ref C) = some false) : FnG P w K mg base CX0 1 f fd ["self", "other"] spEqS := by
  refine FunG.ok F scQs (fun vs H Q E h => ?_) (fun cdv B out s H vs Q E hr hG h => ?_)
  · obtain ⟨p, z, rfl, _⟩ := h
    rfl
  · obtain ⟨p, z, rfl, q⟩ := h
    refine ⟨_, (pss_one (ps_ret (pe_and (pe_callB call_isd (by rfl) mI (by decide +kernel) (pa_cons (pv 1) (pa_cons (gl_c (v := .ref C) (by rfl) ⟨_, mN, rfl⟩) pa_nil))) (pe_one pe_never)))), ?_⟩
    exact ⟨_, rfl, .str z, _, _, _, rfl, .own _, .inl ⟨_, .base (.str z), hk⟩, _, rfl, iteF q⟩

/-- a value that is asked for among the names: a flat one, data, or a network -/
def Ask (K : PySem.W.Frag) (C : Addr) (H : Hp) (ins : List Str) (gs : List GateK) (v : V) (b : Bool) : Prop := (∃ k, Vk K H v k ∧ ∀ z, v = .str z → k = "str") ∧ ((flatV v = true ∧ b = (hasV gs v || inV v (ins.map V.str))) ∨ (hasV gs v = false ∧ ∃ d, Dd K H v d ∧ b = (ins.map PyData.str).any fun z => PyData.eqv z d) ∨ (hasV gs v = false ∧ b = false ∧ ∃ a dx fs, v = .ref a ∧ H a = some (.ins C dx fs)))
theorem Ask.up {K : PySem.W.Frag} {C : Addr} {H H' : Hp} {ins : List Str} {gs : List GateK} {v : V} {b : Bool} (s : Same H H') (h : Ask K C H ins gs v b) : Ask K C H' ins gs v b := by
  obtain ⟨⟨k, hk, hks⟩, h⟩ := h
  refine ⟨⟨k, hk.mono s, hks⟩, ?_⟩
  rcases h with h | ⟨h1, d, hd, h2⟩ | ⟨h1, h2, a, dx, fs, h3, h4⟩
  · exact .inl h
  · exact .inr (.inl ⟨h1, d, hd.mono s, h2⟩)
  · exact .inr (.inr ⟨h1, h2, a, dx, fs, h3, s _ _ h4⟩)
theorem left_strs : ∀ ns : List Str, SeqAt.leftAll (ns.map PyData.str) = true
  | [] => rfl
  | n :: ns => by
    have := left_strs ns
    simp [SeqAt.leftAll, SeqAt.leftD, this]
theorem can_of {d : PyData} {ds : List PyData} (h : SeqAt.shaped (.list ds) = true) : PyData.canLayAll0 ds = true := by
  have := SeqAt.canLay_of_shaped h
  simpa [PyData.canLay0] using this
theorem dep_strs : ∀ ns : List Str, PyData.depthAll (ns.map PyData.str) ≤ 8
  | [] => by decide
  | n :: ns => by
    have := dep_strs ns
    simp [PyData.depthAll, PyData.depth]
    omega
def spIn (K : PySem.W.Frag) (C : Addr) : Sp := fun vs H Q _ => ∃ (p : Addr) (ins : List Str) (gs : List GateK) (os : List EdgeK) (v : V) (b : Bool), vs = [.ref p, v] ∧ NetAt K H C p ins gs os ∧ Ask K C H ins gs v b ∧ (∀ n ∈ ins, nameB (TL.tl n) = true) ∧ (∀ g ∈ gs, nameB (TL.tl g.1) = true) ∧ (gs.map (·.1)).Nodup ∧ ∀ H' : Hp, Same H H' → Q (.bl b) H'

abbrev sCn : Stmt := inClass (top 47) 15
abbrev nCn : List Str := ["self", "value"]
theorem scCn : FnScope nCn ["self", "value"] (defScope sCn) := ⟨rfl, rfl, rfl, by decide +kernel, rfl, by decide +kernel, by decide +kernel⟩

theorem ok_Cn (F : Fun K "__contains__" "Net.__contains__" sCn f fd) {C : Addr} (T : TxtNt K C) (S : Sm K) (hno : PySem.W.subIn K (.ref C) (.type "str") = some false) (EQ : Ct P w K mg base 1 C "__eq__" [] spEqS) (HG : Ct P w K mg base 2 C "has_gate" [] (spHasG K C)) : FnG P w K mg base CX0 3 f fd ["self", "value"] (spIn K C) := by
  refine FunG.ok F scCn (fun vs H Q E h => ?_) (fun cdv B out s H vs Q E hr hG h => ?_)
  · obtain ⟨p, ins, gs, os, v, b, rfl, _⟩ := h
    rfl
  · obtain ⟨p, ins, gs, os, v, b, rfl, hN, hA, hin, hn, nd, q⟩ := h
    refine ⟨_, (pss_one (ps_ret (pe_or (pe_ct (pv 0) HG hr hG (by decide) (pa_cons (pv 1) pa_nil)) (pe_one (pe_cmpR (op_or op_in_seq (op_or (op_inLD S rfl (hu65 hr)) (op_inOS EQ hno (hr.mono (by decide)) hG))) (pv 1) (pe_fld (pv 0) rfl) rfl))))), ?_⟩
    obtain ⟨⟨k, hk, hks⟩, hA⟩ := hA
    obtain ⟨dx0, fs0, h00, a70⟩ := hN.there
    refine ⟨_, rfl, p, dx0, fs0, rfl, h00, a70 _ (by decide), _, rfl, p, ins, gs, os, v, k, rfl, hN, hk, hks, hn, nd, fun H1 s1 => ⟨_, rfl, ?_⟩⟩
    obtain ⟨dx, lt, li, ln, ds, de, lo, fs, ut, uo, kvs, h0, a1, a2, a3, a4, a5, a6, a7, b1, b2, b3, b4, b5, b6, b7, b8⟩ := (hN.up s1).ex
    have q' := q H1 s1
    rcases hA with ⟨hf, hb⟩ | ⟨hh, d, hd, hb⟩ | ⟨hh, hb, a, dy, gfs, rfl, ha⟩
    · cases hh : hasV gs v with
      | true =>
        rw [hh, Bool.true_or] at hb
        rw [hb] at q'
        exact iteT q'
      | false =>
        rw [hh, Bool.false_or] at hb
        rw [hb] at q'
        refine iteF ⟨_, rfl, _, rfl, p, C, dx, fs, _, rfl, h0, T.cl, T.no _ (by simp), a2, .inl ⟨li, _, rfl, .inl (SqL.of b2), hf, ?_, q'⟩⟩
        rw [List.all_map, List.all_eq_true]
        exact fun _ _ => rfl
    · rw [hh]
      rw [hb] at q'
      refine iteF ⟨_, rfl, _, rfl, p, C, dx, fs, _, rfl, h0, T.cl, T.no _ (by simp), a2, .inr (.inl ⟨d, ins.map PyData.str, hd.mono s1, .lst (SqL.of b2) (dpAll_str ins), left_strs ins, can_of (d := d) (shaped_str hin), dep_strs ins, q'⟩)⟩
    · rw [hh]
      refine iteF ⟨_, rfl, _, rfl, p, C, dx, fs, _, rfl, h0, T.cl, T.no _ (by simp), a2, .inr (.inr ⟨a, dy, gfs, li, ins, rfl, rfl, s1 _ _ ha, SqL.of b2, fun n _ H2 s2 => ⟨a, n, rfl, rfl, s2⟩, fun H2 s2 => ?_⟩)⟩
      rw [← hb]
      exact q H2 (Same.tr s1 s2)
end
end T10
set_option Elab.async false
set_option linter.all false
set_option maxRecDepth 100000
set_option maxHeartbeats 4000000
namespace T10
open PySem PySem.Spec PyProof.Rows L2 Tp
section
variable {P : Program} {w : World} {K : PySem.W.Frag} {mg : Str → Option Value} {base : Heap} {f : Addr} {fd : FuncData}


/-- the edges to a gate or an out -/
def edgesTo (gs : List GateK) (os : List EdgeK) : V → List EdgeK
  | .str z => ((gs.find? fun g => decide (g.1 = z)).map fun g => g.2.2).getD []
  | .int i => if 0 ≤ i ∧ i < (os.length : Int) then [os.getD i.toNat ("", [])] else []
  | _ => []
/-- a kept list of edges -/
def KList (K : PySem.W.Frag) (H : Hp) (v : V) (es : List EdgeK) : Prop := ∃ l us, v = .ref l ∧ SqL K H l us ∧ KEs K H us es
def spTo (K : PySem.W.Frag) (C : Addr) : Sp := fun vs H Q _ => ∃ (p : Addr) (ins : List Str) (gs : List GateK) (os : List EdgeK) (v : V) (k : String), vs = [.ref p, v] ∧ NetAt K H C p ins gs os ∧ Vk K H v k ∧ (∀ z, v = .str z → k = "str") ∧ (∀ i, v = .int i → k = "int") ∧ (∀ g ∈ gs, nameB (TL.tl g.1) = true) ∧ (gs.map (·.1)).Nodup ∧ os.length ≤ 1000 ∧
  ∀ (H' : Hp) (r : V), Same H H' → KList K H' r (edgesTo gs os v) → Q r H'
theorem find_gate : ∀ {gs : List GateK} {g : GateK}, (gs.map (·.1)).Nodup → g ∈ gs → (gs.find? fun h => decide (h.1 = g.1)) = some g
  | [], _, _, h => (nomatch h)
  | h :: gs, g, nd, hg => by
    rw [List.map_cons, List.nodup_cons] at nd
    rw [List.find?_cons]
    rcases List.mem_cons.mp hg with rfl | hg
    · simp
    · have : h.1 ≠ g.1 := fun e => nd.1 (e ▸ List.mem_map_of_mem hg)
      rw [decide_eq_false this]
      exact find_gate nd.2 hg
theorem find_no {gs : List GateK} {z : Str} (h : z ∉ gs.map (·.1)) : (gs.find? fun h => decide (h.1 = z)) = none := by
  rw [List.find?_eq_none]
  intro g hg e
  exact h (of_decide_eq_true e ▸ List.mem_map_of_mem hg)

abbrev sTo : Stmt := inClass (top 47) 12
abbrev nTo : List Str := ["self", "reader"]
theorem scTo : FnScope nTo ["self", "reader"] (defScope sTo) := ⟨rfl, rfl, rfl, by decide +kernel, rfl, by decide +kernel, by decide +kernel⟩

theorem ok_To (F : Fun K "_edges_to" "Net._edges_to" sTo f fd) {C : Addr} (T : TxtNt K C) (TN : TxtN mg) (I : Cg P w K mg base 2 "is_integer" (spInteger K)) (HG : Ct P w K mg base 2 C "has_gate" [] (spHasG K C)) : FnG P w K mg base CX0 3 f fd ["self", "reader"] (spTo K C) := by
  refine FunG.ok F scTo (fun vs H Q E h => ?_) (fun cdv B out s H vs Q E hr hG h => ?_)
  · obtain ⟨p, ins, gs, os, v, k, rfl, _⟩ := h
    rfl
  · obtain ⟨p, ins, gs, os, v, k, rfl, hN, hv, hvs, hvi, hn, nd, hol, q⟩ := h
    refine ⟨_, (pss_cons (ps_if (pt_val (pe_ct (pv 0) HG hr hG (by decide) (pa_cons (pv 1) pa_nil))) (pss_one (ps_ret (pe_dget (hu1 hr) (pe_fld (pv 0) rfl) (pv 1) (fun _ _ => rfl)))) pss_nil)
      (pss_cons (ps_if (pt_val (pe_g I hr hG (by decide) (by rfl) (pa_cons (pv 1) (pa_cons pe_int (pa_cons (pe_op op_sub (pe_callB call_len (by rfl) TN.len PySem.boot_len (pa_cons (pe_fld (pv 0) rfl) pa_nil)) pe_int) pa_nil))))) (pss_one (ps_ret (pe_lst (pa_cons (pe_ix ix_list (pe_fld (pv 0) rfl) (pv 1) fun _ _ => rfl) pa_nil)))) pss_nil)
      (pss_one (ps_ret (pe_lst pa_nil))))), ?_⟩
    obtain ⟨dx0, fs0, h00, a70⟩ := hN.there
    refine ⟨_, rfl, p, dx0, fs0, rfl, h00, a70 _ (by decide), _, rfl, p, ins, gs, os, v, k, rfl, hN, hv, hvs, hn, nd, fun H1 s1 => ⟨_, rfl, ?_⟩⟩
    obtain ⟨dx, lt, li, ln, ds, de, lo, fs, ut, uo, kvs, h0, a1, a2, a3, a4, a5, a6, a7, b1, b2, b3, b4, b5, b6, b7, b8⟩ := (hN.up s1).ex
    cases hh : hasV gs v with
    | true =>
      refine iteT ?_
      cases v with
      | str z =>
        obtain ⟨g, hg, rfl⟩ := List.mem_map.mp (of_decide_eq_true hh : z ∈ gs.map (·.1))
        obtain ⟨a, us, e1, e2, e3⟩ := (b6.val g.1).2 g hg rfl nd
        refine ⟨_, rfl, p, C, dx, fs, _, rfl, h0, T.cl, T.no _ (by simp), a5, _, rfl, de, .ref a, rfl, (by rw [← e1]; exact DGet.k b5 (k := Sum.inr g.1)), ?_⟩
        refine q H1 (.ref a) s1 ⟨a, us, rfl, SqL.of e2, ?_⟩
        show KEs K H1 us (((gs.find? fun h => decide (h.1 = g.1)).map fun g => g.2.2).getD [])
        rw [find_gate nd hg]
        exact e3
      | _ => cases hh
    | false =>
      refine iteF ?_
      have out : ∀ H2 : Hp, Same H1 H2 → (edgesTo gs os v = []) → ∀ l, H2 l = none → Q (.ref l) (upd H2 l (.lst [])) := fun H2 s2 e l hl => q _ _ (Same.tr s1 (Same.tr s2 (Same.put hl))) (by rw [e]; exact ⟨l, [], rfl, SqL.of upd_same, .nil⟩)
      refine ⟨_, rfl, _, rfl, p, C, dx, fs, _, rfl, h0, T.cl, T.no _ (by simp), a6, _, _, rfl, .inl ⟨_, SqL.of b7, rfl⟩, _, _, rfl, rfl, v, 0, (uo.length : Nat) - 1, k, rfl, hv.mono s1, fun e => ?_, fun i e => ?_⟩
      · refine ⟨_, rfl, iteF ?_⟩
        refine ⟨(by show 0 ≤ sizeLine; decide), fun l hl => out H1 (Same.refl _) ?_ l hl⟩
        cases v with
        | str z =>
          have : z ∉ gs.map (·.1) := of_decide_eq_false hh
          show ((gs.find? fun h => decide (h.1 = z)).map fun g => g.2.2).getD [] = []
          rw [find_no this]
          rfl
        | int i => exact absurd (hvi i rfl) e
        | _ => rfl
      · subst e
        have hul := b8.length
        refine ⟨_, rfl, ?_⟩
        refine ite2 (fun hd => ?_) (fun hd => ?_)
        · have hd' := of_decide_eq_true hd
          obtain ⟨e, he⟩ : ∃ e, os[i.toNat]? = some e := ⟨_, List.getElem?_eq_getElem (by omega)⟩
          obtain ⟨u, hu, hue⟩ := Pd.att b8 he
          refine ⟨_, rfl, p, C, dx, fs, _, rfl, h0, T.cl, T.no _ (by simp), a6, _, rfl, lo, _, _, u, rfl, rfl, SqL.of b7, (by rw [show i = ((i.toNat : Nat) : Int) by omega]; exact atI_nat hu), (by show 1 ≤ sizeLine; decide), fun l hl => ?_⟩
          refine q _ _ (Same.tr s1 (Same.put hl)) ⟨l, [u], rfl, SqL.of upd_same, ?_⟩
          have e3 : edgesTo gs os (.int i) = [e] := by
            show (if 0 ≤ i ∧ i < (os.length : Int) then [os.getD i.toNat ("", [])] else []) = [e]
            rw [if_pos (by omega), List.getD_eq_getElem?_getD, he]
            rfl
          rw [e3]
          exact .cons (hue.mono fun _ _ => upT (Same.put hl)) .nil
        · refine ⟨(by show 0 ≤ sizeLine; decide), fun l hl => out H1 (Same.refl _) ?_ l hl⟩
          have hd' : ¬ (0 ≤ i ∧ i ≤ ((uo.length : Nat) : Int) - 1) := fun z => hd (decide_eq_true z)
          show (if 0 ≤ i ∧ i < (os.length : Int) then [os.getD i.toNat ("", [])] else []) = []
          rw [if_neg (by omega)]
end
end T10
set_option Elab.async false
set_option linter.all false
set_option maxRecDepth 100000
set_option maxHeartbeats 4000000
namespace T10
open PySem PySem.Spec PyProof.Rows L2 Tp
section
variable {P : Program} {w : World} {K : PySem.W.Frag} {mg : Str → Option Value} {base : Heap} {f : Addr} {fd : FuncData}


def slotV (n : Nat) : V → Bool
  | .int i => decide (0 ≤ i ∧ i < (n : Int))
  | _ => false
/-- what an UnknownEdge holds -/
def Rsd2 (E : XK) (H : Hp) (C : Addr) (x y : V) : Prop := ∀ (H' : Hp) (dd : Addr) (fs : List (Str × V)), Same H H' → H' dd = some (exd dd fs) → fs.lookup ("reader" : Str) = some x → fs.lookup ("slot" : Str) = some y → E (.ref C) (some dd) H'
structure EArg (K : PySem.W.Frag) (H : Hp) (C p : Addr) (ins : List Str) (gs : List GateK) (os : List EdgeK) (v s : V) (k k2 : String) : Prop where
  net : NetAt K H C p ins gs os
  vk : Vk K H v k
  vs : ∀ z, v = .str z → k = "str"
  vi : ∀ i, v = .int i → k = "int"
  sk : Vk K H s k2
  si : ∀ i, s = .int i → k2 = "int"
  nm : ∀ g ∈ gs, nameB (TL.tl g.1) = true
  nd : (gs.map (·.1)).Nodup
  ol : os.length ≤ 1000
def spEdgeG (K : PySem.W.Frag) (C CE : Addr) : Sp := fun vs H Q E => ∃ (p : Addr) (ins : List Str) (gs : List GateK) (os : List EdgeK) (v s : V) (k k2 : String), vs = [.ref p, v, s] ∧ EArg K H C p ins gs os v s k k2 ∧
  (slotV (edgesTo gs os v).length s = true → ∀ i e, s = .int i → (edgesTo gs os v)[i.toNat]? = some e → ∀ (H' : Hp) (r : V), Same H H' → KEdge K H' r e → Q r H') ∧ (slotV (edgesTo gs os v).length s = false → Rsd2 E H CE v s)
theorem Rsd2.up {E : XK} {H H1 : Hp} {C : Addr} {x y : V} (s : Same H H1) (h : Rsd2 E H C x y) : Rsd2 E H1 C x y := fun H' dd fs s2 => h H' dd fs (Same.tr s s2)

abbrev sEg : Stmt := inClass (top 47) 11
abbrev nEg : List Str := ["self", "reader", "slot", "edges"]
theorem scEg : FnScope nEg ["self", "reader", "slot"] (defScope sEg) := ⟨rfl, rfl, rfl, by decide +kernel, rfl, by decide +kernel, by decide +kernel⟩

theorem ok_Eg (F : Fun K "_edge" "Net._edge" sEg f fd) {C CE : Addr} (T : TxtNt K C) (TN : TxtN mg) (I : Cg P w K mg base 2 "is_integer" (spInteger K)) (TO : Ct P w K mg base 3 C "_edges_to" [] (spTo K C)) (XE : Cx1 P w K mg base "UnknownEdge" CE 2 [] (spI CE ["reader", "slot"]) (fun vs _ => vs)) : FnG P w K mg base (L2.CX P w) 4 f fd ["self", "reader", "slot"] (spEdgeG K C CE) := by
  refine FunG.okX F scEg (fun vs H Q E h => ?_) (fun cdv B out s H vs Q E hr hG h => ?_)
  · obtain ⟨p, ins, gs, os, v, s, k, k2, rfl, _⟩ := h
    rfl
  · obtain ⟨p, ins, gs, os, v, s, k, k2, rfl, hE, q1, q0⟩ := h
    refine ⟨_, (pss_cons (ps_set (i := 3) scEg.nd rfl (.inl rfl) (pe_ct (pv 0) TO hr hG (by decide) (pa_cons (pv 1) pa_nil)))
      (pss_cons (ps_if (pt_not (pt_val (pe_g I hr hG (by decide) (by rfl) (pa_cons (pv 2) (pa_cons pe_int (pa_cons (pe_op op_sub (pe_callB call_len (by rfl) TN.len PySem.boot_len (pa_cons (pv 3) pa_nil)) pe_int) pa_nil)))))) (pss_one (ps_raise rfl (takes_of rfl rfl rfl rfl) (pmk_x rfl (pe_mke (ns := ["reader", "slot"]) XE (hr.mono (by decide)) (by rfl) (pa_cons (pv 1) (pa_cons (pv 2) pa_nil)))))) pss_nil)
      (pss_one (ps_ret (pe_ix ix_list (pv 3) (pv 2) fun _ _ => rfl))))), ?_⟩
    have hTB : ExK K CE := XE.ex.choose_spec.choose_spec.choose_spec.choose_spec.1
    obtain ⟨dx0, fs0, h00, a70⟩ := hE.net.there
    refine ⟨_, rfl, p, dx0, fs0, rfl, h00, a70 _ (by decide), _, rfl, p, ins, gs, os, v, k, rfl, hE.net, hE.vk, hE.vs, hE.vi, hE.nm, hE.nd, hE.ol, fun H1 r s1 hr' => ?_⟩
    obtain ⟨l, us, rfl, hl, hK⟩ := hr'
    have hul := hK.length
    refine ⟨_, rfl, _, rfl, _, _, rfl, .inl ⟨_, hl, rfl⟩, _, _, rfl, rfl, s, 0, (us.length : Nat) - 1, k2, rfl, hE.sk.mono s1, fun e => ?_, fun i e => ?_⟩
    · have hs : slotV (edgesTo gs os v).length s = false := by
        cases s with
        | int i => exact absurd (hE.si i rfl) e
        | _ => rfl
      refine ⟨_, rfl, iteT ⟨_, rfl, _, rfl, raise_e hTB s1 rfl (by decide) fun H' dd fs s he hf => (q0 hs).up s1 H' dd fs s he (hf 0 "reader" _ rfl rfl) (hf 1 "slot" _ rfl rfl)⟩⟩
    · subst e
      refine ⟨_, rfl, ?_⟩
      cases hd : decide (0 ≤ i ∧ i ≤ ((us.length : Nat) : Int) - 1) with
      | true =>
        refine iteF ?_
        have hd' := of_decide_eq_true hd
        have hs : slotV (edgesTo gs os v).length (.int i) = true := decide_eq_true (by omega)
        obtain ⟨e, he⟩ : ∃ e, (edgesTo gs os v)[i.toNat]? = some e := ⟨_, List.getElem?_eq_getElem (by omega)⟩
        obtain ⟨u, hu, hue⟩ := Pd.att hK he
        exact ⟨_, rfl, _, rfl, l, _, _, u, rfl, rfl, hl, (by rw [show i = ((i.toNat : Nat) : Int) by omega]; exact atI_nat hu), q1 hs i e rfl he H1 u s1 hue⟩
      | false =>
        have hd' := of_decide_eq_false hd
        have hs : slotV (edgesTo gs os v).length (.int i) = false := decide_eq_false (by omega)
        refine iteT ⟨_, rfl, _, rfl, raise_e hTB s1 rfl (by decide) fun H' dd fs s he hf => (q0 hs).up s1 H' dd fs s he (hf 0 "reader" _ rfl rfl) (hf 1 "slot" _ rfl rfl)⟩

def spDel (K : PySem.W.Frag) (C CE : Addr) (f : EdgeK → V) : Sp := fun vs H Q E => ∃ (p : Addr) (ins : List Str) (gs : List GateK) (os : List EdgeK) (v s : V) (k k2 : String), vs = [.ref p, v, s] ∧ EArg K H C p ins gs os v s k k2 ∧
  (slotV (edgesTo gs os v).length s = true → ∀ i e, s = .int i → (edgesTo gs os v)[i.toNat]? = some e → ∀ H' : Hp, Same H H' → Q (f e) H') ∧ (slotV (edgesTo gs os v).length s = false → Rsd2 E H CE v s)

abbrev sDl : Stmt := inClass (top 47) 9
abbrev nDl : List Str := ["self", "reader", "slot"]
theorem scDl : FnScope nDl ["self", "reader", "slot"] (defScope sDl) := ⟨rfl, rfl, rfl, by decide +kernel, rfl, by decide +kernel, by decide +kernel⟩

theorem ok_Dl (F : Fun K "delays" "Net.delays" sDl f fd) {C CE : Addr} (TN : TxtN mg) (ED : Ctr P w K mg base 4 C "_edge" [] (spEdgeG K C CE)) : FnG P w K mg base (L2.CX P w) 5 f fd ["self", "reader", "slot"] (spDel K C CE fun e => .int (e.2.length : Nat)) := by
  refine FunG.okX F scDl (fun vs H Q E h => ?_) (fun cdv B out s H vs Q E hr hG h => ?_)
  · obtain ⟨p, ins, gs, os, v, s, k, k2, rfl, _⟩ := h
    rfl
  · obtain ⟨p, ins, gs, os, v, s, k, k2, rfl, hE, q1, q0⟩ := h
    refine ⟨_, (pss_one (ps_ret (pe_callB call_len (by rfl) TN.len PySem.boot_len (pa_cons (pe_ix ix_tup (pe_ctr (pv 0) ED hr hG (by decide) (takes_of rfl rfl rfl rfl) (pa_cons (pv 1) (pa_cons (pv 2) pa_nil))) pe_int fun _ _ => rfl) pa_nil)))), ?_⟩
    obtain ⟨dx0, fs0, h00, a70⟩ := hE.net.there
    refine ⟨_, rfl, p, dx0, fs0, rfl, h00, a70 _ (by decide), _, rfl, _, rfl, ?_⟩
    refine ⟨p, ins, gs, os, v, s, k, k2, rfl, hE, fun hs i e hi he H1 r s1 hr' => ?_, q0⟩
    obtain ⟨a, b, rfl, ha, hb⟩ := hr'
    have := q1 hs i e hi he H1 s1
    refine ⟨a, _, _, _, rfl, rfl, ha, atI_nat (j := 1) rfl, _, _, rfl, .inr ⟨_, hb, rfl⟩, ?_⟩
    rw [List.length_map]
    exact this
abbrev sSr : Stmt := inClass (top 47) 10
abbrev nSr : List Str := ["self", "reader", "slot"]
theorem scSr : FnScope nSr ["self", "reader", "slot"] (defScope sSr) := ⟨rfl, rfl, rfl, by decide +kernel, rfl, by decide +kernel, by decide +kernel⟩

theorem ok_Sr (F : Fun K "source" "Net.source" sSr f fd) {C CE : Addr} (ED : Ctr P w K mg base 4 C "_edge" [] (spEdgeG K C CE)) : FnG P w K mg base (L2.CX P w) 5 f fd ["self", "reader", "slot"] (spDel K C CE fun e => .str e.1) := by
  refine FunG.okX F scSr (fun vs H Q E h => ?_) (fun cdv B out s H vs Q E hr hG h => ?_)
  · obtain ⟨p, ins, gs, os, v, s, k, k2, rfl, _⟩ := h
    rfl
  · obtain ⟨p, ins, gs, os, v, s, k, k2, rfl, hE, q1, q0⟩ := h
    refine ⟨_, (pss_one (ps_ret (pe_ix ix_tup (pe_ctr (pv 0) ED hr hG (by decide) (takes_of rfl rfl rfl rfl) (pa_cons (pv 1) (pa_cons (pv 2) pa_nil))) pe_int fun _ _ => rfl))), ?_⟩
    obtain ⟨dx0, fs0, h00, a70⟩ := hE.net.there
    refine ⟨_, rfl, p, dx0, fs0, rfl, h00, a70 _ (by decide), _, rfl, _, rfl, ?_⟩
    refine ⟨p, ins, gs, os, v, s, k, k2, rfl, hE, fun hs i e hi he H1 r s1 hr' => ?_, q0⟩
    obtain ⟨a, b, rfl, ha, hb⟩ := hr'
    exact ⟨a, _, _, _, rfl, rfl, ha, atI_nat (j := 0) rfl, q1 hs i e hi he H1 s1⟩
end
end T10
set_option Elab.async false
set_option linter.all false
set_option maxRecDepth 100000
set_option maxHeartbeats 4000000
namespace T10
open PySem PySem.Spec PyProof.Rows L2 Tp
section
variable {P : Program} {w : World} {K : PySem.W.Frag} {mg : Str → Option Value} {base : Heap} {f : Addr} {fd : FuncData}


/-- who reads a name, among some edges -/
def rdE (n : Str) (f : Nat → V × Int) (es : List EdgeK) : List (V × Int) := (es.zipIdx.filter fun e => decide (e.1.1 = n)).map fun e => f e.2
theorem rdE_snoc (n : Str) (f : Nat → V × Int) (es : List EdgeK) (e : EdgeK) : rdE n f (es ++ [e]) = rdE n f es ++ (if e.1 = n then [f es.length] else []) := by
  unfold rdE
  rw [List.zipIdx_append, List.filter_append, List.map_append]
  congr 1
  rw [Nat.zero_add]
  show ((List.filter _ [(e, es.length)]).map _) = _
  by_cases h : e.1 = n
  · rw [if_pos h]
    simp [h]
  · rw [if_neg h]
    simp [h]
def readersE (n : Str) (gs : List GateK) (os : List EdgeK) : List (V × Int) := (gs.flatMap fun g => rdE n (fun j => (V.str g.1, (j : Int))) g.2.2) ++ rdE n (fun j => (V.int (j : Nat), 0)) os
def PairAt (K : PySem.W.Frag) (H : Hp) (u : V) (x : V × Int) : Prop := ∃ t, u = .ref t ∧ SqT K H t [x.1, .int x.2]
def PairsAt (K : PySem.W.Frag) (H : Hp) (us : List V) (xs : List (V × Int)) : Prop := Paired (PairAt K H) us xs
theorem PairsAt.mono {K : PySem.W.Frag} {H H' : Hp} {us : List V} {xs : List (V × Int)} (ht : ∀ b ys, SqT K H b ys → SqT K H' b ys) (h : PairsAt K H us xs) : PairsAt K H' us xs := by
  refine Paired.mono (fun a b q => ?_) h
  obtain ⟨t, e, q⟩ := q
  exact ⟨t, e, ht _ _ q⟩
def spRd (K : PySem.W.Frag) (C CS : Addr) : Sp := fun vs H Q E => ∃ (p : Addr) (ins : List Str) (gs : List GateK) (os : List EdgeK) (v : V) (b : Bool), vs = [.ref p, v] ∧ NetAt K H C p ins gs os ∧ Ask K C H ins gs v b ∧ (∀ n ∈ ins, nameB (TL.tl n) = true) ∧ (∀ g ∈ gs, nameB (TL.tl g.1) = true) ∧ (gs.map (·.1)).Nodup ∧ (joinedE gs os).length ≤ 100000 ∧
  (b = true → ∃ n, v = .str n ∧ ∀ (l : Addr) (us : List V) (H' : Hp), Same H H' → H l = none → H' l = some (.lst us) → PairsAt K H' us (readersE n gs os) → Q (.ref l) H') ∧ (b = false → Rsd E H CS "name" v)

abbrev sRd : Stmt := inClass (top 47) 8
abbrev nRd : List Str := ["self", "name", "found", "reader", "slot", "edge", "number"]
theorem scRd : FnScope nRd ["self", "name"] (defScope sRd) := ⟨rfl, rfl, rfl, by decide +kernel, rfl, by decide +kernel, by decide +kernel⟩

theorem ok_Rd (F : Fun K "readers" "Net.readers" sRd f fd) {C CS : Addr} (T : TxtNt K C) (TN : TxtN mg) (IN : Ct P w K mg base 3 C "__contains__" [] (spIn K C)) (XS : Cx1 P w K mg base "UnknownSource" CS 1 [] (spI CS ["name"]) (fun vs _ => vs)) : FnG P w K mg base (L2.CX P w) 5 f fd ["self", "name"] (spRd K C CS) := by
  refine FunG.okX F scRd (fun vs H Q E h => ?_) (fun cdv B out s H vs Q E hr hG h => ?_)
  · obtain ⟨p, ins, gs, os, v, b, rfl, _⟩ := h
    rfl
  · obtain ⟨p, ins, gs, os, v, b, rfl, hN, hA, hin, hn, nd, hj, q1, q0⟩ := h
    refine ⟨_, (pss_cons (ps_if (pt_cmpR (op_notInO IN (hr.mono (by decide)) hG) (pv 1) (pv 0) rfl) (pss_one (ps_raise rfl (takes_of rfl rfl rfl rfl) (pmk_x rfl (pe_mke (ns := ["name"]) XS (hr.mono (by decide)) (by rfl) (pa_cons (pv 1) pa_nil))))) pss_nil)
      (pss_cons (ps_set (i := 2) scRd.nd rfl (.inl rfl) (pe_lst pa_nil))
      (pss_cons (ps_for (passes_of rfl) rfl (pi_list (pe_fld (pv 0) rfl)) (pg_name (i := 3) scRd.nd rfl (Or.inl rfl)) (pss_one (ps_for (passes_of rfl) rfl (pi_enum (by rfl) TN.enumerate (pa_cons (pe_dget (hu1 hr) (pe_fld (pv 0) rfl) (pv 3) (fun _ _ => rfl)) pa_nil)) (pg_seq rfl (pgs_cons (pg_name (i := 4) scRd.nd rfl (Or.inl rfl)) (pgs_cons (pg_name (i := 5) scRd.nd rfl (Or.inl rfl)) pgs_nil))) (pss_one (ps_if (pt_cmpR op_eq (pe_ix ix_tup (pv 5) pe_int fun _ _ => rfl) (pv 1) (nomark _)) (pss_one (ps_expr (pe_bm PySem.F.plainAttrs_list PySem.F.slot_list_append PySem.F.type_list_append mt_append (pv 2) (pa_cons (pe_tup (pa_cons (pv 3) (pa_cons (pv 4) pa_nil))) pa_nil)))) pss_nil)))))
      (pss_cons (ps_for (passes_of rfl) rfl (pi_enum (by rfl) TN.enumerate (pa_cons (pe_fld (pv 0) rfl) pa_nil)) (pg_seq rfl (pgs_cons (pg_name (i := 6) scRd.nd rfl (Or.inl rfl)) (pgs_cons (pg_name (i := 5) scRd.nd rfl (Or.inl rfl)) pgs_nil))) (pss_one (ps_if (pt_cmpR op_eq (pe_ix ix_tup (pv 5) pe_int fun _ _ => rfl) (pv 1) (nomark _)) (pss_one (ps_expr (pe_bm PySem.F.plainAttrs_list PySem.F.slot_list_append PySem.F.type_list_append mt_append (pv 2) (pa_cons (pe_tup (pa_cons (pv 6) (pa_cons pe_int pa_nil))) pa_nil)))) pss_nil)))
      (pss_one (ps_ret (pv 2))))))), ?_⟩
    have hTB : ExK K CS := XS.ex.choose_spec.choose_spec.choose_spec.choose_spec.1
    obtain ⟨dx0, fs0, h00, a70⟩ := hN.there
    refine ⟨_, rfl, _, rfl, p, dx0, fs0, rfl, h00, p, ins, gs, os, v, b, rfl, hN, hA, hin, hn, nd, fun H1 s1 => ⟨b, rfl, _, rfl, ?_⟩⟩
    cases b with
    | false =>
      refine iteT ?_
      exact ⟨_, rfl, raise_e hTB s1 rfl (by decide) fun H' dd fs s he hf => (q0 rfl) H' dd fs (Same.tr s1 s) he (hf 0 "name" _ rfl rfl)⟩
    | true =>
      obtain ⟨n, rfl, q⟩ := q1 rfl
      refine iteF ?_
      refine ⟨(by show 0 ≤ sizeLine; decide), fun l hl => ?_⟩
      have s2 : Same H1 (upd H1 l (.lst [])) := Same.put hl
      have h2 : (upd H1 l (.lst [])) l = some (.lst ([] : List V)) := upd_same
      generalize upd H1 l (.lst []) = H2 at s2 h2 ⊢
      have s02 := Same.tr s1 s2
      have lH := Same.none s1 hl
      dsimp only [gName]
      obtain ⟨dx, lt, li, ln, ds, de, lo, fs, ut, uo, kvs, h0, a1, a2, a3, a4, a5, a6, a7, b1, b2, b3, b4, b5, b6, b7, b8⟩ := hN.ex
      have hjj : (joinedE gs os).length = (gs.flatMap fun g => g.2.2).length + os.length := by unfold joinedE; rw [List.length_append]
      have step : ∀ (G : Hp) (us : List V) (x : V) (i : Int) (t : Addr) (rows : List (V × Int)), Same H G → G l = some (.lst us) → PairsAt K G us rows → G t = none → Same H (upd (upd G t (.tup [x, .int i])) l (.lst (us ++ [.ref t]))) ∧ PairsAt K (upd (upd G t (.tup [x, .int i])) l (.lst (us ++ [.ref t]))) (us ++ [.ref t]) (rows ++ [(x, i)]) := fun G us x i t rows kG gl hP ht => by
        have st := Same.put (o := .tup [x, .int i]) ht
        have nt : NotTup (upd G t (.tup [x, .int i])) l := not_lst (st _ _ gl)
        refine ⟨Same.at0 lH (Same.tr kG st), Pd.app (PairsAt.mono (fun _ _ h => sqt_put nt (upT st h)) hP) (.cons ⟨t, rfl, sqt_put nt (SqT.of upd_same)⟩ .nil)⟩
      refine ⟨_, rfl, p, C, dx, fs, _, rfl, s02 _ _ h0, T.cl, T.no _ (by simp), a3, ln, rfl, ⟨_, SqL.of (s02 _ _ b3)⟩, ?_⟩
      refine for_it (walk_list (xs := (gs.map (·.1)).map V.str)) (fun i σ G => ∃ o3 o4 o5 us, σ = [some (.ref p), some (.str n), some (.ref l), o3, o4, o5, none] ∧ Same H G ∧ G l = some (.lst us) ∧ us.length ≤ ((gs.take i).flatMap fun g => g.2.2).length ∧ PairsAt K G us ((gs.take i).flatMap fun g => rdE n (fun j => (V.str g.1, (j : Int))) g.2.2)) ⟨_, _, _, [], rfl, s02, h2, Nat.zero_le _, .nil⟩ (fun i σ G _ ⟨_, _, _, _, _, kG, _⟩ => SqL.of (kG _ _ b3)) ?_ ?_
      · rintro i u σ G G' hi ⟨o3, o4, o5, us, rfl, kG, gl, ul, hP⟩ ⟨rfl, hu⟩
        rw [List.getElem?_map, List.getElem?_map] at hu
        obtain ⟨m, hm, rfl⟩ := Option.map_eq_some_iff.mp hu
        obtain ⟨g, hgi, rfl⟩ := Option.map_eq_some_iff.mp hm
        have hgm := List.mem_of_getElem? hgi
        obtain ⟨a, ue, e1, e2, e3⟩ := (b6.val g.1).2 g hgm rfl nd
        have hf1 := fm_take (f := fun g : GateK => g.2.2) hgi
        have hf2 := fm_take (f := fun g : GateK => rdE n (fun j => (V.str g.1, (j : Int))) g.2.2) hgi
        have hle := fm_le (f := fun g : GateK => g.2.2) gs (i + 1)
        rw [hf1, List.length_append] at hle
        generalize hrw : ((gs.take i).flatMap fun g => rdE n (fun j => (V.str g.1, (j : Int))) g.2.2) = rows at hP hf2
        generalize hL : ((gs.take i).flatMap fun g => g.2.2).length = L at ul hle
        refine ⟨_, rfl, p, C, dx, fs, _, rfl, kG _ _ h0, T.cl, T.no _ (by simp), a5, _, rfl, de, .ref a, rfl, (by rw [← e1]; exact DGet.k (kG _ _ b5) (k := Sum.inr g.1)), a, _, rfl, SqL.of (kG _ _ e2), ?_⟩
        refine for_it (walk_enum (xs := ue)) (fun j σ M => ∃ o4 o5 us, σ = [some (.ref p), some (.str n), some (.ref l), some (.str g.1), o4, o5, none] ∧ Same H M ∧ M l = some (.lst us) ∧ us.length ≤ L + j ∧ PairsAt K M us (rows ++ rdE n (fun j => (V.str g.1, (j : Int))) (g.2.2.take j))) ⟨_, _, us, rfl, kG, gl, ul, by rw [List.take_zero]; show PairsAt K G' us (rows ++ []); rw [List.append_nil]; exact hP⟩ (fun j σ M _ ⟨_, _, _, _, kM, _⟩ => SqL.of (kM _ _ e2)) ?_ ?_
        · rintro j u σ M M' hj' ⟨o4, o5, us, rfl, kM, ml, ul, hP⟩ ⟨T', x', y', rfl, hT, rfl, hx', hy'⟩
          cases hx'
          obtain ⟨e, hej, ta, tb, rfl, hta, htb⟩ := Pd.at e3 hy'
          have hjl : j < g.2.2.length := (List.getElem?_eq_some_iff.mp hej).1
          have hlen : (g.2.2.take j).length = j := by rw [List.length_take]; omega
          have hsn := rdE_snoc n (fun j => (V.str g.1, (j : Int))) (g.2.2.take j) e
          rw [hlen, ← tk_snoc hej] at hsn
          have kT := Same.put (o := .tup [V.int (j : Nat), V.ref ta]) hT
          have hT1 : SqA K (upd M T' (.tup [V.int (j : Nat), V.ref ta])) T' [V.int (j : Nat), V.ref ta] := .inr (SqT.of upd_same)
          have kM1 := Same.tr kM kT
          have ml1 := kT _ _ ml
          have hP1 := hP.mono fun _ _ => upT kT
          generalize upd M T' (.tup [V.int (j : Nat), V.ref ta]) = M1 at hT1 kM1 ml1 hP1 ⊢
          refine pair_asg hT1 (q := ?_)
          refine ⟨_, rfl, ta, _, _, _, rfl, rfl, upT kM1 hta, atI_nat (j := 0) rfl, _, rfl, rfl, _, rfl, ?_⟩
          by_cases hen : e.1 = n
          · rw [if_pos hen] at hsn
            rw [decide_eq_true (show V.str e.1 = V.str n by rw [hen])]
            refine iteT ⟨_, rfl, .inl ⟨rfl, _, SqL.of ml1⟩, _, rfl, _, rfl, (by show 2 ≤ sizeLine; decide), fun t ht => ?_⟩
            have gl2 := (upd_ne (o := .tup [V.str g.1, V.int (j : Nat)]) (ne_of_none ml1 ht)).trans ml1
            obtain ⟨r1, r2⟩ := step M1 us (V.str g.1) (j : Nat) t _ kM1 ml1 hP1 ht
            refine ⟨l, _, _, rfl, rfl, gl2, (by rw [PySem.sizeLine_eq]; omega), _, _, us ++ [V.ref t], rfl, r1, upd_same, (by rw [List.length_append, List.length_singleton]; omega), ?_⟩
            rw [hsn, ← List.append_assoc]
            exact r2
          · rw [if_neg hen, List.append_nil] at hsn
            rw [decide_eq_false (show ¬ V.str e.1 = V.str n from fun z => hen (V.str.inj z))]
            refine iteF ?_
            refine ⟨_, _, us, rfl, kM1, ml1, by omega, ?_⟩
            rw [hsn]
            exact hP1
        · rintro σ M ⟨o4, o5, us, rfl, kM, ml, ul, hP⟩
          have hel := e3.length
          rw [hel, List.take_length] at hP
          refine ⟨_, _, _, us, rfl, kM, ml, ?_, ?_⟩
          · rw [hf1, List.length_append, hL]
            omega
          · rw [hf2]
            exact hP
      · rintro σ G ⟨o3, o4, o5, us, rfl, kG, gl, ul, hP⟩
        rw [List.length_map, List.length_map, List.take_length] at ul hP
        generalize (gs.flatMap fun g => g.2.2).length = L at ul hjj
        refine ⟨_, rfl, p, C, dx, fs, _, rfl, kG _ _ h0, T.cl, T.no _ (by simp), a6, lo, _, rfl, SqL.of (kG _ _ b7), ?_⟩
        refine for_it (walk_enum (xs := uo)) (fun j σ M => ∃ o3 o4 o5 o6 us, σ = [some (.ref p), some (.str n), some (.ref l), o3, o4, o5, o6] ∧ Same H M ∧ M l = some (.lst us) ∧ us.length ≤ L + j ∧ PairsAt K M us ((gs.flatMap fun g => rdE n (fun j => (V.str g.1, (j : Int))) g.2.2) ++ rdE n (fun j => (V.int (j : Nat), 0)) (os.take j))) ⟨_, _, _, _, us, rfl, kG, gl, ul, by rw [List.take_zero]; show PairsAt K G us (_ ++ []); rw [List.append_nil]; exact hP⟩ (fun j σ M _ ⟨_, _, _, _, _, _, kM, _⟩ => SqL.of (kM _ _ b7)) ?_ ?_
        · rintro j u σ M M' hj' ⟨o3, o4, o5, o6, us, rfl, kM, ml, ul, hP⟩ ⟨T', x', y', rfl, hT, rfl, hx', hy'⟩
          cases hx'
          obtain ⟨e, hej, ta, tb, rfl, hta, htb⟩ := Pd.at b8 hy'
          have hjl : j < os.length := (List.getElem?_eq_some_iff.mp hej).1
          have hlen : (os.take j).length = j := by rw [List.length_take]; omega
          have hsn := rdE_snoc n (fun j => (V.int (j : Nat), 0)) (os.take j) e
          rw [hlen, ← tk_snoc hej] at hsn
          have kT := Same.put (o := .tup [V.int (j : Nat), V.ref ta]) hT
          have hT1 : SqA K (upd M T' (.tup [V.int (j : Nat), V.ref ta])) T' [V.int (j : Nat), V.ref ta] := .inr (SqT.of upd_same)
          have kM1 := Same.tr kM kT
          have ml1 := kT _ _ ml
          have hP1 := hP.mono fun _ _ => upT kT
          generalize upd M T' (.tup [V.int (j : Nat), V.ref ta]) = M1 at hT1 kM1 ml1 hP1 ⊢
          refine pair_asg hT1 (q := ?_)
          refine ⟨_, rfl, ta, _, _, _, rfl, rfl, upT kM1 hta, atI_nat (j := 0) rfl, _, rfl, rfl, _, rfl, ?_⟩
          by_cases hen : e.1 = n
          · rw [if_pos hen] at hsn
            rw [decide_eq_true (show V.str e.1 = V.str n by rw [hen])]
            refine iteT ⟨_, rfl, .inl ⟨rfl, _, SqL.of ml1⟩, _, rfl, (by show 2 ≤ sizeLine; decide), fun t ht => ?_⟩
            have gl2 := (upd_ne (o := .tup [V.int (j : Nat), V.int 0]) (ne_of_none ml1 ht)).trans ml1
            obtain ⟨r1, r2⟩ := step M1 us (V.int (j : Nat)) 0 t _ kM1 ml1 hP1 ht
            refine ⟨l, _, _, rfl, rfl, gl2, (by rw [PySem.sizeLine_eq]; omega), _, _, _, _, us ++ [V.ref t], rfl, r1, upd_same, (by rw [List.length_append, List.length_singleton]; omega), ?_⟩
            rw [hsn, ← List.append_assoc]
            exact r2
          · rw [if_neg hen, List.append_nil] at hsn
            rw [decide_eq_false (show ¬ V.str e.1 = V.str n from fun z => hen (V.str.inj z))]
            refine iteF ?_
            refine ⟨_, _, _, _, us, rfl, kM1, ml1, by omega, ?_⟩
            rw [hsn]
            exact hP1
        · rintro σ M ⟨o3, o4, o5, o6, us, rfl, kM, ml, ul, hP⟩
          have hel := b8.length
          rw [hel, List.take_length] at hP
          exact ⟨_, rfl, q l us M kM lH ml hP⟩
end
end T10
set_option Elab.async false
set_option linter.all false
set_option maxRecDepth 100000
set_option maxHeartbeats 4000000
/-! xs[::k], k = 1 or -1, of a list -/
namespace Tp
open PySem PySem.Spec PyProof.Rows L2
def stepV (xs : List V) (k : Int) : List V := if k = 1 then xs else xs.reverse
theorem pick_one (items : Array Value) : slicePick items none none (some 1) = slicePick items none none none := rfl
theorem pick_step (its : List Value) {k : Int} (hk : k = 1 ∨ k = -1) : slicePick its.toArray none none (some k) = (if k = 1 then its else its.reverse).toArray := by
  rcases hk with rfl | rfl
  · rw [if_pos rfl, pick_one, slicePick_cut]
    show ((its.drop 0).take (its.length - 0)).toArray = its.toArray
    rw [List.drop_zero, Nat.sub_zero, List.take_length]
  · rw [if_neg (by decide), PySem.W.krv_pick]
theorem vals_rev : ∀ {xs : List V} {us : List Value}, Vals xs us → Vals xs.reverse us.reverse
  | _, _, .nil => .nil
  | _, _, .cons r t => by
    rw [List.reverse_cons, List.reverse_cons]
    exact Vals.append (vals_rev t) (.cons r .nil)
def tSlP (K : PySem.W.Frag) (te tk : TE) : TE := fun σ H Q => te σ H fun x H1 => tPart tk σ H1 fun o H2 => ∃ a xs k, x = .ref a ∧ o = some k ∧ SqL K H2 a xs ∧ (k = 1 ∨ k = -1) ∧ ∀ p, H2 p = none → Q (.ref p) (upd H2 p (.lst (stepV xs k)))
theorem pe_slStep {X : Cx} {e ke : Expr} {te tk : TE} {pos p2 : Pos} (he : PE X e te) (hk : PE X ke tk) : PE X (.Subscript e (.Slice none none (some ke) p2) pos) (tSlP X.K te tk) := by
  refine ⟨fun pins s σ H Q I h => ?_⟩
  refine Subscript_ (thn (he.run pins s σ H _ I h) fun v s1 ⟨x, H1, I1, r1, q1⟩ => ?_)
  refine wpAny_Slice (thn ((po_none (X := X)).run pins s1 σ H1 (fun o H' => o = none ∧ H' = H1) I1 ⟨rfl, rfl⟩) fun vl s2 ⟨l, H2, I2, pl, q2⟩ => thn ((po_none (X := X)).run pins s2 σ H2 (fun o H' => o = none ∧ H' = H2) I2 ⟨rfl, rfl⟩) fun vu s3 ⟨u, H3, I3, pu, q3⟩ => ?_)
  obtain ⟨rfl, rfl⟩ := q2
  obtain ⟨rfl, rfl⟩ := q3
  refine thn ((po_some hk).run pins s3 σ _ (fun o H' => ∃ a xs k, x = .ref a ∧ o = some k ∧ SqL X.K H' a xs ∧ (k = 1 ∨ k = -1) ∧ ∀ p, H' p = none → Q (.ref p) (upd H' p (.lst (stepV xs k)))) I3 q1) fun vk s4 ⟨o, H4, I4, pk, q4⟩ => ?_
  · obtain ⟨a, xs, k, rfl, rfl, hx, hk1, q⟩ := q4
    cases r1
    have I5 : Inv X pins σ H4 { s4 with heap := s4.heap.push { cls := .type "slice", data := .fields #[vl, vu, vk] } } := I4.kept (t' := s4.toks) fun b ob q => Heap.get?_push_of_some _ q
    obtain ⟨its, r, ht, hz⟩ := I5.list hx
    have hlen := r.length
    have hg : wpAny (model X.prog X.w) X.A (getItem (.ref a) (.ref s4.heap.objs.size)) (EP X pins σ Q) X.xe { s4 with heap := s4.heap.push { cls := .type "slice", data := .fields #[vl, vu, vk] } } := by
      refine wpAny_getItem_list_slice ht.isList (Heap.IsSliceOf.new ..) pl pu pk (by rcases hk1 with rfl | rfl <;> decide) ?_ (by rw [List.size_toArray] <;> omega)
      rw [pick_step its hk1]
      refine ⟨.ref _, _, I5.laid (t' := s4.toks) (o := .lst (stepV xs k)) (fun b ob q => Heap.get?_push_of_some _ q) (Nat.le_refl _) ?_, rfl, q _ (I5.hok.fresh (Nat.le_refl _))⟩
      refine ⟨?_, _, 0, ?_, Heap.get?_push_size _ rfl⟩
      · unfold stepV
        split
        · exact hz
        · rw [List.length_reverse]
          exact hz
      · unfold stepV
        split
        · exact r
        · exact vals_rev r
    show wpAny (model X.prog X.w) X.A (subscriptTail e (.Slice none none (some ke) p2) (.ref a) (.ref s4.heap.objs.size)) (EP X pins σ Q) X.xe _
    exact tail_any (ops := [.ref a, .ref s4.heap.objs.size]) (ht.isList.typeIs) slot_list_getitem.lookup hg (by with_unfolding_all rfl)
end Tp
set_option Elab.async false
set_option linter.all false
set_option maxRecDepth 100000
set_option maxHeartbeats 4000000
namespace T10
open PySem PySem.Spec PyProof.Rows L2 Tp
section
variable {P : Program} {w : World} {K : PySem.W.Frag} {mg : Str → Option Value} {base : Heap} {f : Addr} {fd : FuncData}


structure TxtL (mg : Str → Option Value) : Prop where
  range : mg "range" = none
  len : mg "len" = none
  min : mg "min" = none
  str : mg "str" = none
  tuple : mg "tuple" = none
  enumerate : mg "enumerate" = none
  zip : mg "zip" = none
  int : mg "int" = none
/-- a text, times a number -/
def rMulS : V → V → Hp → VK → Prop := fun x y H Q => ∃ (z : Str) (k : Int), x = .str z ∧ y = .int k ∧ MulOk z k ∧ Q (.str (Txt.mul z k)) H
theorem op_mulT {X : Cx} : OpR X (binaryOp .Mult) rMulS := by
  intro pins s σ H x y v u Q I rx ry h
  obtain ⟨z, k, rfl, rfl, hok, q⟩ := h
  obtain ⟨t, rfl⟩ := rx
  obtain ⟨t', rfl⟩ := ry
  exact SB.mul hok fun t2 k2 => ⟨.str _, H, I.tok _, ⟨t2, rfl⟩, q⟩
def ltr (c : Nat) : Str := ⟨#[c]⟩
theorem tl_mul1 (c : Nat) (n : Int) : TL.tl (Txt.mul (ltr c) n) = List.replicate n.toNat c := mul_one_list c n
theorem mul_ok {c : Nat} {n : Int} (h0 : 0 ≤ n) (h1 : n ≤ 8) : MulOk (ltr c) n := by
  have hl : (ltr c).length = 1 := rfl
  unfold MulOk
  rw [hl]
  obtain ⟨m, rfl⟩ : ∃ m : Nat, n = (m : Int) := ⟨n.toNat, by omega⟩
  have hm : m < 9 := by omega
  have : ∀ m < 9, (decide (((m : Nat) : Int) < -(2 ^ 63 : Int)) || decide (((m : Nat) : Int) ≥ 2 ^ 63)) = false ∧ (¬ ((m : Nat) : Int) < 1 → (((m : Nat) : Int) == 1 || (1 : Nat) == 0) = false → ¬ (((1 : Nat) : Int) > (2 ^ 63 - 1) / ((m : Nat) : Int))) ∧ (¬ ((m : Nat) : Int) < 1 → (((m : Nat) : Int) == 1 || (1 : Nat) == 0) = false → Builtin.Str.tooLong (1 * ((m : Nat) : Int).toNat) = false) := by decide +kernel
  exact this m hm
def letA : Str := "abcdefghijklmnopqrstuvwxyz"
theorem letA_at : ∀ j < 26, (TL.tl letA)[j]? = some (97 + j) := by decide +kernel
theorem letA_len : letA.length ≤ sizeLine := by decide +kernel
/-- a letter of the line -/
theorem at_let {i : Int} (h0 : 0 ≤ i) (h1 : i < 26) : ∃ c : Nat, 97 ≤ c ∧ c ≤ 122 ∧ atI letA.cps.toList i = some c ∧ c = 97 + i.toNat := by
  have h := letA_at i.toNat (by omega)
  refine ⟨97 + i.toNat, by omega, by omega, ?_, rfl⟩
  rw [show i = ((i.toNat : Nat) : Int) by omega]
  exact atI_nat h
theorem name_w {c : Nat} {l : List Nat} {z : Str} (hz : TL.tl z = c :: l) (h1 : 97 ≤ c) (h2 : c ≤ 122) (hl : l.length ≤ 7) (ha : ∀ d ∈ l, (97 ≤ d ∧ d ≤ 122) ∨ (48 ≤ d ∧ d ≤ 57)) : nameB (TL.tl z) = true := by
  rw [hz]
  unfold nameB
  have e1 : lowB c = true := decide_eq_true ⟨h1, h2⟩
  have e2 : (l.all fun c => lowB c || digB c) = true := List.all_eq_true.mpr fun d hd => by
    rcases ha d hd with z | z
    · rw [show lowB d = true from decide_eq_true z, Bool.true_or]
    · rw [show digB d = true from decide_eq_true z, Bool.or_true]
  show (decide (1 ≤ (c :: l).length ∧ (c :: l).length ≤ 8) && (lowB c && ((lowB c || digB c) && l.all fun c => lowB c || digB c))) = true
  rw [decide_eq_true (by rw [List.length_cons]; omega), e1, e2]
  rfl
theorem tl_ltr (c : Nat) : TL.tl (ltr c) = [c] := rfl
theorem box_sm {H H' : Hp} {p : Addr} (h : ∀ b, b ≠ p → H' b = H b) : Same (ms (· = p) H) (ms (· = p) H') := ms_of fun b u hb e => (h b hb).trans e
/-- the place of a letter -/
def spPlace : Sp := fun vs H Q _ => ∃ c : Nat, vs = [.str (ltr c)] ∧ 97 ≤ c ∧ c ≤ 122 ∧ Q (.int ((c - 97 : Nat) : Int)) H
theorem occ_at : ∀ j < 26, Builtin.Str.occurrences letA (ltr (97 + j)) 0 letA.length 1 = [j] := by decide +kernel

abbrev sPc : Stmt := top 56
abbrev nPc : List Str := ["_law_letter"]
theorem scPc : FnScope nPc ["_law_letter"] (defScope sPc) := ⟨rfl, rfl, rfl, by decide +kernel, rfl, by decide +kernel, by decide +kernel⟩

theorem ok_Pc (F : Fun K "_law_place" "_law_place" sPc f fd) : FnG P w K mg base CX0 1 f fd ["_law_letter"] spPlace := by
  refine FunG.ok F scPc (fun vs H Q E h => ?_) (fun cdv B out s H vs Q E hr hG h => ?_)
  · obtain ⟨c, rfl, _⟩ := h
    rfl
  · obtain ⟨c, rfl, h1, h2, q⟩ := h
    refine ⟨_, (pss_one (ps_ret (pe_bm PySem.F.plainAttrs_str PySem.F.slot_str_index PySem.F.type_str_index mt_sindex pe_str (pa_cons (pv 0) pa_nil)))), ?_⟩
    refine ⟨rfl, _, rfl, letA, ltr c, c - 97, [], rfl, rfl, ?_, q⟩
    have := occ_at (c - 97) (by omega)
    rw [show 97 + (c - 97) = c by omega] at this
    exact this

/-- drawn symbols -/
def spSyms (K : PySem.W.Frag) : Sp := fun vs H Q _ => ∃ (p : Addr) (n : Nat), vs = [.ref p] ∧ BoxAt H p n ∧ n ≤ 100000 ∧ ∀ (l : Addr) (ss : List Str) (H' : Hp), Same (ms (· = p) H) (ms (· = p) H') → BoxAt H' p (n + 10) → H l = none → H' l = some (.lst (ss.map V.str)) → 1 ≤ ss.length → ss.length ≤ 3 → (∀ s ∈ ss, nameB (TL.tl s) = true) → Q (.ref l) H'
theorem cut_to {xs : List V} {k : Int} (h0 : 0 ≤ k) : cutV xs none (some k) = xs.take k.toNat := by
  unfold cutV
  rw [show k = ((k.toNat : Nat) : Int) by omega, HT.sIx_nat, HT.sIx_none, List.drop_zero, Nat.sub_zero, Int.toNat_natCast]
  by_cases h : k.toNat ≤ xs.length
  · rw [Nat.min_eq_left h]
  · rw [Nat.min_eq_right (by omega), List.take_length, List.take_of_length_le (by omega)]
theorem cut_from {xs : List V} {k : Int} (h0 : 0 ≤ k) : cutV xs (some k) none = xs.drop k.toNat := by
  unfold cutV
  rw [show k = ((k.toNat : Nat) : Int) by omega, HT.sIx_nat, HT.sIx_none, Int.toNat_natCast]
  by_cases h : k.toNat ≤ xs.length
  · rw [Nat.min_eq_left h, List.take_of_length_le (by rw [List.length_drop]; exact Nat.le_refl _)]
  · rw [Nat.min_eq_right (by omega), Nat.sub_self, List.take_zero, List.drop_eq_nil_of_le (by omega)]

abbrev sSy : Stmt := top 57
abbrev nSy : List Str := ["_law_bag_here", "_law_letters", "_law_one", "_law_other", "_law_some"]
theorem scSy : FnScope nSy ["_law_bag_here"] (defScope sSy) := ⟨rfl, rfl, rfl, by decide +kernel, rfl, by decide +kernel, by decide +kernel⟩

theorem ok_Sy (F : Fun K "_law_symbols" "_law_symbols" sSy f fd) (C : Cg P w K mg base 1 "_law_take" spTake) : FnG P w K mg base CX0 2 f fd ["_law_bag_here"] (spSyms K) := by
  refine FunG.ok F scSy (fun vs H Q E h => ?_) (fun cdv B out s H vs Q E hr hG h => ?_)
  · obtain ⟨p, n, rfl, _⟩ := h
    rfl
  · obtain ⟨p, n, rfl, hb, hn, q⟩ := h
    refine ⟨_, (pss_cons (ps_set (i := 1) scSy.nd rfl (.inl rfl) pe_str)
      (pss_cons (ps_par (i := 2) (j := 3) rfl scSy.nd rfl rfl (by decide) rfl rfl (pa_cons (pe_ix ix_str (pv 1) (pe_g C hr hG (by decide) (by rfl) (pa_cons (pv 0) (pa_cons pe_int pa_nil))) fun _ _ => rfl) (pa_cons (pe_ix ix_str (pv 1) (pe_g C hr hG (by decide) (by rfl) (pa_cons (pv 0) (pa_cons pe_int pa_nil))) fun _ _ => rfl) pa_nil)) (by rfl))
      (pss_cons (ps_set (i := 4) scSy.nd rfl (.inl rfl) (pe_lst (pa_cons (pv 2) (pa_cons (pe_op op_add_str (pv 2) (pv 3)) (pa_cons (pe_op op_add_str (pv 3) pe_str) pa_nil)))))
      (C8.pss_cut (ps_if (pt_cmpR op_eq (pe_g C hr hG (by decide) (by rfl) (pa_cons (pv 0) (pa_cons pe_int pa_nil))) pe_int (nomark _)) (pss_one (ps_set (i := 4) scSy.nd rfl (.inl rfl) (pe_lst (pa_cons (pe_op op_add_str (pe_op op_mulT (pv 2) pe_int) (pv 3)) (pa_cons (pe_op op_add_str (pe_op op_mulT (pv 2) pe_int) pe_str) (pa_cons (pe_op op_mulT (pv 2) pe_int) pa_nil)))))) pss_nil)
      (pss_one (ps_ret (pe_slice sl_list (pv 4) po_none (po_some (pe_op op_add pe_int (pe_g C hr hG (by decide) (by rfl) (pa_cons (pv 0) (pa_cons pe_int pa_nil)))))))))))), ?_⟩
    refine ⟨_, rfl, _, rfl, p, 26, n, rfl, hb, (by decide), (by decide), (by omega), fun d1 H1 d10 d11 hb1 hk1 => ?_⟩
    obtain ⟨c1, c1a, c1b, c1c, _⟩ := at_let d10 d11
    refine ⟨_, _, c1, rfl, rfl, letA_len, c1c, ?_⟩
    refine ⟨_, rfl, _, rfl, p, 26, n + 1, rfl, hb1, (by decide), (by decide), (by omega), fun d2 H2 d20 d21 hb2 hk2 => ?_⟩
    obtain ⟨c2, c2a, c2b, c2c, _⟩ := at_let d20 d21
    refine ⟨_, _, c2, rfl, rfl, letA_len, c2c, ?_⟩
    have m2 := Same.tr (box_sm hk1) (box_sm hk2)
    have z7 : TL.tl ("7" : Str) = [55] := by decide +kernel
    have l7 : ("7" : Str).length = 1 := by decide +kernel
    have e8 := PySem.sizeLine_eq
    have len1 : ∀ c, (ltr c).length = 1 := fun _ => rfl
    have lenm : ∀ c, (Txt.mul (ltr c) 7).length = 7 := fun c => by rw [TL.len_tl, tl_mul1, List.length_replicate]; rfl
    have rep7 : ∀ c : Nat, List.replicate (7 : Int).toNat c = c :: List.replicate 6 c := fun _ => rfl
    refine ⟨_, _, rfl, _, rfl, _, rfl, _, rfl, _, _, rfl, rfl, (by show 1 + 1 ≤ sizeLine; decide), _, rfl, _, _, rfl, rfl, (by show 1 + ("7" : Str).length ≤ sizeLine; rw [l7]; decide), (by show 3 ≤ sizeLine; decide), fun l hl => ?_⟩
    have kl := Same.put (o := .lst [V.str (ltr c1), V.str (ltr c1 ++ ltr c2), V.str (ltr c2 ++ ("7" : Str))]) hl
    have hpl : p ≠ l := fun e => by obtain ⟨a, b, c, h, _⟩ := hb2; rw [e, hl] at h; cases h
    have bx : ∀ {G : Hp} {o : HO} {m : Nat} {l : Addr}, p ≠ l → BoxAt G p m → BoxAt (upd G l o) p m := fun hp ⟨a, b, c, h, r⟩ => ⟨a, b, c, (upd_ne hp).trans h, r⟩
    have lH : H l = none := by
      have h1 := hk1 l hpl.symm
      have h2 := hk2 l hpl.symm
      rw [← h1, ← h2]
      exact hl
    dsimp only [gName]
    refine ⟨fun σ G => ∃ (l : Addr) (ss : List Str), σ = [some (.ref p), some (.str letA), some (.str (ltr c1)), some (.str (ltr c2)), some (.ref l)] ∧ Same (ms (· = p) H) (ms (· = p) G) ∧ BoxAt G p (n + 3) ∧ H l = none ∧ l ≠ p ∧ G l = some (.lst (ss.map V.str)) ∧ ss.length = 3 ∧ ∀ s ∈ ss, nameB (TL.tl s) = true, ?_, ?_⟩
    · refine ⟨_, rfl, p, 5, n + 2, rfl, bx hpl hb2, (by decide), (by decide), (by omega), fun d3 H3 d30 d31 hb3 hk3 => ⟨rfl, _, rfl, ?_⟩⟩
      have m3 := Same.tr m2 (Same.tr (ms_up kl) (box_sm hk3))
      refine ite2 (fun h => ?_) (fun h => ?_)
      · refine ⟨_, rfl, _, _, rfl, rfl, mul_ok (by decide) (by decide), _, rfl, _, _, rfl, rfl, (by show (Txt.mul (ltr c1) 7).length + 1 ≤ sizeLine; rw [lenm]; decide), _, rfl, _, _, rfl, rfl, mul_ok (by decide) (by decide), _, _, rfl, rfl, (by show (Txt.mul (ltr c1) 7).length + ("7" : Str).length ≤ sizeLine; rw [lenm, l7]; decide), _, rfl, _, _, rfl, rfl, mul_ok (by decide) (by decide), (by show 3 ≤ sizeLine; decide), fun l' hl' => ?_⟩
        have hpl' : p ≠ l' := fun e => by obtain ⟨a, b, c, h, _⟩ := hb3; rw [e, hl'] at h; cases h
        have k' := Same.put (o := .lst [V.str (Txt.mul (ltr c1) 7 ++ ltr c2), V.str (Txt.mul (ltr c1) 7 ++ ("7" : Str)), V.str (Txt.mul (ltr c1) 7)]) hl'
        refine ⟨l', [Txt.mul (ltr c1) 7 ++ ltr c2, Txt.mul (ltr c1) 7 ++ ("7" : Str), Txt.mul (ltr c1) 7], rfl, Same.tr m3 (ms_up k'), bx hpl' hb3, ?_, hpl'.symm, upd_same, rfl, fun s hs => ?_⟩
        · cases e : H l' with
          | none => rfl
          | some o =>
            have := (ms_some (m3 l' o (ms_at hpl'.symm e))).2
            rw [hl'] at this
            cases this
        · rcases List.mem_cons.mp hs with rfl | hs
          · refine name_w (l := List.replicate 6 c1 ++ [c2]) (by rw [TL.tl_append, tl_mul1, rep7, tl_ltr]; rfl) c1a c1b (by rw [List.length_append, List.length_replicate]; show 6 + 1 ≤ 7; decide) fun d hd => ?_
            rcases List.mem_append.mp hd with z | z
            · rw [List.eq_of_mem_replicate z]
              exact .inl ⟨c1a, c1b⟩
            · rw [List.mem_singleton.mp z]
              exact .inl ⟨c2a, c2b⟩
          rcases List.mem_cons.mp hs with rfl | hs
          · refine name_w (l := List.replicate 6 c1 ++ [55]) (by rw [TL.tl_append, tl_mul1, rep7, z7]; rfl) c1a c1b (by rw [List.length_append, List.length_replicate]; decide) fun d hd => ?_
            rcases List.mem_append.mp hd with z | z
            · rw [List.eq_of_mem_replicate z]
              exact .inl ⟨c1a, c1b⟩
            · rw [List.mem_singleton.mp z]
              exact .inr (by decide)
          rcases List.mem_cons.mp hs with rfl | hs
          · refine name_w (l := List.replicate 6 c1) (by rw [tl_mul1, rep7]) c1a c1b (by rw [List.length_replicate]; decide) fun d hd => ?_
            rw [List.eq_of_mem_replicate hd]
            exact .inl ⟨c1a, c1b⟩
          · cases hs
      · refine ⟨l, [ltr c1, ltr c1 ++ ltr c2, ltr c2 ++ ("7" : Str)], rfl, m3, hb3, lH, hpl.symm, (hk3 l hpl.symm).trans upd_same, rfl, fun s hs => ?_⟩
        rcases List.mem_cons.mp hs with rfl | hs
        · exact name_w (l := []) (tl_ltr c1) c1a c1b (by decide) fun d hd => (nomatch hd)
        rcases List.mem_cons.mp hs with rfl | hs
        · refine name_w (l := [c2]) (by rw [TL.tl_append, tl_ltr, tl_ltr]; rfl) c1a c1b (by show 1 ≤ 7; decide) fun d hd => ?_
          rw [List.mem_singleton.mp hd]
          exact .inl ⟨c2a, c2b⟩
        rcases List.mem_cons.mp hs with rfl | hs
        · refine name_w (l := [55]) (by rw [TL.tl_append, tl_ltr, z7]; rfl) c2a c2b (by decide) fun d hd => ?_
          rw [List.mem_singleton.mp hd]
          exact .inr (by decide)
        · cases hs
    · rintro σ G ⟨l, ss, rfl, mG, hbG, lH, nlp, gl, h3, hss⟩
      refine ⟨_, rfl, _, rfl, p, 3, n + 3, rfl, hbG, (by decide), (by decide), (by omega), fun d4 H4 d40 d41 hb4 hk4 => ⟨_, _, rfl, rfl, _, rfl, l, _, rfl, SqL.of ((hk4 l nlp).trans gl), fun l2 hl2 => ?_⟩⟩
      rw [cut_to (by omega)]
      have hpl2 : p ≠ l2 := fun e => by obtain ⟨a, b, c, h, _⟩ := hb4; rw [e, hl2] at h; cases h
      have m4 := Same.tr mG (box_sm hk4)
      refine q l2 (ss.take (1 + d4).toNat) _ (Same.tr m4 (ms_up (Same.put hl2))) ((bx hpl2 hb4).mono (by omega)) ?_ ?_ ?_ ?_ fun s hs => hss s (List.mem_of_mem_take hs)
      · cases e : H l2 with
        | none => rfl
        | some o =>
          have := (ms_some (m4 l2 o (ms_at hpl2.symm e))).2
          rw [hl2] at this
          cases this
      · rw [upd_same, List.map_take]
      · rw [List.length_take]
        omega
      · rw [List.length_take]
        omega
end
end T10
set_option Elab.async false
set_option linter.all false
set_option maxRecDepth 100000
set_option maxHeartbeats 4000000
namespace T10
open PySem PySem.Spec PyProof.Rows L2 Tp
section
variable {P : Program} {w : World} {K : PySem.W.Frag} {mg : Str → Option Value} {base : Heap} {f : Addr} {fd : FuncData}


def num (i : Nat) : Str := Str.ofString (toString ((i : Nat) : Int))
def nA (c d i : Nat) : Str := ltr c ++ Txt.mul (ltr d) (((i : Nat) : Int) % 3) ++ num i
def nB (c d i : Nat) : Str := ltr c ++ num i ++ Txt.mul (ltr d) (((i : Nat) : Int) % 5)
def nC (i : Nat) : Str := ("g" : Str) ++ num i
def nD (c i : Nat) : Str := Txt.mul (ltr (97 + ((((c - 97 : Nat) : Int) + ((i : Nat) : Int) / 8) % 26).toNat)) (1 + ((i : Nat) : Int) % 8)
theorem num_dig : ∀ i < 12, (TL.numL i).all (fun d => decide (48 ≤ d ∧ d ≤ 57)) = true ∧ (TL.numL i).length ≤ 2 := by decide +kernel
theorem num_inj : ∀ i < 12, ∀ j < 12, TL.numL i = TL.numL j → i = j := by decide +kernel
def dgs (z : Str) : List Nat := (TL.tl z).filter fun d => decide (d ≤ 57)
theorem dgs_num {i : Nat} (hi : i < 12) : (TL.numL i).filter (fun d => decide (d ≤ 57)) = TL.numL i := List.filter_eq_self.mpr fun d hd => by
  have := of_decide_eq_true (List.all_eq_true.mp (num_dig i hi).1 d hd)
  exact decide_eq_true this.2
theorem dgs_let {c n : Nat} (h : 97 ≤ c) : (List.replicate n c).filter (fun d => decide (d ≤ 57)) = [] := List.filter_eq_nil_iff.mpr fun d hd => by
  rw [List.eq_of_mem_replicate hd]
  simp
  omega
theorem dgs_one {c : Nat} (h : 97 ≤ c) : [c].filter (fun d => decide (d ≤ 57)) = [] := dgs_let (n := 1) h
/-- names that may be taken -/
structure GoodN (ns : List Str) (m : Nat) : Prop where
  len : ns.length = m
  nd : ns.Nodup
  nm : ∀ n ∈ ns, nameB (TL.tl n) = true
theorem good_of {f : Nat → Str} {m : Nat} (hm : m ≤ 12) (h1 : ∀ i < 12, nameB (TL.tl (f i)) = true) (h2 : ∀ i < 12, ∀ j < 12, f i = f j → i = j) : GoodN ((List.range m).map f) m := by
  refine ⟨by rw [List.length_map, List.length_range], ?_, fun n hn => ?_⟩
  · refine List.pairwise_map.mpr (List.Pairwise.imp_of_mem (fun {a b} ha hb hab e => ?_) List.nodup_range)
    exact hab (h2 a (by have := List.mem_range.mp ha; omega) b (by have := List.mem_range.mp hb; omega) e)
  · obtain ⟨i, hi, rfl⟩ := List.mem_map.mp hn
    exact h1 i (by have := List.mem_range.mp hi; omega)
theorem tl_n (i : Nat) : TL.tl (num i) = TL.numL i := TL.tl_num i
theorem dig_in {i d : Nat} (hi : i < 12) (hd : d ∈ TL.numL i) : 48 ≤ d ∧ d ≤ 57 := of_decide_eq_true (List.all_eq_true.mp (num_dig i hi).1 d hd)
theorem good_A {c d m : Nat} (hm : m ≤ 12) (c1 : 97 ≤ c) (c2 : c ≤ 122) (d1 : 97 ≤ d) (d2 : d ≤ 122) : GoodN ((List.range m).map (nA c d)) m := by
  have e : ∀ i, TL.tl (nA c d i) = c :: (List.replicate (((i : Nat) : Int) % 3).toNat d ++ TL.numL i) := fun i => by
    unfold nA
    rw [TL.tl_append, TL.tl_append, tl_mul1, tl_n, tl_ltr]
    rfl
  have e2 : ∀ i < 12, dgs (nA c d i) = TL.numL i := fun i hi => by
    unfold dgs
    rw [e i, List.filter_cons_of_neg (by simp; omega), List.filter_append, dgs_let d1, dgs_num hi]
    rfl
  refine good_of hm (fun i hi => ?_) fun i hi j hj h => ?_
  · have hl := (num_dig i hi).2
    refine name_w (e i) c1 c2 (by rw [List.length_append, List.length_replicate]; omega) fun x hx => ?_
    rcases List.mem_append.mp hx with z | z
    · rw [List.eq_of_mem_replicate z]
      exact .inl ⟨d1, d2⟩
    · exact .inr (dig_in hi z)
  · have h' := congrArg dgs h
    rw [e2 i hi, e2 j hj] at h'
    exact num_inj i hi j hj h'
theorem good_B {c d m : Nat} (hm : m ≤ 12) (c1 : 97 ≤ c) (c2 : c ≤ 122) (d1 : 97 ≤ d) (d2 : d ≤ 122) : GoodN ((List.range m).map (nB c d)) m := by
  have e : ∀ i, TL.tl (nB c d i) = c :: (TL.numL i ++ List.replicate (((i : Nat) : Int) % 5).toNat d) := fun i => by
    unfold nB
    rw [TL.tl_append, TL.tl_append, tl_mul1, tl_n, tl_ltr]
    rfl
  have e2 : ∀ i < 12, dgs (nB c d i) = TL.numL i := fun i hi => by
    unfold dgs
    rw [e i, List.filter_cons_of_neg (by simp; omega), List.filter_append, dgs_let d1, dgs_num hi, List.append_nil]
  refine good_of hm (fun i hi => ?_) fun i hi j hj h => ?_
  · have hl := (num_dig i hi).2
    refine name_w (e i) c1 c2 (by rw [List.length_append, List.length_replicate]; omega) fun x hx => ?_
    rcases List.mem_append.mp hx with z | z
    · exact .inr (dig_in hi z)
    · rw [List.eq_of_mem_replicate z]
      exact .inl ⟨d1, d2⟩
  · have h' := congrArg dgs h
    rw [e2 i hi, e2 j hj] at h'
    exact num_inj i hi j hj h'
theorem good_C {m : Nat} (hm : m ≤ 12) : GoodN ((List.range m).map nC) m := by
  have eg : TL.tl ("g" : Str) = [103] := by decide +kernel
  have e : ∀ i, TL.tl (nC i) = 103 :: TL.numL i := fun i => by
    unfold nC
    rw [TL.tl_append, tl_n, eg]
    rfl
  refine good_of hm (fun i hi => ?_) fun i hi j hj h => ?_
  · have hl := (num_dig i hi).2
    exact name_w (e i) (by decide) (by decide) (by omega) fun x hx => .inr (dig_in hi hx)
  · have h' := congrArg TL.tl h
    rw [e, e] at h'
    exact num_inj i hi j hj (List.cons.inj h').2
theorem good_D {c m : Nat} (hm : m ≤ 12) (c1 : 97 ≤ c) (c2 : c ≤ 122) : GoodN ((List.range m).map (nD c)) m := by
  refine good_of hm (fun i hi => ?_) fun i hi j hj h => ?_
  · generalize hk : ((((c - 97 : Nat) : Int) + ((i : Nat) : Int) / 8) % 26).toNat = k
    have hk2 : k < 26 := by omega
    have hn : (1 + ((i : Nat) : Int) % 8).toNat = ((1 + ((i : Nat) : Int) % 8).toNat - 1) + 1 := by omega
    refine name_w (c := 97 + k) (l := List.replicate ((1 + ((i : Nat) : Int) % 8).toNat - 1) (97 + k)) ?_ (by omega) (by omega) (by rw [List.length_replicate]; omega) fun x hx => ?_
    · unfold nD
      rw [hk, tl_mul1, hn, List.replicate_succ]
      rfl
    · rw [List.eq_of_mem_replicate hx]
      exact .inl (by omega)
  · have h' := congrArg TL.tl h
    unfold nD at h'
    rw [tl_mul1, tl_mul1] at h'
    have hl := congrArg List.length h'
    rw [List.length_replicate, List.length_replicate] at hl
    have hn : (1 + ((i : Nat) : Int) % 8).toNat ≠ 0 := by omega
    have hc : 97 + ((((c - 97 : Nat) : Int) + ((i : Nat) : Int) / 8) % 26).toNat = 97 + ((((c - 97 : Nat) : Int) + ((j : Nat) : Int) / 8) % 26).toNat := by
      have h3 : (97 + ((((c - 97 : Nat) : Int) + ((i : Nat) : Int) / 8) % 26).toNat) ∈ List.replicate (1 + ((i : Nat) : Int) % 8).toNat (97 + ((((c - 97 : Nat) : Int) + ((i : Nat) : Int) / 8) % 26).toNat) := List.mem_replicate.mpr ⟨hn, rfl⟩
      rw [h'] at h3
      exact List.eq_of_mem_replicate h3
    omega
/-- turned round at a place, the last part perhaps backwards -/
theorem good_turn {ns : List Str} {m k : Nat} (h : GoodN ns m) (b : Int) : GoodN (ns.drop k ++ (if b = 1 then ns.take k else (ns.take k).reverse)) m := by
  have hp : List.Perm (ns.drop k ++ (if b = 1 then ns.take k else (ns.take k).reverse)) ns := by
    refine List.Perm.trans (List.Perm.append_left _ (show List.Perm (if b = 1 then ns.take k else (ns.take k).reverse) (ns.take k) from ?_)) (List.perm_append_comm.trans (by rw [List.take_append_drop]))
    split
    · exact List.Perm.refl _
    · exact List.reverse_perm _
  exact ⟨hp.length_eq.trans h.len, hp.nodup_iff.mpr h.nd, fun n hn => h.nm n (hp.mem_iff.mp hn)⟩
def spNames (K : PySem.W.Frag) : Sp := fun vs H Q _ => ∃ (p : Addr) (n : Nat) (m : Int), vs = [.ref p, .int m] ∧ BoxAt H p n ∧ n ≤ 100000 ∧ 1 ≤ m ∧ m ≤ 12 ∧ ∀ (l : Addr) (ns : List Str) (H' : Hp), Same (ms (· = p) H) (ms (· = p) H') → BoxAt H' p (n + 10) → H l = none → H' l = some (.lst (ns.map V.str)) → GoodN ns m.toNat → Q (.ref l) H'


theorem len_cat (a b : Str) : (a ++ b).length = a.length + b.length := by rw [TL.len_tl, TL.len_tl, TL.len_tl, TL.tl_append, List.length_append]
theorem len_mul8 {c : Nat} {k : Int} (h : k ≤ 8) : (Txt.mul (ltr c) k).length ≤ 8 := by
  rw [TL.len_tl, tl_mul1, List.length_replicate]
  omega
theorem len_num {i : Nat} (h : i < 12) : (num i).length ≤ 2 := by
  rw [TL.len_tl, tl_n]
  exact (num_dig i h).2
theorem len_ltr (c : Nat) : (ltr c).length = 1 := rfl
theorem box_new {H : Hp} {p l : Addr} {o : HO} {m : Nat} (hl : H l = none) (hb : BoxAt H p m) : BoxAt (upd H l o) p m := by
  obtain ⟨a, b, c, h, r⟩ := hb
  exact ⟨a, b, c, (upd_ne (ne_of_none h hl)).trans h, r⟩
theorem box_ne {H : Hp} {p l : Addr} {m : Nat} (hl : H l = none) (hb : BoxAt H p m) : l ≠ p := by
  obtain ⟨a, b, c, h, r⟩ := hb
  exact (ne_of_none h hl).symm
theorem ms_none {H G : Hp} {p l : Addr} (s : Same (ms (· = p) H) (ms (· = p) G)) (hl : l ≠ p) (h : G l = none) : H l = none := by
  cases e : H l with
  | none => rfl
  | some o =>
    have := (ms_some (s l o (ms_at hl e))).2
    rw [h] at this
    cases this
theorem log_small {i : Nat} (h : i < 12) : ((i : Nat) : Int).natAbs.log2 < 1920 := by
  have : ∀ i < 12, ((i : Nat) : Int).natAbs.log2 < 1920 := by decide +kernel
  exact this i h

abbrev sNm : Stmt := top 55
abbrev nNm : List Str := ["_law_bag_here", "_law_many", "_law_letters", "_law_way", "_law_one", "_law_other", "_law_names_here", "_law_at", "_law_index"]
theorem scNm : FnScope nNm ["_law_bag_here", "_law_many"] (defScope sNm) := ⟨rfl, rfl, rfl, by decide +kernel, rfl, by decide +kernel, by decide +kernel⟩

theorem ok_Nm (F : Fun K "_law_names" "_law_names" sNm f fd) (T : TxtL mg) (C : Cg P w K mg base 1 "_law_take" spTake) (PC : Cg P w K mg base 1 "_law_place" spPlace) : FnG P w K mg base CX0 2 f fd ["_law_bag_here", "_law_many"] (spNames K) := by
  refine FunG.ok F scNm (fun vs H Q E h => ?_) (fun cdv B out s H vs Q E hr hG h => ?_)
  · obtain ⟨p, n, m, rfl, _⟩ := h
    rfl
  · obtain ⟨p, n, m, rfl, hb, hn, m1, m2, q⟩ := h
    refine ⟨_, (pss_cons (ps_asg (pe_tup (pa_cons pe_str (pa_cons (pe_g C hr hG (by decide) (by rfl) (pa_cons (pv 0) (pa_cons pe_int pa_nil))) pa_nil))) (pg_seq rfl (pgs_cons (pg_name (i := 2) scNm.nd rfl (Or.inr rfl)) (pgs_cons (pg_name (i := 3) scNm.nd rfl (Or.inl rfl)) pgs_nil))))
      (C8.pss_cut (ps_asg (pe_tup (pa_cons (pe_ix ix_str (pv 2) (pe_g C hr hG (by decide) (by rfl) (pa_cons (pv 0) (pa_cons pe_int pa_nil))) fun _ _ => rfl) (pa_cons (pe_ix ix_str (pv 2) (pe_g C hr hG (by decide) (by rfl) (pa_cons (pv 0) (pa_cons pe_int pa_nil))) fun _ _ => rfl) pa_nil))) (pg_seq rfl (pgs_cons (pg_name (i := 4) scNm.nd rfl (Or.inr rfl)) (pgs_cons (pg_name (i := 5) scNm.nd rfl (Or.inr rfl)) pgs_nil))))
      (C8.pss_cut (ps_if (pt_cmpR op_eq (pv 3) pe_int (nomark _)) (pss_one (ps_setLc (i := 6) (own := [("_law_index", 8)]) (g := gName 8) (tt := tYes) rfl scNm.nd rfl rfl (sw_true rfl rfl rfl (by decide +kernel)) (pi_range1 (by rfl) T.range (pa_cons (pv 1) pa_nil)) (blkOk_by (N := nNm) (sc := defScope sNm) (by decide +kernel)) (fun _ _ _ _ _ => pg_name (i := 8) scNm.nd rfl (Or.inl rfl)) (fun _ _ _ _ _ => pts_nil) (fun _ _ _ _ _ => (pe_op op_add_str (pe_op op_add_str (pv 4) (pe_op op_mulT (pv 5) (pe_op op_mod (pv 8) pe_int))) (pe_callTy call_str_int (by rfl) T.str (by decide +kernel) (pa_cons (pv 8) pa_nil)))))) (pss_one (ps_if (pt_cmpR op_eq (pv 3) pe_int (nomark _)) (pss_one (ps_setLc (i := 6) (own := [("_law_index", 8)]) (g := gName 8) (tt := tYes) rfl scNm.nd rfl rfl (sw_true rfl rfl rfl (by decide +kernel)) (pi_range1 (by rfl) T.range (pa_cons (pv 1) pa_nil)) (blkOk_by (N := nNm) (sc := defScope sNm) (by decide +kernel)) (fun _ _ _ _ _ => pg_name (i := 8) scNm.nd rfl (Or.inl rfl)) (fun _ _ _ _ _ => pts_nil) (fun _ _ _ _ _ => (pe_op op_add_str (pe_op op_add_str (pv 4) (pe_callTy call_str_int (by rfl) T.str (by decide +kernel) (pa_cons (pv 8) pa_nil))) (pe_op op_mulT (pv 5) (pe_op op_mod (pv 8) pe_int)))))) (pss_one (ps_if (pt_cmpR op_eq (pv 3) pe_int (nomark _)) (pss_one (ps_setLc (i := 6) (own := [("_law_index", 8)]) (g := gName 8) (tt := tYes) rfl scNm.nd rfl rfl (sw_true rfl rfl rfl (by decide +kernel)) (pi_range1 (by rfl) T.range (pa_cons (pv 1) pa_nil)) (blkOk_by (N := nNm) (sc := defScope sNm) (by decide +kernel)) (fun _ _ _ _ _ => pg_name (i := 8) scNm.nd rfl (Or.inl rfl)) (fun _ _ _ _ _ => pts_nil) (fun _ _ _ _ _ => (pe_op op_add_str pe_str (pe_callTy call_str_int (by rfl) T.str (by decide +kernel) (pa_cons (pv 8) pa_nil)))))) (pss_one (ps_setLc (i := 6) (own := [("_law_index", 8)]) (g := gName 8) (tt := tYes) rfl scNm.nd rfl rfl (sw_true rfl rfl rfl (by decide +kernel)) (pi_range1 (by rfl) T.range (pa_cons (pv 1) pa_nil)) (blkOk_by (N := nNm) (sc := defScope sNm) (by decide +kernel)) (fun _ _ _ _ _ => pg_name (i := 8) scNm.nd rfl (Or.inl rfl)) (fun _ _ _ _ _ => pts_nil) (fun _ _ _ _ _ => (pe_op op_mulT (pe_ix ix_str (pv 2) (pe_op op_mod (pe_op op_add (pe_g PC hr hG (by decide) (by rfl) (pa_cons (pv 4) pa_nil)) (pe_op op_fdiv (pv 8) pe_int)) pe_int) fun _ _ => rfl) (pe_op op_add pe_int (pe_op op_mod (pv 8) pe_int)))))))))))
      (pss_cons (ps_set (i := 7) scNm.nd rfl (.inl rfl) (pe_g C hr hG (by decide) (by rfl) (pa_cons (pv 0) (pa_cons (pe_op op_add (pv 1) pe_int) pa_nil))))
      (pss_one (ps_ret (pe_op op_cat (pe_slice sl_list (pv 6) (po_some (pv 7)) po_none) (pe_slStep (pe_slice sl_list (pv 6) po_none (po_some (pv 7))) (pe_ix ix_list (pe_lst (pa_cons pe_int (pa_cons (pe_un un_neg pe_int) pa_nil))) (pe_g C hr hG (by decide) (by rfl) (pa_cons (pv 0) (pa_cons pe_int pa_nil))) fun _ _ => rfl))))))))), ?_⟩
    have box_of : ∀ {A B : Hp} {k : Nat}, Same A B → BoxAt A p k → BoxAt B p k := fun s ⟨a, b, c, h, r⟩ => ⟨a, b, c, s _ _ h, r⟩
    refine ⟨_, rfl, p, 4, n, rfl, hb, (by decide), (by decide), (by omega), fun d0 H0 d00 d01 hb0 hk0 => ⟨(by show 2 ≤ sizeLine; decide), fun t ht => pair_asg (.inr (SqT.of upd_same)) (q := ?_)⟩⟩
    have m0 := Same.tr (box_sm hk0) (ms_up (S := (· = p)) (Same.put (o := .tup [V.str letA, V.int d0]) ht))
    have hb0' := box_new (o := .tup [V.str letA, V.int d0]) ht hb0
    refine ⟨fun σ G => ∃ c1 c2 : Nat, (97 ≤ c1 ∧ c1 ≤ 122) ∧ (97 ≤ c2 ∧ c2 ≤ 122) ∧ σ = [some (.ref p), some (.int m), some (.str letA), some (.int d0), some (.str (ltr c1)), some (.str (ltr c2)), none, none, none] ∧ Same (ms (· = p) H) (ms (· = p) G) ∧ BoxAt G p (n + 3), ?_, ?_⟩
    · refine ⟨_, rfl, _, rfl, p, 26, n + 1, rfl, hb0', (by decide), (by decide), (by omega), fun d1 H1 d10 d11 hb1 hk1 => ?_⟩
      obtain ⟨c1, c1a, c1b, c1c, _⟩ := at_let d10 d11
      refine ⟨_, _, c1, rfl, rfl, letA_len, c1c, ?_⟩
      refine ⟨_, rfl, _, rfl, p, 26, n + 2, rfl, hb1, (by decide), (by decide), (by omega), fun d2 H2 d20 d21 hb2 hk2 => ?_⟩
      obtain ⟨c2, c2a, c2b, c2c, _⟩ := at_let d20 d21
      refine ⟨_, _, c2, rfl, rfl, letA_len, c2c, (by show 2 ≤ sizeLine; decide), fun t2 ht2 => pair_asg (.inr (SqT.of upd_same)) (q := ?_)⟩
      exact ⟨c1, c2, ⟨c1a, c1b⟩, ⟨c2a, c2b⟩, rfl, Same.tr m0 (Same.tr (Same.tr (box_sm hk1) (box_sm hk2)) (ms_up (S := (· = p)) (Same.put ht2))), box_new ht2 hb2⟩
    rintro σ G ⟨c1, c2, ⟨c1a, c1b⟩, ⟨c2a, c2b⟩, rfl, mG, hbG⟩
    refine ⟨fun σ M => ∃ (l : Addr) (ns : List Str) (d0 : Int), σ = [some (.ref p), some (.int m), some (.str letA), some (.int d0), some (.str (ltr c1)), some (.str (ltr c2)), some (.ref l), none, none] ∧ Same (ms (· = p) H) (ms (· = p) M) ∧ BoxAt M p (n + 3) ∧ M l = some (.lst (ns.map V.str)) ∧ GoodN ns m.toNat ∧ l ≠ p, ?_, ?_⟩
    · refine ⟨_, rfl, rfl, _, rfl, ite2 (fun h => ?_) (fun h => ?_)⟩
      · refine ⟨_, rfl, m, rfl, (by omega), (by omega), fun D hD => lc_it (walk_range (lo := 0) (n := m.toNat)) (fun i M => Same G M ∧ M D = some (.lst (((List.range i).map (nA c1 c2)).map V.str))) ⟨Same.put hD, upd_same⟩ (fun _ _ _ _ => trivial) ?_ ?_⟩
        · rintro i x M M' hi ⟨kM, md⟩ ⟨rfl, hx⟩
          have hx' : x = .int (i : Nat) := by rw [hx]; show V.int (0 + ((i : Nat) : Int)) = _; rw [Int.zero_add]
          clear hx
          subst hx'
          have hi12 : i < 12 := by omega
          have e8 := PySem.sizeLine_eq
          have l1 := len_num hi12
          have l2 := len_ltr c1
          have l3 : (Txt.mul (ltr c2) (((i : Nat) : Int) % 3)).length ≤ 8 := len_mul8 (by omega)
          have l4 : (Txt.mul (ltr c2) (((i : Nat) : Int) % 5)).length ≤ 8 := len_mul8 (by omega)
          refine ⟨rfl, _, rfl, _, rfl, _, rfl, _, _, rfl, rfl, (by show (0 : Int) < 3; decide), _, _, rfl, rfl, mul_ok (by omega) (by omega), _, _, rfl, rfl, (by show (ltr c1).length + (Txt.mul (ltr c2) _).length ≤ sizeLine; omega), _, rfl, _, rfl, log_small hi12, _, _, rfl, rfl, (by show (ltr c1 ++ Txt.mul (ltr c2) _).length + (num i).length ≤ sizeLine; rw [len_cat]; omega), _, md, (by rw [List.length_map, List.length_map, List.length_range]; omega), Same.at0 hD kM, ?_⟩
          rw [upd_same, List.range_succ, List.map_append, List.map_append]
          rfl
        · rintro M ⟨kM, md⟩
          exact ⟨D, _, d0, rfl, Same.tr mG (ms_up kM), box_of kM hbG, md, good_A (by omega) c1a c1b c2a c2b, box_ne hD hbG⟩
      refine ⟨_, rfl, rfl, _, rfl, ite2 (fun h => ?_) (fun h => ?_)⟩
      · refine ⟨_, rfl, m, rfl, (by omega), (by omega), fun D hD => lc_it (walk_range (lo := 0) (n := m.toNat)) (fun i M => Same G M ∧ M D = some (.lst (((List.range i).map (nB c1 c2)).map V.str))) ⟨Same.put hD, upd_same⟩ (fun _ _ _ _ => trivial) ?_ ?_⟩
        · rintro i x M M' hi ⟨kM, md⟩ ⟨rfl, hx⟩
          have hx' : x = .int (i : Nat) := by rw [hx]; show V.int (0 + ((i : Nat) : Int)) = _; rw [Int.zero_add]
          clear hx
          subst hx'
          have hi12 : i < 12 := by omega
          have e8 := PySem.sizeLine_eq
          have l1 := len_num hi12
          have l2 := len_ltr c1
          have l3 : (Txt.mul (ltr c2) (((i : Nat) : Int) % 3)).length ≤ 8 := len_mul8 (by omega)
          have l4 : (Txt.mul (ltr c2) (((i : Nat) : Int) % 5)).length ≤ 8 := len_mul8 (by omega)
          refine ⟨rfl, _, rfl, _, rfl, _, rfl, log_small hi12, _, _, rfl, rfl, (by show (ltr c1).length + (num i).length ≤ sizeLine; omega), _, rfl, _, rfl, _, _, rfl, rfl, (by show (0 : Int) < 5; decide), _, _, rfl, rfl, mul_ok (by omega) (by omega), _, _, rfl, rfl, (by show (ltr c1 ++ num i).length + (Txt.mul (ltr c2) _).length ≤ sizeLine; rw [len_cat]; omega), _, md, (by rw [List.length_map, List.length_map, List.length_range]; omega), Same.at0 hD kM, ?_⟩
          rw [upd_same, List.range_succ, List.map_append, List.map_append]
          rfl
        · rintro M ⟨kM, md⟩
          exact ⟨D, _, d0, rfl, Same.tr mG (ms_up kM), box_of kM hbG, md, good_B (by omega) c1a c1b c2a c2b, box_ne hD hbG⟩
      refine ⟨_, rfl, rfl, _, rfl, ite2 (fun h => ?_) (fun h => ?_)⟩
      · refine ⟨_, rfl, m, rfl, (by omega), (by omega), fun D hD => lc_it (walk_range (lo := 0) (n := m.toNat)) (fun i M => Same G M ∧ M D = some (.lst (((List.range i).map (nC)).map V.str))) ⟨Same.put hD, upd_same⟩ (fun _ _ _ _ => trivial) ?_ ?_⟩
        · rintro i x M M' hi ⟨kM, md⟩ ⟨rfl, hx⟩
          have hx' : x = .int (i : Nat) := by rw [hx]; show V.int (0 + ((i : Nat) : Int)) = _; rw [Int.zero_add]
          clear hx
          subst hx'
          have hi12 : i < 12 := by omega
          have e8 := PySem.sizeLine_eq
          have l1 := len_num hi12
          have l2 := len_ltr c1
          have l3 : (Txt.mul (ltr c2) (((i : Nat) : Int) % 3)).length ≤ 8 := len_mul8 (by omega)
          have l4 : (Txt.mul (ltr c2) (((i : Nat) : Int) % 5)).length ≤ 8 := len_mul8 (by omega)
          refine ⟨rfl, _, rfl, _, rfl, log_small hi12, _, _, rfl, rfl, (by show ("g" : Str).length + (num i).length ≤ sizeLine; rw [show ("g" : Str).length = 1 by decide +kernel]; omega), _, md, (by rw [List.length_map, List.length_map, List.length_range]; omega), Same.at0 hD kM, ?_⟩
          rw [upd_same, List.range_succ, List.map_append, List.map_append]
          rfl
        · rintro M ⟨kM, md⟩
          exact ⟨D, _, d0, rfl, Same.tr mG (ms_up kM), box_of kM hbG, md, good_C (by omega), box_ne hD hbG⟩
      refine ⟨_, rfl, m, rfl, (by omega), (by omega), fun D hD => lc_it (walk_range (lo := 0) (n := m.toNat)) (fun i M => Same G M ∧ M D = some (.lst (((List.range i).map (nD c1)).map V.str))) ⟨Same.put hD, upd_same⟩ (fun _ _ _ _ => trivial) ?_ ?_⟩
      · rintro i x M M' hi ⟨kM, md⟩ ⟨rfl, hx⟩
        have hx' : x = .int (i : Nat) := by rw [hx]; show V.int (0 + ((i : Nat) : Int)) = _; rw [Int.zero_add]
        clear hx
        subst hx'
        have hi12 : i < 12 := by omega
        have e8 := PySem.sizeLine_eq
        have l1 := len_num hi12
        have l2 := len_ltr c1
        have l3 : (Txt.mul (ltr c2) (((i : Nat) : Int) % 3)).length ≤ 8 := len_mul8 (by omega)
        have l4 : (Txt.mul (ltr c2) (((i : Nat) : Int) % 5)).length ≤ 8 := len_mul8 (by omega)
        refine ⟨rfl, _, rfl, _, rfl, c1, rfl, c1a, c1b, _, rfl, _, _, rfl, rfl, ⟨by decide, by decide⟩, _, _, rfl, rfl, _, _, rfl, rfl, (by show (0 : Int) < 26; decide), ?_⟩
        obtain ⟨c3, c3a, c3b, c3c, c3d⟩ := at_let (i := (((c1 - 97 : Nat) : Int) + ((i : Nat) : Int) / 8) % 26) (by omega) (by omega)
        refine ⟨_, _, c3, rfl, rfl, letA_len, c3c, _, rfl, _, _, rfl, rfl, (by show (0 : Int) < 8; decide), _, _, rfl, rfl, _, _, rfl, rfl, mul_ok (by omega) (by omega), _, md, (by rw [List.length_map, List.length_map, List.length_range]; omega), Same.at0 hD kM, ?_⟩
        rw [c3d]
        rw [upd_same, List.range_succ, List.map_append, List.map_append]
        rfl
      · rintro M ⟨kM, md⟩
        exact ⟨D, _, d0, rfl, Same.tr mG (ms_up kM), box_of kM hbG, md, good_D (by omega) c1a c1b, box_ne hD hbG⟩
    · rintro σ M ⟨l, ns, d0, rfl, mM, hbM, ml, hgd, nlp⟩
      refine ⟨_, rfl, _, rfl, _, _, rfl, rfl, p, m + 1, n + 3, rfl, hbM, (by omega), ?_, (by omega), fun d3 H3 d30 d31 hb3 hk3 => ?_⟩
      · have : ∀ k < 14, (((k : Nat) : Int)).natAbs.log2 < 1000 := by decide +kernel
        have := this (m + 1).toNat (by omega)
        rwa [show (((m + 1).toNat : Nat) : Int) = m + 1 by omega] at this
      · have ml3 := (hk3 l nlp).trans ml
        have m3 := Same.tr mM (box_sm hk3)
        refine ⟨_, rfl, _, rfl, _, rfl, l, _, rfl, SqL.of ml3, fun l1 hl1 => ?_⟩
        rw [cut_from d30]
        have k1 := Same.put (o := .lst ((ns.map V.str).drop d3.toNat)) hl1
        have h1 : (upd H3 l1 (.lst ((ns.map V.str).drop d3.toNat))) l1 = some (.lst ((ns.map V.str).drop d3.toNat)) := upd_same
        have hb1 := box_of k1 hb3
        have nl1 := box_ne hl1 hb3
        generalize upd H3 l1 (.lst ((ns.map V.str).drop d3.toNat)) = G1 at k1 h1 hb1 ⊢
        refine ⟨_, rfl, _, rfl, _, rfl, l, _, rfl, SqL.of (k1 _ _ ml3), fun l2 hl2 => ?_⟩
        rw [cut_to d30]
        have k2 := Same.put (o := .lst ((ns.map V.str).take d3.toNat)) hl2
        have h2 : (upd G1 l2 (.lst ((ns.map V.str).take d3.toNat))) l2 = some (.lst ((ns.map V.str).take d3.toNat)) := upd_same
        have h12 := k2 _ _ h1
        have hb2 := box_of k2 hb1
        have nl2 := box_ne hl2 hb1
        generalize upd G1 l2 (.lst ((ns.map V.str).take d3.toNat)) = G2 at k2 h2 h12 hb2 ⊢
        refine ⟨_, rfl, (by show 2 ≤ sizeLine; decide), fun l3 hl3 => ?_⟩
        have k3 := Same.put (o := .lst [V.int 1, V.int (-1)]) hl3
        have h3 : (upd G2 l3 (.lst [V.int 1, V.int (-1)])) l3 = some (.lst [V.int 1, V.int (-1)]) := upd_same
        have h13 := k3 _ _ h12
        have h23 := k3 _ _ h2
        have hb3' := box_of k3 hb2
        have nl3 := box_ne hl3 hb2
        generalize upd G2 l3 (.lst [V.int 1, V.int (-1)]) = G3 at k3 h3 h13 h23 hb3' ⊢
        refine ⟨_, rfl, p, 2, n + 4, rfl, hb3', (by decide), (by decide), (by omega), fun d4 H4 d40 d41 hb4 hk4 => ?_⟩
        have h34 := (hk4 l3 nl3).trans h3
        have h14 := (hk4 l1 nl1).trans h13
        have h24 := (hk4 l2 nl2).trans h23
        have m4 := Same.tr m3 (Same.tr (ms_up (S := (· = p)) (Same.tr k1 (Same.tr k2 k3))) (box_sm hk4))
        have fin : ∀ k : Int, (k = 1 ∨ k = -1) → ∀ l4, H4 l4 = none → ∃ (l m_1 : Addr) (xs ys : List V), V.ref l1 = V.ref l ∧ V.ref l4 = V.ref m_1 ∧ (upd H4 l4 (.lst (stepV ((ns.map V.str).take d3.toNat) k))) l = some (.lst xs) ∧ (upd H4 l4 (.lst (stepV ((ns.map V.str).take d3.toNat) k))) m_1 = some (.lst ys) ∧ xs.length + ys.length ≤ sizeLine ∧ ∀ p_1, (upd H4 l4 (.lst (stepV ((ns.map V.str).take d3.toNat) k))) p_1 = none → Q (.ref p_1) (upd (upd H4 l4 (.lst (stepV ((ns.map V.str).take d3.toNat) k))) p_1 (.lst (xs ++ ys))) := fun k hk l4 hl4 => by
          have hst : stepV ((ns.map V.str).take d3.toNat) k = (if k = 1 then ns.take d3.toNat else (ns.take d3.toNat).reverse).map V.str := by
            unfold stepV
            split
            · rw [List.map_take]
            · rw [← List.map_take, List.map_reverse]
          rw [hst]
          have k4 := Same.put (o := .lst ((if k = 1 then ns.take d3.toNat else (ns.take d3.toNat).reverse).map V.str)) hl4
          have hgt := good_turn (k := d3.toNat) hgd k
          refine ⟨l1, l4, _, _, rfl, rfl, k4 _ _ h14, upd_same, ?_, fun l5 hl5 => ?_⟩
          · have := hgt.len
            rw [List.length_append] at this
            rw [← List.map_drop, List.length_map, List.length_map, PySem.sizeLine_eq]
            omega
          · have nl5 := box_ne hl5 (box_of k4 hb4)
            have m5 := Same.tr m4 (ms_up (S := (· = p)) (Same.tr k4 (Same.put (o := .lst ((ns.map V.str).drop d3.toNat ++ (if k = 1 then ns.take d3.toNat else (ns.take d3.toNat).reverse).map V.str)) hl5)))
            refine q l5 _ _ m5 ((box_new hl5 (box_of k4 hb4)).mono (by omega)) (ms_none (Same.tr m4 (ms_up (S := (· = p)) k4)) nl5 hl5) ?_ hgt
            rw [upd_same, ← List.map_drop, List.map_append]
        obtain rfl | rfl : d4 = 0 ∨ d4 = 1 := by omega
        · exact ⟨l3, _, _, .int 1, rfl, rfl, SqL.of h34, atI_nat (j := 0) rfl, _, rfl, l2, _, 1, rfl, rfl, SqL.of h24, .inl rfl, fin 1 (.inl rfl)⟩
        · exact ⟨l3, _, _, .int (-1), rfl, rfl, SqL.of h34, atI_nat (j := 1) rfl, _, rfl, l2, _, -1, rfl, rfl, SqL.of h24, .inr rfl, fin (-1) (.inr rfl)⟩
end
end T10
set_option Elab.async false
set_option linter.all false
set_option maxRecDepth 100000
set_option maxHeartbeats 4000000
namespace T10
open PySem PySem.Spec PyProof.Rows L2 Tp
section
variable {P : Program} {w : World} {K : PySem.W.Frag} {mg : Str → Option Value} {base : Heap} {f : Addr} {fd : FuncData}


/-- drawn term rows -/
def spTermsD (K : PySem.W.Frag) : Sp := fun vs H Q _ => ∃ (p sl : Addr) (n : Nat) (ss : List Str) (mo : Int), vs = [.ref p, .ref sl, .int mo] ∧ BoxAt H p n ∧ n ≤ 100000 ∧ (ms (· = p) H) sl = some (.lst (ss.map V.str)) ∧ 1 ≤ ss.length ∧ ss.length ≤ 3 ∧ (∀ s ∈ ss, nameB (TL.tl s) = true) ∧ 1 ≤ mo ∧ mo ≤ 9 ∧
  ∀ (l : Addr) (us : List V) (ts : List EdgeK) (H' : Hp), Same (ms (· = p) H) (ms (· = p) H') → BoxAt H' p (n + 100) → H l = none → l ≠ p → H' l = some (.lst us) → KEs K (ms (· = p) H') us ts → TermsOk ts → 1 ≤ ts.length → ts.length ≤ 9 → Q (.ref l) H'
theorem terms_snoc {ts : List EdgeK} {t : EdgeK} (h : TermsOk ts) (h1 : nameB (TL.tl t.1) = true) (h2 : t.2.length ≤ 3) (h3 : ∀ m ∈ t.2, 0 ≤ m ∧ m < (ts.length : Int)) : TermsOk (ts ++ [t]) := fun i t' e => by
  rcases Nat.lt_or_ge i ts.length with z | z
  · rw [List.getElem?_append_left z] at e
    exact h i t' e
  · rw [List.getElem?_append_right z] at e
    have hi : i - ts.length = 0 := by
      have := (List.getElem?_eq_some_iff.mp e).1
      simp at this
      omega
    rw [hi] at e
    cases e
    exact ⟨h1, h2, fun m hm => by have := h3 m hm; omega⟩
theorem log_le {m : Nat} (h : m < 64) : ((m : Nat) : Int).natAbs.log2 < 1000 := by
  have : ∀ k < 64, ((k : Nat) : Int).natAbs.log2 < 1000 := by decide +kernel
  exact this m h
theorem log_int {m : Int} (h0 : 0 ≤ m) (h : m < 64) : m.natAbs.log2 < 1000 := by
  have := log_le (m := m.toNat) (by omega)
  rwa [show ((m.toNat : Nat) : Int) = m by omega] at this
theorem kes_ms {K : PySem.W.Frag} {G : Hp} {p l : Addr} {xs ys : List V} {us : List V} {ts : List EdgeK} (hl : l ≠ p) (e : G l = some (.lst xs)) (h : KEs K (ms (· = p) G) us ts) : KEs K (ms (· = p) (upd G l (.lst ys))) us ts := by
  rw [ms_upd (S := (· = p)) hl]
  exact h.mono fun _ _ q => sqt_put (not_lst (ms_at hl e)) q
theorem ms_eq {G G' : Hp} {p : Addr} (h : ∀ b, b ≠ p → G' b = G b) : ms (· = p) G' = ms (· = p) G := by
  funext b
  by_cases e : b = p
  · simp [ms, e]
  · simp [ms, e, h b e]
theorem pick_at {ss : List Str} {d : Int} (h0 : 0 ≤ d) (h1 : d < (ss.length : Int)) : ∃ s, s ∈ ss ∧ atI (ss.map V.str) d = some (.str s) := by
  obtain ⟨j, rfl⟩ : ∃ j : Nat, d = (j : Int) := ⟨d.toNat, by omega⟩
  have hl : j < ss.length := by omega
  exact ⟨ss[j], List.getElem_mem hl, atI_nat (by rw [List.getElem?_map, List.getElem?_eq_getElem hl]; rfl)⟩
theorem ms_nil {S : Addr → Prop} {H : Hp} {D : Addr} (h : H D = none) : ms S H D = none := by
  unfold ms
  split
  · rfl
  · exact h

abbrev sTe : Stmt := top 58
abbrev nTe : List Str := ["_law_bag_here", "_law_symbols_here", "_law_most", "_law_rows", "_law_index", "_law_many", "_law_numbers", "_law_slot"]
theorem scTe : FnScope nTe ["_law_bag_here", "_law_symbols_here", "_law_most"] (defScope sTe) := ⟨rfl, rfl, rfl, by decide +kernel, rfl, by decide +kernel, by decide +kernel⟩

theorem ok_Te (F : Fun K "_law_terms" "_law_terms" sTe f fd) (T : TxtL mg) (C : Cg P w K mg base 1 "_law_take" spTake) : FnG P w K mg base CX0 2 f fd ["_law_bag_here", "_law_symbols_here", "_law_most"] (spTermsD K) := by
  refine FunG.ok F scTe (fun vs H Q E h => ?_) (fun cdv B out s H vs Q E hr hG h => ?_)
  · obtain ⟨p, sl, n, ss, mo, rfl, _⟩ := h
    rfl
  · obtain ⟨p, sl, n, ss, mo, rfl, hb, hn, hs, h1, h3, hnm, mo1, mo2, q⟩ := h
    refine ⟨_, (pss_cons (ps_set (i := 3) scTe.nd rfl (.inr rfl) (pe_lst (pa_cons (pe_tup (pa_cons (pe_ix ix_list (pv 1) (pe_g C hr hG (by decide) (by rfl) (pa_cons (pv 0) (pa_cons (pe_callB call_len (by rfl) T.len PySem.boot_len (pa_cons (pv 1) pa_nil)) pa_nil))) fun _ _ => rfl) (pa_cons (pe_tup pa_nil) pa_nil))) pa_nil)))
      (pss_cons (ps_for PassesOwn.never rfl (pi_range1 (by rfl) T.range (pa_cons (pe_g C hr hG (by decide) (by rfl) (pa_cons (pv 0) (pa_cons (pv 2) pa_nil))) pa_nil)) (pg_name (i := 4) scTe.nd rfl (Or.inl rfl)) (pss_cons (ps_set (i := 5) scTe.nd rfl (.inl rfl) (pe_callB (call_min2 rfl) (by rfl) T.min (by decide +kernel) (pa_cons pe_int (pa_cons (pe_g C hr hG (by decide) (by rfl) (pa_cons (pv 0) (pa_cons pe_int pa_nil))) pa_nil))))
        (pss_cons (ps_setLc (i := 6) (own := [("_law_slot", 7)]) (g := gName 7) (tt := tYes) rfl scTe.nd rfl rfl (sw_true rfl rfl rfl (by decide +kernel)) (pi_range1 (by rfl) T.range (pa_cons (pv 5) pa_nil)) (blkOk_by (N := nTe) (sc := defScope sTe) (by decide +kernel)) (fun _ _ _ _ _ => pg_name (i := 7) scTe.nd rfl (Or.inl rfl)) (fun _ _ _ _ _ => pts_nil) (fun _ _ _ _ _ => (pe_g C hr hG (by decide) (by rfl) (pa_cons (pv 0) (pa_cons (pe_callB (call_lenK (K := K) rfl) (by rfl) T.len PySem.boot_len (pa_cons (pv 3) pa_nil)) pa_nil)))))
        (pss_one (ps_expr (pe_bm PySem.F.plainAttrs_list PySem.F.slot_list_append PySem.F.type_list_append mt_append (pv 3) (pa_cons (pe_tup (pa_cons (pe_ix ix_list (pv 1) (pe_g C hr hG (by decide) (by rfl) (pa_cons (pv 0) (pa_cons (pe_callB call_len (by rfl) T.len PySem.boot_len (pa_cons (pv 1) pa_nil)) pa_nil))) fun _ _ => rfl) (pa_cons (pe_callTy call_tuple_of (by rfl) T.tuple (by decide +kernel) (pa_cons (pv 6) pa_nil)) pa_nil))) pa_nil)))))))
      (pss_one (ps_ret (pv 3))))), ?_⟩
    have e8 := PySem.sizeLine_eq
    have hs0 := (ms_some hs).2
    have nsp : sl ≠ p := (ms_some hs).1
    have box_of : ∀ {A B : Hp} {k : Nat}, Same A B → BoxAt A p k → BoxAt B p k := fun s ⟨a, b, c, h, r⟩ => ⟨a, b, c, s _ _ h, r⟩
    have hsl : (0 : Int) < ((ss.length : Nat) : Int) := by omega
    have hmsl : ∀ {G : Hp}, Same (ms (· = p) H) (ms (· = p) G) → G sl = some (.lst (ss.map V.str)) := fun s => (ms_some (s _ _ hs)).2
    refine ⟨_, rfl, _, rfl, _, rfl, _, _, rfl, .inl ⟨_, SqL.of hs0, rfl⟩, p, _, n, rfl, hb, (by rw [List.length_map]; omega), (by rw [List.length_map]; exact log_le (by omega)), (by omega), fun d0 H0 d00 d01 hb0 hk0 => ?_⟩
    rw [List.length_map] at d01
    obtain ⟨s0, hs0m, hs0a⟩ := pick_at d00 d01
    have m0 : Same (ms (· = p) H) (ms (· = p) H0) := box_sm hk0
    refine ⟨sl, _, _, _, rfl, rfl, SqL.of (hmsl m0), hs0a, (by show 0 ≤ sizeLine; decide), fun t ht => ⟨(by show 2 ≤ sizeLine; decide), fun r hr => ⟨(by show 1 ≤ sizeLine; decide), fun l hl => ?_⟩⟩⟩
    have kt := Same.put (o := .tup []) ht
    have kr := Same.put (o := .tup [V.str s0, V.ref t]) hr
    have kl := Same.put (o := .lst [V.ref r]) hl
    have hE0 : KEdge K (upd (upd H0 t (.tup [])) r (.tup [V.str s0, V.ref t])) (.ref r) (s0, []) := ⟨r, t, rfl, SqT.of upd_same, upT kr (SqT.of upd_same)⟩
    have hb1 := box_of (Same.tr kt (Same.tr kr kl)) hb0
    have m1 := Same.tr m0 (ms_up (S := (· = p)) (Same.tr kt (Same.tr kr kl)))
    have nlp : l ≠ p := box_ne hl (box_of (Same.tr kt kr) hb0)
    have lH : H l = none := ms_none (Same.tr m0 (ms_up (S := (· = p)) (Same.tr kt kr))) nlp hl
    have l1 : (upd (upd (upd H0 t (.tup [])) r (.tup [V.str s0, V.ref t])) l (.lst [V.ref r])) l = some (.lst [V.ref r]) := upd_same
    have hE1 := hE0.mono fun _ _ => upT kl
    generalize upd (upd (upd H0 t (.tup [])) r (.tup [V.str s0, V.ref t])) l (.lst [V.ref r]) = H1 at hb1 m1 l1 hE1 ⊢
    have noT : ∀ {G : Hp} {m : Nat}, BoxAt G p m → ∀ b ys, SqT K G b ys → SqT K (ms (· = p) G) b ys := fun hb b ys h => by
      obtain ⟨x, y, z, hp, _⟩ := hb
      rcases h with h | h
      · have nb : b ≠ p := fun e => by
          rcases h with h | ⟨o, h⟩
          · rw [e, hp] at h; cases h
          · rw [e, hp] at h; cases h
        rcases h with h | ⟨o, h⟩
        · exact .inl (.inl (ms_at nb h))
        · exact .inl (.inr ⟨o, ms_at nb h⟩)
      · exact .inr h
    have hE2 : KEs K (ms (· = p) H1) [.ref r] [(s0, [])] := .cons (hE1.mono (noT hb1)) .nil
    dsimp only [gName]
    refine ⟨_, rfl, _, rfl, p, mo, n + 1, rfl, hb1, (by omega), log_int (by omega) (by omega), (by omega), fun d2 H2 d20 d21 hb2 hk2 => ⟨d2, rfl, (by omega), (by omega), ?_⟩⟩
    have m2 := Same.tr m1 (box_sm hk2)
    refine for_it (walk_range (lo := 0) (n := d2.toNat)) (fun i σ G => ∃ us ts o4 o5 o6, σ = [some (.ref p), some (.ref sl), some (.int mo), some (.ref l), o4, o5, o6, none] ∧ Same (ms (· = p) H) (ms (· = p) G) ∧ BoxAt G p (n + 2 + 6 * i) ∧ G l = some (.lst us) ∧ KEs K (ms (· = p) G) us ts ∧ TermsOk ts ∧ ts.length = 1 + i) ⟨_, _, _, _, _, rfl, m2, hb2, (hk2 l nlp).trans l1, (by rw [ms_eq hk2]; exact hE2), (fun i t e => by
      have hi := (List.getElem?_eq_some_iff.mp e).1
      have hi0 : i = 0 := by simpa using hi
      subst hi0
      cases e
      exact ⟨hnm _ hs0m, Nat.zero_le _, fun m hm => (nomatch hm)⟩), rfl⟩ (fun _ _ _ _ _ => trivial) ?_ ?_
    · rintro i v σ G G' hi ⟨us, ts, o4, o5, o6, rfl, mG, hbG, gl, hE, hok, htl⟩ ⟨rfl, _⟩
      have hi9 : i < 9 := by omega
      refine ⟨_, rfl, p, 6, n + 2 + 6 * i, rfl, hbG, (by decide), (by decide), (by omega), fun d3 H3 d30 d31 hb3 hk3 => ⟨_, _, rfl, ?_⟩⟩
      have hmn : ∃ mn : Int, mn = (if d3 < 3 then d3 else 3) ∧ 0 ≤ mn ∧ mn ≤ 3 := ⟨_, rfl, by split <;> omega, by split <;> omega⟩
      obtain ⟨mn, hmn, mn0, mn3⟩ := hmn
      rw [← hmn]
      have m3 := Same.tr mG (box_sm hk3)
      have l3 := (hk3 l nlp).trans gl
      have hE3 : KEs K (ms (· = p) H3) us ts := by rw [ms_eq hk3]; exact hE
      have hul := hE.length
      refine ⟨_, rfl, mn, rfl, (by omega), (by omega), fun D hD => lc_it (walk_range (lo := 0) (n := mn.toNat)) (fun j M => Same (ms (· = p) H) (ms (· = p) M) ∧ BoxAt M p (n + 2 + 6 * i + 1 + j) ∧ M l = some (.lst us) ∧ KEs K (ms (· = p) M) us ts ∧ ∃ ns : List Int, M D = some (.lst (ns.map V.int)) ∧ ns.length = j ∧ ∀ m ∈ ns, 0 ≤ m ∧ m < (ts.length : Int)) ⟨Same.tr m3 (ms_up (S := (· = p)) (Same.put hD)), box_new hD hb3, (Same.put hD) _ _ l3, hE3.up (ms_up (S := (· = p)) (Same.put hD)), [], upd_same, rfl, fun m hm => (nomatch hm)⟩ (fun _ _ _ _ => trivial) ?_ ?_⟩
      · rintro j x M M' hj ⟨mM, hbM, ml, hEM, ns, md, nl, hns⟩ ⟨rfl, _⟩
        have nDp : D ≠ p := box_ne hD hb3
        have nDl : D ≠ l := fun e => by rw [e, l3] at hD; cases hD
        refine ⟨rfl, _, rfl, _, rfl, _, _, rfl, .inl ⟨_, SqL.of ml, rfl⟩, p, _, n + 2 + 6 * i + 1 + j, rfl, hbM, (by omega), log_le (by omega), (by omega), fun d4 H4 d40 d41 hb4 hk4 => ?_⟩
        have d4D := (hk4 D nDp).trans md
        refine ⟨_, d4D, (by rw [List.length_map]; omega), ?_, ?_, (upd_ne nDl.symm).trans ((hk4 l nlp).trans ml), ?_, ns ++ [d4], ?_, ?_, ?_⟩
        · rw [ms_upd (S := (· = p)) nDp]
          exact Same.at0 (ms_nil (ms_none m3 nDp hD)) (Same.tr mM (box_sm hk4))
        · obtain ⟨x, y, z, h, r⟩ := hb4
          exact ⟨x, y, z, (upd_ne nDp.symm).trans h, r⟩
        · refine kes_ms nDp d4D ?_
          rw [ms_eq hk4]
          exact hEM
        · rw [upd_same, List.map_append]
          rfl
        · rw [List.length_append, List.length_singleton, nl]
        · intro m hm
          rcases List.mem_append.mp hm with z | z
          · exact hns m z
          · rw [List.mem_singleton.mp z]
            omega
      · rintro M ⟨mM, hbM, ml, hEM, ns, md, nl, hns⟩
        have nDp : D ≠ p := box_ne hD hb3
        refine ⟨_, rfl, .inl ⟨rfl, _, SqL.of ml⟩, _, rfl, _, rfl, _, rfl, _, _, rfl, .inl ⟨_, SqL.of (hmsl mM), rfl⟩, p, _, n + 2 + 6 * i + 1 + mn.toNat, rfl, hbM, (by rw [List.length_map]; omega), (by rw [List.length_map]; exact log_le (by omega)), (by omega), fun d5 H5 d50 d51 hb5 hk5 => ?_⟩
        rw [List.length_map] at d51
        obtain ⟨s5, hs5m, hs5a⟩ := pick_at d50 d51
        have m5 := Same.tr mM (box_sm hk5)
        refine ⟨sl, _, _, _, rfl, rfl, SqL.of (hmsl m5), hs5a, _, rfl, D, _, rfl, .inl ⟨SqL.of ((hk5 D nDp).trans md), fun t' et => ⟨(by show 2 ≤ sizeLine; decide), fun r' er => ?_⟩⟩⟩
        have kt := Same.put (o := .tup (ns.map V.int)) et
        have kr := Same.put (o := .tup [V.str s5, V.ref t']) er
        have ktr := Same.tr kt kr
        have l6 := ktr _ _ ((hk5 l nlp).trans ml)
        have hb6 := box_of ktr hb5
        have hE6 : KEs K (ms (· = p) (upd (upd H5 t' (.tup (ns.map V.int))) r' (.tup [V.str s5, V.ref t']))) us ts := by
          have : KEs K (ms (· = p) H5) us ts := by rw [ms_eq hk5]; exact hEM
          exact this.up (ms_up (S := (· = p)) ktr)
        have hN6 : KEdge K (ms (· = p) (upd (upd H5 t' (.tup (ns.map V.int))) r' (.tup [V.str s5, V.ref t']))) (.ref r') (s5, ns) := KEdge.mono (noT hb6) ⟨r', t', rfl, SqT.of upd_same, upT kr (SqT.of upd_same)⟩
        have m6 := Same.tr m5 (ms_up (S := (· = p)) ktr)
        generalize upd (upd H5 t' (.tup (ns.map V.int))) r' (.tup [V.str s5, V.ref t']) = G6 at l6 hb6 hE6 hN6 m6 ⊢
        refine ⟨l, _, _, rfl, rfl, l6, (by omega), us ++ [V.ref r'], ts ++ [(s5, ns)], _, _, _, rfl, ?_, ?_, upd_same, ?_, terms_snoc hok (hnm _ hs5m) (by show ns.length ≤ 3; omega) hns, ?_⟩
        · rw [ms_upd (S := (· = p)) nlp]
          exact Same.at0 (ms_nil lH) m6
        · obtain ⟨x, y, z, h, r1, r2, r3, r4, r5⟩ := hb6
          exact ⟨x, y, z, (upd_ne nlp.symm).trans h, r1, r2, r3, r4, by omega⟩
        · refine kes_ms nlp l6 (Pd.app hE6 (.cons hN6 .nil))
        · rw [List.length_append, List.length_singleton]
          omega
    · rintro σ G ⟨us, ts, o4, o5, o6, rfl, mG, hbG, gl, hE, hok, htl⟩
      exact ⟨_, rfl, q l us ts G mG (hbG.mono (by omega)) lH nlp gl hE hok (by omega) (by omega)⟩
end
end T10
set_option Elab.async false
set_option linter.all false
set_option maxRecDepth 100000
set_option maxHeartbeats 4000000
namespace T10
open PySem PySem.Spec PyProof.Rows L2 Tp
section
variable {P : Program} {w : World} {K : PySem.W.Frag} {mg : Str → Option Value} {base : Heap} {f : Addr} {fd : FuncData}


/-- the box, the list of terms and the lists of numbers that are kept -/
def SD (p tl : Addr) (bs : List Addr) (b : Addr) : Prop := b = p ∨ b = tl ∨ b ∈ bs
/-- how the drawing stands -/
structure DrS (K : PySem.W.Frag) (G : Hp) (p tl pd : Addr) (bs : List Addr) (kvs : List (Key × V)) (us : List V) (ts : List EdgeK) (m : Nat) : Prop where
  bx : BoxAt G p m
  tp : tl ≠ p
  bp : p ∉ bs
  bt : tl ∉ bs
  ht : G tl = some (.lst us)
  hk : KEs K (ms (SD p tl bs) G) us ts
  ok : TermsOk ts
  nz : 1 ≤ ts.length
  hd : (ms (SD p tl bs) G) pd = some (.dK kvs)
  hv : ∀ n v, valV kvs (Sum.inr n) = some v → ∃ (t : Addr) (sy : Str) (mn : Int) (b : Addr), v = .ref t ∧ SqT K (ms (SD p tl bs) G) t [.str sy, .int mn, .ref b] ∧ nameB (TL.tl sy) = true ∧ 1 ≤ mn ∧ mn ≤ 3 ∧ b ∈ bs
  hb : ∀ b ∈ bs, ∃ xs : List Int, G b = some (.lst (xs.map V.int)) ∧ xs.length ≤ ts.length ∧ ∀ x ∈ xs, 0 ≤ x ∧ x < (ts.length : Int)
variable {G G' : Hp} {p tl pd : Addr} {bs : List Addr} {kvs : List (Key × V)} {us : List V} {ts : List EdgeK} {m : Nat}
theorem ms_eqS {S : Addr → Prop} (h : ∀ b, ¬ S b → G' b = G b) : ms S G' = ms S G := by
  funext b
  by_cases e : S b
  · simp [ms, e]
  · simp [ms, e, h b e]
/-- something is drawn -/
theorem DrS.take (h : DrS K G p tl pd bs kvs us ts m) (hb : BoxAt G' p (m + 1)) (hk : ∀ b, b ≠ p → G' b = G b) : DrS K G' p tl pd bs kvs us ts (m + 1) := by
  have e : ms (SD p tl bs) G' = ms (SD p tl bs) G := ms_eqS fun b hb => hk b fun z => hb (.inl z)
  refine ⟨hb, h.tp, h.bp, h.bt, (hk tl h.tp).trans h.ht, by rw [e]; exact h.hk, h.ok, h.nz, by rw [e]; exact h.hd, by rw [e]; exact h.hv, fun b hb' => ?_⟩
  rw [hk b fun z => h.bp (z ▸ hb')]
  exact h.hb b hb'
/-- something new is made -/
theorem DrS.up (h : DrS K G p tl pd bs kvs us ts m) (s : Same G G') : DrS K G' p tl pd bs kvs us ts m := by
  refine ⟨?_, h.tp, h.bp, h.bt, s _ _ h.ht, h.hk.up (ms_up s), h.ok, h.nz, ms_up s _ _ h.hd, fun n v hv => ?_, fun b hb => ?_⟩
  · obtain ⟨a, b, c, h1, r⟩ := h.bx
    exact ⟨a, b, c, s _ _ h1, r⟩
  · obtain ⟨t, sy, mn, b, e, h1, r⟩ := h.hv n v hv
    exact ⟨t, sy, mn, b, e, upT (ms_up s) h1, r⟩
  · obtain ⟨xs, h1, r⟩ := h.hb b hb
    exact ⟨xs, s _ _ h1, r⟩
/-- another term row -/
theorem DrS.row (h : DrS K G p tl pd bs kvs us ts m) {r : V} {t : EdgeK} (hr : KEdge K (ms (SD p tl bs) G) r t) (h1 : nameB (TL.tl t.1) = true) (h2 : t.2.length ≤ 3) (h3 : ∀ m ∈ t.2, 0 ≤ m ∧ m < (ts.length : Int)) : DrS K (upd G tl (.lst (us ++ [r]))) p tl pd bs kvs (us ++ [r]) (ts ++ [t]) m := by
  have e : ms (SD p tl bs) (upd G tl (.lst (us ++ [r]))) = ms (SD p tl bs) G := ms_put (.inr (.inl rfl))
  refine ⟨?_, h.tp, h.bp, h.bt, upd_same, by rw [e]; exact Pd.app h.hk (.cons hr .nil), terms_snoc h.ok h1 h2 h3, by have := h.nz; rw [List.length_append]; omega, by rw [e]; exact h.hd, by rw [e]; exact h.hv, fun b hb => ?_⟩
  · obtain ⟨x, y, z, e1, r⟩ := h.bx
    exact ⟨x, y, z, (upd_ne h.tp.symm).trans e1, r⟩
  · obtain ⟨xs, e1, e2, e3⟩ := h.hb b hb
    refine ⟨xs, (upd_ne fun z => h.bt (by rw [← z]; exact hb)).trans e1, by rw [List.length_append]; omega, fun x hx => ?_⟩
    rw [List.length_append]
    have := e3 x hx
    omega
/-- another number in a list that is kept -/
theorem DrS.num (h : DrS K G p tl pd bs kvs us ts m) {b : Addr} (hb : b ∈ bs) {xs : List Int} {x : Int} (hx : xs.length + 1 ≤ ts.length) (hxs : ∀ y ∈ xs, 0 ≤ y ∧ y < (ts.length : Int)) (h0 : 0 ≤ x ∧ x < (ts.length : Int)) : DrS K (upd G b (.lst ((xs ++ [x]).map V.int))) p tl pd bs kvs us ts m := by
  have e : ms (SD p tl bs) (upd G b (.lst ((xs ++ [x]).map V.int))) = ms (SD p tl bs) G := ms_put (.inr (.inr hb))
  refine ⟨?_, h.tp, h.bp, h.bt, (upd_ne fun z => h.bt (by rw [z]; exact hb)).trans h.ht, by rw [e]; exact h.hk, h.ok, h.nz, by rw [e]; exact h.hd, by rw [e]; exact h.hv, fun b' hb' => ?_⟩
  · obtain ⟨x, y, z, e1, r⟩ := h.bx
    exact ⟨x, y, z, (upd_ne fun z => h.bp (by rw [z]; exact hb)).trans e1, r⟩
  · by_cases z : b' = b
    · subst z
      refine ⟨xs ++ [x], upd_same, by rw [List.length_append, List.length_singleton]; exact hx, fun y hy => ?_⟩
      rcases List.mem_append.mp hy with w | w
      · exact hxs y w
      · rw [List.mem_singleton.mp w]
        exact h0
    · obtain ⟨ys, e1, r⟩ := h.hb b' hb'
      exact ⟨ys, (upd_ne z).trans e1, r⟩
/-- a list beside it changes -/
theorem DrS.other (h : DrS K G p tl pd bs kvs us ts m) {D : Addr} {xs ys : List V} (hD : ¬ SD p tl bs D) (e : G D = some (.lst xs)) : DrS K (upd G D (.lst ys)) p tl pd bs kvs us ts m := by
  have em : ms (SD p tl bs) (upd G D (.lst ys)) = upd (ms (SD p tl bs) G) D (.lst ys) := ms_upd hD
  have nt : NotTup (ms (SD p tl bs) G) D := not_lst (ms_at hD e)
  refine ⟨?_, h.tp, h.bp, h.bt, (upd_ne fun z => hD (.inr (.inl z.symm))).trans h.ht, by rw [em]; exact h.hk.mono fun _ _ q => sqt_put nt q, h.ok, h.nz, ?_, fun n v hv => ?_, fun b hb => ?_⟩
  · obtain ⟨x, y, z, e1, r⟩ := h.bx
    exact ⟨x, y, z, (upd_ne fun z => hD (.inl z.symm)).trans e1, r⟩
  · rw [em]
    refine (upd_ne fun z => ?_).trans h.hd
    have := (ms_some h.hd).2
    rw [z, e] at this
    cases this
  · obtain ⟨t, sy, mn, b, e1, h1, r⟩ := h.hv n v hv
    exact ⟨t, sy, mn, b, e1, by rw [em]; exact sqt_put nt h1, r⟩
  · obtain ⟨zs, e1, r⟩ := h.hb b hb
    exact ⟨zs, (upd_ne fun z => hD (.inr (.inr (by rw [← z]; exact hb)))).trans e1, r⟩
theorem DrS.mono {m' : Nat} (h : DrS K G p tl pd bs kvs us ts m) (hm : m ≤ m') : DrS K G p tl pd bs kvs us ts m' := ⟨h.bx.mono hm, h.tp, h.bp, h.bt, h.ht, h.hk, h.ok, h.nz, h.hd, h.hv, h.hb⟩
theorem ms_noneS {S : Addr → Prop} {H G : Hp} {l : Addr} (s : Same (ms S H) (ms S G)) (hl : ¬ S l) (h : G l = none) : H l = none := by
  cases e : H l with
  | none => rfl
  | some o =>
    have := (ms_some (s l o (ms_at hl e))).2
    rw [h] at this
    cases this
theorem DrS.out (h : DrS K G p tl pd bs kvs us ts m) {D : Addr} (e : G D = none) : ¬ SD p tl bs D := by
  rintro (z | z | z)
  · obtain ⟨a, b, c, h1, _⟩ := h.bx
    rw [z, h1] at e
    cases e
  · rw [z, h.ht] at e
    cases e
  · obtain ⟨xs, h1, _⟩ := h.hb D z
    rw [h1] at e
    cases e
/-- drawn starts -/
def spStartsD (K : PySem.W.Frag) : Sp := fun vs H Q _ => ∃ (p tl pd : Addr) (bs : List Addr) (kvs : List (Key × V)) (us : List V) (ts : List EdgeK) (n : Nat) (src : Str) (dl mo : Int), vs = [.ref p, .ref tl, .ref pd, .str src, .int dl, .int mo] ∧ DrS K H p tl pd bs kvs us ts n ∧ n ≤ 200000 ∧ 0 ≤ dl ∧ dl ≤ 30 ∧ mo ≤ 60 ∧ ts.length ≤ 60 ∧
  ∀ (l : Addr) (xs : List Int) (us' : List V) (ts' : List EdgeK) (H' : Hp), Same (ms (SD p tl bs) H) (ms (SD p tl bs) H') → H l = none → H' l = some (.lst (xs.map V.int)) → ¬ SD p tl bs l → (xs.length : Int) = dl → (∀ x ∈ xs, 0 ≤ x ∧ x < (ts'.length : Int)) → (∃ more, ts' = ts ++ more) → ts'.length ≤ 60 → DrS K H' p tl pd bs kvs us' ts' (n + 400) → Q (.ref l) H'

abbrev sSt : Stmt := top 59
abbrev nSt : List Str := ["_law_bag_here", "_law_terms_here", "_law_pasts", "_law_source", "_law_delays", "_law_most", "_law_symbol", "_law_many", "_law_back", "_law_slot", "_law_turn"]
theorem scSt : FnScope nSt ["_law_bag_here", "_law_terms_here", "_law_pasts", "_law_source", "_law_delays", "_law_most"] (defScope sSt) := ⟨rfl, rfl, rfl, by decide +kernel, rfl, by decide +kernel, by decide +kernel⟩

theorem ok_St (F : Fun K "_law_starts" "_law_starts" sSt f fd) (T : TxtL mg) (C : Cg P w K mg base 1 "_law_take" spTake) : FnG P w K mg base CX0 2 f fd ["_law_bag_here", "_law_terms_here", "_law_pasts", "_law_source", "_law_delays", "_law_most"] (spStartsD K) := by
  refine FunG.ok F scSt (fun vs H Q E h => ?_) (fun cdv B out s H vs Q E hr hG h => ?_)
  · obtain ⟨p, tl, pd, bs, kvs, us, ts, n, src, dl, mo, rfl, _⟩ := h
    rfl
  · obtain ⟨p, tl, pd, bs, kvs, us, ts, n, src, dl, mo, rfl, hS, hn, dl0, dl1, hmo, htl, q⟩ := h
    refine ⟨_, (pss_cons (ps_if (PW.pt (pw_or (pt_cmp (pc_dnotin (hu1 hr) (pv 3) (pv 2))) (pw_or1 (pt_cmpR op_eq (pe_g C hr hG (by decide) (by rfl) (pa_cons (pv 0) (pa_cons pe_int pa_nil))) pe_int (nomark _))))) (pss_one (ps_ret (pe_lc (own := [("_law_turn", 10)]) (g := gName 10) (tt := tYes) rfl scSt.nd (pi_range1 (by rfl) T.range (pa_cons (pv 4) pa_nil)) (blkOk_by (N := nSt) (sc := defScope sSt) (by decide +kernel)) (fun _ _ _ _ _ => pg_name (i := 10) scSt.nd rfl (Or.inl rfl)) (fun _ _ _ _ _ => pts_nil) (fun _ _ _ _ _ => (pe_g C hr hG (by decide) (by rfl) (pa_cons (pv 0) (pa_cons (pe_callB (call_lenK (K := K) rfl) (by rfl) T.len PySem.boot_len (pa_cons (pv 1) pa_nil)) pa_nil))))))) pss_nil)
      (pss_cons (ps_asg (pe_dget (hu1 hr) (pv 2) (pv 3) (fun _ _ => rfl)) (pg_seq rfl (pgs_cons (pg_name (i := 6) scSt.nd rfl (Or.inl rfl)) (pgs_cons (pg_name (i := 7) scSt.nd rfl (Or.inl rfl)) (pgs_cons (pg_name (i := 8) scSt.nd rfl (Or.inr rfl)) pgs_nil)))))
      (pss_cons (ps_while PassesOwn.never (PW.pt (pw_and (pt_cmpR op_lt (pe_callB call_len (by rfl) T.len PySem.boot_len (pa_cons (pv 8) pa_nil)) (pv 4) (nomark _)) (pw_and1 (pt_cmpR op_lt (pe_callB call_len (by rfl) T.len PySem.boot_len (pa_cons (pv 1) pa_nil)) (pv 5) (nomark _))))) (pss_cons (ps_expr (pe_bm PySem.F.plainAttrs_list PySem.F.slot_list_append PySem.F.type_list_append mt_append (pv 1) (pa_cons (pe_tup (pa_cons (pv 6) (pa_cons (pe_callTy call_tuple_of (by rfl) T.tuple (by decide +kernel) (pa_cons (pe_lc (own := [("_law_slot", 9)]) (g := gName 9) (tt := tYes) rfl scSt.nd (pi_range1 (by rfl) T.range (pa_cons (pv 7) pa_nil)) (blkOk_by (N := nSt) (sc := defScope sSt) (by decide +kernel)) (fun _ _ _ _ _ => pg_name (i := 9) scSt.nd rfl (Or.inl rfl)) (fun _ _ _ _ _ => pts_nil) (fun _ _ _ _ _ => (pe_g C hr hG (by decide) (by rfl) (pa_cons (pv 0) (pa_cons (pe_callB (call_lenK (K := K) rfl) (by rfl) T.len PySem.boot_len (pa_cons (pv 1) pa_nil)) pa_nil))))) pa_nil)) pa_nil))) pa_nil)))
        (pss_one (ps_expr (pe_bm PySem.F.plainAttrs_list PySem.F.slot_list_append PySem.F.type_list_append mt_append (pv 8) (pa_cons (pe_op op_sub (pe_callB call_len (by rfl) T.len PySem.boot_len (pa_cons (pv 1) pa_nil)) pe_int) pa_nil))))))
      (pss_one (ps_ret (pe_lc (own := [("_law_turn", 10)]) (g := gName 10) (tt := tYes) rfl scSt.nd (pi_range1 (by rfl) T.range (pa_cons (pv 4) pa_nil)) (blkOk_by (N := nSt) (sc := defScope sSt) (by decide +kernel)) (fun _ _ _ _ _ => pg_name (i := 10) scSt.nd rfl (Or.inl rfl)) (fun _ _ _ _ _ => pts_nil) (fun _ _ _ _ _ => (pe_ifExp (pt_cmpR op_lt (pe_op op_sub (pe_op op_sub (pv 4) pe_int) (pv 10)) (pe_callB (call_lenK (K := K) rfl) (by rfl) T.len PySem.boot_len (pa_cons (pv 8) pa_nil)) (nomark _)) (pe_ix (ix_listK (K := K) rfl) (pv 8) (pe_op op_sub (pe_op op_sub (pv 4) pe_int) (pv 10)) fun _ _ => rfl) pe_int)))))))), ?_⟩
    have e8 := PySem.sizeLine_eq
    have hpd := (ms_some hS.hd).2
    refine ⟨_, rfl, _, rfl, pd, _, rfl, DGet.k hpd (k := Sum.inr src), _, rfl, ?_⟩
    cases hv : valV kvs (Sum.inr src) with
    | none =>
      refine iteT ?_
      refine iteT ?_
      refine ⟨_, rfl, dl, rfl, (by omega), (by omega), fun D hD => lc_it (walk_range (lo := 0) (n := dl.toNat)) (fun j M => Same (ms (SD p tl bs) H) (ms (SD p tl bs) M) ∧ DrS K M p tl pd bs kvs us ts (n + j) ∧ ∃ ns : List Int, M D = some (.lst (ns.map V.int)) ∧ ns.length = j ∧ ∀ m ∈ ns, 0 ≤ m ∧ m < (ts.length : Int)) ⟨Same.tr (Same.refl _) (ms_up (Same.put hD)), hS.up (Same.put hD), [], upd_same, rfl, fun m hm => (nomatch hm)⟩ (fun _ _ _ _ => trivial) ?_ ?_⟩
      · rintro j x M M' hj ⟨mM, hM, ns, md, nl, hns⟩ ⟨rfl, _⟩
        have nS := hS.out hD
        have nDp : D ≠ p := fun z => nS (.inl z)
        have hul := hM.hk.length
        have hz := hM.nz
        refine ⟨rfl, _, rfl, _, rfl, _, _, rfl, .inl ⟨_, SqL.of hM.ht, rfl⟩, p, _, n + j, rfl, hM.bx, (by omega), log_le (by omega), (by omega), fun d4 H4 d40 d41 hb4 hk4 => ?_⟩
        have d4D := (hk4 D nDp).trans md
        have e4 : ms (SD p tl bs) H4 = ms (SD p tl bs) M' := ms_eqS fun b hb => hk4 b fun z => hb (.inl z)
        have hDH : H D = none := ms_noneS (Same.refl _) nS hD
        refine ⟨_, d4D, (by rw [List.length_map]; omega), ?_, (hM.take hb4 hk4).other nS d4D, ns ++ [d4], ?_, ?_, ?_⟩
        · rw [ms_upd nS, e4]
          exact Same.at0 (ms_nil hDH) mM
        · rw [upd_same, List.map_append]
          rfl
        · rw [List.length_append, List.length_singleton, nl]
        · intro m hm
          rcases List.mem_append.mp hm with z | z
          · exact hns m z
          · rw [List.mem_singleton.mp z]
            omega
      · rintro M ⟨mM, hM, ns, md, nl, hns⟩
        exact q D ns us ts M mM (ms_noneS (Same.refl _) (hS.out hD) hD) md (hS.out hD) (by omega) hns ⟨[], (List.append_nil _).symm⟩ htl (hM.mono (by omega))
    | some v =>
      refine iteF ?_
      refine ⟨_, rfl, p, 3, n, rfl, hS.bx, (by decide), (by decide), (by omega), fun d0 G d00 d01 hb0 hk0 => ⟨rfl, _, rfl, ?_⟩⟩
      have eG : ms (SD p tl bs) G = ms (SD p tl bs) H := ms_eqS fun b hb => hk0 b fun z => hb (.inl z)
      have mG : Same (ms (SD p tl bs) H) (ms (SD p tl bs) G) := by rw [eG]; exact Same.refl _
      have hG' := hS.take hb0 hk0
      refine ite2 (fun h => ?_) (fun h => ?_)
      · refine ⟨_, rfl, dl, rfl, (by omega), (by omega), fun D hD => lc_it (walk_range (lo := 0) (n := dl.toNat)) (fun j M => Same (ms (SD p tl bs) H) (ms (SD p tl bs) M) ∧ DrS K M p tl pd bs kvs us ts (n + 1 + j) ∧ ∃ ns : List Int, M D = some (.lst (ns.map V.int)) ∧ ns.length = j ∧ ∀ m ∈ ns, 0 ≤ m ∧ m < (ts.length : Int)) ⟨Same.tr mG (ms_up (Same.put hD)), hG'.up (Same.put hD), [], upd_same, rfl, fun m hm => (nomatch hm)⟩ (fun _ _ _ _ => trivial) ?_ ?_⟩
        · rintro j x M M' hj ⟨mM, hM, ns, md, nl, hns⟩ ⟨rfl, _⟩
          have nS := hG'.out hD
          have nDp : D ≠ p := fun z => nS (.inl z)
          have hul := hM.hk.length
          have hz := hM.nz
          refine ⟨rfl, _, rfl, _, rfl, _, _, rfl, .inl ⟨_, SqL.of hM.ht, rfl⟩, p, _, n + 1 + j, rfl, hM.bx, (by omega), log_le (by omega), (by omega), fun d4 H4 d40 d41 hb4 hk4 => ?_⟩
          have d4D := (hk4 D nDp).trans md
          have e4 : ms (SD p tl bs) H4 = ms (SD p tl bs) M' := ms_eqS fun b hb => hk4 b fun z => hb (.inl z)
          have hDH : H D = none := ms_noneS mG nS hD
          refine ⟨_, d4D, (by rw [List.length_map]; omega), ?_, (hM.take hb4 hk4).other nS d4D, ns ++ [d4], ?_, ?_, ?_⟩
          · rw [ms_upd nS, e4]
            exact Same.at0 (ms_nil hDH) mM
          · rw [upd_same, List.map_append]
            rfl
          · rw [List.length_append, List.length_singleton, nl]
          · intro m hm
            rcases List.mem_append.mp hm with z | z
            · exact hns m z
            · rw [List.mem_singleton.mp z]
              omega
        · rintro M ⟨mM, hM, ns, md, nl, hns⟩
          exact q D ns us ts M mM (ms_noneS mG (hG'.out hD) hD) md (hG'.out hD) (by omega) hns ⟨[], (List.append_nil _).symm⟩ htl (hM.mono (by omega))
      · obtain ⟨t, sy, mn, b, rfl, hq, hsy, mn1, mn3, hb⟩ := hG'.hv src v hv
        refine ⟨_, rfl, _, rfl, pd, _, rfl, (by rw [← hv]; exact DGet.k (ms_some hG'.hd).2 (k := Sum.inr src)), gate_asg (.inr (upT ms_same hq)) (q := ?_)⟩
        obtain ⟨ys0, hy0, hy1, hy2⟩ := hG'.hb b hb
        obtain ⟨W, hW⟩ : ∃ W, W = (fun (m : Nat) (σ : L2.St) (M : Hp) => ∃ (us' : List V) (ts' : List EdgeK) (ys : List Int) (n' : Nat), σ = [some (.ref p), some (.ref tl), some (.ref pd), some (.str src), some (.int dl), some (.int mo), some (.str sy), some (.int mn), some (.ref b), none, none] ∧ Same (ms (SD p tl bs) H) (ms (SD p tl bs) M) ∧ DrS K M p tl pd bs kvs us' ts' n' ∧ n' + 4 * m ≤ n + 200 ∧ M b = some (.lst (ys.map V.int)) ∧ ys.length ≤ ts'.length ∧ (∀ y ∈ ys, 0 ≤ y ∧ y < (ts'.length : Int)) ∧ (∃ more, ts' = ts ++ more) ∧ ts'.length ≤ 60 ∧ m = dl.toNat - ys.length) := ⟨_, rfl⟩
        refine ⟨W, ⟨_, by rw [hW]; exact ⟨us, ts, ys0, n + 1, rfl, mG, hG', (by omega), hy0, hy1, hy2, ⟨[], (List.append_nil _).symm⟩, htl, rfl⟩⟩, ?_⟩
        intro m σ M hw
        rw [hW] at hw
        obtain ⟨us', ts', ys, n', rfl, mM, hM, hn', my, yl, yr, ⟨more, hmore⟩, htl', rfl⟩ := hw
        have nbp : b ≠ p := fun z => hM.bp (by rw [← z]; exact hb)
        have nbt : b ≠ tl := fun z => hM.bt (by rw [← z]; exact hb)
        have hul := hM.hk.length
        have hz := hM.nz
        refine ⟨_, rfl, _, _, rfl, .inl ⟨_, SqL.of my, rfl⟩, _, rfl, _, _, rfl, rfl, _, rfl, ?_⟩
        refine ite2 (fun h1 => ?_) (fun h1 => ?_)
        · have h1' := of_decide_eq_true h1
          rw [List.length_map] at h1'
          refine ⟨_, rfl, _, _, rfl, .inl ⟨_, SqL.of hM.ht, rfl⟩, _, rfl, _, _, rfl, rfl, _, rfl, ?_⟩
          refine ite2 (fun h2 => ?_) (fun h2 => ?_)
          · have h2' := of_decide_eq_true h2
            refine ⟨fun σ' M' => ∃ m', m' < dl.toNat - ys.length ∧ W m' σ' M', fun σ' M' h => h, ?_⟩
            refine ⟨_, rfl, .inl ⟨rfl, _, SqL.of hM.ht⟩, _, rfl, _, rfl, mn, rfl, (by omega), (by omega), fun D hD => lc_it (walk_range (lo := 0) (n := mn.toNat)) (fun j N => Same (ms (SD p tl bs) H) (ms (SD p tl bs) N) ∧ DrS K N p tl pd bs kvs us' ts' (n' + j) ∧ N b = some (.lst (ys.map V.int)) ∧ ∃ ns : List Int, N D = some (.lst (ns.map V.int)) ∧ ns.length = j ∧ ∀ m ∈ ns, 0 ≤ m ∧ m < (ts'.length : Int)) ⟨Same.tr mM (ms_up (Same.put hD)), hM.up (Same.put hD), Same.put hD _ _ my, [], upd_same, rfl, fun m hm => (nomatch hm)⟩ (fun _ _ _ _ => trivial) ?_ ?_⟩
            · rintro j x N N' hj ⟨mN, hN, nb', ns, nd, nl, hns⟩ ⟨rfl, _⟩
              have nS := hM.out hD
              have nDp : D ≠ p := fun z => nS (.inl z)
              have nDb : b ≠ D := fun z => nS (.inr (.inr (by rw [← z]; exact hb)))
              refine ⟨rfl, _, rfl, _, rfl, _, _, rfl, .inl ⟨_, SqL.of hN.ht, rfl⟩, p, _, n' + j, rfl, hN.bx, (by omega), log_le (by omega), (by omega), fun d4 H4 d40 d41 hb4 hk4 => ?_⟩
              have d4D := (hk4 D nDp).trans nd
              have e4 : ms (SD p tl bs) H4 = ms (SD p tl bs) N' := ms_eqS fun b hb => hk4 b fun z => hb (.inl z)
              have hDH : H D = none := ms_noneS mM nS hD
              refine ⟨_, d4D, (by rw [List.length_map]; omega), ?_, (hN.take hb4 hk4).other nS d4D, (upd_ne nDb).trans ((hk4 b nbp).trans nb'), ns ++ [d4], ?_, ?_, ?_⟩
              · rw [ms_upd nS, e4]
                exact Same.at0 (ms_nil hDH) mN
              · rw [upd_same, List.map_append]
                rfl
              · rw [List.length_append, List.length_singleton, nl]
              · intro m hm
                rcases List.mem_append.mp hm with z | z
                · exact hns m z
                · rw [List.mem_singleton.mp z]
                  omega
            · rintro N ⟨mN, hN, nb', ns, nd, nl, hns⟩
              refine ⟨D, _, rfl, .inl ⟨SqL.of nd, fun t' et => ⟨(by show 2 ≤ sizeLine; decide), fun r er => ?_⟩⟩⟩
              have kt := Same.put (o := .tup (ns.map V.int)) et
              have kr := Same.put (o := .tup [V.str sy, V.ref t']) er
              have ktr := Same.tr kt kr
              have nt' := hN.out et
              have nr' := (hN.up kt).out er
              have hrow : KEdge K (ms (SD p tl bs) (upd (upd N t' (.tup (ns.map V.int))) r (.tup [V.str sy, V.ref t']))) (.ref r) (sy, ns) := ⟨r, t', rfl, SqT.of (ms_at nr' upd_same), SqT.of (ms_at nt' (kr _ _ upd_same))⟩
              have hN2 := hN.up ktr
              have b2 := ktr _ _ nb'
              have m2 := Same.tr mN (ms_up (S := SD p tl bs) ktr)
              generalize upd (upd N t' (.tup (ns.map V.int))) r (.tup [V.str sy, V.ref t']) = N2 at hrow hN2 b2 m2 ⊢
              refine ⟨tl, _, _, rfl, rfl, hN2.ht, (by omega), ?_⟩
              have hN3 := hN2.row hrow hsy (by show ns.length ≤ 3; omega) hns
              have b3 := (upd_ne (o := .lst (us' ++ [V.ref r])) nbt).trans b2
              have m3 : Same (ms (SD p tl bs) H) (ms (SD p tl bs) (upd N2 tl (.lst (us' ++ [V.ref r])))) := by rw [ms_put (.inr (.inl rfl))]; exact m2
              have t3 : (upd N2 tl (.lst (us' ++ [V.ref r]))) tl = some (.lst (us' ++ [V.ref r])) := upd_same
              generalize upd N2 tl (.lst (us' ++ [V.ref r])) = N3 at hN3 b3 m3 t3 ⊢
              refine ⟨_, rfl, .inl ⟨rfl, _, SqL.of b3⟩, _, rfl, _, _, rfl, .inl ⟨_, SqL.of t3, rfl⟩, _, _, rfl, rfl, b, _, _, rfl, rfl, b3, (by rw [List.length_map]; omega), ?_⟩
              have el : (((us' ++ [V.ref r]).length : Nat) : Int) - 1 = (ts'.length : Int) := by rw [List.length_append, List.length_singleton]; omega
              have e5 : ys.map V.int ++ [V.int ((((us' ++ [V.ref r]).length : Nat) : Int) - 1)] = (ys ++ [(ts'.length : Int)]).map V.int := by rw [el, List.map_append]; rfl
              have hl4 : (ts' ++ [(sy, ns)]).length = ts'.length + 1 := by rw [List.length_append, List.length_singleton]
              have yr4 : ∀ y ∈ ys, 0 ≤ y ∧ y < ((ts' ++ [(sy, ns)]).length : Int) := fun y hy => by have := yr y hy; rw [hl4]; omega
              have hN4 := hN3.num hb (xs := ys) (x := (ts'.length : Int)) (by omega) yr4 (by rw [hl4]; omega)
              rw [← e5] at hN4
              refine ⟨dl.toNat - (ys.length + 1), by omega, ?_⟩
              rw [hW]
              refine ⟨us' ++ [V.ref r], ts' ++ [(sy, ns)], ys ++ [(ts'.length : Int)], n' + mn.toNat, rfl, ?_, hN4, (by omega), (by rw [← e5]; exact upd_same), (by rw [List.length_append, List.length_singleton]; omega), fun y hy => ?_, ⟨more ++ [(sy, ns)], by rw [hmore, List.append_assoc]⟩, (by omega), (by rw [List.length_append, List.length_singleton])⟩
              · rw [ms_put (.inr (.inr hb))]
                exact m3
              · rcases List.mem_append.mp hy with w | w
                · exact yr4 y w
                · rw [List.mem_singleton.mp w, hl4]
                  omega
          · refine ⟨_, rfl, dl, rfl, (by omega), (by omega), fun D hD => lc_it (walk_range (lo := 0) (n := dl.toNat)) (fun j N => Same M N ∧ ∃ xs : List Int, N D = some (.lst (xs.map V.int)) ∧ xs.length = j ∧ ∀ x ∈ xs, 0 ≤ x ∧ x < (ts'.length : Int)) ⟨Same.put hD, [], upd_same, rfl, fun m hm => (nomatch hm)⟩ (fun _ _ _ _ => trivial) ?_ ?_⟩
            · rintro j x N N' hj ⟨kN, xs, nd, xl, xr⟩ ⟨rfl, hx⟩
              have hx' : x = .int (j : Nat) := by rw [hx]; show V.int (0 + ((j : Nat) : Int)) = _; rw [Int.zero_add]
              clear hx
              subst hx'
              have acc : ∀ z : Int, 0 ≤ z ∧ z < (ts'.length : Int) → ∃ ac, N' D = some (.lst ac) ∧ ac.length < sizeLine ∧ Same M (upd N' D (.lst (ac ++ [V.int z]))) ∧ ∃ xs : List Int, (upd N' D (.lst (ac ++ [V.int z]))) D = some (.lst (xs.map V.int)) ∧ xs.length = j + 1 ∧ ∀ x ∈ xs, 0 ≤ x ∧ x < (ts'.length : Int) := fun z hz => by
                refine ⟨_, nd, (by rw [List.length_map]; omega), Same.at0 hD kN, xs ++ [z], by rw [upd_same, List.map_append]; rfl, by rw [List.length_append, List.length_singleton, xl], fun x hx => ?_⟩
                rcases List.mem_append.mp hx with w | w
                · exact xr x w
                · rw [List.mem_singleton.mp w]
                  exact hz
              refine ⟨rfl, _, rfl, _, _, rfl, rfl, _, rfl, _, _, rfl, rfl, _, rfl, _, _, rfl, .inl ⟨_, SqL.of (kN _ _ my), rfl⟩, _, _, rfl, rfl, _, rfl, ?_⟩
              refine ite2 (fun h => ?_) (fun h => ?_)
              · have h' := of_decide_eq_true h
                rw [List.length_map] at h'
                exact ⟨_, rfl, _, rfl, _, _, rfl, rfl, _, rfl, _, _, rfl, rfl, b, _, _, _, rfl, rfl, SqL.of (kN _ _ my), atI_at rfl (by omega) h', acc _ (yr _ (atL_mem (by omega) h'))⟩
              · exact acc 0 (by omega)
            · rintro N ⟨kN, xs, nd, xl, xr⟩
              exact q D xs us' ts' N (Same.tr mM (ms_up kN)) (ms_noneS mM (hM.out hD) hD) nd (hM.out hD) (by omega) xr ⟨more, hmore⟩ htl' ((hM.up kN).mono (by omega))
        · refine iteF ?_
          refine ⟨_, rfl, dl, rfl, (by omega), (by omega), fun D hD => lc_it (walk_range (lo := 0) (n := dl.toNat)) (fun j N => Same M N ∧ ∃ xs : List Int, N D = some (.lst (xs.map V.int)) ∧ xs.length = j ∧ ∀ x ∈ xs, 0 ≤ x ∧ x < (ts'.length : Int)) ⟨Same.put hD, [], upd_same, rfl, fun m hm => (nomatch hm)⟩ (fun _ _ _ _ => trivial) ?_ ?_⟩
          · rintro j x N N' hj ⟨kN, xs, nd, xl, xr⟩ ⟨rfl, hx⟩
            have hx' : x = .int (j : Nat) := by rw [hx]; show V.int (0 + ((j : Nat) : Int)) = _; rw [Int.zero_add]
            clear hx
            subst hx'
            have acc : ∀ z : Int, 0 ≤ z ∧ z < (ts'.length : Int) → ∃ ac, N' D = some (.lst ac) ∧ ac.length < sizeLine ∧ Same M (upd N' D (.lst (ac ++ [V.int z]))) ∧ ∃ xs : List Int, (upd N' D (.lst (ac ++ [V.int z]))) D = some (.lst (xs.map V.int)) ∧ xs.length = j + 1 ∧ ∀ x ∈ xs, 0 ≤ x ∧ x < (ts'.length : Int) := fun z hz => by
              refine ⟨_, nd, (by rw [List.length_map]; omega), Same.at0 hD kN, xs ++ [z], by rw [upd_same, List.map_append]; rfl, by rw [List.length_append, List.length_singleton, xl], fun x hx => ?_⟩
              rcases List.mem_append.mp hx with w | w
              · exact xr x w
              · rw [List.mem_singleton.mp w]
                exact hz
            refine ⟨rfl, _, rfl, _, _, rfl, rfl, _, rfl, _, _, rfl, rfl, _, rfl, _, _, rfl, .inl ⟨_, SqL.of (kN _ _ my), rfl⟩, _, _, rfl, rfl, _, rfl, ?_⟩
            refine ite2 (fun h => ?_) (fun h => ?_)
            · have h' := of_decide_eq_true h
              rw [List.length_map] at h'
              exact ⟨_, rfl, _, rfl, _, _, rfl, rfl, _, rfl, _, _, rfl, rfl, b, _, _, _, rfl, rfl, SqL.of (kN _ _ my), atI_at rfl (by omega) h', acc _ (yr _ (atL_mem (by omega) h'))⟩
            · exact acc 0 (by omega)
          · rintro N ⟨kN, xs, nd, xl, xr⟩
            exact q D xs us' ts' N (Same.tr mM (ms_up kN)) (ms_noneS mM (hM.out hD) hD) nd (hM.out hD) (by omega) xr ⟨more, hmore⟩ htl' ((hM.up kN).mono (by omega))
end
end T10
set_option Elab.async false
set_option linter.all false
set_option maxRecDepth 100000
set_option maxHeartbeats 4000000
/-! drawn gates and outs are the lists of a network -/
namespace T10
open PySem PySem.Spec PyProof.Rows L2 Tp
/-- an edge that was drawn for the gate at a place -/
structure EdgO (ins names : List Str) (N j : Nat) (e : EdgeK) : Prop where
  sr : e.1 ∈ ins ++ names
  la : e.2 = [] → e.1 ∈ ins ∨ e.1 ∈ names.take j
  st : ∀ m ∈ e.2, 0 ≤ m ∧ m < (N : Int)
  ln : e.2.length ≤ 30
/-- gates that were drawn, one after another; the names that no later gate reads yet -/
structure DrG (ins names : List Str) (N : Nat) (gs : List GateK) (loose : List Str) : Prop where
  nm : gs.map (·.1) = names.take gs.length
  gl : gs.length ≤ names.length
  sy : ∀ g ∈ gs, nameB (TL.tl g.2.1) = true ∧ 1 ≤ g.2.2.length ∧ g.2.2.length ≤ 3
  ed : ∀ (j : Nat) g, gs[j]? = some g → ∀ e ∈ g.2.2, EdgO ins names N j e
  e0 : ∀ (j : Nat) g, gs[j]? = some g → ∃ e ∈ g.2.2, e.1 ∈ ins ++ names.take j
  lo : ∀ n ∈ loose, n ∈ names.take gs.length
  rd : ∀ (j : Nat) g, gs[j]? = some g → g.1 ∈ loose ∨ ∃ (k : Nat) (h : GateK), j < k ∧ gs[k]? = some h ∧ ∃ e ∈ h.2.2, e.1 = g.1
  ll : loose.length ≤ 3
theorem name_at {ins names : List Str} {N : Nat} {gs : List GateK} {loose : List Str} (h : DrG ins names N gs loose) {j : Nat} {g : GateK} (hg : gs[j]? = some g) : names[j]? = some g.1 := by
  have h1 : (gs.map (·.1))[j]? = some g.1 := by rw [List.getElem?_map, hg]; rfl
  rw [h.nm] at h1
  have hj := (List.getElem?_eq_some_iff.mp hg).1
  rwa [List.getElem?_take, if_pos hj] at h1
theorem take_at {names : List Str} {j : Nat} {n : Str} (h : n ∈ names.take j) : ∃ i, i < j ∧ names[i]? = some n := by
  obtain ⟨i, hi, e⟩ := List.getElem_of_mem h
  rw [List.length_take] at hi
  rw [List.getElem_take] at e
  exact ⟨i, by omega, by rw [List.getElem?_eq_getElem (by omega), e]⟩
theorem drawn_fed {ins names : List Str} {N : Nat} {gs : List GateK} {loose : List Str} (h : DrG ins names N gs loose) : ∀ (m j : Nat) (g : GateK), j < m → gs[j]? = some g → Fed ins gs g.1
  | 0, j, _, hj, _ => absurd hj (Nat.not_lt_zero _)
  | m + 1, j, g, hj, hg => by
    obtain ⟨e, he, hs⟩ := h.e0 j g hg
    refine .step (List.mem_of_getElem? hg) he ?_
    rcases List.mem_append.mp hs with z | z
    · exact .inp z
    · obtain ⟨i, hi, e1⟩ := take_at z
      have hil : i < gs.length := by
        have := (List.getElem?_eq_some_iff.mp hg).1
        omega
      have e2 := name_at h (List.getElem?_eq_getElem hil)
      rw [e1] at e2
      rw [Option.some.inj e2]
      exact drawn_fed h m i _ (by omega) (List.getElem?_eq_getElem hil)
theorem drawn_led {ins names : List Str} {N : Nat} {gs : List GateK} {loose : List Str} (h : DrG ins names N gs loose) {os : List EdgeK} (ho : ∀ n ∈ loose, ∃ e ∈ os, e.1 = n) : ∀ (m j : Nat) (g : GateK), gs.length - j ≤ m → gs[j]? = some g → Led gs os g.1
  | 0, j, g, hj, hg => by
    have := (List.getElem?_eq_some_iff.mp hg).1
    omega
  | m + 1, j, g, hj, hg => by
    rcases h.rd j g hg with z | ⟨k, h', hk, hh, e, he, e1⟩
    · obtain ⟨e, he, e1⟩ := ho _ z
      rw [← e1]
      exact .out he
    · rw [← e1]
      have := (List.getElem?_eq_some_iff.mp hg).1
      exact .step (List.mem_of_getElem? hh) (drawn_led h ho m k h' (by omega) hh) he
/-- an edge of an out -/
structure OutO (ins names : List Str) (N : Nat) (e : EdgeK) : Prop where
  sr : e.1 ∈ ins ++ names
  st : ∀ m ∈ e.2, 0 ≤ m ∧ m < (N : Int)
  ln : e.2.length ≤ 30
theorem idx_at {names : List Str} (nd : names.Nodup) {i : Nat} {n : Str} (h : names[i]? = some n) : names.idxOf n = i := by
  have hm := List.mem_of_getElem? h
  have hi := List.idxOf_lt_length_of_mem hm
  have hl := (List.getElem?_eq_some_iff.mp h).1
  have e : names[names.idxOf n]? = some n := by rw [List.getElem?_eq_getElem hi, List.getElem_idxOf]
  exact (List.getElem?_inj hi nd).mp (e.trans h.symm)
theorem drawn_ok {ins names : List Str} {gs : List GateK} {loose : List Str} {os ts : List EdgeK} (h : DrG ins names ts.length gs loose) (hl : gs.length = names.length) (hn : ∀ n ∈ ins ++ names, nameB (TL.tl n) = true) (hd : (ins ++ names).Nodup) (hI : ins.length ≤ 10) (hG : names.length ≤ 20) (hts : TermsOk ts) (ht : ts.length ≤ 60) (ho : ∀ n ∈ loose, ∃ e ∈ os, e.1 = n) (hO : os.length ≤ 10) (hoo : ∀ e ∈ os, OutO ins names ts.length e) : NetOk ins gs os ts := by
  have hnm : gs.map (·.1) = names := by rw [h.nm, hl, List.take_length]
  have hjo : ∀ e ∈ joinedE gs os, e.1 ∈ ins ++ names ∧ (∀ m ∈ e.2, 0 ≤ m ∧ m < (ts.length : Int)) ∧ e.2.length ≤ 30 := fun e he => by
    rcases List.mem_append.mp he with z | z
    · obtain ⟨g, hg, he⟩ := List.mem_flatMap.mp z
      obtain ⟨j, hj, ej⟩ := List.getElem_of_mem hg
      have := h.ed j g (by rw [List.getElem?_eq_getElem hj, ej]) e he
      exact ⟨this.sr, this.st, this.ln⟩
    · have := hoo e z
      exact ⟨this.sr, this.st, this.ln⟩
  refine ⟨by rw [hnm]; exact hn, by rw [hnm]; exact hd, h.sy, hts, fun e he => ?_, ⟨fun n => names.idxOf n, fun g hg s hs => ?_⟩, fun g hg => ?_, fun g hg => ?_, by omega, by omega, by omega, by omega, ?_⟩
  · obtain ⟨h1, h2, h3⟩ := hjo e he
    exact ⟨by rw [hnm]; exact h1, h2, by omega⟩
  · obtain ⟨j, hj, ej⟩ := List.getElem_of_mem hg
    have hgj : gs[j]? = some g := by rw [List.getElem?_eq_getElem hj, ej]
    unfold dirS at hs
    obtain ⟨e, he, rfl⟩ := List.mem_map.mp hs
    obtain ⟨he1, he2⟩ := List.mem_filter.mp he
    rw [Bool.and_eq_true] at he2
    have hm : e.1 ∈ names := by rw [← hnm]; exact of_decide_eq_true he2.1
    have hE := h.ed j g hgj e he1
    have he3 : e.2 = [] := List.isEmpty_iff.mp he2.2
    rcases hE.la he3 with z | z
    · exact absurd rfl ((List.nodup_append.mp hd).2.2 _ z _ hm)
    · obtain ⟨i, hi, e1⟩ := take_at z
      have nd := (List.nodup_append.mp hd).2.1
      show names.idxOf e.1 < names.idxOf g.1
      rw [idx_at nd e1, idx_at nd (name_at h hgj)]
      exact hi
  · obtain ⟨j, hj, ej⟩ := List.getElem_of_mem hg
    exact drawn_fed h (j + 1) j g (Nat.lt_succ_self _) (by rw [List.getElem?_eq_getElem hj, ej])
  · obtain ⟨j, hj, ej⟩ := List.getElem_of_mem hg
    exact drawn_led h ho _ j g (Nat.le_refl _) (by rw [List.getElem?_eq_getElem hj, ej])
  · have go : ∀ (l : List EdgeK), (∀ e ∈ l, e.2.length ≤ 30) → (l.flatMap fun e => e.2).length ≤ 30 * l.length := by
      intro l
      induction l with
      | nil => intro _; exact Nat.zero_le _
      | cons e l ih =>
        intro hh
        have h1 := hh e List.mem_cons_self
        have h2 := ih fun e' he' => hh e' (List.mem_cons_of_mem _ he')
        rw [List.flatMap_cons, List.length_append, List.length_cons]
        omega
    have h1 := go (joinedE gs os) fun e he => (hjo e he).2.2
    have go2 : ∀ (l : List GateK), (∀ g ∈ l, g.2.2.length ≤ 3) → (l.flatMap fun g => g.2.2).length ≤ 3 * l.length := by
      intro l
      induction l with
      | nil => intro _; exact Nat.zero_le _
      | cons g l ih =>
        intro hh
        have h1 := hh g List.mem_cons_self
        have h2 := ih fun e' he' => hh e' (List.mem_cons_of_mem _ he')
        rw [List.flatMap_cons, List.length_append, List.length_cons]
        omega
    have h2 := go2 gs fun g hg => (h.sy g hg).2.2
    have h3 : (joinedE gs os).length ≤ 3 * gs.length + os.length := by
      unfold joinedE
      rw [List.length_append]
      omega
    show ((joinedE gs os).flatMap fun e => e.2).length ≤ 100000
    omega
/-- the same gates and outs in another order -/
theorem NetOk.perm {ins : List Str} {gs gs' : List GateK} {os os' ts : List EdgeK} (h : NetOk ins gs os ts) (hg : List.Perm gs' gs) (ho : List.Perm os' os) : NetOk ins gs' os' ts := by
  have hnp : List.Perm (gs'.map (·.1)) (gs.map (·.1)) := hg.map _
  have hj : List.Perm (joinedE gs' os') (joinedE gs os) := by
    unfold joinedE
    exact List.Perm.append (hg.flatMap_right _) ho
  have mm : ∀ n, n ∈ ins ++ gs'.map (·.1) ↔ n ∈ ins ++ gs.map (·.1) := fun n => by rw [List.mem_append, List.mem_append, hnp.mem_iff]
  have fed : ∀ n, Fed ins gs n → Fed ins gs' n := fun n q => by
    induction q with
    | inp h => exact .inp h
    | step hg' he _ ih => exact .step (hg.mem_iff.mpr hg') he ih
  have led : ∀ n, Led gs os n → Led gs' os' n := fun n q => by
    induction q with
    | out h => exact .out (ho.mem_iff.mpr h)
    | step hg' _ he ih => exact .step (hg.mem_iff.mpr hg') ih he
  obtain ⟨rk, hrk⟩ := h.rk
  refine ⟨fun n hn => h.nm n ((mm n).mp hn), (List.Perm.append_left ins hnp).nodup_iff.mpr h.nd, fun g hg' => h.gt g (hg.mem_iff.mp hg'), h.tm, fun e he => ?_, ⟨rk, fun g hg' s hs => ?_⟩, fun g hg' => fed _ (h.fd g (hg.mem_iff.mp hg')), fun g hg' => led _ (h.ld g (hg.mem_iff.mp hg')), h.nI, by rw [hg.length_eq]; exact h.nG, by rw [ho.length_eq]; exact h.nO, h.nT, ?_⟩
  · obtain ⟨h1, h2, h3⟩ := h.ed e (hj.mem_iff.mp he)
    exact ⟨(mm _).mpr h1, h2, h3⟩
  · refine hrk g (hg.mem_iff.mp hg') s ?_
    unfold dirS at hs ⊢
    obtain ⟨e, he, rfl⟩ := List.mem_map.mp hs
    obtain ⟨he1, he2⟩ := List.mem_filter.mp he
    rw [Bool.and_eq_true] at he2
    refine List.mem_map_of_mem (List.mem_filter.mpr ⟨he1, ?_⟩)
    rw [Bool.and_eq_true]
    exact ⟨decide_eq_true (hnp.mem_iff.mp (of_decide_eq_true he2.1)), he2.2⟩
  · have : List.Perm (startsE gs' os') (startsE gs os) := hj.flatMap_right _
    rw [this.length_eq]
    exact h.nS
theorem EdgO.mono {ins names : List Str} {N N' j : Nat} {e : EdgeK} (h : EdgO ins names N j e) (hN : N ≤ N') : EdgO ins names N' j e := ⟨h.sr, h.la, fun m hm => by have := h.st m hm; omega, h.ln⟩
theorem DrG.mono {ins names : List Str} {N N' : Nat} {gs : List GateK} {loose : List Str} (h : DrG ins names N gs loose) (hN : N ≤ N') : DrG ins names N' gs loose := ⟨h.nm, h.gl, h.sy, fun j g hg e he => (h.ed j g hg e he).mono hN, h.e0, h.lo, h.rd, h.ll⟩
/-- the loose names that these edges do not read -/
def leftL (loose : List Str) (es : List EdgeK) : List Str := loose.filter fun n => decide (∀ e ∈ es, e.1 ≠ n)
theorem leftL_snoc (loose : List Str) (es : List EdgeK) (e : EdgeK) : leftL loose (es ++ [e]) = (leftL loose es).filter fun n => decide (n ≠ e.1) := by
  unfold leftL
  rw [List.filter_filter]
  refine List.filter_congr fun n _ => ?_
  rw [← Bool.decide_and]
  refine decide_eq_decide.mpr ⟨fun h => ⟨fun z => h e (List.mem_append_right _ List.mem_cons_self) z.symm, fun e' he' => h e' (List.mem_append_left _ he')⟩, fun ⟨h1, h2⟩ e' he' => ?_⟩
  rcases List.mem_append.mp he' with z | z
  · exact h2 e' z
  · rw [List.mem_singleton.mp z]
    exact fun w => h1 w.symm
theorem leftL_nil (loose : List Str) : leftL loose [] = loose := List.filter_eq_self.mpr fun n _ => decide_eq_true fun e he => (nomatch he)
/-- one more gate -/
theorem DrG.snoc {ins names : List Str} {N : Nat} {gs : List GateK} {loose : List Str} (h : DrG ins names N gs loose) {g : GateK} (hn : names[gs.length]? = some g.1) (hs : nameB (TL.tl g.2.1) = true ∧ 1 ≤ g.2.2.length ∧ g.2.2.length ≤ 3) (he : ∀ e ∈ g.2.2, EdgO ins names N gs.length e) (h0 : ∃ e ∈ g.2.2, e.1 ∈ ins ++ names.take gs.length) (hl : (leftL loose g.2.2).length ≤ 2) : DrG ins names N (gs ++ [g]) (leftL loose g.2.2 ++ [g.1]) := by
  have hlt := (List.getElem?_eq_some_iff.mp hn).1
  have split : ∀ {j : Nat} {g' : GateK}, (gs ++ [g])[j]? = some g' → gs[j]? = some g' ∨ (j = gs.length ∧ g' = g) := fun {j g'} e => by
    rcases Nat.lt_or_ge j gs.length with z | z
    · rw [List.getElem?_append_left z] at e
      exact .inl e
    · rw [List.getElem?_append_right z] at e
      have hj : j - gs.length = 0 := by
        have := (List.getElem?_eq_some_iff.mp e).1
        simp at this
        omega
      rw [hj] at e
      cases e
      exact .inr ⟨by omega, rfl⟩
  have hlen : (gs ++ [g]).length = gs.length + 1 := by rw [List.length_append, List.length_singleton]
  refine ⟨?_, by rw [hlen]; exact hlt, fun g' hg' => ?_, fun j g' hg' => ?_, fun j g' hg' => ?_, fun n hn' => ?_, fun j g' hg' => ?_, by rw [List.length_append, List.length_singleton]; omega⟩
  · rw [List.map_append, h.nm, hlen, tk_snoc hn]
    rfl
  · rcases List.mem_append.mp hg' with z | z
    · exact h.sy g' z
    · rw [List.mem_singleton.mp z]
      exact hs
  · rcases split hg' with z | ⟨rfl, rfl⟩
    · exact h.ed j g' z
    · exact he
  · rcases split hg' with z | ⟨rfl, rfl⟩
    · exact h.e0 j g' z
    · exact h0
  · rw [hlen, tk_snoc hn]
    rcases List.mem_append.mp hn' with z | z
    · exact List.mem_append_left _ (h.lo n (List.mem_filter.mp z).1)
    · exact List.mem_append_right _ z
  · rcases split hg' with z | ⟨rfl, rfl⟩
    · have hj := (List.getElem?_eq_some_iff.mp z).1
      rcases h.rd j g' z with w | ⟨k, h', hk, hh, e, he', e1⟩
      · by_cases hr : ∀ e ∈ g.2.2, e.1 ≠ g'.1
        · exact .inl (List.mem_append_left _ (List.mem_filter.mpr ⟨w, decide_eq_true hr⟩))
        · have : ∃ e ∈ g.2.2, e.1 = g'.1 := by
            refine Classical.byContradiction fun hc => hr fun e he' e1 => hc ⟨e, he', e1⟩
          obtain ⟨e, he', e1⟩ := this
          exact .inr ⟨gs.length, g, hj, by rw [List.getElem?_append_right (Nat.le_refl _), Nat.sub_self]; rfl, e, he', e1⟩
      · refine .inr ⟨k, h', hk, ?_, e, he', e1⟩
        rw [List.getElem?_append_left (List.getElem?_eq_some_iff.mp hh).1]
        exact hh
    · exact .inl (List.mem_append_right _ List.mem_cons_self)
theorem drawn_nil (ins names : List Str) (N : Nat) : DrG ins names N [] [] := ⟨rfl, Nat.zero_le _, fun g hg => (nomatch hg), fun j g hg => (nomatch hg), fun j g hg => (nomatch hg), fun n hn => (nomatch hn), fun j g hg => (nomatch hg), by decide⟩
end T10
set_option Elab.async false
set_option linter.all false
set_option maxRecDepth 100000
set_option maxHeartbeats 4000000
namespace T10
open PySem PySem.Spec PyProof.Rows L2 Tp
section
variable {P : Program} {w : World} {K : PySem.W.Frag} {mg : Str → Option Value} {base : Heap} {f : Addr} {fd : FuncData}


/-- the law's own list of edges: reader, slot, source, delays -/
abbrev RowX : Type := V × Int × Str × Int
def rowsOf (x : V) (es : List EdgeK) : List RowX := es.zipIdx.map fun e => (x, (e.2 : Int), e.1.1, (e.1.2.length : Int))
def rowsOuts (os : List EdgeK) : List RowX := os.zipIdx.map fun e => (V.int (e.2 : Nat), 0, e.1.1, (e.1.2.length : Int))
def rowsE (gs : List GateK) (os : List EdgeK) : List RowX := (gs.flatMap fun g => rowsOf (.str g.1) g.2.2) ++ rowsOuts os
def RowXAt (K : PySem.W.Frag) (H : Hp) (u : V) (r : RowX) : Prop := ∃ t, u = .ref t ∧ SqT K H t [r.1, .int r.2.1, .str r.2.2.1, .int r.2.2.2]
def RowsXAt (K : PySem.W.Frag) (H : Hp) (us : List V) (rs : List RowX) : Prop := Paired (RowXAt K H) us rs
theorem RowsXAt.mono {K : PySem.W.Frag} {H H' : Hp} {us : List V} {xs : List RowX} (ht : ∀ b ys, SqT K H b ys → SqT K H' b ys) (h : RowsXAt K H us xs) : RowsXAt K H' us xs := by
  refine Paired.mono (fun a b q => ?_) h
  obtain ⟨t, e, q⟩ := q
  exact ⟨t, e, ht _ _ q⟩
theorem rowsOf_snoc (x : V) (es : List EdgeK) (e : EdgeK) : rowsOf x (es ++ [e]) = rowsOf x es ++ [(x, (es.length : Int), e.1, (e.2.length : Int))] := by
  unfold rowsOf
  rw [List.zipIdx_append, List.map_append, Nat.zero_add]
  rfl
theorem rowsOuts_snoc (es : List EdgeK) (e : EdgeK) : rowsOuts (es ++ [e]) = rowsOuts es ++ [(V.int (es.length : Nat), 0, e.1, (e.2.length : Int))] := by
  unfold rowsOuts
  rw [List.zipIdx_append, List.map_append, Nat.zero_add]
  rfl
theorem rowsOf_len (x : V) (es : List EdgeK) : (rowsOf x es).length = es.length := by
  unfold rowsOf
  rw [List.length_map, List.length_zipIdx]
theorem rowsOuts_len (es : List EdgeK) : (rowsOuts es).length = es.length := by
  unfold rowsOuts
  rw [List.length_map, List.length_zipIdx]
def spEdgesL (K : PySem.W.Frag) : Sp := fun vs H Q _ => ∃ (t : Addr) (x y z u : V) (gs : List GateK) (os : List EdgeK), vs = [.ref t] ∧ SqT K H t [x, y, z, u] ∧ GatesD K H y gs ∧ EdgesD K H z os ∧ (joinedE gs os).length ≤ 1000 ∧
  ∀ (l : Addr) (us : List V) (H' : Hp), Same H H' → H l = none → H' l = some (.lst us) → RowsXAt K H' us (rowsE gs os) → Q (.ref l) H'

abbrev sLe : Stmt := top 61
abbrev nLe : List Str := ["_law_parts_here", "_law_found", "_law_name", "_law_symbol", "_law_edges_here", "_law_slot", "_law_at", "_law_edge"]
theorem scLe : FnScope nLe ["_law_parts_here"] (defScope sLe) := ⟨rfl, rfl, rfl, by decide +kernel, rfl, by decide +kernel, by decide +kernel⟩

theorem ok_Le (F : Fun K "_law_edges" "_law_edges" sLe f fd) (T : TxtL mg) : FnG P w K mg base CX0 1 f fd ["_law_parts_here"] (spEdgesL K) := by
  refine FunG.ok F scLe (fun vs H Q E h => ?_) (fun cdv B out s H vs Q E hr hG h => ?_)
  · obtain ⟨t, x, y, z, u, gs, os, rfl, _⟩ := h
    rfl
  · obtain ⟨t, x, y, z, u, gs, os, rfl, ht, hy, hz, hj, q⟩ := h
    refine ⟨_, (pss_cons (ps_set (i := 1) scLe.nd rfl (.inl rfl) (pe_lst pa_nil))
      (pss_cons (ps_for PassesOwn.never rfl (pi_seq (pe_ix ix_tup (pv 0) pe_int fun _ _ => rfl)) (pg_seq rfl (pgs_cons (pg_name (i := 2) scLe.nd rfl (Or.inr rfl)) (pgs_cons (pg_name (i := 3) scLe.nd rfl (Or.inl rfl)) (pgs_cons (pg_name (i := 4) scLe.nd rfl (Or.inl rfl)) pgs_nil)))) (pss_one (ps_expr (pe_bm PySem.F.plainAttrs_list PySem.F.slot_list_extend PySem.F.type_list_extend mt_extend (pv 1) (pa_cons (pe_lc (own := [("_law_slot", 5), ("_law_edge", 7)]) (g := gSeq K 2 (gCons (gName 5) (gCons (gName 7) gNil))) (tt := tYes) rfl scLe.nd (pi_enum (by rfl) T.enumerate (pa_cons (pv 4) pa_nil)) (blkOk_by (N := nLe) (sc := defScope sLe) (by decide +kernel)) (fun _ _ _ _ _ => pg_seq rfl (pgs_cons (pg_name (i := 5) scLe.nd rfl (Or.inl rfl)) (pgs_cons (pg_name (i := 7) scLe.nd rfl (Or.inl rfl)) pgs_nil))) (fun _ _ _ _ _ => pts_nil) (fun _ _ _ _ _ => (pe_tup (pa_cons (pv 2) (pa_cons (pv 5) (pa_cons (pe_ix ((ix_listK (K := K) rfl).or (ix_tupK (K := K) rfl)) (pv 7) pe_int fun _ _ => rfl) (pa_cons (pe_callB (call_lenK (K := K) rfl) (by rfl) T.len PySem.boot_len (pa_cons (pe_ix ((ix_listK (K := K) rfl).or (ix_tupK (K := K) rfl)) (pv 7) pe_int fun _ _ => rfl) pa_nil)) pa_nil))))))) pa_nil)))))
      (pss_one (ps_ret (pe_op op_cat (pv 1) (pe_lc (own := [("_law_at", 6), ("_law_edge", 7)]) (g := gSeq K 2 (gCons (gName 6) (gCons (gName 7) gNil))) (tt := tYes) rfl scLe.nd (pi_enum (by rfl) T.enumerate (pa_cons (pe_ix ix_tup (pv 0) pe_int fun _ _ => rfl) pa_nil)) (blkOk_by (N := nLe) (sc := defScope sLe) (by decide +kernel)) (fun _ _ _ _ _ => pg_seq rfl (pgs_cons (pg_name (i := 6) scLe.nd rfl (Or.inl rfl)) (pgs_cons (pg_name (i := 7) scLe.nd rfl (Or.inl rfl)) pgs_nil))) (fun _ _ _ _ _ => pts_nil) (fun _ _ _ _ _ => (pe_tup (pa_cons (pv 6) (pa_cons pe_int (pa_cons (pe_ix ((ix_listK (K := K) rfl).or (ix_tupK (K := K) rfl)) (pv 7) pe_int fun _ _ => rfl) (pa_cons (pe_callB (call_lenK (K := K) rfl) (by rfl) T.len PySem.boot_len (pa_cons (pe_ix ((ix_listK (K := K) rfl).or (ix_tupK (K := K) rfl)) (pv 7) pe_int fun _ _ => rfl) pa_nil)) pa_nil)))))))))))), ?_⟩
    refine ⟨(by show 0 ≤ sizeLine; decide), fun l hl0 => ?_⟩
    have k1 : Same H (upd H l (.lst [])) := Same.put hl0
    have h1 : (upd H l (.lst [])) l = some (.lst ([] : List V)) := upd_same
    generalize upd H l (.lst []) = H1 at k1 h1 ⊢
    dsimp only [gName]
    obtain ⟨a, gv, rfl, ha, hg⟩ := hy
    have hjj : (joinedE gs os).length = (gs.flatMap fun g => g.2.2).length + os.length := by unfold joinedE; rw [List.length_append]
    refine ⟨_, rfl, t, _, _, _, rfl, rfl, upT k1 ht, atI_nat (j := 1) rfl, a, rfl, seq_itK ha k1 fun J S wk hS => ?_⟩
    refine for_it wk (fun i σ G => ∃ o2 o3 o4 us, σ = [some (.ref t), some (.ref l), o2, o3, o4, none, none, none] ∧ Same H G ∧ G l = some (.lst us) ∧ us.length ≤ ((gs.take i).flatMap fun g => g.2.2).length ∧ RowsXAt K G us ((gs.take i).flatMap fun g => rowsOf (.str g.1) g.2.2)) ⟨_, _, _, [], rfl, k1, h1, Nat.zero_le _, .nil⟩ (fun i σ G _ ⟨_, _, _, _, _, kG, _⟩ => hS G kG) ?_ ?_
    · rintro i v σ G G' hi ⟨o2, o3, o4, us, rfl, kG, gl, ul, hP⟩ ⟨rfl, hv⟩
      obtain ⟨g, hgi, hdd⟩ := Pd.at hg hv
      have hf1 := fm_take (f := fun g : GateK => g.2.2) hgi
      have hf2 := fm_take (f := fun g : GateK => rowsOf (.str g.1) g.2.2) hgi
      have hle := fm_le (f := fun g : GateK => g.2.2) gs (i + 1)
      rw [hf1, List.length_append] at hle
      refine gate_to kG hdd (q := fun x' he => ?_)
      obtain ⟨b, es, rfl, hb, hp⟩ := he
      refine ⟨_, rfl, .inl ⟨rfl, _, SqL.of gl⟩, _, rfl, b, _, rfl, SqL.of (kG _ _ hb), fun D hD => lc_it (walk_enum (xs := es)) (fun j M => Same G' M ∧ ∃ us2, M D = some (.lst us2) ∧ RowsXAt K M us2 (rowsOf (.str g.1) (g.2.2.take j))) ⟨Same.put hD, [], upd_same, .nil⟩ (fun j M _ h => SqL.of (h.1 _ _ (kG _ _ hb))) ?_ ?_⟩
      · rintro j u M M' hj ⟨kM, us2, md, hP⟩ ⟨T', x', y', rfl, hT, rfl, hx', hy'⟩
        cases hx'
        obtain ⟨e, hej, ta, tb, rfl, hta, htb⟩ := Pd.at hp hy'
        have hjl := (List.getElem?_eq_some_iff.mp hej).1
        have hlen : (g.2.2.take j).length = j := by rw [List.length_take]; omega
        have kT := Same.put (o := .tup [V.int (j : Nat), V.ref ta]) hT
        have hT1 : SqA K (upd M T' (.tup [V.int (j : Nat), V.ref ta])) T' [V.int (j : Nat), V.ref ta] := .inr (SqT.of upd_same)
        have kM1 := Same.tr kM kT
        have md1 := kT _ _ md
        have hP1 := hP.mono fun _ _ => upT kT
        generalize upd M T' (.tup [V.int (j : Nat), V.ref ta]) = M1 at hT1 kM1 md1 hP1 ⊢
        have k0 := Same.tr kG kM1
        have hul := hP.length
        rw [rowsOf_len, hlen] at hul
        refine pair_asg hT1 (q := ?_)
        refine ⟨rfl, _, rfl, _, rfl, _, rfl, ixA (hta.up k0) (atI_nat (j := 0) rfl) ⟨_, rfl, ixA (hta.up k0) (atI_nat (j := 1) rfl) ⟨_, _, rfl, .inl ⟨_, SqL.of (k0 _ _ htb), rfl⟩, (by show 4 ≤ sizeLine; decide), fun r hr => ?_⟩⟩⟩
        have kr := Same.put (o := .tup [V.str g.1, .int (j : Nat), .str e.1, .int ((e.2.map V.int).length : Nat)]) hr
        have md2 := kr _ _ md1
        have nt := not_lst md2
        refine ⟨_, md2, (by rw [PySem.sizeLine_eq]; omega), Same.at0 hD (Same.tr kM1 kr), us2 ++ [.ref r], upd_same, ?_⟩
        rw [tk_snoc hej, rowsOf_snoc, hlen]
        refine Pd.app (RowsXAt.mono (fun _ _ h => sqt_put nt (upT kr h)) hP1) (.cons ⟨r, rfl, sqt_put nt ?_⟩ .nil)
        have := SqT.of (K := K) (upd_same (H := M1) (a := r) (o := .tup [V.str g.1, .int (j : Nat), .str e.1, .int ((e.2.map V.int).length : Nat)]))
        rw [List.length_map] at this ⊢
        exact this
      · rintro M ⟨kM, us2, md, hP2⟩
        have hul2 := hP2.length
        rw [hp.length, List.take_length] at hP2 hul2
        rw [rowsOf_len] at hul2
        have ml := kM _ _ gl
        have nDl : l ≠ D := ne_of_none gl hD
        refine ⟨l, D, us, us2, rfl, rfl, ml, md, (by rw [PySem.sizeLine_eq]; omega), ?_⟩
        have nt := not_lst ml
        refine ⟨_, _, _, us ++ us2, rfl, Same.at0 hl0 (Same.tr kG kM), upd_same, (by rw [hf1, List.length_append, List.length_append]; omega), ?_⟩
        rw [hf2]
        exact Pd.app (RowsXAt.mono (fun _ _ h => sqt_put nt (upT kM h)) hP) (RowsXAt.mono (fun _ _ h => sqt_put nt h) hP2)
    · rintro σ G ⟨o2, o3, o4, us, rfl, kG, gl, ul, hP⟩
      rw [hg.length, List.take_length] at ul hP
      obtain ⟨b, es, rfl, hb, hp⟩ := hz
      refine ⟨_, rfl, _, rfl, t, _, _, _, rfl, rfl, upT kG ht, atI_nat (j := 2) rfl, b, _, rfl, SqL.of (kG _ _ hb), fun D hD => lc_it (walk_enum (xs := es)) (fun j M => Same G M ∧ ∃ us2, M D = some (.lst us2) ∧ RowsXAt K M us2 (rowsOuts (os.take j))) ⟨Same.put hD, [], upd_same, .nil⟩ (fun j M _ h => SqL.of (h.1 _ _ (kG _ _ hb))) ?_ ?_⟩
      · rintro j u M M' hj ⟨kM, us2, md, hP⟩ ⟨T', x', y', rfl, hT, rfl, hx', hy'⟩
        cases hx'
        obtain ⟨e, hej, ta, tb, rfl, hta, htb⟩ := Pd.at hp hy'
        have hjl := (List.getElem?_eq_some_iff.mp hej).1
        have hlen : (os.take j).length = j := by rw [List.length_take]; omega
        have kT := Same.put (o := .tup [V.int (j : Nat), V.ref ta]) hT
        have hT1 : SqA K (upd M T' (.tup [V.int (j : Nat), V.ref ta])) T' [V.int (j : Nat), V.ref ta] := .inr (SqT.of upd_same)
        have kM1 := Same.tr kM kT
        have md1 := kT _ _ md
        have hP1 := hP.mono fun _ _ => upT kT
        generalize upd M T' (.tup [V.int (j : Nat), V.ref ta]) = M1 at hT1 kM1 md1 hP1 ⊢
        have k0 := Same.tr kG kM1
        have hul := hP.length
        rw [rowsOuts_len, hlen] at hul
        refine pair_asg hT1 (q := ?_)
        refine ⟨rfl, _, rfl, _, rfl, ixA (hta.up k0) (atI_nat (j := 0) rfl) ⟨_, rfl, ixA (hta.up k0) (atI_nat (j := 1) rfl) ⟨_, _, rfl, .inl ⟨_, SqL.of (k0 _ _ htb), rfl⟩, (by show 4 ≤ sizeLine; decide), fun r hr => ?_⟩⟩⟩
        have kr := Same.put (o := .tup [V.int (j : Nat), .int 0, .str e.1, .int ((e.2.map V.int).length : Nat)]) hr
        have md2 := kr _ _ md1
        have nt := not_lst md2
        refine ⟨_, md2, (by rw [PySem.sizeLine_eq]; omega), Same.at0 hD (Same.tr kM1 kr), us2 ++ [.ref r], upd_same, ?_⟩
        rw [tk_snoc hej, rowsOuts_snoc, hlen]
        refine Pd.app (RowsXAt.mono (fun _ _ h => sqt_put nt (upT kr h)) hP1) (.cons ⟨r, rfl, sqt_put nt ?_⟩ .nil)
        have := SqT.of (K := K) (upd_same (H := M1) (a := r) (o := .tup [V.int (j : Nat), .int 0, .str e.1, .int ((e.2.map V.int).length : Nat)]))
        rw [List.length_map] at this ⊢
        exact this
      · rintro M ⟨kM, us2, md, hP2⟩
        have hul2 := hP2.length
        rw [hp.length, List.take_length] at hP2 hul2
        rw [rowsOuts_len] at hul2
        refine ⟨l, D, us, us2, rfl, rfl, kM _ _ gl, md, (by rw [PySem.sizeLine_eq]; omega), fun l5 hl5 => ?_⟩
        have k5 := Same.put (o := .lst (us ++ us2)) hl5
        exact q l5 (us ++ us2) _ (Same.tr kG (Same.tr kM k5)) (Same.none (Same.tr kG kM) hl5) upd_same (Pd.app (RowsXAt.mono (fun _ _ h => upT (Same.tr kM k5) h) hP) (RowsXAt.mono (fun _ _ h => upT k5 h) hP2))
end
end T10
set_option Elab.async false
set_option linter.all false
set_option maxRecDepth 100000
set_option maxHeartbeats 4000000
/-! a field of a caught exception, in a suite of a try with several clauses -/
namespace Tp
open PySem PySem.Spec PyProof.Rows L2
section
variable {X : Cx} {pos : Pos}
def tXh2 (K : PySem.W.Frag) (a : Addr) (cls : Value) (d : Option Addr) (f : Str) (te : TE) : TE := fun σ H Q => te σ H fun x H1 => x = .ref a ∧ ∃ (C dd : Addr) (fs : List (Str × V)) (v : V), cls = .ref C ∧ ExK K C ∧ PySem.W.findIn K (.ref C) f = some none ∧ d = some dd ∧ H1 dd = some (exd dd fs) ∧ fs.lookup f = some v ∧ Q v H1
theorem pe_xh2 {a : Addr} {oe : Obj} {cls : Value} {d : Option Addr} {pn : List (Addr × Obj)} {e : Expr} {te : TE} {f : Str}
    (hz : Zc cls d oe) (hf : ∃ vs, oe.data = .fields vs) (he : PE (X.suite a ((a, oe) :: pn)) e te) (hb : attributeBase e f X.env (eval e X.env) = eval e X.env := by rfl) :
    PE (X.suite a ((a, oe) :: pn)) (.Attribute e f pos) (tXh2 X.K a cls d f te) := by
  refine ⟨fun pins s σ H Q I h => attr_of hb (thn (he.run pins s σ H _ I h) fun u s1 hh => ?_)⟩
  obtain ⟨x, H1, I1, rx, rfl, C, dd, fs, v, ec, T, hno, ed, ea, l, q⟩ := hh
  cases (show u = Value.ref a from rx)
  obtain ⟨ha, _⟩ := I1.pin (a, oe) (List.mem_append_left _ List.mem_cons_self)
  obtain ⟨ws, hd⟩ := hf
  obtain ⟨mA, hns, rel⟩ := exd_at I1.hok ea
  obtain ⟨od, ho, hl⟩ := lookIn_ns hns
  obtain ⟨w', hw, rw'⟩ := RelO.some_of (v := v) (o := mA f) (by rw [← l]; exact rel f)
  have J : PySem.W.InstAt s1.heap a oe C (some od) := ⟨ha, hz.1.trans ec, by unfold PySem.W.notCls; rw [hd] <;> rfl, by rw [hz.2, ed]; exact ho⟩
  exact HandSPX.exc_get I1.kIn J T.ga T.gg T.exC (PySem.W.findObj_own T.hdC hno rfl (by rw [hl, hw])) (handed_of rw') ⟨v, H1, I1.tok _, rw', q⟩
def rIsH (K : PySem.W.Frag) (a : Addr) (cls : Value) (d : Option Addr) : List V → Hp → VK → Prop := fun xs H Q => ∃ (C dd : Addr) (fs : List (Str × V)) (c : V) (cv : Value) (b : Bool), xs = [.ref a, c] ∧ cls = .ref C ∧ ExK K C ∧ d = some dd ∧ H dd = some (exd dd fs) ∧ ClsV c cv ∧ PySem.W.kitOne K (.ref C) cv = some b ∧ Q (.bl b) H
theorem call_isH {a : Addr} {oe : Obj} {cls : Value} {d : Option Addr} {pn : List (Addr × Obj)} (hz : Zc cls d oe) (hf : ∃ vs, oe.data = .fields vs) : CallR (X.suite a ((a, oe) :: pn)) (.builtin "isinstance") (rIsH X.K a cls d) := by
  intro pins s σ H xs us Q I r h
  obtain ⟨C, dd, fs, c, cv, b, rfl, ec, T, ed, ea, k, e, q⟩ := h
  obtain ⟨u1, u2, rfl, r1, r2⟩ := vals2 r
  cases (show u1 = Value.ref a from r1)
  have e2 := k.eq r2
  subst e2
  obtain ⟨ha, _⟩ := I.pin (a, oe) (List.mem_append_left _ List.mem_cons_self)
  obtain ⟨ws, hd⟩ := hf
  obtain ⟨mA, hns, rel⟩ := exd_at I.hok ea
  obtain ⟨od, ho, hl⟩ := lookIn_ns hns
  have J : PySem.W.InstAt s.heap a oe C (some od) := ⟨ha, hz.1.trans ec, by unfold PySem.W.notCls; rw [hd] <;> rfl, by rw [hz.2, ed]; exact ho⟩
  exact PySem.W.kia_one (ex_kit T) I.kIn J e (fun z => nomatch z) fun tk => ⟨.bl b, H, I.tok tk, rfl, q⟩
def rIsHT (K : PySem.W.Frag) (a : Addr) (cls : Value) (d : Option Addr) : List V → Hp → VK → Prop := fun xs H Q => ∃ (C dd : Addr) (fs : List (Str × V)) (tp : Addr) (cs : List V) (us : List Value) (b : Bool), xs = [.ref a, .ref tp] ∧ cls = .ref C ∧ ExK K C ∧ d = some dd ∧ H dd = some (exd dd fs) ∧ H tp = some (.tup cs) ∧ Paired ClsV cs us ∧ PySem.W.kitAny K (.ref C) us = some b ∧ Q (.bl b) H
theorem call_isHT {a : Addr} {oe : Obj} {cls : Value} {d : Option Addr} {pn : List (Addr × Obj)} (hz : Zc cls d oe) (hf : ∃ vs, oe.data = .fields vs) : CallR (X.suite a ((a, oe) :: pn)) (.builtin "isinstance") (rIsHT X.K a cls d) := by
  intro pins s σ H xs us Q I r h
  obtain ⟨C, dd, fs, tp, cs, ws, b, rfl, ec, T, ed, ea, hT, k, e, q⟩ := h
  obtain ⟨u1, u2, rfl, r1, r2⟩ := vals2 r
  cases (show u1 = Value.ref a from r1)
  cases (show u2 = Value.ref tp from r2)
  obtain ⟨ha, _⟩ := I.pin (a, oe) (List.mem_append_left _ List.mem_cons_self)
  obtain ⟨ws', hd⟩ := hf
  obtain ⟨mA, hns, rel⟩ := exd_at I.hok ea
  obtain ⟨od, ho, hl⟩ := lookIn_ns hns
  have J : PySem.W.InstAt s.heap a oe C (some od) := ⟨ha, hz.1.trans ec, by unfold PySem.W.notCls; rw [hd] <;> rfl, by rw [hz.2, ed]; exact ho⟩
  obtain ⟨_, its, rv, o, h1, h2, n, h3⟩ := (show ObjOk X.prog X.w H s.heap tp (.tup cs) from I.hok tp _ hT)
  have e3 := ClsV.all k rv
  subst e3
  obtain ⟨oc, od', dt, sl⟩ := o
  simp only at h2 h3
  subst h2 h3
  exact PySem.W.kia_tup (ex_kit T) I.kIn J h1 e (fun z => nomatch z) fun tk => ⟨.bl b, H, I.tok tk, rfl, q⟩
end
end Tp
set_option Elab.async false
set_option linter.all false
set_option maxRecDepth 100000
set_option maxHeartbeats 4000000
namespace T10
open PySem PySem.Spec PyProof.Rows L2 Tp
section
variable {P : Program} {w : World} {K : PySem.W.Frag} {mg : Str → Option Value} {base : Heap} {f : Addr} {fd : FuncData}


/-- the exceptions that are caught -/
structure TxtE (K : PySem.W.Frag) (CM CS CE : Addr) : Prop where
  xS : ExK K CS
  xE : ExK K CE
  ss : PySem.W.exmOne K (.ref CS) (.ref CS) = some true
  es : PySem.W.exmOne K (.ref CE) (.ref CS) = some false
  ee : PySem.W.exmOne K (.ref CE) (.ref CE) = some true
  fS : PySem.W.findIn K (.ref CS) "name" = some none
  fR : PySem.W.findIn K (.ref CE) "reader" = some none
  fT : PySem.W.findIn K (.ref CE) "slot" = some none
  sm : PySem.W.kitOne K (.ref CS) (.ref CM) = some true
  em : PySem.W.kitOne K (.ref CE) (.ref CM) = some true
def spCaughtN (K : PySem.W.Frag) (C : Addr) : Sp := fun vs H Q _ => ∃ (d : Int) (p : Addr) (ins : List Str) (gs : List GateK) (os : List EdgeK) (v s : V), vs = [.int d, .ref p, v, s] ∧
  ((d = 0 ∧ NetAt K H C p ins gs os ∧ (∀ n ∈ ins, nameB (TL.tl n) = true) ∧ (∀ g ∈ gs, nameB (TL.tl g.1) = true) ∧ (gs.map (·.1)).Nodup ∧ (joinedE gs os).length ≤ 100000 ∧ ∃ b, Ask K C H ins gs v b ∧
      (b = true → ∃ n, v = .str n ∧ ∀ (a l : Addr) (us : List V) (H' : Hp), Same H H' → H' l = some (.lst us) → PairsAt K H' us (readersE n gs os) → H' a = some (.lst [.str "told", .ref l]) → Q (.ref a) H') ∧
      (b = false → ∀ (a : Addr) (H' : Hp), Same H H' → H' a = some (.lst [.str "source", v, .bl true]) → Q (.ref a) H')) ∨
   ((d = 1 ∨ d = 2) ∧ ∃ k k2, EArg K H C p ins gs os v s k k2 ∧
      (slotV (edgesTo gs os v).length s = true → ∀ i e, s = .int i → (edgesTo gs os v)[i.toNat]? = some e → ∀ (a : Addr) (H' : Hp), Same H H' → H' a = some (.lst [.str "told", if d = 1 then .int (e.2.length : Nat) else .str e.1]) → Q (.ref a) H') ∧
      (slotV (edgesTo gs os v).length s = false → ∀ (a : Addr) (H' : Hp), Same H H' → H' a = some (.lst [.str "edge", v, s, .bl true]) → Q (.ref a) H')))

abbrev sKa : Stmt := top 62
abbrev nKa : List Str := ["_law_door", "_law_net", "_law_one", "_law_other", "e"]
theorem scKa : FnScope nKa ["_law_door", "_law_net", "_law_one", "_law_other"] (defScope sKa) := ⟨rfl, rfl, rfl, by decide +kernel, rfl, by decide +kernel, by decide +kernel⟩

theorem ok_Ka {C CM CS CE : Addr} (F : Fun K "_law_caught" "_law_caught" sKa f fd) (T : TxtV mg) (TX : TxtE K CM CS CE) (mM : mg "MissingError" = some (.ref CM)) (mS : mg "UnknownSource" = some (.ref CS)) (mE : mg "UnknownEdge" = some (.ref CE)) (RD : Ctr P w K mg base 5 C "readers" [] (spRd K C CS)) (DL : Ctr P w K mg base 5 C "delays" [] (spDel K C CE fun e => .int (e.2.length : Nat))) (SR : Ctr P w K mg base 5 C "source" [] (spDel K C CE fun e => .str e.1)) : FnG P w K mg base CX0 6 f fd ["_law_door", "_law_net", "_law_one", "_law_other"] (spCaughtN K C) := by
  refine FunG.ok F scKa (fun vs H Q E h => ?_) (fun cdv B out s H vs Q E hr hG h => ?_)
  · obtain ⟨d, p, ins, gs, os, v, s, rfl, _⟩ := h
    rfl
  · obtain ⟨d, p, ins, gs, os, v, s, rfl, h⟩ := h
    refine ⟨_, pss_one (ps_try_cla rfl rfl scKa.nd takes0 (fun W pn xe tk _ => pss_cons (ps_if (pt_cmpR op_eq (pv 0) pe_int (nomark _)) (pss_one (ps_ret (pe_lst (pa_cons pe_str (pa_cons (pe_ctr (pv 1) RD hr hG (by decide) tk (pa_cons (pv 2) pa_nil)) pa_nil))))) pss_nil) (pss_one (ps_ret (pe_lst (pa_cons pe_str (pa_cons (pe_ifExp (pt_cmpR op_eq (pv 0) pe_int (nomark _)) (pe_ctr (pv 1) DL hr hG (by decide) tk (pa_cons (pv 2) (pa_cons (pv 3) pa_nil))) (pe_ctr (pv 1) SR hr hG (by decide) tk (pa_cons (pv 2) (pa_cons (pv 3) pa_nil)))) pa_nil))))))
      (ClaOk.named (i := 4) ⟨by rfl, by decide, .inl mS⟩ rfl rfl (fun a oe cls d pn hz hf => pss_one (ps_ret (pe_lst (pa_cons pe_str (pa_cons (pe_xh2 hz hf (pv 4)) (pa_cons (pe_callB (call_isH hz hf) (by rfl) T.isinstance (by decide +kernel) (pa_cons (pv 4) (pa_cons (gl_c (v := .ref CM) (by rfl) ⟨_, mM, rfl⟩) pa_nil))) pa_nil)))))) (ClaOk.named (i := 4) ⟨by rfl, by decide, .inl mE⟩ rfl rfl (fun a oe cls d pn hz hf => pss_one (ps_ret (pe_lst (pa_cons pe_str (pa_cons (pe_xh2 hz hf (pv 4)) (pa_cons (pe_xh2 hz hf (pv 4)) (pa_cons (pe_callB (call_isH hz hf) (by rfl) T.isinstance (by decide +kernel) (pa_cons (pv 4) (pa_cons (gl_c (v := .ref CM) (by rfl) ⟨_, mM, rfl⟩) pa_nil))) pa_nil))))))) .nil))), ?_⟩
    rcases h with ⟨rfl, hN, hin, hn, nd, hj, b, hA, q1, q0⟩ | ⟨hd, k, k2, hE, q1, q0⟩
    · obtain ⟨dx, fs, h0, a7⟩ := hN.there
      refine ⟨_, rfl, rfl, _, rfl, iteT ?_⟩
      refine ⟨_, rfl, p, dx, fs, rfl, h0, a7 _ (by decide), _, rfl, p, ins, gs, os, v, b, rfl, hN, hA, hin, hn, nd, hj, fun hb => ?_, fun hb H1 dd fs2 s1 he hf => ?_⟩
      · obtain ⟨n, rfl, q⟩ := q1 hb
        refine ⟨n, rfl, fun l us H1 s1 nl hl hP => ⟨(by show 2 ≤ sizeLine; decide), fun a ha => ?_⟩⟩
        have k := Same.put (o := .lst [V.str "told", V.ref l]) ha
        exact q a l us _ (Same.tr s1 k) (k _ _ hl) (hP.mono fun _ _ => upT k) upd_same
      · exact ⟨true, TX.ss, fun _ a ha => ⟨_, rfl, rfl, CS, dd, fs2, v, rfl, TX.xS, TX.fS, rfl, he, hf, _, rfl, CS, dd, fs2, _, _, true, rfl, rfl, TX.xS, rfl, he, .own _, TX.sm, (by show 3 ≤ sizeLine; decide), fun l hl => q0 hb l _ (Same.tr s1 (Same.put hl)) upd_same⟩, fun z => nomatch z⟩
    · obtain ⟨dx, fs, h0, a7⟩ := hE.net.there
      have bad : slotV (edgesTo gs os v).length s = false → ∀ (H1 : Hp) (dd : Addr) (fs2 : List (Str × V)), Same H H1 → True := fun _ _ _ _ _ => trivial
      rcases hd with rfl | rfl
      · refine ⟨_, rfl, rfl, _, rfl, iteF ?_⟩
        refine ⟨_, rfl, rfl, _, rfl, iteT ?_⟩
        refine ⟨_, rfl, p, dx, fs, rfl, h0, a7 _ (by decide), _, rfl, _, rfl, p, ins, gs, os, v, s, k, k2, rfl, hE, fun hs i e hi he H1 s1 => ⟨(by show 2 ≤ sizeLine; decide), fun a ha => q1 hs i e hi he a _ (Same.tr s1 (Same.put ha)) upd_same⟩, fun hs H1 dd fs2 s1 he hf1 hf2 => ?_⟩
        exact ⟨false, TX.es, (fun z => nomatch z), fun _ => ⟨true, TX.ee, fun _ a ha => ⟨_, rfl, rfl, CE, dd, fs2, v, rfl, TX.xE, TX.fR, rfl, he, hf1, _, rfl, rfl, CE, dd, fs2, s, rfl, TX.xE, TX.fT, rfl, he, hf2, _, rfl, CE, dd, fs2, _, _, true, rfl, rfl, TX.xE, rfl, he, .own _, TX.em, (by show 4 ≤ sizeLine; decide), fun l hl => q0 hs l _ (Same.tr s1 (Same.put hl)) upd_same⟩, fun z => nomatch z⟩⟩
      · refine ⟨_, rfl, rfl, _, rfl, iteF ?_⟩
        refine ⟨_, rfl, rfl, _, rfl, iteF ?_⟩
        refine ⟨_, rfl, p, dx, fs, rfl, h0, a7 _ (by decide), _, rfl, _, rfl, p, ins, gs, os, v, s, k, k2, rfl, hE, fun hs i e hi he H1 s1 => ⟨(by show 2 ≤ sizeLine; decide), fun a ha => q1 hs i e hi he a _ (Same.tr s1 (Same.put ha)) upd_same⟩, fun hs H1 dd fs2 s1 he hf1 hf2 => ?_⟩
        exact ⟨false, TX.es, (fun z => nomatch z), fun _ => ⟨true, TX.ee, fun _ a ha => ⟨_, rfl, rfl, CE, dd, fs2, v, rfl, TX.xE, TX.fR, rfl, he, hf1, _, rfl, rfl, CE, dd, fs2, s, rfl, TX.xE, TX.fT, rfl, he, hf2, _, rfl, CE, dd, fs2, _, _, true, rfl, rfl, TX.xE, rfl, he, .own _, TX.em, (by show 4 ≤ sizeLine; decide), fun l hl => q0 hs l _ (Same.tr s1 (Same.put hl)) upd_same⟩, fun z => nomatch z⟩⟩

end
end T10
set_option Elab.async false
set_option linter.all false
set_option maxRecDepth 100000
set_option maxHeartbeats 4000000
/-! the law's rows against what the network tells -/
namespace T10
open PySem PySem.Spec PyProof.Rows L2 Tp
theorem fm_congr {α β : Type} {f f' : α → List β} (h : ∀ g, f g = f' g) (l : List α) : l.flatMap f = l.flatMap f' := by rw [funext h]
/-- the readers of a name, out of the law's rows -/
def dueR (n : Str) (rs : List RowX) : List (V × Int) := (rs.filter fun r => decide (r.2.2.1 = n)).map fun r => (r.1, r.2.1)
theorem due_app (n : Str) (a b : List RowX) : dueR n (a ++ b) = dueR n a ++ dueR n b := by
  unfold dueR
  rw [List.filter_append, List.map_append]
theorem due_of (n : Str) (x : V) (es : List EdgeK) : dueR n (rowsOf x es) = rdE n (fun j => (x, (j : Int))) es := by
  unfold dueR rowsOf rdE
  rw [List.filter_map, List.map_map]
  rfl
theorem due_outs (n : Str) (os : List EdgeK) : dueR n (rowsOuts os) = rdE n (fun j => (V.int (j : Nat), 0)) os := by
  unfold dueR rowsOuts rdE
  rw [List.filter_map, List.map_map]
  rfl
theorem due_flat (n : Str) : ∀ gs : List GateK, dueR n (gs.flatMap fun g => rowsOf (.str g.1) g.2.2) = gs.flatMap fun g => rdE n (fun j => (V.str g.1, (j : Int))) g.2.2
  | [] => rfl
  | g :: gs => by rw [List.flatMap_cons, List.flatMap_cons, due_app, due_of, due_flat n gs]
theorem due_readers (n : Str) (gs : List GateK) (os : List EdgeK) : dueR n (rowsE gs os) = readersE n gs os := by
  unfold rowsE readersE
  rw [due_app, due_flat, due_outs]
/-- other numbers of starts change nothing here -/
theorem rdE_mv (n : Str) (f : Nat → V × Int) (h : Int → Int) (es : List EdgeK) : rdE n f (es.map (mvE h)) = rdE n f es := by
  unfold rdE
  rw [List.zipIdx_map, List.filter_map, List.map_map]
  rfl
theorem readers_mv (n : Str) (h : Int → Int) (gs : List GateK) (os : List EdgeK) : readersE n (gs.map (mvG h)) (os.map (mvE h)) = readersE n gs os := by
  unfold readersE
  rw [rdE_mv]
  congr 1
  rw [List.flatMap_map]
  exact fm_congr (fun g => rdE_mv n _ h g.2.2) gs
theorem rowsOf_mv (x : V) (h : Int → Int) (es : List EdgeK) : rowsOf x (es.map (mvE h)) = rowsOf x es := by
  unfold rowsOf
  rw [List.zipIdx_map, List.map_map]
  refine List.map_congr_left fun e _ => ?_
  show (x, (e.2 : Int), (mvE h e.1).1, ((mvE h e.1).2.length : Int)) = (x, (e.2 : Int), e.1.1, (e.1.2.length : Int))
  unfold mvE
  rw [List.length_map]
theorem rowsOuts_mv (h : Int → Int) (es : List EdgeK) : rowsOuts (es.map (mvE h)) = rowsOuts es := by
  unfold rowsOuts
  rw [List.zipIdx_map, List.map_map]
  refine List.map_congr_left fun e _ => ?_
  show (V.int (e.2 : Nat), (0 : Int), (mvE h e.1).1, ((mvE h e.1).2.length : Int)) = (V.int (e.2 : Nat), 0, e.1.1, (e.1.2.length : Int))
  unfold mvE
  rw [List.length_map]
theorem rowsE_mv (h : Int → Int) (gs : List GateK) (os : List EdgeK) : rowsE (gs.map (mvG h)) (os.map (mvE h)) = rowsE gs os := by
  unfold rowsE
  rw [rowsOuts_mv]
  congr 1
  rw [List.flatMap_map]
  exact fm_congr (fun g => rowsOf_mv _ h g.2.2) gs
/-- a row tells of an edge that the network has there -/
theorem row_edge {gs : List GateK} {os : List EdgeK} (nd : (gs.map (·.1)).Nodup) {r : RowX} (hr : r ∈ rowsE gs os) : ∃ (j : Nat) (e : EdgeK), r.2.1 = (j : Int) ∧ (edgesTo gs os r.1)[j]? = some e ∧ r.2.2.1 = e.1 ∧ r.2.2.2 = (e.2.length : Int) := by
  unfold rowsE at hr
  rcases List.mem_append.mp hr with z | z
  · obtain ⟨g, hg, z⟩ := List.mem_flatMap.mp z
    unfold rowsOf at z
    obtain ⟨⟨e, j⟩, hm, rfl⟩ := List.mem_map.mp z
    refine ⟨j, e, rfl, ?_, rfl, rfl⟩
    show ((((gs.find? fun h => decide (h.1 = g.1)).map fun g => g.2.2).getD []))[j]? = some e
    rw [find_gate nd hg]
    exact List.mem_zipIdx_iff_getElem?.mp hm
  · unfold rowsOuts at z
    obtain ⟨⟨e, j⟩, hm, rfl⟩ := List.mem_map.mp z
    have h1 := List.mem_zipIdx_iff_getElem?.mp hm
    have hj := (List.getElem?_eq_some_iff.mp h1).1
    refine ⟨0, e, rfl, ?_, rfl, rfl⟩
    show (if 0 ≤ ((j : Nat) : Int) ∧ ((j : Nat) : Int) < (os.length : Int) then [os.getD ((j : Nat) : Int).toNat ("", [])] else [])[0]? = some e
    have h2 : ((j : Nat) : Int) < (os.length : Int) := by
      have hj' : j < os.length := hj
      omega
    rw [if_pos ⟨by omega, h2⟩, Int.toNat_natCast, List.getD_eq_getElem?_getD]
    have h3 : os[j]? = some e := h1
    rw [h3]
    rfl
end T10
set_option Elab.async false
set_option linter.all false
set_option maxRecDepth 100000
set_option maxHeartbeats 4000000
namespace T10
open PySem PySem.Spec PyProof.Rows L2 Tp
section
variable {P : Program} {w : World} {K : PySem.W.Frag} {mg : Str → Option Value} {base : Heap} {f : Addr} {fd : FuncData}


theorem quad_asg {K : PySem.W.Frag} {G : Hp} {a : Addr} {x y z u : V} (h : SqA K G a [x, y, z, u]) {i j k l n : Nat} (hn : n = 4 := by rfl) {σ : L2.St} {R : L2.St → Hp → Prop} (q : R ((((σ.set i (some x)).set j (some y)).set k (some z)).set l (some u)) G) :
    gSeq K n (gCons (gName i) (gCons (gName j) (gCons (gName k) (gCons (gName l) gNil)))) (.ref a) σ G R := by
  subst hn
  exact gSeq_of h rfl ⟨_, _, rfl, _, _, rfl, _, _, rfl, _, _, rfl, rfl, q⟩
structure TxtR (mg : Str → Option Value) : Prop where
  repr : mg "repr" = none
/-- what a row's reader is -/
theorem row_kind {K : PySem.W.Frag} {H : Hp} {gs : List GateK} {os : List EdgeK} (hn : ∀ g ∈ gs, nameB (TL.tl g.1) = true) {r : RowX} (hr : r ∈ rowsE gs os) : ∃ k, Vk K H r.1 k ∧ (∀ z, r.1 = .str z → k = "str") ∧ (∀ i, r.1 = .int i → k = "int") := by
  unfold rowsE at hr
  rcases List.mem_append.mp hr with z | z
  · obtain ⟨g, hg, z⟩ := List.mem_flatMap.mp z
    unfold rowsOf at z
    obtain ⟨⟨e, j⟩, hm, rfl⟩ := List.mem_map.mp z
    have := name_len (hn g hg)
    exact ⟨"str", vk_str g.1 (by omega), fun _ _ => rfl, fun i e => by cases e⟩
  · unfold rowsOuts at z
    obtain ⟨⟨e, j⟩, hm, rfl⟩ := List.mem_map.mp z
    exact ⟨"int", vk_int _, fun z e => (by cases e), fun _ _ => rfl⟩
theorem tz_name {z : Str} (h : nameB (TL.tl z) = true) : Tz 8 z := ⟨by have := name_len h; exact this, name_sm h⟩
theorem row_edge_ok {ins : List Str} {gs : List GateK} {os : List EdgeK} (hed : ∀ e ∈ joinedE gs os, e.2.length ≤ 1000 ∧ nameB (TL.tl e.1) = true) {r : RowX} (hr : r ∈ rowsE gs os) {e : EdgeK} (h1 : r.2.2.1 = e.1) (h2 : r.2.2.2 = (e.2.length : Int)) : e.2.length ≤ 1000 ∧ nameB (TL.tl e.1) = true := by
  have : ∃ e' ∈ joinedE gs os, r.2.2.1 = e'.1 ∧ r.2.2.2 = (e'.2.length : Int) := by
    unfold rowsE at hr
    rcases List.mem_append.mp hr with z | z
    · obtain ⟨g, hg, z⟩ := List.mem_flatMap.mp z
      unfold rowsOf at z
      obtain ⟨⟨e', j⟩, hm, rfl⟩ := List.mem_map.mp z
      exact ⟨e', List.mem_append_left _ (List.mem_flatMap.mpr ⟨g, hg, List.mem_of_getElem? (List.mem_zipIdx_iff_getElem?.mp hm)⟩), rfl, rfl⟩
    · unfold rowsOuts at z
      obtain ⟨⟨e', j⟩, hm, rfl⟩ := List.mem_map.mp z
      exact ⟨e', List.mem_append_right _ (List.mem_of_getElem? (List.mem_zipIdx_iff_getElem?.mp hm)), rfl, rfl⟩
  obtain ⟨e', he', e1, e2⟩ := this
  obtain ⟨a, b⟩ := hed e' he'
  rw [h1] at e1
  rw [h2] at e2
  exact ⟨by omega, by rw [e1]; exact b⟩
def vd : V → PyData
  | .str s => .str s
  | .int i => .int i
  | _ => .none
def pdat (x : V × Int) : PyData := .tuple [vd x.1, .int x.2]
/-- a pair that is short when shown -/
def PairN (x : V × Int) : Prop := ((∃ s, x.1 = .str s ∧ nameB (TL.tl s) = true) ∨ ∃ j : Nat, x.1 = .int (j : Nat) ∧ j < 1000) ∧ ∃ j : Nat, x.2 = (j : Int) ∧ j < 1000
theorem pair_dd {K : PySem.W.Frag} {H : Hp} : ∀ {us : List V} {xs : List (V × Int)}, PairsAt K H us xs → (∀ x ∈ xs, PairN x) → DdAll K H us (xs.map pdat)
  | _, _, .nil, _ => .nil
  | _, _, .cons r t, h => by
    refine .cons ?_ (pair_dd t fun x hx => h x (List.mem_cons_of_mem _ hx))
    obtain ⟨a, rfl, ha⟩ := r
    refine .tup ha (.cons ?_ (.cons (.int _) .nil))
    rcases (h _ List.mem_cons_self).1 with ⟨s, e, _⟩ | ⟨j, e, _⟩
    · rw [e]
      exact .str s
    · rw [e]
      exact .int _
theorem pair_nice {x : V × Int} (h : PairN x) : Nice 40 1 (pdat x) := by
  obtain ⟨h1, j, e, hj⟩ := h
  unfold pdat
  have hi : Nice 10 0 (.int x.2) := nice_small (by rw [e]; omega) (by decide)
  rcases h1 with ⟨s, e1, hs⟩ | ⟨i, e1, hi1⟩
  · rw [e1]
    exact ((NiceAll.cons (nice_str (tz_name hs)) (NiceAll.cons hi niceAll_nil)).tuple).mono (by omega) (by decide)
  · rw [e1]
    exact ((NiceAll.cons (nice_small (i := ((i : Nat) : Int)) (k := 10) (by omega) (by decide)) (NiceAll.cons hi niceAll_nil)).tuple).mono (by omega) (by decide)
theorem pairs_nice {xs : List (V × Int)} (h : ∀ x ∈ xs, PairN x) (hl : xs.length ≤ 100) : Nice 8000 2 (.list (xs.map pdat)) := by
  have h1 := niceAll_of (n := 40) (k := 1) (ds := xs.map pdat) fun d hd => by
    obtain ⟨x, hx, rfl⟩ := List.mem_map.mp hd
    exact pair_nice (h x hx)
  rw [List.length_map] at h1
  exact h1.list.mono (by omega) (by decide)
theorem rdE_len (n : Str) (f : Nat → V × Int) (es : List EdgeK) : (rdE n f es).length ≤ es.length := by
  unfold rdE
  rw [List.length_map]
  exact Nat.le_trans (List.length_filter_le _ _) (by rw [List.length_zipIdx]; exact Nat.le_refl _)
theorem readers_len (n : Str) (gs : List GateK) (os : List EdgeK) : (readersE n gs os).length ≤ (joinedE gs os).length := by
  unfold readersE joinedE
  rw [List.length_append, List.length_append]
  have h1 := rdE_len n (fun j => (V.int (j : Nat), 0)) os
  have h2 : ∀ gs : List GateK, (gs.flatMap fun g => rdE n (fun j => (V.str g.1, (j : Int))) g.2.2).length ≤ (gs.flatMap fun g => g.2.2).length := by
    intro gs
    induction gs with
    | nil => exact Nat.le_refl _
    | cons g gs ih =>
      rw [List.flatMap_cons, List.flatMap_cons, List.length_append, List.length_append]
      have := rdE_len n (fun j => (V.str g.1, (j : Int))) g.2.2
      omega
  have := h2 gs
  omega
theorem rdE_mem {n : Str} {f : Nat → V × Int} {es : List EdgeK} {x : V × Int} (h : x ∈ rdE n f es) : ∃ j, j < es.length ∧ x = f j := by
  unfold rdE at h
  obtain ⟨⟨e, j⟩, hm, rfl⟩ := List.mem_map.mp h
  have h1 := List.mem_zipIdx_iff_getElem?.mp (List.mem_filter.mp hm).1
  exact ⟨j, (List.getElem?_eq_some_iff.mp h1).1, rfl⟩
theorem readers_pn {n : Str} {gs : List GateK} {os : List EdgeK} (hn : ∀ g ∈ gs, nameB (TL.tl g.1) = true) (hj : (joinedE gs os).length ≤ 100) : ∀ x ∈ readersE n gs os, PairN x := fun x hx => by
  have hl : ∀ g ∈ gs, g.2.2.length ≤ (joinedE gs os).length := fun g hg => by
    unfold joinedE
    rw [List.length_append]
    have : ∀ gs : List GateK, g ∈ gs → g.2.2.length ≤ (gs.flatMap fun g => g.2.2).length := by
      intro gs
      induction gs with
      | nil => intro h; cases h
      | cons k gs ih =>
        intro h
        rw [List.flatMap_cons, List.length_append]
        rcases List.mem_cons.mp h with rfl | h
        · omega
        · have := ih h
          omega
    have := this gs hg
    omega
  have ho : os.length ≤ (joinedE gs os).length := by
    unfold joinedE
    rw [List.length_append]
    omega
  unfold readersE at hx
  rcases List.mem_append.mp hx with z | z
  · obtain ⟨g, hg, z⟩ := List.mem_flatMap.mp z
    obtain ⟨j, hj', rfl⟩ := rdE_mem z
    have := hl g hg
    exact ⟨.inl ⟨g.1, rfl, hn g hg⟩, j, rfl, by omega⟩
  · obtain ⟨j, hj', rfl⟩ := rdE_mem z
    exact ⟨.inr ⟨j, rfl, by omega⟩, 0, rfl, by decide⟩
theorem due_snoc (n : Str) (rs : List RowX) (r : RowX) : dueR n (rs ++ [r]) = dueR n rs ++ (if r.2.2.1 = n then [(r.1, r.2.1)] else []) := by
  rw [due_app]
  congr 1
  unfold dueR
  by_cases h : r.2.2.1 = n
  · rw [if_pos h]
    simp [h]
  · rw [if_neg h]
    simp [h]
def spRightN (K : PySem.W.Frag) (C : Addr) : Sp := fun vs H Q _ => ∃ (p lr ln : Addr) (ins : List Str) (gs : List GateK) (os : List EdgeK) (us : List V) (ns : List Str), vs = [.ref p, .ref lr, .ref ln] ∧ NetAt K H C p ins gs os ∧ H lr = some (.lst us) ∧ RowsXAt K H us (rowsE gs os) ∧ H ln = some (.lst (ns.map V.str)) ∧ (∀ n ∈ ns, n ∈ ins ∨ n ∈ gs.map (·.1)) ∧ (∀ n ∈ ins, nameB (TL.tl n) = true) ∧ (∀ g ∈ gs, nameB (TL.tl g.1) = true) ∧ (gs.map (·.1)).Nodup ∧ (joinedE gs os).length ≤ 100 ∧ os.length ≤ 100 ∧ (∀ e ∈ joinedE gs os, e.2.length ≤ 1000 ∧ nameB (TL.tl e.1) = true) ∧ ∀ H' : Hp, Same H H' → Q (.bl true) H'

abbrev sRi : Stmt := top 63
abbrev nRi : List Str := ["_law_net", "_law_rows", "_law_names_here", "_law_reader", "_law_slot", "_law_source", "_law_delays", "_law_name", "_law_due", "_law_found"]
theorem scRi : FnScope nRi ["_law_net", "_law_rows", "_law_names_here"] (defScope sRi) := ⟨rfl, rfl, rfl, by decide +kernel, rfl, by decide +kernel, by decide +kernel⟩

theorem ok_Ri (F : Fun K "_law_right" "_law_right" sRi f fd) {C CS CE : Addr} (S : Sm K) (TR : TxtR mg) (RD : Ctr P w K mg base 5 C "readers" [] (spRd K C CS)) (DL : Ctr P w K mg base 5 C "delays" [] (spDel K C CE fun e => .int (e.2.length : Nat))) (SR : Ctr P w K mg base 5 C "source" [] (spDel K C CE fun e => .str e.1)) : FnG P w K mg base CX0 6 f fd ["_law_net", "_law_rows", "_law_names_here"] (spRightN K C) := by
  refine FunG.ok F scRi (fun vs H Q E h => ?_) (fun cdv B out s H vs Q E hr hG h => ?_)
  · obtain ⟨p, lr, ln, ins, gs, os, us, ns, rfl, _⟩ := h
    rfl
  · obtain ⟨p, lr, ln, ins, gs, os, us, ns, rfl, hN, hlr, hR, hln, hns, hin, hn, nd, hj, hol, hed, q⟩ := h
    refine ⟨_, (pss_cons (ps_for PassesOwn.never rfl (pi_list (pv 1)) (pg_seq rfl (pgs_cons (pg_name (i := 3) scRi.nd rfl (Or.inl rfl)) (pgs_cons (pg_name (i := 4) scRi.nd rfl (Or.inl rfl)) (pgs_cons (pg_name (i := 5) scRi.nd rfl (Or.inl rfl)) (pgs_cons (pg_name (i := 6) scRi.nd rfl (Or.inl rfl)) pgs_nil))))) (pss_one (ps_if (pt_cmpR op_ne (pe_callB (call_reprD S hr hG) (by rfl) TR.repr (by decide +kernel) (pa_cons (pe_lst (pa_cons (pe_ctr (pv 0) SR hr hG (by decide) takes0 (pa_cons (pv 3) (pa_cons (pv 4) pa_nil))) (pa_cons (pe_ctr (pv 0) DL hr hG (by decide) takes0 (pa_cons (pv 3) (pa_cons (pv 4) pa_nil))) pa_nil))) pa_nil)) (pe_callB (call_reprD S hr hG) (by rfl) TR.repr (by decide +kernel) (pa_cons (pe_lst (pa_cons (pv 5) (pa_cons (pv 6) pa_nil))) pa_nil)) (nomark _)) (pss_one (ps_ret pe_bl)) pss_nil)))
      (pss_cons (ps_for PassesOwn.never rfl (pi_list (pv 2)) (pg_name (i := 7) scRi.nd rfl (Or.inr rfl)) (pss_cons (ps_setLc (i := 8) (own := [("_law_reader", 3), ("_law_slot", 4), ("_law_source", 5), ("_law_delays", 6)]) (g := gSeq K 4 (gCons (gName 3) (gCons (gName 4) (gCons (gName 5) (gCons (gName 6) gNil))))) rfl scRi.nd rfl rfl (sw_true rfl rfl rfl (by decide +kernel)) (pi_list (pv 1)) (blkOk_by (N := nRi) (sc := defScope sRi) (by decide +kernel)) (fun _ _ _ _ _ => pg_seq rfl (pgs_cons (pg_name (i := 3) scRi.nd rfl (Or.inl rfl)) (pgs_cons (pg_name (i := 4) scRi.nd rfl (Or.inl rfl)) (pgs_cons (pg_name (i := 5) scRi.nd rfl (Or.inl rfl)) (pgs_cons (pg_name (i := 6) scRi.nd rfl (Or.inl rfl)) pgs_nil))))) (fun _ _ _ _ _ => (pts_one (pt_cmpR op_eq (pv 5) (pv 7) (nomark _)))) (fun _ _ _ _ _ => (pe_tup (pa_cons (pv 3) (pa_cons (pv 4) pa_nil)))))
        (pss_cons (ps_set (i := 9) scRi.nd rfl (.inl rfl) (pe_ctr (pv 0) RD hr hG (by decide) takes0 (pa_cons (pv 7) pa_nil)))
        (pss_cons (ps_if (pt_cmpR op_ne (pe_callB (call_reprD S hr hG) (by rfl) TR.repr (by decide +kernel) (pa_cons (pv 9) pa_nil)) (pe_callB (call_reprD S hr hG) (by rfl) TR.repr (by decide +kernel) (pa_cons (pv 8) pa_nil)) (nomark _)) (pss_one (ps_ret pe_bl)) pss_nil)
        (pss_cons (ps_expr (pe_bm PySem.F.plainAttrs_list PySem.F.slot_list_append PySem.F.type_list_append mt_append (pv 9) (pa_cons (pe_tup (pa_cons pe_str (pa_cons pe_int pa_nil))) pa_nil)))
        (pss_one (ps_if (pt_cmpR op_ne (pe_callB (call_reprD S hr hG) (by rfl) TR.repr (by decide +kernel) (pa_cons (pe_ctr (pv 0) RD hr hG (by decide) takes0 (pa_cons (pv 7) pa_nil)) pa_nil)) (pe_callB (call_reprD S hr hG) (by rfl) TR.repr (by decide +kernel) (pa_cons (pv 8) pa_nil)) (nomark _)) (pss_one (ps_ret pe_bl)) pss_nil)))))))
      (pss_one (ps_ret pe_bl)))), ?_⟩
    refine ⟨_, rfl, lr, rfl, ⟨_, SqL.of hlr⟩, for_it (walk_list (xs := us)) (fun i σ G => ∃ o3 o4 o5 o6, σ = [some (.ref p), some (.ref lr), some (.ref ln), o3, o4, o5, o6, none, none, none] ∧ Same H G) ⟨_, _, _, _, rfl, Same.refl _⟩ (fun i σ G _ ⟨_, _, _, _, _, kG⟩ => SqL.of (kG _ _ hlr)) ?_ ?_⟩
    · rintro i v σ G G' hi ⟨o3, o4, o5, o6, rfl, kG⟩ ⟨rfl, hv⟩
      obtain ⟨r, hri, t, rfl, ht⟩ := Pd.at hR hv
      have hrm := List.mem_of_getElem? hri
      obtain ⟨j, e, ej, he, es, ed⟩ := row_edge nd hrm
      obtain ⟨k, vk, vs, vi⟩ := row_kind (K := K) (H := H) hn hrm
      refine quad_asg (.inr (upT kG ht)) (q := ?_)
      have hE : ∀ W : Hp, Same H W → EArg K W C p ins gs os r.1 (.int r.2.1) k "int" := fun W s => ⟨hN.up s, vk.mono s, vs, vi, vk_int _, fun _ _ => rfl, hn, nd, by omega⟩
      have hsl : slotV (edgesTo gs os r.1).length (.int r.2.1) = true := by
        have := (List.getElem?_eq_some_iff.mp he).1
        rw [ej]
        exact decide_eq_true (by omega)
      have at' : ∀ i' e', V.int r.2.1 = .int i' → (edgesTo gs os r.1)[i'.toNat]? = some e' → e' = e := fun i' e' h1 h2 => by
        cases h1
        rw [ej, Int.toNat_natCast, he] at h2
        exact (Option.some.inj h2).symm
      obtain ⟨dx, fs, h0, a7⟩ := hN.there
      refine ⟨_, rfl, p, dx, fs, rfl, kG _ _ h0, a7 _ (by decide), _, rfl, _, rfl, p, ins, gs, os, r.1, .int r.2.1, k, "int", rfl, hE _ kG, fun _ i1 e1 x1 x2 H1 s1 => ?_, fun hs => by rw [hsl] at hs; cases hs⟩
      rw [at' i1 e1 x1 x2]
      have k01 := Same.tr kG s1
      refine ⟨_, rfl, p, dx, fs, rfl, k01 _ _ h0, a7 _ (by decide), _, rfl, _, rfl, p, ins, gs, os, r.1, .int r.2.1, k, "int", rfl, hE _ k01, fun _ i2 e2 x3 x4 H2 s2 => ?_, fun hs => by rw [hsl] at hs; cases hs⟩
      rw [at' i2 e2 x3 x4]
      have k02 := Same.tr k01 s2
      have hmem := List.mem_of_getElem? he
      obtain ⟨hl0, hnm⟩ := row_edge_ok (ins := ins) hed hrm es ed
      have ni : ∀ (W : Hp) (a : Addr), W a = some (.lst [.str e.1, .int (e.2.length : Nat)]) → Dd K W (.ref a) (.list [.str e.1, .int (e.2.length : Nat)]) := fun W a h => .lst (SqL.of h) (.cons (.str _) (.cons (.int _) .nil))
      have nc : Nice 20 1 (.list [.str e.1, .int (e.2.length : Nat)]) := ((NiceAll.cons (nice_str (tz_name hnm)) (NiceAll.cons (nice_small (i := ((e.2.length : Nat) : Int)) (k := 10) (by omega) (by decide)) niceAll_nil)).list).mono (by omega) (by decide)
      refine ⟨(by show 2 ≤ sizeLine; decide), fun l1 hl1 => ?_⟩
      dsimp only [tNil]
      refine rReprD_of (ni _ _ upd_same) nc (by decide) (by decide) ?_
      have kl1 := Same.put (o := .lst [V.str e.1, V.int (e.2.length : Nat)]) hl1
      generalize upd H2 l1 (.lst [V.str e.1, V.int (e.2.length : Nat)]) = H3 at kl1 ⊢
      refine ⟨_, rfl, _, rfl, (by show 2 ≤ sizeLine; decide), fun l2 hl2 => ?_⟩
      rw [es, ed]
      dsimp only [tNil]
      refine rReprD_of (ni _ _ upd_same) nc (by decide) (by decide) ⟨rfl, _, rfl, if_false_of (by rw [decide_eq_true rfl]; rfl) ?_⟩
      exact ⟨_, _, _, _, rfl, Same.tr k02 (Same.tr kl1 (Same.put hl2))⟩
    · rintro σ G ⟨o3, o4, o5, o6, rfl, kG⟩
      refine ⟨_, rfl, ln, rfl, ⟨_, SqL.of (kG _ _ hln)⟩, for_it (walk_list (xs := ns.map V.str)) (fun i σ M => ∃ o3 o4 o5 o6 o7 o8 o9, σ = [some (.ref p), some (.ref lr), some (.ref ln), o3, o4, o5, o6, o7, o8, o9] ∧ Same H M) ⟨_, _, _, _, _, _, _, rfl, kG⟩ (fun i σ M _ ⟨_, _, _, _, _, _, _, _, kM⟩ => SqL.of (kM _ _ hln)) ?_ ?_⟩
      · rintro i v σ M M' hi ⟨o3, o4, o5, o6, o7, o8, o9, rfl, kM⟩ ⟨rfl, hv⟩
        rw [List.getElem?_map] at hv
        obtain ⟨n, hni, rfl⟩ := Option.map_eq_some_iff.mp hv
        have hnk := hns n (List.mem_of_getElem? hni)
        refine ⟨_, rfl, lr, rfl, ⟨_, SqL.of (kM _ _ hlr)⟩, fun D hD => lc_it (walk_list (xs := us)) (fun j N => Same M' N ∧ ∃ us2, N D = some (.lst us2) ∧ PairsAt K N us2 (dueR n ((rowsE gs os).take j))) ⟨Same.put hD, [], upd_same, .nil⟩ (fun j N _ h => SqL.of (h.1 _ _ (kM _ _ hlr))) ?_ ?_⟩
        · rintro j v2 N N' hj' ⟨kN, us2, nd2, hP⟩ ⟨rfl, hv2⟩
          obtain ⟨r, hrj, t, rfl, ht⟩ := Pd.at hR hv2
          have k0 := Same.tr kM kN
          have hul := hP.length
          have hrl : us2.length ≤ j := by
            rw [hul]
            unfold dueR
            rw [List.length_map]
            exact Nat.le_trans (List.length_filter_le _ _) (by rw [List.length_take]; omega)
          have hul0 := hR.length
          have hrE : (rowsE gs os).length ≤ 100 := by
            have e1 : ∀ gs : List GateK, (gs.flatMap fun g => rowsOf (.str g.1) g.2.2).length = (gs.flatMap fun g => g.2.2).length := by
              intro gs
              induction gs with
              | nil => rfl
              | cons g gs ih => rw [List.flatMap_cons, List.flatMap_cons, List.length_append, List.length_append, ih, rowsOf_len]
            unfold rowsE
            unfold joinedE at hj
            rw [List.length_append] at hj ⊢
            rw [e1, rowsOuts_len]
            exact hj
          have hsn := due_snoc n ((rowsE gs os).take j) r
          rw [← tk_snoc hrj] at hsn
          refine quad_asg (.inr (upT k0 ht)) (q := ⟨rfl, _, rfl, _, rfl, rfl, _, rfl, ?_⟩)
          by_cases hen : r.2.2.1 = n
          · rw [if_pos hen] at hsn
            rw [decide_eq_true (show V.str r.2.2.1 = V.str n by rw [hen])]
            refine iteT ?_
            refine ⟨_, rfl, _, rfl, (by show 2 ≤ sizeLine; decide), fun t2 ht2 => ?_⟩
            have k2 := Same.put (o := .tup [r.1, V.int r.2.1]) ht2
            have nd3 := k2 _ _ nd2
            have nt := not_lst nd3
            refine ⟨us2, nd3, (by rw [PySem.sizeLine_eq]; omega), Same.at0 hD (Same.tr kN k2), us2 ++ [.ref t2], upd_same, ?_⟩
            rw [hsn]
            exact Pd.app (PairsAt.mono (fun _ _ h => sqt_put nt (upT k2 h)) hP) (.cons ⟨t2, rfl, sqt_put nt (SqT.of upd_same)⟩ .nil)
          · rw [if_neg hen, List.append_nil] at hsn
            rw [decide_eq_false (show ¬ V.str r.2.2.1 = V.str n from fun z => hen (V.str.inj z))]
            refine iteF ?_
            refine ⟨kN, us2, nd2, ?_⟩
            rw [hsn]
            exact hP
        · rintro N ⟨kN, us2, nd2, hP⟩
          rw [hR.length, List.take_length, due_readers] at hP
          have k0 := Same.tr kM kN
          have hnm : nameB (TL.tl n) = true := hnk.elim (hin n) fun h => by
            obtain ⟨g, hg, rfl⟩ := List.mem_map.mp h
            exact hn g hg
          have hlen8 := name_len hnm
          have ask : ∀ W : Hp, Ask K C W ins gs (.str n) true := fun W => ⟨⟨"str", vk_str n (by omega), fun _ _ => rfl⟩, .inl ⟨rfl, by
            rcases hnk with z | z
            · have : inV (.str n) (ins.map V.str) = true := by
                unfold inV
                rw [List.any_map, List.any_eq_true]
                exact ⟨n, z, by show (n == n) = true; simp⟩
              rw [this, Bool.or_true]
            · rw [show hasV gs (.str n) = true from decide_eq_true z, Bool.true_or]⟩⟩
          have hpn := readers_pn (n := n) (gs := gs) (os := os) hn hj
          have hnice := pairs_nice hpn (Nat.le_trans (readers_len n gs os) hj)
          have dd : ∀ (W : Hp) (a : Addr) (xs : List V), W a = some (.lst xs) → PairsAt K W xs (readersE n gs os) → Dd K W (.ref a) (.list ((readersE n gs os).map pdat)) := fun W a xs h hp => .lst (SqL.of h) (pair_dd hp hpn)
          obtain ⟨dx, fs, h0, a7⟩ := hN.there
          refine ⟨_, rfl, p, dx, fs, rfl, k0 _ _ h0, a7 _ (by decide), _, rfl, p, ins, gs, os, .str n, true, rfl, hN.up k0, ask _, hin, hn, nd, by omega, fun _ => ⟨n, rfl, fun l us3 N1 s1 nl hl hP3 => ?_⟩, fun h => nomatch h⟩
          have k01 := Same.tr k0 s1
          have nd4 := s1 _ _ nd2
          have hP4 := hP.mono fun _ _ => upT s1
          refine ⟨_, rfl, ?_⟩
          dsimp only [tNil]
          refine rReprD_of (dd _ _ _ hl hP3) hnice (by decide) (by decide) ?_
          refine ⟨_, rfl, ?_⟩
          dsimp only [tNil]
          refine rReprD_of (dd _ _ _ nd4 hP4) hnice (by decide) (by decide) ⟨rfl, _, rfl, if_false_of (by rw [decide_eq_true rfl]; rfl) ?_⟩
          have lH : H l = none := Same.none k0 nl
          refine ⟨_, rfl, .inl ⟨rfl, _, SqL.of hl⟩, (by show 2 ≤ sizeLine; decide), fun t ht => ?_⟩
          have kt := Same.put (o := .tup [V.str ("late1" : Str), V.int 0]) ht
          have l2 := kt _ _ hl
          have hul3 := hP3.length
          have hrl := readers_len n gs os
          refine ⟨l, _, _, rfl, rfl, l2, (by rw [PySem.sizeLine_eq]; omega), ?_⟩
          have nt := not_lst l2
          have nDl : D ≠ l := fun e => by
            have := nl
            rw [← e, nd2] at this
            cases this
          have k2 : Same H (upd (upd N1 t (.tup [V.str ("late1" : Str), V.int 0])) l (.lst (us3 ++ [V.ref t]))) := Same.at0 lH (Same.tr k01 kt)
          have nd5 := (upd_ne (o := .lst (us3 ++ [V.ref t])) nDl).trans (kt _ _ nd4)
          have hP5 := PairsAt.mono (fun _ _ h => sqt_put (o := .lst (us3 ++ [V.ref t])) nt (upT kt h)) hP4
          generalize upd (upd N1 t (.tup [V.str ("late1" : Str), V.int 0])) l (.lst (us3 ++ [V.ref t])) = N2 at k2 nd5 hP5 ⊢
          refine ⟨_, rfl, p, dx, fs, rfl, k2 _ _ h0, a7 _ (by decide), _, rfl, p, ins, gs, os, .str n, true, rfl, hN.up k2, ask _, hin, hn, nd, by omega, fun _ => ⟨n, rfl, fun l3 us4 N3 s3 nl3 hl3 hP6 => ?_⟩, fun h => nomatch h⟩
          dsimp only [tNil]
          refine rReprD_of (dd _ _ _ hl3 hP6) hnice (by decide) (by decide) ?_
          refine ⟨_, rfl, ?_⟩
          dsimp only [tNil]
          refine rReprD_of (dd _ _ _ (s3 _ _ nd5) (hP5.mono fun _ _ => upT s3)) hnice (by decide) (by decide) ⟨rfl, _, rfl, if_false_of (by rw [decide_eq_true rfl]; rfl) ?_⟩
          exact ⟨_, _, _, _, _, _, _, rfl, Same.tr k2 s3⟩
      · rintro σ M ⟨o3, o4, o5, o6, o7, o8, o9, rfl, kM⟩
        exact q M kM
end
end T10
set_option Elab.async false
set_option linter.all false
set_option maxRecDepth 100000
set_option maxHeartbeats 4000000
/-! what the law knows against what the network has; odd values -/
namespace T10
open PySem PySem.Spec PyProof.Rows L2 Tp
/-- an edge that the network has has its row -/
theorem edge_row {gs : List GateK} {os : List EdgeK} {v : V} {j : Nat} {e : EdgeK} (h : (edgesTo gs os v)[j]? = some e) : (v, (j : Int), e.1, (e.2.length : Int)) ∈ rowsE gs os := by
  unfold rowsE
  cases v with
  | str z =>
    refine List.mem_append_left _ (List.mem_flatMap.mpr ?_)
    have h' : ((((gs.find? fun g => decide (g.1 = z)).map fun g => g.2.2).getD []))[j]? = some e := h
    cases hf : gs.find? fun g => decide (g.1 = z) with
    | none =>
      rw [hf] at h'
      simp at h'
    | some g =>
      rw [hf] at h'
      have hz := List.find?_some hf
      have hg := List.mem_of_find?_eq_some hf
      refine ⟨g, hg, ?_⟩
      unfold rowsOf
      refine List.mem_map.mpr ⟨(e, j), List.mem_zipIdx_iff_getElem?.mpr h', ?_⟩
      rw [show g.1 = z from of_decide_eq_true hz]
  | int i =>
    refine List.mem_append_right _ ?_
    have h' : (if 0 ≤ i ∧ i < (os.length : Int) then [os.getD i.toNat ("", [])] else [])[j]? = some e := h
    by_cases hi : 0 ≤ i ∧ i < (os.length : Int)
    · rw [if_pos hi] at h'
      have hj : j = 0 := by
        have := (List.getElem?_eq_some_iff.mp h').1
        simpa using this
      subst hj
      have he : os.getD i.toNat ("", []) = e := by simpa using h'
      have hl : i.toNat < os.length := by omega
      unfold rowsOuts
      refine List.mem_map.mpr ⟨(e, i.toNat), List.mem_zipIdx_iff_getElem?.mpr ?_, ?_⟩
      · show os[i.toNat]? = some e
        rw [← he, List.getD_eq_getElem?_getD, List.getElem?_eq_getElem hl]
        rfl
      · show (V.int ((i.toNat : Nat) : Int), (0 : Int), e.1, (e.2.length : Int)) = (V.int i, ((0 : Nat) : Int), e.1, (e.2.length : Int))
        rw [show ((i.toNat : Nat) : Int) = i by omega]
        rfl
    · rw [if_neg hi] at h'
      simp at h'
  | _ => cases h
/-- what a row's reader is as a value -/
theorem row_reader {gs : List GateK} {os : List EdgeK} {r : RowX} (h : r ∈ rowsE gs os) : (∃ s, r.1 = .str s) ∨ ∃ i, r.1 = .int i := by
  unfold rowsE at h
  rcases List.mem_append.mp h with z | z
  · obtain ⟨g, hg, z⟩ := List.mem_flatMap.mp z
    unfold rowsOf at z
    obtain ⟨⟨e, j⟩, hm, rfl⟩ := List.mem_map.mp z
    exact .inl ⟨_, rfl⟩
  · unfold rowsOuts at z
    obtain ⟨⟨e, j⟩, hm, rfl⟩ := List.mem_map.mp z
    exact .inr ⟨_, rfl⟩
theorem eqv_pair (a b : PyData) (j i : Int) : PyData.eqv (.tuple [a, .int j]) (.tuple [b, .int i]) = (PyData.eqv a b && decide (j = i)) := by
  simp [PyData.eqv, PyData.eqvAll]
  rfl
/-- the odd values -/
def OddD (d : PyData) : Prop := d = .none ∨ (∃ b, d = .bool b) ∨ (∃ i : Int, d = .int i ∧ i.natAbs < 2 ^ 10) ∨ (∃ s, d = .str s ∧ Tz 8 s) ∨ d = .list [] ∨ (∃ n, d = .list [.str n] ∧ Tz 8 n) ∨ d = .dict []
theorem nice_dict0 : Nice 0 1 (.dict []) := by
  refine ⟨by decide, by decide, by decide, by decide⟩
theorem odd_nice {d : PyData} (h : OddD d) : Nice 30 2 d := by
  rcases h with rfl | ⟨b, rfl⟩ | ⟨i, rfl, hi⟩ | ⟨s, rfl, hs⟩ | rfl | ⟨n, rfl, hn⟩ | rfl
  · exact nice_none.mono (by decide) (by decide)
  · exact (nice_bool b).mono (by decide) (by decide)
  · exact (nice_small hi (by decide)).mono (by decide) (by decide)
  · exact (nice_str hs).mono (by decide) (by decide)
  · exact niceAll_nil.list.mono (by decide) (by decide)
  · exact (NiceAll.cons (nice_str hn) niceAll_nil).list.mono (by decide) (by decide)
  · exact nice_dict0.mono (by decide) (by decide)
theorem odd_short {d : PyData} (h : OddD d) : shortD d = true := short_of_weight d (by have := (odd_nice h).wt; omega)
theorem odd_vk {K : PySem.W.Frag} {H : Hp} {v : V} {d : PyData} (h : OddD d) (hd : Dd K H v d) : Vk K H v (kindD d) ∧ (∀ z, v = .str z → kindD d = "str") ∧ ∀ i, v = .int i → kindD d = "int" := by
  refine ⟨vk_dd hd (odd_short h), fun z e => ?_, fun i e => ?_⟩
  · subst e
    cases hd
    rfl
  · subst e
    cases hd
    rfl
theorem odd_same {K : PySem.W.Frag} {H : Hp} {v : V} {d : PyData} (hd : Dd K H v d) : flatB v = true ∨ ∃ r, v = .ref r := by
  cases hd with
  | non => exact .inl rfl
  | bl b => exact .inl rfl
  | int i => exact .inl rfl
  | str s => exact .inl rfl
  | lst _ _ => exact .inr ⟨_, rfl⟩
  | tup _ _ => exact .inr ⟨_, rfl⟩
  | dct _ _ _ => exact .inr ⟨_, rfl⟩
def knownE (gs : List GateK) (os : List EdgeK) : List (V × Int) := (rowsE gs os).map fun r => (r.1, r.2.1)
/-- what the law knows is what the network has -/
theorem known_slot {K : PySem.W.Frag} {H : Hp} {gs : List GateK} {os : List EdgeK} (nd : (gs.map (·.1)).Nodup) {v : V} {d : PyData} (ho : OddD d) (hd : Dd K H v d) (hb : ∀ b, d ≠ .bool b) (i : Int) :
    (((knownE gs os).map pdat).any fun z => PyData.eqv z (.tuple [d, .int i])) = slotV (edgesTo gs os v).length (.int i) := by
  rw [Bool.eq_iff_iff, List.any_eq_true]
  constructor
  · rintro ⟨z, hz, he⟩
    obtain ⟨x, hx, rfl⟩ := List.mem_map.mp hz
    obtain ⟨r, hr, rfl⟩ := List.mem_map.mp hx
    unfold pdat at he
    rw [eqv_pair, Bool.and_eq_true] at he
    obtain ⟨he1, he2⟩ := he
    have he2 := of_decide_eq_true he2
    obtain ⟨j, e, hj, hge, _, _⟩ := row_edge nd hr
    have hv : r.1 = v := by
      rcases row_reader hr with ⟨s, hs⟩ | ⟨k, hk⟩
      · rw [hs] at he1 ⊢
        rcases ho with rfl | ⟨b, rfl⟩ | ⟨m, rfl, _⟩ | ⟨t, rfl, _⟩ | rfl | ⟨n, rfl, _⟩ | rfl <;> simp [vd, PyData.eqv] at he1
        cases hd
        rw [he1]
      · rw [hk] at he1 ⊢
        rcases ho with rfl | ⟨b, rfl⟩ | ⟨m, rfl, _⟩ | ⟨t, rfl, _⟩ | rfl | ⟨n, rfl, _⟩ | rfl
        · simp [vd, PyData.eqv] at he1
        · exact absurd rfl (hb b)
        · simp [vd, PyData.eqv] at he1
          cases hd
          rw [he1]
        all_goals simp [vd, PyData.eqv] at he1
    rw [hv] at hge
    have hl := (List.getElem?_eq_some_iff.mp hge).1
    refine decide_eq_true ?_
    rw [← he2]
    show 0 ≤ r.2.1 ∧ r.2.1 < _
    rw [hj]
    omega
  · intro h
    have h := of_decide_eq_true h
    obtain ⟨j, rfl⟩ : ∃ j : Nat, i = (j : Int) := ⟨i.toNat, by omega⟩
    have hl : j < (edgesTo gs os v).length := by omega
    have hm := edge_row (List.getElem?_eq_getElem hl)
    refine ⟨pdat (v, (j : Int)), List.mem_map_of_mem (List.mem_map.mpr ⟨_, hm, rfl⟩), ?_⟩
    unfold pdat
    rw [eqv_pair, decide_eq_true rfl, Bool.and_true]
    rcases row_reader hm with ⟨s, hs⟩ | ⟨k, hk⟩
    · have hs : v = .str s := hs
      subst hs
      cases hd
      simp [vd, PyData.eqv]
    · have hk : v = .int k := hk
      subst hk
      cases hd
      simp [vd, PyData.eqv]

theorem known_pn {gs : List GateK} {os : List EdgeK} (hn : ∀ g ∈ gs, nameB (TL.tl g.1) = true) (hj : (joinedE gs os).length ≤ 100) : ∀ x ∈ knownE gs os, PairN x := fun x hx => by
  obtain ⟨r, hr, rfl⟩ := List.mem_map.mp hx
  have hl : ∀ g ∈ gs, g.2.2.length ≤ (joinedE gs os).length := fun g hg => by
    unfold joinedE
    rw [List.length_append]
    have : ∀ gs : List GateK, g ∈ gs → g.2.2.length ≤ (gs.flatMap fun g => g.2.2).length := by
      intro gs
      induction gs with
      | nil => intro h; cases h
      | cons k gs ih =>
        intro h
        rw [List.flatMap_cons, List.length_append]
        rcases List.mem_cons.mp h with rfl | h
        · omega
        · have := ih h
          omega
    have := this gs hg
    omega
  have ho : os.length ≤ (joinedE gs os).length := by
    unfold joinedE
    rw [List.length_append]
    omega
  unfold rowsE at hr
  rcases List.mem_append.mp hr with z | z
  · obtain ⟨g, hg, z⟩ := List.mem_flatMap.mp z
    unfold rowsOf at z
    obtain ⟨⟨e, j⟩, hm, rfl⟩ := List.mem_map.mp z
    have hj' := (List.getElem?_eq_some_iff.mp (List.mem_zipIdx_iff_getElem?.mp hm)).1
    have hj' : j < g.2.2.length := hj'
    have := hl g hg
    exact ⟨.inl ⟨g.1, rfl, hn g hg⟩, j, rfl, by omega⟩
  · unfold rowsOuts at z
    obtain ⟨⟨e, j⟩, hm, rfl⟩ := List.mem_map.mp z
    have hj' := (List.getElem?_eq_some_iff.mp (List.mem_zipIdx_iff_getElem?.mp hm)).1
    have hj' : j < os.length := hj'
    exact ⟨.inr ⟨j, rfl, by omega⟩, 0, rfl, by decide⟩
theorem pair_dp {K : PySem.W.Frag} {H : Hp} : ∀ {us : List V} {xs : List (V × Int)}, PairsAt K H us xs → (∀ x ∈ xs, PairN x) → DpAll K H us (xs.map pdat)
  | _, _, .nil, _ => .nil
  | _, _, .cons r t, h => by
    refine .cons ?_ (pair_dp t fun x hx => h x (List.mem_cons_of_mem _ hx))
    obtain ⟨a, rfl, ha⟩ := r
    refine .tup ha (.cons ?_ (.cons (.int _) .nil))
    rcases (h _ List.mem_cons_self).1 with ⟨s, e, _⟩ | ⟨j, e, _⟩
    · rw [e]
      exact .str s
    · rw [e]
      exact .int _
theorem pair_left : ∀ {xs : List (V × Int)}, (∀ x ∈ xs, PairN x) → SeqAt.leftAll (xs.map pdat) = true
  | [], _ => rfl
  | x :: xs, h => by
    have ih := pair_left (xs := xs) fun y hy => h y (List.mem_cons_of_mem _ hy)
    rcases (h x List.mem_cons_self).1 with ⟨s, e, _⟩ | ⟨j, e, _⟩
    · simp [pdat, e, vd, SeqAt.leftAll, SeqAt.leftD, ih]
    · simp [pdat, e, vd, SeqAt.leftAll, SeqAt.leftD, ih]
theorem pair_can : ∀ {xs : List (V × Int)}, (∀ x ∈ xs, PairN x) → PyData.canLayAll0 (xs.map pdat) = true
  | [], _ => rfl
  | x :: xs, h => by
    have ih := pair_can (xs := xs) fun y hy => h y (List.mem_cons_of_mem _ hy)
    rcases (h x List.mem_cons_self).1 with ⟨s, e, hs⟩ | ⟨j, e, _⟩
    · have h1 := canLay_strs [s] fun y hy => by rw [List.mem_singleton.mp hy]; exact T10.name_sm hs
      have h2 : PyData.canLay0 (.str s) = true := by simpa [PyData.canLayAll0] using h1
      simp only [List.map_cons, pdat, e, vd, PyData.canLayAll0, PyData.canLay0, Bool.and_eq_true] at h2 ih ⊢
      exact ⟨⟨h2, trivial, trivial⟩, ih⟩
    · simp only [List.map_cons, pdat, e, vd, PyData.canLayAll0, PyData.canLay0, Bool.and_eq_true] at ih ⊢
      exact ⟨⟨trivial, trivial, trivial⟩, ih⟩
theorem pair_dep : ∀ {xs : List (V × Int)}, (∀ x ∈ xs, PairN x) → PyData.depthAll (xs.map pdat) ≤ 8
  | [], _ => by decide
  | x :: xs, h => by
    have ih := pair_dep (xs := xs) fun y hy => h y (List.mem_cons_of_mem _ hy)
    rcases (h x List.mem_cons_self).1 with ⟨s, e, _⟩ | ⟨j, e, _⟩
    · simp only [List.map_cons, pdat, e, vd, PyData.depthAll, PyData.depth] at ih ⊢
      omega
    · simp only [List.map_cons, pdat, e, vd, PyData.depthAll, PyData.depth] at ih ⊢
      omega
theorem tz_edge : Tz 8 ("edge" : Str) := ⟨by decide +kernel, by decide +kernel⟩
theorem edge_nice {d1 d2 : PyData} (h1 : OddD d1) (h2 : OddD d2) : Nice 200 4 (.list [.str "edge", d1, d2, .bool true]) :=
  ((NiceAll.cons (nice_str tz_edge) (NiceAll.cons (odd_nice h1) (NiceAll.cons (odd_nice h2) (NiceAll.cons (nice_bool true) niceAll_nil)))).list).mono (by decide) (by decide)
/-- where isinstance says so, it is a whole number -/
theorem odd_int {d : PyData} (h : OddD d) (h1 : ansB (kindD d) "int" = true) (h2 : (!ansB (kindD d) "bool") = true) : ∃ i, d = .int i := by
  rcases h with rfl | ⟨b, rfl⟩ | ⟨i, rfl, _⟩ | ⟨s, rfl, _⟩ | rfl | ⟨n, rfl, _⟩ | rfl
  · cases h1
  · cases h2
  · exact ⟨i, rfl⟩
  · cases h1
  · cases h1
  · cases h1
  · cases h1
/-- what is not plain is told of no edge -/
theorem odd_none {K : PySem.W.Frag} {H : Hp} {gs : List GateK} {os : List EdgeK} {v v2 : V} {d1 d2 : PyData} (h1 : Dd K H v d1) (h2 : Dd K H v2 d2) (hb : (ansB (kindD d2) "int" && (!ansB (kindD d2) "bool" && !ansB (kindD d1) "bool")) = false) : slotV (edgesTo gs os v).length v2 = false := by
  cases h2 with
  | int i =>
    cases h1 with
    | bl b =>
      refine decide_eq_false fun h => ?_
      have : (edgesTo gs os (.bl b)).length = 0 := rfl
      omega
    | _ => cases hb
  | _ => rfl
end T10
set_option Elab.async false
set_option linter.all false
set_option maxRecDepth 100000
set_option maxHeartbeats 4000000
namespace T10
open PySem PySem.Spec PyProof.Rows L2 Tp
section
variable {P : Program} {w : World} {K : PySem.W.Frag} {mg : Str → Option Value} {base : Heap} {f : Addr} {fd : FuncData}


def spOddN (K : PySem.W.Frag) (C : Addr) : Sp := fun vs H Q _ => ∃ (p lr ln : Addr) (ins : List Str) (gs : List GateK) (os : List EdgeK) (us : List V) (ns : List Str), vs = [.ref p, .ref lr, .ref ln] ∧ NetAt K H C p ins gs os ∧ H lr = some (.lst us) ∧ RowsXAt K H us (rowsE gs os) ∧ H ln = some (.lst (ns.map V.str)) ∧ ns = ins ++ gs.map (·.1) ∧ 1 ≤ ns.length ∧ ns.length ≤ 1000 ∧ (∀ n ∈ ns, nameB (TL.tl n) = true) ∧ (gs.map (·.1)).Nodup ∧ (joinedE gs os).length ≤ 100 ∧ os.length ≤ 100 ∧ (∀ e ∈ joinedE gs os, e.2.length ≤ 1000 ∧ nameB (TL.tl e.1) = true) ∧ ∀ H' : Hp, Same H H' → Q (.bl true) H'

abbrev sOd : Stmt := top 64
abbrev nOd : List Str := ["_law_net", "_law_rows", "_law_names_here", "_law_known", "_law_odd", "_law_one", "_law_other", "_law_plain", "_law_door", "_law_found", "_law_reader", "_law_slot", "_law_source", "_law_delays"]
theorem scOd : FnScope nOd ["_law_net", "_law_rows", "_law_names_here"] (defScope sOd) := ⟨rfl, rfl, rfl, by decide +kernel, rfl, by decide +kernel, by decide +kernel⟩

theorem ok_Od (F : Fun K "_law_odd_right" "_law_odd_right" sOd f fd) {C CS CE : Addr} (T : TxtV mg) (TR : TxtR mg) (S : Sm K) (IK : InsK K C) (hno : PySem.W.subIn K (.ref C) (.type "str") = some false) (EQ : Ct P w K mg base 1 C "__eq__" [] spEqS) (KA : Cg P w K mg base 6 "_law_caught" (spCaughtN K C)) : FnG P w K mg base CX0 7 f fd ["_law_net", "_law_rows", "_law_names_here"] (spOddN K C) := by
  refine FunG.ok F scOd (fun vs H Q E h => ?_) (fun cdv B out s H vs Q E hr hG h => ?_)
  · obtain ⟨p, lr, ln, ins, gs, os, us, ns, rfl, _⟩ := h
    rfl
  · obtain ⟨p, lr, ln, ins, gs, os, us, ns, rfl, hN, hlr, hR, hln, hns, hn1, hn2, hnm, nd, hj, hol, hed, q⟩ := h
    refine ⟨_, (C8.pss_cut (ps_setLc (i := 3) (own := [("_law_reader", 10), ("_law_slot", 11), ("_law_source", 12), ("_law_delays", 13)]) (g := gSeq K 4 (gCons (gName 10) (gCons (gName 11) (gCons (gName 12) (gCons (gName 13) gNil))))) (tt := tYes) rfl scOd.nd rfl rfl (sw_true rfl rfl rfl (by decide +kernel)) (pi_list (pv 1)) (blkOk_by (N := nOd) (sc := defScope sOd) (by decide +kernel)) (fun _ _ _ _ _ => pg_seq rfl (pgs_cons (pg_name (i := 10) scOd.nd rfl (Or.inl rfl)) (pgs_cons (pg_name (i := 11) scOd.nd rfl (Or.inl rfl)) (pgs_cons (pg_name (i := 12) scOd.nd rfl (Or.inl rfl)) (pgs_cons (pg_name (i := 13) scOd.nd rfl (Or.inl rfl)) pgs_nil))))) (fun _ _ _ _ _ => pts_nil) (fun _ _ _ _ _ => (pe_tup (pa_cons (pv 10) (pa_cons (pv 11) pa_nil)))))
      (C8.pss_cut (ps_for PassesOwn.never rfl (pi_list (pe_lst (pa_cons pe_non (pa_cons pe_bl (pa_cons pe_int (pa_cons pe_int (pa_cons pe_str (pa_cons pe_str (pa_cons (pe_lst pa_nil) (pa_cons (pe_lst (pa_cons (pe_ix ix_list (pv 2) pe_int fun _ _ => rfl) pa_nil)) (pa_cons pe_dnewK (pa_cons (pv 0) pa_nil)))))))))))) (pg_name (i := 4) scOd.nd rfl (Or.inl rfl)) (pss_one (ps_if (PW.pt (pw_and (pt_cmpR (op_or (op_notInL S rfl (hu65 hr)) (op_notInOS EQ hno (hr.mono (by decide)) hG)) (pv 4) (pv 2) rfl) (pw_and1 (pt_cmpR (op_neSame hr.units0) (pe_g KA hr hG (by decide) (by rfl) (pa_cons pe_int (pa_cons (pv 0) (pa_cons (pv 4) (pa_cons pe_non pa_nil))))) (pe_lst (pa_cons pe_str (pa_cons (pv 4) (pa_cons pe_bl pa_nil)))) (nomark _))))) (pss_one (ps_ret pe_bl)) pss_nil)))
      (pss_cons (ps_for PassesOwn.never rfl (pi_list (pe_op op_cat (pv 2) (pe_lst (pa_cons pe_bl (pa_cons pe_bl (pa_cons pe_non (pa_cons (pe_un un_neg pe_int) (pa_cons pe_int (pa_cons pe_int (pa_cons pe_str (pa_cons (pe_lst pa_nil) (pa_cons pe_dnewK (pa_cons pe_int (pa_cons pe_int pa_nil)))))))))))))) (pg_name (i := 5) scOd.nd rfl (Or.inl rfl)) (pss_one (ps_for PassesOwn.never rfl (pi_list (pe_lst (pa_cons pe_int (pa_cons pe_int (pa_cons pe_int (pa_cons pe_int (pa_cons (pe_un un_neg pe_int) (pa_cons pe_bl (pa_cons pe_bl (pa_cons pe_non (pa_cons pe_str (pa_cons (pe_lst pa_nil) pa_nil)))))))))))) (pg_name (i := 6) scOd.nd rfl (Or.inl rfl)) (C8.pss_cut (ps_set (i := 7) scOd.nd rfl (.inl rfl) (pe_and (pe_callB call_isd (by rfl) T.isinstance (by decide +kernel) (pa_cons (pv 6) (pa_cons (pe_bltn (by rfl) T.int (by decide +kernel) (show RelV (.ty "int") _ from rfl)) pa_nil))) (pe_and (pe_not (pe_callB call_isd (by rfl) T.isinstance (by decide +kernel) (pa_cons (pv 6) (pa_cons (pe_bltn (by rfl) T.bool (by decide +kernel) (show RelV (.ty "bool") _ from rfl)) pa_nil)))) (pe_one (pe_not (pe_callB call_isd (by rfl) T.isinstance (by decide +kernel) (pa_cons (pv 5) (pa_cons (pe_bltn (by rfl) T.bool (by decide +kernel) (show RelV (.ty "bool") _ from rfl)) pa_nil))))))))
          (pss_one (ps_for PassesOwn.never rfl (pi_tup (pe_tup (pa_cons pe_int (pa_cons pe_int pa_nil)))) (pg_name (i := 8) scOd.nd rfl (Or.inl rfl)) (C8.pss_cut (ps_set (i := 9) scOd.nd rfl (.inl rfl) (pe_g KA hr hG (by decide) (by rfl) (pa_cons (pv 8) (pa_cons (pv 0) (pa_cons (pv 5) (pa_cons (pv 6) pa_nil))))))
            (pss_one (ps_if (PW.pt (pw_and (pt_val (pv 7)) (pw_and1 (pt_cmpR (op_inLD S rfl (hu65 hr)) (pe_tup (pa_cons (pv 5) (pa_cons (pv 6) pa_nil))) (pv 3) rfl)))) (pss_one (ps_if (pt_cmpR op_ne (pe_ix ix_list (pv 9) pe_int fun _ _ => rfl) pe_str (nomark _)) (pss_one (ps_ret pe_bl)) pss_nil)) (pss_one (ps_if (pt_cmpR op_ne (pe_callB (call_reprD S hr hG) (by rfl) TR.repr (by decide +kernel) (pa_cons (pv 9) pa_nil)) (pe_callB (call_reprD S hr hG) (by rfl) TR.repr (by decide +kernel) (pa_cons (pe_lst (pa_cons pe_str (pa_cons (pv 5) (pa_cons (pv 6) (pa_cons pe_bl pa_nil))))) pa_nil)) (nomark _)) (pss_one (ps_ret pe_bl)) pss_nil)))))))))))
      (pss_one (ps_ret pe_bl))))), ?_⟩
    have e8 := PySem.sizeLine_eq
    have hin : ∀ n ∈ ins, nameB (TL.tl n) = true := fun n h => hnm n (by rw [hns]; exact List.mem_append_left _ h)
    have hn : ∀ g ∈ gs, nameB (TL.tl g.1) = true := fun g h => hnm g.1 (by rw [hns]; exact List.mem_append_right _ (List.mem_map_of_mem h))
    have hrE : (rowsE gs os).length ≤ 100 := by
      have e1 : ∀ gs : List GateK, (gs.flatMap fun g => rowsOf (.str g.1) g.2.2).length = (gs.flatMap fun g => g.2.2).length := by
        intro gs
        induction gs with
        | nil => rfl
        | cons g gs ih => rw [List.flatMap_cons, List.flatMap_cons, List.length_append, List.length_append, ih, rowsOf_len]
      unfold rowsE
      unfold joinedE at hj
      rw [List.length_append] at hj ⊢
      rw [e1, rowsOuts_len]
      exact hj
    refine ⟨fun σ G => ∃ (K0 : Addr) (uk : List V), σ = [some (.ref p), some (.ref lr), some (.ref ln), some (.ref K0), none, none, none, none, none, none, none, none, none, none] ∧ Same H G ∧ G K0 = some (.lst uk) ∧ PairsAt K G uk (knownE gs os), ?_, ?_⟩
    · refine ⟨_, rfl, lr, rfl, ⟨_, SqL.of hlr⟩, fun D hD => lc_it (walk_list (xs := us)) (fun j N => Same H N ∧ ∃ us2, N D = some (.lst us2) ∧ PairsAt K N us2 (((rowsE gs os).take j).map fun r => (r.1, r.2.1))) ⟨Same.put hD, [], upd_same, .nil⟩ (fun j N _ h => SqL.of (h.1 _ _ hlr)) ?_ ?_⟩
      · rintro j v2 N N' hj' ⟨kN, us2, nd2, hP⟩ ⟨rfl, hv2⟩
        obtain ⟨r, hrj, t, rfl, ht⟩ := Pd.at hR hv2
        have hul := hP.length
        rw [List.length_map, List.length_take] at hul
        refine quad_asg (.inr (upT kN ht)) (q := ⟨rfl, _, rfl, _, rfl, (by show 2 ≤ sizeLine; decide), fun t2 ht2 => ?_⟩)
        have k2 := Same.put (o := .tup [r.1, V.int r.2.1]) ht2
        have nd3 := k2 _ _ nd2
        have nt := not_lst nd3
        refine ⟨us2, nd3, (by omega), Same.at0 hD (Same.tr kN k2), us2 ++ [.ref t2], upd_same, ?_⟩
        rw [tk_snoc hrj, List.map_append]
        exact Pd.app (PairsAt.mono (fun _ _ h => sqt_put nt (upT k2 h)) hP) (.cons ⟨t2, rfl, sqt_put nt (SqT.of upd_same)⟩ .nil)
      · rintro N ⟨kN, us2, nd2, hP⟩
        rw [hR.length, List.take_length] at hP
        exact ⟨D, us2, rfl, kN, nd2, hP⟩
    rintro σ G ⟨K0, uk, rfl, kG, hK0, hPk⟩
    have hlnG := kG _ _ hln
    have hNG := hN.up kG
    obtain ⟨n0, ns0, hn0⟩ : ∃ x l, ns = x :: l := by
      cases ns with
      | nil => simp at hn1
      | cons x l => exact ⟨x, l, rfl⟩
    have hat0 : atI (ns.map V.str) 0 = some (.str n0) := by rw [hn0]; exact atI_nat (j := 0) rfl
    have hn0m : nameB (TL.tl n0) = true := hnm n0 (by rw [hn0]; exact List.mem_cons_self)
    have tz0 : Tz 8 ("" : Str) := ⟨by decide +kernel, by decide +kernel⟩
    have tzq : Tz 8 ("qq4q" : Str) := ⟨by decide +kernel, by decide +kernel⟩
    have tzz : Tz 8 ("0" : Str) := ⟨by decide +kernel, by decide +kernel⟩
    have oi : ∀ i : Int, i.natAbs < 2 ^ 10 → OddD (.int i) := fun i h => .inr (.inr (.inl ⟨i, rfl, h⟩))
    have ob : ∀ b : Bool, OddD (.bool b) := fun b => .inr (.inl ⟨b, rfl⟩)
    have os' : ∀ s : Str, Tz 8 s → OddD (.str s) := fun s h => .inr (.inr (.inr (.inl ⟨s, rfl, h⟩)))
    have ol : OddD (.list []) := .inr (.inr (.inr (.inr (.inl rfl))))
    have od : OddD (.dict []) := .inr (.inr (.inr (.inr (.inr (.inr rfl)))))
    refine ⟨fun σ M => ∃ (o4 : Option V), σ = [some (.ref p), some (.ref lr), some (.ref ln), some (.ref K0), o4, none, none, none, none, none, none, none, none, none] ∧ Same G M, ?_, ?_⟩
    · refine ⟨(by show 0 ≤ sizeLine; decide), fun l0 h0 => ⟨_, rfl, ln, _, _, _, rfl, rfl, SqL.of ((Same.put h0) _ _ hlnG), hat0, (by show 1 ≤ sizeLine; decide), fun l1 h1 => ?_⟩⟩
      refine fun dd hdd => ⟨_, rfl, (by show 10 ≤ sizeLine; decide), fun L hL => ?_⟩
      have k0 := Same.put (o := .lst []) h0
      have k1 := Same.put (o := .lst [V.str n0]) h1
      have k2 := Same.put (o := .dK []) hdd
      have k3 := Same.put (o := .lst [V.non, .bl true, .int 0, .int 1, .str "", .str "qq4q", .ref l0, .ref l1, .ref dd, .ref p]) hL
      have a0 := k3 _ _ (k2 _ _ (k1 _ _ (upd_same (H := G) (a := l0) (o := .lst []))))
      have a1 := k3 _ _ (k2 _ _ (upd_same (H := upd G l0 (.lst [])) (a := l1) (o := .lst [V.str n0])))
      have a2 := k3 _ _ (upd_same (H := upd (upd G l0 (.lst [])) l1 (.lst [V.str n0])) (a := dd) (o := .dK []))
      have kG4 := Same.tr k0 (Same.tr k1 (Same.tr k2 k3))
      have aL : (upd (upd (upd (upd G l0 (.lst [])) l1 (.lst [V.str n0])) dd (.dK [])) L (.lst [V.non, .bl true, .int 0, .int 1, .str "", .str "qq4q", .ref l0, .ref l1, .ref dd, .ref p])) L = some (.lst [V.non, .bl true, .int 0, .int 1, .str "", .str "qq4q", .ref l0, .ref l1, .ref dd, .ref p]) := upd_same
      generalize upd (upd (upd (upd G l0 (.lst [])) l1 (.lst [V.str n0])) dd (.dK [])) L (.lst [V.non, .bl true, .int 0, .int 1, .str "", .str "qq4q", .ref l0, .ref l1, .ref dd, .ref p]) = G4 at a0 a1 a2 kG4 aL ⊢
      clear k0 k1 k2 k3 hdd hL h1 h0
      have hcl : ∀ v ∈ [V.non, .bl true, .int 0, .int 1, .str "", .str "qq4q", .ref l0, .ref l1, .ref dd, .ref p], (∃ d, Dd K G4 v d ∧ OddD d) ∨ v = .ref p := fun v hv => by
        simp only [List.mem_cons, List.not_mem_nil, or_false] at hv
        rcases hv with rfl | rfl | rfl | rfl | rfl | rfl | rfl | rfl | rfl | rfl
        · exact .inl ⟨_, .non, .inl rfl⟩
        · exact .inl ⟨_, .bl true, ob true⟩
        · exact .inl ⟨_, .int 0, oi 0 (by decide)⟩
        · exact .inl ⟨_, .int 1, oi 1 (by decide)⟩
        · exact .inl ⟨_, .str _, os' _ tz0⟩
        · exact .inl ⟨_, .str _, os' _ tzq⟩
        · exact .inl ⟨_, .lst (SqL.of a0) .nil, ol⟩
        · exact .inl ⟨_, .lst (SqL.of a1) (.cons (.str n0) .nil), .inr (.inr (.inr (.inr (.inr (.inl ⟨n0, rfl, tz_name hn0m⟩)))))⟩
        · exact .inl ⟨_, .dct (es := []) a2 rfl .nil, od⟩
        · exact .inr rfl
      refine ⟨L, rfl, ⟨_, SqL.of aL⟩, for_it (walk_list (xs := [V.non, .bl true, .int 0, .int 1, .str "", .str "qq4q", .ref l0, .ref l1, .ref dd, .ref p])) (fun i σ M => ∃ (o4 : Option V), σ = [some (.ref p), some (.ref lr), some (.ref ln), some (.ref K0), o4, none, none, none, none, none, none, none, none, none] ∧ Same G4 M) ⟨_, rfl, Same.refl _⟩ (fun i σ M _ ⟨_, _, kM⟩ => SqL.of (kM _ _ aL)) ?_ ?_⟩
      · rintro i v σ M M' hi ⟨o4, rfl, kM⟩ ⟨rfl, hv⟩
        have kGM := Same.tr kG4 kM
        have hNM := hNG.up kGM
        refine ⟨_, rfl, _, rfl, ?_⟩
        rcases hcl v (List.mem_of_getElem? hv) with ⟨d, hd, ho⟩ | rfl
        · have hd' := hd.mono kM
          refine .inl ⟨d, ns.map PyData.str, hd', .lst (SqL.of (kGM _ _ hlnG)) (dpAll_str ns), left_strs ns, can_of (d := d) (shaped_str hnm), dep_strs ns, _, rfl, ?_⟩
          refine ite2 (fun hz => ?_) (fun hz => ?_)
          · have hany : ((ns.map PyData.str).any fun z => PyData.eqv z d) = false := by
              cases h : (ns.map PyData.str).any fun z => PyData.eqv z d with
              | false => rfl
              | true => rw [h] at hz; cases hz
            have hany2 := hany
            rw [hns, List.map_append, List.any_append, Bool.or_eq_false_iff] at hany2
            obtain ⟨k1, k2, k3⟩ := odd_vk ho hd'
            have hhas : hasV gs v = false := by
              cases v with
              | str z =>
                cases hd
                refine decide_eq_false fun hm => ?_
                have : ((ns.map PyData.str).any fun y => PyData.eqv y (.str z)) = true := by
                  rw [List.any_map, List.any_eq_true]
                  refine ⟨z, by rw [hns]; exact List.mem_append_right _ hm, ?_⟩
                  simp [PyData.eqv]
                rw [this] at hany
                cases hany
              | _ => rfl
            have hask : Ask K C M' ins gs v false := ⟨⟨_, k1, k2⟩, .inr (.inl ⟨hhas, d, hd', hany2.1.symm⟩)⟩
            refine ⟨_, rfl, _, rfl, 0, p, ins, gs, os, v, .non, rfl, .inl ⟨rfl, hNM, hin, hn, nd, (by omega), false, hask, (fun h => nomatch h), fun _ a H2 s2 ha => ?_⟩⟩
            refine ⟨_, rfl, (by show 3 ≤ sizeLine; decide), fun b hb => ?_⟩
            have kb := Same.put (o := .lst [V.str "source", v, V.bl true]) hb
            refine ⟨a, b, _, rfl, rfl, SqL.of (kb _ _ ha), SqL.of upd_same, fun x hx => ?_, _, rfl, iteF ⟨_, rfl, Same.tr kM (Same.tr s2 kb)⟩⟩
            simp only [List.mem_cons, List.not_mem_nil, or_false] at hx
            rcases hx with rfl | rfl | rfl
            · exact .inl rfl
            · exact odd_same hd'
            · exact .inl rfl
          · exact iteF ⟨_, rfl, kM⟩
        · obtain ⟨dx, fs, hp0, _⟩ := hNM.there
          refine .inr ⟨p, dx, fs, ln, ns, rfl, rfl, hp0, SqL.of (kGM _ _ hlnG), fun n _ H2 s2 => ⟨p, n, rfl, rfl, s2⟩, fun H2 s2 => ⟨_, rfl, ?_⟩⟩
          have hp2 := s2 _ _ hp0
          have hask : Ask K C H2 ins gs (.ref p) false := ⟨⟨"object", vk_ins IK hp2, fun z e => nomatch e⟩, .inr (.inr ⟨rfl, rfl, p, dx, fs, rfl, hp2⟩)⟩
          refine iteT ?_
          refine ⟨_, rfl, _, rfl, 0, p, ins, gs, os, .ref p, .non, rfl, .inl ⟨rfl, hNM.up s2, hin, hn, nd, (by omega), false, hask, (fun h => nomatch h), fun _ a H3 s3 ha => ?_⟩⟩
          refine ⟨_, rfl, (by show 3 ≤ sizeLine; decide), fun b hb => ?_⟩
          have kb := Same.put (o := .lst [V.str "source", V.ref p, V.bl true]) hb
          refine ⟨a, b, _, rfl, rfl, SqL.of (kb _ _ ha), SqL.of upd_same, fun x hx => ?_, _, rfl, iteF ⟨_, rfl, Same.tr kM (Same.tr s2 (Same.tr s3 kb))⟩⟩
          simp only [List.mem_cons, List.not_mem_nil, or_false] at hx
          rcases hx with rfl | rfl | rfl
          · exact .inl rfl
          · exact .inr ⟨_, rfl⟩
          · exact .inl rfl
      · rintro σ M ⟨o4, rfl, kM⟩
        exact ⟨o4, rfl, Same.tr kG4 kM⟩
    rintro σ G1 ⟨o4, rfl, kG1⟩
    have hlnG1 := kG1 _ _ hlnG
    have hK1 := kG1 _ _ hK0
    have hPk1 := hPk.mono fun _ _ => upT kG1
    have hNG1 := hNG.up kG1
    clear hlnG hNG hK0 hPk
    have hkl := hPk1.length
    have hkl2 : (knownE gs os).length ≤ 100 := by unfold knownE; rw [List.length_map]; exact hrE
    refine ⟨_, rfl, _, rfl, (by show 0 ≤ sizeLine; decide), fun l0 h0 => ?_⟩
    refine fun dd hdd => ⟨(by show 11 ≤ sizeLine; decide), fun L0 hL0 => ?_⟩
    have k0 := Same.put (o := .lst []) h0
    have k1 := Same.put (o := .dK []) hdd
    have k2 := Same.put (o := .lst [V.bl true, .bl false, .non, .int (-1), .int 3, .int 4, .str "qq4q", .ref l0, .ref dd, .int 0, .int 1]) hL0
    have a0 := k2 _ _ (k1 _ _ (upd_same (H := G1) (a := l0) (o := .lst [])))
    have a1 := k2 _ _ (upd_same (H := upd G1 l0 (.lst [])) (a := dd) (o := .dK []))
    have kG2 := Same.tr k0 (Same.tr k1 k2)
    have aL0 : (upd (upd (upd G1 l0 (.lst [])) dd (.dK [])) L0 (.lst [V.bl true, .bl false, .non, .int (-1), .int 3, .int 4, .str "qq4q", .ref l0, .ref dd, .int 0, .int 1])) L0 = some (.lst [V.bl true, .bl false, .non, .int (-1), .int 3, .int 4, .str "qq4q", .ref l0, .ref dd, .int 0, .int 1]) := upd_same
    generalize upd (upd (upd G1 l0 (.lst [])) dd (.dK [])) L0 (.lst [V.bl true, .bl false, .non, .int (-1), .int 3, .int 4, .str "qq4q", .ref l0, .ref dd, .int 0, .int 1]) = G2 at a0 a1 kG2 aL0 ⊢
    clear k0 k1 k2 hdd hL0 h0
    have hcl : ∀ v ∈ ns.map V.str ++ [V.bl true, .bl false, .non, .int (-1), .int 3, .int 4, .str "qq4q", .ref l0, .ref dd, .int 0, .int 1], ∃ d, Dd K G2 v d ∧ OddD d := fun v hv => by
      rcases List.mem_append.mp hv with z | z
      · obtain ⟨x, hx, rfl⟩ := List.mem_map.mp z
        exact ⟨_, .str x, os' x (tz_name (hnm x hx))⟩
      · simp only [List.mem_cons, List.not_mem_nil, or_false] at z
        rcases z with rfl | rfl | rfl | rfl | rfl | rfl | rfl | rfl | rfl | rfl | rfl
        · exact ⟨_, .bl true, ob true⟩
        · exact ⟨_, .bl false, ob false⟩
        · exact ⟨_, .non, .inl rfl⟩
        · exact ⟨_, .int (-1), oi (-1) (by decide)⟩
        · exact ⟨_, .int 3, oi 3 (by decide)⟩
        · exact ⟨_, .int 4, oi 4 (by decide)⟩
        · exact ⟨_, .str _, os' _ tzq⟩
        · exact ⟨_, .lst (SqL.of a0) .nil, ol⟩
        · exact ⟨_, .dct (es := []) a1 rfl .nil, od⟩
        · exact ⟨_, .int 0, oi 0 (by decide)⟩
        · exact ⟨_, .int 1, oi 1 (by decide)⟩
    have hL1 : ([V.bl true, .bl false, .non, .int (-1), .int 3, .int 4, .str "qq4q", .ref l0, .ref dd, .int 0, .int 1] : List V).length = 11 := rfl
    refine ⟨ln, L0, _, _, rfl, rfl, kG2 _ _ hlnG1, aL0, (by rw [List.length_map, hL1]; omega), fun L hL => ?_⟩
    have kL := Same.put (o := .lst (ns.map V.str ++ [V.bl true, .bl false, .non, .int (-1), .int 3, .int 4, .str "qq4q", .ref l0, .ref dd, .int 0, .int 1])) hL
    have aL : (upd G2 L (.lst (ns.map V.str ++ [V.bl true, .bl false, .non, .int (-1), .int 3, .int 4, .str "qq4q", .ref l0, .ref dd, .int 0, .int 1]))) L = some (.lst (ns.map V.str ++ [V.bl true, .bl false, .non, .int (-1), .int 3, .int 4, .str "qq4q", .ref l0, .ref dd, .int 0, .int 1])) := upd_same
    have hcl2 : ∀ v ∈ ns.map V.str ++ [V.bl true, .bl false, .non, .int (-1), .int 3, .int 4, .str "qq4q", .ref l0, .ref dd, .int 0, .int 1], ∃ d, Dd K (upd G2 L (.lst (ns.map V.str ++ [V.bl true, .bl false, .non, .int (-1), .int 3, .int 4, .str "qq4q", .ref l0, .ref dd, .int 0, .int 1]))) v d ∧ OddD d := fun v hv => by
      obtain ⟨d, h1, h2⟩ := hcl v hv
      exact ⟨d, h1.mono kL, h2⟩
    have kG3 := Same.tr kG2 kL
    generalize upd G2 L (.lst (ns.map V.str ++ [V.bl true, .bl false, .non, .int (-1), .int 3, .int 4, .str "qq4q", .ref l0, .ref dd, .int 0, .int 1])) = G3 at aL kG3 hcl2 ⊢
    clear kL hL hcl aL0 kG2
    refine ⟨L, rfl, ⟨_, SqL.of aL⟩, for_it (walk_list (xs := ns.map V.str ++ [V.bl true, .bl false, .non, .int (-1), .int 3, .int 4, .str "qq4q", .ref l0, .ref dd, .int 0, .int 1])) (fun i σ M => ∃ (o4 o5 o6 o7 o8 o9 : Option V), σ = [some (.ref p), some (.ref lr), some (.ref ln), some (.ref K0), o4, o5, o6, o7, o8, o9, none, none, none, none] ∧ Same G3 M) ⟨_, _, _, _, _, _, rfl, Same.refl _⟩ (fun i σ M _ ⟨_, _, _, _, _, _, _, kM⟩ => SqL.of (kM _ _ aL)) ?_ ?_⟩
    · rintro i v σ M M' hi ⟨o4, o5, o6, o7, o8, o9, rfl, kM⟩ ⟨rfl, hv⟩
      obtain ⟨d1, hd1, ho1⟩ := hcl2 v (List.mem_of_getElem? hv)
      have kGM := Same.tr kG3 kM
      have hd1' := hd1.mono kM
      have hlN := hNG1.up kGM
      have hKM := kGM _ _ hK1
      have hPM := hPk1.mono fun _ _ => upT kGM
      clear hd1
      refine ⟨_, rfl, (by show 0 ≤ sizeLine; decide), fun l2 h2 => ⟨(by show 10 ≤ sizeLine; decide), fun L2 hL2 => ?_⟩⟩
      have k2 := Same.put (o := .lst []) h2
      have k3 := Same.put (o := .lst [V.int 0, .int 1, .int 2, .int 3, .int (-1), .bl true, .bl false, .non, .str "0", .ref l2]) hL2
      have a2 := k3 _ _ (upd_same (H := M') (a := l2) (o := .lst []))
      have kM2 := Same.tr k2 k3
      have aL2 : (upd (upd M' l2 (.lst [])) L2 (.lst [V.int 0, .int 1, .int 2, .int 3, .int (-1), .bl true, .bl false, .non, .str "0", .ref l2])) L2 = some (.lst [V.int 0, .int 1, .int 2, .int 3, .int (-1), .bl true, .bl false, .non, .str "0", .ref l2]) := upd_same
      generalize upd (upd M' l2 (.lst [])) L2 (.lst [V.int 0, .int 1, .int 2, .int 3, .int (-1), .bl true, .bl false, .non, .str "0", .ref l2]) = M2 at a2 kM2 aL2 ⊢
      clear k2 k3 h2 hL2
      have hcl3 : ∀ x ∈ [V.int 0, .int 1, .int 2, .int 3, .int (-1), .bl true, .bl false, .non, .str "0", .ref l2], ∃ d, Dd K M2 x d ∧ OddD d := fun x z => by
        simp only [List.mem_cons, List.not_mem_nil, or_false] at z
        rcases z with rfl | rfl | rfl | rfl | rfl | rfl | rfl | rfl | rfl | rfl
        · exact ⟨_, .int 0, oi 0 (by decide)⟩
        · exact ⟨_, .int 1, oi 1 (by decide)⟩
        · exact ⟨_, .int 2, oi 2 (by decide)⟩
        · exact ⟨_, .int 3, oi 3 (by decide)⟩
        · exact ⟨_, .int (-1), oi (-1) (by decide)⟩
        · exact ⟨_, .bl true, ob true⟩
        · exact ⟨_, .bl false, ob false⟩
        · exact ⟨_, .non, .inl rfl⟩
        · exact ⟨_, .str _, os' _ tzz⟩
        · exact ⟨_, .lst (SqL.of a2) .nil, ol⟩
      refine ⟨L2, rfl, ⟨_, SqL.of aL2⟩, for_it (walk_list (xs := [V.int 0, .int 1, .int 2, .int 3, .int (-1), .bl true, .bl false, .non, .str "0", .ref l2])) (fun i σ N => ∃ (o6 o7 o8 o9 : Option V), σ = [some (.ref p), some (.ref lr), some (.ref ln), some (.ref K0), o4, some (v), o6, o7, o8, o9, none, none, none, none] ∧ Same M2 N) ⟨_, _, _, _, rfl, Same.refl _⟩ (fun i σ M _ ⟨_, _, _, _, _, kM⟩ => SqL.of (kM _ _ aL2)) ?_ ?_⟩
      · rintro i2 v2 σ N N' hi2 ⟨o6, o7, o8, o9, rfl, kN⟩ ⟨rfl, hv2⟩
        obtain ⟨d2, hd2, ho2⟩ := hcl3 v2 (List.mem_of_getElem? hv2)
        have kMN := Same.tr kM2 kN
        have hd2N := hd2.mono kN
        have hd1N := hd1'.mono kMN
        have hNN := hlN.up kMN
        have hKN := kMN _ _ hKM
        have hPN := hPM.mono fun _ _ => upT kMN
        clear hd2
        obtain ⟨vk1, vs1, vi1⟩ := odd_vk ho1 hd1N
        obtain ⟨vk2, vs2, vi2⟩ := odd_vk ho2 hd2N
        refine ⟨fun σ N2 => ∃ b : Bool, σ = [some (.ref p), some (.ref lr), some (.ref ln), some (.ref K0), o4, some (v), some (v2), some (.bl b), o8, o9, none, none, none, none] ∧ Same N' N2 ∧ b = (ansB (kindD d2) "int" && (!ansB (kindD d2) "bool" && !ansB (kindD d1) "bool")), ?_, ?_⟩
        · refine ⟨_, rfl, v2, _, _, _, rfl, .ty "int", vk2.kd.is "int" (by decide), _, rfl, ?_⟩
          refine ite2 (fun h1 => ?_) (fun h1 => ?_)
          · refine ⟨_, rfl, v2, _, _, _, rfl, .ty "bool", vk2.kd.is "bool" (by decide), _, rfl, _, rfl, ?_⟩
            refine ite2 (fun h2 => ?_) (fun h2 => ?_)
            · refine ⟨_, rfl, v, _, _, _, rfl, .ty "bool", vk1.kd.is "bool" (by decide), _, rfl, ?_⟩
              exact ⟨_, rfl, Same.refl _, by rw [h1, h2, Bool.true_and, Bool.true_and]⟩
            · exact ⟨_, rfl, Same.refl _, by rw [h1, show (!ansB (kindD d2) "bool") = false from by simpa using h2]; rfl⟩
          · exact ⟨_, rfl, Same.refl _, by rw [show ansB (kindD d2) "int" = false from by simpa using h1]; rfl⟩
        rintro σ N2 ⟨b, rfl, kN2, hb⟩
        have hd2' := hd2N.mono kN2
        have hd1N' := hd1N.mono kN2
        have hN2 := hNN.up kN2
        have hK2 := kN2 _ _ hKN
        have hP2 := hPN.mono fun _ _ => upT kN2
        refine ⟨(by show 2 ≤ sizeLine; decide), fun TT hTT => ?_⟩
        have kT := Same.put (o := .tup [V.int 1, .int 2]) hTT
        have aT := upd_same (H := N2) (a := TT) (o := .tup [V.int 1, .int 2])
        generalize upd N2 TT (.tup [V.int 1, .int 2]) = N3 at kT aT ⊢
        refine ⟨TT, rfl, ⟨_, SqT.of aT⟩, for_it (walk_tup (xs := [V.int 1, .int 2])) (fun i σ U => ∃ (o8 o9 : Option V), σ = [some (.ref p), some (.ref lr), some (.ref ln), some (.ref K0), o4, some (v), some (v2), some (.bl b), o8, o9, none, none, none, none] ∧ Same N3 U) ⟨_, _, rfl, Same.refl _⟩ (fun i σ M _ ⟨_, _, _, kM⟩ => SqT.of (kM _ _ aT)) ?_ ?_⟩
        · rintro i3 v3 σ U U' hi3 ⟨o8, o9, rfl, kU⟩ ⟨rfl, hv3⟩
          obtain ⟨dv, rfl, hdv⟩ : ∃ d : Int, v3 = .int d ∧ (d = 1 ∨ d = 2) := by
            have := List.mem_of_getElem? hv3
            simp only [List.mem_cons, List.not_mem_nil, or_false] at this
            rcases this with rfl | rfl
            · exact ⟨1, rfl, .inl rfl⟩
            · exact ⟨2, rfl, .inr rfl⟩
          have kU2 := Same.tr kT kU
          have hd2U := hd2'.mono kU2
          have hd1U := hd1N'.mono kU2
          have hNU := hN2.up kU2
          refine ⟨fun σ U2 => ∃ (a : Addr), σ = [some (.ref p), some (.ref lr), some (.ref ln), some (.ref K0), o4, some (v), some (v2), some (.bl b), some (.int dv), some (.ref a), none, none, none, none] ∧ Same U' U2 ∧ ((slotV (edgesTo gs os v).length v2 = true ∧ ∃ x, U2 a = some (.lst [.str "told", x])) ∨ (slotV (edgesTo gs os v).length v2 = false ∧ U2 a = some (.lst [.str "edge", v, v2, .bl true]))), ?_, ?_⟩
          · have hE : EArg K U' C p ins gs os v v2 (kindD d1) (kindD d2) := ⟨hNU, vk1.mono (Same.tr kN2 kU2), vs1, vi1, vk2.mono (Same.tr kN2 kU2), vi2, hn, nd, by omega⟩
            refine ⟨_, rfl, _, rfl, _, rfl, _, rfl, dv, p, ins, gs, os, v, v2, rfl, .inr ⟨hdv, _, _, hE, fun hs i e hi he a H' s' ha => ⟨a, rfl, s', .inl ⟨hs, _, ha⟩⟩, fun hs a H' s' ha => ⟨a, rfl, s', .inr ⟨hs, ha⟩⟩⟩⟩
          rintro σ U2 ⟨a, rfl, kA, hA⟩
          have kU3 := Same.tr kU2 kA
          have hd2V := hd2U.mono kA
          have hd1V := hd1U.mono kA
          have hKV := kU3 _ _ hK2
          have hPV := hP2.mono fun _ _ => upT kU3
          have hpn := known_pn (gs := gs) (os := os) hn hj
          cases b with
          | true =>
            refine ⟨_, rfl, true, rfl, ?_⟩
            refine iteT ?_
            have hb' := hb.symm
            rw [Bool.and_eq_true, Bool.and_eq_true] at hb'
            obtain ⟨i, hi'⟩ := odd_int ho2 hb'.1 hb'.2.1
            have hnb : ∀ c, d1 ≠ .bool c := fun c e => by
              have := hb'.2.2
              rw [e] at this
              cases this
            have hv2i : v2 = .int i := by
              rw [hi'] at hd2V
              cases hd2V
              rfl
            refine ⟨_, rfl, _, rfl, (by show 2 ≤ sizeLine; decide), fun t ht => ?_⟩
            have kt := Same.put (o := .tup [v, v2]) ht
            refine ⟨_, rfl, .tuple [d1, d2], (knownE gs os).map pdat, .tup (SqT.of upd_same) (.cons (hd1V.mono kt) (.cons (hd2V.mono kt) .nil)), .lst (SqL.of (kt _ _ hKV)) (pair_dp (hPV.mono fun _ _ => upT kt) hpn), pair_left hpn, pair_can hpn, pair_dep hpn, _, rfl, ?_⟩
            have hks := known_slot (os := os) nd ho1 hd1V hnb i
            rw [hi', hks, ← hv2i]
            rcases hA with ⟨hs, x, ha⟩ | ⟨hs, ha⟩
            · rw [hs]
              refine iteT ?_
              have ha' := kt _ _ ha
              generalize upd U2 t (.tup [v, v2]) = U3 at kt ha' ⊢
              refine ⟨_, rfl, a, _, _, _, rfl, rfl, SqL.of ha', atI_nat (j := 0) rfl, rfl, _, rfl, if_false_of (by rw [decide_eq_true rfl]; rfl) ?_⟩
              exact ⟨_, _, rfl, Same.tr kU (Same.tr kA kt)⟩
            · rw [hs]
              refine iteF ?_
              rw [hi'] at hd2V ho2
              refine ⟨_, rfl, ?_⟩
              dsimp only [tNil]
              refine rReprD_of (.lst (SqL.of (kt _ _ ha)) (.cons (.str _) (.cons (hd1V.mono kt) (.cons (hd2V.mono kt) (.cons (.bl true) .nil))))) (edge_nice ho1 ho2) (by decide) (by decide) ?_
              refine ⟨_, rfl, _, rfl, (by show 4 ≤ sizeLine; decide), fun le hle => ?_⟩
              have kle := Same.put (o := .lst [V.str "edge", v, v2, V.bl true]) hle
              dsimp only [tNil]
              refine rReprD_of (.lst (SqL.of upd_same) (.cons (.str _) (.cons ((hd1V.mono kt).mono kle) (.cons ((hd2V.mono kt).mono kle) (.cons (.bl true) .nil))))) (edge_nice ho1 ho2) (by decide) (by decide) ⟨rfl, _, rfl, if_false_of (by rw [decide_eq_true rfl]; rfl) ?_⟩
              exact ⟨_, _, rfl, Same.tr kU (Same.tr kA (Same.tr kt kle))⟩
          | false =>
            refine ⟨_, rfl, false, rfl, ?_⟩
            refine iteF ?_
            have hs0 := odd_none (gs := gs) (os := os) hd1V hd2V hb.symm
            rcases hA with ⟨hs, x, ha⟩ | ⟨hs, ha⟩
            · rw [hs0] at hs
              cases hs
            · refine ⟨_, rfl, ?_⟩
              dsimp only [tNil]
              refine rReprD_of (.lst (SqL.of ha) (.cons (.str _) (.cons (hd1V) (.cons (hd2V) (.cons (.bl true) .nil))))) (edge_nice ho1 ho2) (by decide) (by decide) ?_
              refine ⟨_, rfl, _, rfl, (by show 4 ≤ sizeLine; decide), fun le hle => ?_⟩
              have kle := Same.put (o := .lst [V.str "edge", v, v2, V.bl true]) hle
              dsimp only [tNil]
              refine rReprD_of (.lst (SqL.of upd_same) (.cons (.str _) (.cons (hd1V.mono kle) (.cons (hd2V.mono kle) (.cons (.bl true) .nil))))) (edge_nice ho1 ho2) (by decide) (by decide) ⟨rfl, _, rfl, if_false_of (by rw [decide_eq_true rfl]; rfl) ?_⟩
              exact ⟨_, _, rfl, Same.tr kU (Same.tr kA kle)⟩
        · rintro σ U ⟨o8, o9, rfl, kU⟩
          exact ⟨_, _, _, _, rfl, Same.tr kN (Same.tr kN2 (Same.tr kT kU))⟩
      · rintro σ N ⟨o6, o7, o8, o9, rfl, kN⟩
        exact ⟨_, _, _, _, _, _, rfl, Same.tr kM (Same.tr kM2 kN)⟩
    · rintro σ M ⟨o4, o5, o6, o7, o8, o9, rfl, kM⟩
      exact q M (Same.tr kG (Same.tr kG1 (Same.tr kG3 kM)))
end
end T10
set_option Elab.async false
set_option linter.all false
set_option maxRecDepth 100000
set_option maxHeartbeats 4000000
/-! what the drawing of networks keeps -/
namespace T10
open PySem PySem.Spec PyProof.Rows L2 Tp
section
variable {K : PySem.W.Frag} {H G G' M : Hp} {p tl pd D : Addr} {bs xs xs' : List Addr} {o : HO}
/-- all that may change -/
def SG (p tl : Addr) (bs xs : List Addr) (b : Addr) : Prop := SD p tl bs b ∨ b ∈ xs
theorem ms_gen {S S' : Addr → Prop} (hp : S p) (h : ∀ b, S' b → S b ∨ G b = none) (s : Same (ms (· = p) G) (ms (· = p) M)) : Same (ms S G) (ms S' M) := fun b u e => by
  obtain ⟨h1, h2⟩ := ms_some e
  refine ms_at (fun z => ?_) (ms_some (s b u (ms_at (fun z => h1 (z ▸ hp)) h2))).2
  rcases h b z with w | w
  · exact h1 w
  · rw [h2] at w
    cases w
theorem sg_p : SG p tl bs xs p := .inl (.inl rfl)
theorem sg_mv (h : ∀ b ∈ xs', b ∈ xs ∨ G b = none) (s : Same G M) : Same (ms (SG p tl bs xs) G) (ms (SG p tl bs xs') M) :=
  ms_gen sg_p (fun b z => z.elim (fun z => .inl (.inl z)) fun z => (h b z).elim (fun w => .inl (.inr w)) .inr) (ms_up s)
theorem sg_set (h : D ∈ xs) : ms (SG p tl bs xs) (upd G D o) = ms (SG p tl bs xs) G := ms_put (.inr h)
theorem sg_take (h : ∀ b, b ≠ p → G' b = G b) : ms (SG p tl bs xs) G' = ms (SG p tl bs xs) G := ms_eqS fun b hb => h b fun z => hb (.inl (.inl z))
theorem sg_st (s : Same (ms (SD p tl bs) G) (ms (SD p tl bs) G')) : Same (ms (SG p tl bs xs) G) (ms (SG p tl bs xs) G') := fun b u e => by
  obtain ⟨h1, h2⟩ := ms_some e
  exact ms_at h1 (ms_some (s b u (ms_at (fun z => h1 (.inl z)) h2))).2
theorem sm_st (hH : ∀ b, SD p tl bs b → b ≠ p → H b = none) (k : Same (ms (· = p) H) (ms (· = p) G)) (s : Same (ms (SD p tl bs) G) (ms (SD p tl bs) G')) : Same (ms (· = p) H) (ms (· = p) G') := fun b u e => by
  obtain ⟨h1, h2⟩ := ms_some e
  have h3 := ms_some (k b u e)
  have h4 : ¬ SD p tl bs b := fun z => by rw [hH b z h1] at h2; cases h2
  exact ms_at h1 (ms_some (s b u (ms_at h4 h3.2))).2
theorem sm_set (hD : D ≠ p) (hH : H D = none) (k : Same (ms (· = p) H) (ms (· = p) G)) : Same (ms (· = p) H) (ms (· = p) (upd G D o)) := by
  rw [ms_upd (S := (· = p)) hD]
  exact Same.at0 (ms_nil hH) k
theorem noS {S : Addr → Prop} (h : ∀ b, S b → ∃ xs, G b = some (.lst xs)) : ∀ b ys, SqT K G b ys → SqT K (ms S G) b ys := fun b ys q => by
  rcases q with q | q
  · have nb : ¬ S b := fun e => by
      obtain ⟨xs, e⟩ := h b e
      rcases q with q | ⟨o, q⟩
      · rw [e] at q; cases q
      · rw [e] at q; cases q
    rcases q with q | ⟨o, q⟩
    · exact .inl (.inl (ms_at nb q))
    · exact .inl (.inr ⟨o, ms_at nb q⟩)
  · exact .inr q
theorem not_dK {b : Addr} {kvs : List (Key × V)} (h : G b = some (.dK kvs)) : NotTup G b := fun ys r => by
  rcases r with r | ⟨o, r⟩
  · rw [h] at r
    cases r
  · rw [h] at r
    cases r
/-- a symbol and how many edges -/
def HeadD (K : PySem.W.Frag) (M : Hp) (v : V) (h : Str × Int) : Prop := ∃ t, v = .ref t ∧ SqT K M t [.str h.1, .int h.2]
theorem HeadD.mono {v : V} {h : Str × Int} (ht : ∀ b ys, SqT K H b ys → SqT K M b ys) (q : HeadD K H v h) : HeadD K M v h := let ⟨t, h1, h2⟩ := q; ⟨t, h1, ht _ _ h2⟩
/-- what stays as it is -/
structure Fx (K : PySem.W.Frag) (M : Hp) (sl nl il hd : Addr) (ss names ins : List Str) (uh : List V) (hs : List (Str × Int)) : Prop where
  s : M sl = some (.lst (ss.map V.str))
  n : M nl = some (.lst (names.map V.str))
  i : M il = some (.lst (ins.map V.str))
  h : M hd = some (.lst uh)
  hp : Paired (HeadD K M) uh hs
theorem Fx.up {sl nl il hd : Addr} {ss names ins : List Str} {uh : List V} {hs : List (Str × Int)} (s : Same H M) (h : Fx K H sl nl il hd ss names ins uh hs) : Fx K M sl nl il hd ss names ins uh hs := ⟨s _ _ h.s, s _ _ h.n, s _ _ h.i, s _ _ h.h, Paired.mono (fun _ _ q => q.mono fun _ _ => upT s) h.hp⟩
/-- what was drawn first -/
structure PfD (ss names ins : List Str) (hs : List (Str × Int)) : Prop where
  s1 : 1 ≤ ss.length
  s3 : ss.length ≤ 3
  sn : ∀ s ∈ ss, nameB (TL.tl s) = true
  n1 : 1 ≤ names.length
  n8 : names.length ≤ 8
  nd : (ins ++ names).Nodup
  nm : ∀ n ∈ ins ++ names, nameB (TL.tl n) = true
  i1 : 1 ≤ ins.length
  i4 : ins.length ≤ 4
  hl : hs.length = names.length
  hh : ∀ h ∈ hs, nameB (TL.tl h.1) = true ∧ 1 ≤ h.2 ∧ h.2 ≤ 3
theorem ins_ok {ns : List Str} {m k : Nat} (h : GoodN ns (m + 4)) (h1 : 1 ≤ k) (h4 : k ≤ 4) : (((ns.drop m).take k) ++ ns.take m).Nodup ∧ (∀ n ∈ ((ns.drop m).take k) ++ ns.take m, nameB (TL.tl n) = true) ∧ ((ns.drop m).take k).length = k ∧ (ns.take m).length = m := by
  have hl := h.len
  have e : ns.take m ++ ns.drop m = ns := List.take_append_drop m ns
  have nd := h.nd
  rw [← e] at nd
  obtain ⟨n1, n2, n3⟩ := List.nodup_append.mp nd
  refine ⟨List.nodup_append.mpr ⟨n2.sublist (List.take_sublist _ _), n1, fun a ha b hb => (n3 b hb a (List.mem_of_mem_take ha)).symm⟩, fun n hn => h.nm n ?_, by rw [List.length_take, List.length_drop]; omega, by rw [List.length_take]; omega⟩
  rcases List.mem_append.mp hn with z | z
  · exact List.mem_of_mem_drop (List.mem_of_mem_take z)
  · exact List.mem_of_mem_take z
theorem left_le (loose : List Str) (es : List EdgeK) (e : EdgeK) : (leftL loose (es ++ [e])).length ≤ (leftL loose es).length := by
  rw [leftL_snoc]
  exact List.length_filter_le _ _
theorem left_head {x : Str} {loose : List Str} {e : EdgeK} (h : e.1 = x) : (leftL (x :: loose) [e]).length ≤ loose.length := by
  have := leftL_snoc (x :: loose) [] e
  rw [List.nil_append, leftL_nil] at this
  rw [this, List.filter_cons, if_neg (by rw [h]; simp)]
  exact List.length_filter_le _ _
theorem at_str {ns : List Str} {d : Int} (h0 : 0 ≤ d) (h1 : d < (ns.length : Int)) : ∃ s, ns[d.toNat]? = some s ∧ atI (ns.map V.str) d = some (.str s) := by
  obtain ⟨j, rfl⟩ : ∃ j : Nat, d = (j : Int) := ⟨d.toNat, by omega⟩
  have hl : j < ns.length := by omega
  exact ⟨ns[j], by rw [Int.toNat_natCast, List.getElem?_eq_getElem hl], atI_nat (by rw [List.getElem?_map, List.getElem?_eq_getElem hl]; rfl)⟩
theorem mem_early {a b : List Str} {i k : Nat} {s : Str} (h : (a ++ b)[i]? = some s) (hi : i < a.length + k) : s ∈ a ++ b.take k := by
  rcases Nat.lt_or_ge i a.length with z | z
  · rw [List.getElem?_append_left z] at h
    exact List.mem_append_left _ (List.mem_of_getElem? h)
  · rw [List.getElem?_append_right z] at h
    refine List.mem_append_right _ (List.mem_of_getElem? (i := i - a.length) ?_)
    rw [List.getElem?_take, if_pos (by omega)]
    exact h
theorem mem_notdrop {a b : List Str} {k : Nat} {s : Str} (h : s ∈ a ++ b) (hn : s ∉ b.drop k) : s ∈ a ∨ s ∈ b.take k := by
  rcases List.mem_append.mp h with z | z
  · exact .inl z
  · rw [← List.take_append_drop k b] at z
    exact .inr ((List.mem_append.mp z).resolve_right hn)
end
end T10
set_option Elab.async false
set_option linter.all false
set_option maxRecDepth 100000
set_option maxHeartbeats 4000000
/-! how the drawing of gates stands -/
namespace T10
open PySem PySem.Spec PyProof.Rows L2 Tp
section
variable {K : PySem.W.Frag} {H N N' : Hp} {p tl pd sl nl il hd gl el lo D : Addr} {bs : List Addr} {kvs : List (Key × V)} {ss names ins lq lq' : List Str} {uh vs evs us us' : List V} {hs : List (Str × Int)} {gs : List GateK} {es ts ts' : List EdgeK} {c c' : Nat}
/-- within a gate -/
structure SlN (K : PySem.W.Frag) (H : Hp) (p tl pd sl nl il hd gl el : Addr) (bs : List Addr) (kvs : List (Key × V)) (ss names ins : List Str) (uh : List V) (hs : List (Str × Int)) (vs : List V) (gs : List GateK) (N : Hp) (lo : Addr) (lq : List Str) (evs : List V) (es : List EdgeK) (us : List V) (ts : List EdgeK) (c : Nat) : Prop where
  m0 : Same (ms (· = p) H) (ms (· = p) N)
  hH : ∀ b, SD p tl bs b → b ≠ p → H b = none
  dr : DrS K N p tl pd bs kvs us ts c
  t6 : ts.length ≤ 60
  fg : N gl = some (.lst vs)
  gS : ¬ SD p tl bs gl
  gH : H gl = none
  fe : N el = some (.lst evs)
  eS : ¬ SD p tl bs el
  eH : H el = none
  eg : el ≠ gl
  fl : N lo = some (.lst (lq.map V.str))
  lH : H lo = none
  lS : ¬ SD p tl bs lo
  lg : lo ≠ gl
  le : lo ≠ el
  fx : Fx K (ms (SG p tl bs [gl, lo, el]) N) sl nl il hd ss names ins uh hs
  ga : Paired (GateD K (ms (SG p tl bs [gl, lo, el]) N)) vs gs
  ed : Paired (EdgeD K (ms (SG p tl bs [gl, lo, el]) N)) evs es
theorem SlN.take (h : SlN K H p tl pd sl nl il hd gl el bs kvs ss names ins uh hs vs gs N lo lq evs es us ts c) (hb : BoxAt N' p (c + 1)) (hk : ∀ b, b ≠ p → N' b = N b) : SlN K H p tl pd sl nl il hd gl el bs kvs ss names ins uh hs vs gs N' lo lq evs es us ts (c + 1) := by
  have e : ms (SG p tl bs [gl, lo, el]) N' = ms (SG p tl bs [gl, lo, el]) N := sg_take hk
  exact ⟨Same.tr h.m0 (box_sm hk), h.hH, h.dr.take hb hk, h.t6, (hk _ fun z => h.gS (.inl z)).trans h.fg, h.gS, h.gH, (hk _ fun z => h.eS (.inl z)).trans h.fe, h.eS, h.eH, h.eg, (hk _ fun z => h.lS (.inl z)).trans h.fl, h.lH, h.lS, h.lg, h.le, by rw [e]; exact h.fx, by rw [e]; exact h.ga, by rw [e]; exact h.ed⟩
theorem SlN.up (h : SlN K H p tl pd sl nl il hd gl el bs kvs ss names ins uh hs vs gs N lo lq evs es us ts c) (s : Same N N') : SlN K H p tl pd sl nl il hd gl el bs kvs ss names ins uh hs vs gs N' lo lq evs es us ts c :=
  ⟨Same.tr h.m0 (ms_up s), h.hH, h.dr.up s, h.t6, s _ _ h.fg, h.gS, h.gH, s _ _ h.fe, h.eS, h.eH, h.eg, s _ _ h.fl, h.lH, h.lS, h.lg, h.le, h.fx.up (ms_up s), Paired.mono (fun _ _ q => q.up (ms_up s)) h.ga, edges_up (ms_up s) h.ed⟩
theorem SlN.mono (h : SlN K H p tl pd sl nl il hd gl el bs kvs ss names ins uh hs vs gs N lo lq evs es us ts c) (hc : c ≤ c') : SlN K H p tl pd sl nl il hd gl el bs kvs ss names ins uh hs vs gs N lo lq evs es us ts c' :=
  ⟨h.m0, h.hH, h.dr.mono hc, h.t6, h.fg, h.gS, h.gH, h.fe, h.eS, h.eH, h.eg, h.fl, h.lH, h.lS, h.lg, h.le, h.fx, h.ga, h.ed⟩
/-- starts are drawn -/
theorem SlN.st (h : SlN K H p tl pd sl nl il hd gl el bs kvs ss names ins uh hs vs gs N lo lq evs es us ts c) (s : Same (ms (SD p tl bs) N) (ms (SD p tl bs) N')) (d : DrS K N' p tl pd bs kvs us' ts' c') (t6 : ts'.length ≤ 60) : SlN K H p tl pd sl nl il hd gl el bs kvs ss names ins uh hs vs gs N' lo lq evs es us' ts' c' :=
  ⟨sm_st h.hH h.m0 s, h.hH, d, t6, (ms_some (s _ _ (ms_at h.gS h.fg))).2, h.gS, h.gH, (ms_some (s _ _ (ms_at h.eS h.fe))).2, h.eS, h.eH, h.eg, (ms_some (s _ _ (ms_at h.lS h.fl))).2, h.lH, h.lS, h.lg, h.le, h.fx.up (sg_st s), Paired.mono (fun _ _ q => q.up (sg_st s)) h.ga, edges_up (sg_st s) h.ed⟩
/-- another edge -/
theorem SlN.edge (h : SlN K H p tl pd sl nl il hd gl el bs kvs ss names ins uh hs vs gs N lo lq evs es us ts c) {v : V} {e : EdgeK} (he : EdgeD K (ms (SG p tl bs [gl, lo, el]) N) v e) : SlN K H p tl pd sl nl il hd gl el bs kvs ss names ins uh hs vs gs (upd N el (.lst (evs ++ [v]))) lo lq (evs ++ [v]) (es ++ [e]) us ts c := by
  have e1 : ms (SG p tl bs [gl, lo, el]) (upd N el (.lst (evs ++ [v]))) = ms (SG p tl bs [gl, lo, el]) N := sg_set (by simp)
  exact ⟨sm_set (fun z => h.eS (.inl z)) h.eH h.m0, h.hH, h.dr.other h.eS h.fe, h.t6, (upd_ne h.eg.symm).trans h.fg, h.gS, h.gH, upd_same, h.eS, h.eH, h.eg, (upd_ne h.le).trans h.fl, h.lH, h.lS, h.lg, h.le, by rw [e1]; exact h.fx, by rw [e1]; exact h.ga, by rw [e1]; exact Pd.app h.ed (.cons he .nil)⟩
/-- a new list of what is loose -/
theorem SlN.left (h : SlN K H p tl pd sl nl il hd gl el bs kvs ss names ins uh hs vs gs N lo lq evs es us ts c) (hD : N D = none) (s : Same N N') (e : N' D = some (.lst (lq'.map V.str))) : SlN K H p tl pd sl nl il hd gl el bs kvs ss names ins uh hs vs gs N' D lq' evs es us ts c := by
  have hS : ¬ SD p tl bs D := h.dr.out hD
  have k : Same (ms (SG p tl bs [gl, lo, el]) N) (ms (SG p tl bs [gl, D, el]) N') := sg_mv (fun b hb => by
    rcases List.mem_cons.mp hb with rfl | hb
    · exact .inl (by simp)
    rcases List.mem_cons.mp hb with rfl | hb
    · exact .inr hD
    · exact .inl (by rw [List.mem_singleton.mp hb]; simp)) s
  exact ⟨Same.tr h.m0 (ms_up s), h.hH, h.dr.up s, h.t6, s _ _ h.fg, h.gS, h.gH, s _ _ h.fe, h.eS, h.eH, h.eg, e, ms_none h.m0 (fun z => hS (.inl z)) hD, hS, (ne_of_none h.fg hD).symm, (ne_of_none h.fe hD).symm, h.fx.up k, Paired.mono (fun _ _ q => q.up k) h.ga, edges_up k h.ed⟩
/-- between gates -/
structure GtN (K : PySem.W.Frag) (H : Hp) (p tl pd sl nl il hd gl : Addr) (bs : List Addr) (kvs : List (Key × V)) (ss names ins : List Str) (uh : List V) (hs : List (Str × Int)) (vs : List V) (gs : List GateK) (N : Hp) (lo : Addr) (lq : List Str) (us : List V) (ts : List EdgeK) (c : Nat) : Prop where
  m0 : Same (ms (· = p) H) (ms (· = p) N)
  hH : ∀ b, SD p tl bs b → b ≠ p → H b = none
  dr : DrS K N p tl pd bs kvs us ts c
  t6 : ts.length ≤ 60
  fg : N gl = some (.lst vs)
  gS : ¬ SD p tl bs gl
  gH : H gl = none
  fl : N lo = some (.lst (lq.map V.str))
  lH : H lo = none
  lS : ¬ SD p tl bs lo
  lg : lo ≠ gl
  fx : Fx K (ms (SG p tl bs [gl, lo]) N) sl nl il hd ss names ins uh hs
  ga : Paired (GateD K (ms (SG p tl bs [gl, lo]) N)) vs gs
theorem GtN.up (h : GtN K H p tl pd sl nl il hd gl bs kvs ss names ins uh hs vs gs N lo lq us ts c) (s : Same N N') : GtN K H p tl pd sl nl il hd gl bs kvs ss names ins uh hs vs gs N' lo lq us ts c :=
  ⟨Same.tr h.m0 (ms_up s), h.hH, h.dr.up s, h.t6, s _ _ h.fg, h.gS, h.gH, s _ _ h.fl, h.lH, h.lS, h.lg, h.fx.up (ms_up s), Paired.mono (fun _ _ q => q.up (ms_up s)) h.ga⟩
theorem GtN.mono (h : GtN K H p tl pd sl nl il hd gl bs kvs ss names ins uh hs vs gs N lo lq us ts c) (hc : c ≤ c') : GtN K H p tl pd sl nl il hd gl bs kvs ss names ins uh hs vs gs N lo lq us ts c' :=
  ⟨h.m0, h.hH, h.dr.mono hc, h.t6, h.fg, h.gS, h.gH, h.fl, h.lH, h.lS, h.lg, h.fx, h.ga⟩
theorem GtN.take (h : GtN K H p tl pd sl nl il hd gl bs kvs ss names ins uh hs vs gs N lo lq us ts c) (hb : BoxAt N' p (c + 1)) (hk : ∀ b, b ≠ p → N' b = N b) : GtN K H p tl pd sl nl il hd gl bs kvs ss names ins uh hs vs gs N' lo lq us ts (c + 1) := by
  have e : ms (SG p tl bs [gl, lo]) N' = ms (SG p tl bs [gl, lo]) N := sg_take hk
  exact ⟨Same.tr h.m0 (box_sm hk), h.hH, h.dr.take hb hk, h.t6, (hk _ fun z => h.gS (.inl z)).trans h.fg, h.gS, h.gH, (hk _ fun z => h.lS (.inl z)).trans h.fl, h.lH, h.lS, h.lg, by rw [e]; exact h.fx, by rw [e]; exact h.ga⟩
/-- a gate begins -/
theorem GtN.begin (h : GtN K H p tl pd sl nl il hd gl bs kvs ss names ins uh hs vs gs N lo lq us ts c) (he : N el = none) : SlN K H p tl pd sl nl il hd gl el bs kvs ss names ins uh hs vs gs (upd N el (.lst [])) lo lq [] [] us ts c := by
  have hS : ¬ SD p tl bs el := h.dr.out he
  have s := Same.put (o := .lst []) he
  have k : Same (ms (SG p tl bs [gl, lo]) N) (ms (SG p tl bs [gl, lo, el]) (upd N el (.lst []))) := sg_mv (fun b hb => by
    rcases List.mem_cons.mp hb with rfl | hb
    · exact .inl (by simp)
    rcases List.mem_cons.mp hb with rfl | hb
    · exact .inl (by simp)
    · exact .inr (by rw [List.mem_singleton.mp hb]; exact he)) s
  have eg := (ne_of_none h.fg he).symm
  exact ⟨Same.tr h.m0 (ms_up s), h.hH, h.dr.up s, h.t6, s _ _ h.fg, h.gS, h.gH, upd_same, hS, ms_none h.m0 (fun z => hS (.inl z)) he, eg, s _ _ h.fl, h.lH, h.lS, h.lg, ne_of_none h.fl he, h.fx.up k, Paired.mono (fun _ _ q => q.up k) h.ga, .nil⟩
/-- a gate ends -/
theorem SlN.done (h : SlN K H p tl pd sl nl il hd gl el bs kvs ss names ins uh hs vs gs N lo lq evs es us ts c) {v : V} {g : GateK} {T : Addr} {nm : Str} (hv : v = .ref T) (hT : SqT K (ms (SG p tl bs [gl, lo]) N) T [.str g.1, .str g.2.1, .ref el]) (hg : g.2.2 = es) : GtN K H p tl pd sl nl il hd gl bs kvs ss names ins uh hs (vs ++ [v]) (gs ++ [g]) (upd (upd N gl (.lst (vs ++ [v]))) lo (.lst ((lq ++ [nm]).map V.str))) lo (lq ++ [nm]) us ts c := by
  have k : Same (ms (SG p tl bs [gl, lo, el]) N) (ms (SG p tl bs [gl, lo]) N) := ms_more fun b z => z.elim .inl fun z => .inr (by
    rcases List.mem_cons.mp z with rfl | z
    · simp
    · rw [List.mem_singleton.mp z]
      simp)
  have e1 : ms (SG p tl bs [gl, lo]) (upd (upd N gl (.lst (vs ++ [v]))) lo (.lst ((lq ++ [nm]).map V.str))) = ms (SG p tl bs [gl, lo]) N := (sg_set (by simp)).trans (sg_set (by simp))
  have gt : GateD K (ms (SG p tl bs [gl, lo]) N) v g := by
    refine ⟨T, .ref el, hv, .inr hT, el, evs, rfl, ms_at (fun z => ?_) h.fe, by rw [hg]; exact edges_up k h.ed⟩
    rcases z with z | z
    · exact h.eS z
    · rcases List.mem_cons.mp z with z | z
      · exact h.eg z
      · exact h.le (List.mem_singleton.mp z).symm
  exact ⟨sm_set (fun z => h.lS (.inl z)) h.lH (sm_set (fun z => h.gS (.inl z)) h.gH h.m0), h.hH, (h.dr.other h.gS h.fg).other h.lS ((upd_ne h.lg).trans h.fl), h.t6, (upd_ne h.lg.symm).trans upd_same, h.gS, h.gH, upd_same, h.lH, h.lS, h.lg, by rw [e1]; exact h.fx.up k, by rw [e1]; exact Pd.app (Paired.mono (fun _ _ q => q.up k) h.ga) (.cons gt .nil)⟩
end
end T10
namespace T10
open PySem PySem.Spec PyProof.Rows L2 Tp
theorem eqv_nil : ∀ lq : List Str, PyData.eqv (.list (lq.map PyData.str)) (.list []) = decide (lq = [])
  | [] => by decide
  | x :: xs => by simp [PyData.eqv, PyData.eqvAll]
end T10
namespace T10
open PySem PySem.Spec PyProof.Rows L2 Tp
theorem flat_strs : ∀ ns : List Str, (ns.map V.str).all flatV = true
  | [] => rfl
  | _ :: xs => flat_strs xs
end T10
namespace T10
open PySem PySem.Spec PyProof.Rows L2 Tp
section
variable {K : PySem.W.Frag} {H G M : Hp} {p tl pd sl nl il hd gl lo : Addr} {bs : List Addr} {kvs : List (Key × V)} {ss names ins lq : List Str} {uh vs us : List V} {hs : List (Str × Int)} {gs : List GateK} {ts : List EdgeK} {c c' : Nat}
theorem sd_p : SD p tl bs p := .inl rfl
/-- all but the box is as it was, or new -/
theorem GtN.sm (h : GtN K H p tl pd sl nl il hd gl bs kvs ss names ins uh hs vs gs G lo lq us ts c) (k : Same G M) (hb : BoxAt M p c') : GtN K H p tl pd sl nl il hd gl bs kvs ss names ins uh hs vs gs M lo lq us ts c' := by
  have h1 := h.up k
  have d := h1.dr
  exact ⟨h1.m0, h1.hH, ⟨hb, d.tp, d.bp, d.bt, d.ht, d.hk, d.ok, d.nz, d.hd, d.hv, d.hb⟩, h1.t6, h1.fg, h1.gS, h1.gH, h1.fl, h1.lH, h1.lS, h1.lg, h1.fx, h1.ga⟩
theorem GtN.smp (h : GtN K H p tl pd sl nl il hd gl bs kvs ss names ins uh hs vs gs G lo lq us ts c) (k : Same (ms (· = p) G) (ms (· = p) M)) (hb : BoxAt M p c') : GtN K H p tl pd sl nl il hd gl bs kvs ss names ins uh hs vs gs M lo lq us ts c' := by
  have d := h.dr
  have at' : ∀ {a : Addr} {o : HO}, a ≠ p → G a = some o → M a = some o := fun h1 h2 => (ms_some (k _ _ (ms_at h1 h2))).2
  have kS : Same (ms (SD p tl bs) G) (ms (SD p tl bs) M) := ms_gen sd_p (fun b z => .inl z) k
  have kG : Same (ms (SG p tl bs [gl, lo]) G) (ms (SG p tl bs [gl, lo]) M) := ms_gen sg_p (fun b z => .inl z) k
  refine ⟨Same.tr h.m0 k, h.hH, ⟨hb, d.tp, d.bp, d.bt, at' d.tp d.ht, d.hk.up kS, d.ok, d.nz, kS _ _ d.hd, fun n v hv => ?_, fun b hb' => ?_⟩, h.t6, at' (fun z => h.gS (.inl z)) h.fg, h.gS, h.gH, at' (fun z => h.lS (.inl z)) h.fl, h.lH, h.lS, h.lg, h.fx.up kG, Paired.mono (fun _ _ q => q.up kG) h.ga⟩
  · obtain ⟨t, sy, mn, b, e, h1, r⟩ := d.hv n v hv
    exact ⟨t, sy, mn, b, e, upT kS h1, r⟩
  · obtain ⟨xs, h1, r⟩ := d.hb b hb'
    exact ⟨xs, at' (fun z => d.bp (z ▸ hb')) h1, r⟩
end
theorem Pd.drop {α β : Type} {F : α → β → Prop} : ∀ {a : List α} {b : List β} (n : Nat), Paired F a b → Paired F (a.drop n) (b.drop n)
  | _, _, 0, h => h
  | _, _, _ + 1, .nil => .nil
  | _, _, n + 1, .cons r t => Pd.drop n t
theorem Pd.rev {α β : Type} {F : α → β → Prop} : ∀ {a : List α} {b : List β}, Paired F a b → Paired F a.reverse b.reverse
  | _, _, .nil => .nil
  | _, _, .cons r t => by
    rw [List.reverse_cons, List.reverse_cons]
    exact Pd.app (Pd.rev t) (.cons r .nil)
/-- the same things in one of two orders -/
theorem step_pd {β : Type} {F : V → β → Prop} {a : List V} {b : List β} (h : Paired F a b) (k : Int) : ∃ b', Paired F (stepV a k) b' ∧ List.Perm b' b := by
  unfold stepV
  split
  · exact ⟨b, h, List.Perm.refl _⟩
  · exact ⟨b.reverse, Pd.rev h, List.reverse_perm _⟩
end T10
namespace T10
open PySem PySem.Spec PyProof.Rows L2 Tp
theorem at_turn {d : Int} (h0 : 0 ≤ d) (h1 : d < 2) : ∃ k : Int, (k = 1 ∨ k = -1) ∧ atI [V.int 1, V.int (-1)] d = some (.int k) := by
  obtain rfl | rfl : d = 0 ∨ d = 1 := by omega
  · exact ⟨1, .inl rfl, atI_nat (j := 0) rfl⟩
  · exact ⟨-1, .inr rfl, atI_nat (j := 1) rfl⟩
theorem step_len (xs : List V) (k : Int) : (stepV xs k).length = xs.length := by
  unfold stepV
  split
  · rfl
  · exact List.length_reverse
end T10
set_option Elab.async false
set_option linter.all false
set_option maxRecDepth 100000
set_option maxHeartbeats 4000000
namespace T10
open PySem PySem.Spec PyProof.Rows L2 Tp
section
variable {P : Program} {w : World} {K : PySem.W.Frag} {mg : Str → Option Value} {base : Heap} {f : Addr} {fd : FuncData}


def spPartsD (K : PySem.W.Frag) : Sp := fun vs H Q _ => ∃ (p : Addr) (n : Nat), vs = [.ref p, .int 8, .int 3] ∧ BoxAt H p n ∧ n ≤ 100 ∧
  ∀ (t il : Addr) (y z u : V) (ins : List Str) (gs : List GateK) (os ts : List EdgeK) (H' : Hp), Same (ms (· = p) H) (ms (· = p) H') → BoxAt H' p 100000 → SqT K (ms (· = p) H') t [.ref il, y, z, u] → (ms (· = p) H') il = some (.lst (ins.map V.str)) → NetD K (ms (· = p) H') (.ref il) y z u ins gs os ts → NetOk ins gs os ts → gs.length ≤ 8 → 1 ≤ ins.length → ins.length ≤ 4 → os.length ≤ 4 → Q (.ref t) H'

abbrev sPt : Stmt := top 60
abbrev nPt : List Str := ["_law_bag_here", "_law_most_gates", "_law_most_delays", "_law_symbols_here", "_law_many", "_law_names_here", "_law_inputs", "_law_terms_here", "_law_loose", "_law_name", "_law_heads", "_law_pasts", "_law_head", "_law_gates", "_law_at", "_law_edges_here", "_law_slot", "_law_source", "_law_late", "_law_delays", "_law_more", "_law_known", "_law_ends", "_law_outs", "_law_one", "_law_index"]
theorem scPt : FnScope nPt ["_law_bag_here", "_law_most_gates", "_law_most_delays"] (defScope sPt) := ⟨rfl, rfl, rfl, by decide +kernel, rfl, by decide +kernel, by decide +kernel⟩

theorem ok_Pt (F : Fun K "_law_parts" "_law_parts" sPt f fd) (T : TxtL mg) (C : Cg P w K mg base 1 "_law_take" spTake) (SY : Cg P w K mg base 2 "_law_symbols" (spSyms K)) (NM : Cg P w K mg base 2 "_law_names" (spNames K)) (TE : Cg P w K mg base 2 "_law_terms" (spTermsD K)) (ST : Cg P w K mg base 2 "_law_starts" (spStartsD K)) : FnG P w K mg base CX0 4 f fd ["_law_bag_here", "_law_most_gates", "_law_most_delays"] (spPartsD K) := by
  refine FunG.ok F scPt (fun vs H Q E h => ?_) (fun cdv B out s H vs Q E hr hG h => ?_)
  · obtain ⟨p, n, rfl, _⟩ := h
    rfl
  · obtain ⟨p, n, rfl, hb, hn, q⟩ := h
    refine ⟨_, (C8.pss_cut (ps_asg (pe_tup (pa_cons (pe_g SY hr hG (by decide) (by rfl) (pa_cons (pv 0) pa_nil)) (pa_cons (pe_op op_add pe_int (pe_g C hr hG (by decide) (by rfl) (pa_cons (pv 0) (pa_cons (pv 1) pa_nil)))) pa_nil))) (pg_seq rfl (pgs_cons (pg_name (i := 3) scPt.nd rfl (Or.inr rfl)) (pgs_cons (pg_name (i := 4) scPt.nd rfl (Or.inl rfl)) pgs_nil))))
      (C8.pss_cut (ps_set (i := 5) scPt.nd rfl (.inl rfl) (pe_g NM hr hG (by decide) (by rfl) (pa_cons (pv 0) (pa_cons (pe_op op_add (pv 4) pe_int) pa_nil))))
      (C8.pss_cut (ps_set (i := 6) scPt.nd rfl (.inl rfl) (pe_slice sl_list (pe_slice sl_list (pv 5) (po_some (pv 4)) po_none) po_none (po_some (pe_op op_add pe_int (pe_g C hr hG (by decide) (by rfl) (pa_cons (pv 0) (pa_cons pe_int pa_nil)))))))
      (C8.pss_cut (ps_par3 (i := 7) (j := 5) (l := 8) rfl scPt.nd rfl rfl rfl (by decide) (by decide) (by decide) rfl rfl rfl (pa_cons (pe_g TE hr hG (by decide) (by rfl) (pa_cons (pv 0) (pa_cons (pv 3) (pa_cons pe_int pa_nil)))) (pa_cons (pe_slice sl_list (pv 5) po_none (po_some (pv 4))) (pa_cons (pe_lst pa_nil) pa_nil))) (by rfl))
      (C8.pss_cut (ps_setLc (i := 10) (own := [("_law_name", 9)]) (g := gName 9) (tt := tYes) rfl scPt.nd rfl rfl (sw_true rfl rfl rfl (by decide +kernel)) (pi_list (pv 5)) (blkOk_by (N := nPt) (sc := defScope sPt) (by decide +kernel)) (fun _ _ _ _ _ => pg_name (i := 9) scPt.nd rfl (Or.inl rfl)) (fun _ _ _ _ _ => pts_nil) (fun _ _ _ _ _ => (pe_tup (pa_cons (pe_ix (ix_listK (K := K) rfl) (pv 3) (pe_g C hr hG (by decide) (by rfl) (pa_cons (pv 0) (pa_cons (pe_callB (call_lenK (K := K) rfl) (by rfl) T.len PySem.boot_len (pa_cons (pv 3) pa_nil)) pa_nil))) fun _ _ => rfl) (pa_cons (pe_op op_add pe_int (pe_g C hr hG (by decide) (by rfl) (pa_cons (pv 0) (pa_cons pe_int pa_nil)))) pa_nil)))))
      (pss_cons (ps_set (i := 11) scPt.nd rfl (.inl rfl) pe_dnewK)
      (C8.pss_cut (ps_for PassesOwn.never rfl (pi_zip (by rfl) T.zip (pa_cons (pv 5) (pa_cons (pv 10) pa_nil))) (pg_seq rfl (pgs_cons (pg_name (i := 9) scPt.nd rfl (Or.inl rfl)) (pgs_cons (pg_name (i := 12) scPt.nd rfl (Or.inl rfl)) pgs_nil))) (pss_one (ps_dput (hu1 hr) (pv 11) (pv 9) (pe_tup (pa_cons (pe_ix ix_tup (pv 12) pe_int fun _ _ => rfl) (pa_cons (pe_ix ix_tup (pv 12) pe_int fun _ _ => rfl) (pa_cons (pe_lst pa_nil) pa_nil)))) rfl)))
      (pss_cons (ps_set (i := 13) scPt.nd rfl (.inl rfl) (pe_lst pa_nil))
      (C8.pss_cut (ps_for PassesOwn.never rfl (pi_enum (by rfl) T.enumerate (pa_cons (pv 5) pa_nil)) (pg_seq rfl (pgs_cons (pg_name (i := 14) scPt.nd rfl (Or.inl rfl)) (pgs_cons (pg_name (i := 9) scPt.nd rfl (Or.inl rfl)) pgs_nil))) (pss_cons (ps_set (i := 15) scPt.nd rfl (.inl rfl) (pe_lst pa_nil))
        (pss_cons (ps_for PassesOwn.never rfl (pi_range1 (by rfl) T.range (pa_cons (pe_ix ix_tup (pe_ix ix_list (pv 10) (pv 14) fun _ _ => rfl) pe_int fun _ _ => rfl) pa_nil)) (pg_name (i := 16) scPt.nd rfl (Or.inl rfl)) (C8.pss_cut (ps_set (i := 17) scPt.nd rfl (.inr rfl) (pe_ix ix_list (pe_op op_cat (pv 6) (pv 5)) (pe_g C hr hG (by decide) (by rfl) (pa_cons (pv 0) (pa_cons (pe_op op_add (pe_callB call_len (by rfl) T.len PySem.boot_len (pa_cons (pv 6) pa_nil)) (pe_ifExp (pt_cmpR op_eq (pv 16) pe_int (nomark _)) (pv 14) (pv 4))) pa_nil))) fun _ _ => rfl))
          (C8.pss_cut (ps_if (PW.pt (pw_and (pt_cmpR op_eq (pv 16) pe_int (nomark _)) (pw_and (pt_cmpR (op_neD hr.units) (pv 8) (pe_lst pa_nil) (nomark _)) (pw_and1 (PW.pt (pw_or (pt_cmpR op_gt (pe_callB call_len (by rfl) T.len PySem.boot_len (pa_cons (pv 8) pa_nil)) pe_int (nomark _)) (pw_or1 (pt_cmpR op_eq (pe_g C hr hG (by decide) (by rfl) (pa_cons (pv 0) (pa_cons pe_int pa_nil))) pe_int (nomark _))))))))) (pss_one (ps_set (i := 17) scPt.nd rfl (.inr rfl) (pe_ix ix_list (pv 8) pe_int fun _ _ => rfl))) pss_nil)
          (pss_cons (ps_set (i := 18) scPt.nd rfl (.inl rfl) (pe_callTy call_int1 (by rfl) T.int (by decide +kernel) (pa_cons (pe_cmpR op_in_seq (pv 17) (pe_slice sl_list (pv 5) (po_some (pv 14)) po_none) rfl) pa_nil)))
          (C8.pss_cut (ps_set (i := 19) scPt.nd rfl (.inl rfl) (pe_op op_add (pv 18) (pe_g C hr hG (by decide) (by rfl) (pa_cons (pv 0) (pa_cons (pe_op op_sub (pe_op op_add (pv 2) pe_int) (pv 18)) pa_nil)))))
          (C8.pss_cut (ps_expr (pe_bm PySem.F.plainAttrs_list PySem.F.slot_list_append PySem.F.type_list_append mt_append (pv 15) (pa_cons (pe_tup (pa_cons (pv 17) (pa_cons (pe_g ST hr hG (by decide) (by rfl) (pa_cons (pv 0) (pa_cons (pv 7) (pa_cons (pv 11) (pa_cons (pv 17) (pa_cons (pv 19) (pa_cons pe_int pa_nil))))))) pa_nil))) pa_nil)))
          (pss_one (ps_setLc (i := 8) (own := [("_law_one", 24)]) (g := gName 24) rfl scPt.nd rfl rfl (sw_true rfl rfl rfl (by decide +kernel)) (pi_list (pv 8)) (blkOk_by (N := nPt) (sc := defScope sPt) (by decide +kernel)) (fun _ _ _ _ _ => pg_name (i := 24) scPt.nd rfl (Or.inl rfl)) (fun _ _ _ _ _ => (pts_one (pt_cmpR op_ne (pv 24) (pv 17) (nomark _)))) (fun _ _ _ _ _ => (pv 24))))))))))
        (pss_cons (ps_expr (pe_bm PySem.F.plainAttrs_list PySem.F.slot_list_append PySem.F.type_list_append mt_append (pv 13) (pa_cons (pe_tup (pa_cons (pv 9) (pa_cons (pe_ix ix_tup (pe_ix ix_list (pv 10) (pv 14) fun _ _ => rfl) pe_int fun _ _ => rfl) (pa_cons (pv 15) pa_nil)))) pa_nil)))
        (pss_one (ps_expr (pe_bm PySem.F.plainAttrs_list PySem.F.slot_list_append PySem.F.type_list_append mt_append (pv 8) (pa_cons (pv 9) pa_nil))))))))
      (pss_cons (ps_asg (pe_tup (pa_cons (pe_g C hr hG (by decide) (by rfl) (pa_cons (pv 0) (pa_cons (pe_op op_sub pe_int (pe_callB call_len (by rfl) T.len PySem.boot_len (pa_cons (pv 8) pa_nil))) pa_nil))) (pa_cons (pe_op op_cat (pv 6) (pv 5)) pa_nil))) (pg_seq rfl (pgs_cons (pg_name (i := 20) scPt.nd rfl (Or.inl rfl)) (pgs_cons (pg_name (i := 21) scPt.nd rfl (Or.inr rfl)) pgs_nil))))
      (C8.pss_cut (ps_set (i := 22) scPt.nd rfl (.inl rfl) (pe_op op_cat (pv 8) (pe_lc (own := [("_law_index", 25)]) (g := gName 25) (tt := tYes) rfl scPt.nd (pi_range1 (by rfl) T.range (pa_cons (pv 20) pa_nil)) (blkOk_by (N := nPt) (sc := defScope sPt) (by decide +kernel)) (fun _ _ _ _ _ => pg_name (i := 25) scPt.nd rfl (Or.inl rfl)) (fun _ _ _ _ _ => pts_nil) (fun _ _ _ _ _ => (pe_ix (ix_listK (K := K) rfl) (pv 21) (pe_g C hr hG (by decide) (by rfl) (pa_cons (pv 0) (pa_cons (pe_callB (call_lenK (K := K) rfl) (by rfl) T.len PySem.boot_len (pa_cons (pv 21) pa_nil)) pa_nil))) fun _ _ => rfl)))))
      (pss_cons (ps_set (i := 23) scPt.nd rfl (.inl rfl) (pe_lst pa_nil))
      (C8.pss_cut (ps_for PassesOwn.never rfl (pi_list (pv 22)) (pg_name (i := 17) scPt.nd rfl (Or.inr rfl)) (pss_one (ps_expr (pe_bm PySem.F.plainAttrs_list PySem.F.slot_list_append PySem.F.type_list_append mt_append (pv 23) (pa_cons (pe_tup (pa_cons (pv 17) (pa_cons (pe_g ST hr hG (by decide) (by rfl) (pa_cons (pv 0) (pa_cons (pv 7) (pa_cons (pv 11) (pa_cons (pv 17) (pa_cons (pe_g C hr hG (by decide) (by rfl) (pa_cons (pv 0) (pa_cons (pe_op op_add (pv 2) pe_int) pa_nil))) (pa_cons pe_int pa_nil))))))) pa_nil))) pa_nil)))))
      (C8.pss_cut (ps_set (i := 14) scPt.nd rfl (.inl rfl) (pe_g C hr hG (by decide) (by rfl) (pa_cons (pv 0) (pa_cons (pv 4) pa_nil))))
      (C8.pss_cut (ps_set (i := 13) scPt.nd rfl (.inl rfl) (pe_slStep (pe_op op_cat (pe_slice sl_list (pv 13) (po_some (pv 14)) po_none) (pe_slice sl_list (pv 13) po_none (po_some (pv 14)))) (pe_ix ix_list (pe_lst (pa_cons pe_int (pa_cons (pe_un un_neg pe_int) pa_nil))) (pe_g C hr hG (by decide) (by rfl) (pa_cons (pv 0) (pa_cons pe_int pa_nil))) fun _ _ => rfl)))
      (pss_one (ps_ret (pe_tup (pa_cons (pv 6) (pa_cons (pv 13) (pa_cons (pe_slStep (pv 23) (pe_ix ix_list (pe_lst (pa_cons pe_int (pa_cons (pe_un un_neg pe_int) pa_nil))) (pe_g C hr hG (by decide) (by rfl) (pa_cons (pv 0) (pa_cons pe_int pa_nil))) fun _ _ => rfl)) (pa_cons (pv 7) pa_nil)))))))))))))))))))))), ?_⟩
    have e8 := PySem.sizeLine_eq
    refine ⟨fun σ G => ∃ (sl : Addr) (ss : List Str) (m : Nat), σ = [some (.ref p), some (.int 8), some (.int 3), some (.ref sl), some (.int (m : Nat)), none, none, none, none, none, none, none, none, none, none, none, none, none, none, none, none, none, none, none, none, none] ∧ Same (ms (· = p) H) (ms (· = p) G) ∧ BoxAt G p (n + 11) ∧ (ms (· = p) G) sl = some (.lst (ss.map V.str)) ∧ 1 ≤ ss.length ∧ ss.length ≤ 3 ∧ (∀ s ∈ ss, nameB (TL.tl s) = true) ∧ 1 ≤ m ∧ m ≤ 8, ?_, ?_⟩
    · refine ⟨_, rfl, p, n, rfl, hb, (by omega), fun sl ss H1 s1 hb1 nl hl h1 h3 hnm => ⟨_, rfl, _, rfl, p, 8, n + 10, rfl, hb1, (by decide), (by decide), (by omega), fun d H2 d0 d1 hb2 hk2 => ⟨_, _, rfl, rfl, (by show 2 ≤ sizeLine; decide), fun t ht => ?_⟩⟩⟩
      have nsp : sl ≠ p := box_ne nl hb
      have kt := Same.put (o := .tup [V.ref sl, V.int (1 + d)]) ht
      refine pair_asg (.inr (SqT.of upd_same)) (q := ?_)
      refine ⟨sl, ss, (1 + d).toNat, ?_, Same.tr s1 (Same.tr (box_sm hk2) (ms_up kt)), box_new ht hb2, ?_, h1, h3, hnm, (by omega), (by omega)⟩
      · rw [show (((1 + d).toNat : Nat) : Int) = 1 + d by omega]
        rfl
      · exact ms_at nsp (kt _ _ ((hk2 sl nsp).trans hl))
    rintro σ G ⟨sl, ss, m, rfl, m0, hb0, hsl, s1, s3, hsn, m1, m8⟩
    refine ⟨fun σ G => ∃ (nl : Addr) (ns : List Str), σ = [some (.ref p), some (.int 8), some (.int 3), some (.ref sl), some (.int (m : Nat)), some (.ref nl), none, none, none, none, none, none, none, none, none, none, none, none, none, none, none, none, none, none, none, none] ∧ Same (ms (· = p) H) (ms (· = p) G) ∧ BoxAt G p (n + 21) ∧ (ms (· = p) G) sl = some (.lst (ss.map V.str)) ∧ (ms (· = p) G) nl = some (.lst (ns.map V.str)) ∧ GoodN ns (m + 4), ?_, ?_⟩
    · refine ⟨_, rfl, _, rfl, _, _, rfl, rfl, p, n + 11, (m : Int) + 4, rfl, hb0, (by omega), (by omega), (by omega), fun nl ns H2 s2 hb2 nn hnl hg => ?_⟩
      rw [show ((m : Int) + 4).toNat = m + 4 by omega] at hg
      exact ⟨nl, ns, rfl, Same.tr m0 s2, hb2.mono (by omega), s2 _ _ hsl, ms_at (box_ne nn hb0) hnl, hg⟩
    clear hb0 hsl m0
    rintro σ G ⟨nl, ns, rfl, m0, hb0, hsl, hnl, hg⟩
    refine ⟨fun σ G => ∃ (il : Addr) (k : Nat), σ = [some (.ref p), some (.int 8), some (.int 3), some (.ref sl), some (.int (m : Nat)), some (.ref nl), some (.ref il), none, none, none, none, none, none, none, none, none, none, none, none, none, none, none, none, none, none, none] ∧ Same (ms (· = p) H) (ms (· = p) G) ∧ BoxAt G p (n + 22) ∧ (ms (· = p) G) sl = some (.lst (ss.map V.str)) ∧ (ms (· = p) G) nl = some (.lst (ns.map V.str)) ∧ (ms (· = p) G) il = some (.lst (((ns.drop m).take k).map V.str)) ∧ 1 ≤ k ∧ k ≤ 4, ?_, ?_⟩
    · refine ⟨_, rfl, _, rfl, _, rfl, nl, _, rfl, SqL.of (ms_some hnl).2, fun l1 hl1 => ?_⟩
      have k1 := Same.put (o := .lst (cutV (ns.map V.str) (some (m : Int)) none)) hl1
      refine ⟨_, rfl, p, 4, n + 21, rfl, box_new hl1 hb0, (by decide), (by decide), (by omega), fun d H2 d0 d1 hb2 hk2 => ⟨_, _, rfl, rfl, _, rfl, l1, _, rfl, SqL.of ((hk2 l1 (box_ne hl1 hb0)).trans upd_same), fun il hil => ?_⟩⟩
      have k2 := Same.put (o := .lst (cutV (cutV (ns.map V.str) (some (m : Int)) none) none (some (1 + d)))) hil
      have mm := Same.tr (ms_up (S := (· = p)) k1) (Same.tr (box_sm hk2) (ms_up k2))
      refine ⟨il, (1 + d).toNat, rfl, Same.tr m0 mm, box_new hil hb2, mm _ _ hsl, mm _ _ hnl, ms_at (box_ne hil hb2) ?_, (by omega), (by omega)⟩
      rw [upd_same, cut_to (by omega), cut_from (by omega), Int.toNat_natCast, ← List.map_drop, ← List.map_take]
    clear hb0 hsl m0 hnl
    rintro σ G ⟨il, k, rfl, m0, hb0, hsl, hnl, hil, k1, k4⟩
    refine ⟨fun σ G => ∃ (tl nl lo : Addr) (us : List V) (ts : List EdgeK), σ = [some (.ref p), some (.int 8), some (.int 3), some (.ref sl), some (.int (m : Nat)), some (.ref nl), some (.ref il), some (.ref tl), some (.ref lo), none, none, none, none, none, none, none, none, none, none, none, none, none, none, none, none, none] ∧ Same (ms (· = p) H) (ms (· = p) G) ∧ BoxAt G p (n + 122) ∧ tl ≠ p ∧ H tl = none ∧ lo ≠ p ∧ H lo = none ∧ lo ≠ tl ∧ G tl = some (.lst us) ∧ KEs K (ms (SG p tl [] [lo]) G) us ts ∧ TermsOk ts ∧ 1 ≤ ts.length ∧ ts.length ≤ 9 ∧ G lo = some (.lst []) ∧ (ms (SG p tl [] [lo]) G) sl = some (.lst (ss.map V.str)) ∧ (ms (SG p tl [] [lo]) G) nl = some (.lst ((ns.take m).map V.str)) ∧ (ms (SG p tl [] [lo]) G) il = some (.lst (((ns.drop m).take k).map V.str)), ?_, ?_⟩
    · refine ⟨_, rfl, _, rfl, p, sl, n + 22, ss, 9, rfl, hb0, (by omega), hsl, s1, s3, hsn, (by decide), (by decide), fun tl us ts H2 s2 hb2 nt ntp htl hE hok t1 t9 => ?_⟩
      have hnl2 := s2 _ _ hnl
      refine ⟨_, rfl, _, rfl, _, rfl, nl, _, rfl, SqL.of (ms_some hnl2).2, fun n2 hn2 => ⟨(by show 0 ≤ sizeLine; decide), fun lo hlo => ⟨_, _, _, rfl, ?_⟩⟩⟩
      have kn := Same.put (o := .lst (cutV (ns.map V.str) none (some (m : Int)))) hn2
      have kl := Same.put (o := .lst []) hlo
      have hnn : (upd H2 n2 (.lst (cutV (ns.map V.str) none (some (m : Int))))) n2 = some (.lst ((ns.take m).map V.str)) := by
        rw [upd_same, cut_to (by omega), Int.toNat_natCast, ← List.map_take]
      generalize upd H2 n2 (.lst (cutV (ns.map V.str) none (some (m : Int)))) = H3 at kn kl hlo hnn ⊢
      have klo := upd_same (H := H3) (a := lo) (o := HO.lst [])
      have mm := Same.tr s2 (ms_up (S := (· = p)) (Same.tr kn kl))
      have lo2 : H2 lo = none := Same.none kn hlo
      have nlp : lo ≠ p := box_ne lo2 hb2
      have n2p : n2 ≠ p := box_ne hn2 hb2
      have g4 : Same (ms (· = p) G) (ms (SG p tl [] [lo]) (upd H3 lo (.lst []))) := ms_gen rfl (fun b z => by
        rcases z with (z | z | z) | z
        · exact .inl z
        · exact .inr (z ▸ nt)
        · cases z
        · rw [List.mem_singleton.mp z]
          exact .inr (ms_none s2 nlp lo2)) mm
      have ntl : ∀ {x : Addr} {o : HO}, x ≠ p → (upd H3 lo (.lst [])) x = some o → H2 x = none → x ≠ lo → ¬ SG p tl [] [lo] x := fun h1 h2 h3 h4 z => by
        rcases z with (z | z | z) | z
        · exact h1 z
        · rw [z, htl] at h3
          cases h3
        · cases z
        · exact h4 (List.mem_singleton.mp z)
      refine ⟨tl, n2, lo, us, ts, rfl, Same.tr m0 mm, box_new hlo (hb2.keep kn), ntp, ms_none m0 ntp nt, nlp, ms_none (Same.tr m0 s2) nlp lo2, (ne_of_none htl lo2).symm, Same.tr kn kl _ _ htl, ?_, hok, t1, t9, klo, g4 _ _ hsl, ms_at (ntl n2p (kl _ _ hnn) hn2 (ne_of_none hnn hlo)) (kl _ _ hnn), g4 _ _ hil⟩
      refine hE.mono fun b ys h => noS (fun b z => ?_) b ys (upT (Same.tr kn kl) (upT ms_same h))
      rcases z with (z | z | z) | z
      · obtain ⟨x, y, w, h, _⟩ := hb2
        exact ⟨_, by rw [z]; exact Same.tr kn kl _ _ h⟩
      · exact ⟨_, by rw [z]; exact Same.tr kn kl _ _ htl⟩
      · cases z
      · exact ⟨_, by rw [List.mem_singleton.mp z]; exact klo⟩
    clear hb0 hsl m0 hnl hil
    rintro σ G ⟨tl, nl, lo, us, ts, rfl, m0, hb0, ntp, ntH, nlp, nlH, nlt, htl, hE, hok, t1, t9, hlo, hsl, hnl, hil⟩
    obtain ⟨nd, nm, il1, nl1⟩ := ins_ok hg k1 k4
    obtain ⟨names, hnames⟩ : ∃ x, x = ns.take m := ⟨_, rfl⟩
    obtain ⟨ins, hins⟩ : ∃ x, x = (ns.drop m).take k := ⟨_, rfl⟩
    rw [← hnames, ← hins] at nd nm
    rw [← hins] at il1 hil
    rw [← hnames] at nl1 hnl
    clear hnames hins hg
    have hp4 : SG p tl [] [lo] p := sg_p
    refine ⟨fun σ G => ∃ (hd : Addr) (uh : List V) (hs : List (Str × Int)), σ = [some (.ref p), some (.int 8), some (.int 3), some (.ref sl), some (.int (m : Nat)), some (.ref nl), some (.ref il), some (.ref tl), some (.ref lo), none, some (.ref hd), none, none, none, none, none, none, none, none, none, none, none, none, none, none, none] ∧ Same (ms (· = p) H) (ms (· = p) G) ∧ BoxAt G p (n + 140) ∧ G tl = some (.lst us) ∧ KEs K (ms (SG p tl [] [lo]) G) us ts ∧ G lo = some (.lst []) ∧ Fx K (ms (SG p tl [] [lo]) G) sl nl il hd ss names ins uh hs ∧ PfD ss names ins hs, ?_, ?_⟩
    · refine ⟨_, rfl, nl, rfl, ⟨_, SqL.of (ms_some hnl).2⟩, fun D hD => lc_it (walk_list (xs := names.map V.str)) (fun j M => Same (ms (· = p) G) (ms (· = p) M) ∧ BoxAt M p (n + 122 + 2 * j) ∧ G D = none ∧ ∃ uh hs, M D = some (.lst uh) ∧ Paired (HeadD K (ms (SG p tl [] [lo]) M)) uh hs ∧ hs.length = j ∧ ∀ h ∈ hs, nameB (TL.tl h.1) = true ∧ 1 ≤ h.2 ∧ h.2 ≤ 3) ⟨ms_up (Same.put hD), box_new hD hb0, hD, [], [], upd_same, .nil, rfl, fun h hh => (nomatch hh)⟩ (fun j M _ h => SqL.of (ms_some (ms_gen sg_p (fun b z => .inl z) h.1 _ _ hnl)).2) ?_ ?_⟩
      · rintro j v M M' hj ⟨kM, hbM, nD, uh, hs, md, hP, hl, hh⟩ ⟨rfl, hv⟩
        have g4 : Same (ms (SG p tl [] [lo]) G) (ms (SG p tl [] [lo]) M') := ms_gen hp4 (fun b z => .inl z) kM
        have nDp : D ≠ p := box_ne nD hb0
        have nDS : ¬ SG p tl [] [lo] D := fun z => by
          rcases z with (z | z | z) | z
          · exact nDp z
          · rw [z, htl] at nD
            cases nD
          · cases z
          · rw [List.mem_singleton.mp z, hlo] at nD
            cases nD
        have hsl2 := (ms_some (g4 _ _ hsl)).2
        have hjl : j < names.length := by
          have := hj
          rwa [List.length_map] at this
        refine ⟨rfl, _, rfl, _, rfl, _, rfl, _, _, rfl, .inl ⟨_, SqL.of hsl2, rfl⟩, p, _, n + 122 + 2 * j, rfl, hbM, (by rw [List.length_map]; omega), (by rw [List.length_map]; exact log_le (by omega)), (by omega), fun d1 H1 d10 d11 hb1 hk1 => ?_⟩
        rw [List.length_map] at d11
        obtain ⟨s5, hs5m, hs5a⟩ := pick_at d10 d11
        have nsp : sl ≠ p := fun z => (ms_some hsl).1 (.inl (.inl z))
        refine ⟨sl, _, _, _, rfl, rfl, SqL.of ((hk1 sl nsp).trans hsl2), hs5a, _, rfl, p, 3, n + 122 + 2 * j + 1, rfl, hb1, (by decide), (by decide), (by omega), fun d2 H2 d20 d21 hb2 hk2 => ⟨_, _, rfl, rfl, (by show 2 ≤ sizeLine; decide), fun t ht => ?_⟩⟩
        have kt := Same.put (o := .tup [V.str s5, V.int (1 + d2)]) ht
        have md3 := kt _ _ ((hk2 D nDp).trans ((hk1 D nDp).trans md))
        have em : ms (SG p tl [] [lo]) H2 = ms (SG p tl [] [lo]) M' := (sg_take hk2).trans (sg_take hk1)
        have kM2 : Same (ms (· = p) G) (ms (· = p) H2) := Same.tr kM (Same.tr (box_sm hk1) (box_sm hk2))
        have hul := hP.length
        have nt3 := not_lst (ms_at nDS md3)
        have nts : ¬ SG p tl [] [lo] t := fun z => by
          rcases z with (z | z | z) | z
          · exact box_ne ht hb2 z
          · have := (ms_some (kM2 tl _ (ms_at ntp htl))).2
            rw [← z, ht] at this
            cases this
          · cases z
          · have := (ms_some (kM2 lo _ (ms_at nlp hlo))).2
            rw [← List.mem_singleton.mp z, ht] at this
            cases this
        refine ⟨uh, md3, (by omega), sm_set nDp nD (Same.tr kM2 (ms_up kt)), ?_, nD, uh ++ [.ref t], hs ++ [(s5, 1 + d2)], upd_same, ?_, by rw [List.length_append, List.length_singleton, hl], fun h hh' => ?_⟩
        · obtain ⟨x, y, z, h, r1, r2, r3, r4, r5⟩ := box_new (o := .tup [V.str s5, V.int (1 + d2)]) ht hb2
          exact ⟨x, y, z, (upd_ne nDp.symm).trans h, r1, r2, r3, r4, by omega⟩
        · rw [ms_upd nDS]
          refine Pd.app (Paired.mono (fun _ _ q => q.mono fun b ys h => sqt_put nt3 (upT (ms_up kt) (by rw [em]; exact h))) hP) (.cons ⟨t, rfl, sqt_put nt3 (SqT.of (ms_at nts upd_same))⟩ .nil)
        · rcases List.mem_append.mp hh' with z | z
          · exact hh h z
          · rw [List.mem_singleton.mp z]
            exact ⟨hsn _ hs5m, by show 1 ≤ 1 + d2; omega, by show 1 + d2 ≤ 3; omega⟩
      · rintro M ⟨kM, hbM, nD, uh, hs, md, hP, hl, hh⟩
        rw [List.length_map] at hl hbM
        have g4 : Same (ms (SG p tl [] [lo]) G) (ms (SG p tl [] [lo]) M) := ms_gen hp4 (fun b z => .inl z) kM
        have nDS : ¬ SG p tl [] [lo] D := fun z => by
          rcases z with (z | z | z) | z
          · exact box_ne nD hb0 z
          · rw [z, htl] at nD
            cases nD
          · cases z
          · rw [List.mem_singleton.mp z, hlo] at nD
            cases nD
        exact ⟨D, uh, hs, rfl, Same.tr m0 kM, hbM.mono (by omega), (ms_some (kM tl _ (ms_at ntp htl))).2, hE.up g4, (ms_some (kM lo _ (ms_at nlp hlo))).2, ⟨g4 _ _ hsl, g4 _ _ hnl, g4 _ _ hil, ms_at nDS md, hP⟩, ⟨s1, s3, hsn, by omega, by omega, nd, nm, by omega, by omega, hl, hh⟩⟩
    clear hb0 hsl m0 hnl hil hE htl hlo
    rintro σ G ⟨hd, uh, hs, rfl, m0, hb0, htl, hE, hlo, hF, hPf⟩
    refine fun pd hpd => ?_
    have kpd := Same.put (o := .dK []) hpd
    have pdp : pd ≠ p := box_ne hpd hb0
    refine ⟨fun σ G => ∃ (pd : Addr) (bs : List Addr) (kvs : List (Key × V)) (o9 o12 : Option V), σ = [some (.ref p), some (.int 8), some (.int 3), some (.ref sl), some (.int (m : Nat)), some (.ref nl), some (.ref il), some (.ref tl), some (.ref lo), o9, some (.ref hd), some (.ref pd), o12, none, none, none, none, none, none, none, none, none, none, none, none, none] ∧ Same (ms (· = p) H) (ms (· = p) G) ∧ (∀ b, SD p tl bs b → b ≠ p → H b = none) ∧ DrS K G p tl pd bs kvs us ts (n + 140) ∧ ¬ SD p tl bs lo ∧ G lo = some (.lst []) ∧ Fx K (ms (SG p tl bs [lo]) G) sl nl il hd ss names ins uh hs, ?_, ?_⟩
    · have hnl2 := (ms_some hF.n).2
      have hhd2 := (ms_some hF.h).2
      have hup := hF.hp.length
      have hhl := hPf.hl
      refine ⟨_, rfl, _, rfl, nl, hd, _, _, rfl, SqL.of (kpd _ _ hnl2), SqL.of (kpd _ _ hhd2), for_it (walk_zip (n := names.length) (by rw [List.length_map]; omega)) (fun i σ M => ∃ (bs : List Addr) (kvs : List (Key × V)) (o9 o12 : Option V), σ = [some (.ref p), some (.int 8), some (.int 3), some (.ref sl), some (.int (m : Nat)), some (.ref nl), some (.ref il), some (.ref tl), some (.ref lo), o9, some (.ref hd), some (.ref pd), o12, none, none, none, none, none, none, none, none, none, none, none, none, none] ∧ Same (ms (· = p) G) (ms (· = p) M) ∧ BoxAt M p (n + 140) ∧ M pd = some (.dK kvs) ∧ (∀ b ∈ bs, G b = none ∧ b ≠ pd ∧ M b = some (.lst [])) ∧ (∀ nm v, valV kvs (Sum.inr nm) = some v → ∃ (t : Addr) (sy : Str) (mn : Int) (b : Addr), v = .ref t ∧ SqT K M t [.str sy, .int mn, .ref b] ∧ nameB (TL.tl sy) = true ∧ 1 ≤ mn ∧ mn ≤ 3 ∧ b ∈ bs) ∧ kvs.length ≤ i) ⟨[], [], _, _, rfl, ms_up kpd, box_new hpd hb0, upd_same, fun b hb => (nomatch hb), fun nm v h => (nomatch h), Nat.le_refl _⟩ (fun i σ M _ ⟨_, _, _, _, _, kM, _⟩ => ⟨SqL.of (ms_some (ms_gen sg_p (fun b z => .inl z) kM _ _ hF.n)).2, SqL.of (ms_some (ms_gen sg_p (fun b z => .inl z) kM _ _ hF.h)).2⟩) ?_ ?_⟩
      · rintro i v σ M M' hi ⟨bs, kvs, o9, o12, rfl, kM, hbM, mpd, hbs, hv, kvl⟩ ⟨T', x', y', rfl, hT, rfl, hx', hy'⟩
        obtain ⟨nm, hnm, rfl⟩ := Option.map_eq_some_iff.mp ((List.getElem?_map ..).symm.trans hx' : names[i]?.map V.str = some x')
        obtain ⟨h, hh, t, rfl, ht⟩ := Pd.at hF.hp hy'
        obtain ⟨g1, g2, g3⟩ := hPf.hh h (List.mem_of_getElem? hh)
        have kT := Same.put (o := .tup [V.str nm, V.ref t]) hT
        have g5 : Same (ms (SG p tl [] [lo]) G) (ms (SG p tl [] [lo]) M) := ms_gen sg_p (fun b z => .inl z) kM
        have ht2 := upT kT (upT ms_same (upT g5 ht))
        refine pair_asg (.inr (SqT.of upd_same)) (q := ?_)
        refine ⟨_, rfl, t, _, _, _, rfl, rfl, ht2, atI_nat (j := 0) rfl, _, rfl, t, _, _, _, rfl, rfl, ht2, atI_nat (j := 1) rfl, (by show 0 ≤ sizeLine; decide), fun b hb => ⟨(by show 3 ≤ sizeLine; decide), fun t3 ht3 => ?_⟩⟩
        have kb := Same.put (o := .lst []) hb
        have k3 := Same.put (o := .tup [V.str h.1, V.int h.2, V.ref b]) ht3
        have kk := Same.tr kT (Same.tr kb k3)
        have bn := k3 _ _ (upd_same (H := upd M T' (.tup [V.str nm, V.ref t])) (a := b) (o := HO.lst []))
        have bM : M b = none := Same.none kT hb
        have bG : G b = none := ms_none kM (box_ne bM hbM) bM
        have tn : SqT K (upd (upd (upd M T' (.tup [V.str nm, V.ref t])) b (.lst [])) t3 (.tup [V.str h.1, V.int h.2, V.ref b])) t3 [V.str h.1, V.int h.2, V.ref b] := SqT.of upd_same
        generalize upd (upd (upd M T' (.tup [V.str nm, V.ref t])) b (.lst [])) t3 (.tup [V.str h.1, V.int h.2, V.ref b]) = M2 at kk bn tn ⊢
        have mpd2 := kk _ _ mpd
        refine ⟨_, rfl, _, rfl, pd, _, rfl, DPut.k mpd2 (k := Sum.inr nm) (by omega), ?_⟩
        have npd := not_dK mpd2
        have bpd : b ≠ pd := fun z => by rw [z, mpd] at bM; cases bM
        refine ⟨bs ++ [b], putK kvs (Sum.inr nm) (.ref t3), _, _, rfl, sm_set pdp hpd (Same.tr kM (ms_up kk)), ?_, upd_same, fun b' hb' => ?_, fun nm' v' hv' => ?_, ?_⟩
        · obtain ⟨x, y, z, h, r⟩ := hbM.keep kk
          exact ⟨x, y, z, (upd_ne pdp.symm).trans h, r⟩
        · rcases List.mem_append.mp hb' with z | z
          · obtain ⟨z1, z2, z3⟩ := hbs b' z
            exact ⟨z1, z2, (upd_ne z2).trans (kk _ _ z3)⟩
          · rw [List.mem_singleton.mp z]
            exact ⟨bG, bpd, (upd_ne bpd).trans bn⟩
        · rw [valV_put] at hv'
          by_cases e : (Sum.inr nm' : Key) = Sum.inr nm
          · rw [if_pos e] at hv'
            cases hv'
            exact ⟨t3, h.1, h.2, b, rfl, sqt_put npd tn, g1, g2, g3, List.mem_append_right _ List.mem_cons_self⟩
          · rw [if_neg e] at hv'
            obtain ⟨t', sy, mn, b', z1, z2, z3, z4, z5, z6⟩ := hv nm' v' hv'
            exact ⟨t', sy, mn, b', z1, sqt_put npd (upT kk z2), z3, z4, z5, List.mem_append_left _ z6⟩
        · have := length_putK kvs (Sum.inr nm) (.ref t3)
          omega
      · rintro σ M ⟨bs, kvs, o9, o12, rfl, kM, hbM, mpd, hbs, hv, kvl⟩
        have htlM := (ms_some (kM tl _ (ms_at ntp htl))).2
        have hloM := (ms_some (kM lo _ (ms_at nlp hlo))).2
        have pdl : pd ≠ tl := (ne_of_none htl hpd).symm
        have bp : p ∉ bs := fun z => by
          obtain ⟨x, y, w, h, _⟩ := hb0
          rw [(hbs p z).1] at h
          cases h
        have bt : tl ∉ bs := fun z => by
          rw [(hbs tl z).1] at htl
          cases htl
        have allL : ∀ b, SD p tl bs b → ∃ xs, M b = some (.lst xs) := fun b z => by
          rcases z with z | z | z
          · obtain ⟨x, y, w, h, _⟩ := hbM
            exact ⟨_, by rw [z]; exact h⟩
          · exact ⟨_, by rw [z]; exact htlM⟩
          · exact ⟨_, (hbs b z).2.2⟩
        have g6 : Same (ms (SG p tl [] [lo]) G) (ms (SG p tl bs [lo]) M) := ms_gen sg_p (fun b z => by
          rcases z with (z | z | z) | z
          · exact .inl (.inl (.inl z))
          · exact .inl (.inl (.inr (.inl z)))
          · exact .inr (hbs b z).1
          · exact .inl (.inr z)) kM
        refine ⟨pd, bs, kvs, o9, o12, rfl, Same.tr m0 kM, fun b z hbp => ?_, ⟨hbM, ntp, bp, bt, htlM, ?_, hok, t1, ms_at (fun z => ?_) mpd, fun nm v hv' => ?_, fun b hb => ⟨[], (hbs b hb).2.2, Nat.zero_le _, fun x hx => (nomatch hx)⟩⟩, fun z => ?_, hloM, hF.up g6⟩
        · rcases z with z | z | z
          · exact absurd z hbp
          · exact z ▸ ntH
          · exact ms_none m0 hbp (hbs b z).1
        · refine hE.mono fun b ys h => noS allL b ys (upT ms_same (upT (ms_gen sg_p (fun b z => .inl z) kM : Same (ms (SG p tl [] [lo]) G) (ms (SG p tl [] [lo]) M)) h))
        · rcases z with z | z | z
          · exact pdp z
          · exact pdl z
          · exact (hbs pd z).2.1 rfl
        · obtain ⟨t', sy, mn, b', z1, z2, r⟩ := hv nm v hv'
          exact ⟨t', sy, mn, b', z1, noS allL _ _ z2, r⟩
        · rcases z with z | z | z
          · exact nlp z
          · exact nlt z
          · rw [(hbs lo z).1] at hlo
            cases hlo
    clear hb0 m0 hE htl hlo hF hpd kpd pdp
    rintro σ G ⟨pd, bs, kvs, o9, o12, rfl, m0, hH, hDr, nlS, hlo, hF⟩
    refine ⟨(by show 0 ≤ sizeLine; decide), fun gl hgl => ?_⟩
    refine ⟨fun σ G => ∃ (lo : Addr) (vs : List V) (gs : List GateK) (lq : List Str) (us : List V) (ts : List EdgeK) (o9 o14 o15 o16 o17 o18 o19 : Option V), σ = [some (.ref p), some (.int 8), some (.int 3), some (.ref sl), some (.int (m : Nat)), some (.ref nl), some (.ref il), some (.ref tl), some (.ref lo), o9, some (.ref hd), some (.ref pd), o12, some (.ref gl), o14, o15, o16, o17, o18, o19, none, none, none, none, none, none] ∧ GtN K H p tl pd sl nl il hd gl bs kvs ss names ins uh hs vs gs G lo lq us ts (n + 140 + 1300 * names.length) ∧ DrG ins names ts.length gs lq ∧ gs.length = names.length, ?_, ?_⟩
    · have hgS := hDr.out hgl
      have hg0 : GtN K H p tl pd sl nl il hd gl bs kvs ss names ins uh hs [] [] (upd G gl (.lst [])) lo [] us ts (n + 140) := by
        have kg := Same.put (o := .lst []) hgl
        have k2 : Same (ms (SG p tl bs [lo]) G) (ms (SG p tl bs [gl, lo]) (upd G gl (.lst []))) := sg_mv (fun b hb => by
          rcases List.mem_cons.mp hb with rfl | hb
          · exact .inr hgl
          · exact .inl hb) kg
        exact ⟨Same.tr m0 (ms_up kg), hH, hDr.up kg, by omega, upd_same, hgS, ms_none m0 (fun z => hgS (.inl z)) hgl, kg _ _ hlo, nlH, nlS, ne_of_none hlo hgl, hF.up k2, .nil⟩
      generalize upd G gl (.lst []) = G0 at hg0 ⊢
      refine ⟨_, rfl, nl, _, rfl, SqL.of (ms_some hg0.fx.n).2, for_it (walk_enum (xs := names.map V.str)) (fun i σ M => ∃ (lo : Addr) (vs : List V) (gs : List GateK) (lq : List Str) (us : List V) (ts : List EdgeK) (o9 o14 o15 o16 o17 o18 o19 : Option V), σ = [some (.ref p), some (.int 8), some (.int 3), some (.ref sl), some (.int (m : Nat)), some (.ref nl), some (.ref il), some (.ref tl), some (.ref lo), o9, some (.ref hd), some (.ref pd), o12, some (.ref gl), o14, o15, o16, o17, o18, o19, none, none, none, none, none, none] ∧ GtN K H p tl pd sl nl il hd gl bs kvs ss names ins uh hs vs gs M lo lq us ts (n + 140 + 1300 * i) ∧ DrG ins names ts.length gs lq ∧ gs.length = i) ⟨lo, [], [], [], us, ts, _, _, _, _, _, _, _, rfl, hg0, drawn_nil _ _ _, rfl⟩ (fun i σ M _ ⟨_, _, _, _, _, _, _, _, _, _, _, _, _, _, h, _⟩ => SqL.of (ms_some h.fx.n).2) ?_ ?_⟩
      · clear hg0 hgS hF hDr hlo hok t1 t9 m0 nlH nlS nlp nlt hgl
        rintro i v σ M M' hi ⟨lo, vs, gs, lq0, us, ts, o9, o14, o15, o16, o17, o18, o19, rfl, hGt, hDg, hgl⟩ ⟨T', x', y', rfl, hT, rfl, hx', hy'⟩
        cases hx'
        obtain ⟨nm, hnm, rfl⟩ := Option.map_eq_some_iff.mp ((List.getElem?_map ..).symm.trans hy' : names[i]?.map V.str = some y')
        have hil := (List.getElem?_eq_some_iff.mp hnm).1
        have hGt1 := hGt.up (Same.put (o := .tup [V.int (i : Nat), V.str nm]) hT)
        clear hGt hy' hi
        refine pair_asg (.inr (SqT.of upd_same)) (q := ?_)
        generalize upd M T' (.tup [V.int (i : Nat), V.str nm]) = M1 at hGt1 ⊢
        refine ⟨(by show 0 ≤ sizeLine; decide), fun el hel => ?_⟩
        have hSl := hGt1.begin hel
        generalize upd M1 el (.lst []) = M2 at hSl ⊢
        clear hGt1 hel hT
        have hn8 := hPf.n8
        have hhl := hPf.hl
        obtain ⟨h, hh⟩ : ∃ h, hs[i]? = some h := ⟨hs[i]'(by omega), List.getElem?_eq_getElem (by omega)⟩
        obtain ⟨hh1, hh2, hh3⟩ := hPf.hh h (List.mem_of_getElem? hh)
        obtain ⟨uv, hu, t, rfl, ht⟩ := Pd.att hSl.fx.hp hh
        refine ⟨_, rfl, _, rfl, hd, _, _, _, rfl, rfl, SqL.of (ms_some hSl.fx.h).2, atI_nat hu, t, _, _, _, rfl, rfl, upT ms_same ht, atI_nat (j := 1) rfl, h.2, rfl, (by omega), (by omega), for_it (walk_range (lo := 0) (n := h.2.toNat)) (fun j σ N => ∃ (lo : Addr) (lq : List Str) (evs : List V) (es : List EdgeK) (us2 : List V) (ts2 : List EdgeK) (o16 o17 o18 o19 : Option V), σ = [some (.ref p), some (.int 8), some (.int 3), some (.ref sl), some (.int (m : Nat)), some (.ref nl), some (.ref il), some (.ref tl), some (.ref lo), some (.str nm), some (.ref hd), some (.ref pd), o12, some (.ref gl), some (.int (i : Nat)), some (.ref el), o16, o17, o18, o19, none, none, none, none, none, none] ∧ SlN K H p tl pd sl nl il hd gl el bs kvs ss names ins uh hs vs gs N lo lq evs es us2 ts2 (n + 140 + 1300 * i + 403 * j) ∧ lq = leftL lq0 es ∧ es.length = j ∧ ts.length ≤ ts2.length ∧ (∀ e ∈ es, EdgO ins names ts2.length i e) ∧ (1 ≤ j → (∃ e ∈ es, e.1 ∈ ins ++ names.take i) ∧ lq.length ≤ 2)) ⟨lo, lq0, [], [], us, ts, _, _, _, _, rfl, hSl, (leftL_nil lq0).symm, rfl, Nat.le_refl _, fun e he => (nomatch he), fun h => absurd h (by decide)⟩ (fun _ _ _ _ _ => trivial) ?_ ?_⟩
        · clear hSl hu ht
          rintro j x σ N N' hj ⟨lo, lq, evs, es, us2, ts2, o16, o17, o18, o19, rfl, hS, hlq, hej, htt, heo, hq1⟩ ⟨rfl, hx⟩
          have hx' : x = .int (j : Nat) := by rw [hx]; show V.int (0 + ((j : Nat) : Int)) = _; rw [Int.zero_add]
          clear hx
          subst hx'
          have hni : j < 3 := by omega
          have hil1 := hPf.i1
          have hil4 := hPf.i4
          refine ⟨fun σ N => ∃ (src : Str), σ = [some (.ref p), some (.int 8), some (.int 3), some (.ref sl), some (.int (m : Nat)), some (.ref nl), some (.ref il), some (.ref tl), some (.ref lo), some (.str nm), some (.ref hd), some (.ref pd), o12, some (.ref gl), some (.int (i : Nat)), some (.ref el), some (.int (j : Nat)), some (.str src), o18, o19, none, none, none, none, none, none] ∧ SlN K H p tl pd sl nl il hd gl el bs kvs ss names ins uh hs vs gs N lo lq evs es us2 ts2 (n + 140 + 1300 * i + 403 * j + 1) ∧ src ∈ ins ++ names ∧ (j = 0 → src ∈ ins ++ names.take i), ?_, ?_⟩
          · have hI := (ms_some hS.fx.i).2
            have hNm := (ms_some hS.fx.n).2
            refine ⟨_, rfl, _, rfl, il, nl, _, _, rfl, rfl, hI, hNm, (by rw [List.length_map, List.length_map]; omega), fun cl hcl => ?_⟩
            have kc := Same.put (o := .lst (ins.map V.str ++ names.map V.str)) hcl
            have hS1 := hS.up kc
            have hcv : (upd N' cl (.lst (ins.map V.str ++ names.map V.str))) cl = some (.lst ((ins ++ names).map V.str)) := by rw [upd_same, List.map_append]
            have ncp : cl ≠ p := fun z => hS.dr.out hcl (.inl z)
            generalize upd N' cl (.lst (ins.map V.str ++ names.map V.str)) = N1 at kc hS1 hcv ⊢
            refine ⟨_, rfl, _, rfl, _, _, rfl, .inl ⟨_, SqL.of (kc _ _ hI), rfl⟩, _, rfl, rfl, _, rfl, ?_⟩
            refine ite2 (fun hz => ?_) (fun hz => ?_)
            · refine ⟨_, rfl, _, _, rfl, rfl, p, _, n + 140 + 1300 * i + 403 * j, rfl, hS1.dr.bx, (by rw [List.length_map]; omega), (log_int (by omega) (by rw [List.length_map]; omega)), (by omega), fun d N2 d0 d1 hb2 hk2 => ?_⟩
              rw [List.length_map] at d1
              have d2 : d < ((ins ++ names).length : Int) := by rw [List.length_append]; omega
              obtain ⟨src, hsrc, hat⟩ := at_str d0 d2
              have hS2 := hS1.take hb2 hk2
              refine ⟨cl, _, _, _, rfl, rfl, SqL.of ((hk2 cl ncp).trans hcv), hat, src, rfl, hS2, List.mem_of_getElem? hsrc, fun _ => mem_early hsrc (by omega)⟩
            · have hz' : j ≠ 0 := fun e => hz (by rw [e]; exact decide_eq_true rfl)
              refine ⟨_, rfl, _, _, rfl, rfl, p, _, n + 140 + 1300 * i + 403 * j, rfl, hS1.dr.bx, (by rw [List.length_map]; omega), (log_int (by omega) (by rw [List.length_map]; omega)), (by omega), fun d N2 d0 d1 hb2 hk2 => ?_⟩
              rw [List.length_map] at d1
              have d2 : d < ((ins ++ names).length : Int) := by rw [List.length_append]; omega
              obtain ⟨src, hsrc, hat⟩ := at_str d0 d2
              have hS2 := hS1.take hb2 hk2
              refine ⟨cl, _, _, _, rfl, rfl, SqL.of ((hk2 cl ncp).trans hcv), hat, src, rfl, hS2, List.mem_of_getElem? hsrc, fun e => absurd e hz'⟩
          clear hS
          have hqn : ∀ x ∈ lq, nameB (TL.tl x) = true := fun x hx => by
            rw [hlq] at hx
            exact hPf.nm x (List.mem_append_right _ (List.mem_of_mem_take (hDg.lo x (List.mem_filter.mp hx).1)))
          rintro σ N1 ⟨src, rfl, hS, hsm, hs0⟩
          refine ⟨fun σ N => ∃ (src : Str), σ = [some (.ref p), some (.int 8), some (.int 3), some (.ref sl), some (.int (m : Nat)), some (.ref nl), some (.ref il), some (.ref tl), some (.ref lo), some (.str nm), some (.ref hd), some (.ref pd), o12, some (.ref gl), some (.int (i : Nat)), some (.ref el), some (.int (j : Nat)), some (.str src), o18, o19, none, none, none, none, none, none] ∧ SlN K H p tl pd sl nl il hd gl el bs kvs ss names ins uh hs vs gs N lo lq evs es us2 ts2 (n + 140 + 1300 * i + 403 * j + 2) ∧ src ∈ ins ++ names ∧ (j = 0 → src ∈ ins ++ names.take i ∧ (lq.filter fun n => decide (n ≠ src)).length ≤ 2), ?_, ?_⟩
          · refine ⟨_, rfl, rfl, _, rfl, ?_⟩
            refine ite2 (fun hz => ?_) (fun hz => ?_)
            · have hz' : j = 0 := by
                have := of_decide_eq_true hz
                have := V.int.inj this
                omega
              subst hz'
              refine ⟨_, rfl, (by show 0 ≤ sizeLine; decide), fun e0 he0 => ?_⟩
              have ke := Same.put (o := .lst []) he0
              have hS1 := hS.up ke
              refine ⟨.list (lq.map PyData.str), .list [], .lst (SqL.of (ke _ _ hS.fl)) (dpAll_str _), .lst (SqL.of upd_same) .nil, shaped_str hqn, by decide, _, rfl, ?_⟩
              rw [eqv_nil]
              generalize upd N1 e0 (.lst []) = N2 at hS1 ⊢
              refine ite2 (fun hz1 => ?_) (fun hz1 => ?_)
              · have hne : lq ≠ [] := fun e => by rw [e] at hz1; cases hz1
                obtain ⟨x0, l0, hxl⟩ : ∃ x l, lq = x :: l := by
                  cases lq with
                  | nil => exact absurd rfl hne
                  | cons x l => exact ⟨x, l, rfl⟩
                have hx0 : atI (lq.map V.str) 0 = some (.str x0) := by rw [hxl]; exact atI_nat (j := 0) rfl
                have hx0b : x0 ∈ ins ++ names.take i := by
                  have : x0 ∈ lq := by rw [hxl]; exact List.mem_cons_self
                  rw [hlq] at this
                  have := hDg.lo x0 (List.mem_filter.mp this).1
                  rw [hgl] at this
                  exact List.mem_append_right _ this
                have hx0a : x0 ∈ ins ++ names := (List.mem_append.mp hx0b).elim (fun z => List.mem_append_left _ z) fun z => List.mem_append_right _ (List.mem_of_mem_take z)
                have hx0c : (lq.filter fun n => decide (n ≠ x0)).length ≤ 2 := by
                  have h3 : lq.length ≤ 3 := by
                    rw [hlq]
                    exact Nat.le_trans (List.length_filter_le _ _) hDg.ll
                  rw [hxl, List.filter_cons, if_neg (by simp)]
                  rw [hxl, List.length_cons] at h3
                  exact Nat.le_trans (List.length_filter_le _ _) (by omega)
                refine ⟨_, rfl, _, _, rfl, .inl ⟨_, SqL.of hS1.fl, rfl⟩, _, _, rfl, rfl, _, rfl, ?_⟩
                refine ite2 (fun hz2 => ?_) (fun hz2 => ?_)
                · refine iteT ?_
                  exact ⟨_, rfl, lo, _, _, _, rfl, rfl, SqL.of hS1.fl, hx0, x0, rfl, hS1.mono (by omega), hx0a, fun _ => ⟨hx0b, hx0c⟩⟩
                · have hz2' : lq.length ≤ 2 := by
                    have : ¬ (2 : Int) < ((lq.map V.str).length : Nat) := fun e => hz2 (decide_eq_true e)
                    rw [List.length_map] at this
                    omega
                  refine ⟨_, rfl, p, 2, n + 140 + 1300 * i + 403 * 0 + 1, rfl, hS1.dr.bx, (by decide), (by decide), (by omega), fun d N3 d0 d1 hb3 hk3 => ⟨rfl, _, rfl, ?_⟩⟩
                  have hS3 := hS1.take hb3 hk3
                  refine ite2 (fun hz3 => ?_) (fun hz3 => ?_)
                  · exact ⟨_, rfl, lo, _, _, _, rfl, rfl, SqL.of hS3.fl, hx0, x0, rfl, hS3, hx0a, fun _ => ⟨hx0b, hx0c⟩⟩
                  · exact ⟨src, rfl, hS3, hsm, fun _ => ⟨hs0 rfl, Nat.le_trans (List.length_filter_le _ _) hz2'⟩⟩
              · have hne : lq = [] := Classical.byContradiction fun e => hz1 (by rw [decide_eq_false e]; rfl)
                refine iteF ?_
                exact ⟨src, rfl, hS1.mono (by omega), hsm, fun _ => ⟨hs0 rfl, by rw [hne]; exact Nat.zero_le _⟩⟩
            · have hz' : j ≠ 0 := fun e => hz (by rw [e]; exact decide_eq_true rfl)
              refine iteF ?_
              exact ⟨src, rfl, hS.mono (by omega), hsm, fun e => absurd e hz'⟩
          clear hS hs0
          rintro σ N1 ⟨src, rfl, hS, hsm, hs0⟩
          have hNm := (ms_some hS.fx.n).2
          refine ⟨_, rfl, _, rfl, _, rfl, _, rfl, nl, _, rfl, SqL.of hNm, fun l1 hl1 => ?_⟩
          have hcut : cutV (names.map V.str) (some (i : Int)) none = (names.drop i).map V.str := by rw [cut_from (by omega), Int.toNat_natCast, List.map_drop]
          refine ⟨_, _, rfl, .inl (SqL.of upd_same), rfl, (by rw [hcut]; exact flat_strs _), .inr ⟨_, rfl, ?_⟩⟩
          have hlate : inV (.str src) (cutV (names.map V.str) (some (i : Int)) none) = false → src ∉ names.drop i := fun e z => by
            rw [hcut] at e
            have : inV (.str src) ((names.drop i).map V.str) = true := by
              unfold inV
              rw [List.any_map, List.any_eq_true]
              exact ⟨src, z, by show (src == src) = true; simp⟩
            rw [this] at e
            cases e
          generalize inV (.str src) (cutV (names.map V.str) (some (i : Int)) none) = late at hlate ⊢
          have hS1 := hS.up (Same.put (o := .lst (cutV (names.map V.str) (some (i : Int)) none)) hl1)
          generalize upd N1 l1 (.lst (cutV (names.map V.str) (some (i : Int)) none)) = N2 at hS1 ⊢
          dsimp only [gName]
          have lt0 : 0 ≤ (if (if false = true then !late else late) = true then (1 : Int) else 0) := by split <;> omega
          have lt1 : (if (if false = true then !late else late) = true then (1 : Int) else 0) ≤ 1 := by split <;> omega
          generalize hlt : (if (if false = true then !late else late) = true then (1 : Int) else 0) = lt at lt0 lt1 ⊢
          refine ⟨fun σ N => ∃ (lt d : Int), σ = [some (.ref p), some (.int 8), some (.int 3), some (.ref sl), some (.int (m : Nat)), some (.ref nl), some (.ref il), some (.ref tl), some (.ref lo), some (.str nm), some (.ref hd), some (.ref pd), o12, some (.ref gl), some (.int (i : Nat)), some (.ref el), some (.int (j : Nat)), some (.str src), some (.int lt), some (.int d), none, none, none, none, none, none] ∧ SlN K H p tl pd sl nl il hd gl el bs kvs ss names ins uh hs vs gs N lo lq evs es us2 ts2 (n + 140 + 1300 * i + 403 * j + 3) ∧ 0 ≤ d ∧ d ≤ 10 ∧ (d = 0 → src ∈ ins ∨ src ∈ names.take i), ?_, ?_⟩
          · refine ⟨_, rfl, _, rfl, _, rfl, _, _, rfl, rfl, _, rfl, _, _, rfl, rfl, p, _, _, rfl, hS1.dr.bx, (by omega), (log_int (by omega) (by omega)), (by omega), fun d N3 d0 d1 hb3 hk3 => ⟨_, _, rfl, rfl, ?_⟩⟩
            refine ⟨lt, lt + d, rfl, hS1.take hb3 hk3, by omega, by omega, fun e => mem_notdrop hsm (hlate ?_)⟩
            have : lt = 0 := by omega
            rw [← hlt] at this
            cases late with
            | false => rfl
            | true => cases this
          clear hS hS1 hl1 hNm hlate hlt lt0 lt1
          rintro σ N3 ⟨lt, d, rfl, hS, d0, d1, hd0⟩
          refine ⟨fun σ N => ∃ (us3 : List V) (ts3 : List EdgeK) (evs2 : List V) (e : EdgeK), σ = [some (.ref p), some (.int 8), some (.int 3), some (.ref sl), some (.int (m : Nat)), some (.ref nl), some (.ref il), some (.ref tl), some (.ref lo), some (.str nm), some (.ref hd), some (.ref pd), o12, some (.ref gl), some (.int (i : Nat)), some (.ref el), some (.int (j : Nat)), some (.str src), some (.int lt), some (.int d), none, none, none, none, none, none] ∧ SlN K H p tl pd sl nl il hd gl el bs kvs ss names ins uh hs vs gs N lo lq evs2 (es ++ [e]) us3 ts3 (n + 140 + 1300 * i + 403 * j + 403) ∧ e.1 = src ∧ EdgO ins names ts3.length i e ∧ ts2.length ≤ ts3.length, ?_, ?_⟩
          · refine ⟨_, rfl, .inl ⟨rfl, _, SqL.of hS.fe⟩, _, rfl, _, rfl, _, rfl, _, rfl, _, rfl, _, rfl, p, tl, pd, bs, kvs, us2, ts2, _, src, d, 50, rfl, hS.dr, (by omega), d0, (by omega), (by decide), hS.t6, fun l xs us3 ts3 H4 s4 nl4 hl4 nS4 hxl hxr ⟨more, hmore⟩ ht3 hDr3 => ⟨(by show 2 ≤ sizeLine; decide), fun t ht => ?_⟩⟩
            have hS4 := hS.st s4 hDr3 ht3
            have ke := Same.put (o := .tup [V.str src, V.ref l]) ht
            have hS5 := hS4.up ke
            have hlg : l ≠ gl := (ne_of_none hS.fg nl4).symm
            have hll : l ≠ lo := (ne_of_none hS.fl nl4).symm
            have hle : l ≠ el := (ne_of_none hS.fe nl4).symm
            have outS : ∀ b, ¬ SD p tl bs b → b ≠ gl → b ≠ lo → b ≠ el → ¬ SG p tl bs [gl, lo, el] b := fun b h1 h2 h3 h4 z => by
              rcases z with z | z
              · exact h1 z
              · rcases List.mem_cons.mp z with z | z
                · exact h2 z
                · rcases List.mem_cons.mp z with z | z
                  · exact h3 z
                  · exact h4 (List.mem_singleton.mp z)
            have hE : EdgeD K (ms (SG p tl bs [gl, lo, el]) (upd H4 t (.tup [V.str src, V.ref l]))) (.ref t) (src, xs) :=
              ⟨t, l, rfl, .inr (SqT.of (ms_at (outS t (hS4.dr.out ht) (ne_of_none hS4.fg ht).symm (ne_of_none hS4.fl ht).symm (ne_of_none hS4.fe ht).symm) upd_same)), ms_at (outS l nS4 hlg hll hle) (ke _ _ hl4)⟩
            have hej3 := hS.ed.length
            refine ⟨el, _, _, rfl, rfl, hS5.fe, (by omega), us3, ts3, _, (src, xs), rfl, (hS5.edge hE).mono (by omega), rfl, ⟨hsm, fun e => hd0 ?_, hxr, ?_⟩, ?_⟩
            · have e : xs = [] := e
              rw [e] at hxl
              exact hxl.symm
            · show xs.length ≤ 30
              omega
            · rw [hmore, List.length_append]
              omega
          clear hS
          rintro σ N4 ⟨us3, ts3, evs2, e, rfl, hS, he1, heO, ht23⟩
          refine ⟨_, rfl, lo, rfl, ⟨_, SqL.of hS.fl⟩, fun D hD => lc_it (walk_list (xs := lq.map V.str)) (fun j M => Same N4 M ∧ M D = some (.lst (((lq.take j).filter fun n => decide (n ≠ src)).map V.str))) ⟨Same.put hD, upd_same⟩ (fun j M _ h => SqL.of (h.1 _ _ hS.fl)) ?_ ?_⟩
          · rintro j2 v M5 M6 hj2 ⟨kM, md⟩ ⟨rfl, hv⟩
            obtain ⟨x, hx, rfl⟩ := Option.map_eq_some_iff.mp ((List.getElem?_map ..).symm.trans hv : lq[j2]?.map V.str = some v)
            refine ⟨rfl, _, rfl, _, rfl, rfl, _, rfl, ?_⟩
            have hsn : (lq.take (j2 + 1)).filter (fun n => decide (n ≠ src)) = (lq.take j2).filter (fun n => decide (n ≠ src)) ++ (if x ≠ src then [x] else []) := by
              rw [tk_snoc hx, List.filter_append]
              congr 1
              by_cases hxs : x = src
              · rw [if_neg (by simp [hxs])]
                simp [hxs]
              · rw [if_pos hxs]
                simp [hxs]
            have hl3 : ((lq.take j2).filter fun n => decide (n ≠ src)).length ≤ 3 := by
              have h3 : lq.length ≤ 3 := by
                rw [hlq]
                exact Nat.le_trans (List.length_filter_le _ _) hDg.ll
              exact Nat.le_trans (List.length_filter_le _ _) (by rw [List.length_take]; omega)
            by_cases hxs : x = src
            · rw [if_neg (by simp [hxs]), List.append_nil] at hsn
              rw [decide_eq_true (show V.str x = V.str src by rw [hxs])]
              refine iteF ?_
              exact ⟨kM, by rw [hsn]; exact md⟩
            · rw [if_pos hxs] at hsn
              rw [decide_eq_false (show ¬ V.str x = V.str src from fun z => hxs (V.str.inj z))]
              refine iteT ?_
              refine ⟨_, rfl, _, md, (by rw [List.length_map]; omega), Same.at0 hD kM, ?_⟩
              rw [upd_same, hsn, List.map_append]
              rfl
          · rintro M5 ⟨kM, md⟩
            rw [List.length_map, List.take_length] at md
            have hS' := hS.left hD kM md
            have hlq' : (lq.filter fun n => decide (n ≠ src)) = leftL lq0 (es ++ [e]) := by rw [leftL_snoc, ← hlq, he1]
            refine ⟨D, _, evs2, es ++ [e], us3, ts3, _, _, _, _, rfl, hS'.mono (by omega), hlq', by rw [List.length_append, List.length_singleton, hej], by omega, fun e' he' => ?_, fun _ => ⟨?_, ?_⟩⟩
            · rcases List.mem_append.mp he' with z | z
              · exact (heo e' z).mono ht23
              · rw [List.mem_singleton.mp z]
                exact heO
            · rcases Nat.eq_zero_or_pos j with z | z
              · exact ⟨e, List.mem_append_right _ List.mem_cons_self, by rw [he1]; exact (hs0 z).1⟩
              · obtain ⟨⟨e', he', h2⟩, _⟩ := hq1 z
                exact ⟨e', List.mem_append_left _ he', h2⟩
            · rcases Nat.eq_zero_or_pos j with z | z
              · exact (hs0 z).2
              · exact Nat.le_trans (List.length_filter_le _ _) (hq1 z).2
        · rintro σ N ⟨lo, lq, evs, es, us2, ts2, o16, o17, o18, o19, rfl, hS, hlq, hej, htt, heo, hq1⟩
          obtain ⟨hq2, hq3⟩ := hq1 (by omega)
          have hul := hS.ga.length
          have hh' := (ms_some hS.fx.h).2
          obtain ⟨uv, hu, t, rfl, ht⟩ := Pd.att hS.fx.hp hh
          refine ⟨_, rfl, .inl ⟨rfl, _, SqL.of hS.fg⟩, _, rfl, _, rfl, _, rfl, hd, _, _, _, rfl, rfl, SqL.of hh', atI_nat hu, t, _, _, _, rfl, rfl, upT ms_same ht, atI_nat (j := 0) rfl, _, rfl, (by show 3 ≤ sizeLine; decide), fun tg htg => ?_⟩
          have kg := Same.put (o := .tup [V.str nm, V.str h.1, V.ref el]) htg
          have hS1 := hS.up kg
          have hnS : ¬ SG p tl bs [gl, lo] tg := fun z => by
            rcases z with z | z
            · exact hS.dr.out htg z
            · rcases List.mem_cons.mp z with z | z
              · exact (ne_of_none hS.fg htg).symm z
              · exact (ne_of_none hS.fl htg).symm (List.mem_singleton.mp z)
          have hT : SqT K (ms (SG p tl bs [gl, lo]) (upd N tg (.tup [V.str nm, V.str h.1, V.ref el]))) tg [.str nm, .str h.1, .ref el] := SqT.of (ms_at hnS upd_same)
          refine ⟨gl, _, _, rfl, rfl, hS1.fg, (by omega), ?_⟩
          have hfin := hS1.done (v := .ref tg) (g := (nm, h.1, es)) (nm := nm) rfl hT rfl
          have hq3' : (lq.length : Int) ≤ 2 := by omega
          refine ⟨_, rfl, .inl ⟨rfl, _, SqL.of ((upd_ne hS1.lg).trans hS1.fl)⟩, _, rfl, lo, _, _, rfl, rfl, (upd_ne hS1.lg).trans hS1.fl, (by rw [List.length_map]; omega), ?_⟩
          have e1 : lq.map V.str ++ [V.str nm] = (lq ++ [nm]).map V.str := by rw [List.map_append]; rfl
          rw [e1]
          refine ⟨lo, _, gs ++ [(nm, h.1, es)], lq ++ [nm], us2, ts2, _, _, _, _, _, _, _, rfl, hfin.mono (by omega), ?_, by rw [List.length_append, List.length_singleton, hgl]⟩
          rw [hlq]
          have hlq2 := hlq ▸ hq3
          exact (hDg.mono htt).snoc (g := (nm, h.1, es)) (by rw [hgl]; exact hnm) ⟨hh1, by show 1 ≤ es.length; omega, by show es.length ≤ 3; omega⟩ (by rw [hgl]; exact heo) (by rw [hgl]; exact hq2) (by rw [← hlq]; exact hq3)
      · rintro σ M h
        rw [List.length_map] at h
        exact h
    clear hDr hlo hF nlS m0 hgl ntH nlH nlp nlt hok t1 t9
    rintro σ G1 ⟨lo, vs, gs, lq, us, ts, o9, o14, o15, o16, o17, o18, o19, rfl, hGt, hDg, hgl⟩
    have hn8 := hPf.n8
    obtain ⟨c, hc, hc1⟩ : ∃ c, c = n + 140 + 1300 * names.length ∧ c ≤ 20000 := ⟨_, rfl, by omega⟩
    rw [← hc] at hGt
    clear hc
    have hi1 := hPf.i1
    have hi4 := hPf.i4
    have hll := hDg.ll
    refine ⟨_, rfl, _, rfl, _, _, rfl, .inl ⟨_, SqL.of hGt.fl, rfl⟩, _, _, rfl, rfl, p, _, c, rfl, hGt.dr.bx, (by rw [List.length_map]; omega), (by rw [List.length_map]; exact log_int (by omega) (by omega)), (by omega), fun d G2 d0 d1 hb2 hk2 => ?_⟩
    rw [List.length_map] at d1
    have hG2 := hGt.take hb2 hk2
    refine ⟨_, rfl, _, rfl, il, nl, _, _, rfl, rfl, (ms_some hG2.fx.i).2, (ms_some hG2.fx.n).2, (by rw [List.length_map, List.length_map]; omega), fun kn hkn => ⟨(by show 2 ≤ sizeLine; decide), fun t ht => ?_⟩⟩
    refine pair_asg (.inr (SqT.of upd_same)) (q := ?_)
    have kk := Same.put (o := .lst (ins.map V.str ++ names.map V.str)) hkn
    have kt := Same.put (o := .tup [V.int d, V.ref kn]) ht
    have knp : kn ≠ p := fun z => hG2.dr.out hkn (.inl z)
    have hkn2 : (upd (upd G2 kn (.lst (ins.map V.str ++ names.map V.str))) t (.tup [V.int d, V.ref kn])) kn = some (.lst ((ins ++ names).map V.str)) := by rw [kt _ _ upd_same, List.map_append]
    have hG3 := hG2.up (Same.tr kk kt)
    generalize upd (upd G2 kn (.lst (ins.map V.str ++ names.map V.str))) t (.tup [V.int d, V.ref kn]) = G3 at hkn2 hG3 ⊢
    clear hGt hG2 hb2 hk2 kk kt hkn ht
    refine ⟨fun σ N => ∃ (en : Addr) (ends : List Str), σ = [some (.ref p), some (.int 8), some (.int 3), some (.ref sl), some (.int (m : Nat)), some (.ref nl), some (.ref il), some (.ref tl), some (.ref lo), o9, some (.ref hd), some (.ref pd), o12, some (.ref gl), o14, o15, o16, o17, o18, o19, some (.int d), some (.ref kn), some (.ref en), none, none, none] ∧ GtN K H p tl pd sl nl il hd gl bs kvs ss names ins uh hs vs gs N lo lq us ts (c + 10) ∧ (ms (SG p tl bs [gl, lo]) N) en = some (.lst (ends.map V.str)) ∧ (∀ x ∈ lq, x ∈ ends) ∧ ends.length ≤ 4 ∧ (∀ x ∈ ends, x ∈ ins ++ names), ?_, ?_⟩
    · refine ⟨_, rfl, _, rfl, d, rfl, (by omega), (by omega), fun D hD => lc_it (walk_range (lo := 0) (n := d.toNat)) (fun j M => Same (ms (· = p) G3) (ms (· = p) M) ∧ BoxAt M p (c + 1 + j) ∧ ∃ xs : List Str, M D = some (.lst (xs.map V.str)) ∧ xs.length = j ∧ ∀ x ∈ xs, x ∈ ins ++ names) ⟨ms_up (Same.put hD), box_new hD hG3.dr.bx, [], upd_same, rfl, fun x hx => (nomatch hx)⟩ (fun _ _ _ _ => trivial) ?_ ?_⟩
      · rintro j x M M' hj ⟨kM, hbM, xs, md, xl, hx⟩ ⟨rfl, _⟩
        have hkM := (ms_some (kM _ _ (ms_at knp hkn2))).2
        have nDp : D ≠ p := fun z => hG3.dr.out hD (.inl z)
        refine ⟨rfl, _, rfl, _, rfl, _, rfl, _, _, rfl, .inl ⟨_, SqL.of hkM, rfl⟩, p, _, _, rfl, hbM, (by rw [List.length_map, List.length_append]; omega), (by rw [List.length_map]; exact log_le (by rw [List.length_append]; omega)), (by omega), fun d2 M2 d20 d21 hb3 hk3 => ?_⟩
        rw [List.length_map] at d21
        obtain ⟨y, hy, hat⟩ := at_str d20 d21
        refine ⟨kn, _, _, _, rfl, rfl, SqL.of ((hk3 kn knp).trans hkM), hat, _, (hk3 D nDp).trans md, (by rw [List.length_map]; omega), sm_set nDp hD (Same.tr kM (box_sm hk3)), ?_, xs ++ [y], ?_, by rw [List.length_append, List.length_singleton, xl], fun z hz => ?_⟩
        · obtain ⟨a, b, c', h, r⟩ := hb3
          exact ⟨a, b, c', (upd_ne nDp.symm).trans h, r⟩
        · rw [upd_same, List.map_append]
          rfl
        · rcases List.mem_append.mp hz with w | w
          · exact hx z w
          · rw [List.mem_singleton.mp w]
            exact List.mem_of_getElem? hy
      · rintro M ⟨kM, hbM, xs, md, xl, hx⟩
        have hGM := hG3.smp kM hbM
        refine ⟨lo, D, _, _, rfl, rfl, hGM.fl, md, (by rw [List.length_map, List.length_map]; omega), fun en hen => ?_⟩
        have kE := Same.put (o := .lst (lq.map V.str ++ xs.map V.str)) hen
        refine ⟨en, lq ++ xs, rfl, (hGM.up kE).mono (by omega), ms_at (fun z => ?_) (by rw [upd_same, List.map_append]), fun x hx => List.mem_append_left _ hx, by rw [List.length_append]; omega, fun x hx' => ?_⟩
        · rcases z with z | z
          · exact hGM.dr.out hen z
          · rcases List.mem_cons.mp z with z | z
            · exact (ne_of_none hGM.fg hen).symm z
            · exact (ne_of_none hGM.fl hen).symm (List.mem_singleton.mp z)
        · rcases List.mem_append.mp hx' with z | z
          · exact List.mem_append_right _ (List.mem_of_mem_take (hDg.lo x z))
          · exact hx x z
    clear hG3 hkn2
    rintro σ G4 ⟨en, ends, rfl, hGt, hen, hsub, hel4, hei⟩
    refine ⟨(by show 0 ≤ sizeLine; decide), fun ol hol => ?_⟩
    refine ⟨fun σ N => ∃ (us2 : List V) (ts2 : List EdgeK) (eo : List V) (os : List EdgeK) (o17 : Option V), σ = [some (.ref p), some (.int 8), some (.int 3), some (.ref sl), some (.int (m : Nat)), some (.ref nl), some (.ref il), some (.ref tl), some (.ref lo), o9, some (.ref hd), some (.ref pd), o12, some (.ref gl), o14, o15, o16, o17, o18, o19, some (.int d), some (.ref kn), some (.ref en), some (.ref ol), none, none] ∧ SlN K H p tl pd sl nl il hd gl ol bs kvs ss names ins uh hs vs gs N lo lq eo os us2 ts2 (c + 10 + 402 * ends.length) ∧ (ms (SG p tl bs [gl, lo, ol]) N) en = some (.lst (ends.map V.str)) ∧ os.map (·.1) = ends.take ends.length ∧ ts.length ≤ ts2.length ∧ (∀ e ∈ os, OutO ins names ts2.length e), ?_, ?_⟩
    · have hSl := hGt.begin hol
      have ko := Same.put (o := .lst []) hol
      have hen2 : (ms (SG p tl bs [gl, lo, ol]) (upd G4 ol (.lst []))) en = some (.lst (ends.map V.str)) := sg_mv (fun b hb => by
        rcases List.mem_cons.mp hb with rfl | hb
        · exact .inl (by simp)
        rcases List.mem_cons.mp hb with rfl | hb
        · exact .inl (by simp)
        · exact .inr (by rw [List.mem_singleton.mp hb]; exact hol)) ko _ _ hen
      generalize upd G4 ol (.lst []) = G5 at hSl hen2 ⊢
      refine ⟨_, rfl, en, rfl, ⟨_, SqL.of (ms_some hen2).2⟩, for_it (walk_list (xs := ends.map V.str)) (fun i σ N => ∃ (us2 : List V) (ts2 : List EdgeK) (eo : List V) (os : List EdgeK) (o17 : Option V), σ = [some (.ref p), some (.int 8), some (.int 3), some (.ref sl), some (.int (m : Nat)), some (.ref nl), some (.ref il), some (.ref tl), some (.ref lo), o9, some (.ref hd), some (.ref pd), o12, some (.ref gl), o14, o15, o16, o17, o18, o19, some (.int d), some (.ref kn), some (.ref en), some (.ref ol), none, none] ∧ SlN K H p tl pd sl nl il hd gl ol bs kvs ss names ins uh hs vs gs N lo lq eo os us2 ts2 (c + 10 + 402 * i) ∧ (ms (SG p tl bs [gl, lo, ol]) N) en = some (.lst (ends.map V.str)) ∧ os.map (·.1) = ends.take i ∧ ts.length ≤ ts2.length ∧ (∀ e ∈ os, OutO ins names ts2.length e)) ⟨us, ts, [], [], _, rfl, hSl, hen2, rfl, Nat.le_refl _, fun e he => (nomatch he)⟩ (fun i σ M _ ⟨_, _, _, _, _, _, _, h, _⟩ => SqL.of (ms_some h).2) ?_ ?_⟩
      · clear hSl hen2
        rintro i v σ M M' hi ⟨us2, ts2, eo, os, o17, rfl, hS, hen2, hos, htt, hoO⟩ ⟨rfl, hv⟩
        obtain ⟨src, hsrc, rfl⟩ := Option.map_eq_some_iff.mp ((List.getElem?_map ..).symm.trans hv : ends[i]?.map V.str = some v)
        have hil := (List.getElem?_eq_some_iff.mp hsrc).1
        refine ⟨_, rfl, .inl ⟨rfl, _, SqL.of hS.fe⟩, _, rfl, _, rfl, _, rfl, _, rfl, _, rfl, _, rfl, _, rfl, _, _, rfl, rfl, p, _, _, rfl, hS.dr.bx, (by decide), (by decide), (by omega), fun dd N1 d0 d1 hb1 hk1 => ?_⟩
        have hS1 := hS.take hb1 hk1
        refine ⟨p, tl, pd, bs, kvs, us2, ts2, _, src, dd, 58, rfl, hS1.dr, (by omega), d0, (by omega), (by decide), hS1.t6, fun l xs us3 ts3 H4 s4 nl4 hl4 nS4 hxl hxr ⟨more, hmore⟩ ht3 hDr3 => ⟨(by show 2 ≤ sizeLine; decide), fun t ht => ?_⟩⟩
        have hS4 := hS1.st s4 hDr3 ht3
        have ke := Same.put (o := .tup [V.str src, V.ref l]) ht
        have hS5 := hS4.up ke
        have hlg : l ≠ gl := (ne_of_none hS1.fg nl4).symm
        have hll2 : l ≠ lo := (ne_of_none hS1.fl nl4).symm
        have hle : l ≠ ol := (ne_of_none hS1.fe nl4).symm
        have outS : ∀ b, ¬ SD p tl bs b → b ≠ gl → b ≠ lo → b ≠ ol → ¬ SG p tl bs [gl, lo, ol] b := fun b h1 h2 h3 h4 z => by
          rcases z with z | z
          · exact h1 z
          · rcases List.mem_cons.mp z with z | z
            · exact h2 z
            · rcases List.mem_cons.mp z with z | z
              · exact h3 z
              · exact h4 (List.mem_singleton.mp z)
        have hE : EdgeD K (ms (SG p tl bs [gl, lo, ol]) (upd H4 t (.tup [V.str src, V.ref l]))) (.ref t) (src, xs) :=
          ⟨t, l, rfl, .inr (SqT.of (ms_at (outS t (hS4.dr.out ht) (ne_of_none hS4.fg ht).symm (ne_of_none hS4.fl ht).symm (ne_of_none hS4.fe ht).symm) upd_same)), ms_at (outS l nS4 hlg hll2 hle) (ke _ _ hl4)⟩
        have hej3 := hS.ed.length
        have hol2 : os.length = i := by
          have := congrArg List.length hos
          rw [List.length_map, List.length_take] at this
          omega
        refine ⟨ol, _, _, rfl, rfl, hS5.fe, (by omega), us3, ts3, _, os ++ [(src, xs)], _, rfl, (hS5.edge hE).mono (by omega), ?_, ?_, ?_, fun e he => ?_⟩
        · rw [sg_set (by simp)]
          refine ms_up ke _ _ (sg_st s4 _ _ ?_)
          rw [sg_take hk1]
          exact hen2
        · rw [List.map_append, hos, tk_snoc hsrc]
          rfl
        · rw [hmore, List.length_append]
          omega
        · rcases List.mem_append.mp he with z | z
          · have := hoO e z
            exact ⟨this.sr, fun m hm => by have := this.st m hm; rw [hmore, List.length_append]; omega, this.ln⟩
          · rw [List.mem_singleton.mp z]
            exact ⟨hei src (List.mem_of_getElem? hsrc), hxr, by show xs.length ≤ 30; omega⟩
      · rintro σ M h
        rw [List.length_map] at h
        exact h
    clear hGt hen
    rintro σ G5 ⟨us2, ts2, eo, os, o17, rfl, hS, hen, hos, htt, hoO⟩
    rw [List.take_length] at hos
    refine ⟨fun σ N => ∃ (a : Int), σ = [some (.ref p), some (.int 8), some (.int 3), some (.ref sl), some (.int (m : Nat)), some (.ref nl), some (.ref il), some (.ref tl), some (.ref lo), o9, some (.ref hd), some (.ref pd), o12, some (.ref gl), some (.int a), o15, o16, o17, o18, o19, some (.int d), some (.ref kn), some (.ref en), some (.ref ol), none, none] ∧ SlN K H p tl pd sl nl il hd gl ol bs kvs ss names ins uh hs vs gs N lo lq eo os us2 ts2 (c + 5000) ∧ 0 ≤ a, ?_, ?_⟩
    · refine ⟨_, rfl, _, rfl, p, _, _, rfl, hS.dr.bx, (by omega), (log_int (by omega) (by omega)), (by omega), fun a N1 a0 a1 hb1 hk1 => ?_⟩
      exact ⟨a, rfl, (hS.take hb1 hk1).mono (by omega), a0⟩
    clear hS
    rintro σ G6 ⟨a, rfl, hS, a0⟩
    refine ⟨fun σ N => ∃ (g2 : Addr) (vs2 : List V) (gs2 : List GateK), σ = [some (.ref p), some (.int 8), some (.int 3), some (.ref sl), some (.int (m : Nat)), some (.ref nl), some (.ref il), some (.ref tl), some (.ref lo), o9, some (.ref hd), some (.ref pd), o12, some (.ref g2), some (.int a), o15, o16, o17, o18, o19, some (.int d), some (.ref kn), some (.ref en), some (.ref ol), none, none] ∧ SlN K H p tl pd sl nl il hd gl ol bs kvs ss names ins uh hs vs gs N lo lq eo os us2 ts2 (c + 5001) ∧ (ms (· = p) N) g2 = some (.lst vs2) ∧ Paired (GateD K (ms (· = p) N)) vs2 gs2 ∧ List.Perm gs2 gs, ?_, ?_⟩
    · refine ⟨_, rfl, _, rfl, _, rfl, gl, _, rfl, SqL.of hS.fg, fun b1 hb1 => ?_⟩
      rw [cut_from a0]
      have k1 := Same.put (o := .lst (vs.drop a.toNat)) hb1
      have h1 : (upd G6 b1 (.lst (vs.drop a.toNat))) b1 = some (.lst (vs.drop a.toNat)) := upd_same
      have hS1 := hS.up k1
      generalize upd G6 b1 (.lst (vs.drop a.toNat)) = N1 at h1 hS1 ⊢
      refine ⟨_, rfl, _, rfl, _, rfl, gl, _, rfl, SqL.of hS1.fg, fun b2 hb2 => ?_⟩
      rw [cut_to a0]
      have k2 := Same.put (o := .lst (vs.take a.toNat)) hb2
      have h2 : (upd N1 b2 (.lst (vs.take a.toNat))) b2 = some (.lst (vs.take a.toNat)) := upd_same
      have h12 := k2 _ _ h1
      have hS2 := hS1.up k2
      generalize upd N1 b2 (.lst (vs.take a.toNat)) = N2 at h2 h12 hS2 ⊢
      have hvl := hS2.ga.length
      refine ⟨b1, b2, _, _, rfl, rfl, h12, h2, (by rw [List.length_drop, List.length_take]; omega), fun b3 hb3 => ⟨_, rfl, (by show 2 ≤ sizeLine; decide), fun b4 hb4 => ?_⟩⟩
      have k3 := Same.put (o := .lst (vs.drop a.toNat ++ vs.take a.toNat)) hb3
      have k4 := Same.put (o := .lst [V.int 1, V.int (-1)]) hb4
      have h3 := k4 _ _ (upd_same (H := N2) (a := b3) (o := .lst (vs.drop a.toNat ++ vs.take a.toNat)))
      have h4 : (upd (upd N2 b3 (.lst (vs.drop a.toNat ++ vs.take a.toNat))) b4 (.lst [V.int 1, V.int (-1)])) b4 = some (.lst [V.int 1, V.int (-1)]) := upd_same
      have hS4 := hS2.up (Same.tr k3 k4)
      have b3p : b3 ≠ p := fun z => hS2.dr.out hb3 (.inl z)
      have b4p : b4 ≠ p := fun z => (hS2.up k3).dr.out hb4 (.inl z)
      generalize upd (upd N2 b3 (.lst (vs.drop a.toNat ++ vs.take a.toNat))) b4 (.lst [V.int 1, V.int (-1)]) = N4 at h3 h4 hS4 ⊢
      refine ⟨_, rfl, p, 2, _, rfl, hS4.dr.bx, (by decide), (by decide), (by omega), fun d N5 d0 d1 hb5 hk5 => ?_⟩
      obtain ⟨kk, hkk, hat⟩ := at_turn d0 d1
      have hS5 := hS4.take hb5 hk5
      refine ⟨b4, _, _, .int kk, rfl, rfl, SqL.of ((hk5 b4 b4p).trans h4), hat, _, rfl, b3, _, kk, rfl, rfl, SqL.of ((hk5 b3 b3p).trans h3), hkk, fun g2 hg2 => ?_⟩
      have kg := Same.put (o := .lst (stepV (vs.drop a.toNat ++ vs.take a.toNat) kk)) hg2
      obtain ⟨gs2, hgs2, hperm⟩ := step_pd (Pd.app (Pd.drop a.toNat hS5.ga) (Pd.take a.toNat hS5.ga)) kk
      have kp : Same (ms (SG p tl bs [gl, lo, ol]) N5) (ms (· = p) (upd N5 g2 (.lst (stepV (vs.drop a.toNat ++ vs.take a.toNat) kk)))) := Same.tr (ms_more (S := SG p tl bs [gl, lo, ol]) (S' := (· = p)) fun b z => by rw [show b = p from z]; exact sg_p) (ms_up kg)
      refine ⟨g2, _, gs2, rfl, hS5.up kg, ms_at (fun z => hS5.dr.out hg2 (.inl z)) upd_same, Paired.mono (fun _ _ q => q.up kp) hgs2, hperm.trans ?_⟩
      refine List.perm_append_comm.trans ?_
      rw [List.take_append_drop]
    clear hS
    rintro σ G7 ⟨g2, vs2, gs2, rfl, hS, hg2, hgs2, hperm⟩
    refine ⟨_, rfl, _, rfl, _, rfl, _, rfl, (by show 2 ≤ sizeLine; decide), fun b4 hb4 => ?_⟩
    have k4 := Same.put (o := .lst [V.int 1, V.int (-1)]) hb4
    have h4 : (upd G7 b4 (.lst [V.int 1, V.int (-1)])) b4 = some (.lst [V.int 1, V.int (-1)]) := upd_same
    have b4p : b4 ≠ p := fun z => hS.dr.out hb4 (.inl z)
    have hS4 := hS.up k4
    have kq : Same (ms (· = p) G7) (ms (· = p) (upd G7 b4 (.lst [V.int 1, V.int (-1)]))) := ms_up k4
    generalize upd G7 b4 (.lst [V.int 1, V.int (-1)]) = N4 at h4 hS4 kq ⊢
    refine ⟨_, rfl, p, 2, _, rfl, hS4.dr.bx, (by decide), (by decide), (by omega), fun d N5 d0 d1 hb5 hk5 => ?_⟩
    obtain ⟨kk, hkk, hat⟩ := at_turn d0 d1
    have hS5 := hS4.take hb5 hk5
    have kq5 := Same.tr kq (box_sm hk5)
    refine ⟨b4, _, _, .int kk, rfl, rfl, SqL.of ((hk5 b4 b4p).trans h4), hat, _, rfl, ol, _, kk, rfl, rfl, SqL.of hS5.fe, hkk, fun o2 ho2 => ⟨_, rfl, (by show 4 ≤ sizeLine; decide), fun t ht => ?_⟩⟩
    have ko := Same.put (o := .lst (stepV eo kk)) ho2
    have kt := Same.put (o := .tup [V.ref il, V.ref g2, V.ref o2, V.ref tl]) ht
    have h02 := kt _ _ (upd_same (H := N5) (a := o2) (o := .lst (stepV eo kk)))
    have o2p : o2 ≠ p := fun z => hS5.dr.out ho2 (.inl z)
    have hS6 := hS5.up (Same.tr ko kt)
    have tp : t ≠ p := fun z => (hS5.up ko).dr.out ht (.inl z)
    have h0t : (upd (upd N5 o2 (.lst (stepV eo kk))) t (.tup [V.ref il, V.ref g2, V.ref o2, V.ref tl])) t = some (.tup [V.ref il, V.ref g2, V.ref o2, V.ref tl]) := upd_same
    have kq6 := Same.tr kq5 (ms_up (S := (· = p)) (Same.tr ko kt))
    generalize upd (upd N5 o2 (.lst (stepV eo kk))) t (.tup [V.ref il, V.ref g2, V.ref o2, V.ref tl]) = N6 at h02 hS6 h0t kq6 ⊢
    have kp : Same (ms (SG p tl bs [gl, lo, ol]) N6) (ms (· = p) N6) := ms_more fun b z => z ▸ sg_p
    have kd : Same (ms (SD p tl bs) N6) (ms (· = p) N6) := ms_more fun b z => z ▸ sd_p
    obtain ⟨os2, hos2, hpo⟩ := step_pd hS6.ed kk
    have hil6 := kp _ _ hS6.fx.i
    have hel := congrArg List.length hos
    rw [List.length_map] at hel
    have hN : NetOk ins gs os ts2 := drawn_ok (hDg.mono htt) hgl hPf.nm hPf.nd (by omega) (by omega) hS6.dr.ok hS6.t6 (fun x hx => by
      have := hsub x hx
      rw [← hos] at this
      obtain ⟨e, he, e1⟩ := List.mem_map.mp this
      exact ⟨e, he, e1⟩) (by omega) hoO
    have hN2 := hN.perm hperm hpo
    refine q t il (.ref g2) (.ref o2) (.ref tl) ins gs2 os2 ts2 N6 hS6.m0 (hS6.dr.bx.mono (by omega)) (SqT.of (ms_at tp h0t)) hil6 ⟨⟨il, rfl, .inl (SqL.of hil6)⟩, ⟨g2, vs2, rfl, .inl (SqL.of (kq6 _ _ hg2)), Paired.mono (fun _ _ q => q.up kq6) hgs2⟩, ⟨o2, _, rfl, ms_at o2p h02, edges_up kp hos2⟩, ⟨tl, _, rfl, .inl (SqL.of (ms_at hS6.dr.tp hS6.dr.ht)), Paired.mono (fun _ _ q => ?_) (hS6.dr.hk.up kd)⟩⟩ hN2 (by rw [hperm.length_eq]; omega) hi1 hi4 (by rw [hpo.length_eq]; omega)
    obtain ⟨x, y, e1, e2, e3⟩ := q
    exact ⟨x, y, e1, .inr e2, .inr e3⟩
end
end T10
set_option Elab.async false
set_option linter.all false
set_option maxRecDepth 100000
set_option maxHeartbeats 4000000
/-! networks beside the box; moved lists -/
namespace T10
open PySem PySem.Spec PyProof.Rows L2 Tp
theorem joined_mv (f : Int → Int) (gs : List GateK) (os : List EdgeK) : joinedE (gs.map (mvG f)) (os.map (mvE f)) = (joinedE gs os).map (mvE f) := by
  unfold joinedE
  rw [List.map_append, List.flatMap_map, List.map_flatMap]
  rfl
structure MvOk (ins : List Str) (gs : List GateK) (os : List EdgeK) : Prop where
  j : (joinedE gs os).length ≤ 100
  o : os.length ≤ 100
  e : ∀ e ∈ joinedE gs os, e.2.length ≤ 1000 ∧ nameB (TL.tl e.1) = true
  i : ∀ n ∈ ins, nameB (TL.tl n) = true
  g : ∀ g ∈ gs, nameB (TL.tl g.1) = true
  d : (gs.map (·.1)).Nodup
theorem mv_ok {ins : List Str} {gs : List GateK} {os ts : List EdgeK} (h : NetOk ins gs os ts) (hg : gs.length ≤ 8) (ho : os.length ≤ 4) (f : Int → Int) : MvOk ins (gs.map (mvG f)) (os.map (mvE f)) := by
  have hn : ∀ g ∈ gs.map (mvG f), nameB (TL.tl g.1) = true := fun g hg => by
    obtain ⟨k, hk, rfl⟩ := List.mem_map.mp hg
    exact h.nm k.1 (List.mem_append_right _ (List.mem_map_of_mem hk))
  refine ⟨?_, by rw [List.length_map]; omega, fun e he => ?_, fun n hn => h.nm n (List.mem_append_left _ hn), hn, by rw [mv_names]; exact (List.nodup_append.mp h.nd).2.1⟩
  · rw [joined_mv, List.length_map]
    have go2 : ∀ (l : List GateK), (∀ g ∈ l, g.2.2.length ≤ 3) → (l.flatMap fun g => g.2.2).length ≤ 3 * l.length := by
      intro l
      induction l with
      | nil => intro _; exact Nat.zero_le _
      | cons g l ih =>
        intro hh
        have h1 := hh g List.mem_cons_self
        have h2 := ih fun g' hg' => hh g' (List.mem_cons_of_mem _ hg')
        rw [List.flatMap_cons, List.length_append, List.length_cons]
        omega
    have h2 := go2 gs fun g hg => (h.gt g hg).2.2
    unfold joinedE
    rw [List.length_append]
    omega
  · rw [joined_mv] at he
    obtain ⟨e0, he0, rfl⟩ := List.mem_map.mp he
    obtain ⟨h1, h2, h3⟩ := h.ed e0 he0
    exact ⟨by unfold mvE; rw [List.length_map]; exact h3, h.nm e0.1 h1⟩
theorem kes_refs {K : PySem.W.Frag} {H : Hp} : ∀ {us : List V} {es : List EdgeK}, KEs K H us es → ∀ v ∈ us, ∃ a, v = .ref a
  | _, _, .nil, v, h => (nomatch h)
  | _, _, .cons r t, v, h => by
    rcases List.mem_cons.mp h with rfl | h
    · obtain ⟨a, b, e, _⟩ := r
      exact ⟨a, e⟩
    · exact kes_refs t v h
/-- a draw leaves a network as it is -/
theorem NetAt.draw {K : PySem.W.Frag} {G G' : Hp} {C p p0 : Addr} {ins : List Str} {gs : List GateK} {os : List EdgeK} {n m : Nat} (h : NetAt K G C p ins gs os) (hb : BoxAt G p0 n) (hb' : BoxAt G' p0 m) (hk : ∀ b, b ≠ p0 → G' b = G b) : NetAt K G' C p ins gs os := by
  obtain ⟨dx, lt, li, ln, ds, de, lo, fs, ut, uo, kvs, h0, a1, a2, a3, a4, a5, a6, a7, b1, b2, b3, b4, b5, b6, b7, b8⟩ := h.ex
  obtain ⟨x, y, z, hbx, _⟩ := hb
  obtain ⟨x', y', z', hbx', _⟩ := hb'
  have nl : ∀ {b : Addr} {xs : List V}, G b = some (.lst xs) → xs ≠ [V.int x, V.int y, V.int z] → G' b = some (.lst xs) := fun {b xs} e ne => by
    by_cases hbp : b = p0
    · rw [hbp, hbx] at e
      cases e
      exact absurd rfl ne
    · rw [hk b hbp]
      exact e
  have no : ∀ {b : Addr} {o : HO}, G b = some o → (∀ xs, o ≠ .lst xs) → G' b = some o := fun {b o} e ne => by
    have hbp : b ≠ p0 := fun w => by
      rw [w, hbx] at e
      cases e
      exact ne _ rfl
    rw [hk b hbp]
    exact e
  have st : ∀ b ys, SqT K G b ys → SqT K G' b ys := fun b ys q => by
    have q' := noS (S := (· = p0)) (fun c w => ⟨[V.int x, V.int y, V.int z], by rw [show c = p0 from w]; exact hbx⟩) b ys q
    rw [← ms_eq (p := p0) hk] at q'
    exact upT ms_same q'
  have ns : ∀ ns : List Str, ns.map V.str ≠ [V.int x, V.int y, V.int z] := fun ns e => by
    cases ns with
    | nil => cases e
    | cons a l => cases e
  have nr : ∀ {us : List V} {es : List EdgeK}, KEs K G us es → us ≠ [V.int x, V.int y, V.int z] := fun h e => by
    have := kes_refs h (V.int x) (by rw [e]; exact List.mem_cons_self)
    obtain ⟨a, ha⟩ := this
    cases ha
  have hlt : ∃ ut', G' lt = some (.lst ut') := by
    by_cases hbp : lt = p0
    · exact ⟨_, by rw [hbp]; exact hbx'⟩
    · exact ⟨ut, by rw [hk lt hbp]; exact b1⟩
  obtain ⟨ut', b1'⟩ := hlt
  refine ⟨dx, lt, li, ln, ds, de, lo, fs, ut', uo, kvs, no h0 (fun _ => nofun), a1, a2, a3, a4, a5, a6, a7, b1', nl b2 (ns _), nl b3 (ns _), no b4 (fun _ => nofun), no b5 (fun _ => nofun), ?_, nl b7 (nr b8), b8.mono st⟩
  refine Paired.mono (fun kv g q => ?_) b6
  obtain ⟨e1, l, us, e2, e3, e4⟩ := q
  exact ⟨e1, l, us, e2, nl e3 (nr e4), e4.mono st⟩
theorem rows_draw {K : PySem.W.Frag} {G G' : Hp} {p0 : Addr} {us : List V} {rs : List RowX} {n : Nat} (h : RowsXAt K G us rs) (hb : BoxAt G p0 n) (hk : ∀ b, b ≠ p0 → G' b = G b) : RowsXAt K G' us rs := by
  obtain ⟨x, y, z, hbx, _⟩ := hb
  refine h.mono fun b ys q => ?_
  have q' := noS (S := (· = p0)) (fun c w => ⟨[V.int x, V.int y, V.int z], by rw [show c = p0 from w]; exact hbx⟩) b ys q
  rw [← ms_eq (p := p0) hk] at q'
  exact upT ms_same q'
end T10
set_option Elab.async false
set_option linter.all false
set_option maxRecDepth 100000
set_option maxHeartbeats 4000000
namespace T10
open PySem PySem.Spec PyProof.Rows L2 Tp
section
variable {P : Program} {w : World} {K : PySem.W.Frag} {mg : Str → Option Value} {base : Heap} {f : Addr} {fd : FuncData}


def spLaw (K : PySem.W.Frag) : Sp := fun vs H Q _ => ∃ (a : Addr) (ns : List Int), vs = [.ref a] ∧ SqL K H a (ns.map V.int) ∧ ns.length ≤ 63 ∧ ∀ H', Q (.bl true) H'

abbrev sLaw : Stmt := top 65
abbrev nLaw : List Str := ["_law_script", "_law_index", "_law_bag_here", "_law_parts_here", "_law_net", "_law_rows", "_law_names_here", "_law_at", "_law_order", "_law_row"]
theorem scLaw : FnScope nLaw ["_law_script"] (defScope sLaw) := ⟨rfl, rfl, rfl, by decide +kernel, rfl, by decide +kernel, by decide +kernel⟩

theorem ok_Law {C : Addr} (F : Fun K "law" "law" sLaw f fd) (T : TxtL mg) (mx : mg "max" = none) (BG : Cg P w K mg base 1 "_law_bag" spBox) (CL : Cg P w K mg base 1 "_law_cell" (spCellT K)) (PT : Cg P w K mg base 4 "_law_parts" (spPartsD K)) (LE : Cg P w K mg base 1 "_law_edges" (spEdgesL K)) (TK : Cg P w K mg base 1 "_law_take" spTake) (RI : Cg P w K mg base 6 "_law_right" (spRightN K C)) (OD : Cg P w K mg base 7 "_law_odd_right" (spOddN K C)) (NI : Cm P w K mg base 7 "Net" C [] (spNet K C)) : FnG P w K mg base CX0 10 f fd ["_law_script"] (spLaw K) := by
  refine FunG.ok F scLaw (fun vs H Q E h => ?_) (fun cdv B out s H vs Q E hr hG h => ?_)
  · obtain ⟨a, ns, rfl, _⟩ := h
    rfl
  · obtain ⟨a, ns, rfl, hS, hl, q⟩ := h
    refine ⟨_, (pss_cons (ps_for PassesOwn.never rfl (pi_range1 (by rfl) T.range (pa_cons (pe_callB (call_max2 rfl) (by rfl) mx (by decide +kernel) (pa_cons pe_int (pa_cons (pe_callB (call_min2 rfl) (by rfl) T.min (by decide +kernel) (pa_cons pe_int (pa_cons (pe_callB call_len (by rfl) T.len PySem.boot_len (pa_cons (pv 0) pa_nil)) pa_nil))) pa_nil))) pa_nil)) (pg_name (i := 1) scLaw.nd rfl (Or.inl rfl)) (pss_cons (ps_set (i := 2) scLaw.nd rfl (.inl rfl) (pe_g BG hr hG (by decide) (by rfl) (pa_cons (pe_g CL hr hG (by decide) (by rfl) (pa_cons (pv 0) (pa_cons (pv 1) pa_nil))) pa_nil)))
        (C8.pss_cut (ps_set (i := 3) scLaw.nd rfl (.inl rfl) (pe_g PT hr hG (by decide) (by rfl) (pa_cons (pv 2) (pa_cons pe_int (pa_cons pe_int pa_nil)))))
        (C8.pss_cut (ps_set (i := 4) scLaw.nd rfl (.inl rfl) (pe_cm NI hr hG (by decide) (by rfl) (pa_cons (pe_ix ix_tup (pv 3) pe_int fun _ _ => rfl) (pa_cons (pe_ix ix_tup (pv 3) pe_int fun _ _ => rfl) (pa_cons (pe_ix ix_tup (pv 3) pe_int fun _ _ => rfl) (pa_cons (pe_ix ix_tup (pv 3) pe_int fun _ _ => rfl) pa_nil))))))
        (C8.pss_cut (ps_par (i := 5) (j := 6) rfl scLaw.nd rfl rfl (by decide) rfl rfl (pa_cons (pe_g LE hr hG (by decide) (by rfl) (pa_cons (pv 3) pa_nil)) (pa_cons (pe_op op_cat (pe_ix ix_tup (pv 3) pe_int fun _ _ => rfl) (pe_lc (own := [("_law_row", 9)]) (g := gName 9) (tt := tYes) rfl scLaw.nd (pi_seq (pe_ix ix_tup (pv 3) pe_int fun _ _ => rfl)) (blkOk_by (N := nLaw) (sc := defScope sLaw) (by decide +kernel)) (fun _ _ _ _ _ => pg_name (i := 9) scLaw.nd rfl (Or.inl rfl)) (fun _ _ _ _ _ => pts_nil) (fun _ _ _ _ _ => (pe_ix ((ix_listK (K := K) rfl).or (ix_tupK (K := K) rfl)) (pv 9) pe_int fun _ _ => rfl)))) pa_nil)) (by rfl))
        (C8.pss_cut (ps_set (i := 7) scLaw.nd rfl (.inl rfl) (pe_g TK hr hG (by decide) (by rfl) (pa_cons (pv 2) (pa_cons (pe_op op_add (pe_callB call_len (by rfl) T.len PySem.boot_len (pa_cons (pv 6) pa_nil)) pe_int) pa_nil))))
        (C8.pss_cut (ps_for PassesOwn.never rfl (pi_list (pe_lst (pa_cons (pv 6) (pa_cons (pe_op op_cat (pe_slice sl_list (pv 6) (po_some (pv 7)) po_none) (pe_slice sl_list (pv 6) po_none (po_some (pv 7)))) (pa_cons (pe_slStep (pv 6) (pe_un un_neg pe_int)) pa_nil))))) (pg_name (i := 8) scLaw.nd rfl (Or.inl rfl)) (pss_one (ps_if (pt_not (pt_val (pe_g RI hr hG (by decide) (by rfl) (pa_cons (pv 4) (pa_cons (pv 5) (pa_cons (pv 8) pa_nil)))))) (pss_one (ps_ret pe_bl)) pss_nil)))
        (pss_one (ps_if (pt_not (pt_val (pe_g OD hr hG (by decide) (by rfl) (pa_cons (pv 4) (pa_cons (pv 5) (pa_cons (pv 6) pa_nil)))))) (pss_one (ps_ret pe_bl)) pss_nil)))))))))
      (pss_one (ps_ret pe_bl))), ?_⟩
    have e8 := PySem.sizeLine_eq
    refine ⟨_, rfl, _, _, rfl, .inl ⟨_, hS, rfl⟩, _, _, rfl, _, _, rfl, ?_⟩
    obtain ⟨M, eM, hM1, hM2⟩ : ∃ M : Int, M = (if (if (((ns.map V.int).length : Nat) : Int) < 5 then (((ns.map V.int).length : Nat) : Int) else 5) > 2 then (if (((ns.map V.int).length : Nat) : Int) < 5 then (((ns.map V.int).length : Nat) : Int) else 5) else 2) ∧ 0 ≤ M ∧ M ≤ 5 := ⟨_, rfl, by split <;> omega, by split <;> (try split) <;> omega⟩
    rw [← eM]
    refine ⟨_, rfl, by omega, by omega, ?_⟩
    refine for_it (walk_range (lo := 0) (n := M.toNat)) (fun j σ G => Same H G ∧ ∃ (o1 o2 o3 o4 o5 o6 o7 o8 : Option V), σ = [some (.ref a), o1, o2, o3, o4, o5, o6, o7, o8, none]) ⟨Same.refl _, _, _, _, _, _, _, _, _, rfl⟩ (fun _ _ _ _ _ => trivial) ?_ ?_
    · rintro i x σ G0 G hi ⟨sm, o1, o2, o3, o4, o5, o6, o7, o8, rfl⟩ ⟨rfl, hx⟩
      dsimp only at hx
      rw [Int.zero_add] at hx
      subst hx
      dsimp only [gName]
      refine ⟨_, rfl, _, rfl, a, ns, i, rfl, upL sm hS, by omega, by omega, fun z => ⟨z, rfl, fun p0 G1 hp0 b1 kp1 => ?_⟩⟩
      have hpH : H p0 = none := Same.none sm hp0
      refine ⟨fun σ G2 => ∃ (t il : Addr) (y z u : V) (ins : List Str) (gs : List GateK) (os ts : List EdgeK), σ = [some (.ref a), some (.int (i : Nat)), some (.ref p0), some (.ref t), o4, o5, o6, o7, o8, none] ∧ Same H G2 ∧ BoxAt G2 p0 100000 ∧ SqT K (ms (· = p0) G2) t [.ref il, y, z, u] ∧ (ms (· = p0) G2) il = some (.lst (ins.map V.str)) ∧ NetD K (ms (· = p0) G2) (.ref il) y z u ins gs os ts ∧ NetOk ins gs os ts ∧ gs.length ≤ 8 ∧ 1 ≤ ins.length ∧ ins.length ≤ 4 ∧ os.length ≤ 4, ?_, ?_⟩
      · refine ⟨_, rfl, p0, 0, rfl, b1, by decide, fun t il y z u ins gs os ts G2 s2 b2 ht hil hD hO g8 i1 i4 o4 => ?_⟩
        refine ⟨t, il, y, z, u, ins, gs, os, ts, rfl, fun b o e => ?_, b2, ht, hil, hD, hO, g8, i1, i4, o4⟩
        have hb : b ≠ p0 := ne_of_none e hpH
        exact (ms_some (s2 b o (ms_at hb (kp1 b o hb (sm b o e))))).2
      clear b1 kp1 hp0 sm
      rintro σ G2 ⟨t, il, y, z, u, ins, gs, os, ts, rfl, kH2, b2, ht, hil, hD, hO, g8, i1, i4, ho4⟩
      have ht2 := upT ms_same ht
      refine ⟨fun σ G3 => ∃ (p : Addr) (f : Int → Int), σ = [some (.ref a), some (.int (i : Nat)), some (.ref p0), some (.ref t), some (.ref p), o5, o6, o7, o8, none] ∧ Same (ms (· = p0) G2) G3 ∧ BoxAt G3 p0 100000 ∧ NetAt K G3 C p ins (gs.map (mvG f)) (os.map (mvE f)), ?_, ?_⟩
      · refine ⟨_, rfl, t, _, _, _, rfl, rfl, ht2, atI_nat (j := 0) rfl, _, rfl, t, _, _, _, rfl, rfl, ht2, atI_nat (j := 1) rfl, _, rfl, t, _, _, _, rfl, rfl, ht2, atI_nat (j := 2) rfl, _, rfl, t, _, _, _, rfl, rfl, ht2, atI_nat (j := 3) rfl, ?_⟩
        intro p dp hp hdp hne
        have up0 : Same G2 (upd (upd G2 dp (.own p)) p (.ins C dp [])) := Same.tr (Same.put hdp) (Same.put ((upd_ne hne.symm).trans hp))
        exact ⟨ms (· = p0) G2, p, dp, .ref il, y, z, u, ins, gs, os, ts, rfl, upd_same, ms_nil hp, Same.tr ms_same up0, hD, hO, fun f G3 hN s3 kp3 => ⟨rfl, p, f, rfl, s3, by
          obtain ⟨x1, x2, x3, hbx, r⟩ := b2
          exact ⟨x1, x2, x3, kp3 p0 _ (ne_of_none hbx hp) (up0 _ _ hbx), r⟩, hN⟩⟩
      rintro σ G3 ⟨p, f, rfl, k3, b3, hN3⟩
      have hmv := mv_ok hO g8 ho4 f
      have ht3 := upT k3 ht
      have hD3 := hD.up k3
      have hil3 := k3 _ _ hil
      have hjl : (joinedE gs os).length ≤ 100 := by
        have := hmv.j
        rwa [joined_mv, List.length_map] at this
      refine ⟨fun σ G5 => ∃ (lr ln : Addr) (ur : List V), σ = [some (.ref a), some (.int (i : Nat)), some (.ref p0), some (.ref t), some (.ref p), some (.ref lr), some (.ref ln), o7, o8, none] ∧ Same G3 G5 ∧ G5 lr = some (.lst ur) ∧ lr ≠ p0 ∧ RowsXAt K G5 ur (rowsE gs os) ∧ G5 ln = some (.lst ((ins ++ gs.map (·.1)).map V.str)) ∧ ln ≠ p0, ?_, ?_⟩
      · refine ⟨_, rfl, t, .ref il, y, z, u, gs, os, rfl, ht3, hD3.g, hD3.o, (by omega), fun lr ur G4 s4 nl4 hl4 hR => ?_⟩
        obtain ⟨ya, yv, rfl, hya, hgp⟩ := hD3.g
        have kq := s4
        refine ⟨_, rfl, t, _, _, _, rfl, rfl, upT s4 ht3, atI_nat (j := 0) rfl, _, rfl, t, _, _, _, rfl, rfl, upT s4 ht3, atI_nat (j := 1) rfl, ya, rfl, seq_itK hya kq fun J S' wk hS' => fun D hD' => lc_it wk (fun j M => Same G4 M ∧ M D = some (.lst (((gs.take j).map (·.1)).map V.str))) ⟨Same.put hD', upd_same⟩ (fun j M _ h => hS' M (Same.tr kq h.1)) ?_ ?_⟩
        · rintro j v M' M'' hj ⟨kM, md⟩ ⟨rfl, hv⟩
          obtain ⟨g0, hg0, ga, gx, rfl, hga, _⟩ := Pd.at hgp hv
          have hgl := (List.getElem?_eq_some_iff.mp hg0).1
          refine ⟨rfl, _, rfl, ixA (hga.up (Same.tr kq kM)) (atI_nat (j := 0) rfl) ⟨_, md, (by rw [List.length_map, List.length_map, List.length_take]; omega), Same.at0 hD' kM, ?_⟩⟩
          rw [upd_same, tk_snoc hg0, List.map_append, List.map_append]
          rfl
        · rintro M' ⟨kM, md⟩
          rw [hgp.length, List.take_length] at md
          refine ⟨il, D, _, _, rfl, rfl, kM _ _ (s4 _ _ hil3), md, (by rw [List.length_map, List.length_map, List.length_map]; omega), fun ln hln => ⟨_, _, rfl, ?_⟩⟩
          have kl := Same.put (o := .lst (ins.map V.str ++ (gs.map (·.1)).map V.str)) hln
          have kk := Same.tr kM kl
          obtain ⟨x1, x2, x3, hbx, _⟩ := b3
          refine ⟨lr, ln, ur, rfl, Same.tr s4 kk, kk _ _ hl4, (ne_of_none hbx nl4).symm, hR.mono fun _ _ => upT kk, by rw [upd_same, List.map_append], ?_⟩
          exact (ne_of_none (kM _ _ (s4 _ _ hbx)) hln).symm
      rintro σ G5 ⟨lr, ln, ur, rfl, k5, hlr, nlr, hR, hln, nln⟩
      have hN5 := hN3.up k5
      have b5 := b3.keep k5
      have hnl : (ins ++ gs.map (·.1)).length ≤ 12 := by rw [List.length_append, List.length_map]; omega
      refine ⟨fun σ G6 => ∃ (at' : Int), σ = [some (.ref a), some (.int (i : Nat)), some (.ref p0), some (.ref t), some (.ref p), some (.ref lr), some (.ref ln), some (.int at'), o8, none] ∧ 0 ≤ at' ∧ Same H G6 ∧ NetAt K G6 C p ins (gs.map (mvG f)) (os.map (mvE f)) ∧ G6 lr = some (.lst ur) ∧ RowsXAt K G6 ur (rowsE gs os) ∧ G6 ln = some (.lst ((ins ++ gs.map (·.1)).map V.str)), ?_, ?_⟩
      · refine ⟨_, rfl, _, rfl, _, _, rfl, .inl ⟨_, SqL.of hln, rfl⟩, _, _, rfl, rfl, p0, _, _, rfl, b5, (by rw [List.length_map]; omega), (log_int (by omega) (by rw [List.length_map]; omega)), (by decide), fun at' G6 at0 at1 b6 hk6 => ?_⟩
        refine ⟨at', rfl, at0, fun b o e => ?_, hN5.draw b5 b6 hk6, (hk6 lr nlr).trans hlr, rows_draw hR b5 hk6, (hk6 ln nln).trans hln⟩
        have hb : b ≠ p0 := ne_of_none e hpH
        rw [hk6 b hb]
        exact k5 _ _ (k3 _ _ (ms_at hb (kH2 _ _ e)))
      clear hN5 b5 hlr hR hln
      rintro σ G6 ⟨at', rfl, at0, kH6, hN6, hlr, hR, hln⟩
      rw [← rowsE_mv f] at hR
      have hnames : (gs.map (mvG f)).map (·.1) = gs.map (·.1) := mv_names f gs
      have hin : ∀ n ∈ ins ++ gs.map (·.1), n ∈ ins ∨ n ∈ (gs.map (mvG f)).map (·.1) := fun n hn => by
        rw [hnames]
        exact List.mem_append.mp hn
      refine ⟨fun σ G8 => ∃ (o8 : Option V), σ = [some (.ref a), some (.int (i : Nat)), some (.ref p0), some (.ref t), some (.ref p), some (.ref lr), some (.ref ln), some (.int at'), o8, none] ∧ Same G6 G8, ?_, ?_⟩
      · refine ⟨_, rfl, _, rfl, _, rfl, _, rfl, ln, _, rfl, SqL.of hln, fun b1 h1 => ?_⟩
        rw [cut_from at0]
        have k1 := Same.put (o := .lst (((ins ++ gs.map (·.1)).map V.str).drop at'.toNat)) h1
        have a1 := upd_same (H := G6) (a := b1) (o := .lst (((ins ++ gs.map (·.1)).map V.str).drop at'.toNat))
        generalize upd G6 b1 (.lst (((ins ++ gs.map (·.1)).map V.str).drop at'.toNat)) = N1 at k1 a1 ⊢
        refine ⟨_, rfl, _, rfl, _, rfl, ln, _, rfl, SqL.of (k1 _ _ hln), fun b2 h2 => ?_⟩
        rw [cut_to at0]
        have k2 := Same.put (o := .lst (((ins ++ gs.map (·.1)).map V.str).take at'.toNat)) h2
        have a2 := upd_same (H := N1) (a := b2) (o := .lst (((ins ++ gs.map (·.1)).map V.str).take at'.toNat))
        have a12 := k2 _ _ a1
        have k12 := Same.tr k1 k2
        generalize upd N1 b2 (.lst (((ins ++ gs.map (·.1)).map V.str).take at'.toNat)) = N2 at a2 a12 k12 ⊢
        refine ⟨b1, b2, _, _, rfl, rfl, a12, a2, (by rw [List.length_drop, List.length_take, List.length_map]; omega), fun b3 h3 => ?_⟩
        have k3' := Same.put (o := .lst (((ins ++ gs.map (·.1)).map V.str).drop at'.toNat ++ ((ins ++ gs.map (·.1)).map V.str).take at'.toNat)) h3
        have a3 := upd_same (H := N2) (a := b3) (o := .lst (((ins ++ gs.map (·.1)).map V.str).drop at'.toNat ++ ((ins ++ gs.map (·.1)).map V.str).take at'.toNat))
        have k13 := Same.tr k12 k3'
        generalize upd N2 b3 (.lst (((ins ++ gs.map (·.1)).map V.str).drop at'.toNat ++ ((ins ++ gs.map (·.1)).map V.str).take at'.toNat)) = N3 at a3 k13 ⊢
        refine ⟨_, rfl, _, rfl, _, rfl, ln, _, _, rfl, rfl, SqL.of (k13 _ _ hln), .inr rfl, fun b4 h4 => ⟨(by show 3 ≤ sizeLine; decide), fun L hL => ?_⟩⟩
        have k4 := Same.put (o := .lst (stepV ((ins ++ gs.map (·.1)).map V.str) (-1))) h4
        have k5' := Same.put (o := .lst [V.ref ln, .ref b3, .ref b4]) hL
        have a4 := k5' _ _ (upd_same (H := N3) (a := b4) (o := .lst (stepV ((ins ++ gs.map (·.1)).map V.str) (-1))))
        have a3' := k5' _ _ (k4 _ _ a3)
        have kL := Same.tr k13 (Same.tr k4 k5')
        have aL : (upd (upd N3 b4 (.lst (stepV ((ins ++ gs.map (·.1)).map V.str) (-1)))) L (.lst [V.ref ln, .ref b3, .ref b4])) L = some (.lst [V.ref ln, .ref b3, .ref b4]) := upd_same
        generalize upd (upd N3 b4 (.lst (stepV ((ins ++ gs.map (·.1)).map V.str) (-1)))) L (.lst [V.ref ln, .ref b3, .ref b4]) = G7 at a4 a3' kL aL ⊢
        have hcl : ∀ v ∈ [V.ref ln, .ref b3, .ref b4], ∃ (l : Addr) (ms : List Str), v = .ref l ∧ G7 l = some (.lst (ms.map V.str)) ∧ ∀ n ∈ ms, n ∈ ins ++ gs.map (·.1) := fun v hv => by
          simp only [List.mem_cons, List.not_mem_nil, or_false] at hv
          rcases hv with rfl | rfl | rfl
          · exact ⟨ln, _, rfl, kL _ _ hln, fun n h => h⟩
          · refine ⟨b3, (ins ++ gs.map (·.1)).drop at'.toNat ++ (ins ++ gs.map (·.1)).take at'.toNat, rfl, ?_, fun n h => ?_⟩
            · rw [List.map_append, List.map_drop, List.map_take]
              exact a3'
            · rcases List.mem_append.mp h with z | z
              · exact List.mem_of_mem_drop z
              · exact List.mem_of_mem_take z
          · refine ⟨b4, (ins ++ gs.map (·.1)).reverse, rfl, ?_, fun n h => List.mem_reverse.mp h⟩
            rw [List.map_reverse]
            exact a4
        refine ⟨L, rfl, ⟨_, SqL.of aL⟩, for_it (walk_list (xs := [V.ref ln, .ref b3, .ref b4])) (fun j σ G8 => ∃ (o8 : Option V), σ = [some (.ref a), some (.int (i : Nat)), some (.ref p0), some (.ref t), some (.ref p), some (.ref lr), some (.ref ln), some (.int at'), o8, none] ∧ Same G7 G8) ⟨_, rfl, Same.refl _⟩ (fun j σ M _ ⟨_, _, kM⟩ => SqL.of (kM _ _ aL)) ?_ ?_⟩
        · rintro j v σ M M' hj ⟨o8, rfl, kM⟩ ⟨rfl, hv⟩
          obtain ⟨l, ms, rfl, hl7, hms⟩ := hcl v (List.mem_of_getElem? hv)
          have k6 := Same.tr kL kM
          refine ⟨_, rfl, _, rfl, _, rfl, p, lr, l, ins, gs.map (mvG f), os.map (mvE f), ur, ms, rfl, hN6.up k6, k6 _ _ hlr, hR.mono fun _ _ => upT k6, kM _ _ hl7, fun n hn => hin n (hms n hn), hmv.i, hmv.g, hmv.d, hmv.j, hmv.o, hmv.e, fun H' s' => ?_⟩
          exact ⟨_, rfl, iteF ⟨_, rfl, Same.tr kM s'⟩⟩
        · rintro σ M ⟨o8, rfl, kM⟩
          exact ⟨_, rfl, Same.tr kL kM⟩
      rintro σ G8 ⟨o8, rfl, k8⟩
      refine ⟨_, rfl, _, rfl, _, rfl, p, lr, ln, ins, gs.map (mvG f), os.map (mvE f), ur, ins ++ gs.map (·.1), rfl, hN6.up k8, k8 _ _ hlr, hR.mono fun _ _ => upT k8, k8 _ _ hln, by rw [hnames], by rw [List.length_append]; omega, by omega, fun n hn => ?_, hmv.d, hmv.j, hmv.o, hmv.e, fun H' s' => ?_⟩
      · exact hO.nm n hn
      · exact ⟨_, rfl, iteF ⟨Same.tr kH6 (Same.tr k8 s'), _, _, _, _, _, _, _, _, rfl⟩⟩
    · rintro σ G _
      exact q G

end
end T10
set_option Elab.async false
set_option linter.all false
set_option maxRecDepth 100000
set_option maxHeartbeats 4000000
namespace T10
open PySem PySem.Spec PyProof.Rows L2 Tp
abbrev sES : Stmt := inClass (top 11) 0
abbrev sEE : Stmt := inClass (top 13) 0
section
variable {P : Program} {w : World} {K : PySem.W.Frag} {mg : Str → Option Value} {base : Heap} {f : Addr} {fd : FuncData}
theorem scES : FnScope ["self", "name"] ["self", "name"] (defScope sES) := ⟨rfl, rfl, rfl, by decide +kernel, rfl, by decide +kernel, by decide +kernel⟩
theorem ok_ES {C : Addr} (F : Fun K "__init__" "UnknownSource.__init__" sES f fd) (T : ExK K C) (n0 : PySem.W.findIn K (.ref C) "name" = some none) : FnOk P w K mg base CX0 1 f fd ["self", "name"] (spI C ["name"]) := by
  exact F.ok scES (fun vs H Q E h => ini_len h) (fun cdv A outer s H vs Q E hr h => by
    obtain ⟨a, x, rfl, q⟩ := ini1 h
    exact ⟨_, PSs.nox (pss_one (ps_osx (pv 0) (pv 1))), _, rfl, _, rfl, q T n0⟩)
theorem scEE : FnScope ["self", "reader", "slot"] ["self", "reader", "slot"] (defScope sEE) := ⟨rfl, rfl, rfl, by decide +kernel, rfl, by decide +kernel, by decide +kernel⟩
theorem ok_EE {C : Addr} (F : Fun K "__init__" "UnknownEdge.__init__" sEE f fd) (T : ExK K C) (n0 : PySem.W.findIn K (.ref C) "reader" = some none) (n1 : PySem.W.findIn K (.ref C) "slot" = some none) : FnOk P w K mg base CX0 1 f fd ["self", "reader", "slot"] (spI C ["reader", "slot"]) := by
  exact F.ok scEE (fun vs H Q E h => ini_len h) (fun cdv A outer s H vs Q E hr h => by
    obtain ⟨a, x, y, rfl, q1⟩ := ini2 (by decide) h
    refine ⟨_, PSs.nox (pss_cons (ps_osx (pv 0) (pv 1)) (pss_one (ps_osx (pv 0) (pv 2)))), _, rfl, _, rfl, q1 T n0 n1 _ ?_⟩
    exact fun H2 x2 => ⟨_, rfl, _, rfl, x2⟩)
end
theorem xeB_ok {K : PySem.W.Frag} {CM CS CE : Addr} (h : xeB K CM CS CE = true) (xS : ExK K CS) (xE : ExK K CE) (fS : PySem.W.findIn K (.ref CS) "name" = some none) (fR : PySem.W.findIn K (.ref CE) "reader" = some none) (fT : PySem.W.findIn K (.ref CE) "slot" = some none) : TxtE K CM CS CE := by
  unfold xeB at h
  simp only [Bool.and_eq_true, decide_eq_true_eq] at h
  obtain ⟨h1, h2, h3, h4, h5⟩ := h
  exact ⟨xS, xE, h1, h2, h3, fS, fR, fT, h4, h5⟩
theorem ntB_ok {K : PySem.W.Frag} {C : Addr} (h : ntB K C = true) : PySem.W.kitOne K (.type "str") (.ref C) = some false ∧ PySem.W.subIn K (.ref C) (.type "str") = some false := by
  unfold ntB at h
  simp only [Bool.and_eq_true, decide_eq_true_eq] at h
  exact h
end T10
set_option Elab.async false
set_option linter.all false
set_option maxRecDepth 100000
set_option maxHeartbeats 8000000
namespace T10
open PySem PySem.Spec PyProof.Rows L2 Tp
theorem rel_int {mg : Str → Option Value} {x : Str} {i : Int} (h : ∃ t, mg x = some (.int i t)) : ∃ u, mg x = some u ∧ RelV (.int i) u := let ⟨t, e⟩ := h; ⟨_, e, t, rfl⟩
theorem rel_str {mg : Str → Option Value} {x z : Str} (h : ∃ t, mg x = some (.str z t)) : ∃ u, mg x = some u ∧ RelV (.str z) u := let ⟨t, e⟩ := h; ⟨_, e, t, rfl⟩
theorem all2 {l : PySem.W.OpenLaw} {w : World} {K : PySem.W.Frag} {h : Heap} {mg : Str → Option Value} {fa : Addr} (X : K.In h) (G : h.Ns mainGlobals mg) (hfa : mg "law" = some (.ref fa)) (cd : He.SaysD faL fnL K) (ex : exB K = true) :
    ∃ fd : FuncData, (∀ (s : Shared) (v : Value), BindsTo s fd ⟨[v], []⟩ [("_law_script", v)]) ∧ ∀ base : Heap, K.In base → base.Ns mainGlobals mg → FnG l.prog w K mg base CX0 10 fa fd ["_law_script"] (spLaw K) := by
  obtain ⟨fd_cell, D_cell⟩ := cd.def_ 0 (d := dfn "_law_cell" sCell) rfl
  have F_cell : Fun K "_law_cell" "_law_cell" sCell (He.ga K "_law_cell") fd_cell := fun_of D_cell
  have b_cell := F_cell.binds (ps := ["_law_script", "_law_index"]) fun _ _ _ _ _ _ us hl => match us, hl with | [_, _], _ => rfl
  obtain ⟨fd_box, D_box⟩ := cd.def_ 1 (d := dfn "_law_bag" sBox) rfl
  have F_box : Fun K "_law_bag" "_law_bag" sBox (He.ga K "_law_bag") fd_box := fun_of D_box
  have b_box := F_box.binds (ps := ["_law_cell_here"]) fun _ _ _ _ _ _ us hl => match us, hl with | [_], _ => rfl
  obtain ⟨fd_take, D_take⟩ := cd.def_ 2 (d := dfn "_law_take" sTake) rfl
  have F_take : Fun K "_law_take" "_law_take" sTake (He.ga K "_law_take") fd_take := fun_of D_take
  have b_take := F_take.binds (ps := ["_law_bag_here", "_law_many"]) fun _ _ _ _ _ _ us hl => match us, hl with | [_, _], _ => rfl
  obtain ⟨fd_lnames, D_lnames⟩ := cd.def_ 3 (d := dfn "_law_names" sNm) rfl
  have F_lnames : Fun K "_law_names" "_law_names" sNm (He.ga K "_law_names") fd_lnames := fun_of D_lnames
  have b_lnames := F_lnames.binds (ps := ["_law_bag_here", "_law_many"]) fun _ _ _ _ _ _ us hl => match us, hl with | [_, _], _ => rfl
  obtain ⟨fd_lplace, D_lplace⟩ := cd.def_ 4 (d := dfn "_law_place" sPc) rfl
  have F_lplace : Fun K "_law_place" "_law_place" sPc (He.ga K "_law_place") fd_lplace := fun_of D_lplace
  have b_lplace := F_lplace.binds (ps := ["_law_letter"]) fun _ _ _ _ _ _ us hl => match us, hl with | [_], _ => rfl
  obtain ⟨fd_lsyms, D_lsyms⟩ := cd.def_ 5 (d := dfn "_law_symbols" sSy) rfl
  have F_lsyms : Fun K "_law_symbols" "_law_symbols" sSy (He.ga K "_law_symbols") fd_lsyms := fun_of D_lsyms
  have b_lsyms := F_lsyms.binds (ps := ["_law_bag_here"]) fun _ _ _ _ _ _ us hl => match us, hl with | [_], _ => rfl
  obtain ⟨fd_lterms, D_lterms⟩ := cd.def_ 6 (d := dfn "_law_terms" sTe) rfl
  have F_lterms : Fun K "_law_terms" "_law_terms" sTe (He.ga K "_law_terms") fd_lterms := fun_of D_lterms
  have b_lterms := F_lterms.binds (ps := ["_law_bag_here", "_law_symbols_here", "_law_most"]) fun _ _ _ _ _ _ us hl => match us, hl with | [_, _, _], _ => rfl
  obtain ⟨fd_lstarts, D_lstarts⟩ := cd.def_ 7 (d := dfn "_law_starts" sSt) rfl
  have F_lstarts : Fun K "_law_starts" "_law_starts" sSt (He.ga K "_law_starts") fd_lstarts := fun_of D_lstarts
  have b_lstarts := F_lstarts.binds (ps := ["_law_bag_here", "_law_terms_here", "_law_pasts", "_law_source", "_law_delays", "_law_most"]) fun _ _ _ _ _ _ us hl => match us, hl with | [_, _, _, _, _, _], _ => rfl
  obtain ⟨fd_lparts, D_lparts⟩ := cd.def_ 8 (d := dfn "_law_parts" sPt) rfl
  have F_lparts : Fun K "_law_parts" "_law_parts" sPt (He.ga K "_law_parts") fd_lparts := fun_of D_lparts
  have b_lparts := F_lparts.binds (ps := ["_law_bag_here", "_law_most_gates", "_law_most_delays"]) fun _ _ _ _ _ _ us hl => match us, hl with | [_, _, _], _ => rfl
  obtain ⟨fd_ledges, D_ledges⟩ := cd.def_ 9 (d := dfn "_law_edges" sLe) rfl
  have F_ledges : Fun K "_law_edges" "_law_edges" sLe (He.ga K "_law_edges") fd_ledges := fun_of D_ledges
  have b_ledges := F_ledges.binds (ps := ["_law_parts_here"]) fun _ _ _ _ _ _ us hl => match us, hl with | [_], _ => rfl
  obtain ⟨fd_lcaught, D_lcaught⟩ := cd.def_ 10 (d := dfn "_law_caught" sKa) rfl
  have F_lcaught : Fun K "_law_caught" "_law_caught" sKa (He.ga K "_law_caught") fd_lcaught := fun_of D_lcaught
  have b_lcaught := F_lcaught.binds (ps := ["_law_door", "_law_net", "_law_one", "_law_other"]) fun _ _ _ _ _ _ us hl => match us, hl with | [_, _, _, _], _ => rfl
  obtain ⟨fd_lright, D_lright⟩ := cd.def_ 11 (d := dfn "_law_right" sRi) rfl
  have F_lright : Fun K "_law_right" "_law_right" sRi (He.ga K "_law_right") fd_lright := fun_of D_lright
  have b_lright := F_lright.binds (ps := ["_law_net", "_law_rows", "_law_names_here"]) fun _ _ _ _ _ _ us hl => match us, hl with | [_, _, _], _ => rfl
  obtain ⟨fd_lodd, D_lodd⟩ := cd.def_ 12 (d := dfn "_law_odd_right" sOd) rfl
  have F_lodd : Fun K "_law_odd_right" "_law_odd_right" sOd (He.ga K "_law_odd_right") fd_lodd := fun_of D_lodd
  have b_lodd := F_lodd.binds (ps := ["_law_net", "_law_rows", "_law_names_here"]) fun _ _ _ _ _ _ us hl => match us, hl with | [_, _, _], _ => rfl
  obtain ⟨fd_law, D_law⟩ := cd.def_ 13 (d := dfn "law" sLaw) rfl
  have F_law : Fun K "law" "law" sLaw (He.ga K "law") fd_law := fun_of D_law
  have b_law := F_law.binds (ps := ["_law_script"]) fun _ _ _ _ _ _ us hl => match us, hl with | [_], _ => rfl
  obtain ⟨fd_whole, D_whole⟩ := cd.def_ 14 (d := dfn "is_whole" sVw) rfl
  have F_whole : Fun K "is_whole" "is_whole" sVw (He.ga K "is_whole") fd_whole := fun_of D_whole
  have b_whole := F_whole.binds (ps := ["value"]) fun _ _ _ _ _ _ us hl => match us, hl with | [_], _ => rfl
  obtain ⟨fd_integer, D_integer⟩ := cd.def_ 15 (d := dfn "is_integer" sVi) rfl
  have F_integer : Fun K "is_integer" "is_integer" sVi (He.ga K "is_integer") fd_integer := fun_of D_integer
  have b_integer := F_integer.binds (ps := ["value", "low", "high"]) fun _ _ _ _ _ _ us hl => match us, hl with | [_, _, _], _ => rfl
  obtain ⟨fd_list, D_list⟩ := cd.def_ 16 (d := dfn "is_list" sVl) rfl
  have F_list : Fun K "is_list" "is_list" sVl (He.ga K "is_list") fd_list := fun_of D_list
  have b_list := F_list.binds (ps := ["value"]) fun _ _ _ _ _ _ us hl => match us, hl with | [_], _ => rfl
  obtain ⟨fd_name, D_name⟩ := cd.def_ 17 (d := dfn "is_name" sVn) rfl
  have F_name : Fun K "is_name" "is_name" sVn (He.ga K "is_name") fd_name := fun_of D_name
  have b_name := F_name.binds (ps := ["value"]) fun _ _ _ _ _ _ us hl => match us, hl with | [_], _ => rfl
  obtain ⟨fd_args, D_args⟩ := cd.def_ 18 (d := dfn "arguments_of" sBao) rfl
  have F_args : Fun K "arguments_of" "arguments_of" sBao (He.ga K "arguments_of") fd_args := fun_of D_args
  have b_args := F_args.binds (ps := ["row"]) fun _ _ _ _ _ _ us hl => match us, hl with | [_], _ => rfl
  obtain ⟨fd_moved, D_moved⟩ := cd.def_ 19 (d := dfn "moved_row" sMv) rfl
  have F_moved : Fun K "moved_row" "moved_row" sMv (He.ga K "moved_row") fd_moved := fun_of D_moved
  have b_moved := F_moved.binds (ps := ["row", "places"]) fun _ _ _ _ _ _ us hl => match us, hl with | [_, _], _ => rfl
  obtain ⟨fd_je, D_je⟩ := cd.def_ 20 (d := dfn "joined_edges" sJe) rfl
  have F_je : Fun K "joined_edges" "joined_edges" sJe (He.ga K "joined_edges") fd_je := fun_of D_je
  have b_je := F_je.binds (ps := ["gates", "outs"]) fun _ _ _ _ _ _ us hl => match us, hl with | [_, _], _ => rfl
  obtain ⟨fd_as, D_as⟩ := cd.def_ 21 (d := dfn "all_starts" sAs) rfl
  have F_as : Fun K "all_starts" "all_starts" sAs (He.ga K "all_starts") fd_as := fun_of D_as
  have b_as := F_as.binds (ps := ["gates", "outs"]) fun _ _ _ _ _ _ us hl => match us, hl with | [_, _], _ => rfl
  obtain ⟨fd_ds, D_ds⟩ := cd.def_ 22 (d := dfn "_direct_sources" sDs) rfl
  have F_ds : Fun K "_direct_sources" "_direct_sources" sDs (He.ga K "_direct_sources") fd_ds := fun_of D_ds
  have b_ds := F_ds.binds (ps := ["gates"]) fun _ _ _ _ _ _ us hl => match us, hl with | [_], _ => rfl
  obtain ⟨fd_sp, D_sp⟩ := cd.def_ 23 (d := dfn "_spread" sSp) rfl
  have F_sp : Fun K "_spread" "_spread" sSp (He.ga K "_spread") fd_sp := fun_of D_sp
  have b_sp := F_sp.binds (ps := ["names", "following"]) fun _ _ _ _ _ _ us hl => match us, hl with | [_, _], _ => rfl
  obtain ⟨fd_wo, D_wo⟩ := cd.def_ 24 (d := dfn "working_order" sWo) rfl
  have F_wo : Fun K "working_order" "working_order" sWo (He.ga K "working_order") fd_wo := fun_of D_wo
  have b_wo := F_wo.binds (ps := ["gates"]) fun _ _ _ _ _ _ us hl => match us, hl with | [_], _ => rfl
  obtain ⟨fd_rg, D_rg⟩ := cd.def_ 25 (d := dfn "ring_without_delay" sRg) rfl
  have F_rg : Fun K "ring_without_delay" "ring_without_delay" sRg (He.ga K "ring_without_delay") fd_rg := fun_of D_rg
  have b_rg := F_rg.binds (ps := ["gates"]) fun _ _ _ _ _ _ us hl => match us, hl with | [_], _ => rfl
  obtain ⟨fd_ew, D_ew⟩ := cd.def_ 26 (d := dfn "ends_of_ways" sEw) rfl
  have F_ew : Fun K "ends_of_ways" "ends_of_ways" sEw (He.ga K "ends_of_ways") fd_ew := fun_of D_ew
  have b_ew := F_ew.binds (ps := ["inputs", "gates"]) fun _ _ _ _ _ _ us hl => match us, hl with | [_, _], _ => rfl
  obtain ⟨fd_bw, D_bw⟩ := cd.def_ 27 (d := dfn "beginnings_of_ways" sBw) rfl
  have F_bw : Fun K "beginnings_of_ways" "beginnings_of_ways" sBw (He.ga K "beginnings_of_ways") fd_bw := fun_of D_bw
  have b_bw := F_bw.binds (ps := ["gates", "outs"]) fun _ _ _ _ _ _ us hl => match us, hl with | [_, _], _ => rfl
  obtain ⟨fd_tn, D_tn⟩ := cd.def_ 28 (d := dfn "_take_name" sTn) rfl
  have F_tn : Fun K "_take_name" "_take_name" sTn (He.ga K "_take_name") fd_tn := fun_of D_tn
  have b_tn := F_tn.binds (ps := ["value", "names"]) fun _ _ _ _ _ _ us hl => match us, hl with | [_, _], _ => rfl
  obtain ⟨fd_ci, D_ci⟩ := cd.def_ 29 (d := dfn "_check_inputs" sCi) rfl
  have F_ci : Fun K "_check_inputs" "_check_inputs" sCi (He.ga K "_check_inputs") fd_ci := fun_of D_ci
  have b_ci := F_ci.binds (ps := ["inputs", "names"]) fun _ _ _ _ _ _ us hl => match us, hl with | [_, _], _ => rfl
  obtain ⟨fd_cg, D_cg⟩ := cd.def_ 30 (d := dfn "_check_gates" sCg) rfl
  have F_cg : Fun K "_check_gates" "_check_gates" sCg (He.ga K "_check_gates") fd_cg := fun_of D_cg
  have b_cg := F_cg.binds (ps := ["gates", "names"]) fun _ _ _ _ _ _ us hl => match us, hl with | [_, _], _ => rfl
  obtain ⟨fd_ai, D_ai⟩ := cd.def_ 31 (d := dfn "_are_indices" sAi) rfl
  have F_ai : Fun K "_are_indices" "_are_indices" sAi (He.ga K "_are_indices") fd_ai := fun_of D_ai
  have b_ai := F_ai.binds (ps := ["values", "count"]) fun _ _ _ _ _ _ us hl => match us, hl with | [_, _], _ => rfl
  obtain ⟨fd_ct, D_ct⟩ := cd.def_ 32 (d := dfn "check_terms" sCt) rfl
  have F_ct : Fun K "check_terms" "check_terms" sCt (He.ga K "check_terms") fd_ct := fun_of D_ct
  have b_ct := F_ct.binds (ps := ["terms"]) fun _ _ _ _ _ _ us hl => match us, hl with | [_], _ => rfl
  obtain ⟨fd_ce, D_ce⟩ := cd.def_ 33 (d := dfn "_check_edge" sCe) rfl
  have F_ce : Fun K "_check_edge" "_check_edge" sCe (He.ga K "_check_edge") fd_ce := fun_of D_ce
  have b_ce := F_ce.binds (ps := ["item", "names", "count"]) fun _ _ _ _ _ _ us hl => match us, hl with | [_, _, _], _ => rfl
  obtain ⟨fd_cs, D_cs⟩ := cd.def_ 34 (d := dfn "_check_edges" sCs) rfl
  have F_cs : Fun K "_check_edges" "_check_edges" sCs (He.ga K "_check_edges") fd_cs := fun_of D_cs
  have b_cs := F_cs.binds (ps := ["gates", "outs", "names", "count"]) fun _ _ _ _ _ _ us hl => match us, hl with | [_, _, _, _], _ => rfl
  obtain ⟨fd_cw, D_cw⟩ := cd.def_ 35 (d := dfn "_check_ways" sCw) rfl
  have F_cw : Fun K "_check_ways" "_check_ways" sCw (He.ga K "_check_ways") fd_cw := fun_of D_cw
  have b_cw := F_cw.binds (ps := ["inputs", "gates", "outs"]) fun _ _ _ _ _ _ us hl => match us, hl with | [_, _, _], _ => rfl
  obtain ⟨fd_ke, D_ke⟩ := cd.def_ 36 (d := dfn "_kept_edges" sKe) rfl
  have F_ke : Fun K "_kept_edges" "_kept_edges" sKe (He.ga K "_kept_edges") fd_ke := fun_of D_ke
  have b_ke := F_ke.binds (ps := ["edges", "moved"]) fun _ _ _ _ _ _ us hl => match us, hl with | [_, _], _ => rfl
  obtain ⟨fd_cp, D_cp⟩ := cd.def_ 37 (d := dfn "check_parts" sCp) rfl
  have F_cp : Fun K "check_parts" "check_parts" sCp (He.ga K "check_parts") fd_cp := fun_of D_cp
  have b_cp := F_cp.binds (ps := ["inputs", "gates", "outs", "terms"]) fun _ _ _ _ _ _ us hl => match us, hl with | [_, _, _, _], _ => rfl
  obtain ⟨fd_tti, D_tti⟩ := cd.def_ 38 (d := dmt "TermTable" "__init__" "TermTable.__init__" sTi) rfl
  have F_tti : Fun K "__init__" "TermTable.__init__" sTi (He.fAd K ("TermTable", some "__init__")) fd_tti := fun_of D_tti
  have b_tti := F_tti.binds (ps := ["self"]) fun _ _ _ _ _ _ us hl => match us, hl with | [_], _ => rfl
  obtain ⟨fd_tten, D_tten⟩ := cd.def_ 39 (d := dmt "TermTable" "enter" "TermTable.enter" sEn) rfl
  have F_tten : Fun K "enter" "TermTable.enter" sEn (He.fAd K ("TermTable", some "enter")) fd_tten := fun_of D_tten
  have b_tten := F_tten.binds (ps := ["self", "row"]) fun _ _ _ _ _ _ us hl => match us, hl with | [_, _], _ => rfl
  obtain ⟨fd_tte, D_tte⟩ := cd.def_ 40 (d := dmt "TermTable" "enter_terms" "TermTable.enter_terms" sEt) rfl
  have F_tte : Fun K "enter_terms" "TermTable.enter_terms" sEt (He.fAd K ("TermTable", some "enter_terms")) fd_tte := fun_of D_tte
  have b_tte := F_tte.binds (ps := ["self", "terms"]) fun _ _ _ _ _ _ us hl => match us, hl with | [_, _], _ => rfl
  obtain ⟨fd_ttu, D_ttu⟩ := cd.def_ 41 (d := dmt "TermTable" "used" "TermTable.used" sUs) rfl
  have F_ttu : Fun K "used" "TermTable.used" sUs (He.fAd K ("TermTable", some "used")) fd_ttu := fun_of D_ttu
  have b_ttu := F_ttu.binds (ps := ["self", "numbers"]) fun _ _ _ _ _ _ us hl => match us, hl with | [_, _], _ => rfl
  obtain ⟨fd_nn, D_nn⟩ := cd.def_ 42 (d := dmt "Net" "__init__" "Net.__init__" sNi [.adr (He.dflAt ("Net", some "__init__") 0)]) rfl
  have F_nn : FunD K "__init__" "Net.__init__" (defArgs sNi) (defBody sNi) (defScope sNi) [.ref (He.dflAt ("Net", some "__init__") 0 K)] [] (He.fAd K ("Net", some "__init__")) fd_nn := D_nn
  obtain ⟨ds_nn, v_nn, b_nn⟩ := F_nn.binds1 (ps := ["self", "inputs", "gates", "outs", "terms"]) 4 0 (List.cons_ne_nil _ _) rfl fun T kV doc pm an cdv ct us its h1 h2 => match us, its, h1, h2 with | [_, _, _, _], [_], _, _ => ⟨_, rfl, rfl⟩
  obtain ⟨ds_n2, v_n2, b_n2⟩ := F_nn.binds1 (ps := ["self", "inputs", "gates", "outs", "terms"]) 5 1 (List.cons_ne_nil _ _) rfl fun T kV doc pm an cdv ct us its h1 h2 => match us, its, h1, h2 with | [_, _, _, _, _], [_], _, _ => ⟨_, rfl, rfl⟩
  obtain ⟨fd_nhg, D_nhg⟩ := cd.def_ 43 (d := dmt "Net" "has_gate" "Net.has_gate" sHg) rfl
  have F_nhg : Fun K "has_gate" "Net.has_gate" sHg (He.fAd K ("Net", some "has_gate")) fd_nhg := fun_of D_nhg
  have b_nhg := F_nhg.binds (ps := ["self", "name"]) fun _ _ _ _ _ _ us hl => match us, hl with | [_, _], _ => rfl
  obtain ⟨fd_neq, D_neq⟩ := cd.def_ 44 (d := dmt "Net" "__eq__" "Net.__eq__" sQs) rfl
  have F_neq : Fun K "__eq__" "Net.__eq__" sQs (He.fAd K ("Net", some "__eq__")) fd_neq := fun_of D_neq
  have b_neq := F_neq.binds (ps := ["self", "other"]) fun _ _ _ _ _ _ us hl => match us, hl with | [_, _], _ => rfl
  obtain ⟨fd_ncn, D_ncn⟩ := cd.def_ 45 (d := dmt "Net" "__contains__" "Net.__contains__" sCn) rfl
  have F_ncn : Fun K "__contains__" "Net.__contains__" sCn (He.fAd K ("Net", some "__contains__")) fd_ncn := fun_of D_ncn
  have b_ncn := F_ncn.binds (ps := ["self", "value"]) fun _ _ _ _ _ _ us hl => match us, hl with | [_, _], _ => rfl
  obtain ⟨fd_nto, D_nto⟩ := cd.def_ 46 (d := dmt "Net" "_edges_to" "Net._edges_to" sTo) rfl
  have F_nto : Fun K "_edges_to" "Net._edges_to" sTo (He.fAd K ("Net", some "_edges_to")) fd_nto := fun_of D_nto
  have b_nto := F_nto.binds (ps := ["self", "reader"]) fun _ _ _ _ _ _ us hl => match us, hl with | [_, _], _ => rfl
  obtain ⟨fd_neg, D_neg⟩ := cd.def_ 47 (d := dmt "Net" "_edge" "Net._edge" sEg) rfl
  have F_neg : Fun K "_edge" "Net._edge" sEg (He.fAd K ("Net", some "_edge")) fd_neg := fun_of D_neg
  have b_neg := F_neg.binds (ps := ["self", "reader", "slot"]) fun _ _ _ _ _ _ us hl => match us, hl with | [_, _, _], _ => rfl
  obtain ⟨fd_ndl, D_ndl⟩ := cd.def_ 48 (d := dmt "Net" "delays" "Net.delays" sDl) rfl
  have F_ndl : Fun K "delays" "Net.delays" sDl (He.fAd K ("Net", some "delays")) fd_ndl := fun_of D_ndl
  have b_ndl := F_ndl.binds (ps := ["self", "reader", "slot"]) fun _ _ _ _ _ _ us hl => match us, hl with | [_, _, _], _ => rfl
  obtain ⟨fd_nsr, D_nsr⟩ := cd.def_ 49 (d := dmt "Net" "source" "Net.source" sSr) rfl
  have F_nsr : Fun K "source" "Net.source" sSr (He.fAd K ("Net", some "source")) fd_nsr := fun_of D_nsr
  have b_nsr := F_nsr.binds (ps := ["self", "reader", "slot"]) fun _ _ _ _ _ _ us hl => match us, hl with | [_, _, _], _ => rfl
  obtain ⟨fd_nrd, D_nrd⟩ := cd.def_ 50 (d := dmt "Net" "readers" "Net.readers" sRd) rfl
  have F_nrd : Fun K "readers" "Net.readers" sRd (He.fAd K ("Net", some "readers")) fd_nrd := fun_of D_nrd
  have b_nrd := F_nrd.binds (ps := ["self", "name"]) fun _ _ _ _ _ _ us hl => match us, hl with | [_, _], _ => rfl
  obtain ⟨fd_eS, D_eS⟩ := cd.def_ 51 (d := dmt "UnknownSource" "__init__" "UnknownSource.__init__" sES) rfl
  have F_eS : Fun K "__init__" "UnknownSource.__init__" sES (He.fAd K ("UnknownSource", some "__init__")) fd_eS := fun_of D_eS
  have b_eS := F_eS.binds (ps := ["self", "name"]) fun _ _ _ _ _ _ us hl => match us, hl with | [_, _], _ => rfl
  obtain ⟨fd_eE, D_eE⟩ := cd.def_ 52 (d := dmt "UnknownEdge" "__init__" "UnknownEdge.__init__" sEE) rfl
  have F_eE : Fun K "__init__" "UnknownEdge.__init__" sEE (He.fAd K ("UnknownEdge", some "__init__")) fd_eE := fun_of D_eE
  have b_eE := F_eE.binds (ps := ["self", "reader", "slot"]) fun _ _ _ _ _ _ us hl => match us, hl with | [_, _, _], _ => rfl
  have e := hfa.symm.trans (He.glo_ok X G (cd.fact 83 (f := .glo "law") rfl))
  cases e
  unfold exB at ex
  simp only [Bool.and_eq_true] at ex
  obtain ⟨x_gl, x_sm, x_emN, x_insN, x_nt, x_eS, x_eE, x_xe⟩ := ex
  refine ⟨fd_law, fun s v => ?_, fun base _ _ => ?_⟩
  · obtain ⟨oc, od, kV, doc, pm, an, cdv, ct, osl, rfl, lk, hcd⟩ := F_law.ex
    exact .of_eq rfl
  · have S := smB_ok x_sm
    have TV : TxtV mg := ⟨He.free_ok X G (cd.fact 0 (f := .free "isinstance") rfl), He.free_ok X G (cd.fact 1 (f := .free "int") rfl), He.free_ok X G (cd.fact 2 (f := .free "bool") rfl), He.free_ok X G (cd.fact 3 (f := .free "str") rfl), He.free_ok X G (cd.fact 4 (f := .free "list") rfl), He.free_ok X G (cd.fact 5 (f := .free "tuple") rfl), He.free_ok X G (cd.fact 6 (f := .free "len") rfl), He.free_ok X G (cd.fact 7 (f := .free "all") rfl), He.free_ok X G (cd.fact 8 (f := .free "enumerate") rfl), rel_str (He.str_ok X G (cd.fact 9 (f := .str "LETTERS" "abcdefghijklmnopqrstuvwxyz") rfl)), rel_str (He.str_ok X G (cd.fact 10 (f := .str "DIGITS" "0123456789") rfl)), rel_int (He.int_ok X G (cd.fact 11 (f := .int "LONGEST_NAME" 8) rfl)), rel_int (He.int_ok X G (cd.fact 12 (f := .int "MOST_ARGUMENTS" 3) rfl))⟩
    have TL : TxtL mg := ⟨He.free_ok X G (cd.fact 13 (f := .free "range") rfl), He.free_ok X G (cd.fact 6 (f := .free "len") rfl), He.free_ok X G (cd.fact 14 (f := .free "min") rfl), He.free_ok X G (cd.fact 3 (f := .free "str") rfl), He.free_ok X G (cd.fact 5 (f := .free "tuple") rfl), He.free_ok X G (cd.fact 8 (f := .free "enumerate") rfl), He.free_ok X G (cd.fact 15 (f := .free "zip") rfl), He.free_ok X G (cd.fact 1 (f := .free "int") rfl)⟩
    have TN : TxtN mg := ⟨He.free_ok X G (cd.fact 4 (f := .free "list") rfl), He.free_ok X G (cd.fact 6 (f := .free "len") rfl), He.free_ok X G (cd.fact 8 (f := .free "enumerate") rfl), He.free_ok X G (cd.fact 5 (f := .free "tuple") rfl)⟩
    have TR : TxtR mg := ⟨He.free_ok X G (cd.fact 16 (f := .free "repr") rfl)⟩
    have tNt : TxtNt K (He.ga K "Net") := ⟨He.cls_ok (cd.fact 17 (f := .cls "Net") rfl), fun f hf => by
      simp only [List.mem_cons, List.not_mem_nil, or_false] at hf
      rcases hf with rfl | rfl | rfl | rfl | rfl | rfl
      · exact He.noat_ok (cd.fact 18 (f := .noat "Net" "_terms") rfl)
      · exact He.noat_ok (cd.fact 19 (f := .noat "Net" "_inputs") rfl)
      · exact He.noat_ok (cd.fact 20 (f := .noat "Net" "_names") rfl)
      · exact He.noat_ok (cd.fact 21 (f := .noat "Net" "_symbols") rfl)
      · exact He.noat_ok (cd.fact 22 (f := .noat "Net" "_edges") rfl)
      · exact He.noat_ok (cd.fact 23 (f := .noat "Net" "_outs") rfl)⟩
    have iN := insB_ok x_gl tNt.cl x_insN
    obtain ⟨hk, hno⟩ := ntB_ok x_nt
    have eS := excB_ok x_gl x_eS
    have eE := excB_ok x_gl x_eE
    have TE : TxtE K (He.ga K "MissingError") (He.ga K "UnknownSource") (He.ga K "UnknownEdge") := xeB_ok x_xe eS.ex eE.ex (eS.no _ (by simp)) (eE.no _ (by simp)) (eE.no _ (by simp))
    have XS : Cx1 l.prog w K mg base "UnknownSource" (He.ga K "UnknownSource") 1 [] (spI (He.ga K "UnknownSource") ["name"]) (fun vs _ => vs) := ⟨⟨_, _, _, _, eS.ex, He.glo_ok X G (cd.fact 24 (f := .glo "UnknownSource") rfl), eS.ini, eS.fn, ok_ES F_eS eS.ex (eS.no _ (by simp)), kb_of F_eS (fun _ _ _ _ _ _ us ws l1 l2 => match us, ws, l1, l2 with | [_, _], [], _, _ => rfl) (g := fun us _ => us) fun r1 r2 => r1⟩⟩
    have XE : Cx1 l.prog w K mg base "UnknownEdge" (He.ga K "UnknownEdge") 2 [] (spI (He.ga K "UnknownEdge") ["reader", "slot"]) (fun vs _ => vs) := ⟨⟨_, _, _, _, eE.ex, He.glo_ok X G (cd.fact 25 (f := .glo "UnknownEdge") rfl), eE.ini, eE.fn, ok_EE F_eE eE.ex (eE.no _ (by simp)) (eE.no _ (by simp)), kb_of F_eE (fun _ _ _ _ _ _ us ws l1 l2 => match us, ws, l1, l2 with | [_, _, _], [], _, _ => rfl) (g := fun us _ => us) fun r1 r2 => r1⟩⟩
    have cW : Cg l.prog w K mg base 1 "is_whole" (spWhole K) := .mk' F_whole (ok_whole F_whole TV) (He.glo_ok X G (cd.fact 26 (f := .glo "is_whole") rfl)) b_whole
    have cI : Cg l.prog w K mg base 2 "is_integer" (spInteger K) := .mk' F_integer (ok_integer F_integer cW) (He.glo_ok X G (cd.fact 27 (f := .glo "is_integer") rfl)) b_integer
    have cL : Cg l.prog w K mg base 1 "is_list" (spList K) := .mk' F_list (ok_list F_list TV) (He.glo_ok X G (cd.fact 28 (f := .glo "is_list") rfl)) b_list
    have cN : Cg l.prog w K mg base 1 "is_name" (spName K) := .mk' F_name (ok_name F_name TV) (He.glo_ok X G (cd.fact 29 (f := .glo "is_name") rfl)) b_name
    have cA : Cg l.prog w K mg base 2 "arguments_of" (spArgs K) := .mk' F_args (ok_args F_args cL) (He.glo_ok X G (cd.fact 30 (f := .glo "arguments_of") rfl)) b_args
    have cV : Cg l.prog w K mg base 2 "moved_row" (spMoved K) := .mk' F_moved (ok_moved F_moved TV cL) (He.glo_ok X G (cd.fact 31 (f := .glo "moved_row") rfl)) b_moved
    have c_je : Cg l.prog w K mg base 1 "joined_edges" (spJoin K) := .mk' F_je (ok_Je F_je TN) (He.glo_ok X G (cd.fact 32 (f := .glo "joined_edges") rfl)) b_je
    have c_as : Cg l.prog w K mg base 2 "all_starts" (spStarts K) := .mk' F_as (ok_As F_as c_je) (He.glo_ok X G (cd.fact 33 (f := .glo "all_starts") rfl)) b_as
    have c_ds : Cg l.prog w K mg base 1 "_direct_sources" (spDir K) := .mk' F_ds (ok_Ds F_ds) (He.glo_ok X G (cd.fact 34 (f := .glo "_direct_sources") rfl)) b_ds
    have c_sp : Cg l.prog w K mg base 1 "_spread" (spSpread K) := .mk' F_sp (ok_Sp F_sp TN) (He.glo_ok X G (cd.fact 35 (f := .glo "_spread") rfl)) b_sp
    have c_wo : Cg l.prog w K mg base 2 "working_order" (spWork K) := .mk' F_wo (ok_Wo F_wo TN TV c_ds) (He.glo_ok X G (cd.fact 36 (f := .glo "working_order") rfl)) b_wo
    have c_rg : Cg l.prog w K mg base 3 "ring_without_delay" (spRing K) := .mk' F_rg (ok_Rg F_rg c_wo) (He.glo_ok X G (cd.fact 37 (f := .glo "ring_without_delay") rfl)) b_rg
    have c_ew : Cg l.prog w K mg base 2 "ends_of_ways" (spEnds K) := .mk' F_ew (ok_Ew F_ew c_sp) (He.glo_ok X G (cd.fact 38 (f := .glo "ends_of_ways") rfl)) b_ew
    have c_bw : Cg l.prog w K mg base 2 "beginnings_of_ways" (spBegs K) := .mk' F_bw (ok_Bw F_bw c_sp) (He.glo_ok X G (cd.fact 39 (f := .glo "beginnings_of_ways") rfl)) b_bw
    have c_tn : Cg l.prog w K mg base 2 "_take_name" (spTakeN K) := .mk' F_tn (ok_Tn F_tn cN) (He.glo_ok X G (cd.fact 40 (f := .glo "_take_name") rfl)) b_tn
    have c_ci : Cg l.prog w K mg base 3 "_check_inputs" (spInsN K) := .mk' F_ci (ok_Ci F_ci c_tn) (He.glo_ok X G (cd.fact 41 (f := .glo "_check_inputs") rfl)) b_ci
    have c_cg : Cg l.prog w K mg base 3 "_check_gates" (spGatN K) := .mk' F_cg (ok_Cg F_cg TV cL cN c_tn) (He.glo_ok X G (cd.fact 42 (f := .glo "_check_gates") rfl)) b_cg
    have c_ai : Cg l.prog w K mg base 3 "_are_indices" (spInd K) := .mk' F_ai (ok_Ai F_ai TV cI) (He.glo_ok X G (cd.fact 43 (f := .glo "_are_indices") rfl)) b_ai
    have c_ct : Cg l.prog w K mg base 4 "check_terms" (spCkT K) := .mk' F_ct (ok_Ct F_ct TV cL cN c_ai) (He.glo_ok X G (cd.fact 44 (f := .glo "check_terms") rfl)) b_ct
    have c_ce : Cg l.prog w K mg base 4 "_check_edge" (spCkE K) := .mk' F_ce (ok_Ce F_ce TV cL cN c_ai) (He.glo_ok X G (cd.fact 45 (f := .glo "_check_edge") rfl)) b_ce
    have c_cs : Cg l.prog w K mg base 5 "_check_edges" (spCkEs K) := .mk' F_cs (ok_Cs F_cs c_ce) (He.glo_ok X G (cd.fact 46 (f := .glo "_check_edges") rfl)) b_cs
    have c_cw : Cg l.prog w K mg base 4 "_check_ways" (spWays K) := .mk' F_cw (ok_Cw F_cw c_rg c_ew c_bw) (He.glo_ok X G (cd.fact 47 (f := .glo "_check_ways") rfl)) b_cw
    have c_ke : Cg l.prog w K mg base 1 "_kept_edges" (spKept K) := .mk' F_ke (ok_Ke F_ke TN.tuple) (He.glo_ok X G (cd.fact 48 (f := .glo "_kept_edges") rfl)) b_ke
    have c_cp : Cg l.prog w K mg base 6 "check_parts" (spParts K) := .mk' F_cp (ok_Cp F_cp TV cL c_ci c_cg c_ct c_cs c_cw) (He.glo_ok X G (cd.fact 49 (f := .glo "check_parts") rfl)) b_cp
    have tT : TxtTt K (He.ga K "TermTable") := ⟨He.cls_ok (cd.fact 50 (f := .cls "TermTable") rfl), He.noat_ok (cd.fact 51 (f := .noat "TermTable" "_listed") rfl), He.noat_ok (cd.fact 52 (f := .noat "TermTable" "_places") rfl)⟩
    have mTt : Cm l.prog w K mg base 1 "TermTable" (He.ga K "TermTable") [] (spTab l.prog w (He.ga K "TermTable")) := ⟨⟨_, _, _, _, He.mkr_ok (cd.fact 53 (f := .mkr "TermTable") rfl), ok_Ti F_tti tT, He.glo_ok X G (cd.fact 54 (f := .glo "TermTable") rfl), b_tti, .nil⟩⟩
    have mTn : Ct l.prog w K mg base 1 (He.ga K "TermTable") "enter" [] (spEnter l.prog w K (He.ga K "TermTable")) := ⟨⟨_, _, _, _, tT.cl, He.meth_ok (cd.fact 55 (f := .meth "TermTable" "enter") rfl), ok_En F_tten tT TV, b_tten, .nil⟩⟩
    have mTe : Ct l.prog w K mg base 2 (He.ga K "TermTable") "enter_terms" [] (spEnterT l.prog w K (He.ga K "TermTable")) := ⟨⟨_, _, _, _, tT.cl, He.meth_ok (cd.fact 56 (f := .meth "TermTable" "enter_terms") rfl), ok_Et F_tte tT TN.tuple mTn, b_tte, .nil⟩⟩
    have mTu : Ct l.prog w K mg base 3 (He.ga K "TermTable") "used" [] (spUsed l.prog w K (He.ga K "TermTable")) := ⟨⟨_, _, _, _, tT.cl, He.meth_ok (cd.fact 57 (f := .meth "TermTable" "used") rfl), ok_Us F_ttu tT TV cA cV, b_ttu, .nil⟩⟩
    have mN : Cm l.prog w K mg base 7 "Net" (He.ga K "Net") [] (spNet K (He.ga K "Net")) := ⟨⟨_, _, _, _, He.mkr_ok (cd.fact 58 (f := .mkr "Net") rfl), ok_Ni F_nn tNt TN c_cp mTt mTe mTu c_as c_ke, He.glo_ok X G (cd.fact 59 (f := .glo "Net") rfl), b_n2, v_n2⟩⟩
    have nHg : Ct l.prog w K mg base 2 (He.ga K "Net") "has_gate" [] (spHasG K (He.ga K "Net")) := ⟨⟨_, _, _, _, tNt.cl, He.meth_ok (cd.fact 60 (f := .meth "Net" "has_gate") rfl), ok_Hg F_nhg tNt cN, b_nhg, .nil⟩⟩
    have nEq : Ct l.prog w K mg base 1 (He.ga K "Net") "__eq__" [] (spEqS) := ⟨⟨_, _, _, _, tNt.cl, He.meth_ok (cd.fact 61 (f := .meth "Net" "__eq__") rfl), ok_Qs F_neq TV.isinstance (He.glo_ok X G (cd.fact 59 (f := .glo "Net") rfl)) hk, b_neq, .nil⟩⟩
    have nCn : Ct l.prog w K mg base 3 (He.ga K "Net") "__contains__" [] (spIn K (He.ga K "Net")) := ⟨⟨_, _, _, _, tNt.cl, He.meth_ok (cd.fact 62 (f := .meth "Net" "__contains__") rfl), ok_Cn F_ncn tNt S hno nEq nHg, b_ncn, .nil⟩⟩
    have nTo : Ct l.prog w K mg base 3 (He.ga K "Net") "_edges_to" [] (spTo K (He.ga K "Net")) := ⟨⟨_, _, _, _, tNt.cl, He.meth_ok (cd.fact 63 (f := .meth "Net" "_edges_to") rfl), ok_To F_nto tNt TN cI nHg, b_nto, .nil⟩⟩
    have nEg : Ctr l.prog w K mg base 4 (He.ga K "Net") "_edge" [] (spEdgeG K (He.ga K "Net") (He.ga K "UnknownEdge")) := ⟨⟨_, _, _, _, tNt.cl, He.meth_ok (cd.fact 64 (f := .meth "Net" "_edge") rfl), ok_Eg F_neg tNt TN cI nTo XE, b_neg, .nil⟩⟩
    have nDl : Ctr l.prog w K mg base 5 (He.ga K "Net") "delays" [] (spDel K (He.ga K "Net") (He.ga K "UnknownEdge") fun e => .int (e.2.length : Nat)) := ⟨⟨_, _, _, _, tNt.cl, He.meth_ok (cd.fact 65 (f := .meth "Net" "delays") rfl), ok_Dl F_ndl TN nEg, b_ndl, .nil⟩⟩
    have nSr : Ctr l.prog w K mg base 5 (He.ga K "Net") "source" [] (spDel K (He.ga K "Net") (He.ga K "UnknownEdge") fun e => .str e.1) := ⟨⟨_, _, _, _, tNt.cl, He.meth_ok (cd.fact 66 (f := .meth "Net" "source") rfl), ok_Sr F_nsr nEg, b_nsr, .nil⟩⟩
    have nRd : Ctr l.prog w K mg base 5 (He.ga K "Net") "readers" [] (spRd K (He.ga K "Net") (He.ga K "UnknownSource")) := ⟨⟨_, _, _, _, tNt.cl, He.meth_ok (cd.fact 67 (f := .meth "Net" "readers") rfl), ok_Rd F_nrd tNt TN nCn XS, b_nrd, .nil⟩⟩
    have CE : Cg l.prog w K mg base 1 "_law_cell" (Tp.spCellT K) := .mk' F_cell (ok_cell F_cell TL.len) (He.glo_ok X G (cd.fact 68 (f := .glo "_law_cell") rfl)) b_cell
    have BX : Cg l.prog w K mg base 1 "_law_bag" spBox := .mk' F_box (ok_box F_box (He.free_ok X G (cd.fact 69 (f := .free "max") rfl))) (He.glo_ok X G (cd.fact 70 (f := .glo "_law_bag") rfl)) b_box
    have TK : Cg l.prog w K mg base 1 "_law_take" spTake := .mk' F_take (ok_take F_take) (He.glo_ok X G (cd.fact 71 (f := .glo "_law_take") rfl)) b_take
    have PC : Cg l.prog w K mg base 1 "_law_place" spPlace := .mk' F_lplace (ok_Pc F_lplace) (He.glo_ok X G (cd.fact 72 (f := .glo "_law_place") rfl)) b_lplace
    have SY : Cg l.prog w K mg base 2 "_law_symbols" (spSyms K) := .mk' F_lsyms (ok_Sy F_lsyms TK) (He.glo_ok X G (cd.fact 73 (f := .glo "_law_symbols") rfl)) b_lsyms
    have NM : Cg l.prog w K mg base 2 "_law_names" (spNames K) := .mk' F_lnames (ok_Nm F_lnames TL TK PC) (He.glo_ok X G (cd.fact 74 (f := .glo "_law_names") rfl)) b_lnames
    have TT : Cg l.prog w K mg base 2 "_law_terms" (spTermsD K) := .mk' F_lterms (ok_Te F_lterms TL TK) (He.glo_ok X G (cd.fact 75 (f := .glo "_law_terms") rfl)) b_lterms
    have ST : Cg l.prog w K mg base 2 "_law_starts" (spStartsD K) := .mk' F_lstarts (ok_St F_lstarts TL TK) (He.glo_ok X G (cd.fact 76 (f := .glo "_law_starts") rfl)) b_lstarts
    have PT : Cg l.prog w K mg base 4 "_law_parts" (spPartsD K) := .mk' F_lparts (ok_Pt F_lparts TL TK SY NM TT ST) (He.glo_ok X G (cd.fact 77 (f := .glo "_law_parts") rfl)) b_lparts
    have LE : Cg l.prog w K mg base 1 "_law_edges" (spEdgesL K) := .mk' F_ledges (ok_Le F_ledges TL) (He.glo_ok X G (cd.fact 78 (f := .glo "_law_edges") rfl)) b_ledges
    have KA : Cg l.prog w K mg base 6 "_law_caught" (spCaughtN K (He.ga K "Net")) := .mk' F_lcaught (ok_Ka F_lcaught TV TE (He.glo_ok X G (cd.fact 79 (f := .glo "MissingError") rfl)) (He.glo_ok X G (cd.fact 24 (f := .glo "UnknownSource") rfl)) (He.glo_ok X G (cd.fact 25 (f := .glo "UnknownEdge") rfl)) nRd nDl nSr) (He.glo_ok X G (cd.fact 80 (f := .glo "_law_caught") rfl)) b_lcaught
    have RI : Cg l.prog w K mg base 6 "_law_right" (spRightN K (He.ga K "Net")) := .mk' F_lright (ok_Ri F_lright S TR nRd nDl nSr) (He.glo_ok X G (cd.fact 81 (f := .glo "_law_right") rfl)) b_lright
    have OD : Cg l.prog w K mg base 7 "_law_odd_right" (spOddN K (He.ga K "Net")) := .mk' F_lodd (ok_Od (CS := 0) (CE := 0) F_lodd TV TR S iN hno nEq KA) (He.glo_ok X G (cd.fact 82 (f := .glo "_law_odd_right") rfl)) b_lodd
    exact ok_Law F_law TL (He.free_ok X G (cd.fact 69 (f := .free "max") rfl)) BX CE PT LE TK RI OD mN
end T10
set_option Elab.async false
set_option linter.all false
set_option maxRecDepth 100000
set_option maxHeartbeats 0
namespace T10
open PySem PySem.Spec PyProof.Rows L2
end T10
open PySem PySem.W PySem.Calls PyProof.Rows
theorem PySem.Challenge.cw_toldpast_k10_readers_and_edges_holds : PySem.Challenge.rw_toldpast_k10_readers_and_edges.Holds := by
  w_on; o_law
  refine HandSHeadRun.head_any (r := OpenLaw.row PySem.Challenge.rw_toldpast_k10_readers_and_edges) (q := view (OpenLaw.row PySem.Challenge.rw_toldpast_k10_readers_and_edges).prog [65]) (H := T10.hk) (ob := T10.ob) (M := 20000) (loose := (T10.lo0 ++ (T10.lo1))) (d := HandSHeadRun.topDef (OpenLaw.row PySem.Challenge.rw_toldpast_k10_readers_and_edges).prog 65) (kwd := []) T10.ob_eq
    (by kernel_rfl) (fun s => by kernel_rfl) T10.run (by kernel_rfl) (by kernel_rfl) (by kernel_rfl) (by rfl) (by first | assumption | decide +kernel) (by decide +kernel) ⟨rfl, rfl, rfl, rfl, rfl, by decide +kernel⟩ ?hw ?hc
  case hw => w_witness2
  case hc =>
    refine Tp.walkGE (l := PySem.Challenge.rw_toldpast_k10_readers_and_edges) (n := 63) (k := 10) (x := "_law_script") rfl (by decide) (by kernel_rfl) ⟨rfl, by decide, by decide⟩ ?F
    intro w mg fa h Y G hmg0
    obtain ⟨K, KX, c⟩ := Y
    have hmg : mg ("law" : PySem.Str) = some (.ref fa) := by
      have e : (HandSHeadRun.topDef (OpenLaw.row PySem.Challenge.rw_toldpast_k10_readers_and_edges).prog 65).name = ("law" : PySem.Str) := by kernel_rfl
      rw [← e]
      exact hmg0
    obtain ⟨fd, hb, hF⟩ := T10.all2 (l := PySem.Challenge.rw_toldpast_k10_readers_and_edges) (w := w) KX G hmg c.1 c.2
    exact ⟨K, fd, T10.spLaw K, KX, hb, hF, fun H a ns hl _ hS => ⟨a, ns, rfl, hS, hl, fun _ => rfl⟩⟩
#print axioms PySem.Challenge.cw_toldpast_k10_readers_and_edges_holds
