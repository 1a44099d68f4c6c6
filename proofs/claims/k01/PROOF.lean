import PyProof.Rows.All
import Wide.All
import OpenK.AllK
import Wide.FinOn
import PyProof.EqAt
import PyProof.EqKinds
import PyProof.TupleCall
import PyProof.Rows.ReprR
import HandS.Base
import HandS.Call
import HandS.List
import HandS.Comp
import HandS.Ends
import HandS.Dict
import HandS.Iter
import HandS.Text
import HandS.Words
import HandS.WordsList
import HandS.Defaults
import PyProof.StrBlock2
import HandS.Codes
import PyProof.ReprLen
import PyProof.FitsInt
import HandS.Exc
import HandS.ExcInit
import HandS.ExcValue
import HandS.IsInst
import KE.KExcInit
import KE.KExcIs
import HandS.ExcField
import HandS.ExcIs
import HandS.MakeKwOnly
import HandS.Wide
import HandS.TryMany
import HandS.WordsExc
import HandS.ExcOwn
import HandS.ForDict
import HandS.Walk
import HandS.Head0
import HandS.Head1
import HandS.Head2
import HandS.HeadEnd
import HandS.HeadHook1
import HandS.HeadHook2
import HandS.HeadHook3
import HandS.HeadHook4
import KE.KStateDown
import PySem.Challenge.RW_toldpast_k01_exceptions
set_option Elab.async false
set_option linter.all false
set_option maxRecDepth 100000
set_option maxHeartbeats 4000000
/-! what the laws of this set share: promises of defs that are called where no repr is under way, and repr itself -/
namespace Tp
open PySem PySem.Spec PyProof.Rows L2

/-- a def keeps its promise wherever no repr is under way -/
structure FnG (P : Program) (w : World) (K : PySem.W.Frag) (mg : Str → Option Value) (base : Heap) (CX : CXT) (k : Nat)
    (f : Addr) (fd : FuncData) (ps : List Str) (sp : Sp) : Prop where
  len : ∀ vs H Q E, sp vs H Q E → vs.length = ps.length
  run : ∀ (B : Around) (out : List Env) (s : Shared) (H : Hp) (args : Args) (us : List Value) (vs : List V) (Q : VK) (E : XK),
    Room k B → B.guards = some [] → Env0 P w K mg base B out s H → BindsTo s fd args (ps.zip us) → Vals vs us → sp vs H Q E →
    codeAny (model P w) B (.call (.ref f) args) (CR CX out P w H s Q E) s

section
variable {P : Program} {w : World} {K : PySem.W.Frag} {mg : Str → Option Value} {base : Heap} {CX : CXT} {j k : Nat}
variable {f : Addr} {fd : FuncData} {ps : List Str} {sp sp' : Sp}
theorem FnG.of (F : FnOk P w K mg base CX k f fd ps sp) : FnG P w K mg base CX k f fd ps sp :=
  ⟨F.len, fun B out s H args us vs Q E hr _ he => F.run B out s H args us vs Q E hr he⟩
theorem FnG.up (F : FnG P w K mg base CX j f fd ps sp) (h : j ≤ k) : FnG P w K mg base CX k f fd ps sp :=
  ⟨F.len, fun B out s H args us vs Q E hr => F.run B out s H args us vs Q E (hr.mono h)⟩
theorem deeper_guards {B : Around} {env : Env} {g : List Code} (h : B.guards = some g) : (B.deeper env).guards = some g := h

/-- a body's reading gives the promise -/
theorem fnG_of {nm qual : Str} {params : Arguments} {body : List Stmt} {sc : Scope} {dV kV doc pm cdv ct oc : Value} {an od : Option Addr}
    {osl : Array (Option Value)} {N : List Str} (lk : K.lookup f = some ⟨oc, od, .func (PySem.W.fnOf nm qual params body sc dV kV doc pm an cdv ct), osl⟩)
    (hcd : PySem.W.codeIn K cdv qual = true) (S : FnScope N ps sc) (len : ∀ vs H Q E, sp vs H Q E → vs.length = ps.length)
    (hbody : ∀ (B : Around) (out : List Env) (s : Shared) (H : Hp) (vs : List V) (Q : VK) (E : XK),
      Room k (B.deeper (envOfC qual sc s.heap.objs.size f cdv)) → (B.deeper (envOfC qual sc s.heap.objs.size f cdv)).guards = some [] → sp vs H Q E →
      ∃ t, PSs (cxOf CX P w K mg base N qual sc f cdv B out s H E) body t ∧ t { nx := fun _ H' => Q .non H', rt := Q } (start N vs) H) :
    FnG P w K mg base CX (k + 1) f (PySem.W.fnOf nm qual params body sc dV kV doc pm an cdv ct) ps sp := by
  refine ⟨len, fun B out s H args us vs Q E hr hg e0 hb rv hsp => ?_⟩
  obtain ⟨t, ht, hq⟩ := hbody B out s H vs Q E (hr.deeper _) (deeper_guards hg) hsp
  have hl := len _ _ _ _ hsp
  have KX : K.In s.heap := e0.mod.kin.keeps fun b o e => (e0.bs b o e).1
  have lim : s.heap.NoLimit := e0.mod.nolimit.keeps fun b o e => (e0.bs b o e).1
  have hkind : ∀ y ∈ ps.zip us, sc.names.lookup y.1 = some .local ∨
      (sc.names.lookup y.1 = some .cell ∧ ((cellsFrom (s.heap.objs.size + 1) sc.names []).lookup y.1).isSome = true) := by
    rintro ⟨n, v⟩ hy
    exact (S.par n (List.of_mem_zip hy).1).imp id fun q => ⟨q, PySem.W.cellsFrom_some _ _ _ (.inl q)⟩
  refine codeAny_call_function hr.depth (KX _ _ lk) rfl S.co S.gen rfl (PySem.W.codeRec_of KX hcd) (hb _ _ _ _ ?_)
  refine wpAny_newFunctionEnv_cells S.kind hkind fun env he s1 x => ?_
  subst he
  refine ⟨lim.keeps x.toInCall.keep, codeAny_func ?_⟩
  have I : Inv (cxOf CX P w K mg base N qual sc f cdv B out s H E) [] (start N vs) H s1 := inv_start S hr.hd e0 hl rv x
  refine wpAny_mono (ht.run [] s1 (start N vs) H _ I hq) (fun fl s' hs => ?_) fun e s' hs => hs
  cases fl with
  | ret u =>
    obtain ⟨v, τ, G, J, rw', q⟩ := hs
    exact ⟨v, G, J.os, J.bare, J.base, J.hok, rw', q⟩
  | next =>
    obtain ⟨τ, G, J, q⟩ := hs
    exact ⟨V.non, G, J.os, J.bare, J.base, J.hok, rfl, q⟩
  | brk => exact hs.elim fun _ z => z.elim fun _ z => z.2.elim
  | cont => exact hs.elim fun _ z => z.elim fun _ z => z.2.elim

/-- a def of the text, its body walked -/
theorem FunG.ok {x qual : Str} {st : Stmt} {N : List Str} (F : Fun K x qual st f fd) (S : FnScope N ps (defScope st)) (len : ∀ vs H Q E, sp vs H Q E → vs.length = ps.length)
    (hb : ∀ (cdv : Value) (B : Around) (out : List Env) (s : Shared) (H : Hp) (vs : List V) (Q : VK) (E : XK),
      Room k (B.deeper (envOfC qual (defScope st) s.heap.objs.size f cdv)) → (B.deeper (envOfC qual (defScope st) s.heap.objs.size f cdv)).guards = some [] → sp vs H Q E →
      ∃ t, PSs (cxOf CX0 P w K mg base N qual (defScope st) f cdv B out s H E).nox (defBody st) t ∧ t { nx := fun _ H' => Q .non H', rt := Q } (start N vs) H) :
    FnG P w K mg base CX0 (k + 1) f fd ps sp := by
  obtain ⟨oc, od, kV, doc, pm, an, cdv, ct, osl, rfl, lk, hcd⟩ := F.ex
  refine fnG_of lk hcd S len fun B out s H vs Q E hr hg hsp => ?_
  obtain ⟨t, h, q⟩ := hb cdv B out s H vs Q E hr hg hsp
  exact ⟨t, h.nox, q⟩
end

/-- what a caller knows of a def of the module: its promise, where it stands -/
structure Cg (P : Program) (w : World) (K : PySem.W.Frag) (mg : Str → Option Value) (base : Heap) (k : Nat) (x : Str) (sp : Sp) : Prop where
  ex : ∃ (f : Addr) (fd : FuncData) (ps : List Str), FnG P w K mg base CX0 k f fd ps sp ∧ mg x = some (.ref f) ∧ PySem.W.keepIn K (.ref f) = true ∧ Binds K fd ps []
theorem Cg.mk' {P : Program} {w : World} {K : PySem.W.Frag} {mg : Str → Option Value} {base : Heap} {k : Nat} {x qual : Str} {sp : Sp} {f : Addr} {fd : FuncData} {ps : List Str} {st : Stmt}
    (F : Fun K x qual st f fd) (G : FnG P w K mg base CX0 k f fd ps sp) (hm : mg x = some (.ref f)) (hb : Binds K fd ps []) : Cg P w K mg base k x sp := ⟨⟨f, fd, ps, G, hm, F.kp, hb⟩⟩
def tCl (sp : Sp) (t : TA) : TE := fun σ H Q => t σ H fun vs H1 => sp vs H1 Q E0
section
variable {X : Cx} {j k : Nat} {x : Str} {p pos : Pos} {e : Expr} {es : List Expr} {t : TA} {sp : Sp}
theorem pe_g (c : Cg X.prog X.w X.K X.mg X.base j x sp) (hr : Room k X.A) (hG : X.A.guards = some []) (hk : j ≤ k) (hg : Gl X x) (ha : PA X (e :: es) t)
    (hdb : (x == ("__debug__" : Str)) = false := by decide) (he : starEach (e :: es) X.env = (false, eval e X.env) :: starEach es X.env := by rfl)
    (hpl : (backTo pos (starEach es X.env)).any (·.1) = false := by rfl) : PE X (.Call (.Name x p) (e :: es) [] pos) (tCl sp t) := by
  obtain ⟨f, fd, ps, F, hm, hkp, hb⟩ := c.ex
  refine ⟨fun pins s σ H Q I h => wpAny_Call_Name_kw (ld_glob I hg hm ?_ hdb)⟩
  refine PySem.W.callWith_K (h₀ := X.base) I.ok.mod.kin hkp (thn (ha.run pos pins s σ H _ I h) fun us s1 hh => ?_) he hpl
  obtain ⟨vs, H1, I1, r, q⟩ := hh
  refine ⟨I1.kIn, ?_⟩
  have hl : (us ++ []).length = ps.length := by
    rw [List.append_nil, ← r.length]
    exact F.len _ _ _ _ q
  have hbt := hb s1 us I1.kIn hl
  rw [List.append_nil] at hbt
  refine wpAny_call (codeAny_mono (F.run X.A X.stack s1 H1 ⟨us, []⟩ us vs Q E0 (hr.mono hk) hG I1.env0 hbt r q) fun r' s' hq => ?_)
  cases r' with
  | error e' => exact (show False from hq).elim
  | ok fl =>
    cases fl with
    | ret u => exact I1.after hq
    | next => exact (show False from hq).elim
    | brk => exact (show False from hq).elim
    | cont => exact (show False from hq).elim
end

/-! ### repr of plain data -/
mutual
theorem Dp.plain {K : PySem.W.Frag} {H : Hp} : ∀ (d : PyData) (v : V), Dp K H v d → d.hasDict = false
  | .none, _, _ => by simp only [PyData.hasDict]
  | .bool _, _, _ => by simp only [PyData.hasDict]
  | .int _, _, _ => by simp only [PyData.hasDict]
  | .str _, _, _ => by simp only [PyData.hasDict]
  | .list ds, _, h => by
    cases h with
    | lst _ ha => simpa only [PyData.hasDict] using Dp.plainAll ds _ ha
  | .tuple ds, _, h => by
    cases h with
    | tup _ ha => simpa only [PyData.hasDict] using Dp.plainAll ds _ ha
  | .dict _, _, h => by cases h
theorem Dp.plainAll {K : PySem.W.Frag} {H : Hp} : ∀ (ds : List PyData) (vs : List V), DpAll K H vs ds → PyData.hasDictAll ds = false
  | [], _, _ => by simp only [PyData.hasDictAll]
  | d :: ds, _, h => by
    cases h with
    | cons h1 h2 =>
      simp only [PyData.hasDictAll, Bool.or_eq_false_iff]
      exact ⟨Dp.plain d _ h1, Dp.plainAll ds _ h2⟩
end
def rRepr (K : PySem.W.Frag) : List V → Hp → VK → Prop := fun xs H Q => ∃ (a : Addr) (d : PyData), xs = [.ref a] ∧ Dp K H (.ref a) d ∧ d.showable = true ∧ d.depth ≤ 60 ∧ d.shown.length ≤ sizeLine ∧ Q (.str d.shown) H
theorem call_repr {X : Cx} {k : Nat} (hr : Room k X.A) (hG : X.A.guards = some []) : CallR X (.builtin "repr") (rRepr X.K) := by
  intro pins s σ H xs us Q I r h
  obtain ⟨a, d, rfl, hd, hs, hdep, hz, q⟩ := h
  obtain ⟨u, rfl, r1⟩ := vals1 r
  cases (show u = Value.ref a from r1)
  obtain ⟨as, hrd⟩ := Dp.reads I d _ _ hd rfl
  have hu := hr.units
  exact repr_of_reads' hrd hs (PyData.noDict_hsm (Dp.plain d _ hd)) hG (by omega) (fun _ _ e => e) (fun h' u tk hk => ⟨.str d.shown, H, I.kept hk, ⟨u, rfl⟩, q⟩) hz

/-! ### the law's call -/
theorem law_callG {P : Program} {w : World} {K : PySem.W.Frag} {mg mb : Str → Option Value} {k : Nat} {fa a : Addr} {fd : FuncData} {x : Str} {sp : Sp} {s1 : Shared} {vs : List Value} {ns : List Int}
    (KX : K.In s1.heap) (hns : s1.heap.Ns mainGlobals mg) (hb : s1.heap.Ns builtinsNs mb) (hbb : ∀ x : Str, x ≠ "__name__" → mb x = bootBuiltins x) (hlim : s1.heap.NoLimit) (hg : s1.gens = #[])
    (ha : s1.heap.get? a = some { cls := .type "list", data := .seq vs.toArray }) (hi : IntsAre vs ns) (hl : ns.length ≤ sizeLine) (hr : Room k callerA)
    (F : ∀ base : Heap, K.In base → base.Ns mainGlobals mg → FnG P w K mg base CX0 k fa fd [x] sp) (hbind : ∀ (s : Shared) (u : Value), BindsTo s fd ⟨[u], []⟩ [(x, u)])
    (hsp : ∀ H : Hp, Only H → SqL K H a (ns.map V.int) → sp [.ref a] H (fun v _ => v = .bl true) E0) :
    codeAny (model P w) callerA (.call (.ref fa) ⟨[.ref a], []⟩) (fun r s' => r = .ok (.ret (.bool true)) ∧ OldK s1.heap s'.heap ∧ s'.os = s1.os ∧ AllBare s'.gens) s1 := by
  -- the layer's own end, asked of a promise that holds of this one call alone, by a def that keeps none elsewhere
  have rv := vals_ints hi
  have lv := hi.length
  have core : ∀ H : Hp, Only H → SqL K H a (ns.map V.int) → HOk P w H s1.heap → (∀ b, H b ≠ none → b = a) → (H a ≠ none → K.lookup a = none) →
      codeAny (model P w) callerA (.call (.ref fa) ⟨[.ref a], []⟩) (fun r s' => r = .ok (.ret (.bool true)) ∧ OldK s1.heap s'.heap ∧ s'.os = s1.os ∧ AllBare s'.gens) s1 := by
    intro H hO hS hok hA hK
    have noA : ∀ {b : Addr} {o : Obj} {es : Array DictEntry} {ep : Nat}, s1.heap.get? b = some o → o.data = .dict es ep → H b = none := by
      intro b o es ep e d
      cases q : H b with
      | none => rfl
      | some u =>
        have eb := hA b (by rw [q]; exact Option.some_ne_none _)
        rw [eb, ha] at e
        cases e
        cases (show Data.seq vs.toArray _ = Data.dict es ep from d)
    have nsK : ∀ {b : Addr} {m : Str → Option Value}, s1.heap.Ns b m → (hidT s1.heap H).Ns b m := by
      intro b m hm
      obtain ⟨o, es, ep, e, d, r⟩ := hm
      exact ⟨o, es, ep, hidT_get e (noA e d), d, r⟩
    have hKb : K.In (hidT s1.heap H) := by
      intro b o e
      refine hidT_get (KX b o e) ?_
      cases q : H b with
      | none => rfl
      | some u =>
        have eb := hA b (by rw [q]; exact Option.some_ne_none _)
        rw [eb] at e q
        rw [hK (by rw [q]; exact Option.some_ne_none _)] at e
        cases e
    obtain ⟨mc, l1, l2⟩ := hlim
    have hM : Mod K mg (hidT s1.heap H) := ⟨hKb, nsK hns, ⟨mb, nsK hb, hbb⟩, ⟨mc, nsK l1, l2⟩⟩
    have e0 : Env0 P w K mg (hidT s1.heap H) callerA [] s1 H :=
      ⟨rfl, hM, fun b o e => of_hidT e, Nat.le_of_eq (hidT_size _ _), trivial, fun b hb => (List.not_mem_nil hb).elim, hok, .of_eq hg⟩
    refine codeAny_mono ((F _ hKb (nsK hns)).run callerA [] s1 H ⟨[.ref a], []⟩ [.ref a] [.ref a] _ _ hr rfl e0 (hbind s1 (.ref a)) (.cons rfl .nil) (hsp H hO hS)) ?_
    intro r s' h
    cases r with
    | error e => exact (show False from h).elim
    | ok fl =>
      cases fl with
      | next => exact (show False from h).elim
      | brk => exact (show False from h).elim
      | cont => exact (show False from h).elim
      | ret u =>
        obtain ⟨v, H', os, bare, un, hok', r', q⟩ := h
        cases (show v = .bl true from q)
        cases (show u = Value.bool true from r')
        refine ⟨rfl, OldK.of_keep fun b o e => ?_, os, bare⟩
        cases q : H b with
        | none => exact un.keep b o e q (fun z => (List.not_mem_nil z).elim) (fun z => (List.not_mem_nil z).elim)
        | some u =>
          rcases hO b with z | ⟨ob, xs, z⟩
          · rw [q] at z
            cases z
          · have e1 := (hok b _ z).1
            have e2 := (hok' b _ (un.frzs b ob _ z)).1
            rw [e] at e1
            cases e1
            exact e2
  cases hk : K.lookup a with
  | some o =>
    have e := KX a o hk
    rw [ha] at e
    cases e
    refine core (fun _ => none) (fun _ => .inl rfl) (.inr ⟨_, vs.toArray, _, hk, rfl, rfl, rfl, ?_, ?_⟩) (fun b u z => by cases (show (none : Option HO) = some u from z)) (fun b z => (z rfl).elim) fun z => (z rfl).elim
    · rw [List.size_toArray, lv]
      exact hl
    · simpa using rv
  | none =>
    refine core (fun b => if b = a then some (.frz { cls := .type "list", data := .seq vs.toArray } (.lst (ns.map V.int))) else none) (fun b => ?_) (.inl (.inr ⟨_, if_pos rfl⟩)) (fun b u z => ?_) (fun b z => ?_) fun _ => hk
    · by_cases hb : b = a
      · exact .inr ⟨_, _, if_pos hb⟩
      · exact .inl (if_neg hb)
    · by_cases hb : b = a
      · cases (if_pos hb).symm.trans z
        cases hb
        refine ⟨ha, ?_, vs, _, rv, ha⟩
        rw [List.length_map]
        exact hl
      · cases (if_neg hb).symm.trans z
    · by_cases hb : b = a
      · exact hb
      · exact (z (if_neg hb)).elim

/-- the goal that the head leaves, from the law's promise -/
theorem walkG {l : PySem.W.OpenLaw} {n k : Nat} {q : Program} {loose : List Str} {XP : (Str → Option Value) → Heap → Prop} {YP : World → Heap → Prop} {d : DefRec} {K : Params → PySem.W.Frag} {sp : PySem.W.Frag → Sp} {x : Str}
    (hn : l.most = some n) (hn2 : n ≤ sizeLine) (hdf : d.params.defaults = []) (hr : Room k callerA) (hY : ∀ (w : World) (h : Heap), YP w h → (K w.params).In h)
    (F : ∀ (w : World) (mg : Str → Option Value) (fa : Addr) (h : Heap), (K w.params).In h → h.Ns mainGlobals mg → mg d.name = some (.ref fa) →
      ∃ fd : FuncData, (∀ (s : Shared) (u : Value), BindsTo s fd ⟨[u], []⟩ [(x, u)]) ∧
        ∀ base : Heap, (K w.params).In base → base.Ns mainGlobals mg → FnG l.prog w (K w.params) mg base CX0 k fa fd [x] (sp (K w.params)))
    (hsp : ∀ (K : PySem.W.Frag) (H : Hp) (a : Addr) (ns : List Int), ns.length ≤ n → Only H → SqL K H a (ns.map V.int) → sp K [.ref a] H (fun v _ => v = .bl true) E0) :
    PySem.W.WalkO q loose XP YP l.row.toRowW d [] (fun f vs => PySem.call f vs) := by
  refine Att.attach_call hn hdf fun w s0 s1 mg mb fa o pm cd doc a vs ns G Y ho hd hcd hmg hobj hints hlen hg => ?_
  have KX := hY w _ Y
  obtain ⟨fd, hb, hF⟩ := F w mg fa _ KX G.T.g hmg
  exact law_callG KX G.T.g G.T.b G.T.builtins G.T.nolimit hg hobj hints (Nat.le_trans hlen hn2) hr hF hb fun H hO hS => hsp (K w.params) H a ns hlen hO hS
end Tp
set_option Elab.async false
set_option linter.all false
set_option maxRecDepth 100000
set_option maxHeartbeats 4000000
/-! the draws: a box of three ints, of which each draw takes some -/
namespace Tp
open PySem PySem.Spec PyProof.Rows L2
/-- a box at p, from which at most n draws were mixed -/
def BoxAt (H : Hp) (p : Addr) (n : Nat) : Prop := ∃ a b c : Int, H p = some (.lst [.int a, .int b, .int c]) ∧ 0 ≤ a ∧ 0 ≤ b ∧ b < 2147483629 ∧ 0 ≤ c ∧ c ≤ (n : Int)
theorem BoxAt.mono {H : Hp} {p : Addr} {n m : Nat} (h : BoxAt H p n) (hl : n ≤ m) : BoxAt H p m := by
  obtain ⟨a, b, c, h1, h2, h3, h4, h5, h6⟩ := h
  exact ⟨a, b, c, h1, h2, h3, h4, h5, by omega⟩
/-- all that was tracked is as it was, but at p -/
def Keep (p : Addr) (H H' : Hp) : Prop := ∀ b o, b ≠ p → H b = some o → H' b = some o
theorem Keep.refl (p : Addr) (H : Hp) : Keep p H H := fun _ _ _ e => e
theorem Keep.trans {p : Addr} {H H1 H2 : Hp} (a : Keep p H H1) (b : Keep p H1 H2) : Keep p H H2 := fun c o hc e => b c o hc (a c o hc e)
theorem Keep.of {p : Addr} {H H' : Hp} (a : Same H H') : Keep p H H' := fun c o _ e => a c o e
theorem Keep.put {p : Addr} {H : Hp} {o : HO} : Keep p H (upd H p o) := fun c u hc e => by rw [upd_ne hc]; exact e
theorem Same.put {H : Hp} {q : Addr} {o : HO} (h : H q = none) : Same H (upd H q o) := fun c u e => by rw [upd_ne (ne_of_none e h)]; exact e
theorem Keep.new {p q : Addr} {H : Hp} {o : HO} (h : H q = none) : Keep p H (upd H q o) := .of (Same.put h)
theorem BoxAt.keep {H H' : Hp} {p : Addr} {n : Nat} (h : BoxAt H p n) (k : Same H H') : BoxAt H' p n := by
  obtain ⟨a, b, c, h1, h2⟩ := h
  exact ⟨a, b, c, k _ _ h1, h2⟩
theorem BoxAt.ne {H : Hp} {p q : Addr} {n : Nat} (h : BoxAt H p n) (hq : H q = none) : p ≠ q := by
  obtain ⟨a, b, c, h1, _⟩ := h
  exact ne_of_none h1 hq
theorem BoxAt.new {H : Hp} {p q : Addr} {n : Nat} {o : HO} (h : BoxAt H p n) (hq : H q = none) : BoxAt (upd H q o) p n := h.keep (Same.put hq)
theorem BoxAt.put {H : Hp} {p q : Addr} {n : Nat} {o : HO} (h : BoxAt H p n) (hq : q ≠ p) : BoxAt (upd H q o) p n := by
  obtain ⟨a, b, c, h1, h2⟩ := h
  exact ⟨a, b, c, (upd_ne hq.symm).trans h1, h2⟩
/-- all that was tracked is as it was, but at p and at d -/
def Keep2 (p d : Addr) (H H' : Hp) : Prop := ∀ b o, b ≠ p → b ≠ d → H b = some o → H' b = some o
theorem Keep2.of {p d : Addr} {H H' : Hp} (k : Keep p H H') : Keep2 p d H H' := fun b o h1 _ e => k b o h1 e
theorem Keep2.put {p d : Addr} {H G : Hp} {o : HO} (k : Keep2 p d H G) : Keep2 p d H (upd G d o) := fun b u h1 h2 e => (upd_ne h2).trans (k b u h1 h2 e)
theorem Keep2.next {p d : Addr} {H G G' : Hp} (k : Keep2 p d H G) (j : Keep p G G') : Keep2 p d H G' := fun b u h1 h2 e => j b u h1 (k b u h1 h2 e)
theorem Keep2.fin {p d : Addr} {H G : Hp} (k : Keep2 p d H G) (hd : H d = none) : Keep p H G := fun b u h1 e => k b u h1 (ne_of_none e hd) e
theorem keep_of {p : Addr} {H H' : Hp} (h : ∀ b, b ≠ p → H' b = H b) : Keep p H H' := fun b o hb e => by rw [h b hb]; exact e
/-- a list that is read stands on, but at p -/
theorem Keep.seq {K : PySem.W.Frag} {p a : Addr} {H H' : Hp} {xs : List V} (k : Keep p H H') (ha : a ≠ p) (h : SqL K H a xs) : SqL K H' a xs := by
  rcases h with (h | ⟨o, h⟩) | h
  · exact .inl (.inl (k _ _ ha h))
  · exact .inl (.inr ⟨o, k _ _ ha h⟩)
  · exact .inr h

/-- _law_cell: some int of the script, or some other -/
def spCell (K : PySem.W.Frag) : Sp := fun vs H Q _ => ∃ (a : Addr) (ns : List Int) (k : Nat), vs = [.ref a, .int k] ∧ SqL K H a (ns.map V.int) ∧ ns.length ≤ 63 ∧ k ≤ 1000 ∧ ∀ z : Int, Q (.int z) H
/-- _law_box -/
def spBox : Sp := fun vs H Q _ => ∃ z : Int, vs = [.int z] ∧ ∀ p H', H p = none → BoxAt H' p 0 → Keep p H H' → Q (.ref p) H'
/-- _law_take -/
def spTake : Sp := fun vs H Q _ => ∃ (p : Addr) (m : Int) (n : Nat), vs = [.ref p, .int m] ∧ BoxAt H p n ∧ 0 < m ∧ m.natAbs.log2 < 1000 ∧ n ≤ 1000000 ∧
  ∀ (d : Int) (H' : Hp), 0 ≤ d → d < m → BoxAt H' p (n + 1) → (∀ b, b ≠ p → H' b = H b) → Q (.int d) H'

end Tp
set_option Elab.async false
set_option linter.all false
set_option maxRecDepth 100000
set_option maxHeartbeats 4000000
/-! texts of bounded length, data whose repr fits -/
namespace Tp
open PySem PySem.Spec PyProof.Rows L2
/-! ### texts -/
structure Tz (n : Nat) (z : Str) : Prop where
  le : (TL.tl z).length ≤ n
  sm : ∀ c ∈ TL.tl z, c < 256
theorem Tz.mono {n m : Nat} {z : Str} (h : Tz n z) (hl : n ≤ m) : Tz m z := ⟨Nat.le_trans h.le hl, h.sm⟩
theorem Tz.len {n : Nat} {z : Str} (h : Tz n z) : z.length ≤ n := by
  rw [TL.len_tl]
  exact h.le
theorem Tz.app {n m : Nat} {x y : Str} (a : Tz n x) (b : Tz m y) : Tz (n + m) (x ++ y) := by
  have e := TL.tl_append x y
  refine ⟨?_, fun c hc => ?_⟩
  · rw [e, List.length_append]
    exact Nat.add_le_add a.le b.le
  · rw [e] at hc
    exact (List.mem_append.mp hc).elim (a.sm c) (b.sm c)
theorem Tz.one {c : Nat} (h : c < 256) : Tz 1 ⟨#[c]⟩ := ⟨Nat.le_refl 1, fun d hd => by
  have e : d = c := by simpa using hd
  rw [e]
  exact h⟩
theorem Tz.cut {n : Nat} {z : Str} (h : Tz n z) (lo hi : Option Int) : Tz n (cutS z lo hi) := by
  have e : TL.tl (cutS z lo hi) = ((TL.tl z).drop (HT.sIx z.length 0 lo)).take (HT.sIx z.length z.length hi - HT.sIx z.length 0 lo) := rfl
  refine ⟨?_, fun c hc => ?_⟩
  · rw [e, List.length_take, List.length_drop]
    have := h.le
    omega
  · rw [e] at hc
    exact h.sm c (List.mem_of_mem_drop (List.mem_of_mem_take hc))
theorem joinL_len (S : List Nat) (m k : Nat) (hS : S.length ≤ k) : ∀ ps : List (List Nat), (∀ q ∈ ps, q.length ≤ m) → (TL.joinL S ps).length ≤ ps.length * (m + k)
  | [], _ => Nat.zero_le _
  | [q], h => by
    have := h q List.mem_cons_self
    show q.length ≤ 1 * (m + k)
    omega
  | q :: r :: rs, h => by
    have h1 := h q List.mem_cons_self
    have ih := joinL_len S m k hS (r :: rs) fun x hx => h x (List.mem_cons_of_mem _ hx)
    show (q ++ (S ++ TL.joinL S (r :: rs))).length ≤ ((r :: rs).length + 1) * (m + k)
    rw [List.length_append, List.length_append, Nat.succ_mul]
    omega
theorem joinL_mem {S : List Nat} : ∀ {ps : List (List Nat)} {c : Nat}, c ∈ TL.joinL S ps → c ∈ S ∨ ∃ q ∈ ps, c ∈ q
  | [], _, h => absurd h List.not_mem_nil
  | [q], _, h => .inr ⟨q, List.mem_cons_self, h⟩
  | q :: r :: rs, c, h => by
    have h' : c ∈ q ++ (S ++ TL.joinL S (r :: rs)) := h
    rcases List.mem_append.mp h' with z | z
    · exact .inr ⟨q, List.mem_cons_self, z⟩
    · rcases List.mem_append.mp z with z | z
      · exact .inl z
      · rcases joinL_mem z with z | ⟨x, hx, z⟩
        · exact .inl z
        · exact .inr ⟨x, List.mem_cons_of_mem _ hx, z⟩
theorem tl_joinT (s : Str) (ys : List Str) : TL.tl (Txt.join s ys) = TL.joinL (TL.tl s) (ys.map TL.tl) := (congrArg TL.tl (TL.join_eq s ys)).trans (TL.tl_join s ys)
theorem Tz.join {k m : Nat} {s : Str} {ys : List Str} (hs : Tz k s) (hy : ∀ y ∈ ys, Tz m y) : Tz (ys.length * (m + k)) (Txt.join s ys) := by
  refine ⟨?_, fun c hc => ?_⟩
  · rw [tl_joinT]
    have h := joinL_len (TL.tl s) m k hs.le (ys.map TL.tl) fun q hq => by
      obtain ⟨y, hy', rfl⟩ := List.mem_map.mp hq
      exact (hy y hy').le
    rwa [List.length_map] at h
  · rw [tl_joinT] at hc
    rcases joinL_mem hc with z | ⟨q, hq, z⟩
    · exact hs.sm c z
    · obtain ⟨y, hy', rfl⟩ := List.mem_map.mp hq
      exact (hy y hy').sm c z
/-- the sum that join wants -/
theorem sum_le {m : Nat} : ∀ {ys : List Str}, (∀ y ∈ ys, Tz m y) → (ys.map (·.length)).sum ≤ ys.length * m
  | [], _ => Nat.zero_le _
  | y :: ys, h => by
    have h1 := (h y List.mem_cons_self).len
    have ih := sum_le (m := m) (ys := ys) fun z hz => h z (List.mem_cons_of_mem _ hz)
    rw [List.map_cons, List.sum_cons, List.length_cons, Nat.succ_mul]
    omega
/-- parts between separators -/
theorem spl_len (S : List Nat) : ∀ (l : List Nat) (k : Nat) (acc : List Nat), ((TL.spl S k acc l).map (·.length)).sum ≤ acc.length + l.length ∧ (TL.spl S k acc l).length ≤ l.length + 1 ∧ ∀ q ∈ TL.spl S k acc l, ∀ c ∈ q, c ∈ acc ∨ c ∈ l
  | [], k, acc => by
    rw [TL.spl_nil]
    refine ⟨by simp, by simp, fun q hq c hc => ?_⟩
    rw [List.mem_singleton.mp hq] at hc
    exact .inl hc
  | c :: r, 0, acc => by
    cases h : TL.pre S (c :: r) with
    | true =>
      rw [TL.spl_hit h]
      obtain ⟨h1, h2, h3⟩ := spl_len S r (S.length - 1) []
      refine ⟨?_, ?_, fun q hq d hd => ?_⟩
      · rw [List.map_cons, List.sum_cons, List.length_cons]
        rw [List.length_nil] at h1
        omega
      · rw [List.length_cons, List.length_cons]
        omega
      · rcases List.mem_cons.mp hq with e | e
        · rw [e] at hd
          exact .inl hd
        · rcases h3 q e d hd with z | z
          · exact absurd z List.not_mem_nil
          · exact .inr (List.mem_cons_of_mem _ z)
    | false =>
      rw [TL.spl_miss h]
      obtain ⟨h1, h2, h3⟩ := spl_len S r 0 (acc ++ [c])
      refine ⟨?_, ?_, fun q hq d hd => ?_⟩
      · rw [List.length_append] at h1
        rw [List.length_cons]
        have e : [c].length = 1 := rfl
        omega
      · rw [List.length_cons]
        omega
      · rcases h3 q hq d hd with z | z
        · rcases List.mem_append.mp z with z | z
          · exact .inl z
          · rw [List.mem_singleton.mp z]
            exact .inr List.mem_cons_self
        · exact .inr (List.mem_cons_of_mem _ z)
  | c :: r, k + 1, acc => by
    have e : TL.spl S (k + 1) acc (c :: r) = TL.spl S k acc r := by
      rw [TL.spl_pass S (k + 1), TL.spl_pass S k]
      rfl
    rw [e]
    obtain ⟨h1, h2, h3⟩ := spl_len S r k acc
    refine ⟨?_, ?_, fun q hq d hd => (h3 q hq d hd).imp id (List.mem_cons_of_mem _)⟩
    · rw [List.length_cons]
      omega
    · rw [List.length_cons]
      omega
theorem split_len {z m : Str} {n : Nat} (hz : Tz n z) (hm : (TL.tl m).length = 1) (h2 : ∀ c ∈ TL.tl m, c < 256) :
    ((Txt.split z m).map (·.length)).sum ≤ n ∧ (Txt.split z m).length ≤ n + 1 ∧ ∀ y ∈ Txt.split z m, ∀ c ∈ TL.tl y, c < 256 := by
  have hne : TL.tl m ≠ [] := fun e => by
    rw [e] at hm
    cases hm
  have hk : ¬ Builtin.Str.strKind z < Builtin.Str.strKind m := TL.kind_ok (by
    rw [← Array.all_toList]
    exact List.all_eq_true.mpr fun c hc => decide_eq_true (h2 c hc))
  have e := TL.split_spl z m hne hk
  obtain ⟨h3, h4, h5⟩ := spl_len (TL.tl m) (TL.tl z) 0 []
  rw [← e] at h3 h4 h5
  rw [List.map_map] at h3
  have e2 : ((fun l : List Nat => l.length) ∘ TL.tl) = fun y : Str => y.length := funext fun y => (TL.len_tl y).symm
  have hzl := hz.le
  refine ⟨?_, ?_, fun y hy c hc => ?_⟩
  · rw [e2, List.length_nil] at h3
    omega
  · rw [List.length_map] at h4
    omega
  · rcases h5 (TL.tl y) (List.mem_map.mpr ⟨y, hy, rfl⟩) c hc with x | x
    · exact absurd x List.not_mem_nil
    · exact hz.sm c x
/-- an item of a list at a drawn place -/
theorem atI_in {α : Type} {xs : List α} {d : Int} (h0 : 0 ≤ d) (h : d < (xs.length : Int)) : ∃ v, v ∈ xs ∧ atI xs d = some v := by
  have hj : d.toNat < xs.length := by omega
  have e : d = ((d.toNat : Nat) : Int) := by omega
  exact ⟨xs[d.toNat], List.getElem_mem hj, (congrArg (atI xs) e).trans (atI_nat (List.getElem?_eq_getElem hj))⟩

/-! ### data whose repr fits -/
structure Nice (n k : Nat) (d : PyData) : Prop where
  sh : d.showable = true
  ls : d.leavesShort 2000 = true
  wt : d.weight ≤ n
  dp : d.depth ≤ k
structure NiceAll (n k : Nat) (ds : List PyData) : Prop where
  sh : PyData.showableAll ds = true
  ls : PyData.leavesShortAll 2000 ds = true
  wt : PyData.weightAll ds ≤ n
  dp : PyData.depthAll ds ≤ k
theorem Nice.fits {n k : Nat} {d : PyData} (h : Nice n k d) (hn : n ≤ 8000) : d.shown.length ≤ sizeLine := by
  have h1 := PyData.shown_le 2000 (by decide) d h.ls
  have h2 : (2000 + 2) * d.weight ≤ 2002 * 8000 := Nat.mul_le_mul (Nat.le_refl _) (Nat.le_trans h.wt hn)
  rw [PySem.sizeLine_eq]
  omega
theorem Nice.mono {n k m j : Nat} {d : PyData} (h : Nice n k d) (h1 : n ≤ m) (h2 : k ≤ j) : Nice m j d := ⟨h.sh, h.ls, Nat.le_trans h.wt h1, Nat.le_trans h.dp h2⟩
theorem nice_none : Nice 0 0 .none := ⟨rfl, rfl, Nat.le_refl _, Nat.le_refl _⟩
theorem nice_bool (b : Bool) : Nice 0 0 (.bool b) := ⟨rfl, rfl, Nat.le_refl _, Nat.le_refl _⟩
theorem nice_int {i : Int} (h : i.natAbs.log2 < 1000) : Nice 1000 0 (.int i) := by
  refine ⟨?_, ?_, ?_, by simp only [PyData.depth]; exact Nat.le_refl _⟩
  · simp only [PyData.showable]
    exact decide_eq_true (by omega)
  · simp only [PyData.leavesShort]
    refine decide_eq_true ?_
    have e := int_text_length_le (a := i) (k := 1920) (by decide) (by omega)
    show (Str.ofString (toString i)).length ≤ 2000
    rw [PySem.ofString_length]
    omega
  · simp only [PyData.weight]
    split <;> omega
theorem nice_str {n : Nat} {z : Str} (h : Tz n z) : Nice n 0 (.str z) := by
  refine ⟨by simp only [PyData.showable], ?_, ?_, by simp only [PyData.depth]; exact Nat.le_refl _⟩
  · simp only [PyData.leavesShort]
    refine List.all_eq_true.mpr fun c hc => decide_eq_true ?_
    exact Nat.lt_of_lt_of_le (h.sm c hc) (by decide)
  · simp only [PyData.weight]
    exact h.len
theorem niceAll_nil : NiceAll 0 0 [] := ⟨rfl, rfl, Nat.le_refl _, Nat.le_refl _⟩
theorem NiceAll.cons {n m k j : Nat} {d : PyData} {ds : List PyData} (h : Nice n k d) (hs : NiceAll m j ds) : NiceAll (n + 1 + m) (max k j) (d :: ds) := by
  refine ⟨?_, ?_, ?_, ?_⟩
  · simp only [PyData.showableAll, h.sh, hs.sh, Bool.and_self]
  · simp only [PyData.leavesShortAll, h.ls, hs.ls, Bool.and_self]
  · simp only [PyData.weightAll]
    have := h.wt
    have := hs.wt
    omega
  · simp only [PyData.depthAll]
    have := h.dp
    have := hs.dp
    omega
theorem NiceAll.list {n k : Nat} {ds : List PyData} (h : NiceAll n k ds) : Nice n (k + 1) (.list ds) := by
  refine ⟨?_, ?_, ?_, ?_⟩
  · simp only [PyData.showable]
    exact h.sh
  · simp only [PyData.leavesShort]
    exact h.ls
  · simp only [PyData.weight]
    exact h.wt
  · simp only [PyData.depth]
    have := h.dp
    omega
theorem NiceAll.tuple {n k : Nat} {ds : List PyData} (h : NiceAll n k ds) : Nice n (k + 1) (.tuple ds) := by
  refine ⟨?_, ?_, ?_, ?_⟩
  · simp only [PyData.showable]
    exact h.sh
  · simp only [PyData.leavesShort]
    exact h.ls
  · simp only [PyData.weight]
    exact h.wt
  · simp only [PyData.depth]
    have := h.dp
    omega
theorem NiceAll.mono {n k m j : Nat} {ds : List PyData} (h : NiceAll n k ds) (h1 : n ≤ m) (h2 : k ≤ j) : NiceAll m j ds := ⟨h.sh, h.ls, Nat.le_trans h.wt h1, Nat.le_trans h.dp h2⟩
theorem niceAll_strs : ∀ {ys : List Str}, (∀ y ∈ ys, ∀ c ∈ TL.tl y, c < 256) → NiceAll ((ys.map (·.length)).sum + ys.length) 0 (ys.map PyData.str)
  | [], _ => niceAll_nil
  | y :: ys, h => by
    have h1 := NiceAll.cons (nice_str (n := y.length) (z := y) ⟨Nat.le_of_eq (TL.len_tl y).symm, h y List.mem_cons_self⟩) (niceAll_strs (ys := ys) fun z hz => h z (List.mem_cons_of_mem _ hz))
    refine h1.mono ?_ (Nat.le_refl _)
    rw [List.map_cons, List.sum_cons, List.length_cons]
    omega
/-- repr(x), x plain data -/
theorem rRepr_of {K : PySem.W.Frag} {H : Hp} {a : Addr} {d : PyData} {n k : Nat} {Q : VK} (h : Dp K H (.ref a) d) (hn : Nice n k d) (h1 : n ≤ 8000) (h2 : k ≤ 60) (q : Q (.str d.shown) H) : rRepr K [.ref a] H Q :=
  ⟨a, d, rfl, h, hn.sh, Nat.le_trans hn.dp h2, hn.fits h1, q⟩
/-- flat values as data -/
def dV : V → PyData
  | .bl b => .bool b
  | .int i => .int i
  | .str x => .str x
  | _ => .none
def isFlat : V → Bool
  | .non => true
  | .bl _ => true
  | .int _ => true
  | .str _ => true
  | _ => false
theorem dp_flat {K : PySem.W.Frag} {H : Hp} : ∀ {v : V}, isFlat v = true → Dp K H v (dV v)
  | .non, _ => .non
  | .bl b, _ => .bl b
  | .int i, _ => .int i
  | .str x, _ => .str x
theorem dpAll_flat {K : PySem.W.Frag} {H : Hp} : ∀ {vs : List V}, vs.all isFlat = true → DpAll K H vs (vs.map dV)
  | [], _ => .nil
  | v :: vs, h => by
    rw [List.all_cons, Bool.and_eq_true] at h
    exact .cons (dp_flat h.1) (dpAll_flat h.2)
theorem dpAll_strs {K : PySem.W.Frag} {H : Hp} : ∀ (ys : List Str), DpAll K H (ys.map V.str) (ys.map PyData.str)
  | [] => .nil
  | y :: ys => .cons (.str y) (dpAll_strs ys)
end Tp
set_option Elab.async false
set_option linter.all false
set_option maxRecDepth 100000
set_option maxHeartbeats 4000000
/-! exceptions of the program's own classes over any built-in base: how one is made, by position and by keyword -/
namespace Tp
open PySem HandSPX
/-- what is asked of the line behind an own class that is made by newId of B -/
structure LineX (B : String) (bm : List Value) : Prop where
  hB : bm.contains (.type B) = true
  hA : bm.contains (.type "AttributeError") = false
  hN : bm.contains (.type "NameError") = false
section
variable {prog : Program} {w : World} {A : Around} {E : Value → Shared → Prop} {R : Result → Shared → Prop} {h : Heap} {g : Array GenState} {d : Drawn} {t : Nat} {os : OsState}
variable {nm q : Str} {C N : Addr} {bs bm bmB : List Value} {hdct : Bool} {sn : List Str} {sub : List Value} {ab : Bool} {col : Option Bool} {dd : Option Addr} {k0 k1 k2 k3 k5 : Option Value} {B newId initId : String}
/-- may newId make it? -/
theorem mk_check {M : Model} (F : ExcBaseFacts B newId initId bmB) (L : LineX B bm) {rest : List Value} {kw : List (Str × Value)} {Q : Unit → Shared → Prop}
    (hC : h.get? C = some (excClassObj nm q C N bs bm hdct sn sub ab col dd k0 k1 k2 k3 k5 newId))
    (hq : Q () ⟨h, g, d, t, os⟩) : wpAny M A (checkBuiltinCall newId ⟨.ref C :: rest, kw⟩) Q E ⟨h, g, d, t, os⟩ := by
  have hc : (Value.ref C :: bm).contains (.type B) = true := by
    rw [List.contains_cons]
    exact Bool.or_eq_true_iff.mpr (.inr L.hB)
  have hst := F.noStar
  simp only [checkBuiltinCall, F.newSplit, F.newKind, F.newRow]
  repeat (first
    | refine wpAny_loadPart_at hC ?_
    | (refine wpAny_isSubtype_exc hC ?_; rw [hc])
    | refine wpAny_staticBase_exc hC ?_
    | refine wpAny_madeBy_exc hC ?_
    | simp only [Bool.false_eq_true, bne_self_eq_false, if_false]
    | wp_step)
  exact hq
/-- newId itself -/
theorem mk_new (F : ExcBaseFacts B newId initId bmB) (L : LineX B bm) {rest : List Value} {kw : List (Str × Value)}
    (hC : h.get? C = some (excClassObj nm q C N bs bm hdct sn sub ab col dd k0 k1 k2 k3 k5 newId)) (hz : rest.length ≤ sizeLine)
    (hq : R (.ok (.ret (.ref (h.objs.size + 1)))) ⟨(h.push (PySem.W.kdv_tup rest)).push (excO C h.objs.size), g, d, t, os⟩) :
    codeAny (model prog w) A (.builtin newId ⟨.ref C :: rest, kw⟩) R ⟨h, g, d, t, os⟩ := by
  have hends := F.ends
  have up : ∀ {X : String} {b : Bool}, bm.contains (.type X) = b → (Value.ref C :: bm).contains (.type X) = b := fun {X b} e => by
    rw [List.contains_cons, e]
    cases b <;> rfl
  have h1 := up L.hB
  have h2 := up L.hA
  have h3 := up L.hN
  refine codeAny_builtinAt F.entry ?_
  unfold Builtin.«BaseException.__new__»
  refine wpAt_bind ?_
  show wpAt _ _ _ (stack >>= _) _ _ _
  refine wpAt_bind (wpAt_stack fun p below => wpAt_of_wpAny ?_)
  wp_walk
  refine wpAt_of_wpAny ?_
  rw [F.owner]
  repeat (first
    | with_reducible refine wpAny_loadPart_at hC ?_
    | with_reducible refine wpAny_madeHere_exc F.canon hC ?_
    | (with_reducible refine wpAny_isSubtype_exc hC ?_; first | rw [h1] | rw [h2] | rw [h3])
    | wp_step)
  show R _ _
  rw [Heap.size_push]
  exact hq
/-- type.__call__ on it, up to its own __init__ -/
theorem mk_type (F : ExcBaseFacts B newId initId bmB) (L : LineX B bm) {rest : List Value} {kw : List (Str × Value)} {iv : Value} {Q : Fin → Shared → Prop}
    (hC : h.get? C = some (excClassObj nm q C N bs bm hdct sn sub ab col dd k0 k1 k2 k3 k5 newId)) (hz : rest.length ≤ sizeLine)
    (hi : W.Looks (model prog w) h (typeLookup (.ref C) "__init__") (some iv))
    (hb : ∀ self, W.Looks (model prog w) h (bindSpecial iv self) (iv, [self]))
    (hq : codeAny (model prog w) A (.call iv ⟨.ref (h.objs.size + 1) :: rest, kw⟩)
      (fun r s' => match r with
        | .ok (.ret v) => v = .none ∧ Q (.done (.ret (.ref (h.objs.size + 1)))) s'
        | .ok _ => False
        | .error e => E e s') ⟨(h.push (W.kdv_tup rest)).push (excO C h.objs.size), g, d, t, os⟩) :
    wpAny (model prog w) A (Builtin.«type.__call__» ⟨.ref C :: rest, kw⟩) Q E ⟨h, g, d, t, os⟩ := by
  repeat (first
    | with_reducible refine wpAny_madeBy_exc hC ?_
    | with_reducible refine wpAny_loadPart_at hC ?_
    | wp_step)
  refine codeAny_call_builtin_code (Code.quiet_builtin _ F.quiet) (mk_check F L hC ?_)
  refine mk_new F L hC hz ?_
  show wpAny _ _ _ _ _ _
  have kp : ∀ b o, h.get? b = some o → ((h.push (W.kdv_tup rest)).push (excO C h.objs.size)).get? b = some o :=
    fun b o e => Heap.get?_push_of_some _ (Heap.get?_push_of_some _ e)
  have hC' := kp _ _ hC
  have hx : ((h.push (W.kdv_tup rest)).push (excO C h.objs.size)).get? (h.objs.size + 1) = some (excO C h.objs.size) := by heap_get
  have hcC : (Value.ref C :: bm).contains (.ref C) = true := by simp
  unfold isInstance
  repeat (first
    | with_reducible refine wpAny_loadPart_at hx ?_
    | (with_reducible refine wpAny_isSubtype_exc hC' ?_; rw [hcC])
    | wp_step)
  show wpAny _ _ (typeLookup (.ref C) _) _ _ _
  refine (hi.keeps kp).at (wpAny_holding (wpAny_bind (((hb (.ref (h.objs.size + 1))).keeps kp).at ?_)))
  refine wpAny_bind (wpAny_call (codeAny_mono hq fun r s' z => ?_))
  cases r with
  | error e => exact z
  | ok fl =>
    cases fl with
    | ret v =>
      obtain ⟨ev, z'⟩ := z
      subst ev
      first
        | exact wpAny_pure (wpAny_pure z')
        | (wp_walk; exact z')
    | next => exact False.elim z
    | brk => exact False.elim z
    | cont => exact False.elim z
/-- the call C(..) -/
theorem mk_call (F : ExcBaseFacts B newId initId bmB) (L : LineX B bm) {rest : List Value} {kw : List (Str × Value)} {iv : Value}
    (hC : h.get? C = some (excClassObj nm q C N bs bm hdct sn sub ab col dd k0 k1 k2 k3 k5 newId)) (hz : rest.length ≤ sizeLine)
    (hi : W.Looks (model prog w) h (typeLookup (.ref C) "__init__") (some iv))
    (hb : ∀ self, W.Looks (model prog w) h (bindSpecial iv self) (iv, [self]))
    (hq : codeAny (model prog w) (A.under (.builtin "type.__call__" ⟨.ref C :: rest, kw⟩)) (.call iv ⟨.ref (h.objs.size + 1) :: rest, kw⟩) (W.InitBack (h.objs.size + 1) R)
      ⟨(h.push (W.kdv_tup rest)).push (excO C h.objs.size), g, d, t, os⟩) :
    codeAny (model prog w) A (.call (.ref C) ⟨rest, kw⟩) R ⟨h, g, d, t, os⟩ := by
  have f1 := tc_lookup
  have f2 := tc_bind (.ref C)
  have hTy : (⟨h, g, d, t, os⟩ : Shared).TypeIs (.ref C) "type" := ⟨_, hC, rfl⟩
  refine codeAny_of_tree ?_
  show wpAny _ _ (callAny (.ref C) _) _ _ _
  repeat (any_goals (first | assumption | with_reducible refine wpAny_loadPart_at hC ?_ | wp_step))
  refine ⟨rfl, codeAny_call_builtin_at (Code.quiet_builtin _ (by decide +kernel)) entry_typeCall (wpAny_check_type_call_sub hC (mk_type F L hC hz hi hb ?_))⟩
  refine codeAny_mono hq fun r s' z => ?_
  cases r with
  | error e => exact z
  | ok fl => cases fl <;> exact z
end
end Tp
set_option Elab.async false
set_option linter.all false
set_option maxRecDepth 100000
set_option maxHeartbeats 4000000
/-! exceptions of the program's own classes, over any built-in base: made as values, stored into, read, asked for their class, raised -/
namespace Tp
open PySem PySem.Spec PyProof.Rows L2
abbrev valLine : List Value := [.type "ValueError", .type "Exception", .type "BaseException", .type "object"]
abbrev keyLine : List Value := [.type "KeyError", .type "LookupError", .type "Exception", .type "BaseException", .type "object"]
abbrev lookLine : List Value := [.type "LookupError", .type "Exception", .type "BaseException", .type "object"]
local macro_rules | `(tactic| walk_at "factX") => `(tactic| first | decide +kernel | kernel_rfl | (rw [isSubtype_type]; kernel_rfl) | (rw [mroOf_type]; kernel_rfl) | (intro z; kernel_rfl) | (intro z1 z2 z3; unfold argsOk; kernel_rfl))
theorem storeKey : StoreFacts "KeyError" keyLine "object.__setattr__" "object" :=
  { mro := by walk_at "factX"
    slot := .of (owner := "object") (n := "__setattr__")
      (by rw [typeLookup_type, builtinLookup_eq_fast]; kernel_rfl) (by walk_at "factX") (by walk_at "factX")
      (by walk_at "factX") (by first | exact .inl (by walk_at "factX") | exact .inr (by walk_at "factX")) (by walk_at "factX")
    entry := F.store_object.entry
    kind := by walk_at "factX"
    split := by walk_at "factX"
    hasOwner := by walk_at "factX"
    args := by walk_at "factX"
    passes := by walk_at "factX" }
/-- a base: what makes its instances, what line stands behind its classes -/
structure BaseX (newId : String) (line : List Value) : Prop where
  ex : ∃ (B initId S : String) (bmB : List Value), ExcBaseFacts B newId initId bmB ∧ StoreFacts S line "object.__setattr__" "object" ∧ LineX B line
theorem baseV : BaseX "ValueError.__new__" valLine := ⟨_, _, _, _, F.excBase_ValueError, F.store_ValueError, ⟨by decide +kernel, by decide +kernel, by decide +kernel⟩⟩
theorem baseK : BaseX "LookupError.__new__" keyLine := ⟨_, _, _, _, F.excBase_LookupError, storeKey, ⟨by decide +kernel, by decide +kernel, by decide +kernel⟩⟩
theorem baseL : BaseX "LookupError.__new__" lookLine := ⟨_, _, _, _, F.excBase_LookupError, F.store_LookupError, ⟨by decide +kernel, by decide +kernel, by decide +kernel⟩⟩
/-- what the written part says of an own class of exceptions -/
structure ExK (K : PySem.W.Frag) (C : Addr) : Prop where
  ln : ∃ (newId : String) (line : List Value), BaseX newId line ∧ PySem.W.excInitIn K C line newId = true ∧ PySem.W.excOver K C line = true
  sa : PySem.W.findIn K (.ref C) "__setattr__" = some (some (.builtin "object.__setattr__"))
  ga : PySem.W.findIn K (.ref C) "__getattribute__" = some (some (.builtin "BaseException.__getattribute__"))
  gg : PySem.W.findIn K (.ref C) "__getattr__" = some none
  exC : PySem.W.subIn K (.ref C) (.type "BaseException") = some true
  tyC : PySem.W.typeIn K (.ref C) = some (.type "type")
  hdC : PySem.W.hasDictIn K C = true
  kC : PySem.W.keepIn K (.ref C) = true
  ha : PySem.W.findIn K (.ref C) "__class__" = some (some (.builtin "object.__class__"))
  hn : PySem.W.specialIn K (.builtin "object.__class__") "__get__" = some (some (.builtin "getset_descriptor.__get__"))
  ht : PySem.W.takesIn K (.builtin "object.__class__") = some true
  hm : PySem.W.mroIn K C (.type "object") = some true
/-- a class for which name f is free -/
def freeB (K : PySem.W.Frag) (C : Addr) (f : Str) : Bool := decide (PySem.W.findIn K (.ref C) f = some none)
theorem freeB_ok {K : PySem.W.Frag} {C : Addr} {f : Str} (h : freeB K C f = true) : PySem.W.findIn K (.ref C) f = some none := of_decide_eq_true h
def exkB (K : PySem.W.Frag) (C : Addr) (newId : String) (line : List Value) : Bool :=
  PySem.W.excInitIn K C line newId && (PySem.W.excOver K C line &&
  (decide (PySem.W.findIn K (.ref C) "__setattr__" = some (some (.builtin "object.__setattr__"))) &&
  (decide (PySem.W.findIn K (.ref C) "__getattribute__" = some (some (.builtin "BaseException.__getattribute__"))) &&
  (decide (PySem.W.findIn K (.ref C) "__getattr__" = some none) &&
  (decide (PySem.W.subIn K (.ref C) (.type "BaseException") = some true) &&
  (decide (PySem.W.typeIn K (.ref C) = some (.type "type")) &&
  (PySem.W.hasDictIn K C && (PySem.W.keepIn K (.ref C) &&
  (decide (PySem.W.findIn K (.ref C) "__class__" = some (some (.builtin "object.__class__"))) &&
  (decide (PySem.W.specialIn K (.builtin "object.__class__") "__get__" = some (some (.builtin "getset_descriptor.__get__"))) &&
  (decide (PySem.W.takesIn K (.builtin "object.__class__") = some true) && decide (PySem.W.mroIn K C (.type "object") = some true))))))))))))
theorem exkB_ok {K : PySem.W.Frag} {C : Addr} {newId : String} {line : List Value} (b : BaseX newId line) (h : exkB K C newId line = true) : ExK K C := by
  unfold exkB at h
  simp only [Bool.and_eq_true, decide_eq_true_eq] at h
  obtain ⟨h1, h2, h3, h4, h5, h6, h7, h8, h9, h10, h11, h12, h13⟩ := h
  exact ⟨⟨newId, line, b, h1, h2⟩, h3, h4, h5, h6, h7, h8, h9, h10, h11, h12, h13⟩

/-- an exception that stands as a value at a: its class, its fields -/
def ExAt (H : Hp) (a C : Addr) (fs : List (Str × V)) : Prop := (fs = [] ∧ H a = some (exo a C none)) ∨ ∃ dx, dx ≠ a ∧ H a = some (exo a C (some dx)) ∧ H dx = some (exd dx fs)

theorem ne_of_none' {H : Hp} {a b : Addr} {o : HO} (n : H b = none) (e : H a = some o) : b ≠ a := fun z => by
  rw [z, e] at n
  cases n
section

variable {prog : Program} {w : World} {A : Around} {E : Value → Shared → Prop} {R : Result → Shared → Prop} {hp : Heap} {g : Array GenState} {d : Drawn} {t : Nat} {os : OsState}
variable {K : PySem.W.Frag} {name : Str} {tk : Tok} {v : Value} {x C t1 : Addr} {B : String} {line : List Value}
theorem taker_none (h : PySem.W.findIn K (.ref C) name = some none) : PySem.W.takerIn K C name = some none := by
  unfold PySem.W.takerIn
  rw [h]
  rfl
/-- the first field -/
theorem osa_first (SF : StoreFacts B line "object.__setattr__" "object") (X : K.In hp) (hx : hp.get? x = some (PySem.W.excObj C t1 none .none)) (hl : PySem.W.excOver K C line = true) (hh : PySem.W.hasDictIn K C = true) (ha : PySem.W.findIn K (.ref C) name = some none)
    (hq : ∀ h' tk' dx, (∀ b o, b ≠ x → hp.get? b = some o → h'.get? b = some o) → hp.objs.size ≤ dx → dx ≠ x → h'.get? x = some (PySem.W.excObj C t1 (some dx) .none) →
      h'.Ns1 dx (fun y => if y = name then some v else none) → R (.ok (.ret .none)) ⟨h', g, d, tk', os⟩) :
    codeAny (model prog w) A (.call (.builtin "object.__setattr__") ⟨[.ref x, .str name tk, v], []⟩) R ⟨hp, g, d, t, os⟩ := by
  refine PySem.W.osa_openX (od := none) SF X ⟨hx, rfl, rfl, trivial⟩ hl (taker_none ha) fun b => ?_
  obtain ⟨cd, hc, hd'⟩ := PySem.W.any_some hh
  refine wpAny_bind (wpAny_pure (wpAny_bind (PySem.W.instanceDict_exc hx (PySem.W.looks_clsIn X hc) hd' ?_)))
  show wpAny _ _ (Builtin.ObjectAttr.storeInDict hp.objs.size (.str name tk) name v) _ _ _
  have hxs : x ≠ hp.objs.size := Nat.ne_of_lt (Heap.lt_size hx)
  refine HandSPX.store_in_new ?_ fun h' tk' hn' hs => ?_
  · exact ⟨_, #[], _, (Heap.get?_update_ne _ _ _ _ hxs.symm).trans (Heap.get?_push_at rfl rfl), rfl, fun e he => absurd he (by simp), fun _ => rfl⟩
  · refine hq h' tk' hp.objs.size (fun b o hb ho => ?_) (Nat.le_refl _) hxs.symm ?_ hn'
    · exact (hs.2 b (Nat.ne_of_lt (Heap.lt_size ho))).trans ((Heap.get?_update_ne _ _ _ _ hb).trans (Heap.get?_push_of_some _ ho))
    · exact (hs.2 x hxs).trans (Heap.get?_update_self _ (Heap.get?_push_of_some _ hx) rfl)
/-- a further one -/
theorem osa_next {dx : Addr} {m0 : Str → Option Value} {nl : List Str} (SF : StoreFacts B line "object.__setattr__" "object") (X : K.In hp) (hx : hp.get? x = some (PySem.W.excObj C t1 (some dx) .none)) (hl : PySem.W.excOver K C line = true) (hh : PySem.W.hasDictIn K C = true) (ha : PySem.W.findIn K (.ref C) name = some none)
    (hns : hp.Ns1 dx m0) (hw : Within m0 nl) (hz : nl.length ≤ 1000)
    (hq : ∀ h' tk', (∀ b o, b ≠ dx → hp.get? b = some o → h'.get? b = some o) → h'.Ns1 dx (fun y => if y = name then some v else m0 y) → R (.ok (.ret .none)) ⟨h', g, d, tk', os⟩) :
    codeAny (model prog w) A (.call (.builtin "object.__setattr__") ⟨[.ref x, .str name tk, v], []⟩) R ⟨hp, g, d, t, os⟩ := by
  obtain ⟨oD, _, _, hoD, _, _⟩ := hns.count hw
  refine PySem.W.osa_openX (od := some oD) SF X ⟨hx, rfl, rfl, hoD⟩ hl (taker_none ha) fun b => ?_
  obtain ⟨cd, hc, hd'⟩ := PySem.W.any_some hh
  refine wpAny_bind (wpAny_pure (wpAny_bind (wpAny_bind (wpAny_loadPart hx (wpAny_bind ((PySem.W.looks_clsIn X hc).here ?_))))))
  rw [hd']
  refine wpAny_pure (a := some dx) ?_
  exact PySem.OEX.store_in_old hns hw hz fun h' tk' hn' hs => hq h' tk' (fun b o hb ho => (hs.2 b hb).trans ho) hn'
end
section
variable {X : Cx} {pins : List (Addr × Obj)} {σ : L2.St} {H : Hp} {s : Shared} {a C dx : Addr} {f : Str} {y : V} {u : Value} {fs : List (Str × V)} {E : Value → Shared → Prop} {A : Around}
theorem st_first {Q : Unit → Shared → Prop} (T : ExK X.K C) (I : Inv X pins σ H s) (e : H a = some (exo a C none)) (hno : PySem.W.findIn X.K (.ref C) f = some none) (ry : RelV y u)
    (h : ∀ dx s', H dx = none → dx ≠ a → Inv X pins σ (upd (upd H dx (exd dx [(f, y)])) a (exo a C (some dx))) s' → Q () s') : wpAny (model X.prog X.w) A (setAttr (.ref a) f u) Q E s := by
  obtain ⟨newId, line, ⟨B, initId, S, bmB, FB, SF, L⟩, hi, hl⟩ := T.ln
  obtain ⟨t1, ho⟩ := exo_at I.hok e
  obtain ⟨hp, g, d, t, os⟩ := s
  refine PySem.W.set_plain I.kIn (ox := PySem.W.excObj C t1 none .none) (od := none) ⟨ho, rfl, rfl, trivial⟩ T.sa ?_
  refine osa_first SF I.kIn ho hl T.hdC hno (fun h' tk' dx k dn dne hx hn => ?_)
  have hnd : H dx = none := I.hok.fresh dn
  have nd : ∀ {b : Addr} {o : Obj}, hp.get? b = some o → b ≠ dx := fun {b o} q => Nat.ne_of_lt (Nat.lt_of_lt_of_le (Heap.lt_size q) dn)
  have na : ∀ {b : Addr}, H b = none → b ≠ a := fun {b} n => ne_of_none' n e
  have U : Un X.fs [] H (upd (upd H dx (exd dx [(f, y)])) a (exo a C (some dx))) hp h' :=
    ⟨fun b o q n _ _ => k b o (na n) q, fun b o q n _ _ => ⟨o.slots, k b o (na n) q⟩,
      fun b o q n _ => (upd_ne (na n)).trans ((upd_ne (nd q)).trans n),
      fun b o q _ => if hb : b = a then ⟨_, hb ▸ hx⟩ else ⟨o, k b o hb q⟩,
      fun b xs q => (upd_ne (at_ne e q exo_tup)).trans ((upd_ne (ne_of_none q hnd)).trans q),
      fun b o v q => (upd_ne (at_ne e q exo_frz)).trans ((upd_ne (ne_of_none q hnd)).trans q),
      fun b ps q => ⟨#[], by
        rw [upd_ne (at_ne e q exo_tbl), upd_ne (ne_of_none q hnd), q]
        simp⟩⟩
  refine h dx _ hnd dne (I.un (t' := tk') U fun b o q => ?_)
  by_cases hb : b = a
  · subst hb
    cases upd_same.symm.trans q
    exact exo_ok hx
  · rw [upd_ne hb] at q
    by_cases hd : b = dx
    · subst hd
      cases upd_same.symm.trans q
      exact exd_ok hn (relO_put (fs := []) ry fun g => True.intro)
    · rw [upd_ne hd] at q
      have stay : ∀ {c : Addr}, H c = some (.own b) → c ≠ a := fun hc => at_ne e hc exo_own
      refine (I.hok b o q).stay (fun c v hc z => k c v (hc.elim (fun ec => ec ▸ hb) stay) z) (fun c hc => ?_) (fun c xs hc => ?_)
      · exact (upd_ne (stay hc)).trans ((upd_ne (ne_of_none hc hnd)).trans hc)
      · exact (upd_ne (at_ne e hc exo_tup)).trans ((upd_ne (ne_of_none hc hnd)).trans hc)
theorem st_next {Q : Unit → Shared → Prop} (T : ExK X.K C) (I : Inv X pins σ H s) (e : H a = some (exo a C (some dx))) (ed : H dx = some (exd dx fs)) (hl : fs.length ≤ 900) (hno : PySem.W.findIn X.K (.ref C) f = some none) (ry : RelV y u)
    (h : ∀ s', Inv X pins σ (upd H dx (exd dx ((f, y) :: fs))) s' → Q () s') : wpAny (model X.prog X.w) A (setAttr (.ref a) f u) Q E s := by
  obtain ⟨newId, line, ⟨B, initId, S, bmB, FB, SF, L⟩, hi, hlo⟩ := T.ln
  obtain ⟨t1, ho⟩ := exo_at I.hok e
  obtain ⟨mA, hns, rel⟩ := exd_at I.hok ed
  have hw := within_of rel
  obtain ⟨hp, g, d, t, os⟩ := s
  obtain ⟨oD, _, _, hoD, _, _⟩ := hns.count hw
  refine PySem.W.set_plain I.kIn (ox := PySem.W.excObj C t1 (some dx) .none) (od := some oD) ⟨ho, rfl, rfl, hoD⟩ T.sa ?_
  refine osa_next SF I.kIn ho hlo T.hdC hno hns hw (by rw [List.length_map]; omega) (fun h' tk' k hn => ?_)
  have hd : ∃ o, h'.get? dx = some o := by
    obtain ⟨o, _, _, e', _⟩ := hn
    exact ⟨o, e'⟩
  exact h _ (I.write (t' := tk') (x := dx) (e := dx) (o := exd dx ((f, y) :: fs)) (by rw [ed]; exact True.intro) (.inl rfl) k hd (exd_ok hn (relO_put ry rel)))
end
end Tp
set_option Elab.async false
set_option linter.all false
set_option maxRecDepth 100000
set_option maxHeartbeats 4000000
/-! rules for exceptions that stand as values -/
namespace Tp
open PySem PySem.Spec PyProof.Rows L2
section
variable {X : Cx} {pins : List (Addr × Obj)} {σ : L2.St} {H : Hp} {s : Shared} {a D C : Addr} {fs : List (Str × V)}
theorem ex_inst (I : Inv X pins σ H s) (h : ExAt H a D fs) : ∃ (ox : Obj) (od : Option Obj), PySem.W.InstAt s.heap a ox D od ∧ ∀ f v, fs.lookup f = some v → ∃ o u, od = some o ∧ PySem.W.lookIn f o = some (some u) ∧ RelV v u := by
  rcases h with ⟨rfl, e⟩ | ⟨dx, _, e, ed⟩
  · obtain ⟨t1, ho⟩ := exo_at I.hok e
    exact ⟨_, none, ⟨ho, rfl, rfl, trivial⟩, fun f v z => by cases z⟩
  · obtain ⟨t1, ho⟩ := exo_at I.hok e
    obtain ⟨mA, hns, rel⟩ := exd_at I.hok ed
    obtain ⟨oD, hoD, hl⟩ := lookIn_ns hns
    refine ⟨_, some oD, ⟨ho, rfl, rfl, hoD⟩, fun f v z => ?_⟩
    obtain ⟨u, hu, ru⟩ := RelO.some_of (v := v) (o := mA f) (by rw [← z]; exact rel f)
    exact ⟨oD, u, rfl, by rw [hl, hu], ru⟩
theorem ex_kit (T : ExK X.K D) {ox : Obj} {od : Option Obj} : PySem.W.KitX X.K (.ref a) (.ref D) (fun h => PySem.W.InstAt h a ox D od) :=
  PySem.W.kitx_exc (by obtain ⟨cd, hc, _⟩ := PySem.W.any_some T.hdC; rw [hc]; rfl) T.ga T.gg T.exC T.ha T.hn T.ht T.hm
end
/-- isinstance(e, c) -/
def rIsx (K : PySem.W.Frag) : List V → Hp → VK → Prop := fun xs H Q => ∃ (a D : Addr) (fs : List (Str × V)) (c : V) (cv : Value) (b : Bool), xs = [.ref a, c] ∧ ExAt H a D fs ∧ ExK K D ∧ ClsV c cv ∧ PySem.W.kitOne K (.ref D) cv = some b ∧ Q (.bl b) H
/-- isinstance(e, (c, ..)) -/
def rIsxT (K : PySem.W.Frag) : List V → Hp → VK → Prop := fun xs H Q => ∃ (a D : Addr) (fs : List (Str × V)) (tp : Addr) (cs : List V) (us : List Value) (b : Bool), xs = [.ref a, .ref tp] ∧ ExAt H a D fs ∧ ExK K D ∧ H tp = some (.tup cs) ∧ Paired ClsV cs us ∧ PySem.W.kitAny K (.ref D) us = some b ∧ Q (.bl b) H
section
variable {X : Cx}
theorem call_isx : CallR X (.builtin "isinstance") (rIsx X.K) := by
  intro pins s σ H xs us Q I r h
  obtain ⟨a, D, fs, c, cv, b, rfl, ha, T, k, e, q⟩ := h
  obtain ⟨u1, u2, rfl, r1, r2⟩ := vals2 r
  cases (show u1 = Value.ref a from r1)
  have e2 := k.eq r2
  subst e2
  obtain ⟨ox, od, J, _⟩ := ex_inst I ha
  exact PySem.W.kia_one (ex_kit T) I.kIn J e (fun z => nomatch z) fun tk => ⟨.bl b, H, I.tok tk, rfl, q⟩
theorem call_isxT : CallR X (.builtin "isinstance") (rIsxT X.K) := by
  intro pins s σ H xs us Q I r h
  obtain ⟨a, D, fs, tp, cs, ws, b, rfl, ha, T, hT, k, e, q⟩ := h
  obtain ⟨u1, u2, rfl, r1, r2⟩ := vals2 r
  cases (show u1 = Value.ref a from r1)
  cases (show u2 = Value.ref tp from r2)
  obtain ⟨ox, od, J, _⟩ := ex_inst I ha
  obtain ⟨_, its, rv, o, h1, h2, n, h3⟩ := (show ObjOk X.prog X.w H s.heap tp (.tup cs) from I.hok tp _ hT)
  have e3 := ClsV.all k rv
  subst e3
  obtain ⟨oc, od', dt, sl⟩ := o
  simp only at h2 h3
  subst h2 h3
  exact PySem.W.kia_tup (ex_kit T) I.kIn J h1 e (fun z => nomatch z) fun tk => ⟨.bl b, H, I.tok tk, rfl, q⟩
end
/-- e.f -/
def tXg (K : PySem.W.Frag) (f : Str) (te : TE) : TE := fun σ H Q => te σ H fun x H1 => ∃ (a D : Addr) (fs : List (Str × V)) (v : V), x = .ref a ∧ ExAt H1 a D fs ∧ ExK K D ∧ PySem.W.findIn K (.ref D) f = some none ∧ fs.lookup f = some v ∧ Q v H1
/-- o.f = e -/
def tOsx (K : PySem.W.Frag) (f : Str) (to te : TE) : TS := fun D σ H => te σ H fun y H1 => to σ H1 fun x H2 => ∃ a C : Addr, x = .ref a ∧ ExK K C ∧ PySem.W.findIn K (.ref C) f = some none ∧
  ((H2 a = some (exo a C none) ∧ ∀ dx, H2 dx = none → dx ≠ a → D.nx σ (upd (upd H2 dx (exd dx [(f, y)])) a (exo a C (some dx)))) ∨
    ∃ (dx : Addr) (fs : List (Str × V)), H2 a = some (exo a C (some dx)) ∧ H2 dx = some (exd dx fs) ∧ fs.length ≤ 900 ∧ D.nx σ (upd H2 dx (exd dx ((f, y) :: fs))))
/-- C(..): its __init__ keeps sp -/
def tMkx (C : Addr) (n m : Nat) (sp : Sp) (gV : List V → List V → List V) (t tk : TA) : TE := fun σ H Q => t σ H fun vs H1 => tk σ H1 fun zs H2 => vs.length = n ∧ zs.length = m ∧ n ≤ 1000 ∧
  ∀ a, H2 a = none → sp (gV (.ref a :: vs) zs) (upd H2 a (exo a C none)) (fun v H3 => v = .non ∧ Q (.ref a) H3) E0
section
variable {X : Cx} {k n : Nat} {C fI : Addr} {fd : FuncData} {ps ks : List Str} {sp : Sp} {x f : Str} {p pos p' : Pos} {e o : Expr} {es : List Expr} {kws : List Keyword} {te to : TE} {t tk : TA}
variable {g : List Value → List Value → List Value} {gV : List V → List V → List V}
theorem pe_xg (he : PE X e te) (hb : attributeBase e f X.env (eval e X.env) = eval e X.env := by rfl) : PE X (.Attribute e f pos) (tXg X.K f te) := by
  refine ⟨fun pins s σ H Q I h => attr_of hb (thn (he.run pins s σ H _ I h) fun u s1 hh => ?_)⟩
  obtain ⟨x, H1, I1, rx, a, D, fs, v, rfl, hA, T, hno, l, q⟩ := hh
  cases (show u = Value.ref a from rx)
  obtain ⟨ox, od, J, hl⟩ := ex_inst I1 hA
  obtain ⟨o, w, rfl, lo, ru⟩ := hl f v l
  exact HandSPX.exc_get I1.kIn J T.ga T.gg T.exC (PySem.W.findObj_own T.hdC hno rfl lo) (handed_of ru) ⟨v, H1, I1.tok _, ru, q⟩
theorem ps_osx (ho : PE X o to) (he : PE X e te) (hs : swapsWith e (some (.Attribute o f p')) pos.line X.env = pure false := by rfl) : PS X (.Assign [.Attribute o f p'] e pos) (tOsx X.K f to te) := by
  refine ⟨fun pins s σ H D I h => ?_⟩
  refine plainObj_wpAny_Assign_Attribute (thn (he.run pins s σ H _ I h) fun v s1 ⟨y, H1, I1, r1, q1⟩ => thn (ho.run pins s1 σ H1 _ I1 q1) fun u s2 hh => ?_) hs
  obtain ⟨x, H2, I2, r2, a, C, rfl, T, hno, q⟩ := hh
  cases (show u = Value.ref a from r2)
  rcases q with ⟨ea, q⟩ | ⟨dx, fs, ea, ed, hl, q⟩
  · exact st_first T I2 ea hno r1 fun dx s' n ne J => ⟨σ, _, J, q dx n ne⟩
  · exact st_next T I2 ea ed hl hno r1 fun s' J => ⟨σ, _, J, q⟩
/-- the call of the class, its arguments told -/
theorem run_mkx {pins : List (Addr × Obj)} {σ : L2.St} {H : Hp} {s : Shared} {Q : VK} {us ws : List Value} {vs zs : List V} (T : ExK X.K C) (iC : PySem.W.findIn X.K (.ref C) "__init__" = some (some (.ref fI))) (tI : PySem.W.typeIn X.K (.ref fI) = some (.type "function"))
    (F : FnOk X.prog X.w X.K X.mg X.base CX0 k fI fd ps sp) (hr : Room (k + 1) X.A) (hb : KBn X.K fd ps (n + 1) ks g gV) (I : Inv X pins σ H s) (r : Vals vs us) (rz : Vals zs ws) (l1 : vs.length = n) (l2 : zs.length = ks.length) (hn : n ≤ 1000)
    (h : ∀ a, H a = none → sp (gV (.ref a :: vs) zs) (upd H a (exo a C none)) (fun v H3 => v = .non ∧ Q (.ref a) H3) E0) :
    wpAny (model X.prog X.w) X.A (call (.ref C) us (ks.zip ws)) (EP X pins σ Q) X.xe s := by
  obtain ⟨newId, line, ⟨B, initId, S, bmB, FB, SF, L⟩, hi, hl⟩ := T.ln
  obtain ⟨nm, N, qn, bs, bm, hdct, sn, sub, ab, col, dd, k0, k1, k2, k3, k5, hC, hT⟩ := PySem.W.excInit_of I.kIn hi
  have L' : LineX B bm := ⟨(hT _).trans L.hB, (hT _).trans L.hA, (hT _).trans L.hN⟩
  obtain ⟨hp, gg, dr, tk, os⟩ := s
  have hsz : hp.objs.size ≤ hp.objs.size + 1 := Nat.le_succ _
  have kk : ∀ b o, hp.get? b = some o → ((hp.push (PySem.W.kdv_tup us)).push (PySem.HandSPX.excO C hp.objs.size)).get? b = some o := fun b o z => Heap.get?_push_of_some _ (Heap.get?_push_of_some _ z)
  have hget : ((hp.push (PySem.W.kdv_tup us)).push (PySem.HandSPX.excO C hp.objs.size)).get? (hp.objs.size + 1) = some (PySem.HandSPX.excO C hp.objs.size) := by heap_get
  have I2 : Inv X pins σ (upd H (hp.objs.size + 1) (exo (hp.objs.size + 1) C none)) ⟨(hp.push (PySem.W.kdv_tup us)).push (PySem.HandSPX.excO C hp.objs.size), gg, dr, tk, os⟩ :=
    I.laid (t' := tk) kk hsz (exo_ok hget)
  have hq := h (hp.objs.size + 1) (I.hok.fresh hsz)
  have r1 : Vals (V.ref (hp.objs.size + 1) :: vs) (Value.ref (hp.objs.size + 1) :: us) := .cons rfl r
  have lu : us.length = n := r.length.symm.trans l1
  have hus : us.length ≤ sizeLine := by
    rw [lu, sizeLine_eq]
    omega
  have e1 : (Value.ref (hp.objs.size + 1) :: us).length = n + 1 := congrArg Nat.succ lu
  have e2 : ws.length = ks.length := rz.length.symm.trans l2
  refine wpAny_call (mk_call FB L' hC hus (PySem.W.looks_findIn I.kIn iC) (fun self => PySem.W.bind_fn I.kIn self tI)
    (codeAny_mono (F.run _ X.stack _ _ ⟨Value.ref (hp.objs.size + 1) :: us, ks.zip ws⟩ (g (Value.ref (hp.objs.size + 1) :: us) ws) _ _ E0 (hr.make C us (ks.zip ws))
      (I2.env0.make C us (ks.zip ws)) (hb.to _ (Value.ref (hp.objs.size + 1) :: us) ws I2.kIn e1 e2) (hb.rel r1 rz) hq) fun r' s' hq' => ?_))
  cases r' with
  | error e => exact False.elim hq'
  | ok fl =>
    cases fl with
    | ret u =>
      obtain ⟨v, H', I3, rv, ev, q3⟩ := I2.after hq'
      subst ev
      exact ⟨rv, ⟨V.ref (hp.objs.size + 1), H', I3, rfl, q3⟩⟩
    | next => exact False.elim hq'
    | brk => exact False.elim hq'
    | cont => exact False.elim hq'
/-- what a caller knows of an own class of exceptions: its __init__ -/
structure Cx1 (P : Program) (w : World) (K : PySem.W.Frag) (mg : Str → Option Value) (base : Heap) (x : Str) (C : Addr) (n : Nat) (ks : List Str) (sp : Sp) (gV : List V → List V → List V) : Prop where
  ex : ∃ (fI : Addr) (fd : FuncData) (ps : List Str) (g : List Value → List Value → List Value), ExK K C ∧ mg x = some (.ref C) ∧ PySem.W.findIn K (.ref C) "__init__" = some (some (.ref fI)) ∧ PySem.W.typeIn K (.ref fI) = some (.type "function") ∧
    FnOk P w K mg base CX0 1 fI fd ps sp ∧ KBn K fd ps (n + 1) ks g gV
/-- C(e, ..) -/
theorem pe_mkx (c : Cx1 X.prog X.w X.K X.mg X.base x C n [] sp gV) (hr : Room 2 X.A) (hg : Gl X x) (ha : PA X (e :: es) t)
    (hdb : (x == ("__debug__" : Str)) = false := by decide) (he : starEach (e :: es) X.env = (false, eval e X.env) :: starEach es X.env := by rfl) (hpl : (backTo pos (starEach es X.env)).any (·.1) = false := by rfl) :
    PE X (.Call (.Name x p) (e :: es) [] pos) (tMkx C n 0 sp gV t tNil) := by
  obtain ⟨fI, fd, ps, g, T, hm, iC, tI, F, hb⟩ := c.ex
  refine ⟨fun pins s σ H Q I h => wpAny_Call_Name_kw (ld_glob I hg hm ?_ hdb)⟩
  refine PySem.W.callWith_K (h₀ := X.base) I.ok.mod.kin T.kC (thn (ha.run pos pins s σ H _ I h) fun us s1 hh => ?_) he hpl
  obtain ⟨vs, H1, I1, r, l1, _, hn, q⟩ := hh
  exact ⟨I1.kIn, run_mkx T iC tI F hr hb I1 r (ws := []) .nil l1 rfl hn q⟩
/-- C(k = e, ..) -/
theorem pe_mkk (c : Cx1 X.prog X.w X.K X.mg X.base x C 0 ks sp gV) (hr : Room 2 X.A) (hg : Gl X x) (hkw : PK X kws tk)
    (hall : (backToKw pos (keywordEach kws X.env)).all (·.1.isSome) = true := by rfl) (hks : (backToKw pos (keywordEach kws X.env)).filterMap (·.1) = ks := by rfl) (hdb : (x == ("__debug__" : Str)) = false := by decide)
    (hpl : ((backTo pos (starEach [] X.env)).any (·.1) || (backToKw pos (keywordEach kws X.env)).any (·.1.isNone)) = false := by rfl) :
    PE X (.Call (.Name x p) [] kws pos) (tMkx C 0 ks.length sp gV tNil tk) := by
  obtain ⟨fI, fd, ps, g, T, hm, iC, tI, F, hb⟩ := c.ex
  refine ⟨fun pins s σ H Q I h => wpAny_Call_Name_kw (ld_glob I hg hm ?_ hdb)⟩
  refine PySem.W.callWith_KW0 (h₀ := X.base) I.ok.mod.kin T.kC hall (thn (hkw.run pos pins s σ H _ I h) fun ws s2 hh => ?_) hpl
  obtain ⟨zs, H2, I2, rz, l1, l2, hn, q⟩ := hh
  refine ⟨I2.kIn, ?_⟩
  rw [hks]
  exact run_mkx T iC tI F hr hb I2 .nil rz l1 l2 hn q
/-- C() -/
theorem pe_mk0 (c : Cx1 X.prog X.w X.K X.mg X.base x C 0 [] sp gV) (hr : Room 2 X.A) (hg : Gl X x) (hdb : (x == ("__debug__" : Str)) = false := by decide) :
    PE X (.Call (.Name x p) [] [] pos) (tMkx C 0 0 sp gV tNil tNil) := by
  obtain ⟨fI, fd, ps, g, T, hm, iC, tI, F, hb⟩ := c.ex
  refine ⟨fun pins s σ H Q I h => wpAny_Call_Name_kw (ld_glob I hg hm ?_ hdb)⟩
  obtain ⟨_, _, hn, q⟩ := h
  exact PySem.W.callWith_K0 (I.tok _).kIn T.kC (run_mkx T iC tI F hr hb (I.tok _) .nil (ws := []) .nil rfl rfl hn q)
/-- what makes an exception as a value may be raised -/
theorem pmk_x (hx : X.ex = []) (he : PE X e te) :
    PMk X e (fun σ H Q => te σ H fun x H1 => ∃ (a C : Addr) (d : Option Addr), x = .ref a ∧ H1 a = some (exo a C d) ∧ Fr0 X.H_0 a ∧ ExK X.K C ∧ Q (.ref C) d (delH H1 a)) := by
  intro pins s σ H Q I h
  refine wpAny_mono (he.run pins s σ H _ I h) (fun u s1 hu => ?_) fun _ _ x => x
  obtain ⟨v, H1, I1, r1, a, C, d, rfl, ha, h0, T, q⟩ := hu
  cases (show u = Value.ref a from r1)
  obtain ⟨t1, ho⟩ := exo_at I1.hok ha
  obtain ⟨G, gs, ga, J⟩ := I1.untrack ha h0 hx
  exact ⟨a, _, _, { s1 with heap := G }, delH H1 a, .ref C, d, rfl, J, gs, ga, ho, ⟨rfl, rfl⟩, rfl, rfl, delH_same, rfl, I1.bare, raises_own T.exC T.tyC, q⟩
end
end Tp
set_option Elab.async false
set_option linter.all false
set_option maxRecDepth 100000
set_option maxHeartbeats 4000000
/-! what an __init__ that stores its arguments leaves; making such an exception -/
namespace Tp
open PySem PySem.Spec PyProof.Rows L2
def Has (fs : List (Str × V)) (ns : List Str) (vs : List V) : Prop := ∀ (k : Nat) (n : Str) (v : V), ns[k]? = some n → vs[k]? = some v → fs.lookup n = some v
def ExI (H : Hp) (a C : Addr) (ns : List Str) (vs : List V) : Prop := ∃ fs, ExAt H a C fs ∧ Has fs ns vs
theorem ExAt.mono {H H' : Hp} {a C : Addr} {fs : List (Str × V)} (k : Same H H') (h : ExAt H a C fs) : ExAt H' a C fs := by
  rcases h with ⟨e, h⟩ | ⟨dx, n, h1, h2⟩
  · exact .inl ⟨e, k _ _ h⟩
  · exact .inr ⟨dx, n, k _ _ h1, k _ _ h2⟩
theorem ExI.mono {H H' : Hp} {a C : Addr} {ns : List Str} {vs : List V} (k : Same H H') (h : ExI H a C ns vs) : ExI H' a C ns vs := by
  obtain ⟨fs, h1, h2⟩ := h
  exact ⟨fs, h1.mono k, h2⟩
/-- an __init__ that stores its arguments under the names ns -/
def spI (C : Addr) (ns : List Str) : Sp := fun vs H Q _ => ∃ (a : Addr) (xs : List V), vs = .ref a :: xs ∧ xs.length = ns.length ∧ H a = some (exo a C none) ∧ ∀ H', Keep a H H' → ExI H' a C ns xs → Q .non H'
section
variable {K : PySem.W.Frag} {C : Addr} {vs : List V} {H : Hp} {Q : VK} {E : XK} {n m : Str}
theorem ini_len {ns : List Str} (h : spI C ns vs H Q E) : vs.length = (("self" : Str) :: ns).length := by
  obtain ⟨a, xs, rfl, hl, _⟩ := h
  exact congrArg Nat.succ hl
theorem ini0 (h : spI C [] vs H Q E) : ∃ a, vs = [.ref a] ∧ Q .non H := by
  obtain ⟨a, xs, rfl, hl, ha, q⟩ := h
  cases xs with
  | cons x xs => cases hl
  | nil => exact ⟨a, rfl, q H (fun b o _ e => e) ⟨[], .inl ⟨rfl, ha⟩, fun k n v z _ => by cases z⟩⟩
theorem ini1 (h : spI C [n] vs H Q E) : ∃ (a : Addr) (x : V), vs = [.ref a, x] ∧ (ExK K C → PySem.W.findIn K (.ref C) n = some none →
    ∃ a' C' : Addr, V.ref a = .ref a' ∧ ExK K C' ∧ PySem.W.findIn K (.ref C') n = some none ∧ ((H a' = some (exo a' C' none) ∧ ∀ dx, H dx = none → dx ≠ a' → Q .non (upd (upd H dx (exd dx [(n, x)])) a' (exo a' C' (some dx)))) ∨
      ∃ (dx : Addr) (fs : List (Str × V)), H a' = some (exo a' C' (some dx)) ∧ H dx = some (exd dx fs) ∧ fs.length ≤ 900 ∧ Q .non (upd H dx (exd dx ((n, x) :: fs))))) := by
  obtain ⟨a, xs, rfl, hl, ha, q⟩ := h
  match xs, hl with
  | [x], _ =>
    refine ⟨a, x, rfl, fun T hn => ⟨a, C, rfl, T, hn, .inl ⟨ha, fun dx hd hne => q _ (fun b o hb e => ?_) ⟨[(n, x)], .inr ⟨dx, hne, upd_same, ?_⟩, fun k n' v h1 h2 => ?_⟩⟩⟩⟩
    · exact (upd_ne hb).trans ((upd_ne (ne_of_none e hd)).trans e)
    · exact (upd_ne hne).trans upd_same
    · cases k with
      | zero =>
        cases h1
        cases h2
        rw [lookup_put, if_pos rfl]
      | succ k => cases h1
theorem ini2 (hnm : n ≠ m) (h : spI C [n, m] vs H Q E) : ∃ (a : Addr) (x y : V), vs = [.ref a, x, y] ∧ (ExK K C → PySem.W.findIn K (.ref C) n = some none → PySem.W.findIn K (.ref C) m = some none → ∀ N : Hp → Prop,
    (∀ H2, (∃ a' C' : Addr, V.ref a = .ref a' ∧ ExK K C' ∧ PySem.W.findIn K (.ref C') m = some none ∧ ((H2 a' = some (exo a' C' none) ∧ ∀ dx, H2 dx = none → dx ≠ a' → Q .non (upd (upd H2 dx (exd dx [(m, y)])) a' (exo a' C' (some dx)))) ∨
      ∃ (dx : Addr) (fs : List (Str × V)), H2 a' = some (exo a' C' (some dx)) ∧ H2 dx = some (exd dx fs) ∧ fs.length ≤ 900 ∧ Q .non (upd H2 dx (exd dx ((m, y) :: fs))))) → N H2) →
    ∃ a' C' : Addr, V.ref a = .ref a' ∧ ExK K C' ∧ PySem.W.findIn K (.ref C') n = some none ∧ ((H a' = some (exo a' C' none) ∧ ∀ dx, H dx = none → dx ≠ a' → N (upd (upd H dx (exd dx [(n, x)])) a' (exo a' C' (some dx)))) ∨
      ∃ (dx : Addr) (fs : List (Str × V)), H a' = some (exo a' C' (some dx)) ∧ H dx = some (exd dx fs) ∧ fs.length ≤ 900 ∧ N (upd H dx (exd dx ((n, x) :: fs))))) := by
  obtain ⟨a, xs, rfl, hl, ha, q⟩ := h
  match xs, hl with
  | [x, y], _ =>
    refine ⟨a, x, y, rfl, fun T hn hm N hN => ⟨a, C, rfl, T, hn, .inl ⟨ha, fun dx hd hne => hN _ ⟨a, C, rfl, T, hm, .inr ⟨dx, _, upd_same, (upd_ne hne).trans upd_same, Nat.le_of_ble_eq_true rfl, ?_⟩⟩⟩⟩⟩
    have hne' : a ≠ dx := Ne.symm hne
    refine q _ (fun b o hb e => ?_) ⟨[(m, y), (n, x)], .inr ⟨dx, hne, (upd_ne hne').trans upd_same, upd_same⟩, fun k n' v h1 h2 => ?_⟩
    · have e1 : b ≠ dx := ne_of_none e hd
      exact (upd_ne e1).trans ((upd_ne hb).trans ((upd_ne e1).trans e))
    · match k with
      | 0 =>
        cases h1
        cases h2
        rw [lookup_put, if_neg hnm, lookup_put, if_pos rfl]
      | 1 =>
        cases h1
        cases h2
        rw [lookup_put, if_pos rfl]
      | k + 2 => cases h1
end
/-- an exception of C is made, its fields the values -/
def tMke (C : Addr) (ns : List Str) (t : TA) : TE := fun σ H Q => t σ H fun vs H1 => vs.length = ns.length ∧ ns.length ≤ 1000 ∧ ∀ a H', H1 a = none → Same H1 H' → ExI H' a C ns vs → Q (.ref a) H'
theorem PE.of {X : Cx} {e : Expr} {t t' : TE} (h : PE X e t) (k : ∀ σ H Q, t' σ H Q → t σ H Q) : PE X e t' := ⟨fun pins s σ H Q I q => h.run pins s σ H Q I (k σ H Q q)⟩
/-- by keywords: pm puts their values in the fields' order -/
def tMkk (C : Addr) (ns : List Str) (m : Nat) (pm : List V → List V) (tk : TA) : TE := fun σ H Q => tk σ H fun zs H1 => zs.length = m ∧ (pm zs).length = ns.length ∧ ∀ a H', H1 a = none → Same H1 H' → ExI H' a C ns (pm zs) → Q (.ref a) H'
theorem spI_of {C a : Addr} {ns : List Str} {H1 : Hp} {Q : VK} {ws : List V} (hl : ws.length = ns.length) (ha : H1 a = none) (q : ∀ a H', H1 a = none → Same H1 H' → ExI H' a C ns ws → Q (.ref a) H') : spI C ns (.ref a :: ws) (upd H1 a (exo a C none)) (fun v H3 => v = .non ∧ Q (.ref a) H3) E0 :=
  ⟨a, ws, rfl, hl, upd_same, fun H' k h => ⟨rfl, q a H' ha (fun b o eb => k b o (ne_of_none eb ha) ((upd_ne (ne_of_none eb ha)).trans eb)) h⟩⟩
section
variable {X : Cx} {n : Nat} {C : Addr} {ks ns : List Str} {x : Str} {p pos : Pos} {e : Expr} {es : List Expr} {kws : List Keyword} {t tk : TA} {pm : List V → List V}
/-- C(e, ..) -/
theorem pe_mke (c : Cx1 X.prog X.w X.K X.mg X.base x C ns.length [] (spI C ns) (fun vs _ => vs)) (hr : Room 2 X.A) (hg : Gl X x) (ha : PA X (e :: es) t)
    (hdb : (x == ("__debug__" : Str)) = false := by decide) (he : starEach (e :: es) X.env = (false, eval e X.env) :: starEach es X.env := by rfl) (hpl : (backTo pos (starEach es X.env)).any (·.1) = false := by rfl) :
    PE X (.Call (.Name x p) (e :: es) [] pos) (tMke C ns t) := by
  obtain ⟨fI, fd, ps, g, T, hm, iC, tI, F, hb⟩ := c.ex
  refine ⟨fun pins s σ H Q I h => wpAny_Call_Name_kw (ld_glob I hg hm ?_ hdb)⟩
  refine PySem.W.callWith_K (h₀ := X.base) I.ok.mod.kin T.kC (thn (ha.run pos pins s σ H _ I h) fun us s1 hh => ?_) he hpl
  obtain ⟨vs, H1, I1, r, l1, hn, q⟩ := hh
  exact ⟨I1.kIn, run_mkx T iC tI F hr hb I1 r (ws := []) .nil l1 rfl hn fun a ha => spI_of l1 ha q⟩
/-- C(k = e, ..) -/
theorem pe_mkke (c : Cx1 X.prog X.w X.K X.mg X.base x C 0 ks (spI C ns) (fun vs zs => vs ++ pm zs)) (hr : Room 2 X.A) (hg : Gl X x) (hkw : PK X kws tk)
    (hall : (backToKw pos (keywordEach kws X.env)).all (·.1.isSome) = true := by rfl) (hks : (backToKw pos (keywordEach kws X.env)).filterMap (·.1) = ks := by rfl) (hdb : (x == ("__debug__" : Str)) = false := by decide)
    (hpl : ((backTo pos (starEach [] X.env)).any (·.1) || (backToKw pos (keywordEach kws X.env)).any (·.1.isNone)) = false := by rfl) :
    PE X (.Call (.Name x p) [] kws pos) (tMkk C ns ks.length pm tk) := by
  obtain ⟨fI, fd, ps, g, T, hm, iC, tI, F, hb⟩ := c.ex
  refine ⟨fun pins s σ H Q I h => wpAny_Call_Name_kw (ld_glob I hg hm ?_ hdb)⟩
  refine PySem.W.callWith_KW0 (h₀ := X.base) I.ok.mod.kin T.kC hall (thn (hkw.run pos pins s σ H _ I h) fun ws s2 hh => ?_) hpl
  obtain ⟨zs, H2, I2, rz, l2, l3, q⟩ := hh
  refine ⟨I2.kIn, ?_⟩
  rw [hks]
  exact run_mkx T iC tI F hr hb I2 .nil rz rfl l2 (Nat.zero_le _) fun a ha => spI_of l3 ha q
/-- C() -/
theorem pe_mk0e (c : Cx1 X.prog X.w X.K X.mg X.base x C 0 [] (spI C []) (fun vs _ => vs)) (hr : Room 2 X.A) (hg : Gl X x) (hdb : (x == ("__debug__" : Str)) = false := by decide) :
    PE X (.Call (.Name x p) [] [] pos) (tMke C [] tNil) := by
  obtain ⟨fI, fd, ps, g, T, hm, iC, tI, F, hb⟩ := c.ex
  refine ⟨fun pins s σ H Q I h => wpAny_Call_Name_kw (ld_glob I hg hm ?_ hdb)⟩
  obtain ⟨_, _, q⟩ := h
  exact PySem.W.callWith_K0 (I.tok _).kIn T.kC (run_mkx T iC tI F hr hb (I.tok _) .nil (ws := []) .nil rfl rfl (Nat.zero_le _) fun a ha => spI_of rfl ha q)
/-- many made at once: what each is -/
def Many (H : Hp) : List Addr → List (Addr × List Str × List V) → Prop
  | [], [] => True
  | a :: as, c :: cs => ExI H a c.1 c.2.1 c.2.2 ∧ Many H as cs
  | _, _ => False
theorem Many.mono {H H' : Hp} (k : Same H H') : ∀ {as : List Addr} {cs : List (Addr × List Str × List V)}, Many H as cs → Many H' as cs
  | [], [], _ => True.intro
  | a :: as, c :: cs, h => ⟨h.1.mono k, Many.mono k h.2⟩
  | [], _ :: _, h => h.elim
  | _ :: _, [], h => h.elim
theorem Many.app {H : Hp} {bs : List Addr} {ds : List (Addr × List Str × List V)} (k : Many H bs ds) : ∀ {as : List Addr} {cs : List (Addr × List Str × List V)}, Many H as cs → Many H (as ++ bs) (cs ++ ds)
  | [], [], _ => k
  | a :: as, c :: cs, h => ⟨h.1, Many.app k h.2⟩
  | [], _ :: _, h => h.elim
  | _ :: _, [], h => h.elim
theorem Many.len {H : Hp} : ∀ {as : List Addr} {cs : List (Addr × List Str × List V)}, Many H as cs → as.length = cs.length
  | [], [], _ => rfl
  | a :: as, c :: cs, h => congrArg Nat.succ (Many.len h.2)
  | [], _ :: _, h => h.elim
  | _ :: _, [], h => h.elim
theorem Many.get {H : Hp} : ∀ {as : List Addr} {cs : List (Addr × List Str × List V)} (i : Nat) (a : Addr) (c : Addr × List Str × List V), Many H as cs → as[i]? = some a → cs[i]? = some c → ExI H a c.1 c.2.1 c.2.2
  | [], [], i, a, c, _, h1, _ => by cases h1
  | a :: as, c :: cs, 0, _, _, h, h1, h2 => by
    cases h1
    cases h2
    exact h.1
  | a :: as, c :: cs, i + 1, _, _, h, h1, h2 => Many.get i _ _ h.2 h1 h2
  | [], _ :: _, _, _, _, h, _, _ => h.elim
  | _ :: _, [], _, _, _, h, _, _ => h.elim
/-- a row of arguments, each of which makes an exception of what σ tells -/
def tMany (cs : L2.St → Option (List (Addr × List Str × List V))) : TA := fun σ H Q => ∃ c, cs σ = some c ∧ ∀ as H', Same H H' → Many H' as c → Q (as.map V.ref) H'
/-- one expression that makes one -/
def tOne (c : L2.St → Option (Addr × List Str × List V)) : TE := fun σ H Q => ∃ d, c σ = some d ∧ ∀ a H', H a = none → Same H H' → ExI H' a d.1 d.2.1 d.2.2 → Q (.ref a) H'
theorem pa_many0 : PA X [] (tMany fun _ => some []) := ⟨fun pos pins s σ H Q I h => by
  obtain ⟨c, e, q⟩ := h
  cases e
  exact pa_nil.run pos pins s σ H Q I (q [] H (fun _ _ e => e) True.intro)⟩
theorem pa_many {c : L2.St → Option (Addr × List Str × List V)} {cs : L2.St → Option (List (Addr × List Str × List V))} (h1 : PE X e (tOne c)) (h2 : PA X es (tMany cs)) (he : starEach (e :: es) X.env = (false, eval e X.env) :: starEach es X.env := by rfl) :
    PA X (e :: es) (tMany fun σ => (c σ).bind fun d => (cs σ).map fun ds => d :: ds) := ⟨fun pos pins s σ H Q I h => by
  obtain ⟨l, el, q⟩ := h
  obtain ⟨d, ed, el⟩ := Option.bind_eq_some_iff.mp el
  obtain ⟨ds, eds, rfl⟩ := Option.map_eq_some_iff.mp el
  refine (pa_cons h1 h2 he).run pos pins s σ H Q I ⟨d, ed, fun a H1 _ k1 x1 => ⟨ds, eds, fun as H2 k2 x2 => q (a :: as) H2 (fun b o eb => k2 b o (k1 b o eb)) ⟨x1.mono k2, x2⟩⟩⟩⟩
/-- the value of slot i, m times -/
theorem pa_rep {i : Nat} : ∀ {es : List Expr}, True → True := fun _ => True.intro
end
end Tp
set_option Elab.async false
set_option linter.all false
set_option maxRecDepth 100000
set_option maxHeartbeats 4000000
namespace T01
open PySem PySem.Spec PyProof.Rows L2 Tp
def top (i : Nat) : Stmt := PySem.Challenge.pw_toldpast_k01_exceptions.main.body.getD i (.Pass ⟨0, 0, 0, 0⟩)

abbrev sCell : Stmt := top 40
abbrev sBox : Stmt := top 41
abbrev sTake : Stmt := top 42
section
variable {P : Program} {w : World} {K : PySem.W.Frag} {mg : Str → Option Value} {base : Heap} {f : Addr} {fd : FuncData}
theorem scCell : FnScope ["_law_script", "_law_k"] ["_law_script", "_law_k"] (defScope sCell) := ⟨rfl, rfl, rfl, by decide +kernel, rfl, by decide +kernel, by decide +kernel⟩
theorem ok_cell (F : Fun K "_law_cell" "_law_cell" sCell f fd) (mL : mg "len" = none) : FnG P w K mg base CX0 1 f fd ["_law_script", "_law_k"] (Tp.spCell K) := by
  refine FunG.ok F scCell (fun vs H Q E h => ?_) (fun cdv B out s H vs Q E hr hG h => ?_)
  · obtain ⟨a, ns, k, rfl, _⟩ := h
    rfl
  · obtain ⟨a, ns, k, rfl, hs, hl, hk, q⟩ := h
    refine ⟨_, pss_cons (ps_if (pt_cmpR op_lt (pv 1) (pe_callB call_len (by rfl) mL PySem.boot_len (pa_cons (pv 0) pa_nil)) (nomark _)) (pss_one (ps_ret (pe_ix ix_list (pv 0) (pv 1) fun _ _ => rfl))) pss_nil)
      (pss_one (ps_ret (pe_op op_add (pe_op op_mul pe_int (pv 1)) pe_int))), ?_⟩
    refine ⟨_, rfl, _, rfl, _, _, rfl, .inl ⟨_, hs, rfl⟩, _, _, rfl, rfl, _, rfl, ?_⟩
    refine ite2 (fun hlt => ?_) (fun hge => ?_)
    · have hlt' := of_decide_eq_true hlt
      rw [List.length_map] at hlt'
      have hkl : k < ns.length := by omega
      refine ⟨_, rfl, _, rfl, a, _, _, .int (ns[k]), rfl, rfl, hs, atI_nat ?_, q _⟩
      rw [List.getElem?_map, List.getElem?_eq_getElem hkl]
      rfl
    · refine ⟨_, rfl, _, _, rfl, rfl, .inl ⟨by decide, by decide⟩, _, _, rfl, rfl, q _⟩
theorem scBox : FnScope ["_law_cell_here"] ["_law_cell_here"] (defScope sBox) := ⟨rfl, rfl, rfl, by decide +kernel, rfl, by decide +kernel, by decide +kernel⟩
theorem ok_box (F : Fun K "_law_box" "_law_box" sBox f fd) (mM : mg "max" = none) : FnG P w K mg base CX0 1 f fd ["_law_cell_here"] spBox := by
  refine FunG.ok F scBox (fun vs H Q E h => ?_) (fun cdv B out s H vs Q E hr hG h => ?_)
  · obtain ⟨z, rfl, _⟩ := h
    rfl
  · obtain ⟨z, rfl, q⟩ := h
    refine ⟨_, pss_one (ps_ret (pe_lst (pa_cons (pe_callB (call_max2 rfl) (by rfl) mM (by decide +kernel) (pa_cons pe_int (pa_cons (pe_op op_sub (pv 0) (pe_op op_pow pe_int pe_int)) pa_nil)))
      (pa_cons (pe_op op_mod (pv 0) pe_int) (pa_cons pe_int pa_nil))))), ?_⟩
    refine ⟨_, rfl, _, _, rfl, rfl, ⟨by decide, by decide, by decide⟩, _, _, rfl, rfl, _, _, rfl, _, rfl, _, _, rfl, rfl, (by decide : (0:Int) < 2147483629), ?_⟩
    refine ⟨(by show 3 ≤ sizeLine; decide), fun p hp => ?_⟩
    refine q p _ hp ⟨_, _, _, upd_same, ?_, Int.emod_nonneg _ (by decide), Int.emod_lt_of_pos _ (by decide), by decide, by decide⟩ Keep.put
    split <;> omega
theorem scTake : FnScope ["_law_box_here", "_law_many", "_law_digit", "_law_mixed"] ["_law_box_here", "_law_many"] (defScope sTake) := ⟨rfl, rfl, rfl, by decide +kernel, rfl, by decide +kernel, by decide +kernel⟩
theorem pow_small {x : Int} {b : Nat} (h0 : 0 ≤ x) (h : x < 2 ^ 63) : x.natAbs < 2 ^ 64 := by omega
theorem ok_take (F : Fun K "_law_take" "_law_take" sTake f fd) : FnG P w K mg base CX0 1 f fd ["_law_box_here", "_law_many"] spTake := by
  refine FunG.ok F scTake (fun vs H Q E h => ?_) (fun cdv B out s H vs Q E hr hG h => ?_)
  · obtain ⟨p, m, n, rfl, _⟩ := h
    rfl
  · obtain ⟨p, m, n, rfl, ⟨a, b, c, hp, ha, hb, hb2, hc, hcn⟩, hm, hm2, hn, q⟩ := h
    refine ⟨_, pss_cons (ps_if (pt_cmpR op_gt (pe_ix ix_list (pv 0) pe_int fun _ _ => rfl) pe_int (nomark _))
        (pss_cons (ps_set (i := 2) scTake.nd rfl (.inl rfl) (pe_op op_mod (pe_ix ix_list (pv 0) pe_int fun _ _ => rfl) (pv 1)))
          (pss_cons (ps_asg (pe_op op_fdivW (pe_ix ix_list (pv 0) pe_int fun _ _ => rfl) (pv 1)) (pg_sub (pv 0) pe_int set_list))
            (pss_one (ps_ret (pv 2))))) pss_nil)
      (pss_cons (ps_asg (pe_op op_add (pe_ix ix_list (pv 0) pe_int fun _ _ => rfl) pe_int) (pg_sub (pv 0) pe_int set_list))
        (pss_cons (ps_set (i := 3) scTake.nd rfl (.inl rfl) (pe_op op_mod (pe_op op_pow (pe_op op_add (pe_op op_add (pe_ix ix_list (pv 0) pe_int fun _ _ => rfl) (pe_op op_mul pe_int (pe_ix ix_list (pv 0) pe_int fun _ _ => rfl))) pe_int) pe_int) pe_int))
          (pss_cons (ps_set (i := 3) scTake.nd rfl (.inl rfl) (pe_op op_mod (pe_op op_pow (pe_op op_add (pv 3) (pe_op op_mul pe_int (pe_ix ix_list (pv 0) pe_int fun _ _ => rfl))) pe_int) pe_int))
            (pss_one (ps_ret (pe_op op_mod (pe_op op_fdiv (pv 3) pe_int) (pv 1))))))), ?_⟩
    have sq : SqL K H p [V.int a, V.int b, V.int c] := SqL.of hp
    refine ⟨_, rfl, p, _, _, .int a, rfl, rfl, sq, rfl, _, _, rfl, rfl, _, rfl, ?_⟩
    refine ite2 (fun h1 => ?_) (fun h1 => ?_)
    · have h1' := of_decide_eq_true h1
      refine ⟨_, rfl, p, _, _, .int a, rfl, rfl, sq, rfl, _, rfl, _, _, rfl, rfl, hm, ?_⟩
      refine ⟨_, rfl, p, _, _, .int a, rfl, rfl, sq, rfl, _, rfl, _, _, rfl, rfl, ⟨hm, by omega⟩, _, rfl, p, _, _, 0, rfl, rfl, hp, rfl, ?_⟩
      refine ⟨_, rfl, q _ _ (Int.emod_nonneg _ (by omega)) (Int.emod_lt_of_pos _ hm) ⟨_, _, _, upd_same, ?_, hb, hb2, hc, by omega⟩ fun x hx => upd_ne hx⟩
      exact Int.ediv_nonneg (by omega) (by omega)
    · have sq2 : SqL K (upd H p (.lst [.int a, .int b, .int (c + 1)])) p [V.int a, V.int b, V.int (c + 1)] := SqL.of upd_same
      refine ⟨_, rfl, p, _, _, .int c, rfl, rfl, sq, rfl, _, _, rfl, rfl, _, rfl, p, _, _, 2, rfl, rfl, hp, rfl, ?_⟩
      refine ⟨_, rfl, p, _, _, .int b, rfl, rfl, sq2, rfl, _, rfl, p, _, _, .int (c + 1), rfl, rfl, sq2, rfl, _, _, rfl, rfl, .inl ⟨by decide, by decide⟩, _, _, rfl, rfl, _, _, rfl, rfl, _, _, rfl, rfl, ⟨by decide, by decide, by omega⟩, _, _, rfl, rfl, (by decide : (0 : Int) < 2147483647), ?_⟩
      have hx1 := Int.emod_nonneg ((b + 15486047 * (c + 1) + 1237) ^ (5 : Int).toNat) (by decide : (2147483647 : Int) ≠ 0)
      have hx2 := Int.emod_lt_of_pos ((b + 15486047 * (c + 1) + 1237) ^ (5 : Int).toNat) (by decide : (0 : Int) < 2147483647)
      generalize (b + 15486047 * (c + 1) + 1237) ^ (5 : Int).toNat % 2147483647 = y at hx1 hx2 ⊢
      refine ⟨_, rfl, _, rfl, p, _, _, .int (c + 1), rfl, rfl, sq2, rfl, _, _, rfl, rfl, .inl ⟨by decide, by decide⟩, _, _, rfl, rfl, _, _, rfl, rfl, ⟨by decide, by decide, by omega⟩, _, _, rfl, rfl, (by decide : (0 : Int) < 2147483587), ?_⟩
      generalize (y + 104711 * (c + 1)) ^ (3 : Int).toNat % 2147483587 = z
      refine ⟨_, rfl, _, _, rfl, rfl, ⟨by decide, by decide⟩, _, rfl, _, _, rfl, rfl, hm, ?_⟩
      exact q _ _ (Int.emod_nonneg _ (by omega)) (Int.emod_lt_of_pos _ hm) ⟨_, _, _, upd_same, ha, hb, hb2, by omega, by omega⟩ fun x hx => upd_ne hx
end

/-- the classes, in the law's order; behind them the three bases -/
def nms : List Str := [("InvalidInteger" : Str), ("InvalidPart" : Str), ("InvalidName" : Str), ("Duplicate" : Str), ("InvalidRow" : Str), ("InvalidEdge" : Str), ("InvalidNet" : Str), ("Ring" : Str), ("Dry" : Str), ("Idle" : Str), ("InvalidBook" : Str), ("InvalidTurn" : Str), ("InvalidMeaning" : Str), ("InvalidValues" : Str), ("InvalidString" : Str), ("InvalidLine" : Str), ("DuplicateTerm" : Str), ("Mismatch" : Str), ("InvalidLags" : Str), ("InvalidStep" : Str), ("InvalidWish" : Str), ("InvalidCommand" : Str), ("UnknownSource" : Str), ("UnknownGate" : Str), ("UnknownEdge" : Str), ("UnknownSymbol" : Str), ("UnknownSample" : Str), ("UnknownTerm" : Str), ("NoTurn" : Str), ("TooLong" : Str), ("TooShort" : Str), ("TooDeep" : Str), ("TooMany" : Str), ("EmptyLoop" : Str), ("NothingToUndo" : Str), ("NetError" : Str), ("MissingError" : Str), ("StateError" : Str)]
def fns : List (List Str) := [[("value" : Str)], [("value" : Str)], [("value" : Str)], [("name" : Str)], [("value" : Str)], [("value" : Str)], [("value" : Str)], [("gates" : Str)], [("name" : Str)], [("name" : Str)], [("value" : Str)], [("value" : Str)], [("value" : Str)], [("value" : Str)], [("value" : Str)], [("index" : Str)], [("number" : Str)], [("other" : Str)], [("value" : Str)], [("value" : Str)], [("value" : Str)], [("value" : Str)], [("name" : Str)], [("name" : Str)], [("reader" : Str), ("slot" : Str)], [("name" : Str)], [("name" : Str), ("index" : Str)], [("number" : Str)], [], [("number" : Str)], [("reader" : Str), ("slot" : Str)], [("name" : Str)], [("most" : Str)], [("out" : Str)], []]
def nm (i : Nat) : Str := nms.getD i ""
def fnm (i : Nat) : List Str := fns.getD i []
def up (i : Nat) : Nat := if i < 22 then 35 else if i < 28 then 36 else if i < 35 then 37 else i
section
variable {P : Program} {w : World} {K : PySem.W.Frag} {mg : Str → Option Value} {base : Heap} {f C : Addr} {fd : FuncData}
abbrev sI0 : Stmt := inClass (top 4) 0
theorem sc0 : FnScope ["self", "value"] ["self", "value"] (defScope sI0) := ⟨rfl, rfl, rfl, by decide +kernel, rfl, by decide +kernel, by decide +kernel⟩
theorem ok_i0 (F : Fun K "__init__" "InvalidInteger.__init__" sI0 f fd) (T : ExK K C) (n0 : PySem.W.findIn K (.ref C) "value" = some none) : FnOk P w K mg base CX0 1 f fd ["self", "value"] (spI C ["value"]) := by
  exact F.ok sc0 (fun vs H Q E h => ini_len h) (fun cdv A outer s H vs Q E hr h => by
    obtain ⟨a, x, rfl, q⟩ := ini1 h
    exact ⟨_, PSs.nox (pss_one (ps_osx (pv 0) (pv 1))), _, rfl, _, rfl, q T n0⟩)
abbrev sI1 : Stmt := inClass (top 5) 0
theorem sc1 : FnScope ["self", "value"] ["self", "value"] (defScope sI1) := ⟨rfl, rfl, rfl, by decide +kernel, rfl, by decide +kernel, by decide +kernel⟩
theorem ok_i1 (F : Fun K "__init__" "InvalidPart.__init__" sI1 f fd) (T : ExK K C) (n0 : PySem.W.findIn K (.ref C) "value" = some none) : FnOk P w K mg base CX0 1 f fd ["self", "value"] (spI C ["value"]) := by
  exact F.ok sc1 (fun vs H Q E h => ini_len h) (fun cdv A outer s H vs Q E hr h => by
    obtain ⟨a, x, rfl, q⟩ := ini1 h
    exact ⟨_, PSs.nox (pss_one (ps_osx (pv 0) (pv 1))), _, rfl, _, rfl, q T n0⟩)
abbrev sI2 : Stmt := inClass (top 6) 0
theorem sc2 : FnScope ["self", "value"] ["self", "value"] (defScope sI2) := ⟨rfl, rfl, rfl, by decide +kernel, rfl, by decide +kernel, by decide +kernel⟩
theorem ok_i2 (F : Fun K "__init__" "InvalidName.__init__" sI2 f fd) (T : ExK K C) (n0 : PySem.W.findIn K (.ref C) "value" = some none) : FnOk P w K mg base CX0 1 f fd ["self", "value"] (spI C ["value"]) := by
  exact F.ok sc2 (fun vs H Q E h => ini_len h) (fun cdv A outer s H vs Q E hr h => by
    obtain ⟨a, x, rfl, q⟩ := ini1 h
    exact ⟨_, PSs.nox (pss_one (ps_osx (pv 0) (pv 1))), _, rfl, _, rfl, q T n0⟩)
abbrev sI3 : Stmt := inClass (top 7) 0
theorem sc3 : FnScope ["self", "name"] ["self", "name"] (defScope sI3) := ⟨rfl, rfl, rfl, by decide +kernel, rfl, by decide +kernel, by decide +kernel⟩
theorem ok_i3 (F : Fun K "__init__" "Duplicate.__init__" sI3 f fd) (T : ExK K C) (n0 : PySem.W.findIn K (.ref C) "name" = some none) : FnOk P w K mg base CX0 1 f fd ["self", "name"] (spI C ["name"]) := by
  exact F.ok sc3 (fun vs H Q E h => ini_len h) (fun cdv A outer s H vs Q E hr h => by
    obtain ⟨a, x, rfl, q⟩ := ini1 h
    exact ⟨_, PSs.nox (pss_one (ps_osx (pv 0) (pv 1))), _, rfl, _, rfl, q T n0⟩)
abbrev sI4 : Stmt := inClass (top 8) 0
theorem sc4 : FnScope ["self", "value"] ["self", "value"] (defScope sI4) := ⟨rfl, rfl, rfl, by decide +kernel, rfl, by decide +kernel, by decide +kernel⟩
theorem ok_i4 (F : Fun K "__init__" "InvalidRow.__init__" sI4 f fd) (T : ExK K C) (n0 : PySem.W.findIn K (.ref C) "value" = some none) : FnOk P w K mg base CX0 1 f fd ["self", "value"] (spI C ["value"]) := by
  exact F.ok sc4 (fun vs H Q E h => ini_len h) (fun cdv A outer s H vs Q E hr h => by
    obtain ⟨a, x, rfl, q⟩ := ini1 h
    exact ⟨_, PSs.nox (pss_one (ps_osx (pv 0) (pv 1))), _, rfl, _, rfl, q T n0⟩)
abbrev sI5 : Stmt := inClass (top 9) 0
theorem sc5 : FnScope ["self", "value"] ["self", "value"] (defScope sI5) := ⟨rfl, rfl, rfl, by decide +kernel, rfl, by decide +kernel, by decide +kernel⟩
theorem ok_i5 (F : Fun K "__init__" "InvalidEdge.__init__" sI5 f fd) (T : ExK K C) (n0 : PySem.W.findIn K (.ref C) "value" = some none) : FnOk P w K mg base CX0 1 f fd ["self", "value"] (spI C ["value"]) := by
  exact F.ok sc5 (fun vs H Q E h => ini_len h) (fun cdv A outer s H vs Q E hr h => by
    obtain ⟨a, x, rfl, q⟩ := ini1 h
    exact ⟨_, PSs.nox (pss_one (ps_osx (pv 0) (pv 1))), _, rfl, _, rfl, q T n0⟩)
abbrev sI6 : Stmt := inClass (top 10) 0
theorem sc6 : FnScope ["self", "value"] ["self", "value"] (defScope sI6) := ⟨rfl, rfl, rfl, by decide +kernel, rfl, by decide +kernel, by decide +kernel⟩
theorem ok_i6 (F : Fun K "__init__" "InvalidNet.__init__" sI6 f fd) (T : ExK K C) (n0 : PySem.W.findIn K (.ref C) "value" = some none) : FnOk P w K mg base CX0 1 f fd ["self", "value"] (spI C ["value"]) := by
  exact F.ok sc6 (fun vs H Q E h => ini_len h) (fun cdv A outer s H vs Q E hr h => by
    obtain ⟨a, x, rfl, q⟩ := ini1 h
    exact ⟨_, PSs.nox (pss_one (ps_osx (pv 0) (pv 1))), _, rfl, _, rfl, q T n0⟩)
abbrev sI7 : Stmt := inClass (top 11) 0
theorem sc7 : FnScope ["self", "gates"] ["self", "gates"] (defScope sI7) := ⟨rfl, rfl, rfl, by decide +kernel, rfl, by decide +kernel, by decide +kernel⟩
theorem ok_i7 (F : Fun K "__init__" "Ring.__init__" sI7 f fd) (T : ExK K C) (n0 : PySem.W.findIn K (.ref C) "gates" = some none) : FnOk P w K mg base CX0 1 f fd ["self", "gates"] (spI C ["gates"]) := by
  exact F.ok sc7 (fun vs H Q E h => ini_len h) (fun cdv A outer s H vs Q E hr h => by
    obtain ⟨a, x, rfl, q⟩ := ini1 h
    exact ⟨_, PSs.nox (pss_one (ps_osx (pv 0) (pv 1))), _, rfl, _, rfl, q T n0⟩)
abbrev sI8 : Stmt := inClass (top 12) 0
theorem sc8 : FnScope ["self", "name"] ["self", "name"] (defScope sI8) := ⟨rfl, rfl, rfl, by decide +kernel, rfl, by decide +kernel, by decide +kernel⟩
theorem ok_i8 (F : Fun K "__init__" "Dry.__init__" sI8 f fd) (T : ExK K C) (n0 : PySem.W.findIn K (.ref C) "name" = some none) : FnOk P w K mg base CX0 1 f fd ["self", "name"] (spI C ["name"]) := by
  exact F.ok sc8 (fun vs H Q E h => ini_len h) (fun cdv A outer s H vs Q E hr h => by
    obtain ⟨a, x, rfl, q⟩ := ini1 h
    exact ⟨_, PSs.nox (pss_one (ps_osx (pv 0) (pv 1))), _, rfl, _, rfl, q T n0⟩)
abbrev sI9 : Stmt := inClass (top 13) 0
theorem sc9 : FnScope ["self", "name"] ["self", "name"] (defScope sI9) := ⟨rfl, rfl, rfl, by decide +kernel, rfl, by decide +kernel, by decide +kernel⟩
theorem ok_i9 (F : Fun K "__init__" "Idle.__init__" sI9 f fd) (T : ExK K C) (n0 : PySem.W.findIn K (.ref C) "name" = some none) : FnOk P w K mg base CX0 1 f fd ["self", "name"] (spI C ["name"]) := by
  exact F.ok sc9 (fun vs H Q E h => ini_len h) (fun cdv A outer s H vs Q E hr h => by
    obtain ⟨a, x, rfl, q⟩ := ini1 h
    exact ⟨_, PSs.nox (pss_one (ps_osx (pv 0) (pv 1))), _, rfl, _, rfl, q T n0⟩)
abbrev sI10 : Stmt := inClass (top 14) 0
theorem sc10 : FnScope ["self", "value"] ["self", "value"] (defScope sI10) := ⟨rfl, rfl, rfl, by decide +kernel, rfl, by decide +kernel, by decide +kernel⟩
theorem ok_i10 (F : Fun K "__init__" "InvalidBook.__init__" sI10 f fd) (T : ExK K C) (n0 : PySem.W.findIn K (.ref C) "value" = some none) : FnOk P w K mg base CX0 1 f fd ["self", "value"] (spI C ["value"]) := by
  exact F.ok sc10 (fun vs H Q E h => ini_len h) (fun cdv A outer s H vs Q E hr h => by
    obtain ⟨a, x, rfl, q⟩ := ini1 h
    exact ⟨_, PSs.nox (pss_one (ps_osx (pv 0) (pv 1))), _, rfl, _, rfl, q T n0⟩)
abbrev sI11 : Stmt := inClass (top 15) 0
theorem sc11 : FnScope ["self", "value"] ["self", "value"] (defScope sI11) := ⟨rfl, rfl, rfl, by decide +kernel, rfl, by decide +kernel, by decide +kernel⟩
theorem ok_i11 (F : Fun K "__init__" "InvalidTurn.__init__" sI11 f fd) (T : ExK K C) (n0 : PySem.W.findIn K (.ref C) "value" = some none) : FnOk P w K mg base CX0 1 f fd ["self", "value"] (spI C ["value"]) := by
  exact F.ok sc11 (fun vs H Q E h => ini_len h) (fun cdv A outer s H vs Q E hr h => by
    obtain ⟨a, x, rfl, q⟩ := ini1 h
    exact ⟨_, PSs.nox (pss_one (ps_osx (pv 0) (pv 1))), _, rfl, _, rfl, q T n0⟩)
abbrev sI12 : Stmt := inClass (top 16) 0
theorem sc12 : FnScope ["self", "value"] ["self", "value"] (defScope sI12) := ⟨rfl, rfl, rfl, by decide +kernel, rfl, by decide +kernel, by decide +kernel⟩
theorem ok_i12 (F : Fun K "__init__" "InvalidMeaning.__init__" sI12 f fd) (T : ExK K C) (n0 : PySem.W.findIn K (.ref C) "value" = some none) : FnOk P w K mg base CX0 1 f fd ["self", "value"] (spI C ["value"]) := by
  exact F.ok sc12 (fun vs H Q E h => ini_len h) (fun cdv A outer s H vs Q E hr h => by
    obtain ⟨a, x, rfl, q⟩ := ini1 h
    exact ⟨_, PSs.nox (pss_one (ps_osx (pv 0) (pv 1))), _, rfl, _, rfl, q T n0⟩)
abbrev sI13 : Stmt := inClass (top 17) 0
theorem sc13 : FnScope ["self", "value"] ["self", "value"] (defScope sI13) := ⟨rfl, rfl, rfl, by decide +kernel, rfl, by decide +kernel, by decide +kernel⟩
theorem ok_i13 (F : Fun K "__init__" "InvalidValues.__init__" sI13 f fd) (T : ExK K C) (n0 : PySem.W.findIn K (.ref C) "value" = some none) : FnOk P w K mg base CX0 1 f fd ["self", "value"] (spI C ["value"]) := by
  exact F.ok sc13 (fun vs H Q E h => ini_len h) (fun cdv A outer s H vs Q E hr h => by
    obtain ⟨a, x, rfl, q⟩ := ini1 h
    exact ⟨_, PSs.nox (pss_one (ps_osx (pv 0) (pv 1))), _, rfl, _, rfl, q T n0⟩)
abbrev sI14 : Stmt := inClass (top 18) 0
theorem sc14 : FnScope ["self", "value"] ["self", "value"] (defScope sI14) := ⟨rfl, rfl, rfl, by decide +kernel, rfl, by decide +kernel, by decide +kernel⟩
theorem ok_i14 (F : Fun K "__init__" "InvalidString.__init__" sI14 f fd) (T : ExK K C) (n0 : PySem.W.findIn K (.ref C) "value" = some none) : FnOk P w K mg base CX0 1 f fd ["self", "value"] (spI C ["value"]) := by
  exact F.ok sc14 (fun vs H Q E h => ini_len h) (fun cdv A outer s H vs Q E hr h => by
    obtain ⟨a, x, rfl, q⟩ := ini1 h
    exact ⟨_, PSs.nox (pss_one (ps_osx (pv 0) (pv 1))), _, rfl, _, rfl, q T n0⟩)
abbrev sI15 : Stmt := inClass (top 19) 0
theorem sc15 : FnScope ["self", "index"] ["self", "index"] (defScope sI15) := ⟨rfl, rfl, rfl, by decide +kernel, rfl, by decide +kernel, by decide +kernel⟩
theorem ok_i15 (F : Fun K "__init__" "InvalidLine.__init__" sI15 f fd) (T : ExK K C) (n0 : PySem.W.findIn K (.ref C) "index" = some none) : FnOk P w K mg base CX0 1 f fd ["self", "index"] (spI C ["index"]) := by
  exact F.ok sc15 (fun vs H Q E h => ini_len h) (fun cdv A outer s H vs Q E hr h => by
    obtain ⟨a, x, rfl, q⟩ := ini1 h
    exact ⟨_, PSs.nox (pss_one (ps_osx (pv 0) (pv 1))), _, rfl, _, rfl, q T n0⟩)
abbrev sI16 : Stmt := inClass (top 20) 0
theorem sc16 : FnScope ["self", "number"] ["self", "number"] (defScope sI16) := ⟨rfl, rfl, rfl, by decide +kernel, rfl, by decide +kernel, by decide +kernel⟩
theorem ok_i16 (F : Fun K "__init__" "DuplicateTerm.__init__" sI16 f fd) (T : ExK K C) (n0 : PySem.W.findIn K (.ref C) "number" = some none) : FnOk P w K mg base CX0 1 f fd ["self", "number"] (spI C ["number"]) := by
  exact F.ok sc16 (fun vs H Q E h => ini_len h) (fun cdv A outer s H vs Q E hr h => by
    obtain ⟨a, x, rfl, q⟩ := ini1 h
    exact ⟨_, PSs.nox (pss_one (ps_osx (pv 0) (pv 1))), _, rfl, _, rfl, q T n0⟩)
abbrev sI17 : Stmt := inClass (top 21) 0
theorem sc17 : FnScope ["self", "other"] ["self", "other"] (defScope sI17) := ⟨rfl, rfl, rfl, by decide +kernel, rfl, by decide +kernel, by decide +kernel⟩
theorem ok_i17 (F : Fun K "__init__" "Mismatch.__init__" sI17 f fd) (T : ExK K C) (n0 : PySem.W.findIn K (.ref C) "other" = some none) : FnOk P w K mg base CX0 1 f fd ["self", "other"] (spI C ["other"]) := by
  exact F.ok sc17 (fun vs H Q E h => ini_len h) (fun cdv A outer s H vs Q E hr h => by
    obtain ⟨a, x, rfl, q⟩ := ini1 h
    exact ⟨_, PSs.nox (pss_one (ps_osx (pv 0) (pv 1))), _, rfl, _, rfl, q T n0⟩)
abbrev sI18 : Stmt := inClass (top 22) 0
theorem sc18 : FnScope ["self", "value"] ["self", "value"] (defScope sI18) := ⟨rfl, rfl, rfl, by decide +kernel, rfl, by decide +kernel, by decide +kernel⟩
theorem ok_i18 (F : Fun K "__init__" "InvalidLags.__init__" sI18 f fd) (T : ExK K C) (n0 : PySem.W.findIn K (.ref C) "value" = some none) : FnOk P w K mg base CX0 1 f fd ["self", "value"] (spI C ["value"]) := by
  exact F.ok sc18 (fun vs H Q E h => ini_len h) (fun cdv A outer s H vs Q E hr h => by
    obtain ⟨a, x, rfl, q⟩ := ini1 h
    exact ⟨_, PSs.nox (pss_one (ps_osx (pv 0) (pv 1))), _, rfl, _, rfl, q T n0⟩)
abbrev sI19 : Stmt := inClass (top 23) 0
theorem sc19 : FnScope ["self", "value"] ["self", "value"] (defScope sI19) := ⟨rfl, rfl, rfl, by decide +kernel, rfl, by decide +kernel, by decide +kernel⟩
theorem ok_i19 (F : Fun K "__init__" "InvalidStep.__init__" sI19 f fd) (T : ExK K C) (n0 : PySem.W.findIn K (.ref C) "value" = some none) : FnOk P w K mg base CX0 1 f fd ["self", "value"] (spI C ["value"]) := by
  exact F.ok sc19 (fun vs H Q E h => ini_len h) (fun cdv A outer s H vs Q E hr h => by
    obtain ⟨a, x, rfl, q⟩ := ini1 h
    exact ⟨_, PSs.nox (pss_one (ps_osx (pv 0) (pv 1))), _, rfl, _, rfl, q T n0⟩)
abbrev sI20 : Stmt := inClass (top 24) 0
theorem sc20 : FnScope ["self", "value"] ["self", "value"] (defScope sI20) := ⟨rfl, rfl, rfl, by decide +kernel, rfl, by decide +kernel, by decide +kernel⟩
theorem ok_i20 (F : Fun K "__init__" "InvalidWish.__init__" sI20 f fd) (T : ExK K C) (n0 : PySem.W.findIn K (.ref C) "value" = some none) : FnOk P w K mg base CX0 1 f fd ["self", "value"] (spI C ["value"]) := by
  exact F.ok sc20 (fun vs H Q E h => ini_len h) (fun cdv A outer s H vs Q E hr h => by
    obtain ⟨a, x, rfl, q⟩ := ini1 h
    exact ⟨_, PSs.nox (pss_one (ps_osx (pv 0) (pv 1))), _, rfl, _, rfl, q T n0⟩)
abbrev sI21 : Stmt := inClass (top 25) 0
theorem sc21 : FnScope ["self", "value"] ["self", "value"] (defScope sI21) := ⟨rfl, rfl, rfl, by decide +kernel, rfl, by decide +kernel, by decide +kernel⟩
theorem ok_i21 (F : Fun K "__init__" "InvalidCommand.__init__" sI21 f fd) (T : ExK K C) (n0 : PySem.W.findIn K (.ref C) "value" = some none) : FnOk P w K mg base CX0 1 f fd ["self", "value"] (spI C ["value"]) := by
  exact F.ok sc21 (fun vs H Q E h => ini_len h) (fun cdv A outer s H vs Q E hr h => by
    obtain ⟨a, x, rfl, q⟩ := ini1 h
    exact ⟨_, PSs.nox (pss_one (ps_osx (pv 0) (pv 1))), _, rfl, _, rfl, q T n0⟩)
abbrev sI22 : Stmt := inClass (top 26) 0
theorem sc22 : FnScope ["self", "name"] ["self", "name"] (defScope sI22) := ⟨rfl, rfl, rfl, by decide +kernel, rfl, by decide +kernel, by decide +kernel⟩
theorem ok_i22 (F : Fun K "__init__" "UnknownSource.__init__" sI22 f fd) (T : ExK K C) (n0 : PySem.W.findIn K (.ref C) "name" = some none) : FnOk P w K mg base CX0 1 f fd ["self", "name"] (spI C ["name"]) := by
  exact F.ok sc22 (fun vs H Q E h => ini_len h) (fun cdv A outer s H vs Q E hr h => by
    obtain ⟨a, x, rfl, q⟩ := ini1 h
    exact ⟨_, PSs.nox (pss_one (ps_osx (pv 0) (pv 1))), _, rfl, _, rfl, q T n0⟩)
abbrev sI23 : Stmt := inClass (top 27) 0
theorem sc23 : FnScope ["self", "name"] ["self", "name"] (defScope sI23) := ⟨rfl, rfl, rfl, by decide +kernel, rfl, by decide +kernel, by decide +kernel⟩
theorem ok_i23 (F : Fun K "__init__" "UnknownGate.__init__" sI23 f fd) (T : ExK K C) (n0 : PySem.W.findIn K (.ref C) "name" = some none) : FnOk P w K mg base CX0 1 f fd ["self", "name"] (spI C ["name"]) := by
  exact F.ok sc23 (fun vs H Q E h => ini_len h) (fun cdv A outer s H vs Q E hr h => by
    obtain ⟨a, x, rfl, q⟩ := ini1 h
    exact ⟨_, PSs.nox (pss_one (ps_osx (pv 0) (pv 1))), _, rfl, _, rfl, q T n0⟩)
abbrev sI24 : Stmt := inClass (top 28) 0
theorem sc24 : FnScope ["self", "reader", "slot"] ["self", "reader", "slot"] (defScope sI24) := ⟨rfl, rfl, rfl, by decide +kernel, rfl, by decide +kernel, by decide +kernel⟩
theorem ok_i24 (F : Fun K "__init__" "UnknownEdge.__init__" sI24 f fd) (T : ExK K C) (n0 : PySem.W.findIn K (.ref C) "reader" = some none) (n1 : PySem.W.findIn K (.ref C) "slot" = some none) : FnOk P w K mg base CX0 1 f fd ["self", "reader", "slot"] (spI C ["reader", "slot"]) := by
  exact F.ok sc24 (fun vs H Q E h => ini_len h) (fun cdv A outer s H vs Q E hr h => by
    obtain ⟨a, x, y, rfl, q1⟩ := ini2 (by decide) h
    refine ⟨_, PSs.nox (pss_cons (ps_osx (pv 0) (pv 1)) (pss_one (ps_osx (pv 0) (pv 2)))), _, rfl, _, rfl, q1 T n0 n1 _ ?_⟩
    exact fun H2 x2 => ⟨_, rfl, _, rfl, x2⟩)
abbrev sI25 : Stmt := inClass (top 29) 0
theorem sc25 : FnScope ["self", "name"] ["self", "name"] (defScope sI25) := ⟨rfl, rfl, rfl, by decide +kernel, rfl, by decide +kernel, by decide +kernel⟩
theorem ok_i25 (F : Fun K "__init__" "UnknownSymbol.__init__" sI25 f fd) (T : ExK K C) (n0 : PySem.W.findIn K (.ref C) "name" = some none) : FnOk P w K mg base CX0 1 f fd ["self", "name"] (spI C ["name"]) := by
  exact F.ok sc25 (fun vs H Q E h => ini_len h) (fun cdv A outer s H vs Q E hr h => by
    obtain ⟨a, x, rfl, q⟩ := ini1 h
    exact ⟨_, PSs.nox (pss_one (ps_osx (pv 0) (pv 1))), _, rfl, _, rfl, q T n0⟩)
abbrev sI26 : Stmt := inClass (top 30) 0
theorem sc26 : FnScope ["self", "name", "index"] ["self", "name", "index"] (defScope sI26) := ⟨rfl, rfl, rfl, by decide +kernel, rfl, by decide +kernel, by decide +kernel⟩
theorem ok_i26 (F : Fun K "__init__" "UnknownSample.__init__" sI26 f fd) (T : ExK K C) (n0 : PySem.W.findIn K (.ref C) "name" = some none) (n1 : PySem.W.findIn K (.ref C) "index" = some none) : FnOk P w K mg base CX0 1 f fd ["self", "name", "index"] (spI C ["name", "index"]) := by
  exact F.ok sc26 (fun vs H Q E h => ini_len h) (fun cdv A outer s H vs Q E hr h => by
    obtain ⟨a, x, y, rfl, q1⟩ := ini2 (by decide) h
    refine ⟨_, PSs.nox (pss_cons (ps_osx (pv 0) (pv 1)) (pss_one (ps_osx (pv 0) (pv 2)))), _, rfl, _, rfl, q1 T n0 n1 _ ?_⟩
    exact fun H2 x2 => ⟨_, rfl, _, rfl, x2⟩)
abbrev sI27 : Stmt := inClass (top 31) 0
theorem sc27 : FnScope ["self", "number"] ["self", "number"] (defScope sI27) := ⟨rfl, rfl, rfl, by decide +kernel, rfl, by decide +kernel, by decide +kernel⟩
theorem ok_i27 (F : Fun K "__init__" "UnknownTerm.__init__" sI27 f fd) (T : ExK K C) (n0 : PySem.W.findIn K (.ref C) "number" = some none) : FnOk P w K mg base CX0 1 f fd ["self", "number"] (spI C ["number"]) := by
  exact F.ok sc27 (fun vs H Q E h => ini_len h) (fun cdv A outer s H vs Q E hr h => by
    obtain ⟨a, x, rfl, q⟩ := ini1 h
    exact ⟨_, PSs.nox (pss_one (ps_osx (pv 0) (pv 1))), _, rfl, _, rfl, q T n0⟩)
abbrev sI28 : Stmt := inClass (top 32) 0
theorem sc28 : FnScope ["self"] ["self"] (defScope sI28) := ⟨rfl, rfl, rfl, by decide +kernel, rfl, by decide +kernel, by decide +kernel⟩
theorem ok_i28 (F : Fun K "__init__" "NoTurn.__init__" sI28 f fd) (T : ExK K C) : FnOk P w K mg base CX0 1 f fd ["self"] (spI C []) := by
  exact F.ok sc28 (fun vs H Q E h => ini_len h) (fun cdv A outer s H vs Q E hr h => by
    obtain ⟨a, rfl, q⟩ := ini0 h
    exact ⟨_, PSs.nox (pss_one ps_pass), q⟩)
abbrev sI29 : Stmt := inClass (top 33) 0
theorem sc29 : FnScope ["self", "number"] ["self", "number"] (defScope sI29) := ⟨rfl, rfl, rfl, by decide +kernel, rfl, by decide +kernel, by decide +kernel⟩
theorem ok_i29 (F : Fun K "__init__" "TooLong.__init__" sI29 f fd) (T : ExK K C) (n0 : PySem.W.findIn K (.ref C) "number" = some none) : FnOk P w K mg base CX0 1 f fd ["self", "number"] (spI C ["number"]) := by
  exact F.ok sc29 (fun vs H Q E h => ini_len h) (fun cdv A outer s H vs Q E hr h => by
    obtain ⟨a, x, rfl, q⟩ := ini1 h
    exact ⟨_, PSs.nox (pss_one (ps_osx (pv 0) (pv 1))), _, rfl, _, rfl, q T n0⟩)
abbrev sI30 : Stmt := inClass (top 34) 0
theorem sc30 : FnScope ["self", "reader", "slot"] ["self", "reader", "slot"] (defScope sI30) := ⟨rfl, rfl, rfl, by decide +kernel, rfl, by decide +kernel, by decide +kernel⟩
theorem ok_i30 (F : Fun K "__init__" "TooShort.__init__" sI30 f fd) (T : ExK K C) (n0 : PySem.W.findIn K (.ref C) "reader" = some none) (n1 : PySem.W.findIn K (.ref C) "slot" = some none) : FnOk P w K mg base CX0 1 f fd ["self", "reader", "slot"] (spI C ["reader", "slot"]) := by
  exact F.ok sc30 (fun vs H Q E h => ini_len h) (fun cdv A outer s H vs Q E hr h => by
    obtain ⟨a, x, y, rfl, q1⟩ := ini2 (by decide) h
    refine ⟨_, PSs.nox (pss_cons (ps_osx (pv 0) (pv 1)) (pss_one (ps_osx (pv 0) (pv 2)))), _, rfl, _, rfl, q1 T n0 n1 _ ?_⟩
    exact fun H2 x2 => ⟨_, rfl, _, rfl, x2⟩)
abbrev sI31 : Stmt := inClass (top 35) 0
theorem sc31 : FnScope ["self", "name"] ["self", "name"] (defScope sI31) := ⟨rfl, rfl, rfl, by decide +kernel, rfl, by decide +kernel, by decide +kernel⟩
theorem ok_i31 (F : Fun K "__init__" "TooDeep.__init__" sI31 f fd) (T : ExK K C) (n0 : PySem.W.findIn K (.ref C) "name" = some none) : FnOk P w K mg base CX0 1 f fd ["self", "name"] (spI C ["name"]) := by
  exact F.ok sc31 (fun vs H Q E h => ini_len h) (fun cdv A outer s H vs Q E hr h => by
    obtain ⟨a, x, rfl, q⟩ := ini1 h
    exact ⟨_, PSs.nox (pss_one (ps_osx (pv 0) (pv 1))), _, rfl, _, rfl, q T n0⟩)
abbrev sI32 : Stmt := inClass (top 36) 0
theorem sc32 : FnScope ["self", "most"] ["self", "most"] (defScope sI32) := ⟨rfl, rfl, rfl, by decide +kernel, rfl, by decide +kernel, by decide +kernel⟩
theorem ok_i32 (F : Fun K "__init__" "TooMany.__init__" sI32 f fd) (T : ExK K C) (n0 : PySem.W.findIn K (.ref C) "most" = some none) : FnOk P w K mg base CX0 1 f fd ["self", "most"] (spI C ["most"]) := by
  exact F.ok sc32 (fun vs H Q E h => ini_len h) (fun cdv A outer s H vs Q E hr h => by
    obtain ⟨a, x, rfl, q⟩ := ini1 h
    exact ⟨_, PSs.nox (pss_one (ps_osx (pv 0) (pv 1))), _, rfl, _, rfl, q T n0⟩)
abbrev sI33 : Stmt := inClass (top 37) 0
theorem sc33 : FnScope ["self", "out"] ["self", "out"] (defScope sI33) := ⟨rfl, rfl, rfl, by decide +kernel, rfl, by decide +kernel, by decide +kernel⟩
theorem ok_i33 (F : Fun K "__init__" "EmptyLoop.__init__" sI33 f fd) (T : ExK K C) (n0 : PySem.W.findIn K (.ref C) "out" = some none) : FnOk P w K mg base CX0 1 f fd ["self", "out"] (spI C ["out"]) := by
  exact F.ok sc33 (fun vs H Q E h => ini_len h) (fun cdv A outer s H vs Q E hr h => by
    obtain ⟨a, x, rfl, q⟩ := ini1 h
    exact ⟨_, PSs.nox (pss_one (ps_osx (pv 0) (pv 1))), _, rfl, _, rfl, q T n0⟩)
abbrev sI34 : Stmt := inClass (top 38) 0
theorem sc34 : FnScope ["self"] ["self"] (defScope sI34) := ⟨rfl, rfl, rfl, by decide +kernel, rfl, by decide +kernel, by decide +kernel⟩
theorem ok_i34 (F : Fun K "__init__" "NothingToUndo.__init__" sI34 f fd) (T : ExK K C) : FnOk P w K mg base CX0 1 f fd ["self"] (spI C []) := by
  exact F.ok sc34 (fun vs H Q E h => ini_len h) (fun cdv A outer s H vs Q E hr h => by
    obtain ⟨a, rfl, q⟩ := ini0 h
    exact ⟨_, PSs.nox (pss_one ps_pass), q⟩)
end
end T01
set_option Elab.async false
set_option linter.all false
set_option maxRecDepth 100000
set_option maxHeartbeats 4000000
namespace T01
open PySem PySem.Spec PyProof.Rows L2 Tp
/-- what __init__ of each class keeps -/
structure Mks (P : Program) (w : World) (K : PySem.W.Frag) (mg : Str → Option Value) (base : Heap) (C : Nat → Addr) : Prop where
  p : ∀ i, i < 35 → Cx1 P w K mg base (nm i) (C i) (fnm i).length [] (spI (C i) (fnm i)) (fun vs _ => vs)
  k : ∀ i, i < 35 → Cx1 P w K mg base (nm i) (C i) 0 (fnm i) (spI (C i) (fnm i)) (fun vs zs => vs ++ id zs)
  r : ∀ i, i < 35 → (fnm i).length = 2 → Cx1 P w K mg base (nm i) (C i) 0 (fnm i).reverse (spI (C i) (fnm i)) (fun vs zs => vs ++ zs.reverse)
def sub (i j : Nat) : Bool := i == j || up i == j
def tys : List String := ["ValueError", "KeyError", "LookupError", "dict", "list", "tuple"]
def tyb (i : Nat) (t : String) : Bool := (t == "ValueError" && up i == 35) || (t == "KeyError" && up i == 36) || (t == "LookupError" && (up i == 36 || up i == 37))
/-- what the written part says of the classes -/
structure Pk (K : PySem.W.Frag) (mg : Str → Option Value) (C : Nat → Addr) : Prop where
  ex : ∀ i, i < 38 → ExK K (C i)
  gl : ∀ i, i < 38 → mg (nm i) = some (.ref (C i))
  kd : ∀ i j, i < 38 → j < 38 → PySem.W.kitOne K (.ref (C i)) (.ref (C j)) = some (sub i j)
  kt : ∀ i, i < 38 → ∀ t ∈ tys, PySem.W.kitOne K (.ref (C i)) (.type t) = some (tyb i t)
  fr : ∀ i, i < 35 → ∀ f ∈ fnm i, PySem.W.findIn K (.ref (C i)) f = some none
  su : ∀ i j, i < 38 → j < 38 → PySem.W.exmOne K (.ref (C i)) (.ref (C j)) = some (sub i j)
def gv (σ : L2.St) (i : Nat) : Option V := (σ[i]?).bind id
theorem gv_eq {σ : L2.St} {i : Nat} {v : V} (h : gv σ i = some v) : σ[i]? = some (some v) := by
  unfold gv at h
  cases e : σ[i]? with
  | none =>
    rw [e] at h
    cases h
  | some o =>
    rw [e] at h
    rw [show o = some v from h]
abbrev Ent : Type := Addr × List Str × List V
section
variable {X : Cx} {C : Nat → Addr} {i a b : Nat} {x : Str} {p pos q1 q2 : Pos} {y1 y2 : Str} {q3 q4 : Pos} {e1 : Expr} {kws : List Keyword}
theorem m1 (M : Mks X.prog X.w X.K X.mg X.base C) (i : Nat) (hi : i < 35) (hl : (fnm i).length = 1) (hx : x = nm i) (hr : Room 2 X.A) (hg : Gl X x) (h1 : PE X (Expr.Name y1 q3) (tVar a)) (hdb : (x == ("__debug__" : Str)) = false) : PE X (.Call (.Name x p) [(Expr.Name y1 q3)] [] pos) (tOne fun σ => (gv σ a).map fun v => (C i, fnm i, [v])) := by
  subst hx
  refine PE.of (pe_mke (M.p i hi) hr hg (pa_cons h1 pa_nil) hdb) fun σ H Q q => ?_
  obtain ⟨d, e, q⟩ := q
  obtain ⟨v, ev, rfl⟩ := Option.map_eq_some_iff.mp e
  exact ⟨v, gv_eq ev, hl.symm, (by rw [hl]; decide), fun a' H' n k z => q a' H' n k z⟩
theorem m2 (M : Mks X.prog X.w X.K X.mg X.base C) (i : Nat) (hi : i < 35) (hl : (fnm i).length = 2) (hx : x = nm i) (hr : Room 2 X.A) (hg : Gl X x) (h1 : PE X (Expr.Name y1 q3) (tVar a)) (h2 : PE X (Expr.Name y2 q4) (tVar b)) (hdb : (x == ("__debug__" : Str)) = false) :
    PE X (.Call (.Name x p) [(Expr.Name y1 q3), (Expr.Name y2 q4)] [] pos) (tOne fun σ => (gv σ a).bind fun v => (gv σ b).map fun u => (C i, fnm i, [v, u])) := by
  subst hx
  refine PE.of (pe_mke (M.p i hi) hr hg (pa_cons h1 (pa_cons h2 pa_nil)) hdb) fun σ H Q q => ?_
  obtain ⟨d, e, q⟩ := q
  obtain ⟨v, ev, e⟩ := Option.bind_eq_some_iff.mp e
  obtain ⟨u, eu, rfl⟩ := Option.map_eq_some_iff.mp e
  exact ⟨v, gv_eq ev, u, gv_eq eu, hl.symm, (by rw [hl]; decide), fun a' H' n k z => q a' H' n k z⟩
theorem m0 (M : Mks X.prog X.w X.K X.mg X.base C) (i : Nat) (hi : i < 35) (hl : fnm i = []) (hx : x = nm i) (hr : Room 2 X.A) (hg : Gl X x) (hdb : (x == ("__debug__" : Str)) = false) :
    PE X (.Call (.Name x p) [] [] pos) (tOne fun σ => some (C i, fnm i, [])) := by
  subst hx
  have c := M.p i hi
  rw [hl] at c ⊢
  refine PE.of (pe_mk0e c hr hg hdb) fun σ H Q q => ?_
  obtain ⟨d, e, q⟩ := q
  cases e
  exact ⟨rfl, by decide, fun a' H' n k z => q a' H' n k z⟩
theorem k1 {f : Str} (M : Mks X.prog X.w X.K X.mg X.base C) (i : Nat) (hi : i < 35) (hf : fnm i = [f]) (hx : x = nm i) (hr : Room 2 X.A) (hg : Gl X x) (h1 : PE X (Expr.Name y1 q3) (tVar a)) (hdb : (x == ("__debug__" : Str)) = false):
    PE X (.Call (.Name x p) [] [⟨some f, (Expr.Name y1 q3), q1⟩] pos) (tOne fun σ => (gv σ a).map fun v => (C i, fnm i, [v])) := by
  subst hx
  refine PE.of (pe_mkke (pm := id) (M.k i hi) hr hg (pk_cons h1 pk_nil) (by rfl) (by rw [hf]; rfl) hdb) fun σ H Q q => ?_
  obtain ⟨d, e, q⟩ := q
  obtain ⟨v, ev, rfl⟩ := Option.map_eq_some_iff.mp e
  exact ⟨v, gv_eq ev, (by rw [hf]; rfl), (by rw [hf]; rfl), fun a' H' n k z => q a' H' n k z⟩
theorem k2 {f g : Str} (M : Mks X.prog X.w X.K X.mg X.base C) (i : Nat) (hi : i < 35) (hf : fnm i = [f, g]) (hx : x = nm i) (hr : Room 2 X.A) (hg : Gl X x) (h1 : PE X (Expr.Name y1 q3) (tVar a)) (h2 : PE X (Expr.Name y2 q4) (tVar b)) (hdb : (x == ("__debug__" : Str)) = false):
    PE X (.Call (.Name x p) [] [⟨some f, (Expr.Name y1 q3), q1⟩, ⟨some g, (Expr.Name y2 q4), q2⟩] pos) (tOne fun σ => (gv σ a).bind fun v => (gv σ b).map fun u => (C i, fnm i, [v, u])) := by
  subst hx
  refine PE.of (pe_mkke (pm := id) (M.k i hi) hr hg (pk_cons h1 (pk_cons h2 pk_nil)) (by rfl) (by rw [hf]; rfl) hdb) fun σ H Q q => ?_
  obtain ⟨d, e, q⟩ := q
  obtain ⟨v, ev, e⟩ := Option.bind_eq_some_iff.mp e
  obtain ⟨u, eu, rfl⟩ := Option.map_eq_some_iff.mp e
  exact ⟨v, gv_eq ev, u, gv_eq eu, (by rw [hf]; rfl), (by rw [hf]; rfl), fun a' H' n k z => q a' H' n k z⟩
theorem r2 {f g : Str} (M : Mks X.prog X.w X.K X.mg X.base C) (i : Nat) (hi : i < 35) (hf : fnm i = [f, g]) (hx : x = nm i) (hr : Room 2 X.A) (hg : Gl X x) (h1 : PE X (Expr.Name y1 q3) (tVar a)) (h2 : PE X (Expr.Name y2 q4) (tVar b)) (hdb : (x == ("__debug__" : Str)) = false):
    PE X (.Call (.Name x p) [] [⟨some g, (Expr.Name y1 q3), q1⟩, ⟨some f, (Expr.Name y2 q4), q2⟩] pos) (tOne fun σ => (gv σ a).bind fun u => (gv σ b).map fun v => (C i, fnm i, [v, u])) := by
  subst hx
  refine PE.of (pe_mkke (pm := List.reverse) (M.r i hi (by rw [hf]; rfl)) hr hg (pk_cons h1 (pk_cons h2 pk_nil)) (by rfl) (by rw [hf]; rfl) hdb) fun σ H Q q => ?_
  obtain ⟨d, e, q⟩ := q
  obtain ⟨u, eu, e⟩ := Option.bind_eq_some_iff.mp e
  obtain ⟨v, ev, rfl⟩ := Option.map_eq_some_iff.mp e
  exact ⟨u, gv_eq eu, v, gv_eq ev, (by rw [hf]; rfl), (by rw [hf]; rfl), fun a' H' n k z => q a' H' n k z⟩
/-- isinstance(e, C_j), e in slot a -/
def tJ (C : Nat → Addr) (a : Nat) (r : Nat → Bool) : TE := fun σ H Q => ∃ (b i : Nat) (fs : List (Str × V)), gv σ a = some (.ref b) ∧ i < 38 ∧ ExAt H b (C i) fs ∧ Q (.bl (r i)) H
theorem is1 (T : Pk X.K X.mg C) (j : Nat) (hj : j < 38) (hx : x = nm j) (h1 : PE X (Expr.Name y1 q3) (tVar a)) (hg : Gl X x) (hgi : Gl X "isinstance") (hmi : X.mg "isinstance" = none) (hd : (x == ("__debug__" : Str)) = false) : PE X (.Call (.Name "isinstance" p) [(Expr.Name y1 q3), .Name x q1] [] pos) (tJ C a fun i => sub i j) := by
  subst hx
  refine PE.of (pe_callB call_isx hgi hmi (by decide +kernel) (pa_cons h1 (pa_cons (pe_glob hg (T.gl j hj) (v := .ref (C j)) rfl hd) pa_nil))) fun σ H Q q => ?_
  obtain ⟨b, i, fs, g, hi, hA, q⟩ := q
  exact ⟨_, gv_eq g, b, C i, fs, _, _, _, rfl, hA, T.ex i hi, .own _, T.kd i j hi hj, q⟩
theorem isT (T : Pk X.K X.mg C) (t : String) (ht : t ∈ tys) (h1 : PE X (Expr.Name y1 q3) (tVar a)) (h2 : PE X (Expr.Name y2 q4) (tC (.ty t))) (hgi : Gl X "isinstance") (hmi : X.mg "isinstance" = none) : PE X (.Call (.Name "isinstance" p) [(Expr.Name y1 q3), (Expr.Name y2 q4)] [] pos) (tJ C a fun i => tyb i t) := by
  refine PE.of (pe_callB call_isx hgi hmi (by decide +kernel) (pa_cons h1 (pa_cons h2 pa_nil))) fun σ H Q q => ?_
  obtain ⟨b, i, fs, g, hi, hA, q⟩ := q
  exact ⟨_, gv_eq g, b, C i, fs, _, _, _, rfl, hA, T.ex i hi, .ty _, T.kt i hi t ht, q⟩
/-- a row of them -/
def tJs (C : Nat → Addr) (a : Nat) (rs : List (Nat → Bool)) : TA := fun σ H Q => ∃ (b i : Nat) (fs : List (Str × V)), gv σ a = some (.ref b) ∧ i < 38 ∧ ExAt H b (C i) fs ∧ Q (rs.map fun r => .bl (r i)) H
theorem js0 : PA X [] (tJs C a []) := ⟨fun pos pins s σ H Q I h => by
  obtain ⟨b, i, fs, _, _, _, q⟩ := h
  exact pa_nil.run pos pins s σ H Q I q⟩
theorem js {r : Nat → Bool} {rs : List (Nat → Bool)} {es : List Expr} (h1 : PE X e1 (tJ C a r)) (h2 : PA X es (tJs C a rs)) (he : starEach (e1 :: es) X.env = (false, eval e1 X.env) :: starEach es X.env) : PA X (e1 :: es) (tJs C a (r :: rs)) := ⟨fun pos pins s σ H Q I h => by
  obtain ⟨b, i, fs, g, hi, hA, q⟩ := h
  exact (pa_cons h1 h2 he).run pos pins s σ H Q I ⟨b, i, fs, g, hi, hA, b, i, fs, g, hi, hA, q⟩⟩
end
end T01
set_option Elab.async false
set_option linter.all false
set_option maxRecDepth 100000
set_option maxHeartbeats 4000000
namespace T01
open PySem PySem.Spec PyProof.Rows L2 Tp
/-- the built-in names that the law reads -/
structure Z1 (mg : Str → Option Value) : Prop where
  isi : mg "isinstance" = none
  ve : mg "ValueError" = none
  ke : mg "KeyError" = none
  le : mg "LookupError" = none
  str : mg "str" = none
  dict : mg "dict" = none
  list : mg "list" = none
  tuple : mg "tuple" = none
  repr : mg "repr" = none
  len : mg "len" = none
  range : mg "range" = none
  enum : mg "enumerate" = none
  int : mg "int" = none
  max : mg "max" = none
  min : mg "min" = none
theorem seq_asg {te : TE} {i : Nat} {u : TS} {D : Ends} {σ : L2.St} {H : Hp} (h : te σ H fun x H1 => u D (σ.set i (some x)) H1) : tSeq (tAsg te (gName i)) u D σ H := h
theorem ret_of {te : TE} {D : Ends} {σ : L2.St} {H : Hp} (h : te σ H D.rt) : tRet te D σ H := h
theorem Same.tr {A B D : Hp} (a : Same A B) (b : Same B D) : Same A D := fun x o e => b x o (a x o e)
section
variable {C : Nat → Addr} {K : PySem.W.Frag} {σ : L2.St} {H H0 : Hp} {Q : VK} {cs : L2.St → Option (List Ent)} {l l0 : List Ent} {p : Addr} {as : List Addr} {a b i k : Nat} {rs : List (Nat → Bool)} {fs : List (Str × V)} {ys : List V}
theorem first_row (e : cs σ = some l) (hz : l.length ≤ 100) (q : ∀ p as H', Same H H' → Many H' as l → H' p = some (.lst (as.map V.ref)) → Q (.ref p) H') : tLst (tMany cs) σ H Q :=
  ⟨l, e, fun as H1 k1 m1 => ⟨by rw [List.length_map, m1.len, sizeLine_eq]; omega, fun p hp => q p as _ (Same.tr k1 (Same.put hp)) (m1.mono (Same.put hp)) upd_same⟩⟩
theorem next_row (e : cs σ = some l) (hz : l0.length + l.length ≤ 100) (g : gv σ k = some (.ref p)) (hp : H p = some (.lst (as.map V.ref))) (hm : Many H as l0) (h0 : Same H0 H)
    (q : ∀ p' bs H', Same H0 H' → Many H' bs (l0 ++ l) → H' p' = some (.lst (bs.map V.ref)) → Q (.ref p') H') : tOp rCat (tVar k) (tLst (tMany cs)) σ H Q :=
  ⟨.ref p, gv_eq g, first_row e (by omega) fun p1 bs H1 k1 m1 e1 => ⟨p, p1, _, _, rfl, rfl, k1 _ _ hp, e1, by rw [List.length_map, List.length_map, hm.len, m1.len, sizeLine_eq]; omega, fun p2 hp2 =>
    q p2 (as ++ bs) _ (Same.tr h0 (Same.tr k1 (Same.put hp2))) (Many.mono (Same.put hp2) (Many.app m1 (hm.mono k1))) (by rw [List.map_append]; exact upd_same)⟩⟩
theorem first_js (g : gv σ a = some (.ref b)) (hi : i < 38) (hA : ExAt H b (C i) fs) (hz : rs.length ≤ 100) (h0 : Same H0 H) (q : ∀ p H', Same H0 H' → H' p = some (.lst (rs.map fun r => .bl (r i))) → Q (.ref p) H') : tLst (tJs C a rs) σ H Q :=
  ⟨b, i, fs, g, hi, hA, by rw [List.length_map, sizeLine_eq]; omega, fun p hp => q p _ (Same.tr h0 (Same.put hp)) upd_same⟩
theorem next_js (g : gv σ a = some (.ref b)) (hi : i < 38) (hA : ExAt H0 b (C i) fs) (h0 : Same H0 H) (gk : gv σ k = some (.ref p)) (hp : H p = some (.lst ys)) (hz : ys.length + rs.length ≤ 100)
    (q : ∀ p' H', Same H0 H' → H' p' = some (.lst (ys ++ rs.map fun r => .bl (r i))) → Q (.ref p') H') : tOp rCat (tVar k) (tLst (tJs C a rs)) σ H Q :=
  ⟨.ref p, gv_eq gk, first_js (H0 := H) g hi (hA.mono h0) (by omega) (fun _ _ e => e) fun p1 H1 k1 e1 => ⟨p, p1, _, _, rfl, rfl, k1 _ _ hp, e1, by rw [List.length_map, sizeLine_eq]; omega, fun p2 hp2 =>
    q p2 _ (Same.tr h0 (Same.tr k1 (Same.put hp2))) upd_same⟩⟩
end
def made (C : Nat → Addr) (v : V) : List Ent := (List.range 35).map fun i => (C i, fnm i, List.replicate (fnm i).length v)
def spMade (C : Nat → Addr) : Sp := fun vs H Q _ => ∃ v, vs = [v] ∧ ∀ l as H', Same H H' → Many H' as (made C v) → H' l = some (.lst (as.map V.ref)) → Q (.ref l) H'
def kinds (i : Nat) : List V := (List.range 35).map fun j => .bl (sub i j)
def spKinds (C : Nat → Addr) : Sp := fun vs H Q _ => ∃ (b i : Nat) (fs : List (Str × V)), vs = [.ref b] ∧ i < 38 ∧ ExAt H b (C i) fs ∧ ∀ l H', Same H H' → H' l = some (.lst (kinds i)) → Q (.ref l) H'
def bases (i : Nat) : List V := [.bl (sub i 35), .bl (tyb i "ValueError"), .bl (sub i 36), .bl (tyb i "KeyError"), .bl (sub i 37), .bl (tyb i "LookupError")]
def spBases (C : Nat → Addr) : Sp := fun vs H Q _ => ∃ (b i : Nat) (fs : List (Str × V)), vs = [.ref b] ∧ i < 38 ∧ ExAt H b (C i) fs ∧ ∀ l H', Same H H' → H' l = some (.lst (bases i)) → Q (.ref l) H'
def spDue : Sp := fun vs H Q _ => ∃ i : Nat, vs = [.int i] ∧ i < 35 ∧ ∀ l H', Same H H' → H' l = some (.lst (bases i)) → Q (.ref l) H'
def spFields (C : Nat → Addr) : Sp := fun vs H Q _ => ∃ (b i : Nat) (ws : List V), vs = [.ref b] ∧ i < 35 ∧ ExI H b (C i) (fnm i) ws ∧ ws.length = (fnm i).length ∧ ∀ l H', Same H H' → H' l = some (.lst ws) → Q (.ref l) H'
section
variable {P : Program} {w : World} {K : PySem.W.Frag} {mg : Str → Option Value} {base : Heap} {f : Addr} {fd : FuncData} {C : Nat → Addr}
abbrev sMade : Stmt := top 43
theorem scMade : FnScope ["_law_thing_here", "_law_found"] ["_law_thing_here"] (defScope sMade) := ⟨rfl, rfl, rfl, by decide +kernel, rfl, by decide +kernel, by decide +kernel⟩
theorem ok_made (F : Fun K "_law_made" "_law_made" sMade f fd) (M : Mks P w K mg base C) : FnG P w K mg base CX0 3 f fd ["_law_thing_here"] (spMade C) := by
  refine FunG.ok F scMade (fun vs H Q E h => ?_) (fun cdv B out s H vs Q E hr hG h => ?_)
  · obtain ⟨v, rfl, _⟩ := h
    rfl
  · obtain ⟨v, rfl, q⟩ := h
    have hr2 : Room 2 _ := hr
    refine ⟨_, (pss_cons (ps_set (i := 1) scMade.nd rfl (.inl rfl) (pe_lst (pa_many (m1 M 0 (by decide) rfl rfl hr2 (by rfl) (pv 0) (by decide)) (pa_many (m1 M 1 (by decide) rfl rfl hr2 (by rfl) (pv 0) (by decide)) (pa_many (m1 M 2 (by decide) rfl rfl hr2 (by rfl) (pv 0) (by decide)) (pa_many (m1 M 3 (by decide) rfl rfl hr2 (by rfl) (pv 0) (by decide)) (pa_many (m1 M 4 (by decide) rfl rfl hr2 (by rfl) (pv 0) (by decide)) pa_many0)))))))
      (pss_cons (ps_set (i := 1) scMade.nd rfl (.inl rfl) (pe_op op_cat (pv 1) (pe_lst (pa_many (m1 M 5 (by decide) rfl rfl hr2 (by rfl) (pv 0) (by decide)) (pa_many (m1 M 6 (by decide) rfl rfl hr2 (by rfl) (pv 0) (by decide)) (pa_many (m1 M 7 (by decide) rfl rfl hr2 (by rfl) (pv 0) (by decide)) (pa_many (m1 M 8 (by decide) rfl rfl hr2 (by rfl) (pv 0) (by decide)) (pa_many (m1 M 9 (by decide) rfl rfl hr2 (by rfl) (pv 0) (by decide)) (pa_many (m1 M 10 (by decide) rfl rfl hr2 (by rfl) (pv 0) (by decide)) pa_many0)))))))))
      (pss_cons (ps_set (i := 1) scMade.nd rfl (.inl rfl) (pe_op op_cat (pv 1) (pe_lst (pa_many (m1 M 11 (by decide) rfl rfl hr2 (by rfl) (pv 0) (by decide)) (pa_many (m1 M 12 (by decide) rfl rfl hr2 (by rfl) (pv 0) (by decide)) (pa_many (m1 M 13 (by decide) rfl rfl hr2 (by rfl) (pv 0) (by decide)) (pa_many (m1 M 14 (by decide) rfl rfl hr2 (by rfl) (pv 0) (by decide)) pa_many0)))))))
      (pss_cons (ps_set (i := 1) scMade.nd rfl (.inl rfl) (pe_op op_cat (pv 1) (pe_lst (pa_many (m1 M 15 (by decide) rfl rfl hr2 (by rfl) (pv 0) (by decide)) (pa_many (m1 M 16 (by decide) rfl rfl hr2 (by rfl) (pv 0) (by decide)) (pa_many (m1 M 17 (by decide) rfl rfl hr2 (by rfl) (pv 0) (by decide)) (pa_many (m1 M 18 (by decide) rfl rfl hr2 (by rfl) (pv 0) (by decide)) pa_many0)))))))
      (pss_cons (ps_set (i := 1) scMade.nd rfl (.inl rfl) (pe_op op_cat (pv 1) (pe_lst (pa_many (m1 M 19 (by decide) rfl rfl hr2 (by rfl) (pv 0) (by decide)) (pa_many (m1 M 20 (by decide) rfl rfl hr2 (by rfl) (pv 0) (by decide)) (pa_many (m1 M 21 (by decide) rfl rfl hr2 (by rfl) (pv 0) (by decide)) (pa_many (m1 M 22 (by decide) rfl rfl hr2 (by rfl) (pv 0) (by decide)) pa_many0)))))))
      (pss_cons (ps_set (i := 1) scMade.nd rfl (.inl rfl) (pe_op op_cat (pv 1) (pe_lst (pa_many (m1 M 23 (by decide) rfl rfl hr2 (by rfl) (pv 0) (by decide)) (pa_many (m2 M 24 (by decide) rfl rfl hr2 (by rfl) (pv 0) (pv 0) (by decide)) (pa_many (m1 M 25 (by decide) rfl rfl hr2 (by rfl) (pv 0) (by decide)) (pa_many (m2 M 26 (by decide) rfl rfl hr2 (by rfl) (pv 0) (pv 0) (by decide)) pa_many0)))))))
      (pss_cons (ps_set (i := 1) scMade.nd rfl (.inl rfl) (pe_op op_cat (pv 1) (pe_lst (pa_many (m1 M 27 (by decide) rfl rfl hr2 (by rfl) (pv 0) (by decide)) (pa_many (m0 M 28 (by decide) rfl rfl hr2 (by rfl) (by decide)) (pa_many (m1 M 29 (by decide) rfl rfl hr2 (by rfl) (pv 0) (by decide)) (pa_many (m2 M 30 (by decide) rfl rfl hr2 (by rfl) (pv 0) (pv 0) (by decide)) (pa_many (m1 M 31 (by decide) rfl rfl hr2 (by rfl) (pv 0) (by decide)) pa_many0))))))))
      (pss_cons (ps_set (i := 1) scMade.nd rfl (.inl rfl) (pe_op op_cat (pv 1) (pe_lst (pa_many (m1 M 32 (by decide) rfl rfl hr2 (by rfl) (pv 0) (by decide)) (pa_many (m1 M 33 (by decide) rfl rfl hr2 (by rfl) (pv 0) (by decide)) (pa_many (m0 M 34 (by decide) rfl rfl hr2 (by rfl) (by decide)) pa_many0))))))
      (pss_one (ps_ret (pv 1))))))))))), ?_⟩
    refine seq_asg (first_row rfl (Nat.le_of_ble_eq_true rfl) fun p1 as1 H1 x1 y1 z1 => ?_)
    refine seq_asg (next_row rfl (Nat.le_of_ble_eq_true rfl) rfl z1 y1 x1 fun p2 as2 H2 x2 y2 z2 => ?_)
    refine seq_asg (next_row rfl (Nat.le_of_ble_eq_true rfl) rfl z2 y2 x2 fun p3 as3 H3 x3 y3 z3 => ?_)
    refine seq_asg (next_row rfl (Nat.le_of_ble_eq_true rfl) rfl z3 y3 x3 fun p4 as4 H4 x4 y4 z4 => ?_)
    refine seq_asg (next_row rfl (Nat.le_of_ble_eq_true rfl) rfl z4 y4 x4 fun p5 as5 H5 x5 y5 z5 => ?_)
    refine seq_asg (next_row rfl (Nat.le_of_ble_eq_true rfl) rfl z5 y5 x5 fun p6 as6 H6 x6 y6 z6 => ?_)
    refine seq_asg (next_row rfl (Nat.le_of_ble_eq_true rfl) rfl z6 y6 x6 fun p7 as7 H7 x7 y7 z7 => ?_)
    refine seq_asg (next_row rfl (Nat.le_of_ble_eq_true rfl) rfl z7 y7 x7 fun p8 as8 H8 x8 y8 z8 => ?_)
    exact ⟨_, rfl, q p8 as8 H8 x8 y8 z8⟩
abbrev sNamed : Stmt := top 44
theorem scNamed : FnScope ["_law_thing_here", "_law_found"] ["_law_thing_here"] (defScope sNamed) := ⟨rfl, rfl, rfl, by decide +kernel, rfl, by decide +kernel, by decide +kernel⟩
theorem ok_named (F : Fun K "_law_named" "_law_named" sNamed f fd) (M : Mks P w K mg base C) : FnG P w K mg base CX0 3 f fd ["_law_thing_here"] (spMade C) := by
  refine FunG.ok F scNamed (fun vs H Q E h => ?_) (fun cdv B out s H vs Q E hr hG h => ?_)
  · obtain ⟨v, rfl, _⟩ := h
    rfl
  · obtain ⟨v, rfl, q⟩ := h
    have hr2 : Room 2 _ := hr
    refine ⟨_, (pss_cons (ps_set (i := 1) scNamed.nd rfl (.inl rfl) (pe_lst (pa_many (k1 M 0 (by decide) rfl rfl hr2 (by rfl) (pv 0) (by decide)) (pa_many (k1 M 1 (by decide) rfl rfl hr2 (by rfl) (pv 0) (by decide)) (pa_many (k1 M 2 (by decide) rfl rfl hr2 (by rfl) (pv 0) (by decide)) (pa_many (k1 M 3 (by decide) rfl rfl hr2 (by rfl) (pv 0) (by decide)) pa_many0))))))
      (pss_cons (ps_set (i := 1) scNamed.nd rfl (.inl rfl) (pe_op op_cat (pv 1) (pe_lst (pa_many (k1 M 4 (by decide) rfl rfl hr2 (by rfl) (pv 0) (by decide)) (pa_many (k1 M 5 (by decide) rfl rfl hr2 (by rfl) (pv 0) (by decide)) (pa_many (k1 M 6 (by decide) rfl rfl hr2 (by rfl) (pv 0) (by decide)) (pa_many (k1 M 7 (by decide) rfl rfl hr2 (by rfl) (pv 0) (by decide)) pa_many0)))))))
      (pss_cons (ps_set (i := 1) scNamed.nd rfl (.inl rfl) (pe_op op_cat (pv 1) (pe_lst (pa_many (k1 M 8 (by decide) rfl rfl hr2 (by rfl) (pv 0) (by decide)) (pa_many (k1 M 9 (by decide) rfl rfl hr2 (by rfl) (pv 0) (by decide)) (pa_many (k1 M 10 (by decide) rfl rfl hr2 (by rfl) (pv 0) (by decide)) (pa_many (k1 M 11 (by decide) rfl rfl hr2 (by rfl) (pv 0) (by decide)) pa_many0)))))))
      (pss_cons (ps_set (i := 1) scNamed.nd rfl (.inl rfl) (pe_op op_cat (pv 1) (pe_lst (pa_many (k1 M 12 (by decide) rfl rfl hr2 (by rfl) (pv 0) (by decide)) (pa_many (k1 M 13 (by decide) rfl rfl hr2 (by rfl) (pv 0) (by decide)) (pa_many (k1 M 14 (by decide) rfl rfl hr2 (by rfl) (pv 0) (by decide)) pa_many0))))))
      (pss_cons (ps_set (i := 1) scNamed.nd rfl (.inl rfl) (pe_op op_cat (pv 1) (pe_lst (pa_many (k1 M 15 (by decide) rfl rfl hr2 (by rfl) (pv 0) (by decide)) (pa_many (k1 M 16 (by decide) rfl rfl hr2 (by rfl) (pv 0) (by decide)) (pa_many (k1 M 17 (by decide) rfl rfl hr2 (by rfl) (pv 0) (by decide)) pa_many0))))))
      (pss_cons (ps_set (i := 1) scNamed.nd rfl (.inl rfl) (pe_op op_cat (pv 1) (pe_lst (pa_many (k1 M 18 (by decide) rfl rfl hr2 (by rfl) (pv 0) (by decide)) (pa_many (k1 M 19 (by decide) rfl rfl hr2 (by rfl) (pv 0) (by decide)) (pa_many (k1 M 20 (by decide) rfl rfl hr2 (by rfl) (pv 0) (by decide)) pa_many0))))))
      (pss_cons (ps_set (i := 1) scNamed.nd rfl (.inl rfl) (pe_op op_cat (pv 1) (pe_lst (pa_many (k1 M 21 (by decide) rfl rfl hr2 (by rfl) (pv 0) (by decide)) (pa_many (k1 M 22 (by decide) rfl rfl hr2 (by rfl) (pv 0) (by decide)) (pa_many (k1 M 23 (by decide) rfl rfl hr2 (by rfl) (pv 0) (by decide)) pa_many0))))))
      (pss_cons (ps_set (i := 1) scNamed.nd rfl (.inl rfl) (pe_op op_cat (pv 1) (pe_lst (pa_many (k2 M 24 (by decide) rfl rfl hr2 (by rfl) (pv 0) (pv 0) (by decide)) (pa_many (k1 M 25 (by decide) rfl rfl hr2 (by rfl) (pv 0) (by decide)) pa_many0)))))
      (pss_cons (ps_set (i := 1) scNamed.nd rfl (.inl rfl) (pe_op op_cat (pv 1) (pe_lst (pa_many (k2 M 26 (by decide) rfl rfl hr2 (by rfl) (pv 0) (pv 0) (by decide)) (pa_many (k1 M 27 (by decide) rfl rfl hr2 (by rfl) (pv 0) (by decide)) (pa_many (m0 M 28 (by decide) rfl rfl hr2 (by rfl) (by decide)) pa_many0))))))
      (pss_cons (ps_set (i := 1) scNamed.nd rfl (.inl rfl) (pe_op op_cat (pv 1) (pe_lst (pa_many (k1 M 29 (by decide) rfl rfl hr2 (by rfl) (pv 0) (by decide)) (pa_many (k2 M 30 (by decide) rfl rfl hr2 (by rfl) (pv 0) (pv 0) (by decide)) (pa_many (k1 M 31 (by decide) rfl rfl hr2 (by rfl) (pv 0) (by decide)) pa_many0))))))
      (pss_cons (ps_set (i := 1) scNamed.nd rfl (.inl rfl) (pe_op op_cat (pv 1) (pe_lst (pa_many (k1 M 32 (by decide) rfl rfl hr2 (by rfl) (pv 0) (by decide)) (pa_many (k1 M 33 (by decide) rfl rfl hr2 (by rfl) (pv 0) (by decide)) (pa_many (m0 M 34 (by decide) rfl rfl hr2 (by rfl) (by decide)) pa_many0))))))
      (pss_one (ps_ret (pv 1)))))))))))))), ?_⟩
    refine seq_asg (first_row rfl (Nat.le_of_ble_eq_true rfl) fun p1 as1 H1 x1 y1 z1 => ?_)
    refine seq_asg (next_row rfl (Nat.le_of_ble_eq_true rfl) rfl z1 y1 x1 fun p2 as2 H2 x2 y2 z2 => ?_)
    refine seq_asg (next_row rfl (Nat.le_of_ble_eq_true rfl) rfl z2 y2 x2 fun p3 as3 H3 x3 y3 z3 => ?_)
    refine seq_asg (next_row rfl (Nat.le_of_ble_eq_true rfl) rfl z3 y3 x3 fun p4 as4 H4 x4 y4 z4 => ?_)
    refine seq_asg (next_row rfl (Nat.le_of_ble_eq_true rfl) rfl z4 y4 x4 fun p5 as5 H5 x5 y5 z5 => ?_)
    refine seq_asg (next_row rfl (Nat.le_of_ble_eq_true rfl) rfl z5 y5 x5 fun p6 as6 H6 x6 y6 z6 => ?_)
    refine seq_asg (next_row rfl (Nat.le_of_ble_eq_true rfl) rfl z6 y6 x6 fun p7 as7 H7 x7 y7 z7 => ?_)
    refine seq_asg (next_row rfl (Nat.le_of_ble_eq_true rfl) rfl z7 y7 x7 fun p8 as8 H8 x8 y8 z8 => ?_)
    refine seq_asg (next_row rfl (Nat.le_of_ble_eq_true rfl) rfl z8 y8 x8 fun p9 as9 H9 x9 y9 z9 => ?_)
    refine seq_asg (next_row rfl (Nat.le_of_ble_eq_true rfl) rfl z9 y9 x9 fun p10 as10 H10 x10 y10 z10 => ?_)
    refine seq_asg (next_row rfl (Nat.le_of_ble_eq_true rfl) rfl z10 y10 x10 fun p11 as11 H11 x11 y11 z11 => ?_)
    exact ⟨_, rfl, q p11 as11 H11 x11 y11 z11⟩
abbrev sKinds : Stmt := top 45
theorem scKinds : FnScope ["_law_e", "_law_found"] ["_law_e"] (defScope sKinds) := ⟨rfl, rfl, rfl, by decide +kernel, rfl, by decide +kernel, by decide +kernel⟩
theorem ok_kinds (F : Fun K "_law_kinds" "_law_kinds" sKinds f fd) (Z : Z1 mg) (T : Pk K mg C) : FnG P w K mg base CX0 1 f fd ["_law_e"] (spKinds C) := by
  refine FunG.ok F scKinds (fun vs H Q E h => ?_) (fun cdv B out s H vs Q E hr hG h => ?_)
  · obtain ⟨b, i, fs, rfl, _⟩ := h
    rfl
  · obtain ⟨b, i, fs, rfl, hi, hA, q⟩ := h
    refine ⟨_, (pss_cons (ps_set (i := 1) scKinds.nd rfl (.inl rfl) (pe_lst (js (is1 T 0 (by decide) rfl (pv 0) (by rfl) (by rfl) Z.isi (by decide)) (js (is1 T 1 (by decide) rfl (pv 0) (by rfl) (by rfl) Z.isi (by decide)) (js (is1 T 2 (by decide) rfl (pv 0) (by rfl) (by rfl) Z.isi (by decide)) js0 rfl) rfl) rfl)))
      (pss_cons (ps_set (i := 1) scKinds.nd rfl (.inl rfl) (pe_op op_cat (pv 1) (pe_lst (js (is1 T 3 (by decide) rfl (pv 0) (by rfl) (by rfl) Z.isi (by decide)) (js (is1 T 4 (by decide) rfl (pv 0) (by rfl) (by rfl) Z.isi (by decide)) (js (is1 T 5 (by decide) rfl (pv 0) (by rfl) (by rfl) Z.isi (by decide)) js0 rfl) rfl) rfl))))
      (pss_cons (ps_set (i := 1) scKinds.nd rfl (.inl rfl) (pe_op op_cat (pv 1) (pe_lst (js (is1 T 6 (by decide) rfl (pv 0) (by rfl) (by rfl) Z.isi (by decide)) (js (is1 T 7 (by decide) rfl (pv 0) (by rfl) (by rfl) Z.isi (by decide)) (js (is1 T 8 (by decide) rfl (pv 0) (by rfl) (by rfl) Z.isi (by decide)) (js (is1 T 9 (by decide) rfl (pv 0) (by rfl) (by rfl) Z.isi (by decide)) js0 rfl) rfl) rfl) rfl))))
      (pss_cons (ps_set (i := 1) scKinds.nd rfl (.inl rfl) (pe_op op_cat (pv 1) (pe_lst (js (is1 T 10 (by decide) rfl (pv 0) (by rfl) (by rfl) Z.isi (by decide)) (js (is1 T 11 (by decide) rfl (pv 0) (by rfl) (by rfl) Z.isi (by decide)) (js (is1 T 12 (by decide) rfl (pv 0) (by rfl) (by rfl) Z.isi (by decide)) js0 rfl) rfl) rfl))))
      (pss_cons (ps_set (i := 1) scKinds.nd rfl (.inl rfl) (pe_op op_cat (pv 1) (pe_lst (js (is1 T 13 (by decide) rfl (pv 0) (by rfl) (by rfl) Z.isi (by decide)) (js (is1 T 14 (by decide) rfl (pv 0) (by rfl) (by rfl) Z.isi (by decide)) (js (is1 T 15 (by decide) rfl (pv 0) (by rfl) (by rfl) Z.isi (by decide)) js0 rfl) rfl) rfl))))
      (pss_cons (ps_set (i := 1) scKinds.nd rfl (.inl rfl) (pe_op op_cat (pv 1) (pe_lst (js (is1 T 16 (by decide) rfl (pv 0) (by rfl) (by rfl) Z.isi (by decide)) (js (is1 T 17 (by decide) rfl (pv 0) (by rfl) (by rfl) Z.isi (by decide)) (js (is1 T 18 (by decide) rfl (pv 0) (by rfl) (by rfl) Z.isi (by decide)) js0 rfl) rfl) rfl))))
      (pss_cons (ps_set (i := 1) scKinds.nd rfl (.inl rfl) (pe_op op_cat (pv 1) (pe_lst (js (is1 T 19 (by decide) rfl (pv 0) (by rfl) (by rfl) Z.isi (by decide)) (js (is1 T 20 (by decide) rfl (pv 0) (by rfl) (by rfl) Z.isi (by decide)) (js (is1 T 21 (by decide) rfl (pv 0) (by rfl) (by rfl) Z.isi (by decide)) js0 rfl) rfl) rfl))))
      (pss_cons (ps_set (i := 1) scKinds.nd rfl (.inl rfl) (pe_op op_cat (pv 1) (pe_lst (js (is1 T 22 (by decide) rfl (pv 0) (by rfl) (by rfl) Z.isi (by decide)) (js (is1 T 23 (by decide) rfl (pv 0) (by rfl) (by rfl) Z.isi (by decide)) (js (is1 T 24 (by decide) rfl (pv 0) (by rfl) (by rfl) Z.isi (by decide)) js0 rfl) rfl) rfl))))
      (pss_cons (ps_set (i := 1) scKinds.nd rfl (.inl rfl) (pe_op op_cat (pv 1) (pe_lst (js (is1 T 25 (by decide) rfl (pv 0) (by rfl) (by rfl) Z.isi (by decide)) (js (is1 T 26 (by decide) rfl (pv 0) (by rfl) (by rfl) Z.isi (by decide)) (js (is1 T 27 (by decide) rfl (pv 0) (by rfl) (by rfl) Z.isi (by decide)) js0 rfl) rfl) rfl))))
      (pss_cons (ps_set (i := 1) scKinds.nd rfl (.inl rfl) (pe_op op_cat (pv 1) (pe_lst (js (is1 T 28 (by decide) rfl (pv 0) (by rfl) (by rfl) Z.isi (by decide)) (js (is1 T 29 (by decide) rfl (pv 0) (by rfl) (by rfl) Z.isi (by decide)) (js (is1 T 30 (by decide) rfl (pv 0) (by rfl) (by rfl) Z.isi (by decide)) (js (is1 T 31 (by decide) rfl (pv 0) (by rfl) (by rfl) Z.isi (by decide)) js0 rfl) rfl) rfl) rfl))))
      (pss_cons (ps_set (i := 1) scKinds.nd rfl (.inl rfl) (pe_op op_cat (pv 1) (pe_lst (js (is1 T 32 (by decide) rfl (pv 0) (by rfl) (by rfl) Z.isi (by decide)) (js (is1 T 33 (by decide) rfl (pv 0) (by rfl) (by rfl) Z.isi (by decide)) (js (is1 T 34 (by decide) rfl (pv 0) (by rfl) (by rfl) Z.isi (by decide)) js0 rfl) rfl) rfl))))
      (pss_one (ps_ret (pv 1)))))))))))))), ?_⟩
    refine seq_asg (first_js (H0 := H) rfl hi hA (Nat.le_of_ble_eq_true rfl) (fun _ _ e => e) fun p1 H1 x1 z1 => ?_)
    refine seq_asg (next_js rfl hi hA x1 rfl z1 (Nat.le_of_ble_eq_true rfl) fun p2 H2 x2 z2 => ?_)
    refine seq_asg (next_js rfl hi hA x2 rfl z2 (Nat.le_of_ble_eq_true rfl) fun p3 H3 x3 z3 => ?_)
    refine seq_asg (next_js rfl hi hA x3 rfl z3 (Nat.le_of_ble_eq_true rfl) fun p4 H4 x4 z4 => ?_)
    refine seq_asg (next_js rfl hi hA x4 rfl z4 (Nat.le_of_ble_eq_true rfl) fun p5 H5 x5 z5 => ?_)
    refine seq_asg (next_js rfl hi hA x5 rfl z5 (Nat.le_of_ble_eq_true rfl) fun p6 H6 x6 z6 => ?_)
    refine seq_asg (next_js rfl hi hA x6 rfl z6 (Nat.le_of_ble_eq_true rfl) fun p7 H7 x7 z7 => ?_)
    refine seq_asg (next_js rfl hi hA x7 rfl z7 (Nat.le_of_ble_eq_true rfl) fun p8 H8 x8 z8 => ?_)
    refine seq_asg (next_js rfl hi hA x8 rfl z8 (Nat.le_of_ble_eq_true rfl) fun p9 H9 x9 z9 => ?_)
    refine seq_asg (next_js rfl hi hA x9 rfl z9 (Nat.le_of_ble_eq_true rfl) fun p10 H10 x10 z10 => ?_)
    refine seq_asg (next_js rfl hi hA x10 rfl z10 (Nat.le_of_ble_eq_true rfl) fun p11 H11 x11 z11 => ?_)
    exact ⟨_, rfl, q p11 H11 x11 z11⟩
abbrev sBases : Stmt := top 46
theorem scBases : FnScope ["_law_e", "_law_found"] ["_law_e"] (defScope sBases) := ⟨rfl, rfl, rfl, by decide +kernel, rfl, by decide +kernel, by decide +kernel⟩
theorem ok_bases (F : Fun K "_law_bases" "_law_bases" sBases f fd) (Z : Z1 mg) (T : Pk K mg C) : FnG P w K mg base CX0 1 f fd ["_law_e"] (spBases C) := by
  refine FunG.ok F scBases (fun vs H Q E h => ?_) (fun cdv B out s H vs Q E hr hG h => ?_)
  · obtain ⟨b, i, fs, rfl, _⟩ := h
    rfl
  · obtain ⟨b, i, fs, rfl, hi, hA, q⟩ := h
    refine ⟨_, (pss_cons (ps_set (i := 1) scBases.nd rfl (.inl rfl) (pe_lst (js (is1 T 35 (by decide) rfl (pv 0) (by rfl) (by rfl) Z.isi (by decide)) (js (isT T "ValueError" (by decide) (pv 0) (pe_bltn (by rfl) Z.ve (by decide +kernel) (show RelV (.ty "ValueError") _ from rfl)) (by rfl) Z.isi) (js (is1 T 36 (by decide) rfl (pv 0) (by rfl) (by rfl) Z.isi (by decide)) js0 rfl) rfl) rfl)))
      (pss_one (ps_ret (pe_op op_cat (pv 1) (pe_lst (js (isT T "KeyError" (by decide) (pv 0) (pe_bltn (by rfl) Z.ke (by decide +kernel) (show RelV (.ty "KeyError") _ from rfl)) (by rfl) Z.isi) (js (is1 T 37 (by decide) rfl (pv 0) (by rfl) (by rfl) Z.isi (by decide)) (js (isT T "LookupError" (by decide) (pv 0) (pe_bltn (by rfl) Z.le (by decide +kernel) (show RelV (.ty "LookupError") _ from rfl)) (by rfl) Z.isi) js0 rfl) rfl) rfl)))))), ?_⟩
    refine seq_asg (first_js (H0 := H) rfl hi hA (Nat.le_of_ble_eq_true rfl) (fun _ _ e => e) fun p1 H1 x1 z1 => ?_)
    exact ret_of (next_js rfl hi hA x1 rfl z1 (Nat.le_of_ble_eq_true rfl) fun p2 H2 x2 z2 => q p2 H2 x2 z2)
abbrev sDue : Stmt := top 47
theorem scDue : FnScope ["_law_at"] ["_law_at"] (defScope sDue) := ⟨rfl, rfl, rfl, by decide +kernel, rfl, by decide +kernel, by decide +kernel⟩

theorem due_all : ∀ i : Nat, i < 35 → bases i = if i < 22 then [.bl true, .bl true, .bl false, .bl false, .bl false, .bl false] else if i < 28 then [.bl false, .bl false, .bl true, .bl true, .bl false, .bl true] else [.bl false, .bl false, .bl false, .bl false, .bl true, .bl true] := fun i hi => by
  have key : ∀ i : Nat, i < 35 → [sub i 35, tyb i "ValueError", sub i 36, tyb i "KeyError", sub i 37, tyb i "LookupError"] = if i < 22 then [true, true, false, false, false, false] else if i < 28 then [false, false, true, true, false, true] else [false, false, false, false, true, true] := by decide +kernel
  have e := congrArg (List.map V.bl) (key i hi)
  refine Eq.trans (show bases i = _ from e) ?_
  split
  · rfl
  · split <;> rfl
theorem ok_due (F : Fun K "_law_base_due" "_law_base_due" sDue f fd) : FnG P w K mg base CX0 1 f fd ["_law_at"] spDue := by
  refine FunG.ok F scDue (fun vs H Q E h => ?_) (fun cdv B out s H vs Q E hr hG h => ?_)
  · obtain ⟨i, rfl, _⟩ := h
    rfl
  · obtain ⟨i, rfl, hi, q⟩ := h
    rw [due_all i hi] at q
    refine ⟨_, pss_cons (ps_if (pt_cmpR op_lt (pv 0) pe_int (nomark _)) (pss_one (ps_ret (pe_lst (pa_cons pe_bl (pa_cons pe_bl (pa_cons pe_bl (pa_cons pe_bl (pa_cons pe_bl (pa_cons pe_bl pa_nil))))))))) pss_nil)
      (pss_cons (ps_if (pt_cmpR op_lt (pv 0) pe_int (nomark _)) (pss_one (ps_ret (pe_lst (pa_cons pe_bl (pa_cons pe_bl (pa_cons pe_bl (pa_cons pe_bl (pa_cons pe_bl (pa_cons pe_bl pa_nil))))))))) pss_nil) (pss_one (ps_ret (pe_lst (pa_cons pe_bl (pa_cons pe_bl (pa_cons pe_bl (pa_cons pe_bl (pa_cons pe_bl (pa_cons pe_bl pa_nil)))))))))), ?_⟩
    refine ⟨_, rfl, _, _, rfl, rfl, _, rfl, ite2 (fun h1 => ?_) (fun h1 => ?_)⟩
    · have h1' := of_decide_eq_true h1
      rw [if_pos (by omega)] at q
      exact ⟨(by decide), fun p hp => q p _ (Same.put hp) upd_same⟩
    · have h1' : ¬ ((i : Int) < 22) := fun z => h1 (decide_eq_true z)
      rw [if_neg (by omega)] at q
      refine ⟨_, rfl, _, _, rfl, rfl, _, rfl, ite2 (fun h2 => ?_) (fun h2 => ?_)⟩
      · have h2' := of_decide_eq_true h2
        rw [if_pos (by omega)] at q
        exact ⟨(by decide), fun p hp => q p _ (Same.put hp) upd_same⟩
      · have h2' : ¬ ((i : Int) < 28) := fun z => h2 (decide_eq_true z)
        rw [if_neg (by omega)] at q
        exact ⟨(by decide), fun p hp => q p _ (Same.put hp) upd_same⟩
end
end T01
set_option Elab.async false
set_option linter.all false
set_option maxRecDepth 100000
set_option maxHeartbeats 4000000
namespace T01
open PySem PySem.Spec PyProof.Rows L2 Tp
def rsd (i : Nat) : Nat := if up i == 35 then 1 else if up i == 36 then 23 else 32
def word (i : Nat) : Str := if up i == 35 then "net" else if up i == 36 then "missing" else "state"
def spRaised (C : Nat → Addr) : Sp := fun vs H Q E => ∃ (b i : Nat) (fs : List (Str × V)), vs = [.ref b] ∧ i < 35 ∧ ExAt H b (C i) fs ∧ ∀ H' d, Same H H' → E (.ref (C (rsd i))) d H'
def spCaught (C : Nat → Addr) : Sp := fun vs H Q E => ∃ (b i : Nat) (fs : List (Str × V)), vs = [.ref b] ∧ i < 35 ∧ ExAt H b (C i) fs ∧ ∀ H', Same H H' → Q (.str (word i)) H'
section
variable {P : Program} {w : World} {K : PySem.W.Frag} {mg : Str → Option Value} {base : Heap} {f : Addr} {fd : FuncData} {C : Nat → Addr}
theorem same_del {H H' : Hp} {a : Addr} (n : H a = none) (k : Same H H') : Same H (delH H' a) := fun b o e => (delH_ne (ne_of_none e n)).trans (k b o e)
theorem one_raise {c : L2.St → Option Ent} {σ : L2.St} {H H0 : Hp} {Q : XK} {K : PySem.W.Frag} {d : Ent} (e : c σ = some d) (hT : ExK K d.1) (h0 : H = H0) (q : ∀ H' o, Same H H' → Q (.ref d.1) o H') :
    tOne c σ H fun x H1 => ∃ (a C : Addr) (o : Option Addr), x = .ref a ∧ H1 a = some (exo a C o) ∧ Fr0 H0 a ∧ ExK K C ∧ Q (.ref C) o (delH H1 a) :=
  ⟨d, e, fun a H1 n k1 x1 => by
    subst h0
    obtain ⟨fs, hA, _⟩ := x1
    rcases hA with ⟨_, hA⟩ | ⟨dx, _, hA, _⟩
    · exact ⟨a, d.1, none, rfl, hA, fr0_none n, hT, q _ _ (same_del n k1)⟩
    · exact ⟨a, d.1, some dx, rfl, hA, fr0_none n, hT, q _ _ (same_del n k1)⟩⟩
abbrev sRaised : Stmt := top 50
theorem scRaised : FnScope ["_law_e"] ["_law_e"] (defScope sRaised) := ⟨rfl, rfl, rfl, by decide +kernel, rfl, by decide +kernel, by decide +kernel⟩
theorem ok_raised (F : Fun K "_law_raised" "_law_raised" sRaised f fd) (Z : Z1 mg) (T : Pk K mg C) (M : Mks P w K mg base C) : FnOk P w K mg base (L2.CX P w) 3 f fd ["_law_e"] (spRaised C) := by
  refine F.okX scRaised (fun vs H Q E h => ?_) (fun cdv A outer s H vs Q E hr h => ?_)
  · obtain ⟨b, i, fs, rfl, _⟩ := h
    rfl
  · obtain ⟨b, i, fs, rfl, hi, hA, q⟩ := h
    have hr2 : Room 2 _ := hr
    refine ⟨_, pss_cons (ps_if (pt_val (is1 T 35 (by decide) rfl (pv 0) (by rfl) (by rfl) Z.isi (by decide))) (pss_one (ps_raise rfl (takes_of rfl rfl rfl rfl) (pmk_x rfl (m1 M 1 (by decide) rfl rfl hr2 (by rfl) (pv 0) (by decide))))) pss_nil)
      (pss_cons (ps_if (pt_val (is1 T 36 (by decide) rfl (pv 0) (by rfl) (by rfl) Z.isi (by decide))) (pss_one (ps_raise rfl (takes_of rfl rfl rfl rfl) (pmk_x rfl (m1 M 23 (by decide) rfl rfl hr2 (by rfl) (pv 0) (by decide))))) pss_nil)
        (pss_one (ps_raise rfl (takes_of rfl rfl rfl rfl) (pmk_x rfl (m1 M 32 (by decide) rfl rfl hr2 (by rfl) (pv 0) (by decide)))))), ?_⟩
    have k1 : ∀ i : Nat, i < 35 → sub i 35 = true → rsd i = 1 := by decide +kernel
    have k2 : ∀ i : Nat, i < 35 → sub i 36 = true → rsd i = 23 := by decide +kernel
    have k3 : ∀ i : Nat, i < 35 → sub i 35 = false → sub i 36 = false → rsd i = 32 := by decide +kernel
    refine ⟨b, i, fs, rfl, by omega, hA, _, rfl, ite2 (fun h1 => ?_) (fun h1 => ?_)⟩
    · rw [k1 i hi h1] at q
      exact one_raise rfl (T.ex 1 (by decide)) rfl q
    · refine ⟨b, i, fs, rfl, by omega, hA, _, rfl, ite2 (fun h2 => ?_) (fun h2 => ?_)⟩
      · rw [k2 i hi h2] at q
        exact one_raise rfl (T.ex 23 (by decide)) rfl q
      · rw [k3 i hi (Bool.eq_false_iff.mpr h1) (Bool.eq_false_iff.mpr h2)] at q
        dsimp only [tNext]
        exact one_raise rfl (T.ex 32 (by decide)) rfl q
abbrev sCaught : Stmt := top 49
theorem scCaught : FnScope ["_law_e"] ["_law_e"] (defScope sCaught) := ⟨rfl, rfl, rfl, by decide +kernel, rfl, by decide +kernel, by decide +kernel⟩
theorem ok_caught {fR : Addr} {fdR : FuncData} (F : Fun K "_law_caught" "_law_caught" sCaught f fd) (T : Pk K mg C) (R : FnOk P w K mg base (L2.CX P w) 3 fR fdR ["_law_e"] (spRaised C)) (gR : mg "_law_raised" = some (.ref fR)) (kR : PySem.W.keepIn K (.ref fR) = true) (bR : Binds K fdR ["_law_e"] []) :
    FnG P w K mg base CX0 4 f fd ["_law_e"] (spCaught C) := by
  refine FunG.ok F scCaught (fun vs H Q E h => ?_) (fun cdv B out s H vs Q E hr hG h => ?_)
  · obtain ⟨b, i, fs, rfl, _⟩ := h
    rfl
  · obtain ⟨b, i, fs, rfl, hi, hA, q⟩ := h
    have hr3 : Room 3 _ := hr
    refine ⟨_, pss_cons (ps_try_many rfl rfl takes0 (fun W pn xe tk _ => pss_one (ps_expr (pe_callS R hr3 (by rfl) gR kR bR (fun σ => passAt tk σ) (pa_cons (pv 0) pa_nil))))
      (.cons ⟨by rfl, by decide, .inl (T.gl 35 (by decide))⟩ (fun a oe cls d pn _ _ => pss_one (ps_ret pe_str)) (.cons ⟨by rfl, by decide, .inl (T.gl 36 (by decide))⟩ (fun a oe cls d pn _ _ => pss_one (ps_ret pe_str))
        (.cons ⟨by rfl, by decide, .inl (T.gl 37 (by decide))⟩ (fun a oe cls d pn _ _ => pss_one (ps_ret pe_str)) .nil)))) (pss_one (ps_ret pe_str)), ?_⟩
    have rl : ∀ i : Nat, i < 35 → rsd i < 38 ∧ up (rsd i) = up i ∧ rsd i < 35 := by decide +kernel
    obtain ⟨r1, r2, r3⟩ := rl i hi
    have su : ∀ j, j < 38 → 35 ≤ j → PySem.W.exmOne K (.ref (C (rsd i))) (.ref (C j)) = some (up i == j) := fun j hj h35 => by
      rw [T.su _ j r1 hj]
      unfold sub
      rw [r2, show (rsd i == j) = false from by
        rw [beq_eq_false_iff_ne]
        omega, Bool.false_or]
    have upk : ∀ i : Nat, i < 35 → up i = 35 ∨ up i = 36 ∨ up i = 37 := by decide +kernel
    refine ⟨_, rfl, b, i, fs, rfl, hi, hA, fun H' d s => ?_⟩
    unfold word at q
    rcases upk i hi with e | e | e <;> rw [e] at q su
    · exact ⟨true, su 35 (by decide) (by decide), fun _ a ha => q _ s, fun z => by cases z⟩
    · exact ⟨false, su 35 (by decide) (by decide), (fun z => by cases z), fun _ => ⟨true, su 36 (by decide) (by decide), fun _ a ha => q _ s, fun z => by cases z⟩⟩
    · exact ⟨false, su 35 (by decide) (by decide), (fun z => by cases z), fun _ => ⟨false, su 36 (by decide) (by decide), (fun z => by cases z), fun _ => ⟨true, su 37 (by decide) (by decide), fun _ a ha => q _ s, fun z => by cases z⟩⟩⟩
end
end T01
set_option Elab.async false
set_option linter.all false
set_option maxRecDepth 100000
set_option maxHeartbeats 4000000
namespace T01
open PySem PySem.Spec PyProof.Rows L2 Tp
def tCls (C : Nat → Addr) (js : List Nat) : TA := fun σ H Q => Q (js.map fun j => V.ref (C j)) H
def tJT (C : Nat → Addr) (a : Nat) (js : List Nat) : TE := fun σ H Q => ∃ (b i : Nat) (fs : List (Str × V)), gv σ a = some (.ref b) ∧ i < 38 ∧ ExAt H b (C i) fs ∧ ∀ H', Same H H' → Q (.bl (js.any (sub i))) H'
section
variable {X : Cx} {C : Nat → Addr} {i a b : Nat} {x : Str} {p pos q1 q2 : Pos} {y1 y2 : Str} {q3 q4 : Pos} {es : List Expr} {js : List Nat} {k : Nat}
theorem clc0 : PA X [] (tCls C []) := ⟨fun pos pins s σ H Q I h => pa_nil.run pos pins s σ H Q I h⟩
theorem clc (T : Pk X.K X.mg C) (j : Nat) (hj : j < 38) (hx : x = nm j) (hg : Gl X x) (hd : (x == ("__debug__" : Str)) = false) (h2 : PA X es (tCls C js)) : PA X (.Name x q1 :: es) (tCls C (j :: js)) := ⟨fun pos pins s σ H Q I h => by
  subst hx
  exact (pa_cons (pe_glob hg (T.gl j hj) (v := .ref (C j)) rfl hd) h2).run pos pins s σ H Q I h⟩
theorem any_js {K : PySem.W.Frag} {mg : Str → Option Value} (T : Pk K mg C) (hi : i < 38) : ∀ js : List Nat, (∀ j ∈ js, j < 38) → PySem.W.kitAny K (.ref (C i)) (js.map fun j => Value.ref (C j)) = some (js.any (sub i))
  | [], _ => kitAny_nil
  | j :: js, h => by
    have ih := any_js T hi js fun k hk => h k (List.mem_cons_of_mem _ hk)
    refine kitAny_cons (T.kd i j hi (h j List.mem_cons_self)) (fun z => ?_) fun z => ?_
    · rw [ih, List.any_cons, z, Bool.false_or]
    · rw [List.any_cons, z, Bool.true_or]
theorem cls_js : ∀ js : List Nat, Paired ClsV (js.map fun j => V.ref (C j)) (js.map fun j => Value.ref (C j))
  | [] => .nil
  | j :: js => .cons (.own _) (cls_js js)
theorem isTup (T : Pk X.K X.mg C) (js : List Nat) (hj : ∀ j ∈ js, j < 38) (hz : js.length ≤ 100) (h1 : PE X (Expr.Name y1 q3) (tVar a)) (h2 : PA X es (tCls C js)) (hgi : Gl X "isinstance") (hmi : X.mg "isinstance" = none) :
    PE X (.Call (.Name "isinstance" p) [Expr.Name y1 q3, .Tuple es k q1] [] pos) (tJT C a js) := by
  refine PE.of (pe_callB call_isxT hgi hmi (by decide +kernel) (pa_cons h1 (pa_cons (pe_tup h2) pa_nil))) fun σ H Q q => ?_
  obtain ⟨b, i, fs, g, hi, hA, q⟩ := q
  refine ⟨_, gv_eq g, (by rw [List.length_map, sizeLine_eq]; omega), fun tp ht => ?_⟩
  exact ⟨b, C i, fs, tp, _, _, _, rfl, hA.mono (Same.put ht), T.ex i hi, upd_same, cls_js js, any_js T hi js hj, q _ (Same.put ht)⟩
end
section
variable {K : PySem.W.Frag} {mg : Str → Option Value} {C : Nat → Addr} {σ : L2.St} {H H0 : Hp} {Q : VK} {a b i : Nat} {n m : Str} {ws : List V}
theorem fld1 (hi : i < 35) (hf : fnm i = [n]) (T : Pk K mg C) (g : gv σ a = some (.ref b)) (h0 : Same H0 H) (hX : ExI H0 b (C i) (fnm i) ws) (hl : ws.length = (fnm i).length) (q : ∀ p H', Same H0 H' → H' p = some (.lst ws) → Q (.ref p) H') : tLst (tCons (tXg K n (tVar a)) tNil) σ H Q := by
  obtain ⟨fs, hA, hh⟩ := hX
  rw [hf] at hl hh
  match ws, hl with
  | [v], _ => exact ⟨_, gv_eq g, b, C i, fs, v, rfl, hA.mono h0, T.ex i (by omega), T.fr i hi n (by rw [hf]; exact List.mem_cons_self), hh 0 n v rfl rfl, (by show 1 ≤ sizeLine; decide), fun p hp => q p _ (Same.tr h0 (Same.put hp)) upd_same⟩
theorem fld2 (hi : i < 35) (hf : fnm i = [n, m]) (T : Pk K mg C) (g : gv σ a = some (.ref b)) (h0 : Same H0 H) (hX : ExI H0 b (C i) (fnm i) ws) (hl : ws.length = (fnm i).length) (q : ∀ p H', Same H0 H' → H' p = some (.lst ws) → Q (.ref p) H') : tLst (tCons (tXg K n (tVar a)) (tCons (tXg K m (tVar a)) tNil)) σ H Q := by
  obtain ⟨fs, hA, hh⟩ := hX
  rw [hf] at hl hh
  match ws, hl with
  | [v, u], _ => exact ⟨_, gv_eq g, b, C i, fs, v, rfl, hA.mono h0, T.ex i (by omega), T.fr i hi n (by rw [hf]; exact List.mem_cons_self), hh 0 n v rfl rfl, _, gv_eq g, b, C i, fs, u, rfl, hA.mono h0, T.ex i (by omega), T.fr i hi m (by rw [hf]; exact List.mem_cons_of_mem _ List.mem_cons_self), hh 1 m u rfl rfl, (by show 2 ≤ sizeLine; decide), fun p hp => q p _ (Same.tr h0 (Same.put hp)) upd_same⟩
end
abbrev sFields : Stmt := top 48
section
variable {P : Program} {w : World} {K : PySem.W.Frag} {mg : Str → Option Value} {base : Heap} {f : Addr} {fd : FuncData} {C : Nat → Addr}
theorem scFields : FnScope ["_law_e"] ["_law_e"] (defScope sFields) := ⟨rfl, rfl, rfl, by decide +kernel, rfl, by decide +kernel, by decide +kernel⟩
theorem ok_fields (F : Fun K "_law_fields" "_law_fields" sFields f fd) (Z : Z1 mg) (T : Pk K mg C) : FnG P w K mg base CX0 1 f fd ["_law_e"] (spFields C) := by
  refine FunG.ok F scFields (fun vs H Q E h => ?_) (fun cdv B out s H vs Q E hr hG h => ?_)
  · obtain ⟨b, i, ws, rfl, _⟩ := h
    rfl
  · obtain ⟨b, i, ws, rfl, hi, hX, hl, q⟩ := h
    obtain ⟨fs, hA, _⟩ := hX
    have hX : ExI H b (C i) (fnm i) ws := ⟨fs, hA, by assumption⟩
    refine ⟨_, (pss_cons (ps_if (pt_val (isTup T [0, 1, 2, 4, 5] (by decide) (by decide) (pv 0) (clc T 0 (by decide) rfl (by rfl) (by decide) (clc T 1 (by decide) rfl (by rfl) (by decide) (clc T 2 (by decide) rfl (by rfl) (by decide) (clc T 4 (by decide) rfl (by rfl) (by decide) (clc T 5 (by decide) rfl (by rfl) (by decide) clc0))))) (by rfl) Z.isi)) (pss_one (ps_ret (pe_lst (pa_cons (pe_xg (pv 0)) pa_nil)))) pss_nil)
      (pss_cons (ps_if (pt_val (isTup T [6, 10, 11, 12, 13] (by decide) (by decide) (pv 0) (clc T 6 (by decide) rfl (by rfl) (by decide) (clc T 10 (by decide) rfl (by rfl) (by decide) (clc T 11 (by decide) rfl (by rfl) (by decide) (clc T 12 (by decide) rfl (by rfl) (by decide) (clc T 13 (by decide) rfl (by rfl) (by decide) clc0))))) (by rfl) Z.isi)) (pss_one (ps_ret (pe_lst (pa_cons (pe_xg (pv 0)) pa_nil)))) pss_nil)
      (pss_cons (ps_if (pt_val (isTup T [14, 18, 19, 20, 21] (by decide) (by decide) (pv 0) (clc T 14 (by decide) rfl (by rfl) (by decide) (clc T 18 (by decide) rfl (by rfl) (by decide) (clc T 19 (by decide) rfl (by rfl) (by decide) (clc T 20 (by decide) rfl (by rfl) (by decide) (clc T 21 (by decide) rfl (by rfl) (by decide) clc0))))) (by rfl) Z.isi)) (pss_one (ps_ret (pe_lst (pa_cons (pe_xg (pv 0)) pa_nil)))) pss_nil)
      (pss_cons (ps_if (pt_val (isTup T [3, 8, 9, 22, 23] (by decide) (by decide) (pv 0) (clc T 3 (by decide) rfl (by rfl) (by decide) (clc T 8 (by decide) rfl (by rfl) (by decide) (clc T 9 (by decide) rfl (by rfl) (by decide) (clc T 22 (by decide) rfl (by rfl) (by decide) (clc T 23 (by decide) rfl (by rfl) (by decide) clc0))))) (by rfl) Z.isi)) (pss_one (ps_ret (pe_lst (pa_cons (pe_xg (pv 0)) pa_nil)))) pss_nil)
      (pss_cons (ps_if (pt_val (isTup T [25, 31] (by decide) (by decide) (pv 0) (clc T 25 (by decide) rfl (by rfl) (by decide) (clc T 31 (by decide) rfl (by rfl) (by decide) clc0)) (by rfl) Z.isi)) (pss_one (ps_ret (pe_lst (pa_cons (pe_xg (pv 0)) pa_nil)))) pss_nil)
      (pss_cons (ps_if (pt_val (is1 T 7 (by decide) rfl (pv 0) (by rfl) (by rfl) Z.isi (by decide))) (pss_one (ps_ret (pe_lst (pa_cons (pe_xg (pv 0)) pa_nil)))) pss_nil)
      (pss_cons (ps_if (pt_val (is1 T 15 (by decide) rfl (pv 0) (by rfl) (by rfl) Z.isi (by decide))) (pss_one (ps_ret (pe_lst (pa_cons (pe_xg (pv 0)) pa_nil)))) pss_nil)
      (pss_cons (ps_if (pt_val (isTup T [16, 27, 29] (by decide) (by decide) (pv 0) (clc T 16 (by decide) rfl (by rfl) (by decide) (clc T 27 (by decide) rfl (by rfl) (by decide) (clc T 29 (by decide) rfl (by rfl) (by decide) clc0))) (by rfl) Z.isi)) (pss_one (ps_ret (pe_lst (pa_cons (pe_xg (pv 0)) pa_nil)))) pss_nil)
      (pss_cons (ps_if (pt_val (is1 T 17 (by decide) rfl (pv 0) (by rfl) (by rfl) Z.isi (by decide))) (pss_one (ps_ret (pe_lst (pa_cons (pe_xg (pv 0)) pa_nil)))) pss_nil)
      (pss_cons (ps_if (pt_val (isTup T [24, 30] (by decide) (by decide) (pv 0) (clc T 24 (by decide) rfl (by rfl) (by decide) (clc T 30 (by decide) rfl (by rfl) (by decide) clc0)) (by rfl) Z.isi)) (pss_one (ps_ret (pe_lst (pa_cons (pe_xg (pv 0)) (pa_cons (pe_xg (pv 0)) pa_nil))))) pss_nil)
      (pss_cons (ps_if (pt_val (is1 T 26 (by decide) rfl (pv 0) (by rfl) (by rfl) Z.isi (by decide))) (pss_one (ps_ret (pe_lst (pa_cons (pe_xg (pv 0)) (pa_cons (pe_xg (pv 0)) pa_nil))))) pss_nil)
      (pss_cons (ps_if (pt_val (is1 T 32 (by decide) rfl (pv 0) (by rfl) (by rfl) Z.isi (by decide))) (pss_one (ps_ret (pe_lst (pa_cons (pe_xg (pv 0)) pa_nil)))) pss_nil)
      (pss_cons (ps_if (pt_val (is1 T 33 (by decide) rfl (pv 0) (by rfl) (by rfl) Z.isi (by decide))) (pss_one (ps_ret (pe_lst (pa_cons (pe_xg (pv 0)) pa_nil)))) pss_nil)
      (pss_one (ps_ret (pe_lst pa_nil)))))))))))))))), ?_⟩
    have z0 : ∀ i : Nat, i < 35 → [0, 1, 2, 4, 5].any (sub i) = true → fnm i = [("value" : Str)] := by decide +kernel
    refine ⟨b, i, fs, rfl, by omega, hA.mono (fun _ _ e => e), fun G0 s0 => ⟨_, rfl, ite2 (fun h0 => ?_) (fun h0 => ?_)⟩⟩
    · exact fld1 hi (z0 i hi h0) T rfl (Same.tr (fun _ _ e => e) s0) hX hl q
    have z1 : ∀ i : Nat, i < 35 → [6, 10, 11, 12, 13].any (sub i) = true → fnm i = [("value" : Str)] := by decide +kernel
    refine ⟨b, i, fs, rfl, by omega, hA.mono (Same.tr (fun _ _ e => e) s0), fun G1 s1 => ⟨_, rfl, ite2 (fun h1 => ?_) (fun h1 => ?_)⟩⟩
    · exact fld1 hi (z1 i hi h1) T rfl (Same.tr (Same.tr (fun _ _ e => e) s0) s1) hX hl q
    have z2 : ∀ i : Nat, i < 35 → [14, 18, 19, 20, 21].any (sub i) = true → fnm i = [("value" : Str)] := by decide +kernel
    refine ⟨b, i, fs, rfl, by omega, hA.mono (Same.tr (Same.tr (fun _ _ e => e) s0) s1), fun G2 s2 => ⟨_, rfl, ite2 (fun h2 => ?_) (fun h2 => ?_)⟩⟩
    · exact fld1 hi (z2 i hi h2) T rfl (Same.tr (Same.tr (Same.tr (fun _ _ e => e) s0) s1) s2) hX hl q
    have z3 : ∀ i : Nat, i < 35 → [3, 8, 9, 22, 23].any (sub i) = true → fnm i = [("name" : Str)] := by decide +kernel
    refine ⟨b, i, fs, rfl, by omega, hA.mono (Same.tr (Same.tr (Same.tr (fun _ _ e => e) s0) s1) s2), fun G3 s3 => ⟨_, rfl, ite2 (fun h3 => ?_) (fun h3 => ?_)⟩⟩
    · exact fld1 hi (z3 i hi h3) T rfl (Same.tr (Same.tr (Same.tr (Same.tr (fun _ _ e => e) s0) s1) s2) s3) hX hl q
    have z4 : ∀ i : Nat, i < 35 → [25, 31].any (sub i) = true → fnm i = [("name" : Str)] := by decide +kernel
    refine ⟨b, i, fs, rfl, by omega, hA.mono (Same.tr (Same.tr (Same.tr (Same.tr (fun _ _ e => e) s0) s1) s2) s3), fun G4 s4 => ⟨_, rfl, ite2 (fun h4 => ?_) (fun h4 => ?_)⟩⟩
    · exact fld1 hi (z4 i hi h4) T rfl (Same.tr (Same.tr (Same.tr (Same.tr (Same.tr (fun _ _ e => e) s0) s1) s2) s3) s4) hX hl q
    have z5 : ∀ i : Nat, i < 35 → sub i 7 = true → fnm i = [("gates" : Str)] := by decide +kernel
    refine ⟨b, i, fs, rfl, by omega, hA.mono (Same.tr (Same.tr (Same.tr (Same.tr (Same.tr (fun _ _ e => e) s0) s1) s2) s3) s4), _, rfl, ite2 (fun h5 => ?_) (fun h5 => ?_)⟩
    · exact fld1 hi (z5 i hi h5) T rfl (Same.tr (Same.tr (Same.tr (Same.tr (Same.tr (fun _ _ e => e) s0) s1) s2) s3) s4) hX hl q
    have z6 : ∀ i : Nat, i < 35 → sub i 15 = true → fnm i = [("index" : Str)] := by decide +kernel
    refine ⟨b, i, fs, rfl, by omega, hA.mono (Same.tr (Same.tr (Same.tr (Same.tr (Same.tr (fun _ _ e => e) s0) s1) s2) s3) s4), _, rfl, ite2 (fun h6 => ?_) (fun h6 => ?_)⟩
    · exact fld1 hi (z6 i hi h6) T rfl (Same.tr (Same.tr (Same.tr (Same.tr (Same.tr (fun _ _ e => e) s0) s1) s2) s3) s4) hX hl q
    have z7 : ∀ i : Nat, i < 35 → [16, 27, 29].any (sub i) = true → fnm i = [("number" : Str)] := by decide +kernel
    refine ⟨b, i, fs, rfl, by omega, hA.mono (Same.tr (Same.tr (Same.tr (Same.tr (Same.tr (fun _ _ e => e) s0) s1) s2) s3) s4), fun G7 s7 => ⟨_, rfl, ite2 (fun h7 => ?_) (fun h7 => ?_)⟩⟩
    · exact fld1 hi (z7 i hi h7) T rfl (Same.tr (Same.tr (Same.tr (Same.tr (Same.tr (Same.tr (fun _ _ e => e) s0) s1) s2) s3) s4) s7) hX hl q
    have z8 : ∀ i : Nat, i < 35 → sub i 17 = true → fnm i = [("other" : Str)] := by decide +kernel
    refine ⟨b, i, fs, rfl, by omega, hA.mono (Same.tr (Same.tr (Same.tr (Same.tr (Same.tr (Same.tr (fun _ _ e => e) s0) s1) s2) s3) s4) s7), _, rfl, ite2 (fun h8 => ?_) (fun h8 => ?_)⟩
    · exact fld1 hi (z8 i hi h8) T rfl (Same.tr (Same.tr (Same.tr (Same.tr (Same.tr (Same.tr (fun _ _ e => e) s0) s1) s2) s3) s4) s7) hX hl q
    have z9 : ∀ i : Nat, i < 35 → [24, 30].any (sub i) = true → fnm i = [("reader" : Str), ("slot" : Str)] := by decide +kernel
    refine ⟨b, i, fs, rfl, by omega, hA.mono (Same.tr (Same.tr (Same.tr (Same.tr (Same.tr (Same.tr (fun _ _ e => e) s0) s1) s2) s3) s4) s7), fun G9 s9 => ⟨_, rfl, ite2 (fun h9 => ?_) (fun h9 => ?_)⟩⟩
    · exact fld2 hi (z9 i hi h9) T rfl (Same.tr (Same.tr (Same.tr (Same.tr (Same.tr (Same.tr (Same.tr (fun _ _ e => e) s0) s1) s2) s3) s4) s7) s9) hX hl q
    have z10 : ∀ i : Nat, i < 35 → sub i 26 = true → fnm i = [("name" : Str), ("index" : Str)] := by decide +kernel
    refine ⟨b, i, fs, rfl, by omega, hA.mono (Same.tr (Same.tr (Same.tr (Same.tr (Same.tr (Same.tr (Same.tr (fun _ _ e => e) s0) s1) s2) s3) s4) s7) s9), _, rfl, ite2 (fun h10 => ?_) (fun h10 => ?_)⟩
    · exact fld2 hi (z10 i hi h10) T rfl (Same.tr (Same.tr (Same.tr (Same.tr (Same.tr (Same.tr (Same.tr (fun _ _ e => e) s0) s1) s2) s3) s4) s7) s9) hX hl q
    have z11 : ∀ i : Nat, i < 35 → sub i 32 = true → fnm i = [("most" : Str)] := by decide +kernel
    refine ⟨b, i, fs, rfl, by omega, hA.mono (Same.tr (Same.tr (Same.tr (Same.tr (Same.tr (Same.tr (Same.tr (fun _ _ e => e) s0) s1) s2) s3) s4) s7) s9), _, rfl, ite2 (fun h11 => ?_) (fun h11 => ?_)⟩
    · exact fld1 hi (z11 i hi h11) T rfl (Same.tr (Same.tr (Same.tr (Same.tr (Same.tr (Same.tr (Same.tr (fun _ _ e => e) s0) s1) s2) s3) s4) s7) s9) hX hl q
    have z12 : ∀ i : Nat, i < 35 → sub i 33 = true → fnm i = [("out" : Str)] := by decide +kernel
    refine ⟨b, i, fs, rfl, by omega, hA.mono (Same.tr (Same.tr (Same.tr (Same.tr (Same.tr (Same.tr (Same.tr (fun _ _ e => e) s0) s1) s2) s3) s4) s7) s9), _, rfl, ite2 (fun h12 => ?_) (fun h12 => ?_)⟩
    · exact fld1 hi (z12 i hi h12) T rfl (Same.tr (Same.tr (Same.tr (Same.tr (Same.tr (Same.tr (Same.tr (fun _ _ e => e) s0) s1) s2) s3) s4) s7) s9) hX hl q
    have zz : ∀ i : Nat, i < 35 → ([0, 1, 2, 4, 5].any (sub i) || [6, 10, 11, 12, 13].any (sub i) || [14, 18, 19, 20, 21].any (sub i) || [3, 8, 9, 22, 23].any (sub i) || [25, 31].any (sub i) || sub i 7 || sub i 15 || [16, 27, 29].any (sub i) || sub i 17 || [24, 30].any (sub i) || sub i 26 || sub i 32 || sub i 33) = false → fnm i = [] := by decide +kernel
    have z0 := zz i hi (by rw [(show ([0, 1, 2, 4, 5].any (sub i)) = false from Bool.eq_false_iff.mpr h0), (show ([6, 10, 11, 12, 13].any (sub i)) = false from Bool.eq_false_iff.mpr h1), (show ([14, 18, 19, 20, 21].any (sub i)) = false from Bool.eq_false_iff.mpr h2), (show ([3, 8, 9, 22, 23].any (sub i)) = false from Bool.eq_false_iff.mpr h3), (show ([25, 31].any (sub i)) = false from Bool.eq_false_iff.mpr h4), (show (sub i 7) = false from Bool.eq_false_iff.mpr h5), (show (sub i 15) = false from Bool.eq_false_iff.mpr h6), (show ([16, 27, 29].any (sub i)) = false from Bool.eq_false_iff.mpr h7), (show (sub i 17) = false from Bool.eq_false_iff.mpr h8), (show ([24, 30].any (sub i)) = false from Bool.eq_false_iff.mpr h9), (show (sub i 26) = false from Bool.eq_false_iff.mpr h10), (show (sub i 32) = false from Bool.eq_false_iff.mpr h11), (show (sub i 33) = false from Bool.eq_false_iff.mpr h12)]; rfl)
    rw [z0] at hl
    rw [List.length_eq_zero_iff.mp hl] at q
    exact ⟨(by show 0 ≤ sizeLine; decide), fun p hp => q p _ (Same.tr (Same.tr (Same.tr (Same.tr (Same.tr (Same.tr (Same.tr (Same.tr (fun _ _ e => e) s0) s1) s2) s3) s4) s7) s9) (Same.put hp)) upd_same⟩
end
end T01
set_option Elab.async false
set_option linter.all false
set_option maxRecDepth 100000
set_option maxHeartbeats 4000000
namespace T01
open PySem PySem.Spec PyProof.Rows L2 Tp
/-! ### repr of a drawn thing -/
inductive Rp (K : PySem.W.Frag) (H : Hp) : V → Str → Prop
  | int (i : Int) : i.natAbs.log2 < 1920 → Rp K H (.int i) (toString i)
  | str (x : Str) : (reprText x).length ≤ sizeLine → Rp K H (.str x) (reprText x)
  | bl (b : Bool) : Rp K H (.bl b) (if b then "True" else "False")
  | non : Rp K H .non "None"
  | seq {a : Addr} {d : PyData} : Dp K H (.ref a) d → d.showable = true → d.depth ≤ 60 → d.shown.length ≤ sizeLine → Rp K H (.ref a) d.shown
  | dct {a b : Addr} {k : Str} {xs : List V} : H a = some (.dK [(.inr k, .ref b)]) → H b = some (.lst xs) → xs.all isFlat = true → b ≠ sysModules → (PyData.dict [(.str k, .list (xs.map dV))]).showable = true → (PyData.dict [(.str k, .list (xs.map dV))]).depth ≤ 50 →
      (PyData.dict [(.str k, .list (xs.map dV))]).shown.length ≤ sizeLine → Rp K H (.ref a) (PyData.dict [(.str k, .list (xs.map dV))]).shown
def rRep (K : PySem.W.Frag) : List V → Hp → VK → Prop := fun xs H Q => ∃ v z, xs = [v] ∧ Rp K H v z ∧ Q (.str z) H
theorem flat_reads {h : Heap} : ∀ {xs : List V} {us : List Value} {ds : List PyData} {K : PySem.W.Frag} {H : Hp}, (∀ v ∈ xs, isFlat v = true) → DpAll K H xs ds → Vals xs us → ReadsAll h us ds []
  | _, _, _, _, _, _, .nil, .nil => .nil
  | v :: xs, u :: us, _, K, H, hf, .cons hd ht, .cons r rs => by
    have ih := flat_reads (h := h) (fun x hx => hf x (List.mem_cons_of_mem _ hx)) ht rs
    have hv := hf v List.mem_cons_self
    cases hd with
    | non =>
      cases (show u = Value.none from r)
      exact ReadsAll.cons .none ih
    | bl b =>
      cases (show u = Value.bool b from r)
      exact ReadsAll.cons (.bool b) ih
    | int i =>
      obtain ⟨t, rfl⟩ := (show ∃ t, u = Value.int i t from r)
      exact ReadsAll.cons (.int i t) ih
    | str x =>
      obtain ⟨t, rfl⟩ := (show ∃ t, u = Value.str x t from r)
      exact ReadsAll.cons (.str x t) ih
    | lst _ _ => cases hv
    | tup _ _ => cases hv
theorem call_rep {X : Cx} {k : Nat} (hr : Room k X.A) (hG : X.A.guards = some []) : CallR X (.builtin "repr") (rRep X.K) := by
  intro pins s σ H xs us Q I r h
  obtain ⟨v, z, rfl, hp, q⟩ := h
  obtain ⟨u, rfl, r1⟩ := vals1 r
  cases hp with
  | int i hi =>
    obtain ⟨t, rfl⟩ := (show ∃ t, u = Value.int i t from r1)
    exact PySem.P.repr_of_int hi ⟨.str _, H, I.tok _, ⟨_, rfl⟩, q⟩
  | str x hx =>
    obtain ⟨t, rfl⟩ := (show ∃ t, u = Value.str x t from r1)
    exact PySem.P.repr_of_str ⟨.str _, H, I.tok _, ⟨_, rfl⟩, q⟩ hx
  | bl b =>
    cases (show u = Value.bool b from r1)
    exact PySem.P.repr_of_bool ⟨.str _, H, I.tok _, ⟨_, rfl⟩, q⟩
  | non =>
    cases (show u = Value.none from r1)
    exact PySem.P.repr_of_none ⟨.str _, H, I.tok _, ⟨_, rfl⟩, q⟩
  | @seq a d hd hs hdep hz => exact call_repr hr hG pins s σ H [.ref a] [u] Q I (.cons r1 .nil) ⟨a, d, rfl, hd, hs, hdep, hz, q⟩
  | @dct a b k xs ha eb hfl hb hs hdep hz =>
    cases (show u = Value.ref a from r1)
    have hflat := List.all_eq_true.mp hfl
    obtain ⟨_, hsm, vs, rel, o, es, ep, ho, hx, hdat, _, hpr, _⟩ := dk_of I.hok ha
    have hn : vs = [(Sum.inr k, Value.ref b)] := by
      cases rel with
      | cons h1 h2 =>
        cases h2
        obtain ⟨e1, e2⟩ := h1
        rename_i y _
        obtain ⟨y1, y2⟩ := y
        simp only at e1 e2
        cases e1
        cases (show y2 = Value.ref b from e2)
        rfl
    subst hn
    have hes : ∃ e : DictEntry, es.toList = [e] ∧ (∃ t, e.key = .str k t) ∧ e.val = .ref b := by
      cases hp' : es.toList with
      | nil =>
        rw [hp'] at hpr
        cases hpr
      | cons e rest =>
        rw [hp'] at hpr
        cases hpr with
        | cons h1 h2 h3 =>
          cases h3
          obtain ⟨i, t, e1, e2⟩ | ⟨x, t, e1, e2⟩ := keyIs_shape (show keyIs (Sum.inr k) e.key = true from h1)
          · cases e1
          · cases e1
            exact ⟨e, rfl, ⟨t, e2⟩, h2⟩
    obtain ⟨e, he, ⟨t, ek⟩, ev⟩ := hes
    obtain ⟨_, its, n, rv, hl⟩ := (show ObjOk X.prog X.w H s.heap b (.lst xs) from I.hok b _ eb)
    have hrb : Reads s.heap (.ref b) (.list (xs.map dV)) [b] := .list hl rfl rfl (flat_reads hflat (dpAll_flat (K := X.K) (H := H) hfl) rv)
    have hrd : Reads s.heap (.ref a) (.dict [(.str k, .list (xs.map dV))]) ([a] ++ [] ++ [b]) := by
      refine .dict (as := []) (bs := [b]) ho hx.1 hdat ?_ ?_
      · rw [he]
        show ReadsAll s.heap [e.key] [PyData.str k] []
        rw [ek]
        exact ReadsAll.cons (as := []) (bs := []) (.str k t) .nil
      · rw [he]
        show ReadsAll s.heap [e.val] [PyData.list (xs.map dV)] [b]
        rw [ev]
        exact ReadsAll.cons (as := [b]) (bs := []) hrb .nil
    have hu := hr.units
    refine repr_of_reads' hrd hs (fun _ hm => ?_) hG (by omega) (fun _ _ e => e) (fun h' u tk hk => ⟨.str _, H, I.kept hk, ⟨u, rfl⟩, q⟩) hz
    rcases List.mem_cons.mp hm with e | e
    · rw [← e] at hsm
      cases hsm
    · exact hb (List.mem_singleton.mp e).symm
/-! ### isinstance of a drawn thing -/
def IsR (K : PySem.W.Frag) (H : Hp) (v : V) (cv : Value) (b : Bool) : Prop := (∃ t, TyX K H v t ∧ PySem.W.kitOne K t cv = some b) ∨ ∃ (a D : Addr) (fs : List (Str × V)), v = .ref a ∧ ExAt H a D fs ∧ ExK K D ∧ PySem.W.kitOne K (.ref D) cv = some b
def IsA (K : PySem.W.Frag) (H : Hp) (v : V) (cs : List Value) (b : Bool) : Prop := (∃ t, TyX K H v t ∧ PySem.W.kitAny K t cs = some b) ∨ ∃ (a D : Addr) (fs : List (Str × V)), v = .ref a ∧ ExAt H a D fs ∧ ExK K D ∧ PySem.W.kitAny K (.ref D) cs = some b
def rIsD (K : PySem.W.Frag) : List V → Hp → VK → Prop := fun xs H Q => ∃ (v c : V) (cv : Value) (b : Bool), xs = [v, c] ∧ ClsV c cv ∧ IsR K H v cv b ∧ Q (.bl b) H
def rIsDT (K : PySem.W.Frag) : List V → Hp → VK → Prop := fun xs H Q => ∃ (v : V) (tp : Addr) (cs : List V) (us : List Value) (b : Bool), xs = [v, .ref tp] ∧ H tp = some (.tup cs) ∧ Paired ClsV cs us ∧ IsA K H v us b ∧ Q (.bl b) H
theorem call_isd {X : Cx} : CallR X (.builtin "isinstance") (rIsD X.K) := by
  intro pins s σ H xs us Q I r h
  obtain ⟨v, c, cv, b, e, k, hr, q⟩ := h
  rcases hr with ⟨t, ty, e1⟩ | ⟨a, D, fs, rfl, hA, T, e1⟩
  · exact call_isi pins s σ H xs us Q I r ⟨v, c, t, cv, b, e, k, ty, e1, q⟩
  · exact call_isx pins s σ H xs us Q I r ⟨a, D, fs, c, cv, b, e, hA, T, k, e1, q⟩
theorem call_isdT {X : Cx} : CallR X (.builtin "isinstance") (rIsDT X.K) := by
  intro pins s σ H xs us Q I r h
  obtain ⟨v, tp, cs, ws, b, e, hT, k, hr, q⟩ := h
  rcases hr with ⟨t, ty, e1⟩ | ⟨a, D, fs, rfl, hA, T, e1⟩
  · exact call_isiT pins s σ H xs us Q I r ⟨v, tp, cs, t, ws, b, e, hT, k, ty, e1, q⟩
  · exact call_isxT pins s σ H xs us Q I r ⟨a, D, fs, tp, cs, ws, b, e, hA, T, hT, k, e1, q⟩
/-- a list, the address of which is no table of modules -/
def tLstS (t : TA) : TE := fun σ H Q => t σ H fun xs H1 => xs.length ≤ sizeLine ∧ ∀ p, H1 p = none → p ≠ sysModules → Q (.ref p) (upd H1 p (.lst xs))
theorem pe_lstS {X : Cx} {es : List Expr} {t : TA} {pos : Pos} (h : PA X es t) : PE X (.List es pos) (tLstS t) := by
  refine ⟨fun pins s σ H Q I hq => ?_⟩
  refine wpAny_List_spliced (thn (h.run pos pins s σ H _ I hq) fun us s1 ⟨xs, H1, I1, r, z, q⟩ => ⟨by rw [← r.length]; exact z, ?_⟩)
  have hf : H1 s1.heap.objs.size = none := I1.hok.fresh (Nat.le_refl _)
  exact ⟨.ref s1.heap.objs.size, upd H1 s1.heap.objs.size (.lst xs), I1.laid (t' := s1.toks) (fun b u e => Heap.get?_push_of_some _ e) (Nat.le_refl _) (show ObjOk X.prog X.w _ _ _ (.lst xs) from ⟨z, us, 0, r, Heap.get?_push_size _ rfl⟩), rfl, q _ hf (Nat.ne_of_gt I1.big)⟩
/-! ### what is drawn -/
/-- a thing; the list within it -/
inductive Th (C : Nat → Addr) (H : Hp) : V → Option Addr → Prop
  | int (i : Int) : 0 ≤ i → i < 10 ^ 30 → Th C H (.int i) none
  | str (x : Str) : (reprText x).length ≤ sizeLine → Th C H (.str x) none
  | non : Th C H .non none
  | bl (b : Bool) : Th C H (.bl b) none
  | lst (a b : Addr) (i : Int) : 0 ≤ i → i < 10 ^ 30 → H a = some (.lst [.int i, .ref b]) → Th C H (.ref a) (some b)
  | tup (a b : Addr) (i : Int) : 0 ≤ i → i < 10 ^ 30 → H a = some (.tup [.int i, .ref b]) → Th C H (.ref a) (some b)
  | dct (a b : Addr) : H a = some (.dK [(.inr "a", .ref b)]) → b ≠ sysModules → Th C H (.ref a) (some b)
  | exc (a b : Addr) : ExI H a (C 2) (fnm 2) [.ref b] → Th C H (.ref a) (some b)
theorem Th.mono {C : Nat → Addr} {H H' : Hp} {v : V} {o : Option Addr} (k : Same H H') (h : Th C H v o) : Th C H' v o := by
  cases h with
  | int i h1 h2 => exact .int i h1 h2
  | str x h1 => exact .str x h1
  | non => exact .non
  | bl b => exact .bl b
  | lst a b i h1 h2 h3 => exact .lst a b i h1 h2 (k _ _ h3)
  | tup a b i h1 h2 h3 => exact .tup a b i h1 h2 (k _ _ h3)
  | dct a b h1 h2 => exact .dct a b (k _ _ h1) h2
  | exc a b h1 => exact .exc a b (h1.mono k)
def In3 (H : Hp) (o : Option Addr) (xs : List V) : Prop := ∀ b, o = some b → H b = some (.lst xs)
theorem In3.mono {H H' : Hp} {o : Option Addr} {xs : List V} (k : Same H H') (h : In3 H o xs) : In3 H' o xs := fun b e => k _ _ (h b e)
theorem small_int {i : Int} (h1 : 0 ≤ i) (h2 : i < 10 ^ 30) : i.natAbs.log2 < 1000 := by
  have e : i.natAbs < 2 ^ 100 := by omega
  by_cases z : i.natAbs = 0
  · rw [z]
    decide
  · exact Nat.lt_of_lt_of_le ((Nat.log2_lt z).mpr e) (by decide)
theorem rp_lst {K : PySem.W.Frag} {H : Hp} {a b : Addr} {i : Int} (h1 : 0 ≤ i) (h2 : i < 10 ^ 30) (e : H a = some (.lst [.int i, .ref b])) (hb : In3 H (some b) [.int 3]) : ∃ z, Rp K H (.ref a) z := by
  have hi := hb b rfl
  have nn := (NiceAll.cons (nice_int (small_int h1 h2)) (NiceAll.cons (NiceAll.cons (nice_int (i := 3) (by decide +kernel)) niceAll_nil).list niceAll_nil)).list
  exact ⟨_, .seq (d := .list [.int i, .list [.int 3]]) (.lst (SqL.of e) (.cons (.int i) (.cons (.lst (SqL.of hi) (.cons (.int 3) .nil)) .nil))) nn.sh (Nat.le_trans nn.dp (by decide)) (nn.fits (by decide))⟩
theorem rp_tup {K : PySem.W.Frag} {H : Hp} {a b : Addr} {i : Int} (h1 : 0 ≤ i) (h2 : i < 10 ^ 30) (e : H a = some (.tup [.int i, .ref b])) (hb : In3 H (some b) [.int 3]) : ∃ z, Rp K H (.ref a) z := by
  have hi := hb b rfl
  have nn := (NiceAll.cons (nice_int (small_int h1 h2)) (NiceAll.cons (NiceAll.cons (nice_int (i := 3) (by decide +kernel)) niceAll_nil).list niceAll_nil)).tuple
  exact ⟨_, .seq (d := .tuple [.int i, .list [.int 3]]) (.tup (SqT.of e) (.cons (.int i) (.cons (.lst (SqL.of hi) (.cons (.int 3) .nil)) .nil))) nn.sh (Nat.le_trans nn.dp (by decide)) (nn.fits (by decide))⟩
theorem rp_dct {K : PySem.W.Frag} {H : Hp} {a b : Addr} (e : H a = some (.dK [(.inr "a", .ref b)])) (hs : b ≠ sysModules) (hb : In3 H (some b) [.int 3]) : ∃ z, Rp K H (.ref a) z :=
  ⟨_, .dct e (hb b rfl) rfl hs (by decide +kernel) (by decide +kernel) (by decide +kernel)⟩
/-- what the written part says of built-in types against InvalidName -/
structure Pn (K : PySem.W.Frag) (C : Nat → Addr) : Prop where
  n : ∀ t ∈ ["int", "str", "NoneType", "bool", "list", "tuple", "dict"], PySem.W.kitOne K (.type t) (.ref (C 2)) = some false
theorem TyX.up {K : PySem.W.Frag} {H H' : Hp} (k : Same H H') {v : V} {t : Value} (h : TyX K H v t) : TyX K H' v t := by
  cases h with
  | base b =>
    cases b with
    | non => exact .base .non
    | bl x => exact .base (.bl x)
    | int i => exact .base (.int i)
    | str x => exact .base (.str x)
    | flt x => exact .base (.flt x)
    | lst e => exact .base (.lst (k _ _ e))
    | frz e => exact .base (.frz (k _ _ e))
    | tup e => exact .base (.tup (k _ _ e))
    | dK e => exact .base (.dK (k _ _ e))
    | dT e => exact .base (.dT (k _ _ e))
    | ins e cl ha hn htk hm => exact .base (.ins (k _ _ e) cl ha hn htk hm)
  | byt b => exact .byt b
  | set e => exact .set (k _ _ e)
  | kList e c => exact .kList e c
  | kTuple e c => exact .kTuple e c
  | kDict e c => exact .kDict e c
  | fTuple e => exact .fTuple (k _ _ e)
  | fDict e => exact .fDict (k _ _ e)
theorem IsA.mono {K : PySem.W.Frag} {H H' : Hp} {v : V} {cs : List Value} {b : Bool} (k : Same H H') (h : IsA K H v cs b) : IsA K H' v cs b := by
  rcases h with ⟨t, ty, e⟩ | ⟨a, D, fs, e1, hA, T, e⟩
  · exact .inl ⟨t, TyX.up k ty, e⟩
  · exact .inr ⟨a, D, fs, e1, hA.mono k, T, e⟩
theorem IsR.mono {K : PySem.W.Frag} {H H' : Hp} {v : V} {c : Value} {b : Bool} (k : Same H H') (h : IsR K H v c b) : IsR K H' v c b := by
  rcases h with ⟨t, ty, e⟩ | ⟨a, D, fs, e1, hA, T, e⟩
  · exact .inl ⟨t, TyX.up k ty, e⟩
  · exact .inr ⟨a, D, fs, e1, hA.mono k, T, e⟩
theorem none_put {H : Hp} {p q : Addr} {o : HO} (hq : H q = none) (hp : upd H q o p = none) : H p = none := by
  by_cases e : p = q
  · rw [e]
    exact hq
  · rwa [upd_ne e] at hp
/-- all that the law asks of its class -/
structure ThT (K : PySem.W.Frag) (C : Nat → Addr) (H : Hp) (v : V) (o : Option Addr) (k : Nat) : Prop where
  nm : IsR K H v (.ref (C 2)) (k == 4)
  dt : IsR K H v (.type "dict") (k == 3)
  ls : IsR K H v (.type "list") (k == 1)
  lt : IsA K H v [.type "list", .type "tuple"] (k == 1 || k == 2)
  al : IsA K H v [.type "list", .type "tuple", .type "dict", .ref (C 2)] (k != 0)
theorem ask_ty {K : PySem.W.Frag} {C : Nat → Addr} {H : Hp} {v : V} {o : Option Addr} (N : Pn K C) (t : String) (k : Nat) (ty : TyX K H v (.type t)) (ht : t ∈ ["int", "str", "NoneType", "bool", "list", "tuple", "dict"])
    (h1 : kitB t "dict" = some (k == 3)) (h2 : kitB t "list" = some (k == 1)) (h3 : kitB t "tuple" = some (k == 2)) (h4 : (k == 4) = false) (hk : (k != 0) = (k == 1 || (k == 2 || k == 3))) : ThT K C H v o k := by
  have n := N.n t ht
  refine ⟨.inl ⟨_, ty, by rw [h4]; exact n⟩, .inl ⟨_, ty, kit_ty h1⟩, .inl ⟨_, ty, kit_ty h2⟩, .inl ⟨_, ty, kitAny_cons (kit_ty h2) (fun z => ?_) fun z => ?_⟩, .inl ⟨_, ty, ?_⟩⟩
  · rw [z, Bool.false_or]
    exact kitAny_cons (kit_ty h3) (fun z => by rw [z]; rfl) fun z => z
  · rw [z, Bool.true_or]
  · rw [hk]
    refine kitAny_cons (kit_ty h2) (fun z => ?_) fun z => by rw [z, Bool.true_or]
    rw [z, Bool.false_or]
    refine kitAny_cons (kit_ty h3) (fun z => ?_) fun z => by rw [z, Bool.true_or]
    rw [z, Bool.false_or]
    refine kitAny_cons (kit_ty h1) (fun z => ?_) fun z => z
    rw [z]
    exact kitAny_cons n (fun _ => rfl) fun z => by cases z
theorem Th.ask {K : PySem.W.Frag} {mg : Str → Option Value} {C : Nat → Addr} {H : Hp} {v : V} {o : Option Addr} (T : Pk K mg C) (N : Pn K C) (h : Th C H v o) : ∃ k, ThT K C H v o k ∧
    ((k = 0 ∧ o = none ∧ ∃ z, Rp K H v z) ∨ (k = 1 ∧ ∃ a b i, v = .ref a ∧ o = some b ∧ 0 ≤ i ∧ i < 10 ^ 30 ∧ H a = some (.lst [.int i, .ref b])) ∨ (k = 2 ∧ ∃ a b i, v = .ref a ∧ o = some b ∧ 0 ≤ i ∧ i < 10 ^ 30 ∧ H a = some (.tup [.int i, .ref b])) ∨
      (k = 3 ∧ ∃ a b, v = .ref a ∧ o = some b ∧ H a = some (.dK [(.inr "a", .ref b)]) ∧ b ≠ sysModules) ∨ (k = 4 ∧ ∃ a b, v = .ref a ∧ o = some b ∧ ExI H a (C 2) (fnm 2) [.ref b])) ∧ (k = 4 ∨ (In3 H o [.int 3] → ∃ z, Rp K H v z)) := by
  cases h with
  | int i h1 h2 =>
    have r : ∃ z, Rp K H (.int i) z := ⟨_, .int i (Nat.lt_of_lt_of_le (small_int h1 h2) (by decide))⟩
    exact ⟨0, ask_ty N "int" 0 (.base (.int i)) (by decide) (by decide +kernel) (by decide +kernel) (by decide +kernel) rfl rfl, .inl ⟨rfl, rfl, r⟩, .inr fun _ => r⟩
  | str x hx => exact ⟨0, ask_ty N "str" 0 (.base (.str x)) (by decide) (by decide +kernel) (by decide +kernel) (by decide +kernel) rfl rfl, .inl ⟨rfl, rfl, _, .str x hx⟩, .inr fun _ => ⟨_, .str x hx⟩⟩
  | non => exact ⟨0, ask_ty N "NoneType" 0 (.base .non) (by decide) (by decide +kernel) (by decide +kernel) (by decide +kernel) rfl rfl, .inl ⟨rfl, rfl, _, .non⟩, .inr fun _ => ⟨_, .non⟩⟩
  | bl b => exact ⟨0, ask_ty N "bool" 0 (.base (.bl b)) (by decide) (by decide +kernel) (by decide +kernel) (by decide +kernel) rfl rfl, .inl ⟨rfl, rfl, _, .bl b⟩, .inr fun _ => ⟨_, .bl b⟩⟩
  | lst a b i h1 h2 e => exact ⟨1, ask_ty N "list" 1 (.base (.lst e)) (by decide) (by decide +kernel) (by decide +kernel) (by decide +kernel) rfl rfl, .inr (.inl ⟨rfl, a, b, i, rfl, rfl, h1, h2, e⟩), .inr fun hb => rp_lst h1 h2 e hb⟩
  | tup a b i h1 h2 e => exact ⟨2, ask_ty N "tuple" 2 (.base (.tup e)) (by decide) (by decide +kernel) (by decide +kernel) (by decide +kernel) rfl rfl, .inr (.inr (.inl ⟨rfl, a, b, i, rfl, rfl, h1, h2, e⟩)), .inr fun hb => rp_tup h1 h2 e hb⟩
  | dct a b e hb => exact ⟨3, ask_ty N "dict" 3 (.base (.dK e)) (by decide) (by decide +kernel) (by decide +kernel) (by decide +kernel) rfl rfl, .inr (.inr (.inr (.inl ⟨rfl, a, b, rfl, rfl, e, hb⟩))), .inr fun h3 => rp_dct e hb h3⟩
  | exc a b e =>
    obtain ⟨fs, hA, hh⟩ := e
    have k1 := T.kt 2 (by decide)
    have n1 : ∀ t ∈ ["dict", "list", "tuple"], PySem.W.kitOne K (.ref (C 2)) (.type t) = some false := fun t ht => by
      have e := k1 t (by
        rcases List.mem_cons.mp ht with e | ht
        · rw [e]; decide
        · rcases List.mem_cons.mp ht with e | ht
          · rw [e]; decide
          · rw [List.mem_singleton.mp ht]; decide)
      rw [e]
      rcases List.mem_cons.mp ht with e | ht
      · rw [e]; rfl
      · rcases List.mem_cons.mp ht with e | ht
        · rw [e]; rfl
        · rw [List.mem_singleton.mp ht]; rfl
    have dd := n1 "dict" (by decide)
    have dl := n1 "list" (by decide)
    have du := n1 "tuple" (by decide)
    have ds := T.kd 2 2 (by decide) (by decide)
    refine ⟨4, ⟨.inr ⟨a, C 2, fs, rfl, hA, T.ex 2 (by decide), ds⟩, .inr ⟨a, C 2, fs, rfl, hA, T.ex 2 (by decide), dd⟩, .inr ⟨a, C 2, fs, rfl, hA, T.ex 2 (by decide), dl⟩, .inr ⟨a, C 2, fs, rfl, hA, T.ex 2 (by decide), ?_⟩, .inr ⟨a, C 2, fs, rfl, hA, T.ex 2 (by decide), ?_⟩⟩,
      .inr (.inr (.inr (.inr ⟨rfl, a, b, rfl, rfl, fs, hA, hh⟩))), .inl rfl⟩
    · exact kitAny_cons dl (fun _ => kitAny_cons du (fun _ => rfl) fun z => by cases z) fun z => by cases z
    · exact kitAny_cons dl (fun _ => kitAny_cons du (fun _ => kitAny_cons dd (fun _ => kitAny_cons ds (fun z => by cases z) fun _ => rfl) fun z => by cases z) fun z => by cases z) fun z => by cases z
def spInner (C : Nat → Addr) : Sp := fun vs H Q _ => ∃ (v : V) (o : Option Addr), vs = [v] ∧ Th C H v o ∧ (∀ b H', o = some b → Same H H' → Q (.ref b) H') ∧ (o = none → ∀ p H', H p = none → Same H H' → H' p = some (.lst []) → Q (.ref p) H')
abbrev sInner : Stmt := top 52
section
variable {P : Program} {w : World} {K : PySem.W.Frag} {mg : Str → Option Value} {base : Heap} {f : Addr} {fd : FuncData} {C : Nat → Addr}
theorem scInner : FnScope ["_law_thing_here"] ["_law_thing_here"] (defScope sInner) := ⟨rfl, rfl, rfl, by decide +kernel, rfl, by decide +kernel, by decide +kernel⟩
theorem ok_inner (F : Fun K "_law_inner" "_law_inner" sInner f fd) (Z : Z1 mg) (T : Pk K mg C) (N : Pn K C) : FnG P w K mg base CX0 1 f fd ["_law_thing_here"] (spInner C) := by
  refine FunG.ok F scInner (fun vs H Q E h => ?_) (fun cdv B out s H vs Q E hr hG h => ?_)
  · obtain ⟨v, o, rfl, _⟩ := h
    rfl
  · obtain ⟨v, o, rfl, hT, q1, q0⟩ := h
    have hu := hr.units
    have hu1 : (B.deeper (envOfC "_law_inner" (defScope sInner) s.heap.objs.size f cdv)).units + 1 < cLine := by omega
    refine ⟨_, pss_cons (ps_if (pt_val (pe_callB call_isd (by rfl) Z.isi (by decide +kernel) (pa_cons (pv 0) (pa_cons (pe_glob (by rfl) (T.gl 2 (by decide)) (v := .ref (C 2)) rfl (by decide)) pa_nil)))) (pss_one (ps_ret (pe_xg (pv 0)))) pss_nil)
      (pss_cons (ps_if (pt_val (pe_callB call_isd (by rfl) Z.isi (by decide +kernel) (pa_cons (pv 0) (pa_cons (pe_bltn (by rfl) Z.dict (by decide +kernel) (show RelV (.ty "dict") _ from rfl)) pa_nil)))) (pss_one (ps_ret (pe_dget hu1 (pv 0) pe_str (fun _ _ => rfl)))) pss_nil)
        (pss_one (ps_ret (pe_ifExp (pt_val (pe_callB call_isdT (by rfl) Z.isi (by decide +kernel) (pa_cons (pv 0) (pa_cons (pe_tup (pa_cons (pe_bltn (by rfl) Z.list (by decide +kernel) (show RelV (.ty "list") _ from rfl)) (pa_cons (pe_bltn (by rfl) Z.tuple (by decide +kernel) (show RelV (.ty "tuple") _ from rfl)) pa_nil))) pa_nil))))
          (pe_ix (ix_list.or ix_tup) (pv 0) pe_int fun _ _ => rfl) (pe_lst pa_nil))))), ?_⟩
    obtain ⟨k, A, sh, _⟩ := hT.ask T N
    have sm : ∀ {p : Addr} {o : HO}, H p = none → Same H (upd H p o) := fun h => Same.put h
    have prs : Paired ClsV [V.ty "list", V.ty "tuple"] [.type "list", .type "tuple"] := .cons (.ty _) (.cons (.ty _) .nil)
    rcases sh with ⟨rfl, rfl, _⟩ | ⟨rfl, a, b, i, rfl, rfl, _, _, e⟩ | ⟨rfl, a, b, i, rfl, rfl, _, _, e⟩ | ⟨rfl, a, b, rfl, rfl, e, _⟩ | ⟨rfl, a, b, rfl, rfl, fs, hA, hh⟩
    · refine ⟨_, rfl, _, _, _, _, rfl, .own _, A.nm, _, rfl, iteF ?_⟩
      refine ⟨_, rfl, _, _, _, _, rfl, .ty _, A.dt, _, rfl, iteF ?_⟩
      refine ⟨_, rfl, (by show 2 ≤ sizeLine; decide), fun tp ht => ⟨_, tp, _, _, _, rfl, upd_same, prs, A.lt.mono (sm ht), _, rfl, iteF ?_⟩⟩
      exact ⟨(by show 0 ≤ sizeLine; decide), fun p hp => q0 rfl p _ (none_put ht hp) (Same.tr (sm ht) (Same.put hp)) upd_same⟩
    · refine ⟨_, rfl, _, _, _, _, rfl, .own _, A.nm, _, rfl, iteF ?_⟩
      refine ⟨_, rfl, _, _, _, _, rfl, .ty _, A.dt, _, rfl, iteF ?_⟩
      refine ⟨_, rfl, (by show 2 ≤ sizeLine; decide), fun tp ht => ⟨_, tp, _, _, _, rfl, upd_same, prs, A.lt.mono (sm ht), _, rfl, iteT ?_⟩⟩
      exact ⟨_, rfl, .inl ⟨a, _, _, _, rfl, rfl, SqL.of (sm ht _ _ e), rfl, q1 b _ rfl (sm ht)⟩⟩
    · refine ⟨_, rfl, _, _, _, _, rfl, .own _, A.nm, _, rfl, iteF ?_⟩
      refine ⟨_, rfl, _, _, _, _, rfl, .ty _, A.dt, _, rfl, iteF ?_⟩
      refine ⟨_, rfl, (by show 2 ≤ sizeLine; decide), fun tp ht => ⟨_, tp, _, _, _, rfl, upd_same, prs, A.lt.mono (sm ht), _, rfl, iteT ?_⟩⟩
      exact ⟨_, rfl, .inr ⟨a, _, _, _, rfl, rfl, SqT.of (sm ht _ _ e), rfl, q1 b _ rfl (sm ht)⟩⟩
    · refine ⟨_, rfl, _, _, _, _, rfl, .own _, A.nm, _, rfl, iteF ?_⟩
      refine ⟨_, rfl, _, _, _, _, rfl, .ty _, A.dt, _, rfl, iteT ?_⟩
      exact ⟨_, rfl, a, .ref b, rfl, .inl ⟨_, Sum.inr "a", .inl e, rfl, rfl⟩, q1 b _ rfl (fun _ _ e => e)⟩
    · refine ⟨_, rfl, _, _, _, _, rfl, .own _, A.nm, _, rfl, iteT ?_⟩
      exact ⟨_, rfl, a, C 2, fs, .ref b, rfl, hA, T.ex 2 (by decide), T.fr 2 (by decide) "value" (by decide +kernel), hh 0 "value" _ rfl rfl, q1 b _ rfl (fun _ _ e => e)⟩
end
end T01
set_option Elab.async false
set_option linter.all false
set_option maxRecDepth 100000
set_option maxHeartbeats 4000000
namespace T01
open PySem PySem.Spec PyProof.Rows L2 Tp
/-- a list of ours is written, all else stands -/
theorem Th.put {C : Nat → Addr} {H : Hp} {v : V} {o : Option Addr} {b : Addr} {xs ys : List V} (h : Th C H v o) (hb : H b = some (.lst xs)) (hv : v ≠ .ref b) : Th C (upd H b (.lst ys)) v o := by
  have ne : ∀ {a : Addr}, V.ref a ≠ .ref b → a ≠ b := fun h e => h (by rw [e])
  cases h with
  | int i h1 h2 => exact .int i h1 h2
  | str x h1 => exact .str x h1
  | non => exact .non
  | bl b => exact .bl b
  | lst a b' i h1 h2 h3 => exact .lst a b' i h1 h2 ((upd_ne (ne hv)).trans h3)
  | tup a b' i h1 h2 h3 => exact .tup a b' i h1 h2 ((upd_ne (ne hv)).trans h3)
  | dct a b' h1 h2 => exact .dct a b' ((upd_ne (ne hv)).trans h1) h2
  | exc a b' h1 =>
    obtain ⟨fs, hA, hh⟩ := h1
    refine .exc a b' ⟨fs, ?_, hh⟩
    rcases hA with ⟨e, hA⟩ | ⟨dx, n, h1, h2⟩
    · exact .inl ⟨e, (upd_ne (ne hv)).trans hA⟩
    · refine .inr ⟨dx, n, (upd_ne (ne hv)).trans h1, (upd_ne (fun z => ?_)).trans h2⟩
      rw [z, hb] at h2
      cases h2
def spAlike (C : Nat → Addr) : Sp := fun vs H Q _ => ∃ (v : V) (o : Option Addr), vs = [v, v] ∧ Th C H v o ∧ In3 H o [.int 3] ∧ ∀ H', Same H H' → Q (.bl true) H'
abbrev sAlike : Stmt := top 54
abbrev nAlike : List Str := ["_law_one", "_law_thing_here", "_law_grown", "_law_inner_here", "_law_many", "_law_right_here"]
section
variable {P : Program} {w : World} {K : PySem.W.Frag} {mg : Str → Option Value} {base : Heap} {f : Addr} {fd : FuncData} {C : Nat → Addr}
theorem scAlike : FnScope nAlike ["_law_one", "_law_thing_here"] (defScope sAlike) := ⟨rfl, rfl, rfl, by decide +kernel, rfl, by decide +kernel, by decide +kernel⟩
theorem back_same {H G : Hp} {b : Addr} {xs ys : List V} (hb : H b = some (.lst xs)) (k : Same (upd H b (.lst ys)) G) : Same H (upd G b (.lst xs)) := fun c o e => by
  by_cases h : c = b
  · rw [h] at e ⊢
    rw [hb] at e
    cases e
    exact upd_same
  · exact (upd_ne h).trans (k c o ((upd_ne h).trans e))
theorem ok_alike (F : Fun K "_law_alike" "_law_alike" sAlike f fd) (Z : Z1 mg) (T : Pk K mg C) (N : Pn K C) (CI : Cg P w K mg base 1 "_law_inner" (spInner C)) : FnG P w K mg base CX0 3 f fd ["_law_one", "_law_thing_here"] (spAlike C) := by
  refine FunG.ok F scAlike (fun vs H Q E h => ?_) (fun cdv B out s H vs Q E hr hG h => ?_)
  · obtain ⟨v, o, rfl, _⟩ := h
    rfl
  · obtain ⟨v, o, rfl, hT, hb, q⟩ := h
    refine ⟨_, (C8.pss_cut (ps_if (pt_val (pe_callB call_isd (by rfl) Z.isi (by decide +kernel) (pa_cons (pv 1) (pa_cons (pe_glob (by rfl) (T.gl 2 (by decide)) (v := .ref (C 2)) rfl (by decide)) pa_nil)))) (pss_one (ps_if (pt_not (pt_val (pe_callB call_isd (by rfl) Z.isi (by decide +kernel) (pa_cons (pv 0) (pa_cons (pe_glob (by rfl) (T.gl 2 (by decide)) (v := .ref (C 2)) rfl (by decide)) pa_nil))))) (pss_one (ps_ret pe_bl)) pss_nil)) (pss_one (ps_if (pt_cmpR op_ne (pe_callB (call_rep hr hG) (by rfl) Z.repr (by decide +kernel) (pa_cons (pv 0) pa_nil)) (pe_callB (call_rep hr hG) (by rfl) Z.repr (by decide +kernel) (pa_cons (pv 1) pa_nil)) (nomark _)) (pss_one (ps_ret pe_bl)) pss_nil)))
      (C8.pss_cut (ps_if (pt_val (pe_callB call_isd (by rfl) Z.isi (by decide +kernel) (pa_cons (pv 1) (pa_cons (pe_bltn (by rfl) Z.list (by decide +kernel) (show RelV (.ty "list") _ from rfl)) pa_nil)))) (pss_cons (ps_expr (pe_bm PySem.F.plainAttrs_list PySem.F.slot_list_append PySem.F.type_list_append mt_append (pv 1) (pa_cons pe_int pa_nil)))
      (pss_cons (ps_set (i := 2) scAlike.nd rfl (.inl rfl) (pe_cmpR op_eq (pe_callB call_len (by rfl) Z.len PySem.boot_len (pa_cons (pv 0) pa_nil)) (pe_callB call_len (by rfl) Z.len PySem.boot_len (pa_cons (pv 1) pa_nil)) (nomark _)))
      (pss_cons (ps_expr (pe_bm0 PySem.F.plainAttrs_list PySem.F.slot_list_pop PySem.F.type_list_pop mt_pop (pv 1)))
      (pss_one (ps_if (pt_not (pt_val (pv 2))) (pss_one (ps_ret pe_bl)) pss_nil))))) pss_nil)
      (pss_cons (ps_set (i := 3) scAlike.nd rfl (.inl rfl) (pe_g CI hr hG (by decide) (by rfl) (pa_cons (pv 1) pa_nil)))
      (pss_cons (ps_set (i := 4) scAlike.nd rfl (.inl rfl) (pe_callB call_len (by rfl) Z.len PySem.boot_len (pa_cons (pv 3) pa_nil)))
      (pss_cons (ps_expr (pe_bm PySem.F.plainAttrs_list PySem.F.slot_list_append PySem.F.type_list_append mt_append (pv 3) (pa_cons (pv 4) pa_nil)))
      (pss_cons (ps_set (i := 2) scAlike.nd rfl (.inl rfl) (pe_g CI hr hG (by decide) (by rfl) (pa_cons (pv 0) pa_nil)))
      (pss_cons (ps_set (i := 5) scAlike.nd rfl (.inl rfl) (pe_or (pe_cmpR op_eq (pe_callB call_len (by rfl) Z.len PySem.boot_len (pa_cons (pv 2) pa_nil)) (pe_callB call_len (by rfl) Z.len PySem.boot_len (pa_cons (pv 3) pa_nil)) (nomark _)) (pe_one (pe_not (pe_callB call_isdT (by rfl) Z.isi (by decide +kernel) (pa_cons (pv 1) (pa_cons (pe_tup (pa_cons (pe_bltn (by rfl) Z.list (by decide +kernel) (show RelV (.ty "list") _ from rfl)) (pa_cons (pe_bltn (by rfl) Z.tuple (by decide +kernel) (show RelV (.ty "tuple") _ from rfl)) (pa_cons (pe_bltn (by rfl) Z.dict (by decide +kernel) (show RelV (.ty "dict") _ from rfl)) (pa_cons (pe_glob (by rfl) (T.gl 2 (by decide)) (v := .ref (C 2)) rfl (by decide)) pa_nil))))) pa_nil)))))))
      (pss_cons (ps_expr (pe_bm0 PySem.F.plainAttrs_list PySem.F.slot_list_pop PySem.F.type_list_pop mt_pop (pv 3)))
      (pss_one (ps_ret (pv 5))))))))))), ?_⟩
    have prs : Paired ClsV [V.ty "list", V.ty "tuple", V.ty "dict", V.ref (C 2)] [.type "list", .type "tuple", .type "dict", .ref (C 2)] := .cons (.ty _) (.cons (.ty _) (.cons (.ty _) (.cons (.own _) .nil)))
    obtain ⟨k, A, sh, rp⟩ := hT.ask T N
    refine ⟨fun σ' G => σ' = [some v, some v, none, none, none, none] ∧ G = H, ?_, ?_⟩
    · refine ⟨_, rfl, _, _, _, _, rfl, .own _, A.nm, _, rfl, ite2 (fun h4 => ?_) (fun h4 => ?_)⟩
      · refine ⟨_, rfl, _, _, _, _, rfl, .own _, A.nm, _, rfl, ?_⟩
        rw [h4]
        exact iteF ⟨rfl, rfl⟩
      · rcases rp with e4 | rp
        · exact absurd (by rw [e4]; rfl) h4
        · obtain ⟨z, hz⟩ := rp hb
          refine ⟨_, rfl, _, z, rfl, hz, _, rfl, _, z, rfl, hz, rfl, _, rfl, ite2 (fun z => ?_) (fun _ => ⟨rfl, rfl⟩)⟩
          rw [decide_eq_true rfl] at z
          cases z
    rintro _ _ ⟨rfl, eG⟩
    rw [eG]
    refine ⟨fun σ' G => (∃ g, σ' = [some v, some v, g, none, none, none]) ∧ Same H G, ?_, ?_⟩
    · refine ⟨_, rfl, _, _, _, _, rfl, .ty _, A.ls, _, rfl, ite2 (fun h1 => ?_) (fun _ => ⟨⟨_, rfl⟩, fun _ _ e => e⟩)⟩
      rcases sh with ⟨rfl, _⟩ | ⟨rfl, a, b, i, rfl, rfl, _, _, e⟩ | ⟨rfl, _⟩ | ⟨rfl, _⟩ | ⟨rfl, _⟩
      · cases h1
      · have e2 : (upd H a (.lst ([.int i, .ref b] ++ [.int 9]))) a = some (.lst [.int i, .ref b, .int 9]) := upd_same
        refine ⟨_, rfl, .inl ⟨rfl, _, SqL.of e⟩, a, _, _, rfl, rfl, e, (by show 2 < sizeLine; decide), ?_⟩
        refine ⟨_, rfl, _, _, rfl, .inl ⟨_, SqL.of e2, rfl⟩, _, rfl, _, _, rfl, .inl ⟨_, SqL.of e2, rfl⟩, rfl, ?_⟩
        refine ⟨_, rfl, .inl ⟨rfl, _, SqL.of e2⟩, a, _, _, rfl, rfl, e2, rfl, ?_⟩
        refine ⟨_, rfl, _, rfl, ?_⟩
        rw [decide_eq_true rfl]
        exact iteF ⟨⟨_, rfl⟩, back_same e (fun _ _ z => z)⟩
      · cases h1
      · cases h1
      · cases h1
    rintro _ G ⟨⟨g, rfl⟩, sG⟩
    have hT := hT.mono sG
    have hb := hb.mono sG
    have AL : IsA K G v [.type "list", .type "tuple", .type "dict", .ref (C 2)] (k != 0) := A.al.mono sG
    clear A
    cases o with
    | none =>
      have k0 : k = 0 := by
        rcases sh with ⟨e, _⟩ | ⟨_, a, b, i, _, e, _⟩ | ⟨_, a, b, i, _, e, _⟩ | ⟨_, a, b, _, e, _⟩ | ⟨_, a, b, _, e, _⟩
        · exact e
        · cases e
        · cases e
        · cases e
        · cases e
      rw [k0] at AL
      refine ⟨_, rfl, v, none, rfl, hT, (fun b H' z => by cases z), fun _ p G1 n1 k1 e1 => ?_⟩
      refine ⟨_, rfl, _, _, rfl, .inl ⟨_, SqL.of e1, rfl⟩, ?_⟩
      refine ⟨_, rfl, .inl ⟨rfl, _, SqL.of e1⟩, _, rfl, p, _, _, rfl, rfl, e1, (by show 0 < sizeLine; decide), ?_⟩
      have k2 : Same G (upd G1 p (.lst ([] ++ [.int 0]))) := fun c o e => (upd_ne (ne_of_none e n1)).trans (k1 c o e)
      have e2 : (upd G1 p (.lst ([] ++ [V.int 0]))) p = some (.lst [.int 0]) := upd_same
      refine ⟨_, rfl, v, none, rfl, hT.mono k2, (fun b H' z => by cases z), fun _ p2 G2 n2 k3 e3 => ?_⟩
      have e4 := k3 _ _ e2
      refine ⟨_, rfl, _, _, rfl, .inl ⟨_, SqL.of e3, rfl⟩, _, rfl, _, _, rfl, .inl ⟨_, SqL.of e4, rfl⟩, rfl, _, rfl, ?_⟩
      refine ite2 (fun z => ?_) (fun _ => ?_)
      · exact absurd (of_decide_eq_true z) (by simp)
      · refine ⟨_, rfl, (by show 4 ≤ sizeLine; decide), fun tp ht => ⟨_, tp, _, _, _, rfl, upd_same, prs, AL.mono (Same.tr k2 (Same.tr k3 (Same.put ht))), _, rfl, ?_⟩⟩
        have e5 := Same.put (o := .tup [.ty "list", .ty "tuple", .ty "dict", .ref (C 2)]) ht _ _ e4
        refine ⟨_, rfl, .inl ⟨rfl, _, SqL.of e5⟩, p, _, _, rfl, rfl, e5, rfl, _, rfl, q _ ?_⟩
        exact fun c o e => (upd_ne (ne_of_none (sG c o e) n1)).trans (Same.tr k2 (Same.tr k3 (Same.put ht)) c o (sG c o e))
    | some b =>
      have hbb := hb b rfl
      have k0 : (k != 0) = true := by
        rcases sh with ⟨_, e, _⟩ | ⟨e, _⟩ | ⟨e, _⟩ | ⟨e, _⟩ | ⟨e, _⟩
        · cases e
        · rw [e]; rfl
        · rw [e]; rfl
        · rw [e]; rfl
        · rw [e]; rfl
      have hv : v ≠ .ref b := fun z => by
        rw [z] at hT
        cases hT with
        | lst _ _ i _ _ e =>
          rw [hbb] at e
          cases e
        | tup _ _ i _ _ e =>
          rw [hbb] at e
          cases e
        | dct _ _ e _ =>
          rw [hbb] at e
          cases e
        | exc _ _ e =>
          obtain ⟨fs, hA, _⟩ := e
          rcases hA with ⟨_, hA⟩ | ⟨dx, _, hA, _⟩
          · rw [hbb] at hA
            cases hA
          · rw [hbb] at hA
            cases hA
      refine ⟨_, rfl, v, some b, rfl, hT, (fun b' G1 eb k1 => ?_), fun z => by cases z⟩
      cases eb
      have e1 := k1 _ _ hbb
      refine ⟨_, rfl, _, _, rfl, .inl ⟨_, SqL.of e1, rfl⟩, ?_⟩
      refine ⟨_, rfl, .inl ⟨rfl, _, SqL.of e1⟩, _, rfl, b, _, _, rfl, rfl, e1, (by show 1 < sizeLine; decide), ?_⟩
      have e2 : (upd G1 b (.lst ([.int 3] ++ [V.int ((1 : Nat) : Int)]))) b = some (.lst [.int 3, .int ((1 : Nat) : Int)]) := upd_same
      refine ⟨_, rfl, v, some b, rfl, (hT.mono k1).put e1 hv, (fun b' G2 eb k3 => ?_), fun z => by cases z⟩
      cases eb
      have e4 := k3 _ _ e2
      refine ⟨_, rfl, _, _, rfl, .inl ⟨_, SqL.of e4, rfl⟩, _, rfl, _, _, rfl, .inl ⟨_, SqL.of e4, rfl⟩, rfl, _, rfl, ?_⟩
      rw [decide_eq_true rfl]
      refine iteT ⟨_, rfl, .inl ⟨rfl, _, SqL.of e4⟩, b, _, _, rfl, rfl, e4, rfl, _, rfl, q _ ?_⟩
      exact Same.tr sG (Same.tr k1 (back_same e1 k3))
end
end T01
set_option Elab.async false
set_option linter.all false
set_option maxRecDepth 100000
set_option maxHeartbeats 4000000
namespace T01
open PySem PySem.Spec PyProof.Rows L2 Tp
theorem repr_fits {i : Int} (h1 : 0 ≤ i) (h2 : i < 10 ^ 30) : (reprText (Str.ofString (toString i))).length ≤ sizeLine := by
  obtain ⟨n, rfl⟩ : ∃ n : Nat, i = Int.ofNat n := ⟨i.toNat, by rw [Int.ofNat_eq_natCast, Int.toNat_of_nonneg h1]⟩
  have a := PySem.StrLaws.reprText_len (Str.ofString (toString (Int.ofNat n))) (fun c hc => by
    rw [text_ofNat] at hc
    obtain ⟨ch, _, rfl⟩ := List.mem_map.mp (show c ∈ (Nat.toDigits 10 n).map Char.toNat from by simpa using hc)
    exact ch.val.toNat_lt)
  have b := toString_length_le h1 (by decide : 0 < 30) h2
  rw [PySem.sizeLine_eq]
  omega
def spThing (C : Nat → Addr) : Sp := fun vs H Q _ => ∃ (p : Addr), vs = [.ref p] ∧ BoxAt H p 0 ∧ ∀ v o H', Keep p H H' → Th C H' v o → In3 H' o [.int 3] → Q v H'
abbrev sThing : Stmt := top 51
section
variable {P : Program} {w : World} {K : PySem.W.Frag} {mg : Str → Option Value} {base : Heap} {f : Addr} {fd : FuncData} {C : Nat → Addr}
theorem scThing : FnScope ["_law_box_here", "_law_way", "_law_amount"] ["_law_box_here"] (defScope sThing) := ⟨rfl, rfl, rfl, by decide +kernel, rfl, by decide +kernel, by decide +kernel⟩
theorem ok_thing (F : Fun K "_law_thing" "_law_thing" sThing f fd) (Z : Z1 mg) (M : Mks P w K mg base C) (CT : Cg P w K mg base 1 "_law_take" spTake) : FnG P w K mg base CX0 3 f fd ["_law_box_here"] (spThing C) := by
  refine FunG.ok F scThing (fun vs H Q E h => ?_) (fun cdv B out s H vs Q E hr hG h => ?_)
  · obtain ⟨p, rfl, _⟩ := h
    rfl
  · obtain ⟨p, rfl, hb, q⟩ := h
    have hr2 : Room 2 _ := hr
    refine ⟨_, (pss_cons (ps_set (i := 1) scThing.nd rfl (.inl rfl) (pe_g CT hr hG (by decide) (by rfl) (pa_cons (pv 0) (pa_cons pe_int pa_nil))))
      (pss_cons (ps_set (i := 2) scThing.nd rfl (.inl rfl) (pe_g CT hr hG (by decide) (by rfl) (pa_cons (pv 0) (pa_cons (pe_op op_pow pe_int pe_int) pa_nil))))
      (pss_cons (ps_if (pt_cmpR op_lt (pv 1) pe_int (nomark _)) (pss_one (ps_ret (pe_ix ix_list (pe_lst (pa_cons (pv 2) (pa_cons (pe_callTy call_str_int (by rfl) Z.str (by decide +kernel) (pa_cons (pv 2) pa_nil)) (pa_cons pe_non (pa_cons (pe_cmpR op_eq (pe_op op_mod (pv 2) pe_int) pe_int (nomark _)) pa_nil))))) (pv 1) fun _ _ => rfl))) pss_nil)
      (pss_one (ps_ret (pe_ix ix_list (pe_lst (pa_cons (pe_lst (pa_cons (pv 2) (pa_cons (pe_lstS (pa_cons pe_int pa_nil)) pa_nil))) (pa_cons (pe_tup (pa_cons (pv 2) (pa_cons (pe_lstS (pa_cons pe_int pa_nil)) pa_nil))) (pa_cons (pe_disp (pps_cons pe_str (pe_lstS (pa_cons pe_int pa_nil)) pps_nil) (by rfl) (by rfl) (fun z => by cases z) (by decide)) (pa_cons (pe_mke (M.p 2 (by decide)) hr2 (by rfl) (pa_cons (pe_lstS (pa_cons pe_int pa_nil)) pa_nil)) pa_nil))))) (pe_op op_sub (pv 1) pe_int) fun _ _ => rfl)))))), ?_⟩
    refine ⟨_, rfl, p, 8, 0, rfl, hb, by decide, by decide +kernel, by decide, fun d H1 d1 d2 hb1 k1 => ?_⟩
    refine ⟨_, rfl, _, _, rfl, rfl, ⟨by decide, by decide, by decide⟩, p, _, 1, rfl, hb1, by decide +kernel, by decide +kernel, by decide, fun i H2 i1 i2 hb2 k2 => ?_⟩
    have kk : Keep p H H2 := keep_of fun b hb => (k2 b hb).trans (k1 b hb)
    have i3 : i < 10 ^ 30 := i2
    clear k1 k2 hb1 hb hb2
    refine ⟨_, rfl, _, _, rfl, rfl, _, rfl, ite2 (fun h4 => ?_) (fun h4 => ?_)⟩
    · have h4' := of_decide_eq_true h4
      refine ⟨_, rfl, _, rfl, i, rfl, Nat.lt_of_lt_of_le (small_int i1 i3) (by decide), ?_⟩
      refine ⟨_, rfl, _, _, rfl, rfl, (by decide : (0 : Int) < 2), rfl, (by show 4 ≤ sizeLine; decide), fun l hl => ?_⟩
      have sq : SqL K (upd H2 l (.lst [V.int i, V.str (Str.ofString (toString i)), V.non, V.bl (decide (V.int (i % 2) = V.int 0))])) l [V.int i, V.str (Str.ofString (toString i)), V.non, V.bl (decide (V.int (i % 2) = V.int 0))] := SqL.of upd_same
      have kl := kk.trans (Keep.of (Same.put (o := .lst [V.int i, V.str (Str.ofString (toString i)), V.non, V.bl (decide (V.int (i % 2) = V.int 0))]) hl))
      have no : ∀ G : Hp, In3 G none [.int 3] := fun G b e => by cases e
      have dd : d = 0 ∨ d = 1 ∨ d = 2 ∨ d = 3 := by omega
      rcases dd with rfl | rfl | rfl | rfl
      · exact ⟨_, rfl, l, _, _, _, rfl, rfl, sq, rfl, q _ none _ kl (.int i i1 i3) (no _)⟩
      · exact ⟨_, rfl, l, _, _, _, rfl, rfl, sq, rfl, q _ none _ kl (.str _ (repr_fits i1 i3)) (no _)⟩
      · exact ⟨_, rfl, l, _, _, _, rfl, rfl, sq, rfl, q _ none _ kl .non (no _)⟩
      · exact ⟨_, rfl, l, _, _, _, rfl, rfl, sq, rfl, q _ none _ kl (.bl _) (no _)⟩
    · have h4' : ¬ d < 4 := fun z => h4 (decide_eq_true z)
      have up : ∀ {G : Hp} {b a : Addr} {u o : HO}, G b = none → upd G b u a = none → Same G (upd (upd G b u) a o) ∧ (upd (upd G b u) a o) a = some o ∧ (upd (upd G b u) a o) b = some u := fun {G b a u o} hb ha =>
        ⟨Same.tr (Same.put hb) (Same.put ha), upd_same, (upd_ne (ne_of_none upd_same ha)).trans upd_same⟩
      refine ⟨_, rfl, (by show 1 ≤ sizeLine; decide), fun b1 n1 _ => ⟨(by show 2 ≤ sizeLine; decide), fun a1 m1 => ?_⟩⟩
      obtain ⟨s3, fA1, fB1⟩ := up (o := .lst [.int i, .ref b1]) n1 m1
      generalize upd (upd H2 b1 (.lst [V.int 3])) a1 (.lst [V.int i, V.ref b1]) = H3 at s3 fA1 fB1 ⊢
      refine ⟨_, rfl, (by show 1 ≤ sizeLine; decide), fun b2 n2 _ => ⟨(by show 2 ≤ sizeLine; decide), fun a2 m2 => ?_⟩⟩
      obtain ⟨s4, fA2, fB2⟩ := up (o := .tup [.int i, .ref b2]) n2 m2
      generalize upd (upd H3 b2 (.lst [V.int 3])) a2 (.tup [V.int i, V.ref b2]) = H4 at s4 fA2 fB2 ⊢
      intro a3 m3
      refine ⟨(by show 1 ≤ sizeLine; decide), fun b3 n3 hs3 => ?_⟩
      have ne3 : a3 ≠ b3 := ne_of_none upd_same n3
      refine ⟨(upd_ne ne3).trans upd_same, [(Sum.inr "a", .ref b3)], rfl, Nat.le_of_ble_eq_true rfl, ?_⟩
      have s5 : Same H4 (upd (upd (upd H4 a3 (.dK [])) b3 (.lst [.int 3])) a3 (.dK (mergeK [] [(Sum.inr "a", V.ref b3)]))) := fun c o e => by
        have c3 : c ≠ a3 := ne_of_none e m3
        exact (upd_ne c3).trans ((Same.tr (Same.put m3) (Same.put n3)) c o e)
      have fA3 : (upd (upd (upd H4 a3 (.dK [])) b3 (.lst [.int 3])) a3 (.dK (mergeK [] [(Sum.inr "a", V.ref b3)]))) a3 = some (.dK [(.inr "a", .ref b3)]) := upd_same
      have fB3 : (upd (upd (upd H4 a3 (.dK [])) b3 (.lst [.int 3])) a3 (.dK (mergeK [] [(Sum.inr "a", V.ref b3)]))) b3 = some (.lst [.int 3]) := (upd_ne (Ne.symm ne3)).trans upd_same
      generalize (upd (upd (upd H4 a3 (.dK [])) b3 (.lst [V.int 3])) a3 (.dK (mergeK [] [(Sum.inr "a", V.ref b3)]))) = H5 at s5 fA3 fB3 ⊢
      refine ⟨(by show 1 ≤ sizeLine; decide), fun b4 n4 _ => ⟨rfl, (by decide), fun a4 H6 m4 k6 x4 => ?_⟩⟩
      have s6 : Same H5 H6 := Same.tr (Same.put n4) k6
      have fB4 : H6 b4 = some (.lst [.int 3]) := k6 _ _ upd_same
      refine ⟨(by show 4 ≤ sizeLine; decide), fun l hl => ?_⟩
      have s7 : Same H6 (upd H6 l (.lst [V.ref a1, V.ref a2, V.ref a3, V.ref a4])) := Same.put hl
      have fL : (upd H6 l (.lst [V.ref a1, V.ref a2, V.ref a3, V.ref a4])) l = some (.lst [V.ref a1, V.ref a2, V.ref a3, V.ref a4]) := upd_same
      generalize (upd H6 l (.lst [V.ref a1, V.ref a2, V.ref a3, V.ref a4])) = H7 at s7 fL ⊢
      have t5 := Same.tr s6 s7
      have t4 := Same.tr s5 t5
      have t3 := Same.tr s4 t4
      have kF : Keep p H H7 := kk.trans (Keep.of (Same.tr s3 t3))
      have one : ∀ b, H7 b = some (.lst [.int 3]) → In3 H7 (some b) [.int 3] := fun b e c ec => by
        cases ec
        exact e
      have dd : d = 4 ∨ d = 5 ∨ d = 6 ∨ d = 7 := by omega
      rcases dd with rfl | rfl | rfl | rfl
      · exact ⟨_, rfl, _, _, rfl, rfl, l, _, _, _, rfl, rfl, SqL.of fL, rfl, q _ (some b1) _ kF (.lst a1 b1 i i1 i3 (t3 _ _ fA1)) (one _ (t3 _ _ fB1))⟩
      · exact ⟨_, rfl, _, _, rfl, rfl, l, _, _, _, rfl, rfl, SqL.of fL, rfl, q _ (some b2) _ kF (.tup a2 b2 i i1 i3 (t4 _ _ fA2)) (one _ (t4 _ _ fB2))⟩
      · exact ⟨_, rfl, _, _, rfl, rfl, l, _, _, _, rfl, rfl, SqL.of fL, rfl, q _ (some b3) _ kF (.dct a3 b3 (t5 _ _ fA3) hs3) (one _ (t5 _ _ fB3))⟩
      · exact ⟨_, rfl, _, _, rfl, rfl, l, _, _, _, rfl, rfl, SqL.of fL, rfl, q _ (some b4) _ kF (.exc a4 b4 (x4.mono s7)) (one _ (s7 _ _ fB4))⟩
end
end T01
set_option Elab.async false
set_option linter.all false
set_option maxRecDepth 100000
set_option maxHeartbeats 4000000
namespace T01
open PySem PySem.Spec PyProof.Rows L2 Tp
theorem seqi_asg {te : TE} {i : Nat} {u : TS} {D : Ends} {σ : L2.St} {H : Hp} (h : te σ H fun x H1 => u D (σ.set i (some x)) H1) : tSeq (tAsg te (gName i)) u D σ H := h
abbrev sTwo : Stmt := top 55
abbrev nTwo : List Str := ["_law_thing_here", "_law_far", "_law_made_here", "_law_e", "_law_fields_here"]
def spTwo (C : Nat → Addr) : Sp := fun vs H Q _ => ∃ (v : V) (o : Option Addr), vs = [v] ∧ Th C H v o ∧ In3 H o [.int 3] ∧ ∀ H', Same H H' → Q (.bl true) H'
def twos : List Nat := [24, 26, 30, 24, 26, 30, 30]
section
variable {P : Program} {w : World} {K : PySem.W.Frag} {mg : Str → Option Value} {base : Heap} {f : Addr} {fd : FuncData} {C : Nat → Addr}
theorem scTwo : FnScope nTwo ["_law_thing_here"] (defScope sTwo) := ⟨rfl, rfl, rfl, by decide +kernel, rfl, by decide +kernel, by decide +kernel⟩
theorem ok_two (F : Fun K "_law_two_right" "_law_two_right" sTwo f fd) (M : Mks P w K mg base C) (CF : Cg P w K mg base 1 "_law_fields" (spFields C)) (CA : Cg P w K mg base 3 "_law_alike" (spAlike C)) : FnG P w K mg base CX0 4 f fd ["_law_thing_here"] (spTwo C) := by
  refine FunG.ok F scTwo (fun vs H Q E h => ?_) (fun cdv B out s H vs Q E hr hG h => ?_)
  · obtain ⟨v, o, rfl, _⟩ := h
    rfl
  · obtain ⟨v, o, rfl, hT, hb, q⟩ := h
    have hr3 : Room 3 _ := hr
    have hr2 := hr3.mono (show 2 ≤ 3 by decide)
    refine ⟨_, (pss_cons (ps_set (i := 1) scTwo.nd rfl (.inl rfl) (pe_lst (pa_cons pe_str (pa_cons pe_int pa_nil))))
      (pss_cons (ps_set (i := 2) scTwo.nd rfl (.inl rfl) (pe_lst (pa_many (m2 M 24 (by decide) rfl rfl hr2 (by rfl) (pv 0) (pv 1) (by decide)) (pa_many (m2 M 26 (by decide) rfl rfl hr2 (by rfl) (pv 0) (pv 1) (by decide)) (pa_many (m2 M 30 (by decide) rfl rfl hr2 (by rfl) (pv 0) (pv 1) (by decide)) pa_many0)))))
      (pss_cons (ps_set (i := 2) scTwo.nd rfl (.inl rfl) (pe_op op_cat (pv 2) (pe_lst (pa_many (r2 M 24 (by decide) rfl rfl hr2 (by rfl) (pv 1) (pv 0) (by decide)) (pa_many (r2 M 26 (by decide) rfl rfl hr2 (by rfl) (pv 1) (pv 0) (by decide)) pa_many0)))))
      (pss_cons (ps_set (i := 2) scTwo.nd rfl (.inl rfl) (pe_op op_cat (pv 2) (pe_lst (pa_many (k2 M 30 (by decide) rfl rfl hr2 (by rfl) (pv 0) (pv 1) (by decide)) (pa_many (r2 M 30 (by decide) rfl rfl hr2 (by rfl) (pv 1) (pv 0) (by decide)) pa_many0)))))
      (pss_cons (ps_for PassesOwn.never rfl (pi_list (pv 2)) (pg_name (i := 3) scTwo.nd rfl (Or.inl rfl)) (pss_cons (ps_set (i := 4) scTwo.nd rfl (.inl rfl) (pe_g CF hr hG (by decide) (by rfl) (pa_cons (pv 3) pa_nil)))
      (pss_one (ps_if (PW.pt (pw_or (pt_not (pt_val (pe_g CA hr hG (by decide) (by rfl) (pa_cons (pe_ix ix_list (pv 4) pe_int fun _ _ => rfl) (pa_cons (pv 0) pa_nil))))) (pw_or1 (pt_cmpR (op_neD hr.units) (pe_ix ix_list (pv 4) pe_int fun _ _ => rfl) (pv 1) (nomark _))))) (pss_one (ps_ret pe_bl)) pss_nil))))
      (pss_one (ps_ret pe_bl))))))), ?_⟩
    refine ⟨(by show 2 ≤ sizeLine; decide), fun l hl => ?_⟩
    have s0 : Same H (upd H l (.lst [.str "far", .int 8])) := Same.put hl
    have fl : (upd H l (.lst [V.str "far", V.int 8])) l = some (.lst [.str "far", .int 8]) := upd_same
    generalize upd H l (.lst [V.str "far", V.int 8]) = H0 at s0 fl ⊢
    dsimp only [gName]
    refine seqi_asg (first_row rfl (Nat.le_of_ble_eq_true rfl) fun p1 as1 H1 x1 y1 z1 => ?_)
    refine seqi_asg (next_row rfl (Nat.le_of_ble_eq_true rfl) rfl z1 y1 x1 fun p2 as2 H2 x2 y2 z2 => ?_)
    refine seqi_asg (next_row rfl (Nat.le_of_ble_eq_true rfl) rfl z2 y2 x2 fun p3 as3 H3 x3 y3 z3 => ?_)
    have cs : ∀ c ∈ twos.map (fun j => ((C j, fnm j, [v, .ref l]) : Ent)), ∃ j, j < 35 ∧ c = (C j, fnm j, [v, .ref l]) ∧ (fnm j).length = 2 := fun c hc => by
      obtain ⟨j, hj, rfl⟩ := List.mem_map.mp hc
      have : ∀ j ∈ twos, j < 35 ∧ (fnm j).length = 2 := by decide
      exact ⟨j, (this j hj).1, rfl, (this j hj).2⟩
    have y3' : Many H3 as3 (twos.map fun j => ((C j, fnm j, [v, .ref l]) : Ent)) := y3
    clear y3 y1 y2 z1 z2 x1 x2
    have sq : ∀ G, Same H3 G → SqL K G p3 (as3.map V.ref) := fun G k => SqL.of (k _ _ z3)
    refine ⟨_, rfl, p3, rfl, ⟨_, sq _ fun _ _ e => e⟩, for_it (walk_list (xs := as3.map V.ref)) (fun i σ G => (∃ o3 o4, σ = [some v, some (.ref l), some (.ref p3), o3, o4]) ∧ Same H3 G) ⟨⟨_, _, rfl⟩, fun _ _ e => e⟩ (fun i σ G _ h => sq G h.2) ?_ ?_⟩
    · rintro i x σ G G' hi ⟨⟨o3, o4, rfl⟩, kG⟩ ⟨rfl, hx⟩
      rw [List.getElem?_map] at hx
      obtain ⟨a, ha, rfl⟩ := Option.map_eq_some_iff.mp hx
      have hlen := y3'.len
      have hia : i < as3.length := (List.getElem?_eq_some_iff.mp ha).1
      have hc : (twos.map fun j => ((C j, fnm j, [v, .ref l]) : Ent))[i]? = some ((twos.map fun j => ((C j, fnm j, [v, .ref l]) : Ent))[i]'(by omega)) := List.getElem?_eq_getElem (by omega)
      have e1 := y3'.get i a _ ha hc
      obtain ⟨j, hj, ec, el⟩ := cs _ (List.mem_of_getElem? hc)
      rw [ec] at e1
      refine ⟨_, rfl, a, j, [v, .ref l], rfl, hj, e1.mono kG, el.symm, fun m G1 k1 f1 => ?_⟩
      have t1 := Same.tr s0 (Same.tr x3 (Same.tr kG k1))
      refine ⟨_, rfl, m, _, 0, v, rfl, rfl, SqL.of f1, rfl, _, rfl, v, o, rfl, hT.mono t1, hb.mono t1, fun G2 k2 => ?_⟩
      have f1' := k2 _ _ f1
      have fl' := k2 _ _ (k1 _ _ (kG _ _ (x3 _ _ fl)))
      refine ⟨_, rfl, iteF ?_⟩
      have dd : Dp K G2 (.ref l) (.list [.str "far", .int 8]) := .lst (SqL.of fl') (.cons (.str _) (.cons (.int _) .nil))
      refine ⟨_, rfl, m, _, 1, .ref l, rfl, rfl, SqL.of f1', rfl, _, rfl, _, _, dd, dd, by decide +kernel, by decide +kernel, _, rfl, ?_⟩
      rw [show PyData.eqv (.list [.str "far", .int 8]) (.list [.str "far", .int 8]) = true from by decide +kernel]
      exact iteF ⟨⟨_, _, rfl⟩, Same.tr kG (Same.tr k1 k2)⟩
    · rintro σ G ⟨⟨o3, o4, rfl⟩, kG⟩
      exact q _ (Same.tr s0 (Same.tr x3 kG))
end
end T01
set_option Elab.async false
set_option linter.all false
set_option maxRecDepth 100000
set_option maxHeartbeats 4000000
namespace T01
open PySem PySem.Spec PyProof.Rows L2 Tp
abbrev sRight : Stmt := top 53
abbrev nRight : List Str := ["_law_thing_here", "_law_sizes", "_law_made_here", "_law_at", "_law_e", "_law_kinds_here", "_law_fields_here", "_law_k", "_law_one"]
def spRight (C : Nat → Addr) : Sp := fun vs H Q _ => ∃ (v : V) (o : Option Addr), vs = [v] ∧ Th C H v o ∧ In3 H o [.int 3] ∧ ∀ H', Same H H' → Q (.bl true) H'
section
variable {P : Program} {w : World} {K : PySem.W.Frag} {mg : Str → Option Value} {base : Heap} {f : Addr} {fd : FuncData} {C : Nat → Addr}
def szs : List V := (List.range 35).map fun i => V.int ((fnm i).length : Nat)
theorem scRight : FnScope nRight ["_law_thing_here"] (defScope sRight) := ⟨rfl, rfl, rfl, by decide +kernel, rfl, by decide +kernel, by decide +kernel⟩
theorem ok_right (F : Fun K "_law_right" "_law_right" sRight f fd) (Z : Z1 mg) (CM : Cg P w K mg base 3 "_law_made" (spMade C)) (CN : Cg P w K mg base 3 "_law_named" (spMade C)) (CK : Cg P w K mg base 1 "_law_kinds" (spKinds C)) (CB : Cg P w K mg base 1 "_law_bases" (spBases C)) (CD : Cg P w K mg base 1 "_law_base_due" spDue)
    (CF : Cg P w K mg base 1 "_law_fields" (spFields C)) (CA : Cg P w K mg base 3 "_law_alike" (spAlike C)) (CC : Cg P w K mg base 4 "_law_caught" (spCaught C)) : FnG P w K mg base CX0 5 f fd ["_law_thing_here"] (spRight C) := by
  refine FunG.ok F scRight (fun vs H Q E h => ?_) (fun cdv B out s H vs Q E hr hG h => ?_)
  · obtain ⟨v, o, rfl, _⟩ := h
    rfl
  · obtain ⟨v, o, rfl, hT, hb, q⟩ := h
    refine ⟨_, (pss_cons (ps_set (i := 1) scRight.nd rfl (.inl rfl) (pe_lst (pa_cons pe_int (pa_cons pe_int (pa_cons pe_int (pa_cons pe_int (pa_cons pe_int (pa_cons pe_int (pa_cons pe_int (pa_cons pe_int (pa_cons pe_int (pa_cons pe_int (pa_cons pe_int (pa_cons pe_int (pa_cons pe_int (pa_cons pe_int (pa_cons pe_int (pa_cons pe_int (pa_cons pe_int (pa_cons pe_int (pa_cons pe_int (pa_cons pe_int (pa_cons pe_int (pa_cons pe_int (pa_cons pe_int (pa_cons pe_int (pa_cons pe_int (pa_cons pe_int (pa_cons pe_int (pa_cons pe_int (pa_cons pe_int (pa_cons pe_int (pa_cons pe_int (pa_cons pe_int (pa_cons pe_int (pa_cons pe_int (pa_cons pe_int pa_nil)))))))))))))))))))))))))))))))))))))
      (pss_cons (ps_for PassesOwn.never rfl (pi_list (pe_lst (pa_cons (pe_g CM hr hG (by decide) (by rfl) (pa_cons (pv 0) pa_nil)) (pa_cons (pe_g CN hr hG (by decide) (by rfl) (pa_cons (pv 0) pa_nil)) pa_nil)))) (pg_name (i := 2) scRight.nd rfl (Or.inl rfl)) (pss_one (ps_for PassesOwn.never rfl (pi_enum (by rfl) Z.enum (pa_cons (pv 2) pa_nil)) (pg_tup rfl (pgs_cons (pg_name (i := 3) scRight.nd rfl (Or.inr rfl)) (pgs_cons (pg_name (i := 4) scRight.nd rfl (Or.inl rfl)) pgs_nil))) (pss_cons (ps_set (i := 5) scRight.nd rfl (.inl rfl) (pe_g CK hr hG (by decide) (by rfl) (pa_cons (pv 4) pa_nil)))
      (pss_cons (ps_if (PW.pt (pw_or (pt_cmpR (op_neD hr.units) (pv 5) (pe_lc (own := [("_law_k", 7)]) (g := gName 7) (tt := tYes) rfl scRight.nd (pi_range1 (by rfl) Z.range (pa_cons (pe_callB call_len (by rfl) Z.len PySem.boot_len (pa_cons (pv 2) pa_nil)) pa_nil)) (blkOk_by (N := nRight) (sc := defScope sRight) (by decide +kernel)) (fun _ _ _ _ _ => pg_name (i := 7) scRight.nd rfl (Or.inl rfl)) (fun _ _ _ _ _ => pts_nil) (fun _ _ _ _ _ => (pe_cmpR op_eq (pv 7) (pv 3) (nomark _)))) (nomark _)) (pw_or1 (pt_cmpR (op_neD hr.units) (pe_g CB hr hG (by decide) (by rfl) (pa_cons (pv 4) pa_nil)) (pe_g CD hr hG (by decide) (by rfl) (pa_cons (pv 3) pa_nil)) (nomark _))))) (pss_one (ps_ret pe_bl)) pss_nil)
      (pss_cons (ps_set (i := 6) scRight.nd rfl (.inl rfl) (pe_g CF hr hG (by decide) (by rfl) (pa_cons (pv 4) pa_nil)))
      (pss_cons (ps_if (PW.pt (pw_or (pt_cmpR op_ne (pe_callB call_len (by rfl) Z.len PySem.boot_len (pa_cons (pv 6) pa_nil)) (pe_ix ix_list (pv 1) (pv 3) fun _ _ => rfl) (nomark _)) (pw_or1 (pt_cmpR (op_neD hr.units) (pe_lc (own := [("_law_one", 8)]) (g := gName 8) rfl scRight.nd (pi_list (pv 6)) (blkOk_by (N := nRight) (sc := defScope sRight) (by decide +kernel)) (fun _ _ _ _ _ => pg_name (i := 8) scRight.nd rfl (Or.inl rfl)) (fun _ _ _ _ _ => pts_one (pt_not (pt_val (pe_g CA hr hG (by decide) (by rfl) (pa_cons (pv 8) (pa_cons (pv 0) pa_nil)))))) (fun _ _ _ _ _ => (pv 8))) (pe_lst pa_nil) (nomark _))))) (pss_one (ps_ret pe_bl)) pss_nil)
      (pss_one (ps_if (pt_cmpR op_ne (pe_g CC hr hG (by decide) (by rfl) (pa_cons (pv 4) pa_nil)) (pe_ix ix_list (pe_lst (pa_cons pe_str (pa_cons pe_str (pa_cons pe_str pa_nil)))) (pe_op op_add (pe_callTy call_int1 (by rfl) Z.int (by decide +kernel) (pa_cons (pe_cmpR op_ge (pv 3) pe_int (nomark _)) pa_nil)) (pe_callTy call_int1 (by rfl) Z.int (by decide +kernel) (pa_cons (pe_cmpR op_ge (pv 3) pe_int (nomark _)) pa_nil))) fun _ _ => rfl) (nomark _)) (pss_one (ps_ret pe_bl)) pss_nil)))))))))
      (pss_one (ps_ret pe_bl)))), ?_⟩
    refine ⟨(by show 35 ≤ sizeLine; decide), fun l hl => ?_⟩
    have s0 : Same H (upd H l (.lst szs)) := Same.put hl
    have fl : (upd H l (.lst szs)) l = some (.lst szs) := upd_same
    change tSeq _ _ _ _ (upd H l (.lst szs))
    generalize upd H l (.lst szs) = H0 at s0 fl ⊢
    refine ⟨_, rfl, v, rfl, fun l1 as1 H1 k1 m1 e1 => ⟨_, rfl, v, rfl, fun l2 as2 H2 k2 m2 e2 => ⟨(by show 2 ≤ sizeLine; decide), fun ml hml => ?_⟩⟩⟩
    have s3 : Same H2 (upd H2 ml (.lst [.ref l1, .ref l2])) := Same.put hml
    have f3 : (upd H2 ml (.lst [V.ref l1, V.ref l2])) ml = some (.lst [.ref l1, .ref l2]) := upd_same
    generalize upd H2 ml (.lst [V.ref l1, V.ref l2]) = H3 at s3 f3 ⊢
    have t0 : Same H0 H3 := Same.tr k1 (Same.tr k2 s3)
    have rows : ∀ m, m = l1 ∨ m = l2 → ∃ as, Many H3 as (made C v) ∧ H3 m = some (.lst (as.map V.ref)) := fun m hm => by
      rcases hm with rfl | rfl
      · exact ⟨as1, m1.mono (Same.tr k2 s3), s3 _ _ (k2 _ _ e1)⟩
      · exact ⟨as2, m2.mono s3, s3 _ _ e2⟩
    have hT := hT.mono (Same.tr s0 t0)
    have hb := hb.mono (Same.tr s0 t0)
    have fl := t0 _ _ fl
    have q : ∀ G, Same H3 G → Q (.bl true) G := fun G k => q G (Same.tr s0 (Same.tr t0 k))
    clear s0 t0 k1 k2 s3 m1 m2 e1 e2 hml hl
    refine ⟨ml, rfl, ⟨_, SqL.of f3⟩, for_it (walk_list (xs := [V.ref l1, V.ref l2])) (fun i σ G => (∃ o2 o3 o4 o5 o6, σ = [some v, some (.ref l), o2, o3, o4, o5, o6, none, none]) ∧ Same H3 G) ⟨⟨_, _, _, _, _, rfl⟩, fun _ _ e => e⟩ (fun i σ G _ h => SqL.of (h.2 _ _ f3)) ?_ ?_⟩
    · rintro i x σ G G' hi ⟨⟨o2, o3, o4, o5, o6, rfl⟩, kG⟩ ⟨rfl, hx⟩
      have hm : ∃ m, x = .ref m ∧ (m = l1 ∨ m = l2) := by
        match i, hx with
        | 0, hx =>
          cases hx
          exact ⟨l1, rfl, .inl rfl⟩
        | 1, hx =>
          cases hx
          exact ⟨l2, rfl, .inr rfl⟩
      obtain ⟨m, rfl, hm⟩ := hm
      obtain ⟨as, hM, fm⟩ := rows m hm
      have sq : ∀ G, Same H3 G → SqL K G m (as.map V.ref) := fun G k => SqL.of (k _ _ fm)
      have hlen : as.length = 35 := hM.len
      refine ⟨_, rfl, m, _, rfl, sq _ kG, for_it (walk_enum (xs := as.map V.ref)) (fun j σ G => (∃ o3 o4 o5 o6, σ = [some v, some (.ref l), some (.ref m), o3, o4, o5, o6, none, none]) ∧ Same H3 G) ⟨⟨_, _, _, _, rfl⟩, kG⟩ (fun j σ G _ h => sq G h.2) ?_ (fun σ G h => ?_)⟩
      · clear kG
        rintro j x σ G G' hj ⟨⟨o3, o4, o5, o6, rfl⟩, kG⟩ ⟨T, x1, y, rfl, hT0, rfl, ex, ey⟩
        cases ex
        have ey : (as.map V.ref)[j]? = some y := ey
        rw [List.getElem?_map] at ey
        obtain ⟨a, ha, rfl⟩ := Option.map_eq_some_iff.mp ey
        rw [List.length_map, hlen] at hj
        have hc : (made C v)[j]? = some (C j, fnm j, List.replicate (fnm j).length v) := by
          unfold made
          rw [List.getElem?_map, List.getElem?_range hj]
          rfl
        have hX := hM.get j a _ ha hc
        obtain ⟨fs, hA, hh⟩ := hX
        have hX : ExI H3 a (C j) (fnm j) (List.replicate (fnm j).length v) := ⟨fs, hA, hh⟩
        have kT : Same H3 (upd G T (.tup [.int (j : Nat), .ref a])) := Same.tr kG (Same.put hT0)
        refine ⟨T, _, rfl, SqT.of upd_same, rfl, _, _, rfl, _, _, rfl, rfl, ?_⟩
        generalize upd G T (.tup [.int (j : Nat), .ref a]) = G0 at kT ⊢
        refine ⟨_, rfl, a, j, fs, rfl, (by omega), hA.mono kT, fun kl G1 g1 f1 => ?_⟩
        have c1 := Same.tr kT g1
        refine ⟨_, rfl, _, rfl, _, _, rfl, .inl ⟨_, sq _ c1, rfl⟩, ?_⟩
        rw [List.length_map, hlen]
        refine ⟨_, rfl, by decide, by decide, fun D hD => lc_range (lo := 0) (n := 35) (fun i M => Same G1 M ∧ M D = some (.lst ((List.range i).map fun (k : Nat) => V.bl (decide (V.int (0 + (k : Int)) = V.int (j : Int)))))) ⟨Same.put hD, upd_same⟩ ?_ ?_⟩
        · rintro i M hi2 ⟨gM, mD⟩
          refine ⟨rfl, _, rfl, _, rfl, rfl, _, mD, ?_, ?_, ?_⟩
          · rw [List.length_map, List.length_range, PySem.sizeLine_eq]
            omega
          · exact fun b o e => (upd_ne (ne_of_none e hD)).trans (gM b o e)
          · rw [upd_same, List.range_succ, List.map_append]
            rfl
        rintro M ⟨gM, mD⟩
        have ek : ((List.range 35).map fun (k : Nat) => V.bl (decide (V.int (0 + (k : Int)) = V.int (j : Int)))) = kinds j := by
          refine List.map_congr_left fun k hk => ?_
          have hk' := List.mem_range.mp hk
          congr 1
          rw [dec_int]
          have hu : ∀ j : Nat, j < 35 → 35 ≤ up j := by decide
          have := hu j hj
          unfold sub
          rw [show (up j == k) = false from by
            rw [beq_eq_false_iff_ne]
            omega, Bool.or_false, Bool.eq_iff_iff, beq_iff_eq, beq_iff_eq]
          omega
        have hkd : ∀ j : Nat, j < 35 → (PyData.list ((kinds j).map dV)).eqv (.list ((kinds j).map dV)) = true ∧ SeqAt.shaped (.list ((kinds j).map dV)) = true ∧ (kinds j).all isFlat = true := by decide +kernel
        obtain ⟨q1, q2, q3⟩ := hkd j hj
        rw [ek] at mD
        refine ⟨_, _, .lst (SqL.of (gM _ _ f1)) (dpAll_flat q3), .lst (SqL.of mD) (dpAll_flat q3), q2, q2, _, rfl, ?_⟩
        rw [q1]
        refine iteF ?_
        have c2 := Same.tr c1 gM
        refine ⟨_, rfl, a, j, fs, rfl, (by omega), hA.mono c2, fun bl G2 g2 f2 => ?_⟩
        have c3 := Same.tr c2 g2
        refine ⟨_, rfl, j, rfl, hj, fun dl G3 g3 f3' => ?_⟩
        have c4 := Same.tr c3 g3
        have hbd : ∀ j : Nat, j < 35 → (PyData.list ((bases j).map dV)).eqv (.list ((bases j).map dV)) = true ∧ SeqAt.shaped (.list ((bases j).map dV)) = true ∧ (bases j).all isFlat = true := by decide +kernel
        obtain ⟨u1, u2, u3⟩ := hbd j hj
        refine ⟨_, _, .lst (SqL.of (g3 _ _ f2)) (dpAll_flat u3), .lst (SqL.of f3') (dpAll_flat u3), u2, u2, _, rfl, ?_⟩
        rw [u1]
        refine iteF ?_
        clear q1 q2 q3 u1 u2 u3 mD ek gM c1 c2 c3 g1 g2 g3 f1 f2 f3' hD
        refine ⟨_, rfl, a, j, _, rfl, hj, hX.mono c4, List.length_replicate .., fun fl6 G4 g4 f4 => ?_⟩
        have c5 := Same.tr c4 g4
        have fl5 := c5 _ _ fl
        have hsz : szs[j]? = some (.int ((fnm j).length : Nat)) := by
          unfold szs
          rw [List.getElem?_map, List.getElem?_range hj]
          rfl
        refine ⟨_, rfl, _, _, rfl, .inl ⟨_, SqL.of f4, rfl⟩, _, rfl, _, rfl, l, _, _, _, rfl, rfl, SqL.of fl5, atI_nat hsz, rfl, _, rfl, ?_⟩
        rw [List.length_replicate, decide_eq_true rfl]
        refine iteF ?_
        refine ⟨_, rfl, fl6, rfl, ⟨_, SqL.of f4⟩, fun D hD => lc_list (xs := List.replicate (fnm j).length v) (fun i M => Same G4 M ∧ M D = some (.lst [])) ⟨Same.put hD, upd_same⟩ (fun i M _ h => SqL.of (h.1 _ _ f4)) ?_ ?_⟩
        · rintro i x M hx2 ⟨gM, mD⟩
          have ev : x = v := (List.mem_replicate.mp (List.mem_of_getElem? hx2)).2
          subst ev
          refine ⟨rfl, _, rfl, _, rfl, _, o, rfl, hT.mono (Same.tr c5 gM), hb.mono (Same.tr c5 gM), fun M' kM => ⟨_, rfl, iteF ⟨Same.tr gM kM, kM _ _ mD⟩⟩⟩
        rintro M ⟨gM, mD⟩
        refine ⟨(by show 0 ≤ sizeLine; decide), fun el hel => ?_⟩
        refine ⟨_, _, .lst (SqL.of (Same.put hel _ _ mD)) .nil, .lst (SqL.of upd_same) .nil, rfl, rfl, _, rfl, iteF ?_⟩
        have c6 := Same.tr c5 (Same.tr gM (Same.put (o := .lst []) hel))
        generalize upd M el (.lst []) = G5 at c6 ⊢
        refine ⟨_, rfl, a, j, fs, rfl, hj, hA.mono c6, fun G6 g6 => ⟨(by show 3 ≤ sizeLine; decide), fun wl hwl => ?_⟩⟩
        have c7 := Same.tr c6 (Same.tr g6 (Same.put (o := .lst [.str "net", .str "missing", .str "state"]) hwl))
        have fw : (upd G6 wl (.lst [V.str "net", V.str "missing", V.str "state"])) wl = some (.lst [.str "net", .str "missing", .str "state"]) := upd_same
        generalize upd G6 wl (.lst [V.str "net", V.str "missing", V.str "state"]) = G7 at c7 fw ⊢
        refine ⟨_, rfl, _, _, rfl, rfl, .inr ⟨_, rfl, _, rfl, _, _, rfl, rfl, .inr ⟨_, rfl, _, _, rfl, rfl, wl, _, _, .str (word j), rfl, rfl, SqL.of fw, ?_, rfl, _, rfl, ?_⟩⟩⟩
        · unfold word up
          by_cases h1 : j < 22
          · rw [if_pos h1, decide_eq_false (by omega), decide_eq_false (by omega)]
            rfl
          · rw [if_neg h1, decide_eq_true (by omega)]
            by_cases h2 : j < 28
            · rw [if_pos h2, decide_eq_false (by omega)]
              rfl
            · rw [if_neg h2, decide_eq_true (by omega), if_pos hj]
              rfl
        · rw [decide_eq_true rfl]
          exact iteF ⟨⟨_, _, _, _, rfl⟩, c7⟩
      · obtain ⟨⟨o3, o4, o5, o6, rfl⟩, kG⟩ := h
        exact ⟨⟨_, _, _, _, _, rfl⟩, kG⟩
    · rintro σ G ⟨⟨o2, o3, o4, o5, o6, rfl⟩, kG⟩
      exact q _ kG
end
end T01
set_option Elab.async false
set_option linter.all false
set_option maxRecDepth 100000
set_option maxHeartbeats 4000000
/-! own classes of exceptions without an __init__ of their own -/
namespace Tp
section
open PySem HandSPX
local macro_rules | `(tactic| walk_at "factX") => `(tactic| first | decide +kernel | kernel_rfl | (rw [isSubtype_type]; kernel_rfl) | (rw [mroOf_type]; kernel_rfl) | (intro z; kernel_rfl) | (intro z1 z2 z3; unfold argsOk; kernel_rfl))
/-- a built-in class's own __init__, that is BaseException's -/
structure InitX (B initId : String) : Prop where
  slot : Slot B "__init__" initId
  entry : entryFor table initId = some Builtin.«BaseException.__init__»
  split : splitId initId = some (B, "__init__")
  kind : builtinKind initId = some .slot
  row : Manifest.signature? initId = some ⟨.positional, "*", B, .self, [⟨"args", .varPos, false⟩]⟩
  star : (B != "*") = true
theorem initOf {B newId initId : String} {bm : List Value} (F : ExcBaseFacts B newId initId bm) : InitX B initId := ⟨F.init, F.initEntry, F.initSplit, F.initKind, F.initRow, F.noStar⟩
theorem initK : InitX "KeyError" "KeyError.__init__" where
  slot := .of (owner := "KeyError") (n := "__init__")
      (by rw [typeLookup_type, builtinLookup_eq_fast]; kernel_rfl) (by walk_at "factX") (by walk_at "factX")
      (by walk_at "factX") (by first | exact .inl (by walk_at "factX") | exact .inr (by walk_at "factX")) (by walk_at "factX")
  entry := entryFor_alias (id' := "BaseException.__init__")
      (by rw [fastTable_eq_tree]; kernel_rfl) (by walk_at "factX") (by walk_at "factX")
      (by rw [fastTable_eq_tree]; kernel_rfl)
  split := by walk_at "factX"
  kind := by walk_at "factX"
  row := by walk_at "factX"
  star := by walk_at "factX"
variable {prog : Program} {w : World} {A : Around} {E : Value → Shared → Prop} {R : Result → Shared → Prop} {h : Heap} {g : Array GenState} {d : Drawn} {t : Nat} {os : OsState}
variable {nm q : Str} {C N : Addr} {bs bm : List Value} {hdct : Bool} {sn : List Str} {sub : List Value} {ab : Bool} {col : Option Bool} {dd : Option Addr} {k0 k1 k2 k3 k5 : Option Value} {B newId initId : String}
theorem bas_check {M : Model} (F : InitX B initId) (hB : bm.contains (.type B) = true) {e : Addr} {oe : Obj} {rest : List Value} {Q : Unit → Shared → Prop}
    (hC : h.get? C = some (excClassObj nm q C N bs bm hdct sn sub ab col dd k0 k1 k2 k3 k5 newId)) (he : h.get? e = some oe) (hcls : oe.cls = .ref C) (hq : Q () ⟨h, g, d, t, os⟩) :
    wpAny M A (checkBuiltinCall initId ⟨.ref e :: rest, []⟩) Q E ⟨h, g, d, t, os⟩ := by
  have hst := F.star
  have hc : (Value.ref C :: bm).contains (.type B) = true := by
    rw [List.contains_cons]
    exact Bool.or_eq_true_iff.mpr (.inr hB)
  simp only [checkBuiltinCall, F.split, F.kind, F.row]
  repeat (first
    | with_reducible refine wpAny_loadPart_at hC ?_
    | (with_reducible refine wpAny_loadPart_at he ?_; rw [hcls])
    | (with_reducible refine wpAny_isSubtype_exc hC ?_; rw [hc])
    | wp_step)
  refine wpAny_onRaise ?_
  rw [show ∀ (x y : String) (n : Nat), Bind.check ⟨.positional, "*", B, .self, [⟨"args", .varPos, false⟩]⟩ x y n (List.map (fun z => z.fst) ({ pos := Value.ref e :: rest } : Args).kw) = pure () from fun x y n => check_star_args _ _ _ _ _ _]
  exact wpAny_pure hq
theorem bas_init (F : InitX B initId) (hB : bm.contains (.type B) = true) {e t0 : Addr} {rest : List Value}
    (hC : h.get? C = some (excClassObj nm q C N bs bm hdct sn sub ab col dd k0 k1 k2 k3 k5 newId)) (he : h.get? e = some (excO C t0)) (hz : rest.length ≤ sizeLine)
    (hq : ∀ h' t1, (∀ b o, b ≠ e → h.get? b = some o → h'.get? b = some o) → h'.get? e = some (excO C t1) → R (.ok (.ret .none)) ⟨h', g, d, t, os⟩) :
    codeAny (model prog w) A (.call (.builtin initId) ⟨.ref e :: rest, []⟩) R ⟨h, g, d, t, os⟩ := by
  refine codeAny_call_builtin F.slot.plain F.entry (bas_check F hB hC he rfl ?_)
  wp_walk
  refine hq _ h.objs.size (fun b o hb ho => (Heap.get?_update_other _ _ (Ne.symm hb)).trans (Heap.get?_push_of_some _ ho)) ?_
  rw [Heap.get?_update_self _ (Heap.get?_push_of_some _ he) rfl]
  rfl
end
section
open PySem PySem.Spec PyProof.Rows L2
/-- C(e), C without an __init__ -/
def tBas (C : Addr) (t : TA) : TE := fun σ H Q => t σ H fun vs H1 => vs.length ≤ 1000 ∧ ∀ a H', H1 a = none → Same H1 H' → ExAt H' a C [] → Q (.ref a) H'
theorem pe_bas {X : Cx} {C : Addr} {S initId : String} {x : Str} {p pos : Pos} {e : Expr} {es : List Expr} {t : TA} (T : ExK X.K C) (F : InitX S initId) (iC : PySem.W.findIn X.K (.ref C) "__init__" = some (some (.builtin initId))) (hS : PySem.W.subIn X.K (.ref C) (.type S) = some true)
    (hm : X.mg x = some (.ref C)) (hg : Gl X x) (ha : PA X (e :: es) t)
    (hdb : (x == ("__debug__" : Str)) = false := by decide) (he : starEach (e :: es) X.env = (false, eval e X.env) :: starEach es X.env := by rfl) (hpl : (backTo pos (starEach es X.env)).any (·.1) = false := by rfl) :
    PE X (.Call (.Name x p) (e :: es) [] pos) (tBas C t) := by
  refine ⟨fun pins s σ H Q I h => wpAny_Call_Name_kw (ld_glob I hg hm ?_ hdb)⟩
  refine PySem.W.callWith_K (h₀ := X.base) I.ok.mod.kin T.kC (thn (ha.run pos pins s σ H _ I h) fun us s1 hh => ?_) he hpl
  obtain ⟨vs, H1, I1, r, hl, q⟩ := hh
  refine ⟨I1.kIn, ?_⟩
  show wpAny _ _ (call (.ref C) us) _ _ _
  obtain ⟨newId, line, ⟨B', initId', S', bmB, FB, SF, L⟩, hi, hlo⟩ := T.ln
  obtain ⟨nm, N, qn, bs, bm, hdct, sn, sub, ab, col, dd, k0, k1, k2, k3, k5, hC, hT⟩ := PySem.W.excInit_of I1.kIn hi
  have L' : LineX B' bm := ⟨(hT _).trans L.hB, (hT _).trans L.hA, (hT _).trans L.hN⟩
  have hbm : bm.contains (.type S) = true := by
    have e1 : PySem.W.clsIn X.K C ≠ none := fun z => by
      have := T.hdC
      unfold PySem.W.hasDictIn at this
      rw [z] at this
      cases this
    have e2 : PySem.W.mroIn X.K C (.type S) = some true := hS
    unfold PySem.W.mroIn at e2
    obtain ⟨cd, hcd, e3⟩ := Option.bind_eq_some_iff.mp e2
    have e4 : cd.mro = .ref C :: bm := by
      unfold PySem.W.clsIn at hcd
      split at hcd
      · rename_i c' d' cd' sl' ho
        cases hcd
        have z := (I1.kIn _ _ ho).symm.trans hC
        cases z
        rfl
      · cases hcd
    rw [e4] at e3
    have e5 : (Value.ref C :: bm).contains (.type S) = true := by
      have := e3
      simp only [List.isEmpty_cons, Bool.false_eq_true, if_false, Option.some.injEq] at this
      exact this
    rw [List.contains_cons] at e5
    rcases Bool.or_eq_true_iff.mp e5 with z | z
    · cases z
    · exact z
  have lu : us.length ≤ sizeLine := by
    rw [← r.length, sizeLine_eq]
    omega
  obtain ⟨hp, gg, dr, tk, os⟩ := s1
  have hsz : hp.objs.size ≤ hp.objs.size + 1 := Nat.le_succ _
  have kk : ∀ b o, hp.get? b = some o → ((hp.push (PySem.W.kdv_tup us)).push (PySem.HandSPX.excO C hp.objs.size)).get? b = some o := fun b o z => Heap.get?_push_of_some _ (Heap.get?_push_of_some _ z)
  have hget : ((hp.push (PySem.W.kdv_tup us)).push (PySem.HandSPX.excO C hp.objs.size)).get? (hp.objs.size + 1) = some (PySem.HandSPX.excO C hp.objs.size) := by heap_get
  have hn : H1 (hp.objs.size + 1) = none := I1.hok.fresh hsz
  refine wpAny_call (mk_call FB L' hC lu (PySem.W.looks_findIn I1.kIn iC) (fun self => ?_) (bas_init F hbm (kk _ _ hC) hget lu fun h' t1 k hx => ?_))
  · rw [F.slot.bind self]
    exact .now
  · have hne : ∀ b o, hp.get? b = some o → h'.get? b = some o := fun b o z => k b o (Nat.ne_of_lt (Nat.lt_of_lt_of_le (Heap.lt_size z) hsz)) (kk b o z)
    refine ⟨rfl, .ref (hp.objs.size + 1), upd H1 (hp.objs.size + 1) (exo (hp.objs.size + 1) C none), I1.laid (t' := tk) hne hsz (exo_ok hx), rfl, ?_⟩
    exact q _ _ hn (Same.put hn) (.inl ⟨rfl, upd_same⟩)
end
end Tp
set_option Elab.async false
set_option linter.all false
set_option maxRecDepth 100000
set_option maxHeartbeats 4000000
namespace T01
open PySem PySem.Spec PyProof.Rows L2 Tp
def spLaw (K : PySem.W.Frag) : Sp := fun vs H Q _ => ∃ (a : Addr) (ns : List Int), vs = [.ref a] ∧ SqL K H a (ns.map V.int) ∧ ns.length ≤ 63 ∧ ∀ H', Q (.bl true) H'
abbrev sLaw : Stmt := top 56
abbrev nLaw : List Str := ["_law_script", "_law_k", "_law_thing_here", "_law_e", "_law_found", "_law_kind"]
section
variable {P : Program} {w : World} {K : PySem.W.Frag} {mg : Str → Option Value} {base : Heap} {f : Addr} {fd : FuncData} {C : Nat → Addr}
theorem scLaw : FnScope nLaw ["_law_script"] (defScope sLaw) := ⟨rfl, rfl, rfl, by decide +kernel, rfl, by decide +kernel, by decide +kernel⟩
theorem seq_new {K : PySem.W.Frag} {a : Addr} {H H' : Hp} {xs : List V} (k : Same H H') (h : SqL K H a xs) : SqL K H' a xs := by
  rcases h with (h | ⟨o, h⟩) | h
  · exact .inl (.inl (k _ _ h))
  · exact .inl (.inr ⟨o, k _ _ h⟩)
  · exact .inr h
theorem ok_law (F : Fun K "law" "law" sLaw f fd) (Z : Z1 mg) (T : Pk K mg C) (CC : Cg P w K mg base 1 "_law_cell" (Tp.spCell K)) (CB : Cg P w K mg base 1 "_law_box" spBox) (CT : Cg P w K mg base 3 "_law_thing" (spThing C)) (CR : Cg P w K mg base 5 "_law_right" (spRight C)) (C2 : Cg P w K mg base 4 "_law_two_right" (spTwo C))
    (CK : Cg P w K mg base 1 "_law_kinds" (spKinds C)) (CS : Cg P w K mg base 1 "_law_bases" (spBases C)) (CD : Cg P w K mg base 1 "_law_base_due" spDue)
    (b35 : PySem.W.findIn K (.ref (C 35)) "__init__" = some (some (.builtin "ValueError.__init__"))) (b36 : PySem.W.findIn K (.ref (C 36)) "__init__" = some (some (.builtin "KeyError.__init__"))) (b37 : PySem.W.findIn K (.ref (C 37)) "__init__" = some (some (.builtin "LookupError.__init__")))
    (s35 : PySem.W.subIn K (.ref (C 35)) (.type "ValueError") = some true) (s36 : PySem.W.subIn K (.ref (C 36)) (.type "KeyError") = some true) (s37 : PySem.W.subIn K (.ref (C 37)) (.type "LookupError") = some true) : FnG P w K mg base CX0 7 f fd ["_law_script"] (spLaw K) := by
  refine FunG.ok F scLaw (fun vs H Q E h => ?_) (fun cdv B out s H vs Q E hr hG h => ?_)
  · obtain ⟨a, ns, rfl, _⟩ := h
    rfl
  · obtain ⟨a, ns, rfl, hs, hl, q⟩ := h
    refine ⟨_, (pss_cons (ps_for PassesOwn.never rfl (pi_range1 (by rfl) Z.range (pa_cons (pe_callB (call_max2 rfl) (by rfl) Z.max (by decide +kernel) (pa_cons pe_int (pa_cons (pe_callB (call_min2 rfl) (by rfl) Z.min (by decide +kernel) (pa_cons pe_int (pa_cons (pe_callB call_len (by rfl) Z.len PySem.boot_len (pa_cons (pv 0) pa_nil)) pa_nil))) pa_nil))) pa_nil)) (pg_name (i := 1) scLaw.nd rfl (Or.inl rfl)) (pss_cons (ps_set (i := 2) scLaw.nd rfl (.inl rfl) (pe_g CT hr hG (by decide) (by rfl) (pa_cons (pe_g CB hr hG (by decide) (by rfl) (pa_cons (pe_g CC hr hG (by decide) (by rfl) (pa_cons (pv 0) (pa_cons (pv 1) pa_nil))) pa_nil)) pa_nil)))
      (pss_one (ps_if (PW.pt (pw_or (pt_not (pt_val (pe_g CR hr hG (by decide) (by rfl) (pa_cons (pv 2) pa_nil)))) (pw_or1 (pt_not (pt_val (pe_g C2 hr hG (by decide) (by rfl) (pa_cons (pv 2) pa_nil))))))) (pss_one (ps_ret pe_bl)) pss_nil))))
      (pss_cons (ps_for PassesOwn.never rfl (pi_list (pe_lst (pa_cons (pe_bas (T.ex 35 (by decide)) (initOf PySem.F.excBase_ValueError) b35 s35 (T.gl 35 (by decide)) (by rfl) (pa_cons pe_str pa_nil)) (pa_cons (pe_bas (T.ex 36 (by decide)) initK b36 s36 (T.gl 36 (by decide)) (by rfl) (pa_cons pe_str pa_nil)) (pa_cons (pe_bas (T.ex 37 (by decide)) (initOf PySem.F.excBase_LookupError) b37 s37 (T.gl 37 (by decide)) (by rfl) (pa_cons pe_str pa_nil)) pa_nil))))) (pg_name (i := 3) scLaw.nd rfl (Or.inl rfl)) (pss_one (ps_if (pt_cmpR (op_neD hr.units) (pe_lc (own := [("_law_kind", 5)]) (g := gName 5) rfl scLaw.nd (pi_list (pe_g CK hr hG (by decide) (by rfl) (pa_cons (pv 3) pa_nil))) (blkOk_by (N := nLaw) (sc := defScope sLaw) (by decide +kernel)) (fun _ _ _ _ _ => pg_name (i := 5) scLaw.nd rfl (Or.inl rfl)) (fun _ _ _ _ _ => pts_one (pt_val (pv 5))) (fun _ _ _ _ _ => (pv 5))) (pe_lst pa_nil) (nomark _)) (pss_one (ps_ret pe_bl)) pss_nil)))
      (pss_cons (ps_set (i := 4) scLaw.nd rfl (.inl rfl) (pe_lst (pa_cons (pe_g CS hr hG (by decide) (by rfl) (pa_cons (pe_bas (T.ex 35 (by decide)) (initOf PySem.F.excBase_ValueError) b35 s35 (T.gl 35 (by decide)) (by rfl) (pa_cons pe_str pa_nil)) pa_nil)) (pa_cons (pe_g CS hr hG (by decide) (by rfl) (pa_cons (pe_bas (T.ex 36 (by decide)) initK b36 s36 (T.gl 36 (by decide)) (by rfl) (pa_cons pe_str pa_nil)) pa_nil)) (pa_cons (pe_g CS hr hG (by decide) (by rfl) (pa_cons (pe_bas (T.ex 37 (by decide)) (initOf PySem.F.excBase_LookupError) b37 s37 (T.gl 37 (by decide)) (by rfl) (pa_cons pe_str pa_nil)) pa_nil)) pa_nil)))))
      (pss_one (ps_ret (pe_cmpR (op_eqD hr.units) (pv 4) (pe_lst (pa_cons (pe_g CD hr hG (by decide) (by rfl) (pa_cons pe_int pa_nil)) (pa_cons (pe_g CD hr hG (by decide) (by rfl) (pa_cons pe_int pa_nil)) (pa_cons (pe_g CD hr hG (by decide) (by rfl) (pa_cons pe_int pa_nil)) pa_nil)))) (nomark _))))))), ?_⟩
    refine ⟨_, rfl, _, _, rfl, .inl ⟨_, hs, rfl⟩, _, _, rfl, _, _, rfl, _, rfl, ?_⟩
    rw [List.length_map]
    have hlt : (if (if ((ns.length : Nat) : Int) < 6 then ((ns.length : Nat) : Int) else 6) > 2 then (if ((ns.length : Nat) : Int) < 6 then ((ns.length : Nat) : Int) else 6) else 2) ≤ 6 ∧
        0 ≤ (if (if ((ns.length : Nat) : Int) < 6 then ((ns.length : Nat) : Int) else 6) > 2 then (if ((ns.length : Nat) : Int) < 6 then ((ns.length : Nat) : Int) else 6) else 2) := by
      constructor <;> split <;> split <;> omega
    generalize (if (if ((ns.length : Nat) : Int) < 6 then ((ns.length : Nat) : Int) else 6) > 2 then (if ((ns.length : Nat) : Int) < 6 then ((ns.length : Nat) : Int) else 6) else 2) = turns at hlt ⊢
    refine ⟨by omega, by omega, ?_⟩
    refine for_range (lo := 0) (n := turns.toNat) (fun i σ G => SqL K G a (ns.map V.int) ∧ ∃ o1 o2, σ = [some (.ref a), o1, o2, none, none, none]) ⟨hs, none, none, rfl⟩ ?_ ?_
    · rintro i σ G hi ⟨gs, o1, o2, rfl⟩
      refine ⟨_, rfl, _, rfl, a, ns, i, by rw [Int.zero_add], gs, hl, by omega, fun z => ?_⟩
      refine ⟨z, rfl, fun p G1 hp gb gk => ?_⟩
      refine ⟨p, rfl, gb, fun v o G2 k2 hT hb => ?_⟩
      have sm : Same G G2 := fun b u e => k2 b u (ne_of_none e hp) (gk b u (ne_of_none e hp) e)
      refine ⟨_, rfl, v, o, rfl, hT, hb, fun G3 k3 => ⟨_, rfl, iteF ?_⟩⟩
      refine ⟨_, rfl, v, o, rfl, hT.mono k3, hb.mono k3, fun G4 k4 => ⟨_, rfl, iteF ⟨seq_new (Same.tr sm (Same.tr k3 k4)) gs, _, _, rfl⟩⟩⟩
    · rintro σ G ⟨gs, o1, o2, rfl⟩
      clear gs hs hlt
      refine ⟨by decide, fun a1 H1 _ k1 x1 => ⟨by decide, fun a2 H2 _ k2 x2 => ⟨by decide, fun a3 H3 _ k3 x3 => ⟨(by show 3 ≤ sizeLine; decide), fun l hl => ?_⟩⟩⟩⟩
      have e1 : ExAt (upd H3 l (.lst [.ref a1, .ref a2, .ref a3])) a1 (C 35) [] := ((x1.mono k2).mono k3).mono (Same.put hl)
      have e2 : ExAt (upd H3 l (.lst [.ref a1, .ref a2, .ref a3])) a2 (C 36) [] := (x2.mono k3).mono (Same.put hl)
      have e3 : ExAt (upd H3 l (.lst [.ref a1, .ref a2, .ref a3])) a3 (C 37) [] := x3.mono (Same.put hl)
      have fl : (upd H3 l (.lst [V.ref a1, V.ref a2, V.ref a3])) l = some (.lst [.ref a1, .ref a2, .ref a3]) := upd_same
      generalize upd H3 l (.lst [V.ref a1, V.ref a2, V.ref a3]) = G0 at e1 e2 e3 fl ⊢
      refine ⟨l, rfl, ⟨_, SqL.of fl⟩, for_it (walk_list (xs := [V.ref a1, V.ref a2, V.ref a3])) (fun i σ G => (∃ o3, σ = [some (.ref a), o1, o2, o3, none, none]) ∧ Same G0 G) ⟨⟨_, rfl⟩, fun _ _ e => e⟩ (fun i σ G _ h => SqL.of (h.2 _ _ fl)) ?_ ?_⟩
      · rintro i x σ M M' hi ⟨⟨o3, rfl⟩, kM⟩ ⟨rfl, hx⟩
        have hm : ∃ b j, x = .ref b ∧ 35 ≤ j ∧ j < 38 ∧ ExAt G0 b (C j) [] := by
          match i, hx with
          | 0, hx =>
            cases hx
            exact ⟨a1, 35, rfl, by decide, by decide, e1⟩
          | 1, hx =>
            cases hx
            exact ⟨a2, 36, rfl, by decide, by decide, e2⟩
          | 2, hx =>
            cases hx
            exact ⟨a3, 37, rfl, by decide, by decide, e3⟩
        obtain ⟨b, j, rfl, hj, hj2, hA⟩ := hm
        refine ⟨_, rfl, b, j, [], rfl, hj2, hA.mono kM, fun kl M1 g1 f1 => ⟨kl, rfl, ⟨_, SqL.of f1⟩, fun D hD => ?_⟩⟩
        have kall : ∀ j : Nat, j < 38 → 35 ≤ j → kinds j = List.replicate 35 (.bl false) := fun j h1 h2 => by
          have : ∀ j : Nat, j < 38 → 35 ≤ j → ((List.range 35).map fun k => sub j k) = List.replicate 35 false := by decide +kernel
          have e := congrArg (List.map V.bl) (this j h1 h2)
          rw [List.map_map, List.map_replicate] at e
          exact e
        rw [kall j hj2 hj] at f1
        refine lc_list (xs := List.replicate 35 (V.bl false)) (fun i N => Same M1 N ∧ N D = some (.lst [])) ⟨Same.put hD, upd_same⟩ (fun i N _ h => SqL.of (h.1 _ _ f1)) ?_ ?_
        · rintro i x N hx2 ⟨gN, nD⟩
          have ev : x = .bl false := (List.mem_replicate.mp (List.mem_of_getElem? hx2)).2
          subst ev
          exact ⟨rfl, _, rfl, _, rfl, iteF ⟨gN, nD⟩⟩
        rintro N ⟨gN, nD⟩
        refine ⟨(by show 0 ≤ sizeLine; decide), fun el hel => ?_⟩
        refine ⟨_, _, .lst (SqL.of (Same.put hel _ _ nD)) .nil, .lst (SqL.of upd_same) .nil, rfl, rfl, _, rfl, iteF ⟨⟨_, rfl⟩, Same.tr kM (Same.tr g1 (Same.tr gN (Same.put hel)))⟩⟩
      · rintro σ M ⟨⟨o3, rfl⟩, kM⟩
        refine ⟨by decide, fun c1 N1 _ l1 y1 => ⟨c1, 35, [], rfl, by decide, y1, fun d1 N2 l2 f1 => ?_⟩⟩
        refine ⟨by decide, fun c2 N3 _ l3 y2 => ⟨c2, 36, [], rfl, by decide, y2, fun d2 N4 l4 f2 => ?_⟩⟩
        refine ⟨by decide, fun c3 N5 _ l5 y3 => ⟨c3, 37, [], rfl, by decide, y3, fun d3 N6 l6 f3 => ?_⟩⟩
        have f2 := l6 _ _ (l5 _ _ f2)
        have f1 := l6 _ _ (l5 _ _ (l4 _ _ (l3 _ _ f1)))
        refine ⟨(by show 3 ≤ sizeLine; decide), fun ll hll => ?_⟩
        have g1 := Same.put (o := .lst [.ref d1, .ref d2, .ref d3]) hll _ _ f1
        have g2 := Same.put (o := .lst [.ref d1, .ref d2, .ref d3]) hll _ _ f2
        have g3 := Same.put (o := .lst [.ref d1, .ref d2, .ref d3]) hll _ _ f3
        have gl : (upd N6 ll (.lst [V.ref d1, V.ref d2, V.ref d3])) ll = some (.lst [.ref d1, .ref d2, .ref d3]) := upd_same
        refine ⟨_, rfl, 0, rfl, by decide, fun w1 O1 m1 h1 => ⟨22, rfl, by decide, fun w2 O2 m2 h2 => ⟨34, rfl, by decide, fun w3 O3 m3 h3 => ⟨(by show 3 ≤ sizeLine; decide), fun wl hwl => ?_⟩⟩⟩⟩
        have mm := Same.tr m1 (Same.tr m2 (Same.tr m3 (Same.put (o := .lst [.ref w1, .ref w2, .ref w3]) hwl)))
        have h1 := Same.put (o := .lst [.ref w1, .ref w2, .ref w3]) hwl _ _ (m3 _ _ (m2 _ _ h1))
        have h2 := Same.put (o := .lst [.ref w1, .ref w2, .ref w3]) hwl _ _ (m3 _ _ h2)
        have h3 := Same.put (o := .lst [.ref w1, .ref w2, .ref w3]) hwl _ _ h3
        have fx : ∀ j : Nat, j < 38 → (bases j).all isFlat = true := by decide +kernel
        refine ⟨.list [.list ((bases 35).map dV), .list ((bases 36).map dV), .list ((bases 37).map dV)], .list [.list ((bases 0).map dV), .list ((bases 22).map dV), .list ((bases 34).map dV)],
          .lst (SqL.of (mm _ _ gl)) (.cons (.lst (SqL.of (mm _ _ g1)) (dpAll_flat (fx 35 (by decide)))) (.cons (.lst (SqL.of (mm _ _ g2)) (dpAll_flat (fx 36 (by decide)))) (.cons (.lst (SqL.of (mm _ _ g3)) (dpAll_flat (fx 37 (by decide)))) .nil))),
          .lst (SqL.of upd_same) (.cons (.lst (SqL.of h1) (dpAll_flat (fx 0 (by decide)))) (.cons (.lst (SqL.of h2) (dpAll_flat (fx 22 (by decide)))) (.cons (.lst (SqL.of h3) (dpAll_flat (fx 34 (by decide)))) .nil))), by decide +kernel, by decide +kernel, ?_⟩
        rw [show PyData.eqv (.list [.list ((bases 35).map dV), .list ((bases 36).map dV), .list ((bases 37).map dV)]) (.list [.list ((bases 0).map dV), .list ((bases 22).map dV), .list ((bases 34).map dV)]) = true from by decide +kernel]
        exact q _
end
end T01
set_option Elab.async false
set_option linter.all false
set_option maxRecDepth 100000
set_option maxHeartbeats 4000000
namespace T01
open PySem PySem.Spec PyProof.Rows L2 Tp
def cOf (cs : List Addr) (i : Nat) : Addr := cs.getD i 0
theorem c_inj {cs : List Addr} (nd : cs.Nodup) (hl : cs.length = 38) : ∀ i j, i < 38 → j < 38 → cOf cs i = cOf cs j → i = j := fun i j hi hj e => by
  have p := List.pairwise_iff_getElem.mp nd
  have gi : cOf cs i = cs[i]'(by omega) := by
    unfold cOf
    rw [List.getD_eq_getElem?_getD, List.getElem?_eq_getElem (by omega : i < cs.length)]
    rfl
  have gj : cOf cs j = cs[j]'(by omega) := by
    unfold cOf
    rw [List.getD_eq_getElem?_getD, List.getElem?_eq_getElem (by omega : j < cs.length)]
    rfl
  rw [gi, gj] at e
  rcases Nat.lt_trichotomy i j with h | h | h
  · exact absurd e (p i j _ _ h)
  · exact h
  · exact absurd e.symm (p j i _ _ h)
def lineOf (i : Nat) : List Value := if up i == 35 then valLine else if up i == 36 then keyLine else lookLine
def newOf (i : Nat) : String := if up i == 35 then "ValueError.__new__" else "LookupError.__new__"
def tlOf (C : Nat → Addr) (i : Nat) : List Value := if i < 35 then .ref (C (up i)) :: lineOf i else lineOf i
/-- how class i is written -/
def Ln (K : PySem.W.Frag) (C : Nat → Addr) (i : Nat) : Prop := ∃ (nm qn : Str) (N : Addr) (bs : List Value) (sn : List Str) (sub : List Value) (ab : Bool) (col : Option Bool) (dd : Option Addr) (k0 k1 k2 k3 k5 : Option Value),
  K.lookup (C i) = some (excClassObj nm qn (C i) N bs (tlOf C i) true sn sub ab col dd k0 k1 k2 k3 k5 (newOf i))
theorem base_of (i : Nat) : BaseX (newOf i) (lineOf i) := by
  unfold newOf lineOf
  split
  · exact baseV
  · split
    · exact baseK
    · exact baseL
theorem tail_self (l : List Value) (h : ∀ a r, l ≠ .ref a :: r) : PySem.W.excTail l l = true := by
  unfold PySem.W.excTail
  split
  · rename_i a r
    exact absurd rfl (h a r)
  · exact beq_self_eq_true _
section
variable {K : PySem.W.Frag} {mg : Str → Option Value} {C : Nat → Addr} {i j : Nat}
theorem line_no (i : Nat) : ∀ a r, lineOf i ≠ .ref a :: r := fun a r z => by
  unfold lineOf at z
  split at z
  · cases z
  · split at z <;> cases z
theorem tl_ok (C : Nat → Addr) (i : Nat) : PySem.W.excTail (lineOf i) (tlOf C i) = true := by
  unfold tlOf
  split
  · exact tail_self _ (line_no i)
  · exact tail_self _ (line_no i)
theorem Ln.cls (h : Ln K C i) : ∃ cd, PySem.W.clsIn K (C i) = some cd ∧ cd.mro = .ref (C i) :: tlOf C i ∧ cd.hasDict = true ∧ PySem.W.typeIn K (.ref (C i)) = some (.type "type") := by
  obtain ⟨nm, qn, N, bs, sn, sub, ab, col, dd, k0, k1, k2, k3, k5, h⟩ := h
  refine ⟨_, (by unfold PySem.W.clsIn; rw [h]), rfl, rfl, ?_⟩
  show (K.lookup (C i)).map (·.cls) = _
  rw [h]
  rfl
theorem Ln.own (h : Ln K C i) (t : Value) {b : Bool} (e : (Value.ref (C i) :: tlOf C i).contains t = b) : PySem.W.subIn K (.ref (C i)) t = some b := by
  obtain ⟨cd, hc, hm, _⟩ := h.cls
  show PySem.W.mroIn K (C i) t = some b
  unfold PySem.W.mroIn
  rw [hc, Option.bind_some, hm, e]
  rfl
theorem Ln.two (h : Ln K C i) : PySem.W.excInitIn K (C i) (lineOf i) (newOf i) = true ∧ PySem.W.excOver K (C i) (lineOf i) = true := by
  have ht := tl_ok C i
  constructor
  · obtain ⟨nm, qn, N, bs, sn, sub, ab, col, dd, k0, k1, k2, k3, k5, h⟩ := h
    unfold PySem.W.excInitIn
    rw [h]
    simp [ht]
  · obtain ⟨cd, hc, hm, _⟩ := h.cls
    unfold PySem.W.excOver
    rw [hc, Option.any_some]
    simp only [hm]
    simp [ht]
theorem line_ref (i : Nat) (a : Addr) : (lineOf i).contains (.ref a) = false := by
  unfold lineOf
  split
  · rfl
  · split <;> rfl
theorem ref_ne {a b : Addr} (h : a ≠ b) : (Value.ref a == Value.ref b) = false := by
  rw [beq_eq_false_iff_ne]
  exact fun z => h (by cases z; rfl)
theorem con_ref (inj : ∀ i j, i < 38 → j < 38 → C i = C j → i = j) (hi : i < 38) (hj : j < 38) : (Value.ref (C i) :: tlOf C i).contains (.ref (C j)) = sub i j := by
  have key : ∀ a b, a < 38 → b < 38 → (Value.ref (C b) == Value.ref (C a)) = (a == b) := fun a b ha hb => by
    by_cases e : a = b
    · rw [e]
      simp
    · rw [ref_ne fun z => e (inj b a hb ha z).symm, beq_eq_false_iff_ne.mpr e]
  have hu : up i < 38 ∧ (¬ i < 35 → up i = i) := by
    have : ∀ i : Nat, i < 38 → up i < 38 ∧ (¬ i < 35 → up i = i) := by decide
    exact this i hi
  rw [List.contains_cons, key i j hi hj]
  unfold sub tlOf
  split
  · rw [List.contains_cons, key (up i) j hu.1 hj, line_ref, Bool.or_false]
  · rename_i h
    rw [line_ref, hu.2 h, Bool.or_false, Bool.or_self]
theorem con_ty (i : Nat) (hi : i < 38) (t : String) (ht : t ∈ tys) : (Value.ref (C i) :: tlOf C i).contains (.type t) = tyb i t := by
  have a1 : (Value.type t == Value.ref (C i)) = false := rfl
  have a2 : (Value.type t == Value.ref (C (up i))) = false := rfl
  have e1 : (Value.ref (C i) :: tlOf C i).contains (.type t) = (lineOf i).contains (.type t) := by
    rw [List.contains_cons, a1, Bool.false_or]
    unfold tlOf
    split
    · rw [List.contains_cons, a2, Bool.false_or]
    · rfl
  have key : ∀ i, i < 38 → ∀ t ∈ tys, (lineOf i).contains (.type t) = tyb i t := by decide +kernel
  exact e1.trans (key i hi t ht)
theorem ex_of (h : Ln K C i) (hi : i < 38) (sa : PySem.W.findIn K (.ref (C i)) "__setattr__" = some (some (.builtin "object.__setattr__"))) (ga : PySem.W.findIn K (.ref (C i)) "__getattribute__" = some (some (.builtin "BaseException.__getattribute__")))
    (gg : PySem.W.findIn K (.ref (C i)) "__getattr__" = some none) (kc : PySem.W.keepIn K (.ref (C i)) = true) (ha : PySem.W.findIn K (.ref (C i)) "__class__" = some (some (.builtin "object.__class__")))
    (hn : PySem.W.specialIn K (.builtin "object.__class__") "__get__" = some (some (.builtin "getset_descriptor.__get__"))) (ht : PySem.W.takesIn K (.builtin "object.__class__") = some true) : ExK K (C i) := by
  obtain ⟨cd, hc, hm, hd, hty⟩ := h.cls
  have hl : ∀ t, (lineOf i).contains (.type t) = true → (Value.ref (C i) :: tlOf C i).contains (.type t) = true := fun t e => by
    rw [List.contains_cons, Bool.or_eq_true]
    refine .inr ?_
    unfold tlOf
    split
    · rw [List.contains_cons, Bool.or_eq_true]
      exact .inr e
    · exact e
  have lb : (lineOf i).contains (.type "BaseException") = true := by
    unfold lineOf
    split
    · decide +kernel
    · split <;> decide +kernel
  have lo : (lineOf i).contains (.type "object") = true := by
    unfold lineOf
    split
    · decide +kernel
    · split <;> decide +kernel
  refine ⟨⟨_, _, base_of i, h.two⟩, sa, ga, gg, h.own _ (hl _ lb), hty, ?_, kc, ha, hn, ht, h.own _ (hl _ lo)⟩
  unfold PySem.W.hasDictIn
  rw [hc, Option.any_some]
  exact hd
theorem pk_of (Ls : ∀ i, i < 38 → Ln K C i) (inj : ∀ i j, i < 38 → j < 38 → C i = C j → i = j) (sa : ∀ i, i < 38 → PySem.W.findIn K (.ref (C i)) "__setattr__" = some (some (.builtin "object.__setattr__"))) (ga : ∀ i, i < 38 → PySem.W.findIn K (.ref (C i)) "__getattribute__" = some (some (.builtin "BaseException.__getattribute__")))
    (gg : ∀ i, i < 38 → PySem.W.findIn K (.ref (C i)) "__getattr__" = some none) (kc : ∀ i, i < 38 → PySem.W.keepIn K (.ref (C i)) = true) (ha : ∀ i, i < 38 → PySem.W.findIn K (.ref (C i)) "__class__" = some (some (.builtin "object.__class__")))
    (hn : PySem.W.specialIn K (.builtin "object.__class__") "__get__" = some (some (.builtin "getset_descriptor.__get__"))) (ht : PySem.W.takesIn K (.builtin "object.__class__") = some true) (gl : ∀ i, i < 38 → mg (nm i) = some (.ref (C i)))
    (fr : ∀ i, i < 35 → ∀ f ∈ fnm i, PySem.W.findIn K (.ref (C i)) f = some none) : Pk K mg C := by
  have ex : ∀ i, i < 38 → ExK K (C i) := fun i hi => ex_of (Ls i hi) hi (sa i hi) (ga i hi) (gg i hi) (kc i hi) (ha i hi) hn ht
  refine ⟨ex, gl, fun i j hi hj => ?_, fun i hi t ht => ?_, fr, fun i j hi hj => ?_⟩
  · have e := (Ls i hi).own _ (con_ref inj hi hj)
    obtain ⟨cd, hc, _, _, hty⟩ := (Ls j hj).cls
    unfold PySem.W.kitOne
    by_cases z : C i = C j
    · have ej := inj i j hi hj z
      rw [ej]
      simp [sub]
    · rw [if_neg (by rw [ref_ne z]; decide)]
      show (if ((PySem.W.clsIn K (C j)).isSome && PySem.W.typeIn K (.ref (C j)) == some (.type "type")) = true then PySem.W.subIn K (.ref (C i)) (.ref (C j)) else none) = _
      rw [hc, hty, if_pos (show ((some cd).isSome && some (Value.type "type") == some (Value.type "type")) = true from by simp)]
      exact e
  · have e := (Ls i hi).own _ (con_ty i hi t ht)
    have km : ∀ t ∈ tys, PySem.W.kitMeta t = true := by decide +kernel
    unfold PySem.W.kitOne
    rw [if_neg (show ¬ (Value.ref (C i) == Value.type t) = true from fun z => by cases z)]
    show (if PySem.W.kitMeta t = true then PySem.W.subIn K (.ref (C i)) (.type t) else none) = _
    rw [if_pos (km t ht)]
    exact e
  · exact PySem.W.exm_ref (ex j hj).exC (ex j hj).hdC (ex j hj).tyC ((Ls i hi).own _ (con_ref inj hi hj))
theorem pn_of (h : Ln K C 2) (p1 : PySem.W.subIn K (.type "int") (.ref (C 2)) = some false) (p2 : PySem.W.subIn K (.type "str") (.ref (C 2)) = some false) (p3 : PySem.W.subIn K (.type "NoneType") (.ref (C 2)) = some false) (p4 : PySem.W.subIn K (.type "bool") (.ref (C 2)) = some false)
    (p5 : PySem.W.subIn K (.type "list") (.ref (C 2)) = some false) (p6 : PySem.W.subIn K (.type "tuple") (.ref (C 2)) = some false) (p7 : PySem.W.subIn K (.type "dict") (.ref (C 2)) = some false) : Pn K C := by
  obtain ⟨cd, hc, _, _, hty⟩ := h.cls
  have key : ∀ t, PySem.W.subIn K (.type t) (.ref (C 2)) = some false → PySem.W.kitOne K (.type t) (.ref (C 2)) = some false := fun t e => by
    unfold PySem.W.kitOne
    rw [if_neg (show ¬ (Value.type t == Value.ref (C 2)) = true from fun z => by cases z)]
    show (if ((PySem.W.clsIn K (C 2)).isSome && PySem.W.typeIn K (.ref (C 2)) == some (.type "type")) = true then PySem.W.subIn K (.type t) (.ref (C 2)) else none) = _
    rw [hc, hty, if_pos (show ((some cd).isSome && some (Value.type "type") == some (Value.type "type")) = true from by simp)]
    exact e
  refine ⟨fun t ht => ?_⟩
  simp only [List.mem_cons, List.not_mem_nil, or_false] at ht
  rcases ht with rfl | rfl | rfl | rfl | rfl | rfl | rfl
  · exact key _ p1
  · exact key _ p2
  · exact key _ p3
  · exact key _ p4
  · exact key _ p5
  · exact key _ p6
  · exact key _ p7
end
theorem vals_rev : ∀ {vs : List V} {us : List Value}, Vals vs us → Vals vs.reverse us.reverse
  | _, _, .nil => .nil
  | _, _, .cons r rs => by
    rw [List.reverse_cons, List.reverse_cons]
    exact (vals_rev rs).append (.cons r .nil)
end T01
set_option Elab.async false
set_option linter.all false
set_option maxRecDepth 100000
set_option maxHeartbeats 8000000
namespace T01
open PySem PySem.Spec PyProof.Rows L2 Tp
def dfn (x : Str) (st : Stmt) : He.DefD := ⟨(x, none), x, x, defArgs st, defBody st, defScope st, [], []⟩
def din (c q : Str) (st : Stmt) : He.DefD := ⟨(c, some "__init__"), "__init__", q, defArgs st, defBody st, defScope st, [], []⟩
def fnL : List He.DefD := [dfn "_law_cell" sCell, dfn "_law_box" sBox, dfn "_law_take" sTake, dfn "_law_made" sMade, dfn "_law_named" sNamed, dfn "_law_kinds" sKinds, dfn "_law_bases" sBases, dfn "_law_base_due" sDue, dfn "_law_fields" sFields, dfn "_law_caught" sCaught, dfn "_law_raised" sRaised, dfn "_law_thing" sThing, dfn "_law_inner" sInner, dfn "_law_right" sRight, dfn "_law_alike" sAlike, dfn "_law_two_right" sTwo, dfn "law" sLaw,
  din "InvalidInteger" "InvalidInteger.__init__" sI0, din "InvalidPart" "InvalidPart.__init__" sI1, din "InvalidName" "InvalidName.__init__" sI2, din "Duplicate" "Duplicate.__init__" sI3, din "InvalidRow" "InvalidRow.__init__" sI4, din "InvalidEdge" "InvalidEdge.__init__" sI5, din "InvalidNet" "InvalidNet.__init__" sI6, din "Ring" "Ring.__init__" sI7, din "Dry" "Dry.__init__" sI8, din "Idle" "Idle.__init__" sI9, din "InvalidBook" "InvalidBook.__init__" sI10, din "InvalidTurn" "InvalidTurn.__init__" sI11, din "InvalidMeaning" "InvalidMeaning.__init__" sI12, din "InvalidValues" "InvalidValues.__init__" sI13, din "InvalidString" "InvalidString.__init__" sI14, din "InvalidLine" "InvalidLine.__init__" sI15, din "DuplicateTerm" "DuplicateTerm.__init__" sI16, din "Mismatch" "Mismatch.__init__" sI17, din "InvalidLags" "InvalidLags.__init__" sI18, din "InvalidStep" "InvalidStep.__init__" sI19, din "InvalidWish" "InvalidWish.__init__" sI20, din "InvalidCommand" "InvalidCommand.__init__" sI21, din "UnknownSource" "UnknownSource.__init__" sI22, din "UnknownGate" "UnknownGate.__init__" sI23, din "UnknownEdge" "UnknownEdge.__init__" sI24, din "UnknownSymbol" "UnknownSymbol.__init__" sI25, din "UnknownSample" "UnknownSample.__init__" sI26, din "UnknownTerm" "UnknownTerm.__init__" sI27, din "NoTurn" "NoTurn.__init__" sI28, din "TooLong" "TooLong.__init__" sI29, din "TooShort" "TooShort.__init__" sI30, din "TooDeep" "TooDeep.__init__" sI31, din "TooMany" "TooMany.__init__" sI32, din "EmptyLoop" "EmptyLoop.__init__" sI33, din "NothingToUndo" "NothingToUndo.__init__" sI34]
def faA : List He.Fa := [.glo "_law_cell", .glo "_law_box", .glo "_law_take", .glo "_law_made", .glo "_law_named", .glo "_law_kinds", .glo "_law_bases", .glo "_law_base_due", .glo "_law_fields", .glo "_law_caught", .glo "_law_raised", .glo "_law_thing", .glo "_law_inner", .glo "_law_right", .glo "_law_alike", .glo "_law_two_right", .glo "law"]
def faB : List He.Fa := [.glo "InvalidInteger", .glo "InvalidPart", .glo "InvalidName", .glo "Duplicate", .glo "InvalidRow", .glo "InvalidEdge", .glo "InvalidNet", .glo "Ring", .glo "Dry", .glo "Idle", .glo "InvalidBook", .glo "InvalidTurn", .glo "InvalidMeaning", .glo "InvalidValues", .glo "InvalidString", .glo "InvalidLine", .glo "DuplicateTerm", .glo "Mismatch", .glo "InvalidLags", .glo "InvalidStep", .glo "InvalidWish", .glo "InvalidCommand", .glo "UnknownSource", .glo "UnknownGate", .glo "UnknownEdge", .glo "UnknownSymbol", .glo "UnknownSample", .glo "UnknownTerm", .glo "NoTurn", .glo "TooLong", .glo "TooShort", .glo "TooDeep", .glo "TooMany", .glo "EmptyLoop", .glo "NothingToUndo", .glo "NetError", .glo "MissingError", .glo "StateError"]
def faC : List He.Fa := [.free "isinstance", .free "ValueError", .free "KeyError", .free "LookupError", .free "str", .free "dict", .free "list", .free "tuple", .free "repr", .free "len", .free "range", .free "enumerate", .free "int", .free "max", .free "min"]
def faL : List He.Fa := faA ++ (faB ++ faC)
def ck (K : PySem.W.Frag) (i : Nat) : Addr := He.ga K (nm i)
def classB (K : PySem.W.Frag) (C : Addr) (tl : List Value) (newId : String) : Bool := match K.lookup C with
  | some ⟨.type t, _, .cls cd, sl⟩ => decide (t = "type") && (cd.hasDict && (!cd.hasDel && (decide (cd.mro = .ref C :: tl) && (match sl.toList with
    | [_, _, _, _, some (.builtin n), _] => decide (n = newId)
    | _ => false))))
  | _ => false
def oneB (K : PySem.W.Frag) (i : Nat) : Bool := classB K (ck K i) (tlOf (ck K) i) (newOf i) &&
  (He.eqO (PySem.W.findIn K (.ref (ck K i)) "__setattr__") (some (some (.builtin "object.__setattr__"))) &&
  (He.eqO (PySem.W.findIn K (.ref (ck K i)) "__getattribute__") (some (some (.builtin "BaseException.__getattribute__"))) &&
  (He.eqO (PySem.W.findIn K (.ref (ck K i)) "__getattr__") (some none) &&
  (PySem.W.keepIn K (.ref (ck K i)) &&
  (He.eqO (PySem.W.findIn K (.ref (ck K i)) "__class__") (some (some (.builtin "object.__class__"))) && (fnm i).all fun f => He.eqO (PySem.W.findIn K (.ref (ck K i)) f) (some none))))))
def iniB (K : PySem.W.Frag) (i : Nat) : Bool := He.eqO (PySem.W.findIn K (.ref (ck K i)) "__init__") (some (some (.ref (He.fAd K (nm i, some "__init__"))))) && decide (PySem.W.typeIn K (.ref (He.fAd K (nm i, some "__init__"))) = some (.type "function"))
def tyN : List String := ["int", "str", "NoneType", "bool", "list", "tuple", "dict"]
def exB (K : PySem.W.Frag) : Bool := (List.range 38).all (oneB K) && ((List.range 35).all (iniB K) && (decide (((List.range 38).map (ck K)).Nodup) &&
  (He.eqO (PySem.W.specialIn K (.builtin "object.__class__") "__get__") (some (some (.builtin "getset_descriptor.__get__"))) && (decide (PySem.W.takesIn K (.builtin "object.__class__") = some true) &&
  (tyN.all (fun t => decide (PySem.W.subIn K (.type t) (.ref (ck K 2)) = some false)) &&
  (He.eqO (PySem.W.findIn K (.ref (ck K 35)) "__init__") (some (some (.builtin "ValueError.__init__"))) && (He.eqO (PySem.W.findIn K (.ref (ck K 36)) "__init__") (some (some (.builtin "KeyError.__init__"))) && He.eqO (PySem.W.findIn K (.ref (ck K 37)) "__init__") (some (some (.builtin "LookupError.__init__"))))))))))
theorem classB_ok {K : PySem.W.Frag} {C : Nat → Addr} {i : Nat} (h : classB K (C i) (tlOf C i) (newOf i) = true) : Ln K C i := by
  unfold classB at h
  split at h
  · rename_i t dd cd sl ho
    simp only [Bool.and_eq_true, decide_eq_true_eq, Bool.not_eq_true'] at h
    obtain ⟨rfl, h1, h2, h3, h4⟩ := h
    split at h4
    · rename_i k0 k1 k2 k3 n k5 hs
      have en := of_decide_eq_true h4
      obtain ⟨nm, bs, mro, ns, qn, hd, sn, sub, ab, col, del⟩ := cd
      dsimp only at h1 h2 h3
      subst h1 h2 h3
      have hsl : sl = #[k0, k1, k2, k3, some (.builtin n), k5] := by
        obtain ⟨l⟩ := sl
        simp only at hs
        rw [hs]
      subst hsl
      exact ⟨nm, qn, ns, bs, sn, sub, ab, col, dd, k0, k1, k2, k3, k5, by rw [ho, en]⟩
    · cases h4
  · cases h
theorem fun_of {K : PySem.W.Frag} {x qual : Str} {st : Stmt} {f : Addr} {fd : FuncData} (F : FunD K x qual (defArgs st) (defBody st) (defScope st) [] [] f fd) : Fun K x qual st f fd := by
  obtain ⟨oc, od, dV, kV, doc, pm, an, cdv, ct, osl, e, lk, hcd, hD, _⟩ := F.ex
  rcases hD with ⟨_, e2⟩ | ⟨z, _⟩
  · subst e2
    exact ⟨⟨oc, od, kV, doc, pm, an, cdv, ct, osl, e, lk, hcd⟩, F.kp⟩
  · exact absurd rfl z
theorem kb_of {K : PySem.W.Frag} {q : Str} {st : Stmt} {f : Addr} {fd : FuncData} {ps ks : List Str} {n : Nat} {g : List Value → List Value → List Value} {gV : List V → List V → List V} (G : Fun K "__init__" q st f fd)
    (h : ∀ (kV doc pm : Value) (an : Option Addr) (cdv ct : Value) (us ws : List Value), us.length = n → ws.length = ks.length → bindArgs (PySem.W.fnOf "__init__" q (defArgs st) (defBody st) (defScope st) .none kV doc pm an cdv ct) ⟨us, ks.zip ws⟩ = pure (ps.zip (g us ws)))
    (rel : ∀ {vs : List V} {us : List Value} {zs : List V} {ws : List Value}, Vals vs us → Vals zs ws → Vals (gV vs zs) (g us ws)) : KBn K fd ps n ks g gV := by
  obtain ⟨oc, od, kV, doc, pm, an, cdv, ct, osl, rfl, lk, hcd⟩ := G.ex
  exact ⟨fun s us ws _ l1 l2 => .of_eq (h kV doc pm an cdv ct us ws l1 l2), rel⟩
/-- the goal that such a head leaves -/
theorem walkGE {l : PySem.W.OpenLaw} {n k : Nat} {q : Program} {loose : List Str} {XP : (Str → Option Value) → Heap → Prop} {YP : World → Heap → Prop} {d : DefRec} {x : Str}
    (hn : l.most = some n) (hn2 : n ≤ sizeLine) (hdf : d.params.defaults = []) (hr : Room k callerA)
    (F : ∀ (w : World) (mg : Str → Option Value) (fa : Addr) (h : Heap), YP w h → h.Ns mainGlobals mg → mg d.name = some (.ref fa) →
      ∃ (K : PySem.W.Frag) (fd : FuncData) (sp : Sp), K.In h ∧ (∀ (s : Shared) (u : Value), BindsTo s fd ⟨[u], []⟩ [(x, u)]) ∧ (∀ base : Heap, K.In base → base.Ns mainGlobals mg → FnG l.prog w K mg base CX0 k fa fd [x] sp) ∧
        ∀ (H : Hp) (a : Addr) (ns : List Int), ns.length ≤ n → Only H → SqL K H a (ns.map V.int) → sp [.ref a] H (fun v _ => v = .bl true) E0) :
    PySem.W.WalkO q loose XP YP l.row.toRowW d [] (fun f vs => PySem.call f vs) := by
  refine Att.attach_call hn hdf fun w s0 s1 mg mb fa o pm cd doc a vs ns G Y ho hd hcd hmg hobj hints hlen hg => ?_
  obtain ⟨K, fd, sp, KX, hb, hF, hsp⟩ := F w mg fa _ Y G.T.g hmg
  exact law_callG KX G.T.g G.T.b G.T.builtins G.T.nolimit hg hobj hints (Nat.le_trans hlen hn2) hr hF hb fun H hO hS => hsp H a ns hlen hO hS
theorem all2 {l : PySem.W.OpenLaw} {w : World} {K : PySem.W.Frag} {h : Heap} {mg : Str → Option Value} {fa : Addr} (X : K.In h) (G : h.Ns mainGlobals mg) (hfa : mg "law" = some (.ref fa)) (cd : He.SaysD faL fnL K) (ex : exB K = true) :
    ∃ fd : FuncData, (∀ (s : Shared) (v : Value), BindsTo s fd ⟨[v], []⟩ [("_law_script", v)]) ∧ ∀ base : Heap, K.In base → base.Ns mainGlobals mg → FnG l.prog w K mg base CX0 7 fa fd ["_law_script"] (spLaw K) := by
  obtain ⟨fd_cell, D_cell⟩ := cd.def_ 0 (d := dfn "_law_cell" sCell) rfl
  have F_cell : Fun K "_law_cell" "_law_cell" sCell (He.ga K "_law_cell") fd_cell := fun_of D_cell
  have b_cell := F_cell.binds (ps := ["_law_script", "_law_k"]) fun _ _ _ _ _ _ us hl => match us, hl with | [_, _], _ => rfl
  obtain ⟨fd_box, D_box⟩ := cd.def_ 1 (d := dfn "_law_box" sBox) rfl
  have F_box : Fun K "_law_box" "_law_box" sBox (He.ga K "_law_box") fd_box := fun_of D_box
  have b_box := F_box.binds (ps := ["_law_cell_here"]) fun _ _ _ _ _ _ us hl => match us, hl with | [_], _ => rfl
  obtain ⟨fd_take, D_take⟩ := cd.def_ 2 (d := dfn "_law_take" sTake) rfl
  have F_take : Fun K "_law_take" "_law_take" sTake (He.ga K "_law_take") fd_take := fun_of D_take
  have b_take := F_take.binds (ps := ["_law_box_here", "_law_many"]) fun _ _ _ _ _ _ us hl => match us, hl with | [_, _], _ => rfl
  obtain ⟨fd_made, D_made⟩ := cd.def_ 3 (d := dfn "_law_made" sMade) rfl
  have F_made : Fun K "_law_made" "_law_made" sMade (He.ga K "_law_made") fd_made := fun_of D_made
  have b_made := F_made.binds (ps := ["_law_thing_here"]) fun _ _ _ _ _ _ us hl => match us, hl with | [_], _ => rfl
  obtain ⟨fd_named, D_named⟩ := cd.def_ 4 (d := dfn "_law_named" sNamed) rfl
  have F_named : Fun K "_law_named" "_law_named" sNamed (He.ga K "_law_named") fd_named := fun_of D_named
  have b_named := F_named.binds (ps := ["_law_thing_here"]) fun _ _ _ _ _ _ us hl => match us, hl with | [_], _ => rfl
  obtain ⟨fd_kinds, D_kinds⟩ := cd.def_ 5 (d := dfn "_law_kinds" sKinds) rfl
  have F_kinds : Fun K "_law_kinds" "_law_kinds" sKinds (He.ga K "_law_kinds") fd_kinds := fun_of D_kinds
  have b_kinds := F_kinds.binds (ps := ["_law_e"]) fun _ _ _ _ _ _ us hl => match us, hl with | [_], _ => rfl
  obtain ⟨fd_bases, D_bases⟩ := cd.def_ 6 (d := dfn "_law_bases" sBases) rfl
  have F_bases : Fun K "_law_bases" "_law_bases" sBases (He.ga K "_law_bases") fd_bases := fun_of D_bases
  have b_bases := F_bases.binds (ps := ["_law_e"]) fun _ _ _ _ _ _ us hl => match us, hl with | [_], _ => rfl
  obtain ⟨fd_due, D_due⟩ := cd.def_ 7 (d := dfn "_law_base_due" sDue) rfl
  have F_due : Fun K "_law_base_due" "_law_base_due" sDue (He.ga K "_law_base_due") fd_due := fun_of D_due
  have b_due := F_due.binds (ps := ["_law_at"]) fun _ _ _ _ _ _ us hl => match us, hl with | [_], _ => rfl
  obtain ⟨fd_fields, D_fields⟩ := cd.def_ 8 (d := dfn "_law_fields" sFields) rfl
  have F_fields : Fun K "_law_fields" "_law_fields" sFields (He.ga K "_law_fields") fd_fields := fun_of D_fields
  have b_fields := F_fields.binds (ps := ["_law_e"]) fun _ _ _ _ _ _ us hl => match us, hl with | [_], _ => rfl
  obtain ⟨fd_caught, D_caught⟩ := cd.def_ 9 (d := dfn "_law_caught" sCaught) rfl
  have F_caught : Fun K "_law_caught" "_law_caught" sCaught (He.ga K "_law_caught") fd_caught := fun_of D_caught
  have b_caught := F_caught.binds (ps := ["_law_e"]) fun _ _ _ _ _ _ us hl => match us, hl with | [_], _ => rfl
  obtain ⟨fd_raised, D_raised⟩ := cd.def_ 10 (d := dfn "_law_raised" sRaised) rfl
  have F_raised : Fun K "_law_raised" "_law_raised" sRaised (He.ga K "_law_raised") fd_raised := fun_of D_raised
  have b_raised := F_raised.binds (ps := ["_law_e"]) fun _ _ _ _ _ _ us hl => match us, hl with | [_], _ => rfl
  obtain ⟨fd_thing, D_thing⟩ := cd.def_ 11 (d := dfn "_law_thing" sThing) rfl
  have F_thing : Fun K "_law_thing" "_law_thing" sThing (He.ga K "_law_thing") fd_thing := fun_of D_thing
  have b_thing := F_thing.binds (ps := ["_law_box_here"]) fun _ _ _ _ _ _ us hl => match us, hl with | [_], _ => rfl
  obtain ⟨fd_inner, D_inner⟩ := cd.def_ 12 (d := dfn "_law_inner" sInner) rfl
  have F_inner : Fun K "_law_inner" "_law_inner" sInner (He.ga K "_law_inner") fd_inner := fun_of D_inner
  have b_inner := F_inner.binds (ps := ["_law_thing_here"]) fun _ _ _ _ _ _ us hl => match us, hl with | [_], _ => rfl
  obtain ⟨fd_right, D_right⟩ := cd.def_ 13 (d := dfn "_law_right" sRight) rfl
  have F_right : Fun K "_law_right" "_law_right" sRight (He.ga K "_law_right") fd_right := fun_of D_right
  have b_right := F_right.binds (ps := ["_law_thing_here"]) fun _ _ _ _ _ _ us hl => match us, hl with | [_], _ => rfl
  obtain ⟨fd_alike, D_alike⟩ := cd.def_ 14 (d := dfn "_law_alike" sAlike) rfl
  have F_alike : Fun K "_law_alike" "_law_alike" sAlike (He.ga K "_law_alike") fd_alike := fun_of D_alike
  have b_alike := F_alike.binds (ps := ["_law_one", "_law_thing_here"]) fun _ _ _ _ _ _ us hl => match us, hl with | [_, _], _ => rfl
  obtain ⟨fd_two, D_two⟩ := cd.def_ 15 (d := dfn "_law_two_right" sTwo) rfl
  have F_two : Fun K "_law_two_right" "_law_two_right" sTwo (He.ga K "_law_two_right") fd_two := fun_of D_two
  have b_two := F_two.binds (ps := ["_law_thing_here"]) fun _ _ _ _ _ _ us hl => match us, hl with | [_], _ => rfl
  obtain ⟨fd_law, D_law⟩ := cd.def_ 16 (d := dfn "law" sLaw) rfl
  have F_law : Fun K "law" "law" sLaw (He.ga K "law") fd_law := fun_of D_law
  have b_law := F_law.binds (ps := ["_law_script"]) fun _ _ _ _ _ _ us hl => match us, hl with | [_], _ => rfl
  have e := hfa.symm.trans (He.glo_ok X G (cd.fact 16 (f := .glo "law") rfl))
  cases e
  obtain ⟨fi0, Di0⟩ := cd.def_ 17 (d := din "InvalidInteger" "InvalidInteger.__init__" sI0) rfl
  have G0 : Fun K "__init__" "InvalidInteger.__init__" sI0 (He.fAd K (nm 0, some "__init__")) fi0 := fun_of Di0
  obtain ⟨fi1, Di1⟩ := cd.def_ 18 (d := din "InvalidPart" "InvalidPart.__init__" sI1) rfl
  have G1 : Fun K "__init__" "InvalidPart.__init__" sI1 (He.fAd K (nm 1, some "__init__")) fi1 := fun_of Di1
  obtain ⟨fi2, Di2⟩ := cd.def_ 19 (d := din "InvalidName" "InvalidName.__init__" sI2) rfl
  have G2 : Fun K "__init__" "InvalidName.__init__" sI2 (He.fAd K (nm 2, some "__init__")) fi2 := fun_of Di2
  obtain ⟨fi3, Di3⟩ := cd.def_ 20 (d := din "Duplicate" "Duplicate.__init__" sI3) rfl
  have G3 : Fun K "__init__" "Duplicate.__init__" sI3 (He.fAd K (nm 3, some "__init__")) fi3 := fun_of Di3
  obtain ⟨fi4, Di4⟩ := cd.def_ 21 (d := din "InvalidRow" "InvalidRow.__init__" sI4) rfl
  have G4 : Fun K "__init__" "InvalidRow.__init__" sI4 (He.fAd K (nm 4, some "__init__")) fi4 := fun_of Di4
  obtain ⟨fi5, Di5⟩ := cd.def_ 22 (d := din "InvalidEdge" "InvalidEdge.__init__" sI5) rfl
  have G5 : Fun K "__init__" "InvalidEdge.__init__" sI5 (He.fAd K (nm 5, some "__init__")) fi5 := fun_of Di5
  obtain ⟨fi6, Di6⟩ := cd.def_ 23 (d := din "InvalidNet" "InvalidNet.__init__" sI6) rfl
  have G6 : Fun K "__init__" "InvalidNet.__init__" sI6 (He.fAd K (nm 6, some "__init__")) fi6 := fun_of Di6
  obtain ⟨fi7, Di7⟩ := cd.def_ 24 (d := din "Ring" "Ring.__init__" sI7) rfl
  have G7 : Fun K "__init__" "Ring.__init__" sI7 (He.fAd K (nm 7, some "__init__")) fi7 := fun_of Di7
  obtain ⟨fi8, Di8⟩ := cd.def_ 25 (d := din "Dry" "Dry.__init__" sI8) rfl
  have G8 : Fun K "__init__" "Dry.__init__" sI8 (He.fAd K (nm 8, some "__init__")) fi8 := fun_of Di8
  obtain ⟨fi9, Di9⟩ := cd.def_ 26 (d := din "Idle" "Idle.__init__" sI9) rfl
  have G9 : Fun K "__init__" "Idle.__init__" sI9 (He.fAd K (nm 9, some "__init__")) fi9 := fun_of Di9
  obtain ⟨fi10, Di10⟩ := cd.def_ 27 (d := din "InvalidBook" "InvalidBook.__init__" sI10) rfl
  have G10 : Fun K "__init__" "InvalidBook.__init__" sI10 (He.fAd K (nm 10, some "__init__")) fi10 := fun_of Di10
  obtain ⟨fi11, Di11⟩ := cd.def_ 28 (d := din "InvalidTurn" "InvalidTurn.__init__" sI11) rfl
  have G11 : Fun K "__init__" "InvalidTurn.__init__" sI11 (He.fAd K (nm 11, some "__init__")) fi11 := fun_of Di11
  obtain ⟨fi12, Di12⟩ := cd.def_ 29 (d := din "InvalidMeaning" "InvalidMeaning.__init__" sI12) rfl
  have G12 : Fun K "__init__" "InvalidMeaning.__init__" sI12 (He.fAd K (nm 12, some "__init__")) fi12 := fun_of Di12
  obtain ⟨fi13, Di13⟩ := cd.def_ 30 (d := din "InvalidValues" "InvalidValues.__init__" sI13) rfl
  have G13 : Fun K "__init__" "InvalidValues.__init__" sI13 (He.fAd K (nm 13, some "__init__")) fi13 := fun_of Di13
  obtain ⟨fi14, Di14⟩ := cd.def_ 31 (d := din "InvalidString" "InvalidString.__init__" sI14) rfl
  have G14 : Fun K "__init__" "InvalidString.__init__" sI14 (He.fAd K (nm 14, some "__init__")) fi14 := fun_of Di14
  obtain ⟨fi15, Di15⟩ := cd.def_ 32 (d := din "InvalidLine" "InvalidLine.__init__" sI15) rfl
  have G15 : Fun K "__init__" "InvalidLine.__init__" sI15 (He.fAd K (nm 15, some "__init__")) fi15 := fun_of Di15
  obtain ⟨fi16, Di16⟩ := cd.def_ 33 (d := din "DuplicateTerm" "DuplicateTerm.__init__" sI16) rfl
  have G16 : Fun K "__init__" "DuplicateTerm.__init__" sI16 (He.fAd K (nm 16, some "__init__")) fi16 := fun_of Di16
  obtain ⟨fi17, Di17⟩ := cd.def_ 34 (d := din "Mismatch" "Mismatch.__init__" sI17) rfl
  have G17 : Fun K "__init__" "Mismatch.__init__" sI17 (He.fAd K (nm 17, some "__init__")) fi17 := fun_of Di17
  obtain ⟨fi18, Di18⟩ := cd.def_ 35 (d := din "InvalidLags" "InvalidLags.__init__" sI18) rfl
  have G18 : Fun K "__init__" "InvalidLags.__init__" sI18 (He.fAd K (nm 18, some "__init__")) fi18 := fun_of Di18
  obtain ⟨fi19, Di19⟩ := cd.def_ 36 (d := din "InvalidStep" "InvalidStep.__init__" sI19) rfl
  have G19 : Fun K "__init__" "InvalidStep.__init__" sI19 (He.fAd K (nm 19, some "__init__")) fi19 := fun_of Di19
  obtain ⟨fi20, Di20⟩ := cd.def_ 37 (d := din "InvalidWish" "InvalidWish.__init__" sI20) rfl
  have G20 : Fun K "__init__" "InvalidWish.__init__" sI20 (He.fAd K (nm 20, some "__init__")) fi20 := fun_of Di20
  obtain ⟨fi21, Di21⟩ := cd.def_ 38 (d := din "InvalidCommand" "InvalidCommand.__init__" sI21) rfl
  have G21 : Fun K "__init__" "InvalidCommand.__init__" sI21 (He.fAd K (nm 21, some "__init__")) fi21 := fun_of Di21
  obtain ⟨fi22, Di22⟩ := cd.def_ 39 (d := din "UnknownSource" "UnknownSource.__init__" sI22) rfl
  have G22 : Fun K "__init__" "UnknownSource.__init__" sI22 (He.fAd K (nm 22, some "__init__")) fi22 := fun_of Di22
  obtain ⟨fi23, Di23⟩ := cd.def_ 40 (d := din "UnknownGate" "UnknownGate.__init__" sI23) rfl
  have G23 : Fun K "__init__" "UnknownGate.__init__" sI23 (He.fAd K (nm 23, some "__init__")) fi23 := fun_of Di23
  obtain ⟨fi24, Di24⟩ := cd.def_ 41 (d := din "UnknownEdge" "UnknownEdge.__init__" sI24) rfl
  have G24 : Fun K "__init__" "UnknownEdge.__init__" sI24 (He.fAd K (nm 24, some "__init__")) fi24 := fun_of Di24
  obtain ⟨fi25, Di25⟩ := cd.def_ 42 (d := din "UnknownSymbol" "UnknownSymbol.__init__" sI25) rfl
  have G25 : Fun K "__init__" "UnknownSymbol.__init__" sI25 (He.fAd K (nm 25, some "__init__")) fi25 := fun_of Di25
  obtain ⟨fi26, Di26⟩ := cd.def_ 43 (d := din "UnknownSample" "UnknownSample.__init__" sI26) rfl
  have G26 : Fun K "__init__" "UnknownSample.__init__" sI26 (He.fAd K (nm 26, some "__init__")) fi26 := fun_of Di26
  obtain ⟨fi27, Di27⟩ := cd.def_ 44 (d := din "UnknownTerm" "UnknownTerm.__init__" sI27) rfl
  have G27 : Fun K "__init__" "UnknownTerm.__init__" sI27 (He.fAd K (nm 27, some "__init__")) fi27 := fun_of Di27
  obtain ⟨fi28, Di28⟩ := cd.def_ 45 (d := din "NoTurn" "NoTurn.__init__" sI28) rfl
  have G28 : Fun K "__init__" "NoTurn.__init__" sI28 (He.fAd K (nm 28, some "__init__")) fi28 := fun_of Di28
  obtain ⟨fi29, Di29⟩ := cd.def_ 46 (d := din "TooLong" "TooLong.__init__" sI29) rfl
  have G29 : Fun K "__init__" "TooLong.__init__" sI29 (He.fAd K (nm 29, some "__init__")) fi29 := fun_of Di29
  obtain ⟨fi30, Di30⟩ := cd.def_ 47 (d := din "TooShort" "TooShort.__init__" sI30) rfl
  have G30 : Fun K "__init__" "TooShort.__init__" sI30 (He.fAd K (nm 30, some "__init__")) fi30 := fun_of Di30
  obtain ⟨fi31, Di31⟩ := cd.def_ 48 (d := din "TooDeep" "TooDeep.__init__" sI31) rfl
  have G31 : Fun K "__init__" "TooDeep.__init__" sI31 (He.fAd K (nm 31, some "__init__")) fi31 := fun_of Di31
  obtain ⟨fi32, Di32⟩ := cd.def_ 49 (d := din "TooMany" "TooMany.__init__" sI32) rfl
  have G32 : Fun K "__init__" "TooMany.__init__" sI32 (He.fAd K (nm 32, some "__init__")) fi32 := fun_of Di32
  obtain ⟨fi33, Di33⟩ := cd.def_ 50 (d := din "EmptyLoop" "EmptyLoop.__init__" sI33) rfl
  have G33 : Fun K "__init__" "EmptyLoop.__init__" sI33 (He.fAd K (nm 33, some "__init__")) fi33 := fun_of Di33
  obtain ⟨fi34, Di34⟩ := cd.def_ 51 (d := din "NothingToUndo" "NothingToUndo.__init__" sI34) rfl
  have G34 : Fun K "__init__" "NothingToUndo.__init__" sI34 (He.fAd K (nm 34, some "__init__")) fi34 := fun_of Di34
  unfold exB at ex
  simp only [Bool.and_eq_true, decide_eq_true_eq, List.all_eq_true] at ex
  obtain ⟨x1, x2, x3, x4, x5, x6, x7, x8, x9⟩ := ex
  have one : ∀ i, i < 38 → oneB K i = true := fun i hi => x1 i (List.mem_range.mpr hi)
  have ini : ∀ i, i < 35 → iniB K i = true := fun i hi => x2 i (List.mem_range.mpr hi)
  simp only [oneB, iniB, Bool.and_eq_true, decide_eq_true_eq, List.all_eq_true] at one ini
  have Ls : ∀ i, i < 38 → Ln K (ck K) i := fun i hi => classB_ok (one i hi).1
  have inj : ∀ i j, i < 38 → j < 38 → ck K i = ck K j → i = j := fun i j hi hj e => by
    have z := c_inj (cs := (List.range 38).map (ck K)) x3 (by rw [List.length_map, List.length_range])
    have at_ : ∀ i, i < 38 → cOf ((List.range 38).map (ck K)) i = ck K i := fun i hi => by
      unfold cOf
      rw [List.getD_eq_getElem?_getD, List.getElem?_map, List.getElem?_range hi]
      rfl
    exact z i j hi hj (by rw [at_ i hi, at_ j hj]; exact e)
  have gls : ∀ i, i < 38 → mg (nm i) = some (.ref (ck K i)) := fun i hi => match i, hi with
      | 0, _ => He.glo_ok X G (cd.fact 17 (f := .glo "InvalidInteger") rfl)
      | 1, _ => He.glo_ok X G (cd.fact 18 (f := .glo "InvalidPart") rfl)
      | 2, _ => He.glo_ok X G (cd.fact 19 (f := .glo "InvalidName") rfl)
      | 3, _ => He.glo_ok X G (cd.fact 20 (f := .glo "Duplicate") rfl)
      | 4, _ => He.glo_ok X G (cd.fact 21 (f := .glo "InvalidRow") rfl)
      | 5, _ => He.glo_ok X G (cd.fact 22 (f := .glo "InvalidEdge") rfl)
      | 6, _ => He.glo_ok X G (cd.fact 23 (f := .glo "InvalidNet") rfl)
      | 7, _ => He.glo_ok X G (cd.fact 24 (f := .glo "Ring") rfl)
      | 8, _ => He.glo_ok X G (cd.fact 25 (f := .glo "Dry") rfl)
      | 9, _ => He.glo_ok X G (cd.fact 26 (f := .glo "Idle") rfl)
      | 10, _ => He.glo_ok X G (cd.fact 27 (f := .glo "InvalidBook") rfl)
      | 11, _ => He.glo_ok X G (cd.fact 28 (f := .glo "InvalidTurn") rfl)
      | 12, _ => He.glo_ok X G (cd.fact 29 (f := .glo "InvalidMeaning") rfl)
      | 13, _ => He.glo_ok X G (cd.fact 30 (f := .glo "InvalidValues") rfl)
      | 14, _ => He.glo_ok X G (cd.fact 31 (f := .glo "InvalidString") rfl)
      | 15, _ => He.glo_ok X G (cd.fact 32 (f := .glo "InvalidLine") rfl)
      | 16, _ => He.glo_ok X G (cd.fact 33 (f := .glo "DuplicateTerm") rfl)
      | 17, _ => He.glo_ok X G (cd.fact 34 (f := .glo "Mismatch") rfl)
      | 18, _ => He.glo_ok X G (cd.fact 35 (f := .glo "InvalidLags") rfl)
      | 19, _ => He.glo_ok X G (cd.fact 36 (f := .glo "InvalidStep") rfl)
      | 20, _ => He.glo_ok X G (cd.fact 37 (f := .glo "InvalidWish") rfl)
      | 21, _ => He.glo_ok X G (cd.fact 38 (f := .glo "InvalidCommand") rfl)
      | 22, _ => He.glo_ok X G (cd.fact 39 (f := .glo "UnknownSource") rfl)
      | 23, _ => He.glo_ok X G (cd.fact 40 (f := .glo "UnknownGate") rfl)
      | 24, _ => He.glo_ok X G (cd.fact 41 (f := .glo "UnknownEdge") rfl)
      | 25, _ => He.glo_ok X G (cd.fact 42 (f := .glo "UnknownSymbol") rfl)
      | 26, _ => He.glo_ok X G (cd.fact 43 (f := .glo "UnknownSample") rfl)
      | 27, _ => He.glo_ok X G (cd.fact 44 (f := .glo "UnknownTerm") rfl)
      | 28, _ => He.glo_ok X G (cd.fact 45 (f := .glo "NoTurn") rfl)
      | 29, _ => He.glo_ok X G (cd.fact 46 (f := .glo "TooLong") rfl)
      | 30, _ => He.glo_ok X G (cd.fact 47 (f := .glo "TooShort") rfl)
      | 31, _ => He.glo_ok X G (cd.fact 48 (f := .glo "TooDeep") rfl)
      | 32, _ => He.glo_ok X G (cd.fact 49 (f := .glo "TooMany") rfl)
      | 33, _ => He.glo_ok X G (cd.fact 50 (f := .glo "EmptyLoop") rfl)
      | 34, _ => He.glo_ok X G (cd.fact 51 (f := .glo "NothingToUndo") rfl)
      | 35, _ => He.glo_ok X G (cd.fact 52 (f := .glo "NetError") rfl)
      | 36, _ => He.glo_ok X G (cd.fact 53 (f := .glo "MissingError") rfl)
      | 37, _ => He.glo_ok X G (cd.fact 54 (f := .glo "StateError") rfl)
      | k + 38, h => absurd h (by omega)
  have PK : Pk K mg (ck K) := pk_of Ls inj (fun i hi => He.eqO_ok (one i hi).2.1) (fun i hi => He.eqO_ok (one i hi).2.2.1) (fun i hi => He.eqO_ok (one i hi).2.2.2.1) (fun i hi => (one i hi).2.2.2.2.1) (fun i hi => He.eqO_ok (one i hi).2.2.2.2.2.1)
    (He.eqO_ok x4) x5 gls (fun i hi f hf => He.eqO_ok ((one i (by omega)).2.2.2.2.2.2 f hf))
  have PN : Pn K (ck K) := pn_of (Ls 2 (by decide)) (x6 "int" (by decide)) (x6 "str" (by decide)) (x6 "NoneType" (by decide)) (x6 "bool" (by decide)) (x6 "list" (by decide)) (x6 "tuple" (by decide)) (x6 "dict" (by decide))
  have ZZ : Z1 mg := ⟨He.free_ok X G (cd.fact 55 (f := .free "isinstance") rfl), He.free_ok X G (cd.fact 56 (f := .free "ValueError") rfl), He.free_ok X G (cd.fact 57 (f := .free "KeyError") rfl), He.free_ok X G (cd.fact 58 (f := .free "LookupError") rfl), He.free_ok X G (cd.fact 59 (f := .free "str") rfl), He.free_ok X G (cd.fact 60 (f := .free "dict") rfl), He.free_ok X G (cd.fact 61 (f := .free "list") rfl), He.free_ok X G (cd.fact 62 (f := .free "tuple") rfl), He.free_ok X G (cd.fact 63 (f := .free "repr") rfl), He.free_ok X G (cd.fact 64 (f := .free "len") rfl), He.free_ok X G (cd.fact 65 (f := .free "range") rfl), He.free_ok X G (cd.fact 66 (f := .free "enumerate") rfl), He.free_ok X G (cd.fact 67 (f := .free "int") rfl), He.free_ok X G (cd.fact 68 (f := .free "max") rfl), He.free_ok X G (cd.fact 69 (f := .free "min") rfl)⟩
  have MK : ∀ base : Heap, Mks l.prog w K mg base (ck K) := fun base => ⟨fun i hi => match i, hi with
      | 0, _ => ⟨⟨_, _, _, fun us _ => us, PK.ex 0 (by decide), gls 0 (by decide), He.eqO_ok (ini 0 (by decide)).1, (ini 0 (by decide)).2, ok_i0 G0 (PK.ex 0 (by decide)) (PK.fr 0 (by decide) "value" (by decide)), kb_of G0 (fun _ _ _ _ _ _ us ws l1 l2 => match us, ws, l1, l2 with | [_, _], [], _, _ => rfl) (fun r1 r2 => r1)⟩⟩
      | 1, _ => ⟨⟨_, _, _, fun us _ => us, PK.ex 1 (by decide), gls 1 (by decide), He.eqO_ok (ini 1 (by decide)).1, (ini 1 (by decide)).2, ok_i1 G1 (PK.ex 1 (by decide)) (PK.fr 1 (by decide) "value" (by decide)), kb_of G1 (fun _ _ _ _ _ _ us ws l1 l2 => match us, ws, l1, l2 with | [_, _], [], _, _ => rfl) (fun r1 r2 => r1)⟩⟩
      | 2, _ => ⟨⟨_, _, _, fun us _ => us, PK.ex 2 (by decide), gls 2 (by decide), He.eqO_ok (ini 2 (by decide)).1, (ini 2 (by decide)).2, ok_i2 G2 (PK.ex 2 (by decide)) (PK.fr 2 (by decide) "value" (by decide)), kb_of G2 (fun _ _ _ _ _ _ us ws l1 l2 => match us, ws, l1, l2 with | [_, _], [], _, _ => rfl) (fun r1 r2 => r1)⟩⟩
      | 3, _ => ⟨⟨_, _, _, fun us _ => us, PK.ex 3 (by decide), gls 3 (by decide), He.eqO_ok (ini 3 (by decide)).1, (ini 3 (by decide)).2, ok_i3 G3 (PK.ex 3 (by decide)) (PK.fr 3 (by decide) "name" (by decide)), kb_of G3 (fun _ _ _ _ _ _ us ws l1 l2 => match us, ws, l1, l2 with | [_, _], [], _, _ => rfl) (fun r1 r2 => r1)⟩⟩
      | 4, _ => ⟨⟨_, _, _, fun us _ => us, PK.ex 4 (by decide), gls 4 (by decide), He.eqO_ok (ini 4 (by decide)).1, (ini 4 (by decide)).2, ok_i4 G4 (PK.ex 4 (by decide)) (PK.fr 4 (by decide) "value" (by decide)), kb_of G4 (fun _ _ _ _ _ _ us ws l1 l2 => match us, ws, l1, l2 with | [_, _], [], _, _ => rfl) (fun r1 r2 => r1)⟩⟩
      | 5, _ => ⟨⟨_, _, _, fun us _ => us, PK.ex 5 (by decide), gls 5 (by decide), He.eqO_ok (ini 5 (by decide)).1, (ini 5 (by decide)).2, ok_i5 G5 (PK.ex 5 (by decide)) (PK.fr 5 (by decide) "value" (by decide)), kb_of G5 (fun _ _ _ _ _ _ us ws l1 l2 => match us, ws, l1, l2 with | [_, _], [], _, _ => rfl) (fun r1 r2 => r1)⟩⟩
      | 6, _ => ⟨⟨_, _, _, fun us _ => us, PK.ex 6 (by decide), gls 6 (by decide), He.eqO_ok (ini 6 (by decide)).1, (ini 6 (by decide)).2, ok_i6 G6 (PK.ex 6 (by decide)) (PK.fr 6 (by decide) "value" (by decide)), kb_of G6 (fun _ _ _ _ _ _ us ws l1 l2 => match us, ws, l1, l2 with | [_, _], [], _, _ => rfl) (fun r1 r2 => r1)⟩⟩
      | 7, _ => ⟨⟨_, _, _, fun us _ => us, PK.ex 7 (by decide), gls 7 (by decide), He.eqO_ok (ini 7 (by decide)).1, (ini 7 (by decide)).2, ok_i7 G7 (PK.ex 7 (by decide)) (PK.fr 7 (by decide) "gates" (by decide)), kb_of G7 (fun _ _ _ _ _ _ us ws l1 l2 => match us, ws, l1, l2 with | [_, _], [], _, _ => rfl) (fun r1 r2 => r1)⟩⟩
      | 8, _ => ⟨⟨_, _, _, fun us _ => us, PK.ex 8 (by decide), gls 8 (by decide), He.eqO_ok (ini 8 (by decide)).1, (ini 8 (by decide)).2, ok_i8 G8 (PK.ex 8 (by decide)) (PK.fr 8 (by decide) "name" (by decide)), kb_of G8 (fun _ _ _ _ _ _ us ws l1 l2 => match us, ws, l1, l2 with | [_, _], [], _, _ => rfl) (fun r1 r2 => r1)⟩⟩
      | 9, _ => ⟨⟨_, _, _, fun us _ => us, PK.ex 9 (by decide), gls 9 (by decide), He.eqO_ok (ini 9 (by decide)).1, (ini 9 (by decide)).2, ok_i9 G9 (PK.ex 9 (by decide)) (PK.fr 9 (by decide) "name" (by decide)), kb_of G9 (fun _ _ _ _ _ _ us ws l1 l2 => match us, ws, l1, l2 with | [_, _], [], _, _ => rfl) (fun r1 r2 => r1)⟩⟩
      | 10, _ => ⟨⟨_, _, _, fun us _ => us, PK.ex 10 (by decide), gls 10 (by decide), He.eqO_ok (ini 10 (by decide)).1, (ini 10 (by decide)).2, ok_i10 G10 (PK.ex 10 (by decide)) (PK.fr 10 (by decide) "value" (by decide)), kb_of G10 (fun _ _ _ _ _ _ us ws l1 l2 => match us, ws, l1, l2 with | [_, _], [], _, _ => rfl) (fun r1 r2 => r1)⟩⟩
      | 11, _ => ⟨⟨_, _, _, fun us _ => us, PK.ex 11 (by decide), gls 11 (by decide), He.eqO_ok (ini 11 (by decide)).1, (ini 11 (by decide)).2, ok_i11 G11 (PK.ex 11 (by decide)) (PK.fr 11 (by decide) "value" (by decide)), kb_of G11 (fun _ _ _ _ _ _ us ws l1 l2 => match us, ws, l1, l2 with | [_, _], [], _, _ => rfl) (fun r1 r2 => r1)⟩⟩
      | 12, _ => ⟨⟨_, _, _, fun us _ => us, PK.ex 12 (by decide), gls 12 (by decide), He.eqO_ok (ini 12 (by decide)).1, (ini 12 (by decide)).2, ok_i12 G12 (PK.ex 12 (by decide)) (PK.fr 12 (by decide) "value" (by decide)), kb_of G12 (fun _ _ _ _ _ _ us ws l1 l2 => match us, ws, l1, l2 with | [_, _], [], _, _ => rfl) (fun r1 r2 => r1)⟩⟩
      | 13, _ => ⟨⟨_, _, _, fun us _ => us, PK.ex 13 (by decide), gls 13 (by decide), He.eqO_ok (ini 13 (by decide)).1, (ini 13 (by decide)).2, ok_i13 G13 (PK.ex 13 (by decide)) (PK.fr 13 (by decide) "value" (by decide)), kb_of G13 (fun _ _ _ _ _ _ us ws l1 l2 => match us, ws, l1, l2 with | [_, _], [], _, _ => rfl) (fun r1 r2 => r1)⟩⟩
      | 14, _ => ⟨⟨_, _, _, fun us _ => us, PK.ex 14 (by decide), gls 14 (by decide), He.eqO_ok (ini 14 (by decide)).1, (ini 14 (by decide)).2, ok_i14 G14 (PK.ex 14 (by decide)) (PK.fr 14 (by decide) "value" (by decide)), kb_of G14 (fun _ _ _ _ _ _ us ws l1 l2 => match us, ws, l1, l2 with | [_, _], [], _, _ => rfl) (fun r1 r2 => r1)⟩⟩
      | 15, _ => ⟨⟨_, _, _, fun us _ => us, PK.ex 15 (by decide), gls 15 (by decide), He.eqO_ok (ini 15 (by decide)).1, (ini 15 (by decide)).2, ok_i15 G15 (PK.ex 15 (by decide)) (PK.fr 15 (by decide) "index" (by decide)), kb_of G15 (fun _ _ _ _ _ _ us ws l1 l2 => match us, ws, l1, l2 with | [_, _], [], _, _ => rfl) (fun r1 r2 => r1)⟩⟩
      | 16, _ => ⟨⟨_, _, _, fun us _ => us, PK.ex 16 (by decide), gls 16 (by decide), He.eqO_ok (ini 16 (by decide)).1, (ini 16 (by decide)).2, ok_i16 G16 (PK.ex 16 (by decide)) (PK.fr 16 (by decide) "number" (by decide)), kb_of G16 (fun _ _ _ _ _ _ us ws l1 l2 => match us, ws, l1, l2 with | [_, _], [], _, _ => rfl) (fun r1 r2 => r1)⟩⟩
      | 17, _ => ⟨⟨_, _, _, fun us _ => us, PK.ex 17 (by decide), gls 17 (by decide), He.eqO_ok (ini 17 (by decide)).1, (ini 17 (by decide)).2, ok_i17 G17 (PK.ex 17 (by decide)) (PK.fr 17 (by decide) "other" (by decide)), kb_of G17 (fun _ _ _ _ _ _ us ws l1 l2 => match us, ws, l1, l2 with | [_, _], [], _, _ => rfl) (fun r1 r2 => r1)⟩⟩
      | 18, _ => ⟨⟨_, _, _, fun us _ => us, PK.ex 18 (by decide), gls 18 (by decide), He.eqO_ok (ini 18 (by decide)).1, (ini 18 (by decide)).2, ok_i18 G18 (PK.ex 18 (by decide)) (PK.fr 18 (by decide) "value" (by decide)), kb_of G18 (fun _ _ _ _ _ _ us ws l1 l2 => match us, ws, l1, l2 with | [_, _], [], _, _ => rfl) (fun r1 r2 => r1)⟩⟩
      | 19, _ => ⟨⟨_, _, _, fun us _ => us, PK.ex 19 (by decide), gls 19 (by decide), He.eqO_ok (ini 19 (by decide)).1, (ini 19 (by decide)).2, ok_i19 G19 (PK.ex 19 (by decide)) (PK.fr 19 (by decide) "value" (by decide)), kb_of G19 (fun _ _ _ _ _ _ us ws l1 l2 => match us, ws, l1, l2 with | [_, _], [], _, _ => rfl) (fun r1 r2 => r1)⟩⟩
      | 20, _ => ⟨⟨_, _, _, fun us _ => us, PK.ex 20 (by decide), gls 20 (by decide), He.eqO_ok (ini 20 (by decide)).1, (ini 20 (by decide)).2, ok_i20 G20 (PK.ex 20 (by decide)) (PK.fr 20 (by decide) "value" (by decide)), kb_of G20 (fun _ _ _ _ _ _ us ws l1 l2 => match us, ws, l1, l2 with | [_, _], [], _, _ => rfl) (fun r1 r2 => r1)⟩⟩
      | 21, _ => ⟨⟨_, _, _, fun us _ => us, PK.ex 21 (by decide), gls 21 (by decide), He.eqO_ok (ini 21 (by decide)).1, (ini 21 (by decide)).2, ok_i21 G21 (PK.ex 21 (by decide)) (PK.fr 21 (by decide) "value" (by decide)), kb_of G21 (fun _ _ _ _ _ _ us ws l1 l2 => match us, ws, l1, l2 with | [_, _], [], _, _ => rfl) (fun r1 r2 => r1)⟩⟩
      | 22, _ => ⟨⟨_, _, _, fun us _ => us, PK.ex 22 (by decide), gls 22 (by decide), He.eqO_ok (ini 22 (by decide)).1, (ini 22 (by decide)).2, ok_i22 G22 (PK.ex 22 (by decide)) (PK.fr 22 (by decide) "name" (by decide)), kb_of G22 (fun _ _ _ _ _ _ us ws l1 l2 => match us, ws, l1, l2 with | [_, _], [], _, _ => rfl) (fun r1 r2 => r1)⟩⟩
      | 23, _ => ⟨⟨_, _, _, fun us _ => us, PK.ex 23 (by decide), gls 23 (by decide), He.eqO_ok (ini 23 (by decide)).1, (ini 23 (by decide)).2, ok_i23 G23 (PK.ex 23 (by decide)) (PK.fr 23 (by decide) "name" (by decide)), kb_of G23 (fun _ _ _ _ _ _ us ws l1 l2 => match us, ws, l1, l2 with | [_, _], [], _, _ => rfl) (fun r1 r2 => r1)⟩⟩
      | 24, _ => ⟨⟨_, _, _, fun us _ => us, PK.ex 24 (by decide), gls 24 (by decide), He.eqO_ok (ini 24 (by decide)).1, (ini 24 (by decide)).2, ok_i24 G24 (PK.ex 24 (by decide)) (PK.fr 24 (by decide) "reader" (by decide)) (PK.fr 24 (by decide) "slot" (by decide)), kb_of G24 (fun _ _ _ _ _ _ us ws l1 l2 => match us, ws, l1, l2 with | [_, _, _], [], _, _ => rfl) (fun r1 r2 => r1)⟩⟩
      | 25, _ => ⟨⟨_, _, _, fun us _ => us, PK.ex 25 (by decide), gls 25 (by decide), He.eqO_ok (ini 25 (by decide)).1, (ini 25 (by decide)).2, ok_i25 G25 (PK.ex 25 (by decide)) (PK.fr 25 (by decide) "name" (by decide)), kb_of G25 (fun _ _ _ _ _ _ us ws l1 l2 => match us, ws, l1, l2 with | [_, _], [], _, _ => rfl) (fun r1 r2 => r1)⟩⟩
      | 26, _ => ⟨⟨_, _, _, fun us _ => us, PK.ex 26 (by decide), gls 26 (by decide), He.eqO_ok (ini 26 (by decide)).1, (ini 26 (by decide)).2, ok_i26 G26 (PK.ex 26 (by decide)) (PK.fr 26 (by decide) "name" (by decide)) (PK.fr 26 (by decide) "index" (by decide)), kb_of G26 (fun _ _ _ _ _ _ us ws l1 l2 => match us, ws, l1, l2 with | [_, _, _], [], _, _ => rfl) (fun r1 r2 => r1)⟩⟩
      | 27, _ => ⟨⟨_, _, _, fun us _ => us, PK.ex 27 (by decide), gls 27 (by decide), He.eqO_ok (ini 27 (by decide)).1, (ini 27 (by decide)).2, ok_i27 G27 (PK.ex 27 (by decide)) (PK.fr 27 (by decide) "number" (by decide)), kb_of G27 (fun _ _ _ _ _ _ us ws l1 l2 => match us, ws, l1, l2 with | [_, _], [], _, _ => rfl) (fun r1 r2 => r1)⟩⟩
      | 28, _ => ⟨⟨_, _, _, fun us _ => us, PK.ex 28 (by decide), gls 28 (by decide), He.eqO_ok (ini 28 (by decide)).1, (ini 28 (by decide)).2, ok_i28 G28 (PK.ex 28 (by decide)), kb_of G28 (fun _ _ _ _ _ _ us ws l1 l2 => match us, ws, l1, l2 with | [_], [], _, _ => rfl) (fun r1 r2 => r1)⟩⟩
      | 29, _ => ⟨⟨_, _, _, fun us _ => us, PK.ex 29 (by decide), gls 29 (by decide), He.eqO_ok (ini 29 (by decide)).1, (ini 29 (by decide)).2, ok_i29 G29 (PK.ex 29 (by decide)) (PK.fr 29 (by decide) "number" (by decide)), kb_of G29 (fun _ _ _ _ _ _ us ws l1 l2 => match us, ws, l1, l2 with | [_, _], [], _, _ => rfl) (fun r1 r2 => r1)⟩⟩
      | 30, _ => ⟨⟨_, _, _, fun us _ => us, PK.ex 30 (by decide), gls 30 (by decide), He.eqO_ok (ini 30 (by decide)).1, (ini 30 (by decide)).2, ok_i30 G30 (PK.ex 30 (by decide)) (PK.fr 30 (by decide) "reader" (by decide)) (PK.fr 30 (by decide) "slot" (by decide)), kb_of G30 (fun _ _ _ _ _ _ us ws l1 l2 => match us, ws, l1, l2 with | [_, _, _], [], _, _ => rfl) (fun r1 r2 => r1)⟩⟩
      | 31, _ => ⟨⟨_, _, _, fun us _ => us, PK.ex 31 (by decide), gls 31 (by decide), He.eqO_ok (ini 31 (by decide)).1, (ini 31 (by decide)).2, ok_i31 G31 (PK.ex 31 (by decide)) (PK.fr 31 (by decide) "name" (by decide)), kb_of G31 (fun _ _ _ _ _ _ us ws l1 l2 => match us, ws, l1, l2 with | [_, _], [], _, _ => rfl) (fun r1 r2 => r1)⟩⟩
      | 32, _ => ⟨⟨_, _, _, fun us _ => us, PK.ex 32 (by decide), gls 32 (by decide), He.eqO_ok (ini 32 (by decide)).1, (ini 32 (by decide)).2, ok_i32 G32 (PK.ex 32 (by decide)) (PK.fr 32 (by decide) "most" (by decide)), kb_of G32 (fun _ _ _ _ _ _ us ws l1 l2 => match us, ws, l1, l2 with | [_, _], [], _, _ => rfl) (fun r1 r2 => r1)⟩⟩
      | 33, _ => ⟨⟨_, _, _, fun us _ => us, PK.ex 33 (by decide), gls 33 (by decide), He.eqO_ok (ini 33 (by decide)).1, (ini 33 (by decide)).2, ok_i33 G33 (PK.ex 33 (by decide)) (PK.fr 33 (by decide) "out" (by decide)), kb_of G33 (fun _ _ _ _ _ _ us ws l1 l2 => match us, ws, l1, l2 with | [_, _], [], _, _ => rfl) (fun r1 r2 => r1)⟩⟩
      | 34, _ => ⟨⟨_, _, _, fun us _ => us, PK.ex 34 (by decide), gls 34 (by decide), He.eqO_ok (ini 34 (by decide)).1, (ini 34 (by decide)).2, ok_i34 G34 (PK.ex 34 (by decide)), kb_of G34 (fun _ _ _ _ _ _ us ws l1 l2 => match us, ws, l1, l2 with | [_], [], _, _ => rfl) (fun r1 r2 => r1)⟩⟩
      | k + 35, h => absurd h (by omega),
      fun i hi => match i, hi with
      | 0, _ => ⟨⟨_, _, _, fun us ws => us ++ ws, PK.ex 0 (by decide), gls 0 (by decide), He.eqO_ok (ini 0 (by decide)).1, (ini 0 (by decide)).2, ok_i0 G0 (PK.ex 0 (by decide)) (PK.fr 0 (by decide) "value" (by decide)), kb_of G0 (fun _ _ _ _ _ _ us ws l1 l2 => match us, ws, l1, l2 with | [_], [_], _, _ => rfl) (fun r1 r2 => r1.append r2)⟩⟩
      | 1, _ => ⟨⟨_, _, _, fun us ws => us ++ ws, PK.ex 1 (by decide), gls 1 (by decide), He.eqO_ok (ini 1 (by decide)).1, (ini 1 (by decide)).2, ok_i1 G1 (PK.ex 1 (by decide)) (PK.fr 1 (by decide) "value" (by decide)), kb_of G1 (fun _ _ _ _ _ _ us ws l1 l2 => match us, ws, l1, l2 with | [_], [_], _, _ => rfl) (fun r1 r2 => r1.append r2)⟩⟩
      | 2, _ => ⟨⟨_, _, _, fun us ws => us ++ ws, PK.ex 2 (by decide), gls 2 (by decide), He.eqO_ok (ini 2 (by decide)).1, (ini 2 (by decide)).2, ok_i2 G2 (PK.ex 2 (by decide)) (PK.fr 2 (by decide) "value" (by decide)), kb_of G2 (fun _ _ _ _ _ _ us ws l1 l2 => match us, ws, l1, l2 with | [_], [_], _, _ => rfl) (fun r1 r2 => r1.append r2)⟩⟩
      | 3, _ => ⟨⟨_, _, _, fun us ws => us ++ ws, PK.ex 3 (by decide), gls 3 (by decide), He.eqO_ok (ini 3 (by decide)).1, (ini 3 (by decide)).2, ok_i3 G3 (PK.ex 3 (by decide)) (PK.fr 3 (by decide) "name" (by decide)), kb_of G3 (fun _ _ _ _ _ _ us ws l1 l2 => match us, ws, l1, l2 with | [_], [_], _, _ => rfl) (fun r1 r2 => r1.append r2)⟩⟩
      | 4, _ => ⟨⟨_, _, _, fun us ws => us ++ ws, PK.ex 4 (by decide), gls 4 (by decide), He.eqO_ok (ini 4 (by decide)).1, (ini 4 (by decide)).2, ok_i4 G4 (PK.ex 4 (by decide)) (PK.fr 4 (by decide) "value" (by decide)), kb_of G4 (fun _ _ _ _ _ _ us ws l1 l2 => match us, ws, l1, l2 with | [_], [_], _, _ => rfl) (fun r1 r2 => r1.append r2)⟩⟩
      | 5, _ => ⟨⟨_, _, _, fun us ws => us ++ ws, PK.ex 5 (by decide), gls 5 (by decide), He.eqO_ok (ini 5 (by decide)).1, (ini 5 (by decide)).2, ok_i5 G5 (PK.ex 5 (by decide)) (PK.fr 5 (by decide) "value" (by decide)), kb_of G5 (fun _ _ _ _ _ _ us ws l1 l2 => match us, ws, l1, l2 with | [_], [_], _, _ => rfl) (fun r1 r2 => r1.append r2)⟩⟩
      | 6, _ => ⟨⟨_, _, _, fun us ws => us ++ ws, PK.ex 6 (by decide), gls 6 (by decide), He.eqO_ok (ini 6 (by decide)).1, (ini 6 (by decide)).2, ok_i6 G6 (PK.ex 6 (by decide)) (PK.fr 6 (by decide) "value" (by decide)), kb_of G6 (fun _ _ _ _ _ _ us ws l1 l2 => match us, ws, l1, l2 with | [_], [_], _, _ => rfl) (fun r1 r2 => r1.append r2)⟩⟩
      | 7, _ => ⟨⟨_, _, _, fun us ws => us ++ ws, PK.ex 7 (by decide), gls 7 (by decide), He.eqO_ok (ini 7 (by decide)).1, (ini 7 (by decide)).2, ok_i7 G7 (PK.ex 7 (by decide)) (PK.fr 7 (by decide) "gates" (by decide)), kb_of G7 (fun _ _ _ _ _ _ us ws l1 l2 => match us, ws, l1, l2 with | [_], [_], _, _ => rfl) (fun r1 r2 => r1.append r2)⟩⟩
      | 8, _ => ⟨⟨_, _, _, fun us ws => us ++ ws, PK.ex 8 (by decide), gls 8 (by decide), He.eqO_ok (ini 8 (by decide)).1, (ini 8 (by decide)).2, ok_i8 G8 (PK.ex 8 (by decide)) (PK.fr 8 (by decide) "name" (by decide)), kb_of G8 (fun _ _ _ _ _ _ us ws l1 l2 => match us, ws, l1, l2 with | [_], [_], _, _ => rfl) (fun r1 r2 => r1.append r2)⟩⟩
      | 9, _ => ⟨⟨_, _, _, fun us ws => us ++ ws, PK.ex 9 (by decide), gls 9 (by decide), He.eqO_ok (ini 9 (by decide)).1, (ini 9 (by decide)).2, ok_i9 G9 (PK.ex 9 (by decide)) (PK.fr 9 (by decide) "name" (by decide)), kb_of G9 (fun _ _ _ _ _ _ us ws l1 l2 => match us, ws, l1, l2 with | [_], [_], _, _ => rfl) (fun r1 r2 => r1.append r2)⟩⟩
      | 10, _ => ⟨⟨_, _, _, fun us ws => us ++ ws, PK.ex 10 (by decide), gls 10 (by decide), He.eqO_ok (ini 10 (by decide)).1, (ini 10 (by decide)).2, ok_i10 G10 (PK.ex 10 (by decide)) (PK.fr 10 (by decide) "value" (by decide)), kb_of G10 (fun _ _ _ _ _ _ us ws l1 l2 => match us, ws, l1, l2 with | [_], [_], _, _ => rfl) (fun r1 r2 => r1.append r2)⟩⟩
      | 11, _ => ⟨⟨_, _, _, fun us ws => us ++ ws, PK.ex 11 (by decide), gls 11 (by decide), He.eqO_ok (ini 11 (by decide)).1, (ini 11 (by decide)).2, ok_i11 G11 (PK.ex 11 (by decide)) (PK.fr 11 (by decide) "value" (by decide)), kb_of G11 (fun _ _ _ _ _ _ us ws l1 l2 => match us, ws, l1, l2 with | [_], [_], _, _ => rfl) (fun r1 r2 => r1.append r2)⟩⟩
      | 12, _ => ⟨⟨_, _, _, fun us ws => us ++ ws, PK.ex 12 (by decide), gls 12 (by decide), He.eqO_ok (ini 12 (by decide)).1, (ini 12 (by decide)).2, ok_i12 G12 (PK.ex 12 (by decide)) (PK.fr 12 (by decide) "value" (by decide)), kb_of G12 (fun _ _ _ _ _ _ us ws l1 l2 => match us, ws, l1, l2 with | [_], [_], _, _ => rfl) (fun r1 r2 => r1.append r2)⟩⟩
      | 13, _ => ⟨⟨_, _, _, fun us ws => us ++ ws, PK.ex 13 (by decide), gls 13 (by decide), He.eqO_ok (ini 13 (by decide)).1, (ini 13 (by decide)).2, ok_i13 G13 (PK.ex 13 (by decide)) (PK.fr 13 (by decide) "value" (by decide)), kb_of G13 (fun _ _ _ _ _ _ us ws l1 l2 => match us, ws, l1, l2 with | [_], [_], _, _ => rfl) (fun r1 r2 => r1.append r2)⟩⟩
      | 14, _ => ⟨⟨_, _, _, fun us ws => us ++ ws, PK.ex 14 (by decide), gls 14 (by decide), He.eqO_ok (ini 14 (by decide)).1, (ini 14 (by decide)).2, ok_i14 G14 (PK.ex 14 (by decide)) (PK.fr 14 (by decide) "value" (by decide)), kb_of G14 (fun _ _ _ _ _ _ us ws l1 l2 => match us, ws, l1, l2 with | [_], [_], _, _ => rfl) (fun r1 r2 => r1.append r2)⟩⟩
      | 15, _ => ⟨⟨_, _, _, fun us ws => us ++ ws, PK.ex 15 (by decide), gls 15 (by decide), He.eqO_ok (ini 15 (by decide)).1, (ini 15 (by decide)).2, ok_i15 G15 (PK.ex 15 (by decide)) (PK.fr 15 (by decide) "index" (by decide)), kb_of G15 (fun _ _ _ _ _ _ us ws l1 l2 => match us, ws, l1, l2 with | [_], [_], _, _ => rfl) (fun r1 r2 => r1.append r2)⟩⟩
      | 16, _ => ⟨⟨_, _, _, fun us ws => us ++ ws, PK.ex 16 (by decide), gls 16 (by decide), He.eqO_ok (ini 16 (by decide)).1, (ini 16 (by decide)).2, ok_i16 G16 (PK.ex 16 (by decide)) (PK.fr 16 (by decide) "number" (by decide)), kb_of G16 (fun _ _ _ _ _ _ us ws l1 l2 => match us, ws, l1, l2 with | [_], [_], _, _ => rfl) (fun r1 r2 => r1.append r2)⟩⟩
      | 17, _ => ⟨⟨_, _, _, fun us ws => us ++ ws, PK.ex 17 (by decide), gls 17 (by decide), He.eqO_ok (ini 17 (by decide)).1, (ini 17 (by decide)).2, ok_i17 G17 (PK.ex 17 (by decide)) (PK.fr 17 (by decide) "other" (by decide)), kb_of G17 (fun _ _ _ _ _ _ us ws l1 l2 => match us, ws, l1, l2 with | [_], [_], _, _ => rfl) (fun r1 r2 => r1.append r2)⟩⟩
      | 18, _ => ⟨⟨_, _, _, fun us ws => us ++ ws, PK.ex 18 (by decide), gls 18 (by decide), He.eqO_ok (ini 18 (by decide)).1, (ini 18 (by decide)).2, ok_i18 G18 (PK.ex 18 (by decide)) (PK.fr 18 (by decide) "value" (by decide)), kb_of G18 (fun _ _ _ _ _ _ us ws l1 l2 => match us, ws, l1, l2 with | [_], [_], _, _ => rfl) (fun r1 r2 => r1.append r2)⟩⟩
      | 19, _ => ⟨⟨_, _, _, fun us ws => us ++ ws, PK.ex 19 (by decide), gls 19 (by decide), He.eqO_ok (ini 19 (by decide)).1, (ini 19 (by decide)).2, ok_i19 G19 (PK.ex 19 (by decide)) (PK.fr 19 (by decide) "value" (by decide)), kb_of G19 (fun _ _ _ _ _ _ us ws l1 l2 => match us, ws, l1, l2 with | [_], [_], _, _ => rfl) (fun r1 r2 => r1.append r2)⟩⟩
      | 20, _ => ⟨⟨_, _, _, fun us ws => us ++ ws, PK.ex 20 (by decide), gls 20 (by decide), He.eqO_ok (ini 20 (by decide)).1, (ini 20 (by decide)).2, ok_i20 G20 (PK.ex 20 (by decide)) (PK.fr 20 (by decide) "value" (by decide)), kb_of G20 (fun _ _ _ _ _ _ us ws l1 l2 => match us, ws, l1, l2 with | [_], [_], _, _ => rfl) (fun r1 r2 => r1.append r2)⟩⟩
      | 21, _ => ⟨⟨_, _, _, fun us ws => us ++ ws, PK.ex 21 (by decide), gls 21 (by decide), He.eqO_ok (ini 21 (by decide)).1, (ini 21 (by decide)).2, ok_i21 G21 (PK.ex 21 (by decide)) (PK.fr 21 (by decide) "value" (by decide)), kb_of G21 (fun _ _ _ _ _ _ us ws l1 l2 => match us, ws, l1, l2 with | [_], [_], _, _ => rfl) (fun r1 r2 => r1.append r2)⟩⟩
      | 22, _ => ⟨⟨_, _, _, fun us ws => us ++ ws, PK.ex 22 (by decide), gls 22 (by decide), He.eqO_ok (ini 22 (by decide)).1, (ini 22 (by decide)).2, ok_i22 G22 (PK.ex 22 (by decide)) (PK.fr 22 (by decide) "name" (by decide)), kb_of G22 (fun _ _ _ _ _ _ us ws l1 l2 => match us, ws, l1, l2 with | [_], [_], _, _ => rfl) (fun r1 r2 => r1.append r2)⟩⟩
      | 23, _ => ⟨⟨_, _, _, fun us ws => us ++ ws, PK.ex 23 (by decide), gls 23 (by decide), He.eqO_ok (ini 23 (by decide)).1, (ini 23 (by decide)).2, ok_i23 G23 (PK.ex 23 (by decide)) (PK.fr 23 (by decide) "name" (by decide)), kb_of G23 (fun _ _ _ _ _ _ us ws l1 l2 => match us, ws, l1, l2 with | [_], [_], _, _ => rfl) (fun r1 r2 => r1.append r2)⟩⟩
      | 24, _ => ⟨⟨_, _, _, fun us ws => us ++ ws, PK.ex 24 (by decide), gls 24 (by decide), He.eqO_ok (ini 24 (by decide)).1, (ini 24 (by decide)).2, ok_i24 G24 (PK.ex 24 (by decide)) (PK.fr 24 (by decide) "reader" (by decide)) (PK.fr 24 (by decide) "slot" (by decide)), kb_of G24 (fun _ _ _ _ _ _ us ws l1 l2 => match us, ws, l1, l2 with | [_], [_, _], _, _ => rfl) (fun r1 r2 => r1.append r2)⟩⟩
      | 25, _ => ⟨⟨_, _, _, fun us ws => us ++ ws, PK.ex 25 (by decide), gls 25 (by decide), He.eqO_ok (ini 25 (by decide)).1, (ini 25 (by decide)).2, ok_i25 G25 (PK.ex 25 (by decide)) (PK.fr 25 (by decide) "name" (by decide)), kb_of G25 (fun _ _ _ _ _ _ us ws l1 l2 => match us, ws, l1, l2 with | [_], [_], _, _ => rfl) (fun r1 r2 => r1.append r2)⟩⟩
      | 26, _ => ⟨⟨_, _, _, fun us ws => us ++ ws, PK.ex 26 (by decide), gls 26 (by decide), He.eqO_ok (ini 26 (by decide)).1, (ini 26 (by decide)).2, ok_i26 G26 (PK.ex 26 (by decide)) (PK.fr 26 (by decide) "name" (by decide)) (PK.fr 26 (by decide) "index" (by decide)), kb_of G26 (fun _ _ _ _ _ _ us ws l1 l2 => match us, ws, l1, l2 with | [_], [_, _], _, _ => rfl) (fun r1 r2 => r1.append r2)⟩⟩
      | 27, _ => ⟨⟨_, _, _, fun us ws => us ++ ws, PK.ex 27 (by decide), gls 27 (by decide), He.eqO_ok (ini 27 (by decide)).1, (ini 27 (by decide)).2, ok_i27 G27 (PK.ex 27 (by decide)) (PK.fr 27 (by decide) "number" (by decide)), kb_of G27 (fun _ _ _ _ _ _ us ws l1 l2 => match us, ws, l1, l2 with | [_], [_], _, _ => rfl) (fun r1 r2 => r1.append r2)⟩⟩
      | 28, _ => ⟨⟨_, _, _, fun us ws => us ++ ws, PK.ex 28 (by decide), gls 28 (by decide), He.eqO_ok (ini 28 (by decide)).1, (ini 28 (by decide)).2, ok_i28 G28 (PK.ex 28 (by decide)), kb_of G28 (fun _ _ _ _ _ _ us ws l1 l2 => match us, ws, l1, l2 with | [_], [], _, _ => rfl) (fun r1 r2 => r1.append r2)⟩⟩
      | 29, _ => ⟨⟨_, _, _, fun us ws => us ++ ws, PK.ex 29 (by decide), gls 29 (by decide), He.eqO_ok (ini 29 (by decide)).1, (ini 29 (by decide)).2, ok_i29 G29 (PK.ex 29 (by decide)) (PK.fr 29 (by decide) "number" (by decide)), kb_of G29 (fun _ _ _ _ _ _ us ws l1 l2 => match us, ws, l1, l2 with | [_], [_], _, _ => rfl) (fun r1 r2 => r1.append r2)⟩⟩
      | 30, _ => ⟨⟨_, _, _, fun us ws => us ++ ws, PK.ex 30 (by decide), gls 30 (by decide), He.eqO_ok (ini 30 (by decide)).1, (ini 30 (by decide)).2, ok_i30 G30 (PK.ex 30 (by decide)) (PK.fr 30 (by decide) "reader" (by decide)) (PK.fr 30 (by decide) "slot" (by decide)), kb_of G30 (fun _ _ _ _ _ _ us ws l1 l2 => match us, ws, l1, l2 with | [_], [_, _], _, _ => rfl) (fun r1 r2 => r1.append r2)⟩⟩
      | 31, _ => ⟨⟨_, _, _, fun us ws => us ++ ws, PK.ex 31 (by decide), gls 31 (by decide), He.eqO_ok (ini 31 (by decide)).1, (ini 31 (by decide)).2, ok_i31 G31 (PK.ex 31 (by decide)) (PK.fr 31 (by decide) "name" (by decide)), kb_of G31 (fun _ _ _ _ _ _ us ws l1 l2 => match us, ws, l1, l2 with | [_], [_], _, _ => rfl) (fun r1 r2 => r1.append r2)⟩⟩
      | 32, _ => ⟨⟨_, _, _, fun us ws => us ++ ws, PK.ex 32 (by decide), gls 32 (by decide), He.eqO_ok (ini 32 (by decide)).1, (ini 32 (by decide)).2, ok_i32 G32 (PK.ex 32 (by decide)) (PK.fr 32 (by decide) "most" (by decide)), kb_of G32 (fun _ _ _ _ _ _ us ws l1 l2 => match us, ws, l1, l2 with | [_], [_], _, _ => rfl) (fun r1 r2 => r1.append r2)⟩⟩
      | 33, _ => ⟨⟨_, _, _, fun us ws => us ++ ws, PK.ex 33 (by decide), gls 33 (by decide), He.eqO_ok (ini 33 (by decide)).1, (ini 33 (by decide)).2, ok_i33 G33 (PK.ex 33 (by decide)) (PK.fr 33 (by decide) "out" (by decide)), kb_of G33 (fun _ _ _ _ _ _ us ws l1 l2 => match us, ws, l1, l2 with | [_], [_], _, _ => rfl) (fun r1 r2 => r1.append r2)⟩⟩
      | 34, _ => ⟨⟨_, _, _, fun us ws => us ++ ws, PK.ex 34 (by decide), gls 34 (by decide), He.eqO_ok (ini 34 (by decide)).1, (ini 34 (by decide)).2, ok_i34 G34 (PK.ex 34 (by decide)), kb_of G34 (fun _ _ _ _ _ _ us ws l1 l2 => match us, ws, l1, l2 with | [_], [], _, _ => rfl) (fun r1 r2 => r1.append r2)⟩⟩
      | k + 35, h => absurd h (by omega),
      fun i hi => match i, hi with
      | 0, _ => fun hl => absurd hl (by decide)
      | 1, _ => fun hl => absurd hl (by decide)
      | 2, _ => fun hl => absurd hl (by decide)
      | 3, _ => fun hl => absurd hl (by decide)
      | 4, _ => fun hl => absurd hl (by decide)
      | 5, _ => fun hl => absurd hl (by decide)
      | 6, _ => fun hl => absurd hl (by decide)
      | 7, _ => fun hl => absurd hl (by decide)
      | 8, _ => fun hl => absurd hl (by decide)
      | 9, _ => fun hl => absurd hl (by decide)
      | 10, _ => fun hl => absurd hl (by decide)
      | 11, _ => fun hl => absurd hl (by decide)
      | 12, _ => fun hl => absurd hl (by decide)
      | 13, _ => fun hl => absurd hl (by decide)
      | 14, _ => fun hl => absurd hl (by decide)
      | 15, _ => fun hl => absurd hl (by decide)
      | 16, _ => fun hl => absurd hl (by decide)
      | 17, _ => fun hl => absurd hl (by decide)
      | 18, _ => fun hl => absurd hl (by decide)
      | 19, _ => fun hl => absurd hl (by decide)
      | 20, _ => fun hl => absurd hl (by decide)
      | 21, _ => fun hl => absurd hl (by decide)
      | 22, _ => fun hl => absurd hl (by decide)
      | 23, _ => fun hl => absurd hl (by decide)
      | 24, _ => fun hl => ⟨⟨_, _, _, fun us ws => us ++ ws.reverse, PK.ex 24 (by decide), gls 24 (by decide), He.eqO_ok (ini 24 (by decide)).1, (ini 24 (by decide)).2, ok_i24 G24 (PK.ex 24 (by decide)) (PK.fr 24 (by decide) "reader" (by decide)) (PK.fr 24 (by decide) "slot" (by decide)), kb_of G24 (fun _ _ _ _ _ _ us ws l1 l2 => match us, ws, l1, l2 with | [_], [_, _], _, _ => rfl) (fun r1 r2 => r1.append (vals_rev r2))⟩⟩
      | 25, _ => fun hl => absurd hl (by decide)
      | 26, _ => fun hl => ⟨⟨_, _, _, fun us ws => us ++ ws.reverse, PK.ex 26 (by decide), gls 26 (by decide), He.eqO_ok (ini 26 (by decide)).1, (ini 26 (by decide)).2, ok_i26 G26 (PK.ex 26 (by decide)) (PK.fr 26 (by decide) "name" (by decide)) (PK.fr 26 (by decide) "index" (by decide)), kb_of G26 (fun _ _ _ _ _ _ us ws l1 l2 => match us, ws, l1, l2 with | [_], [_, _], _, _ => rfl) (fun r1 r2 => r1.append (vals_rev r2))⟩⟩
      | 27, _ => fun hl => absurd hl (by decide)
      | 28, _ => fun hl => absurd hl (by decide)
      | 29, _ => fun hl => absurd hl (by decide)
      | 30, _ => fun hl => ⟨⟨_, _, _, fun us ws => us ++ ws.reverse, PK.ex 30 (by decide), gls 30 (by decide), He.eqO_ok (ini 30 (by decide)).1, (ini 30 (by decide)).2, ok_i30 G30 (PK.ex 30 (by decide)) (PK.fr 30 (by decide) "reader" (by decide)) (PK.fr 30 (by decide) "slot" (by decide)), kb_of G30 (fun _ _ _ _ _ _ us ws l1 l2 => match us, ws, l1, l2 with | [_], [_, _], _, _ => rfl) (fun r1 r2 => r1.append (vals_rev r2))⟩⟩
      | 31, _ => fun hl => absurd hl (by decide)
      | 32, _ => fun hl => absurd hl (by decide)
      | 33, _ => fun hl => absurd hl (by decide)
      | 34, _ => fun hl => absurd hl (by decide)
      | k + 35, h => absurd h (by omega)⟩
  have bl := F_law.binds (ps := ["_law_script"]) fun _ _ _ _ _ _ us hl => match us, hl with | [_], _ => rfl
  refine ⟨fd_law, fun s v => ?_, fun base _ _ => ?_⟩
  · obtain ⟨oc, od, kV, doc, pm, an, cdv, ct, osl, rfl, lk, hcd⟩ := F_law.ex
    exact .of_eq rfl
  · have M := MK base
    have CC : Cg l.prog w K mg base 1 "_law_cell" (Tp.spCell K) := .mk' F_cell (ok_cell F_cell ZZ.len) (He.glo_ok X G (cd.fact 0 (f := .glo "_law_cell") rfl)) b_cell
    have CB : Cg l.prog w K mg base 1 "_law_box" spBox := .mk' F_box (ok_box F_box ZZ.max) (He.glo_ok X G (cd.fact 1 (f := .glo "_law_box") rfl)) b_box
    have CT : Cg l.prog w K mg base 1 "_law_take" spTake := .mk' F_take (ok_take F_take) (He.glo_ok X G (cd.fact 2 (f := .glo "_law_take") rfl)) b_take
    have CM : Cg l.prog w K mg base 3 "_law_made" (spMade (ck K)) := .mk' F_made (ok_made F_made M) (He.glo_ok X G (cd.fact 3 (f := .glo "_law_made") rfl)) b_made
    have CN : Cg l.prog w K mg base 3 "_law_named" (spMade (ck K)) := .mk' F_named (ok_named F_named M) (He.glo_ok X G (cd.fact 4 (f := .glo "_law_named") rfl)) b_named
    have CK : Cg l.prog w K mg base 1 "_law_kinds" (spKinds (ck K)) := .mk' F_kinds (ok_kinds F_kinds ZZ PK) (He.glo_ok X G (cd.fact 5 (f := .glo "_law_kinds") rfl)) b_kinds
    have CS : Cg l.prog w K mg base 1 "_law_bases" (spBases (ck K)) := .mk' F_bases (ok_bases F_bases ZZ PK) (He.glo_ok X G (cd.fact 6 (f := .glo "_law_bases") rfl)) b_bases
    have CD : Cg l.prog w K mg base 1 "_law_base_due" spDue := .mk' F_due (ok_due F_due) (He.glo_ok X G (cd.fact 7 (f := .glo "_law_base_due") rfl)) b_due
    have CF : Cg l.prog w K mg base 1 "_law_fields" (spFields (ck K)) := .mk' F_fields (ok_fields F_fields ZZ PK) (He.glo_ok X G (cd.fact 8 (f := .glo "_law_fields") rfl)) b_fields
    have GR := ok_raised (P := l.prog) (w := w) (base := base) F_raised ZZ PK M
    have CG : Cg l.prog w K mg base 4 "_law_caught" (spCaught (ck K)) := .mk' F_caught (ok_caught F_caught PK GR (He.glo_ok X G (cd.fact 10 (f := .glo "_law_raised") rfl)) F_raised.kp b_raised) (He.glo_ok X G (cd.fact 9 (f := .glo "_law_caught") rfl)) b_caught
    have CH : Cg l.prog w K mg base 3 "_law_thing" (spThing (ck K)) := .mk' F_thing (ok_thing F_thing ZZ M CT) (He.glo_ok X G (cd.fact 11 (f := .glo "_law_thing") rfl)) b_thing
    have CI : Cg l.prog w K mg base 1 "_law_inner" (spInner (ck K)) := .mk' F_inner (ok_inner F_inner ZZ PK PN) (He.glo_ok X G (cd.fact 12 (f := .glo "_law_inner") rfl)) b_inner
    have CA : Cg l.prog w K mg base 3 "_law_alike" (spAlike (ck K)) := .mk' F_alike (ok_alike F_alike ZZ PK PN CI) (He.glo_ok X G (cd.fact 14 (f := .glo "_law_alike") rfl)) b_alike
    have CR : Cg l.prog w K mg base 5 "_law_right" (spRight (ck K)) := .mk' F_right (ok_right F_right ZZ CM CN CK CS CD CF CA CG) (He.glo_ok X G (cd.fact 13 (f := .glo "_law_right") rfl)) b_right
    have C2_ : Cg l.prog w K mg base 4 "_law_two_right" (spTwo (ck K)) := .mk' F_two (ok_two F_two M CF CA) (He.glo_ok X G (cd.fact 15 (f := .glo "_law_two_right") rfl)) b_two
    exact ok_law F_law ZZ PK CC CB CH CR C2_ CK CS CD (He.eqO_ok x7) (He.eqO_ok x8) (He.eqO_ok x9) ((Ls 35 (by decide)).own _ rfl) ((Ls 36 (by decide)).own _ rfl) ((Ls 37 (by decide)).own _ rfl)
end T01
set_option Elab.async false
set_option linter.all false
set_option maxRecDepth 100000
set_option maxHeartbeats 0
namespace T01
open PySem PySem.Spec PyProof.Rows L2
abbrev R : PySem.W.OpenRow := PySem.W.OpenLaw.row PySem.Challenge.rw_toldpast_k01_exceptions
def lo1 : List PySem.Str := ["InvalidInteger", "InvalidPart", "InvalidName", "Duplicate", "InvalidRow", "InvalidEdge", "InvalidNet", "Ring", "Dry", "Idle", "InvalidBook", "InvalidTurn", "InvalidMeaning", "InvalidValues", "InvalidString", "InvalidLine", "DuplicateTerm", "Mismatch", "InvalidLags", "InvalidStep", "InvalidWish", "InvalidCommand", "UnknownSource", "UnknownGate", "UnknownEdge", "UnknownSymbol", "UnknownSample", "UnknownTerm", "NoTurn", "TooLong"]
def lo2 : List PySem.Str := ["TooShort", "TooDeep", "TooMany", "EmptyLoop", "NothingToUndo", "NetError", "MissingError", "StateError", "_law_cell", "_law_box", "_law_take", "_law_made", "_law_named", "_law_kinds", "_law_bases", "_law_base_due", "_law_fields", "_law_caught", "_law_raised", "_law_thing", "_law_inner", "_law_right", "_law_alike", "_law_two_right"]
/-- the addresses that are looked at: the module's names, their classes' bodies, what stands in them, code -/
def refsR (o : Obj) : List Addr := match o.data with
  | .cls cd => [cd.ns]
  | .func fd => He.refV fd.code
  | _ => []
def dictR (o : Obj) : List Addr := match o.data with
  | .dict es _ => es.toList.flatMap fun e => He.refV e.val
  | _ => []
def viaR (g : Addr → Option Obj) (f : Obj → List Addr) (as : List Addr) : List Addr := as.flatMap fun a => match g a with
  | some o => f o
  | none => []
def asR (g : Addr → Option Obj) : List Addr :=
  let l1 := viaR g dictR [mainGlobals]
  let l2 := viaR g refsR l1
  let l3 := viaR g dictR l2
  mainGlobals :: (l1 ++ (l2 ++ (l3 ++ viaR g refsR l3)))
abbrev AlR : Type := He.AlD × Bool
def obsR (fa : List He.Fa) (fn : List He.DefD) (ex : PySem.W.Frag → Bool) (g : Addr → Option Obj) : AlR := (He.obsD fa fn (He.frG g (asR g)), ex (He.frG g (asR g)))
def hookR (fa : List He.Fa) (fn : List He.DefD) (ex : PySem.W.Frag → Bool) : PySem.W.Hook where
  α := AlR
  obs := fun s => obsR fa fn ex s.heap.get?
  val := fun _ => (He.valD fn, true)
  says := fun _ h => ∃ K : PySem.W.Frag, K.In h ∧ He.SaysD fa fn K ∧ ex K = true
  of := fun _ s e => ⟨_, He.frG_in, congrArg (fun z : AlR => z.1) e, congrArg (fun z : AlR => z.2) e⟩
  keeps := fun _ _ _ ⟨K, hK, c⟩ k => ⟨K, PySem.W.Frag.In.keeps hK k, c⟩
theorem obsR_eq {fa : List He.Fa} {fn : List He.DefD} {ex : PySem.W.Frag → Bool} {g : Addr → Option Obj} {s : Shared} (h : ∀ a, g a = s.heap.get? a) : obsR fa fn ex g = (hookR fa fn ex).obs s := by
  have e : g = s.heap.get? := funext h
  rw [e] <;> rfl
abbrev hk : PySem.W.Hook := hookR faL fnL exB
def ob (s : PySem.W.SharedT) : AlR := obsR faL fnL exB (HandSHeadRun.getT s)
theorem ob_eq (s : PySem.W.SharedT) : ob s = hk.obs s.abs := obsR_eq (HandSHeadRun.getT_eq s)
theorem run (w : World) : HandSHeadRun.RunEq R (PySem.W.view R.prog [56]) hk ob 14000 (lo1 ++ lo2) w := by
  intro os
  kernel_rfl
end T01
open PySem PySem.W PySem.Calls PyProof.Rows
theorem PySem.Challenge.cw_toldpast_k01_exceptions_holds : PySem.Challenge.rw_toldpast_k01_exceptions.Holds := by
  w_on; o_law
  refine HandSHeadRun.head_any (r := OpenLaw.row PySem.Challenge.rw_toldpast_k01_exceptions) (q := view (OpenLaw.row PySem.Challenge.rw_toldpast_k01_exceptions).prog [56]) (H := T01.hk) (ob := T01.ob) (M := 14000) (loose := T01.lo1 ++ T01.lo2) (d := HandSHeadRun.topDef (OpenLaw.row PySem.Challenge.rw_toldpast_k01_exceptions).prog 56) (kwd := []) T01.ob_eq
    (by kernel_rfl) (fun s => by kernel_rfl) T01.run (by kernel_rfl) (by kernel_rfl) (by kernel_rfl) (by rfl) (by first | assumption | decide +kernel) (by decide +kernel) ⟨rfl, rfl, rfl, rfl, rfl, by decide +kernel⟩ ?hw ?hc
  case hw => w_witness2
  case hc =>
    refine T01.walkGE (l := PySem.Challenge.rw_toldpast_k01_exceptions) (n := 63) (k := 7) (x := "_law_script") rfl (by decide) (by kernel_rfl) ⟨rfl, by decide, by decide⟩ ?F
    intro w mg fa h Y G hmg0
    obtain ⟨K, KX, c⟩ := Y
    have hmg : mg ("law" : PySem.Str) = some (.ref fa) := by
      have e : (HandSHeadRun.topDef (OpenLaw.row PySem.Challenge.rw_toldpast_k01_exceptions).prog 56).name = ("law" : PySem.Str) := by kernel_rfl
      rw [← e]
      exact hmg0
    obtain ⟨fd, hb, hF⟩ := T01.all2 (l := PySem.Challenge.rw_toldpast_k01_exceptions) (w := w) KX G hmg c.1 c.2
    exact ⟨K, fd, T01.spLaw K, KX, hb, hF, fun H a ns hl _ hS => ⟨a, ns, rfl, hS, hl, fun _ => rfl⟩⟩
#print axioms PySem.Challenge.cw_toldpast_k01_exceptions_holds
