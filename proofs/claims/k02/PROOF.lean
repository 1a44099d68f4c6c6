import PyProof.Rows.All
import Wide.All
import OpenK.AllK
import Wide.FinOn
import PyProof.EqAt
import PyProof.EqKinds
import PyProof.TupleCall
import PyProof.Rows.ReprR
import HandS.Base
import HandS.Call
import HandS.List
import HandS.Comp
import HandS.Ends
import HandS.Dict
import HandS.Iter
import HandS.Text
import HandS.Words
import HandS.WordsList
import HandS.Defaults
import PyProof.StrBlock2
import HandS.Wide
import HandS.Codes
import PyProof.ReprLen
import PyProof.FitsInt
import HandS.Exc
import HandS.ExcInit
import HandS.ExcValue
import HandS.IsInst
import KE.KExcInit
import KE.KExcIs
import HandS.ExcField
import HandS.ExcIs
import HandS.MakeKwOnly
import HandS.ForDict
import HandS.Walk
import KE.GoesEnum
import KE.GoesMore
import HandS.DictComp
import HandS.Conv
import HandS.More
import HandS.Style
import HandS.TryOnly
import HandS.Head0
import HandS.Head1
import HandS.Head2
import HandS.HeadEnd
import HandS.HeadHook1
import HandS.HeadHook2
import HandS.HeadHook3
import HandS.HeadHook4
import KE.KStateDown
import PySem.Challenge.RW_toldpast_k02_names_integers_and_lists_of
set_option Elab.async false
set_option linter.all false
set_option maxRecDepth 100000
set_option maxHeartbeats 4000000
/-! what the laws of this set share: promises of defs that are called where no repr is under way, and repr itself -/
namespace Tp
open PySem PySem.Spec PyProof.Rows L2

/-- a def keeps its promise wherever no repr is under way -/
structure FnG (P : Program) (w : World) (K : PySem.W.Frag) (mg : Str → Option Value) (base : Heap) (CX : CXT) (k : Nat)
    (f : Addr) (fd : FuncData) (ps : List Str) (sp : Sp) : Prop where
  len : ∀ vs H Q E, sp vs H Q E → vs.length = ps.length
  run : ∀ (B : Around) (out : List Env) (s : Shared) (H : Hp) (args : Args) (us : List Value) (vs : List V) (Q : VK) (E : XK),
    Room k B → B.guards = some [] → Env0 P w K mg base B out s H → BindsTo s fd args (ps.zip us) → Vals vs us → sp vs H Q E →
    codeAny (model P w) B (.call (.ref f) args) (CR CX out P w H s Q E) s

section
variable {P : Program} {w : World} {K : PySem.W.Frag} {mg : Str → Option Value} {base : Heap} {CX : CXT} {j k : Nat}
variable {f : Addr} {fd : FuncData} {ps : List Str} {sp sp' : Sp}
theorem FnG.of (F : FnOk P w K mg base CX k f fd ps sp) : FnG P w K mg base CX k f fd ps sp :=
  ⟨F.len, fun B out s H args us vs Q E hr _ he => F.run B out s H args us vs Q E hr he⟩
theorem FnG.up (F : FnG P w K mg base CX j f fd ps sp) (h : j ≤ k) : FnG P w K mg base CX k f fd ps sp :=
  ⟨F.len, fun B out s H args us vs Q E hr => F.run B out s H args us vs Q E (hr.mono h)⟩
theorem deeper_guards {B : Around} {env : Env} {g : List Code} (h : B.guards = some g) : (B.deeper env).guards = some g := h

/-- a body's reading gives the promise -/
theorem fnG_of {nm qual : Str} {params : Arguments} {body : List Stmt} {sc : Scope} {dV kV doc pm cdv ct oc : Value} {an od : Option Addr}
    {osl : Array (Option Value)} {N : List Str} (lk : K.lookup f = some ⟨oc, od, .func (PySem.W.fnOf nm qual params body sc dV kV doc pm an cdv ct), osl⟩)
    (hcd : PySem.W.codeIn K cdv qual = true) (S : FnScope N ps sc) (len : ∀ vs H Q E, sp vs H Q E → vs.length = ps.length)
    (hbody : ∀ (B : Around) (out : List Env) (s : Shared) (H : Hp) (vs : List V) (Q : VK) (E : XK),
      Room k (B.deeper (envOfC qual sc s.heap.objs.size f cdv)) → (B.deeper (envOfC qual sc s.heap.objs.size f cdv)).guards = some [] → sp vs H Q E →
      ∃ t, PSs (cxOf CX P w K mg base N qual sc f cdv B out s H E) body t ∧ t { nx := fun _ H' => Q .non H', rt := Q } (start N vs) H) :
    FnG P w K mg base CX (k + 1) f (PySem.W.fnOf nm qual params body sc dV kV doc pm an cdv ct) ps sp := by
  refine ⟨len, fun B out s H args us vs Q E hr hg e0 hb rv hsp => ?_⟩
  obtain ⟨t, ht, hq⟩ := hbody B out s H vs Q E (hr.deeper _) (deeper_guards hg) hsp
  have hl := len _ _ _ _ hsp
  have KX : K.In s.heap := e0.mod.kin.keeps fun b o e => (e0.bs b o e).1
  have lim : s.heap.NoLimit := e0.mod.nolimit.keeps fun b o e => (e0.bs b o e).1
  have hkind : ∀ y ∈ ps.zip us, sc.names.lookup y.1 = some .local ∨
      (sc.names.lookup y.1 = some .cell ∧ ((cellsFrom (s.heap.objs.size + 1) sc.names []).lookup y.1).isSome = true) := by
    rintro ⟨n, v⟩ hy
    exact (S.par n (List.of_mem_zip hy).1).imp id fun q => ⟨q, PySem.W.cellsFrom_some _ _ _ (.inl q)⟩
  refine codeAny_call_function hr.depth (KX _ _ lk) rfl S.co S.gen rfl (PySem.W.codeRec_of KX hcd) (hb _ _ _ _ ?_)
  refine wpAny_newFunctionEnv_cells S.kind hkind fun env he s1 x => ?_
  subst he
  refine ⟨lim.keeps x.toInCall.keep, codeAny_func ?_⟩
  have I : Inv (cxOf CX P w K mg base N qual sc f cdv B out s H E) [] (start N vs) H s1 := inv_start S hr.hd e0 hl rv x
  refine wpAny_mono (ht.run [] s1 (start N vs) H _ I hq) (fun fl s' hs => ?_) fun e s' hs => hs
  cases fl with
  | ret u =>
    obtain ⟨v, τ, G, J, rw', q⟩ := hs
    exact ⟨v, G, J.os, J.bare, J.base, J.hok, rw', q⟩
  | next =>
    obtain ⟨τ, G, J, q⟩ := hs
    exact ⟨V.non, G, J.os, J.bare, J.base, J.hok, rfl, q⟩
  | brk => exact hs.elim fun _ z => z.elim fun _ z => z.2.elim
  | cont => exact hs.elim fun _ z => z.elim fun _ z => z.2.elim

/-- a def of the text, its body walked -/
theorem FunG.ok {x qual : Str} {st : Stmt} {N : List Str} (F : Fun K x qual st f fd) (S : FnScope N ps (defScope st)) (len : ∀ vs H Q E, sp vs H Q E → vs.length = ps.length)
    (hb : ∀ (cdv : Value) (B : Around) (out : List Env) (s : Shared) (H : Hp) (vs : List V) (Q : VK) (E : XK),
      Room k (B.deeper (envOfC qual (defScope st) s.heap.objs.size f cdv)) → (B.deeper (envOfC qual (defScope st) s.heap.objs.size f cdv)).guards = some [] → sp vs H Q E →
      ∃ t, PSs (cxOf CX0 P w K mg base N qual (defScope st) f cdv B out s H E).nox (defBody st) t ∧ t { nx := fun _ H' => Q .non H', rt := Q } (start N vs) H) :
    FnG P w K mg base CX0 (k + 1) f fd ps sp := by
  obtain ⟨oc, od, kV, doc, pm, an, cdv, ct, osl, rfl, lk, hcd⟩ := F.ex
  refine fnG_of lk hcd S len fun B out s H vs Q E hr hg hsp => ?_
  obtain ⟨t, h, q⟩ := hb cdv B out s H vs Q E hr hg hsp
  exact ⟨t, h.nox, q⟩
end

/-- what a caller knows of a def of the module: its promise, where it stands -/
structure Cg (P : Program) (w : World) (K : PySem.W.Frag) (mg : Str → Option Value) (base : Heap) (k : Nat) (x : Str) (sp : Sp) : Prop where
  ex : ∃ (f : Addr) (fd : FuncData) (ps : List Str), FnG P w K mg base CX0 k f fd ps sp ∧ mg x = some (.ref f) ∧ PySem.W.keepIn K (.ref f) = true ∧ Binds K fd ps []
theorem Cg.mk' {P : Program} {w : World} {K : PySem.W.Frag} {mg : Str → Option Value} {base : Heap} {k : Nat} {x qual : Str} {sp : Sp} {f : Addr} {fd : FuncData} {ps : List Str} {st : Stmt}
    (F : Fun K x qual st f fd) (G : FnG P w K mg base CX0 k f fd ps sp) (hm : mg x = some (.ref f)) (hb : Binds K fd ps []) : Cg P w K mg base k x sp := ⟨⟨f, fd, ps, G, hm, F.kp, hb⟩⟩
def tCl (sp : Sp) (t : TA) : TE := fun σ H Q => t σ H fun vs H1 => sp vs H1 Q E0
section
variable {X : Cx} {j k : Nat} {x : Str} {p pos : Pos} {e : Expr} {es : List Expr} {t : TA} {sp : Sp}
theorem pe_g (c : Cg X.prog X.w X.K X.mg X.base j x sp) (hr : Room k X.A) (hG : X.A.guards = some []) (hk : j ≤ k) (hg : Gl X x) (ha : PA X (e :: es) t)
    (hdb : (x == ("__debug__" : Str)) = false := by decide) (he : starEach (e :: es) X.env = (false, eval e X.env) :: starEach es X.env := by rfl)
    (hpl : (backTo pos (starEach es X.env)).any (·.1) = false := by rfl) : PE X (.Call (.Name x p) (e :: es) [] pos) (tCl sp t) := by
  obtain ⟨f, fd, ps, F, hm, hkp, hb⟩ := c.ex
  refine ⟨fun pins s σ H Q I h => wpAny_Call_Name_kw (ld_glob I hg hm ?_ hdb)⟩
  refine PySem.W.callWith_K (h₀ := X.base) I.ok.mod.kin hkp (thn (ha.run pos pins s σ H _ I h) fun us s1 hh => ?_) he hpl
  obtain ⟨vs, H1, I1, r, q⟩ := hh
  refine ⟨I1.kIn, ?_⟩
  have hl : (us ++ []).length = ps.length := by
    rw [List.append_nil, ← r.length]
    exact F.len _ _ _ _ q
  have hbt := hb s1 us I1.kIn hl
  rw [List.append_nil] at hbt
  refine wpAny_call (codeAny_mono (F.run X.A X.stack s1 H1 ⟨us, []⟩ us vs Q E0 (hr.mono hk) hG I1.env0 hbt r q) fun r' s' hq => ?_)
  cases r' with
  | error e' => exact (show False from hq).elim
  | ok fl =>
    cases fl with
    | ret u => exact I1.after hq
    | next => exact (show False from hq).elim
    | brk => exact (show False from hq).elim
    | cont => exact (show False from hq).elim
end

/-! ### repr of plain data -/
mutual
theorem Dp.plain {K : PySem.W.Frag} {H : Hp} : ∀ (d : PyData) (v : V), Dp K H v d → d.hasDict = false
  | .none, _, _ => by simp only [PyData.hasDict]
  | .bool _, _, _ => by simp only [PyData.hasDict]
  | .int _, _, _ => by simp only [PyData.hasDict]
  | .str _, _, _ => by simp only [PyData.hasDict]
  | .list ds, _, h => by
    cases h with
    | lst _ ha => simpa only [PyData.hasDict] using Dp.plainAll ds _ ha
  | .tuple ds, _, h => by
    cases h with
    | tup _ ha => simpa only [PyData.hasDict] using Dp.plainAll ds _ ha
  | .dict _, _, h => by cases h
theorem Dp.plainAll {K : PySem.W.Frag} {H : Hp} : ∀ (ds : List PyData) (vs : List V), DpAll K H vs ds → PyData.hasDictAll ds = false
  | [], _, _ => by simp only [PyData.hasDictAll]
  | d :: ds, _, h => by
    cases h with
    | cons h1 h2 =>
      simp only [PyData.hasDictAll, Bool.or_eq_false_iff]
      exact ⟨Dp.plain d _ h1, Dp.plainAll ds _ h2⟩
end
def rRepr (K : PySem.W.Frag) : List V → Hp → VK → Prop := fun xs H Q => ∃ (a : Addr) (d : PyData), xs = [.ref a] ∧ Dp K H (.ref a) d ∧ d.showable = true ∧ d.depth ≤ 60 ∧ d.shown.length ≤ sizeLine ∧ Q (.str d.shown) H
theorem call_repr {X : Cx} {k : Nat} (hr : Room k X.A) (hG : X.A.guards = some []) : CallR X (.builtin "repr") (rRepr X.K) := by
  intro pins s σ H xs us Q I r h
  obtain ⟨a, d, rfl, hd, hs, hdep, hz, q⟩ := h
  obtain ⟨u, rfl, r1⟩ := vals1 r
  cases (show u = Value.ref a from r1)
  obtain ⟨as, hrd⟩ := Dp.reads I d _ _ hd rfl
  have hu := hr.units
  exact repr_of_reads' hrd hs (PyData.noDict_hsm (Dp.plain d _ hd)) hG (by omega) (fun _ _ e => e) (fun h' u tk hk => ⟨.str d.shown, H, I.kept hk, ⟨u, rfl⟩, q⟩) hz

/-! ### the law's call -/
theorem law_callG {P : Program} {w : World} {K : PySem.W.Frag} {mg mb : Str → Option Value} {k : Nat} {fa a : Addr} {fd : FuncData} {x : Str} {sp : Sp} {s1 : Shared} {vs : List Value} {ns : List Int}
    (KX : K.In s1.heap) (hns : s1.heap.Ns mainGlobals mg) (hb : s1.heap.Ns builtinsNs mb) (hbb : ∀ x : Str, x ≠ "__name__" → mb x = bootBuiltins x) (hlim : s1.heap.NoLimit) (hg : s1.gens = #[])
    (ha : s1.heap.get? a = some { cls := .type "list", data := .seq vs.toArray }) (hi : IntsAre vs ns) (hl : ns.length ≤ sizeLine) (hr : Room k callerA)
    (F : ∀ base : Heap, K.In base → base.Ns mainGlobals mg → FnG P w K mg base CX0 k fa fd [x] sp) (hbind : ∀ (s : Shared) (u : Value), BindsTo s fd ⟨[u], []⟩ [(x, u)])
    (hsp : ∀ H : Hp, Only H → SqL K H a (ns.map V.int) → sp [.ref a] H (fun v _ => v = .bl true) E0) :
    codeAny (model P w) callerA (.call (.ref fa) ⟨[.ref a], []⟩) (fun r s' => r = .ok (.ret (.bool true)) ∧ OldK s1.heap s'.heap ∧ s'.os = s1.os ∧ AllBare s'.gens) s1 := by
  -- the layer's own end, asked of a promise that holds of this one call alone, by a def that keeps none elsewhere
  have rv := vals_ints hi
  have lv := hi.length
  have core : ∀ H : Hp, Only H → SqL K H a (ns.map V.int) → HOk P w H s1.heap → (∀ b, H b ≠ none → b = a) → (H a ≠ none → K.lookup a = none) →
      codeAny (model P w) callerA (.call (.ref fa) ⟨[.ref a], []⟩) (fun r s' => r = .ok (.ret (.bool true)) ∧ OldK s1.heap s'.heap ∧ s'.os = s1.os ∧ AllBare s'.gens) s1 := by
    intro H hO hS hok hA hK
    have noA : ∀ {b : Addr} {o : Obj} {es : Array DictEntry} {ep : Nat}, s1.heap.get? b = some o → o.data = .dict es ep → H b = none := by
      intro b o es ep e d
      cases q : H b with
      | none => rfl
      | some u =>
        have eb := hA b (by rw [q]; exact Option.some_ne_none _)
        rw [eb, ha] at e
        cases e
        cases (show Data.seq vs.toArray _ = Data.dict es ep from d)
    have nsK : ∀ {b : Addr} {m : Str → Option Value}, s1.heap.Ns b m → (hidT s1.heap H).Ns b m := by
      intro b m hm
      obtain ⟨o, es, ep, e, d, r⟩ := hm
      exact ⟨o, es, ep, hidT_get e (noA e d), d, r⟩
    have hKb : K.In (hidT s1.heap H) := by
      intro b o e
      refine hidT_get (KX b o e) ?_
      cases q : H b with
      | none => rfl
      | some u =>
        have eb := hA b (by rw [q]; exact Option.some_ne_none _)
        rw [eb] at e q
        rw [hK (by rw [q]; exact Option.some_ne_none _)] at e
        cases e
    obtain ⟨mc, l1, l2⟩ := hlim
    have hM : Mod K mg (hidT s1.heap H) := ⟨hKb, nsK hns, ⟨mb, nsK hb, hbb⟩, ⟨mc, nsK l1, l2⟩⟩
    have e0 : Env0 P w K mg (hidT s1.heap H) callerA [] s1 H :=
      ⟨rfl, hM, fun b o e => of_hidT e, Nat.le_of_eq (hidT_size _ _), trivial, fun b hb => (List.not_mem_nil hb).elim, hok, .of_eq hg⟩
    refine codeAny_mono ((F _ hKb (nsK hns)).run callerA [] s1 H ⟨[.ref a], []⟩ [.ref a] [.ref a] _ _ hr rfl e0 (hbind s1 (.ref a)) (.cons rfl .nil) (hsp H hO hS)) ?_
    intro r s' h
    cases r with
    | error e => exact (show False from h).elim
    | ok fl =>
      cases fl with
      | next => exact (show False from h).elim
      | brk => exact (show False from h).elim
      | cont => exact (show False from h).elim
      | ret u =>
        obtain ⟨v, H', os, bare, un, hok', r', q⟩ := h
        cases (show v = .bl true from q)
        cases (show u = Value.bool true from r')
        refine ⟨rfl, OldK.of_keep fun b o e => ?_, os, bare⟩
        cases q : H b with
        | none => exact un.keep b o e q (fun z => (List.not_mem_nil z).elim) (fun z => (List.not_mem_nil z).elim)
        | some u =>
          rcases hO b with z | ⟨ob, xs, z⟩
          · rw [q] at z
            cases z
          · have e1 := (hok b _ z).1
            have e2 := (hok' b _ (un.frzs b ob _ z)).1
            rw [e] at e1
            cases e1
            exact e2
  cases hk : K.lookup a with
  | some o =>
    have e := KX a o hk
    rw [ha] at e
    cases e
    refine core (fun _ => none) (fun _ => .inl rfl) (.inr ⟨_, vs.toArray, _, hk, rfl, rfl, rfl, ?_, ?_⟩) (fun b u z => by cases (show (none : Option HO) = some u from z)) (fun b z => (z rfl).elim) fun z => (z rfl).elim
    · rw [List.size_toArray, lv]
      exact hl
    · simpa using rv
  | none =>
    refine core (fun b => if b = a then some (.frz { cls := .type "list", data := .seq vs.toArray } (.lst (ns.map V.int))) else none) (fun b => ?_) (.inl (.inr ⟨_, if_pos rfl⟩)) (fun b u z => ?_) (fun b z => ?_) fun _ => hk
    · by_cases hb : b = a
      · exact .inr ⟨_, _, if_pos hb⟩
      · exact .inl (if_neg hb)
    · by_cases hb : b = a
      · cases (if_pos hb).symm.trans z
        cases hb
        refine ⟨ha, ?_, vs, _, rv, ha⟩
        rw [List.length_map]
        exact hl
      · cases (if_neg hb).symm.trans z
    · by_cases hb : b = a
      · exact hb
      · exact (z (if_neg hb)).elim

/-- the goal that the head leaves, from the law's promise -/
theorem walkG {l : PySem.W.OpenLaw} {n k : Nat} {q : Program} {loose : List Str} {XP : (Str → Option Value) → Heap → Prop} {YP : World → Heap → Prop} {d : DefRec} {K : Params → PySem.W.Frag} {sp : PySem.W.Frag → Sp} {x : Str}
    (hn : l.most = some n) (hn2 : n ≤ sizeLine) (hdf : d.params.defaults = []) (hr : Room k callerA) (hY : ∀ (w : World) (h : Heap), YP w h → (K w.params).In h)
    (F : ∀ (w : World) (mg : Str → Option Value) (fa : Addr) (h : Heap), (K w.params).In h → h.Ns mainGlobals mg → mg d.name = some (.ref fa) →
      ∃ fd : FuncData, (∀ (s : Shared) (u : Value), BindsTo s fd ⟨[u], []⟩ [(x, u)]) ∧
        ∀ base : Heap, (K w.params).In base → base.Ns mainGlobals mg → FnG l.prog w (K w.params) mg base CX0 k fa fd [x] (sp (K w.params)))
    (hsp : ∀ (K : PySem.W.Frag) (H : Hp) (a : Addr) (ns : List Int), ns.length ≤ n → Only H → SqL K H a (ns.map V.int) → sp K [.ref a] H (fun v _ => v = .bl true) E0) :
    PySem.W.WalkO q loose XP YP l.row.toRowW d [] (fun f vs => PySem.call f vs) := by
  refine Att.attach_call hn hdf fun w s0 s1 mg mb fa o pm cd doc a vs ns G Y ho hd hcd hmg hobj hints hlen hg => ?_
  have KX := hY w _ Y
  obtain ⟨fd, hb, hF⟩ := F w mg fa _ KX G.T.g hmg
  exact law_callG KX G.T.g G.T.b G.T.builtins G.T.nolimit hg hobj hints (Nat.le_trans hlen hn2) hr hF hb fun H hO hS => hsp (K w.params) H a ns hlen hO hS
end Tp
set_option Elab.async false
set_option linter.all false
set_option maxRecDepth 100000
set_option maxHeartbeats 4000000
/-! the draws: a box of three ints, of which each draw takes some -/
namespace Tp
open PySem PySem.Spec PyProof.Rows L2
/-- a box at p, from which at most n draws were mixed -/
def BoxAt (H : Hp) (p : Addr) (n : Nat) : Prop := ∃ a b c : Int, H p = some (.lst [.int a, .int b, .int c]) ∧ 0 ≤ a ∧ 0 ≤ b ∧ b < 2147483629 ∧ 0 ≤ c ∧ c ≤ (n : Int)
theorem BoxAt.mono {H : Hp} {p : Addr} {n m : Nat} (h : BoxAt H p n) (hl : n ≤ m) : BoxAt H p m := by
  obtain ⟨a, b, c, h1, h2, h3, h4, h5, h6⟩ := h
  exact ⟨a, b, c, h1, h2, h3, h4, h5, by omega⟩
/-- all that was tracked is as it was, but at p -/
def Keep (p : Addr) (H H' : Hp) : Prop := ∀ b o, b ≠ p → H b = some o → H' b = some o
theorem Keep.refl (p : Addr) (H : Hp) : Keep p H H := fun _ _ _ e => e
theorem Keep.trans {p : Addr} {H H1 H2 : Hp} (a : Keep p H H1) (b : Keep p H1 H2) : Keep p H H2 := fun c o hc e => b c o hc (a c o hc e)
theorem Keep.of {p : Addr} {H H' : Hp} (a : Same H H') : Keep p H H' := fun c o _ e => a c o e
theorem Keep.put {p : Addr} {H : Hp} {o : HO} : Keep p H (upd H p o) := fun c u hc e => by rw [upd_ne hc]; exact e
theorem Same.put {H : Hp} {q : Addr} {o : HO} (h : H q = none) : Same H (upd H q o) := fun c u e => by rw [upd_ne (ne_of_none e h)]; exact e
theorem Keep.new {p q : Addr} {H : Hp} {o : HO} (h : H q = none) : Keep p H (upd H q o) := .of (Same.put h)
theorem BoxAt.keep {H H' : Hp} {p : Addr} {n : Nat} (h : BoxAt H p n) (k : Same H H') : BoxAt H' p n := by
  obtain ⟨a, b, c, h1, h2⟩ := h
  exact ⟨a, b, c, k _ _ h1, h2⟩
theorem BoxAt.ne {H : Hp} {p q : Addr} {n : Nat} (h : BoxAt H p n) (hq : H q = none) : p ≠ q := by
  obtain ⟨a, b, c, h1, _⟩ := h
  exact ne_of_none h1 hq
theorem BoxAt.new {H : Hp} {p q : Addr} {n : Nat} {o : HO} (h : BoxAt H p n) (hq : H q = none) : BoxAt (upd H q o) p n := h.keep (Same.put hq)
theorem BoxAt.put {H : Hp} {p q : Addr} {n : Nat} {o : HO} (h : BoxAt H p n) (hq : q ≠ p) : BoxAt (upd H q o) p n := by
  obtain ⟨a, b, c, h1, h2⟩ := h
  exact ⟨a, b, c, (upd_ne hq.symm).trans h1, h2⟩
/-- all that was tracked is as it was, but at p and at d -/
def Keep2 (p d : Addr) (H H' : Hp) : Prop := ∀ b o, b ≠ p → b ≠ d → H b = some o → H' b = some o
theorem Keep2.of {p d : Addr} {H H' : Hp} (k : Keep p H H') : Keep2 p d H H' := fun b o h1 _ e => k b o h1 e
theorem Keep2.put {p d : Addr} {H G : Hp} {o : HO} (k : Keep2 p d H G) : Keep2 p d H (upd G d o) := fun b u h1 h2 e => (upd_ne h2).trans (k b u h1 h2 e)
theorem Keep2.next {p d : Addr} {H G G' : Hp} (k : Keep2 p d H G) (j : Keep p G G') : Keep2 p d H G' := fun b u h1 h2 e => j b u h1 (k b u h1 h2 e)
theorem Keep2.fin {p d : Addr} {H G : Hp} (k : Keep2 p d H G) (hd : H d = none) : Keep p H G := fun b u h1 e => k b u h1 (ne_of_none e hd) e
theorem keep_of {p : Addr} {H H' : Hp} (h : ∀ b, b ≠ p → H' b = H b) : Keep p H H' := fun b o hb e => by rw [h b hb]; exact e
/-- a list that is read stands on, but at p -/
theorem Keep.seq {K : PySem.W.Frag} {p a : Addr} {H H' : Hp} {xs : List V} (k : Keep p H H') (ha : a ≠ p) (h : SqL K H a xs) : SqL K H' a xs := by
  rcases h with (h | ⟨o, h⟩) | h
  · exact .inl (.inl (k _ _ ha h))
  · exact .inl (.inr ⟨o, k _ _ ha h⟩)
  · exact .inr h

/-- _law_cell: some int of the script, or some other -/
def spCellT (K : PySem.W.Frag) : Sp := fun vs H Q _ => ∃ (a : Addr) (ns : List Int) (k : Nat), vs = [.ref a, .int k] ∧ SqL K H a (ns.map V.int) ∧ ns.length ≤ 63 ∧ k ≤ 1000 ∧ ∀ z : Int, Q (.int z) H
/-- _law_box -/
def spBox : Sp := fun vs H Q _ => ∃ z : Int, vs = [.int z] ∧ ∀ p H', H p = none → BoxAt H' p 0 → Keep p H H' → Q (.ref p) H'
/-- _law_take -/
def spTake : Sp := fun vs H Q _ => ∃ (p : Addr) (m : Int) (n : Nat), vs = [.ref p, .int m] ∧ BoxAt H p n ∧ 0 < m ∧ m.natAbs.log2 < 1000 ∧ n ≤ 1000000 ∧
  ∀ (d : Int) (H' : Hp), 0 ≤ d → d < m → BoxAt H' p (n + 1) → (∀ b, b ≠ p → H' b = H b) → Q (.int d) H'

end Tp
set_option Elab.async false
set_option linter.all false
set_option maxRecDepth 100000
set_option maxHeartbeats 4000000
namespace T02
open PySem PySem.Spec PyProof.Rows L2 Tp
def top (i : Nat) : Stmt := PySem.Challenge.pw_toldpast_k02_names_integers_and_lists_of.main.body.getD i (.Pass ⟨0, 0, 0, 0⟩)
abbrev sCell : Stmt := top 73
abbrev sBox : Stmt := top 74
abbrev sTake : Stmt := top 75
section
variable {P : Program} {w : World} {K : PySem.W.Frag} {mg : Str → Option Value} {base : Heap} {f : Addr} {fd : FuncData}
theorem scCell : FnScope ["_law_script", "_law_k"] ["_law_script", "_law_k"] (defScope sCell) := ⟨rfl, rfl, rfl, by decide +kernel, rfl, by decide +kernel, by decide +kernel⟩
theorem ok_cell (F : Fun K "_law_cell" "_law_cell" sCell f fd) (mL : mg "len" = none) : FnG P w K mg base CX0 1 f fd ["_law_script", "_law_k"] (spCellT K) := by
  refine FunG.ok F scCell (fun vs H Q E h => ?_) (fun cdv B out s H vs Q E hr hG h => ?_)
  · obtain ⟨a, ns, k, rfl, _⟩ := h
    rfl
  · obtain ⟨a, ns, k, rfl, hs, hl, hk, q⟩ := h
    refine ⟨_, pss_cons (ps_if (pt_cmpR op_lt (pv 1) (pe_callB call_len (by rfl) mL PySem.boot_len (pa_cons (pv 0) pa_nil)) (nomark _)) (pss_one (ps_ret (pe_ix ix_list (pv 0) (pv 1) fun _ _ => rfl))) pss_nil)
      (pss_one (ps_ret (pe_op op_add (pe_op op_mul pe_int (pv 1)) pe_int))), ?_⟩
    refine ⟨_, rfl, _, rfl, _, _, rfl, .inl ⟨_, hs, rfl⟩, _, _, rfl, rfl, _, rfl, ?_⟩
    refine ite2 (fun hlt => ?_) (fun hge => ?_)
    · have hlt' := of_decide_eq_true hlt
      rw [List.length_map] at hlt'
      have hkl : k < ns.length := by omega
      refine ⟨_, rfl, _, rfl, a, _, _, .int (ns[k]), rfl, rfl, hs, atI_nat ?_, q _⟩
      rw [List.getElem?_map, List.getElem?_eq_getElem hkl]
      rfl
    · refine ⟨_, rfl, _, _, rfl, rfl, .inl ⟨by decide, by decide⟩, _, _, rfl, rfl, q _⟩
theorem scBox : FnScope ["_law_cell_here"] ["_law_cell_here"] (defScope sBox) := ⟨rfl, rfl, rfl, by decide +kernel, rfl, by decide +kernel, by decide +kernel⟩
theorem ok_box (F : Fun K "_law_box" "_law_box" sBox f fd) (mM : mg "max" = none) : FnG P w K mg base CX0 1 f fd ["_law_cell_here"] spBox := by
  refine FunG.ok F scBox (fun vs H Q E h => ?_) (fun cdv B out s H vs Q E hr hG h => ?_)
  · obtain ⟨z, rfl, _⟩ := h
    rfl
  · obtain ⟨z, rfl, q⟩ := h
    refine ⟨_, pss_one (ps_ret (pe_lst (pa_cons (pe_callB (call_max2 rfl) (by rfl) mM (by decide +kernel) (pa_cons pe_int (pa_cons (pe_op op_sub (pv 0) (pe_op op_pow pe_int pe_int)) pa_nil)))
      (pa_cons (pe_op op_mod (pv 0) pe_int) (pa_cons pe_int pa_nil))))), ?_⟩
    refine ⟨_, rfl, _, _, rfl, rfl, ⟨by decide, by decide, by decide⟩, _, _, rfl, rfl, _, _, rfl, _, rfl, _, _, rfl, rfl, (by decide : (0:Int) < 2147483629), ?_⟩
    refine ⟨(by show 3 ≤ sizeLine; decide), fun p hp => ?_⟩
    refine q p _ hp ⟨_, _, _, upd_same, ?_, Int.emod_nonneg _ (by decide), Int.emod_lt_of_pos _ (by decide), by decide, by decide⟩ Keep.put
    split <;> omega
theorem scTake : FnScope ["_law_box_here", "_law_many", "_law_digit", "_law_mixed"] ["_law_box_here", "_law_many"] (defScope sTake) := ⟨rfl, rfl, rfl, by decide +kernel, rfl, by decide +kernel, by decide +kernel⟩
theorem pow_small {x : Int} {b : Nat} (h0 : 0 ≤ x) (h : x < 2 ^ 63) : x.natAbs < 2 ^ 64 := by omega
theorem ok_take (F : Fun K "_law_take" "_law_take" sTake f fd) : FnG P w K mg base CX0 1 f fd ["_law_box_here", "_law_many"] spTake := by
  refine FunG.ok F scTake (fun vs H Q E h => ?_) (fun cdv B out s H vs Q E hr hG h => ?_)
  · obtain ⟨p, m, n, rfl, _⟩ := h
    rfl
  · obtain ⟨p, m, n, rfl, ⟨a, b, c, hp, ha, hb, hb2, hc, hcn⟩, hm, hm2, hn, q⟩ := h
    refine ⟨_, pss_cons (ps_if (pt_cmpR op_gt (pe_ix ix_list (pv 0) pe_int fun _ _ => rfl) pe_int (nomark _))
        (pss_cons (ps_set (i := 2) scTake.nd rfl (.inl rfl) (pe_op op_mod (pe_ix ix_list (pv 0) pe_int fun _ _ => rfl) (pv 1)))
          (pss_cons (ps_asg (pe_op op_fdivW (pe_ix ix_list (pv 0) pe_int fun _ _ => rfl) (pv 1)) (pg_sub (pv 0) pe_int set_list))
            (pss_one (ps_ret (pv 2))))) pss_nil)
      (pss_cons (ps_asg (pe_op op_add (pe_ix ix_list (pv 0) pe_int fun _ _ => rfl) pe_int) (pg_sub (pv 0) pe_int set_list))
        (pss_cons (ps_set (i := 3) scTake.nd rfl (.inl rfl) (pe_op op_mod (pe_op op_pow (pe_op op_add (pe_op op_add (pe_ix ix_list (pv 0) pe_int fun _ _ => rfl) (pe_op op_mul pe_int (pe_ix ix_list (pv 0) pe_int fun _ _ => rfl))) pe_int) pe_int) pe_int))
          (pss_cons (ps_set (i := 3) scTake.nd rfl (.inl rfl) (pe_op op_mod (pe_op op_pow (pe_op op_add (pv 3) (pe_op op_mul pe_int (pe_ix ix_list (pv 0) pe_int fun _ _ => rfl))) pe_int) pe_int))
            (pss_one (ps_ret (pe_op op_mod (pe_op op_fdiv (pv 3) pe_int) (pv 1))))))), ?_⟩
    have sq : SqL K H p [V.int a, V.int b, V.int c] := SqL.of hp
    refine ⟨_, rfl, p, _, _, .int a, rfl, rfl, sq, rfl, _, _, rfl, rfl, _, rfl, ?_⟩
    refine ite2 (fun h1 => ?_) (fun h1 => ?_)
    · have h1' := of_decide_eq_true h1
      refine ⟨_, rfl, p, _, _, .int a, rfl, rfl, sq, rfl, _, rfl, _, _, rfl, rfl, hm, ?_⟩
      refine ⟨_, rfl, p, _, _, .int a, rfl, rfl, sq, rfl, _, rfl, _, _, rfl, rfl, ⟨hm, by omega⟩, _, rfl, p, _, _, 0, rfl, rfl, hp, rfl, ?_⟩
      refine ⟨_, rfl, q _ _ (Int.emod_nonneg _ (by omega)) (Int.emod_lt_of_pos _ hm) ⟨_, _, _, upd_same, ?_, hb, hb2, hc, by omega⟩ fun x hx => upd_ne hx⟩
      exact Int.ediv_nonneg (by omega) (by omega)
    · have sq2 : SqL K (upd H p (.lst [.int a, .int b, .int (c + 1)])) p [V.int a, V.int b, V.int (c + 1)] := SqL.of upd_same
      refine ⟨_, rfl, p, _, _, .int c, rfl, rfl, sq, rfl, _, _, rfl, rfl, _, rfl, p, _, _, 2, rfl, rfl, hp, rfl, ?_⟩
      refine ⟨_, rfl, p, _, _, .int b, rfl, rfl, sq2, rfl, _, rfl, p, _, _, .int (c + 1), rfl, rfl, sq2, rfl, _, _, rfl, rfl, .inl ⟨by decide, by decide⟩, _, _, rfl, rfl, _, _, rfl, rfl, _, _, rfl, rfl, ⟨by decide, by decide, by omega⟩, _, _, rfl, rfl, (by decide : (0 : Int) < 2147483647), ?_⟩
      have hx1 := Int.emod_nonneg ((b + 15486173 * (c + 1) + 1249) ^ (5 : Int).toNat) (by decide : (2147483647 : Int) ≠ 0)
      have hx2 := Int.emod_lt_of_pos ((b + 15486173 * (c + 1) + 1249) ^ (5 : Int).toNat) (by decide : (0 : Int) < 2147483647)
      generalize (b + 15486173 * (c + 1) + 1249) ^ (5 : Int).toNat % 2147483647 = y at hx1 hx2 ⊢
      refine ⟨_, rfl, _, rfl, p, _, _, .int (c + 1), rfl, rfl, sq2, rfl, _, _, rfl, rfl, .inl ⟨by decide, by decide⟩, _, _, rfl, rfl, _, _, rfl, rfl, ⟨by decide, by decide, by omega⟩, _, _, rfl, rfl, (by decide : (0 : Int) < 2147483587), ?_⟩
      generalize (y + 104711 * (c + 1)) ^ (3 : Int).toNat % 2147483587 = z
      refine ⟨_, rfl, _, _, rfl, rfl, ⟨by decide, by decide⟩, _, rfl, _, _, rfl, rfl, hm, ?_⟩
      exact q _ _ (Int.emod_nonneg _ (by omega)) (Int.emod_lt_of_pos _ hm) ⟨_, _, _, upd_same, ha, hb, hb2, by omega, by omega⟩ fun x hx => upd_ne hx
end
end T02
set_option Elab.async false
set_option linter.all false
set_option maxRecDepth 100000
set_option maxHeartbeats 4000000
/-! texts of bounded length, data whose repr fits -/
namespace Tp
open PySem PySem.Spec PyProof.Rows L2
/-! ### texts -/
structure Tz (n : Nat) (z : Str) : Prop where
  le : (TL.tl z).length ≤ n
  sm : ∀ c ∈ TL.tl z, c < 256
theorem Tz.mono {n m : Nat} {z : Str} (h : Tz n z) (hl : n ≤ m) : Tz m z := ⟨Nat.le_trans h.le hl, h.sm⟩
theorem Tz.len {n : Nat} {z : Str} (h : Tz n z) : z.length ≤ n := by
  rw [TL.len_tl]
  exact h.le
theorem Tz.app {n m : Nat} {x y : Str} (a : Tz n x) (b : Tz m y) : Tz (n + m) (x ++ y) := by
  have e := TL.tl_append x y
  refine ⟨?_, fun c hc => ?_⟩
  · rw [e, List.length_append]
    exact Nat.add_le_add a.le b.le
  · rw [e] at hc
    exact (List.mem_append.mp hc).elim (a.sm c) (b.sm c)
theorem Tz.one {c : Nat} (h : c < 256) : Tz 1 ⟨#[c]⟩ := ⟨Nat.le_refl 1, fun d hd => by
  have e : d = c := by simpa using hd
  rw [e]
  exact h⟩
theorem Tz.cut {n : Nat} {z : Str} (h : Tz n z) (lo hi : Option Int) : Tz n (cutS z lo hi) := by
  have e : TL.tl (cutS z lo hi) = ((TL.tl z).drop (HT.sIx z.length 0 lo)).take (HT.sIx z.length z.length hi - HT.sIx z.length 0 lo) := rfl
  refine ⟨?_, fun c hc => ?_⟩
  · rw [e, List.length_take, List.length_drop]
    have := h.le
    omega
  · rw [e] at hc
    exact h.sm c (List.mem_of_mem_drop (List.mem_of_mem_take hc))
theorem joinL_len (S : List Nat) (m k : Nat) (hS : S.length ≤ k) : ∀ ps : List (List Nat), (∀ q ∈ ps, q.length ≤ m) → (TL.joinL S ps).length ≤ ps.length * (m + k)
  | [], _ => Nat.zero_le _
  | [q], h => by
    have := h q List.mem_cons_self
    show q.length ≤ 1 * (m + k)
    omega
  | q :: r :: rs, h => by
    have h1 := h q List.mem_cons_self
    have ih := joinL_len S m k hS (r :: rs) fun x hx => h x (List.mem_cons_of_mem _ hx)
    show (q ++ (S ++ TL.joinL S (r :: rs))).length ≤ ((r :: rs).length + 1) * (m + k)
    rw [List.length_append, List.length_append, Nat.succ_mul]
    omega
theorem joinL_mem {S : List Nat} : ∀ {ps : List (List Nat)} {c : Nat}, c ∈ TL.joinL S ps → c ∈ S ∨ ∃ q ∈ ps, c ∈ q
  | [], _, h => absurd h List.not_mem_nil
  | [q], _, h => .inr ⟨q, List.mem_cons_self, h⟩
  | q :: r :: rs, c, h => by
    have h' : c ∈ q ++ (S ++ TL.joinL S (r :: rs)) := h
    rcases List.mem_append.mp h' with z | z
    · exact .inr ⟨q, List.mem_cons_self, z⟩
    · rcases List.mem_append.mp z with z | z
      · exact .inl z
      · rcases joinL_mem z with z | ⟨x, hx, z⟩
        · exact .inl z
        · exact .inr ⟨x, List.mem_cons_of_mem _ hx, z⟩
theorem tl_joinT (s : Str) (ys : List Str) : TL.tl (Txt.join s ys) = TL.joinL (TL.tl s) (ys.map TL.tl) := (congrArg TL.tl (TL.join_eq s ys)).trans (TL.tl_join s ys)
theorem Tz.join {k m : Nat} {s : Str} {ys : List Str} (hs : Tz k s) (hy : ∀ y ∈ ys, Tz m y) : Tz (ys.length * (m + k)) (Txt.join s ys) := by
  refine ⟨?_, fun c hc => ?_⟩
  · rw [tl_joinT]
    have h := joinL_len (TL.tl s) m k hs.le (ys.map TL.tl) fun q hq => by
      obtain ⟨y, hy', rfl⟩ := List.mem_map.mp hq
      exact (hy y hy').le
    rwa [List.length_map] at h
  · rw [tl_joinT] at hc
    rcases joinL_mem hc with z | ⟨q, hq, z⟩
    · exact hs.sm c z
    · obtain ⟨y, hy', rfl⟩ := List.mem_map.mp hq
      exact (hy y hy').sm c z
/-- the sum that join wants -/
theorem sum_le {m : Nat} : ∀ {ys : List Str}, (∀ y ∈ ys, Tz m y) → (ys.map (·.length)).sum ≤ ys.length * m
  | [], _ => Nat.zero_le _
  | y :: ys, h => by
    have h1 := (h y List.mem_cons_self).len
    have ih := sum_le (m := m) (ys := ys) fun z hz => h z (List.mem_cons_of_mem _ hz)
    rw [List.map_cons, List.sum_cons, List.length_cons, Nat.succ_mul]
    omega
/-- parts between separators -/
theorem spl_len (S : List Nat) : ∀ (l : List Nat) (k : Nat) (acc : List Nat), ((TL.spl S k acc l).map (·.length)).sum ≤ acc.length + l.length ∧ (TL.spl S k acc l).length ≤ l.length + 1 ∧ ∀ q ∈ TL.spl S k acc l, ∀ c ∈ q, c ∈ acc ∨ c ∈ l
  | [], k, acc => by
    rw [TL.spl_nil]
    refine ⟨by simp, by simp, fun q hq c hc => ?_⟩
    rw [List.mem_singleton.mp hq] at hc
    exact .inl hc
  | c :: r, 0, acc => by
    cases h : TL.pre S (c :: r) with
    | true =>
      rw [TL.spl_hit h]
      obtain ⟨h1, h2, h3⟩ := spl_len S r (S.length - 1) []
      refine ⟨?_, ?_, fun q hq d hd => ?_⟩
      · rw [List.map_cons, List.sum_cons, List.length_cons]
        rw [List.length_nil] at h1
        omega
      · rw [List.length_cons, List.length_cons]
        omega
      · rcases List.mem_cons.mp hq with e | e
        · rw [e] at hd
          exact .inl hd
        · rcases h3 q e d hd with z | z
          · exact absurd z List.not_mem_nil
          · exact .inr (List.mem_cons_of_mem _ z)
    | false =>
      rw [TL.spl_miss h]
      obtain ⟨h1, h2, h3⟩ := spl_len S r 0 (acc ++ [c])
      refine ⟨?_, ?_, fun q hq d hd => ?_⟩
      · rw [List.length_append] at h1
        rw [List.length_cons]
        have e : [c].length = 1 := rfl
        omega
      · rw [List.length_cons]
        omega
      · rcases h3 q hq d hd with z | z
        · rcases List.mem_append.mp z with z | z
          · exact .inl z
          · rw [List.mem_singleton.mp z]
            exact .inr List.mem_cons_self
        · exact .inr (List.mem_cons_of_mem _ z)
  | c :: r, k + 1, acc => by
    have e : TL.spl S (k + 1) acc (c :: r) = TL.spl S k acc r := by
      rw [TL.spl_pass S (k + 1), TL.spl_pass S k]
      rfl
    rw [e]
    obtain ⟨h1, h2, h3⟩ := spl_len S r k acc
    refine ⟨?_, ?_, fun q hq d hd => (h3 q hq d hd).imp id (List.mem_cons_of_mem _)⟩
    · rw [List.length_cons]
      omega
    · rw [List.length_cons]
      omega
theorem split_len {z m : Str} {n : Nat} (hz : Tz n z) (hm : (TL.tl m).length = 1) (h2 : ∀ c ∈ TL.tl m, c < 256) :
    ((Txt.split z m).map (·.length)).sum ≤ n ∧ (Txt.split z m).length ≤ n + 1 ∧ ∀ y ∈ Txt.split z m, ∀ c ∈ TL.tl y, c < 256 := by
  have hne : TL.tl m ≠ [] := fun e => by
    rw [e] at hm
    cases hm
  have hk : ¬ Builtin.Str.strKind z < Builtin.Str.strKind m := TL.kind_ok (by
    rw [← Array.all_toList]
    exact List.all_eq_true.mpr fun c hc => decide_eq_true (h2 c hc))
  have e := TL.split_spl z m hne hk
  obtain ⟨h3, h4, h5⟩ := spl_len (TL.tl m) (TL.tl z) 0 []
  rw [← e] at h3 h4 h5
  rw [List.map_map] at h3
  have e2 : ((fun l : List Nat => l.length) ∘ TL.tl) = fun y : Str => y.length := funext fun y => (TL.len_tl y).symm
  have hzl := hz.le
  refine ⟨?_, ?_, fun y hy c hc => ?_⟩
  · rw [e2, List.length_nil] at h3
    omega
  · rw [List.length_map] at h4
    omega
  · rcases h5 (TL.tl y) (List.mem_map.mpr ⟨y, hy, rfl⟩) c hc with x | x
    · exact absurd x List.not_mem_nil
    · exact hz.sm c x
/-- an item of a list at a drawn place -/
theorem atI_in {α : Type} {xs : List α} {d : Int} (h0 : 0 ≤ d) (h : d < (xs.length : Int)) : ∃ v, v ∈ xs ∧ atI xs d = some v := by
  have hj : d.toNat < xs.length := by omega
  have e : d = ((d.toNat : Nat) : Int) := by omega
  exact ⟨xs[d.toNat], List.getElem_mem hj, (congrArg (atI xs) e).trans (atI_nat (List.getElem?_eq_getElem hj))⟩

/-! ### data whose repr fits -/
structure Nice (n k : Nat) (d : PyData) : Prop where
  sh : d.showable = true
  ls : d.leavesShort 2000 = true
  wt : d.weight ≤ n
  dp : d.depth ≤ k
structure NiceAll (n k : Nat) (ds : List PyData) : Prop where
  sh : PyData.showableAll ds = true
  ls : PyData.leavesShortAll 2000 ds = true
  wt : PyData.weightAll ds ≤ n
  dp : PyData.depthAll ds ≤ k
theorem Nice.fits {n k : Nat} {d : PyData} (h : Nice n k d) (hn : n ≤ 8000) : d.shown.length ≤ sizeLine := by
  have h1 := PyData.shown_le 2000 (by decide) d h.ls
  have h2 : (2000 + 2) * d.weight ≤ 2002 * 8000 := Nat.mul_le_mul (Nat.le_refl _) (Nat.le_trans h.wt hn)
  rw [PySem.sizeLine_eq]
  omega
theorem Nice.mono {n k m j : Nat} {d : PyData} (h : Nice n k d) (h1 : n ≤ m) (h2 : k ≤ j) : Nice m j d := ⟨h.sh, h.ls, Nat.le_trans h.wt h1, Nat.le_trans h.dp h2⟩
theorem nice_none : Nice 0 0 .none := ⟨rfl, rfl, Nat.le_refl _, Nat.le_refl _⟩
theorem nice_bool (b : Bool) : Nice 0 0 (.bool b) := ⟨rfl, rfl, Nat.le_refl _, Nat.le_refl _⟩
theorem nice_int {i : Int} (h : i.natAbs.log2 < 1000) : Nice 1000 0 (.int i) := by
  refine ⟨?_, ?_, ?_, by simp only [PyData.depth]; exact Nat.le_refl _⟩
  · simp only [PyData.showable]
    exact decide_eq_true (by omega)
  · simp only [PyData.leavesShort]
    refine decide_eq_true ?_
    have e := int_text_length_le (a := i) (k := 1920) (by decide) (by omega)
    show (Str.ofString (toString i)).length ≤ 2000
    rw [PySem.ofString_length]
    omega
  · simp only [PyData.weight]
    split <;> omega
theorem nice_str {n : Nat} {z : Str} (h : Tz n z) : Nice n 0 (.str z) := by
  refine ⟨by simp only [PyData.showable], ?_, ?_, by simp only [PyData.depth]; exact Nat.le_refl _⟩
  · simp only [PyData.leavesShort]
    refine List.all_eq_true.mpr fun c hc => decide_eq_true ?_
    exact Nat.lt_of_lt_of_le (h.sm c hc) (by decide)
  · simp only [PyData.weight]
    exact h.len
theorem niceAll_nil : NiceAll 0 0 [] := ⟨rfl, rfl, Nat.le_refl _, Nat.le_refl _⟩
theorem NiceAll.cons {n m k j : Nat} {d : PyData} {ds : List PyData} (h : Nice n k d) (hs : NiceAll m j ds) : NiceAll (n + 1 + m) (max k j) (d :: ds) := by
  refine ⟨?_, ?_, ?_, ?_⟩
  · simp only [PyData.showableAll, h.sh, hs.sh, Bool.and_self]
  · simp only [PyData.leavesShortAll, h.ls, hs.ls, Bool.and_self]
  · simp only [PyData.weightAll]
    have := h.wt
    have := hs.wt
    omega
  · simp only [PyData.depthAll]
    have := h.dp
    have := hs.dp
    omega
theorem NiceAll.list {n k : Nat} {ds : List PyData} (h : NiceAll n k ds) : Nice n (k + 1) (.list ds) := by
  refine ⟨?_, ?_, ?_, ?_⟩
  · simp only [PyData.showable]
    exact h.sh
  · simp only [PyData.leavesShort]
    exact h.ls
  · simp only [PyData.weight]
    exact h.wt
  · simp only [PyData.depth]
    have := h.dp
    omega
theorem NiceAll.tuple {n k : Nat} {ds : List PyData} (h : NiceAll n k ds) : Nice n (k + 1) (.tuple ds) := by
  refine ⟨?_, ?_, ?_, ?_⟩
  · simp only [PyData.showable]
    exact h.sh
  · simp only [PyData.leavesShort]
    exact h.ls
  · simp only [PyData.weight]
    exact h.wt
  · simp only [PyData.depth]
    have := h.dp
    omega
theorem NiceAll.mono {n k m j : Nat} {ds : List PyData} (h : NiceAll n k ds) (h1 : n ≤ m) (h2 : k ≤ j) : NiceAll m j ds := ⟨h.sh, h.ls, Nat.le_trans h.wt h1, Nat.le_trans h.dp h2⟩
theorem niceAll_strs : ∀ {ys : List Str}, (∀ y ∈ ys, ∀ c ∈ TL.tl y, c < 256) → NiceAll ((ys.map (·.length)).sum + ys.length) 0 (ys.map PyData.str)
  | [], _ => niceAll_nil
  | y :: ys, h => by
    have h1 := NiceAll.cons (nice_str (n := y.length) (z := y) ⟨Nat.le_of_eq (TL.len_tl y).symm, h y List.mem_cons_self⟩) (niceAll_strs (ys := ys) fun z hz => h z (List.mem_cons_of_mem _ hz))
    refine h1.mono ?_ (Nat.le_refl _)
    rw [List.map_cons, List.sum_cons, List.length_cons]
    omega
/-- repr(x), x plain data -/
theorem rRepr_of {K : PySem.W.Frag} {H : Hp} {a : Addr} {d : PyData} {n k : Nat} {Q : VK} (h : Dp K H (.ref a) d) (hn : Nice n k d) (h1 : n ≤ 8000) (h2 : k ≤ 60) (q : Q (.str d.shown) H) : rRepr K [.ref a] H Q :=
  ⟨a, d, rfl, h, hn.sh, Nat.le_trans hn.dp h2, hn.fits h1, q⟩
/-- flat values as data -/
def dV : V → PyData
  | .bl b => .bool b
  | .int i => .int i
  | .str x => .str x
  | _ => .none
def isFlat : V → Bool
  | .non => true
  | .bl _ => true
  | .int _ => true
  | .str _ => true
  | _ => false
theorem dp_flat {K : PySem.W.Frag} {H : Hp} : ∀ {v : V}, isFlat v = true → Dp K H v (dV v)
  | .non, _ => .non
  | .bl b, _ => .bl b
  | .int i, _ => .int i
  | .str x, _ => .str x
theorem dpAll_flat {K : PySem.W.Frag} {H : Hp} : ∀ {vs : List V}, vs.all isFlat = true → DpAll K H vs (vs.map dV)
  | [], _ => .nil
  | v :: vs, h => by
    rw [List.all_cons, Bool.and_eq_true] at h
    exact .cons (dp_flat h.1) (dpAll_flat h.2)
theorem dpAll_strs {K : PySem.W.Frag} {H : Hp} : ∀ (ys : List Str), DpAll K H (ys.map V.str) (ys.map PyData.str)
  | [] => .nil
  | y :: ys => .cons (.str y) (dpAll_strs ys)
end Tp
set_option Elab.async false
set_option linter.all false
set_option maxRecDepth 100000
set_option maxHeartbeats 4000000
/-! exceptions of the program's own classes over any built-in base: how one is made, by position and by keyword -/
namespace Tp
open PySem HandSPX
/-- what is asked of the line behind an own class that is made by newId of B -/
structure LineX (B : String) (bm : List Value) : Prop where
  hB : bm.contains (.type B) = true
  hA : bm.contains (.type "AttributeError") = false
  hN : bm.contains (.type "NameError") = false
section
variable {prog : Program} {w : World} {A : Around} {E : Value → Shared → Prop} {R : Result → Shared → Prop} {h : Heap} {g : Array GenState} {d : Drawn} {t : Nat} {os : OsState}
variable {nm q : Str} {C N : Addr} {bs bm bmB : List Value} {hdct : Bool} {sn : List Str} {sub : List Value} {ab : Bool} {col : Option Bool} {dd : Option Addr} {k0 k1 k2 k3 k5 : Option Value} {B newId initId : String}
/-- may newId make it? -/
theorem mk_check {M : Model} (F : ExcBaseFacts B newId initId bmB) (L : LineX B bm) {rest : List Value} {kw : List (Str × Value)} {Q : Unit → Shared → Prop}
    (hC : h.get? C = some (excClassObj nm q C N bs bm hdct sn sub ab col dd k0 k1 k2 k3 k5 newId))
    (hq : Q () ⟨h, g, d, t, os⟩) : wpAny M A (checkBuiltinCall newId ⟨.ref C :: rest, kw⟩) Q E ⟨h, g, d, t, os⟩ := by
  have hc : (Value.ref C :: bm).contains (.type B) = true := by
    rw [List.contains_cons]
    exact Bool.or_eq_true_iff.mpr (.inr L.hB)
  have hst := F.noStar
  simp only [checkBuiltinCall, F.newSplit, F.newKind, F.newRow]
  repeat (first
    | refine wpAny_loadPart_at hC ?_
    | (refine wpAny_isSubtype_exc hC ?_; rw [hc])
    | refine wpAny_staticBase_exc hC ?_
    | refine wpAny_madeBy_exc hC ?_
    | simp only [Bool.false_eq_true, bne_self_eq_false, if_false]
    | wp_step)
  exact hq
/-- newId itself -/
theorem mk_new (F : ExcBaseFacts B newId initId bmB) (L : LineX B bm) {rest : List Value} {kw : List (Str × Value)}
    (hC : h.get? C = some (excClassObj nm q C N bs bm hdct sn sub ab col dd k0 k1 k2 k3 k5 newId)) (hz : rest.length ≤ sizeLine)
    (hq : R (.ok (.ret (.ref (h.objs.size + 1)))) ⟨(h.push (PySem.W.kdv_tup rest)).push (excO C h.objs.size), g, d, t, os⟩) :
    codeAny (model prog w) A (.builtin newId ⟨.ref C :: rest, kw⟩) R ⟨h, g, d, t, os⟩ := by
  have hends := F.ends
  have up : ∀ {X : String} {b : Bool}, bm.contains (.type X) = b → (Value.ref C :: bm).contains (.type X) = b := fun {X b} e => by
    rw [List.contains_cons, e]
    cases b <;> rfl
  have h1 := up L.hB
  have h2 := up L.hA
  have h3 := up L.hN
  refine codeAny_builtinAt F.entry ?_
  unfold Builtin.«BaseException.__new__»
  refine wpAt_bind ?_
  show wpAt _ _ _ (stack >>= _) _ _ _
  refine wpAt_bind (wpAt_stack fun p below => wpAt_of_wpAny ?_)
  wp_walk
  refine wpAt_of_wpAny ?_
  rw [F.owner]
  repeat (first
    | with_reducible refine wpAny_loadPart_at hC ?_
    | with_reducible refine wpAny_madeHere_exc F.canon hC ?_
    | (with_reducible refine wpAny_isSubtype_exc hC ?_; first | rw [h1] | rw [h2] | rw [h3])
    | wp_step)
  show R _ _
  rw [Heap.size_push]
  exact hq
/-- type.__call__ on it, up to its own __init__ -/
theorem mk_type (F : ExcBaseFacts B newId initId bmB) (L : LineX B bm) {rest : List Value} {kw : List (Str × Value)} {iv : Value} {Q : Fin → Shared → Prop}
    (hC : h.get? C = some (excClassObj nm q C N bs bm hdct sn sub ab col dd k0 k1 k2 k3 k5 newId)) (hz : rest.length ≤ sizeLine)
    (hi : W.Looks (model prog w) h (typeLookup (.ref C) "__init__") (some iv))
    (hb : ∀ self, W.Looks (model prog w) h (bindSpecial iv self) (iv, [self]))
    (hq : codeAny (model prog w) A (.call iv ⟨.ref (h.objs.size + 1) :: rest, kw⟩)
      (fun r s' => match r with
        | .ok (.ret v) => v = .none ∧ Q (.done (.ret (.ref (h.objs.size + 1)))) s'
        | .ok _ => False
        | .error e => E e s') ⟨(h.push (W.kdv_tup rest)).push (excO C h.objs.size), g, d, t, os⟩) :
    wpAny (model prog w) A (Builtin.«type.__call__» ⟨.ref C :: rest, kw⟩) Q E ⟨h, g, d, t, os⟩ := by
  repeat (first
    | with_reducible refine wpAny_madeBy_exc hC ?_
    | with_reducible refine wpAny_loadPart_at hC ?_
    | wp_step)
  refine codeAny_call_builtin_code (Code.quiet_builtin _ F.quiet) (mk_check F L hC ?_)
  refine mk_new F L hC hz ?_
  show wpAny _ _ _ _ _ _
  have kp : ∀ b o, h.get? b = some o → ((h.push (W.kdv_tup rest)).push (excO C h.objs.size)).get? b = some o :=
    fun b o e => Heap.get?_push_of_some _ (Heap.get?_push_of_some _ e)
  have hC' := kp _ _ hC
  have hx : ((h.push (W.kdv_tup rest)).push (excO C h.objs.size)).get? (h.objs.size + 1) = some (excO C h.objs.size) := by heap_get
  have hcC : (Value.ref C :: bm).contains (.ref C) = true := by simp
  unfold isInstance
  repeat (first
    | with_reducible refine wpAny_loadPart_at hx ?_
    | (with_reducible refine wpAny_isSubtype_exc hC' ?_; rw [hcC])
    | wp_step)
  show wpAny _ _ (typeLookup (.ref C) _) _ _ _
  refine (hi.keeps kp).at (wpAny_holding (wpAny_bind (((hb (.ref (h.objs.size + 1))).keeps kp).at ?_)))
  refine wpAny_bind (wpAny_call (codeAny_mono hq fun r s' z => ?_))
  cases r with
  | error e => exact z
  | ok fl =>
    cases fl with
    | ret v =>
      obtain ⟨ev, z'⟩ := z
      subst ev
      first
        | exact wpAny_pure (wpAny_pure z')
        | (wp_walk; exact z')
    | next => exact False.elim z
    | brk => exact False.elim z
    | cont => exact False.elim z
/-- the call C(..) -/
theorem mk_call (F : ExcBaseFacts B newId initId bmB) (L : LineX B bm) {rest : List Value} {kw : List (Str × Value)} {iv : Value}
    (hC : h.get? C = some (excClassObj nm q C N bs bm hdct sn sub ab col dd k0 k1 k2 k3 k5 newId)) (hz : rest.length ≤ sizeLine)
    (hi : W.Looks (model prog w) h (typeLookup (.ref C) "__init__") (some iv))
    (hb : ∀ self, W.Looks (model prog w) h (bindSpecial iv self) (iv, [self]))
    (hq : codeAny (model prog w) (A.under (.builtin "type.__call__" ⟨.ref C :: rest, kw⟩)) (.call iv ⟨.ref (h.objs.size + 1) :: rest, kw⟩) (W.InitBack (h.objs.size + 1) R)
      ⟨(h.push (W.kdv_tup rest)).push (excO C h.objs.size), g, d, t, os⟩) :
    codeAny (model prog w) A (.call (.ref C) ⟨rest, kw⟩) R ⟨h, g, d, t, os⟩ := by
  have f1 := tc_lookup
  have f2 := tc_bind (.ref C)
  have hTy : (⟨h, g, d, t, os⟩ : Shared).TypeIs (.ref C) "type" := ⟨_, hC, rfl⟩
  refine codeAny_of_tree ?_
  show wpAny _ _ (callAny (.ref C) _) _ _ _
  repeat (any_goals (first | assumption | with_reducible refine wpAny_loadPart_at hC ?_ | wp_step))
  refine ⟨rfl, codeAny_call_builtin_at (Code.quiet_builtin _ (by decide +kernel)) entry_typeCall (wpAny_check_type_call_sub hC (mk_type F L hC hz hi hb ?_))⟩
  refine codeAny_mono hq fun r s' z => ?_
  cases r with
  | error e => exact z
  | ok fl => cases fl <;> exact z
end
end Tp
set_option Elab.async false
set_option linter.all false
set_option maxRecDepth 100000
set_option maxHeartbeats 4000000
/-! exceptions of the program's own classes, over any built-in base: made as values, stored into, read, asked for their class, raised -/
namespace Tp
open PySem PySem.Spec PyProof.Rows L2
abbrev valLine : List Value := [.type "ValueError", .type "Exception", .type "BaseException", .type "object"]
abbrev keyLine : List Value := [.type "KeyError", .type "LookupError", .type "Exception", .type "BaseException", .type "object"]
abbrev lookLine : List Value := [.type "LookupError", .type "Exception", .type "BaseException", .type "object"]
local macro_rules | `(tactic| walk_at "factX") => `(tactic| first | decide +kernel | kernel_rfl | (rw [isSubtype_type]; kernel_rfl) | (rw [mroOf_type]; kernel_rfl) | (intro z; kernel_rfl) | (intro z1 z2 z3; unfold argsOk; kernel_rfl))
theorem storeKey : StoreFacts "KeyError" keyLine "object.__setattr__" "object" :=
  { mro := by walk_at "factX"
    slot := .of (owner := "object") (n := "__setattr__")
      (by rw [typeLookup_type, builtinLookup_eq_fast]; kernel_rfl) (by walk_at "factX") (by walk_at "factX")
      (by walk_at "factX") (by first | exact .inl (by walk_at "factX") | exact .inr (by walk_at "factX")) (by walk_at "factX")
    entry := F.store_object.entry
    kind := by walk_at "factX"
    split := by walk_at "factX"
    hasOwner := by walk_at "factX"
    args := by walk_at "factX"
    passes := by walk_at "factX" }
/-- a base: what makes its instances, what line stands behind its classes -/
structure BaseX (newId : String) (line : List Value) : Prop where
  ex : ∃ (B initId S : String) (bmB : List Value), ExcBaseFacts B newId initId bmB ∧ StoreFacts S line "object.__setattr__" "object" ∧ LineX B line
theorem baseV : BaseX "ValueError.__new__" valLine := ⟨_, _, _, _, F.excBase_ValueError, F.store_ValueError, ⟨by decide +kernel, by decide +kernel, by decide +kernel⟩⟩
theorem baseK : BaseX "LookupError.__new__" keyLine := ⟨_, _, _, _, F.excBase_LookupError, storeKey, ⟨by decide +kernel, by decide +kernel, by decide +kernel⟩⟩
theorem baseL : BaseX "LookupError.__new__" lookLine := ⟨_, _, _, _, F.excBase_LookupError, F.store_LookupError, ⟨by decide +kernel, by decide +kernel, by decide +kernel⟩⟩
/-- what the written part says of an own class of exceptions -/
structure ExK (K : PySem.W.Frag) (C : Addr) : Prop where
  ln : ∃ (newId : String) (line : List Value), BaseX newId line ∧ PySem.W.excInitIn K C line newId = true ∧ PySem.W.excOver K C line = true
  sa : PySem.W.findIn K (.ref C) "__setattr__" = some (some (.builtin "object.__setattr__"))
  ga : PySem.W.findIn K (.ref C) "__getattribute__" = some (some (.builtin "BaseException.__getattribute__"))
  gg : PySem.W.findIn K (.ref C) "__getattr__" = some none
  exC : PySem.W.subIn K (.ref C) (.type "BaseException") = some true
  tyC : PySem.W.typeIn K (.ref C) = some (.type "type")
  hdC : PySem.W.hasDictIn K C = true
  kC : PySem.W.keepIn K (.ref C) = true
  ha : PySem.W.findIn K (.ref C) "__class__" = some (some (.builtin "object.__class__"))
  hn : PySem.W.specialIn K (.builtin "object.__class__") "__get__" = some (some (.builtin "getset_descriptor.__get__"))
  ht : PySem.W.takesIn K (.builtin "object.__class__") = some true
  hm : PySem.W.mroIn K C (.type "object") = some true
/-- a class for which name f is free -/
def freeB (K : PySem.W.Frag) (C : Addr) (f : Str) : Bool := decide (PySem.W.findIn K (.ref C) f = some none)
theorem freeB_ok {K : PySem.W.Frag} {C : Addr} {f : Str} (h : freeB K C f = true) : PySem.W.findIn K (.ref C) f = some none := of_decide_eq_true h
def exkB (K : PySem.W.Frag) (C : Addr) (newId : String) (line : List Value) : Bool :=
  PySem.W.excInitIn K C line newId && (PySem.W.excOver K C line &&
  (decide (PySem.W.findIn K (.ref C) "__setattr__" = some (some (.builtin "object.__setattr__"))) &&
  (decide (PySem.W.findIn K (.ref C) "__getattribute__" = some (some (.builtin "BaseException.__getattribute__"))) &&
  (decide (PySem.W.findIn K (.ref C) "__getattr__" = some none) &&
  (decide (PySem.W.subIn K (.ref C) (.type "BaseException") = some true) &&
  (decide (PySem.W.typeIn K (.ref C) = some (.type "type")) &&
  (PySem.W.hasDictIn K C && (PySem.W.keepIn K (.ref C) &&
  (decide (PySem.W.findIn K (.ref C) "__class__" = some (some (.builtin "object.__class__"))) &&
  (decide (PySem.W.specialIn K (.builtin "object.__class__") "__get__" = some (some (.builtin "getset_descriptor.__get__"))) &&
  (decide (PySem.W.takesIn K (.builtin "object.__class__") = some true) && decide (PySem.W.mroIn K C (.type "object") = some true))))))))))))
theorem exkB_ok {K : PySem.W.Frag} {C : Addr} {newId : String} {line : List Value} (b : BaseX newId line) (h : exkB K C newId line = true) : ExK K C := by
  unfold exkB at h
  simp only [Bool.and_eq_true, decide_eq_true_eq] at h
  obtain ⟨h1, h2, h3, h4, h5, h6, h7, h8, h9, h10, h11, h12, h13⟩ := h
  exact ⟨⟨newId, line, b, h1, h2⟩, h3, h4, h5, h6, h7, h8, h9, h10, h11, h12, h13⟩

/-- an exception that stands as a value at a: its class, its fields -/
def ExAt (H : Hp) (a C : Addr) (fs : List (Str × V)) : Prop := (fs = [] ∧ H a = some (exo a C none)) ∨ ∃ dx, dx ≠ a ∧ H a = some (exo a C (some dx)) ∧ H dx = some (exd dx fs)

theorem ne_of_none' {H : Hp} {a b : Addr} {o : HO} (n : H b = none) (e : H a = some o) : b ≠ a := fun z => by
  rw [z, e] at n
  cases n
section

variable {prog : Program} {w : World} {A : Around} {E : Value → Shared → Prop} {R : Result → Shared → Prop} {hp : Heap} {g : Array GenState} {d : Drawn} {t : Nat} {os : OsState}
variable {K : PySem.W.Frag} {name : Str} {tk : Tok} {v : Value} {x C t1 : Addr} {B : String} {line : List Value}
theorem taker_none (h : PySem.W.findIn K (.ref C) name = some none) : PySem.W.takerIn K C name = some none := by
  unfold PySem.W.takerIn
  rw [h]
  rfl
/-- the first field -/
theorem osa_first (SF : StoreFacts B line "object.__setattr__" "object") (X : K.In hp) (hx : hp.get? x = some (PySem.W.excObj C t1 none .none)) (hl : PySem.W.excOver K C line = true) (hh : PySem.W.hasDictIn K C = true) (ha : PySem.W.findIn K (.ref C) name = some none)
    (hq : ∀ h' tk' dx, (∀ b o, b ≠ x → hp.get? b = some o → h'.get? b = some o) → hp.objs.size ≤ dx → dx ≠ x → h'.get? x = some (PySem.W.excObj C t1 (some dx) .none) →
      h'.Ns1 dx (fun y => if y = name then some v else none) → R (.ok (.ret .none)) ⟨h', g, d, tk', os⟩) :
    codeAny (model prog w) A (.call (.builtin "object.__setattr__") ⟨[.ref x, .str name tk, v], []⟩) R ⟨hp, g, d, t, os⟩ := by
  refine PySem.W.osa_openX (od := none) SF X ⟨hx, rfl, rfl, trivial⟩ hl (taker_none ha) fun b => ?_
  obtain ⟨cd, hc, hd'⟩ := PySem.W.any_some hh
  refine wpAny_bind (wpAny_pure (wpAny_bind (PySem.W.instanceDict_exc hx (PySem.W.looks_clsIn X hc) hd' ?_)))
  show wpAny _ _ (Builtin.ObjectAttr.storeInDict hp.objs.size (.str name tk) name v) _ _ _
  have hxs : x ≠ hp.objs.size := Nat.ne_of_lt (Heap.lt_size hx)
  refine HandSPX.store_in_new ?_ fun h' tk' hn' hs => ?_
  · exact ⟨_, #[], _, (Heap.get?_update_ne _ _ _ _ hxs.symm).trans (Heap.get?_push_at rfl rfl), rfl, fun e he => absurd he (by simp), fun _ => rfl⟩
  · refine hq h' tk' hp.objs.size (fun b o hb ho => ?_) (Nat.le_refl _) hxs.symm ?_ hn'
    · exact (hs.2 b (Nat.ne_of_lt (Heap.lt_size ho))).trans ((Heap.get?_update_ne _ _ _ _ hb).trans (Heap.get?_push_of_some _ ho))
    · exact (hs.2 x hxs).trans (Heap.get?_update_self _ (Heap.get?_push_of_some _ hx) rfl)
/-- a further one -/
theorem osa_next {dx : Addr} {m0 : Str → Option Value} {nl : List Str} (SF : StoreFacts B line "object.__setattr__" "object") (X : K.In hp) (hx : hp.get? x = some (PySem.W.excObj C t1 (some dx) .none)) (hl : PySem.W.excOver K C line = true) (hh : PySem.W.hasDictIn K C = true) (ha : PySem.W.findIn K (.ref C) name = some none)
    (hns : hp.Ns1 dx m0) (hw : Within m0 nl) (hz : nl.length ≤ 1000)
    (hq : ∀ h' tk', (∀ b o, b ≠ dx → hp.get? b = some o → h'.get? b = some o) → h'.Ns1 dx (fun y => if y = name then some v else m0 y) → R (.ok (.ret .none)) ⟨h', g, d, tk', os⟩) :
    codeAny (model prog w) A (.call (.builtin "object.__setattr__") ⟨[.ref x, .str name tk, v], []⟩) R ⟨hp, g, d, t, os⟩ := by
  obtain ⟨oD, _, _, hoD, _, _⟩ := hns.count hw
  refine PySem.W.osa_openX (od := some oD) SF X ⟨hx, rfl, rfl, hoD⟩ hl (taker_none ha) fun b => ?_
  obtain ⟨cd, hc, hd'⟩ := PySem.W.any_some hh
  refine wpAny_bind (wpAny_pure (wpAny_bind (wpAny_bind (wpAny_loadPart hx (wpAny_bind ((PySem.W.looks_clsIn X hc).here ?_))))))
  rw [hd']
  refine wpAny_pure (a := some dx) ?_
  exact PySem.OEX.store_in_old hns hw hz fun h' tk' hn' hs => hq h' tk' (fun b o hb ho => (hs.2 b hb).trans ho) hn'
end
section
variable {X : Cx} {pins : List (Addr × Obj)} {σ : L2.St} {H : Hp} {s : Shared} {a C dx : Addr} {f : Str} {y : V} {u : Value} {fs : List (Str × V)} {E : Value → Shared → Prop} {A : Around}
theorem st_first {Q : Unit → Shared → Prop} (T : ExK X.K C) (I : Inv X pins σ H s) (e : H a = some (exo a C none)) (hno : PySem.W.findIn X.K (.ref C) f = some none) (ry : RelV y u)
    (h : ∀ dx s', H dx = none → dx ≠ a → Inv X pins σ (upd (upd H dx (exd dx [(f, y)])) a (exo a C (some dx))) s' → Q () s') : wpAny (model X.prog X.w) A (setAttr (.ref a) f u) Q E s := by
  obtain ⟨newId, line, ⟨B, initId, S, bmB, FB, SF, L⟩, hi, hl⟩ := T.ln
  obtain ⟨t1, ho⟩ := exo_at I.hok e
  obtain ⟨hp, g, d, t, os⟩ := s
  refine PySem.W.set_plain I.kIn (ox := PySem.W.excObj C t1 none .none) (od := none) ⟨ho, rfl, rfl, trivial⟩ T.sa ?_
  refine osa_first SF I.kIn ho hl T.hdC hno (fun h' tk' dx k dn dne hx hn => ?_)
  have hnd : H dx = none := I.hok.fresh dn
  have nd : ∀ {b : Addr} {o : Obj}, hp.get? b = some o → b ≠ dx := fun {b o} q => Nat.ne_of_lt (Nat.lt_of_lt_of_le (Heap.lt_size q) dn)
  have na : ∀ {b : Addr}, H b = none → b ≠ a := fun {b} n => ne_of_none' n e
  have U : Un X.fs [] H (upd (upd H dx (exd dx [(f, y)])) a (exo a C (some dx))) hp h' :=
    ⟨fun b o q n _ _ => k b o (na n) q, fun b o q n _ _ => ⟨o.slots, k b o (na n) q⟩,
      fun b o q n _ => (upd_ne (na n)).trans ((upd_ne (nd q)).trans n),
      fun b o q _ => if hb : b = a then ⟨_, hb ▸ hx⟩ else ⟨o, k b o hb q⟩,
      fun b xs q => (upd_ne (at_ne e q exo_tup)).trans ((upd_ne (ne_of_none q hnd)).trans q),
      fun b o v q => (upd_ne (at_ne e q exo_frz)).trans ((upd_ne (ne_of_none q hnd)).trans q),
      fun b ps q => ⟨#[], by
        rw [upd_ne (at_ne e q exo_tbl), upd_ne (ne_of_none q hnd), q]
        simp⟩⟩
  refine h dx _ hnd dne (I.un (t' := tk') U fun b o q => ?_)
  by_cases hb : b = a
  · subst hb
    cases upd_same.symm.trans q
    exact exo_ok hx
  · rw [upd_ne hb] at q
    by_cases hd : b = dx
    · subst hd
      cases upd_same.symm.trans q
      exact exd_ok hn (relO_put (fs := []) ry fun g => True.intro)
    · rw [upd_ne hd] at q
      have stay : ∀ {c : Addr}, H c = some (.own b) → c ≠ a := fun hc => at_ne e hc exo_own
      refine (I.hok b o q).stay (fun c v hc z => k c v (hc.elim (fun ec => ec ▸ hb) stay) z) (fun c hc => ?_) (fun c xs hc => ?_)
      · exact (upd_ne (stay hc)).trans ((upd_ne (ne_of_none hc hnd)).trans hc)
      · exact (upd_ne (at_ne e hc exo_tup)).trans ((upd_ne (ne_of_none hc hnd)).trans hc)
theorem st_next {Q : Unit → Shared → Prop} (T : ExK X.K C) (I : Inv X pins σ H s) (e : H a = some (exo a C (some dx))) (ed : H dx = some (exd dx fs)) (hl : fs.length ≤ 900) (hno : PySem.W.findIn X.K (.ref C) f = some none) (ry : RelV y u)
    (h : ∀ s', Inv X pins σ (upd H dx (exd dx ((f, y) :: fs))) s' → Q () s') : wpAny (model X.prog X.w) A (setAttr (.ref a) f u) Q E s := by
  obtain ⟨newId, line, ⟨B, initId, S, bmB, FB, SF, L⟩, hi, hlo⟩ := T.ln
  obtain ⟨t1, ho⟩ := exo_at I.hok e
  obtain ⟨mA, hns, rel⟩ := exd_at I.hok ed
  have hw := within_of rel
  obtain ⟨hp, g, d, t, os⟩ := s
  obtain ⟨oD, _, _, hoD, _, _⟩ := hns.count hw
  refine PySem.W.set_plain I.kIn (ox := PySem.W.excObj C t1 (some dx) .none) (od := some oD) ⟨ho, rfl, rfl, hoD⟩ T.sa ?_
  refine osa_next SF I.kIn ho hlo T.hdC hno hns hw (by rw [List.length_map]; omega) (fun h' tk' k hn => ?_)
  have hd : ∃ o, h'.get? dx = some o := by
    obtain ⟨o, _, _, e', _⟩ := hn
    exact ⟨o, e'⟩
  exact h _ (I.write (t' := tk') (x := dx) (e := dx) (o := exd dx ((f, y) :: fs)) (by rw [ed]; exact True.intro) (.inl rfl) k hd (exd_ok hn (relO_put ry rel)))
end
end Tp
set_option Elab.async false
set_option linter.all false
set_option maxRecDepth 100000
set_option maxHeartbeats 4000000
/-! rules for exceptions that stand as values -/
namespace Tp
open PySem PySem.Spec PyProof.Rows L2
section
variable {X : Cx} {pins : List (Addr × Obj)} {σ : L2.St} {H : Hp} {s : Shared} {a D C : Addr} {fs : List (Str × V)}
theorem ex_inst (I : Inv X pins σ H s) (h : ExAt H a D fs) : ∃ (ox : Obj) (od : Option Obj), PySem.W.InstAt s.heap a ox D od ∧ ∀ f v, fs.lookup f = some v → ∃ o u, od = some o ∧ PySem.W.lookIn f o = some (some u) ∧ RelV v u := by
  rcases h with ⟨rfl, e⟩ | ⟨dx, _, e, ed⟩
  · obtain ⟨t1, ho⟩ := exo_at I.hok e
    exact ⟨_, none, ⟨ho, rfl, rfl, trivial⟩, fun f v z => by cases z⟩
  · obtain ⟨t1, ho⟩ := exo_at I.hok e
    obtain ⟨mA, hns, rel⟩ := exd_at I.hok ed
    obtain ⟨oD, hoD, hl⟩ := lookIn_ns hns
    refine ⟨_, some oD, ⟨ho, rfl, rfl, hoD⟩, fun f v z => ?_⟩
    obtain ⟨u, hu, ru⟩ := RelO.some_of (v := v) (o := mA f) (by rw [← z]; exact rel f)
    exact ⟨oD, u, rfl, by rw [hl, hu], ru⟩
theorem ex_kit (T : ExK X.K D) {ox : Obj} {od : Option Obj} : PySem.W.KitX X.K (.ref a) (.ref D) (fun h => PySem.W.InstAt h a ox D od) :=
  PySem.W.kitx_exc (by obtain ⟨cd, hc, _⟩ := PySem.W.any_some T.hdC; rw [hc]; rfl) T.ga T.gg T.exC T.ha T.hn T.ht T.hm
end
/-- isinstance(e, c) -/
def rIsx (K : PySem.W.Frag) : List V → Hp → VK → Prop := fun xs H Q => ∃ (a D : Addr) (fs : List (Str × V)) (c : V) (cv : Value) (b : Bool), xs = [.ref a, c] ∧ ExAt H a D fs ∧ ExK K D ∧ ClsV c cv ∧ PySem.W.kitOne K (.ref D) cv = some b ∧ Q (.bl b) H
/-- isinstance(e, (c, ..)) -/
def rIsxT (K : PySem.W.Frag) : List V → Hp → VK → Prop := fun xs H Q => ∃ (a D : Addr) (fs : List (Str × V)) (tp : Addr) (cs : List V) (us : List Value) (b : Bool), xs = [.ref a, .ref tp] ∧ ExAt H a D fs ∧ ExK K D ∧ H tp = some (.tup cs) ∧ Paired ClsV cs us ∧ PySem.W.kitAny K (.ref D) us = some b ∧ Q (.bl b) H
section
variable {X : Cx}
theorem call_isx : CallR X (.builtin "isinstance") (rIsx X.K) := by
  intro pins s σ H xs us Q I r h
  obtain ⟨a, D, fs, c, cv, b, rfl, ha, T, k, e, q⟩ := h
  obtain ⟨u1, u2, rfl, r1, r2⟩ := vals2 r
  cases (show u1 = Value.ref a from r1)
  have e2 := k.eq r2
  subst e2
  obtain ⟨ox, od, J, _⟩ := ex_inst I ha
  exact PySem.W.kia_one (ex_kit T) I.kIn J e (fun z => nomatch z) fun tk => ⟨.bl b, H, I.tok tk, rfl, q⟩
theorem call_isxT : CallR X (.builtin "isinstance") (rIsxT X.K) := by
  intro pins s σ H xs us Q I r h
  obtain ⟨a, D, fs, tp, cs, ws, b, rfl, ha, T, hT, k, e, q⟩ := h
  obtain ⟨u1, u2, rfl, r1, r2⟩ := vals2 r
  cases (show u1 = Value.ref a from r1)
  cases (show u2 = Value.ref tp from r2)
  obtain ⟨ox, od, J, _⟩ := ex_inst I ha
  obtain ⟨_, its, rv, o, h1, h2, n, h3⟩ := (show ObjOk X.prog X.w H s.heap tp (.tup cs) from I.hok tp _ hT)
  have e3 := ClsV.all k rv
  subst e3
  obtain ⟨oc, od', dt, sl⟩ := o
  simp only at h2 h3
  subst h2 h3
  exact PySem.W.kia_tup (ex_kit T) I.kIn J h1 e (fun z => nomatch z) fun tk => ⟨.bl b, H, I.tok tk, rfl, q⟩
end
/-- e.f -/
def tXg (K : PySem.W.Frag) (f : Str) (te : TE) : TE := fun σ H Q => te σ H fun x H1 => ∃ (a D : Addr) (fs : List (Str × V)) (v : V), x = .ref a ∧ ExAt H1 a D fs ∧ ExK K D ∧ PySem.W.findIn K (.ref D) f = some none ∧ fs.lookup f = some v ∧ Q v H1
/-- o.f = e -/
def tOsx (K : PySem.W.Frag) (f : Str) (to te : TE) : TS := fun D σ H => te σ H fun y H1 => to σ H1 fun x H2 => ∃ a C : Addr, x = .ref a ∧ ExK K C ∧ PySem.W.findIn K (.ref C) f = some none ∧
  ((H2 a = some (exo a C none) ∧ ∀ dx, H2 dx = none → dx ≠ a → D.nx σ (upd (upd H2 dx (exd dx [(f, y)])) a (exo a C (some dx)))) ∨
    ∃ (dx : Addr) (fs : List (Str × V)), H2 a = some (exo a C (some dx)) ∧ H2 dx = some (exd dx fs) ∧ fs.length ≤ 900 ∧ D.nx σ (upd H2 dx (exd dx ((f, y) :: fs))))
/-- C(..): its __init__ keeps sp -/
def tMkx (C : Addr) (n m : Nat) (sp : Sp) (gV : List V → List V → List V) (t tk : TA) : TE := fun σ H Q => t σ H fun vs H1 => tk σ H1 fun zs H2 => vs.length = n ∧ zs.length = m ∧ n ≤ 1000 ∧
  ∀ a, H2 a = none → sp (gV (.ref a :: vs) zs) (upd H2 a (exo a C none)) (fun v H3 => v = .non ∧ Q (.ref a) H3) E0
section
variable {X : Cx} {k n : Nat} {C fI : Addr} {fd : FuncData} {ps ks : List Str} {sp : Sp} {x f : Str} {p pos p' : Pos} {e o : Expr} {es : List Expr} {kws : List Keyword} {te to : TE} {t tk : TA}
variable {g : List Value → List Value → List Value} {gV : List V → List V → List V}
theorem pe_xg (he : PE X e te) (hb : attributeBase e f X.env (eval e X.env) = eval e X.env := by rfl) : PE X (.Attribute e f pos) (tXg X.K f te) := by
  refine ⟨fun pins s σ H Q I h => attr_of hb (thn (he.run pins s σ H _ I h) fun u s1 hh => ?_)⟩
  obtain ⟨x, H1, I1, rx, a, D, fs, v, rfl, hA, T, hno, l, q⟩ := hh
  cases (show u = Value.ref a from rx)
  obtain ⟨ox, od, J, hl⟩ := ex_inst I1 hA
  obtain ⟨o, w, rfl, lo, ru⟩ := hl f v l
  exact HandSPX.exc_get I1.kIn J T.ga T.gg T.exC (PySem.W.findObj_own T.hdC hno rfl lo) (handed_of ru) ⟨v, H1, I1.tok _, ru, q⟩
theorem ps_osx (ho : PE X o to) (he : PE X e te) (hs : swapsWith e (some (.Attribute o f p')) pos.line X.env = pure false := by rfl) : PS X (.Assign [.Attribute o f p'] e pos) (tOsx X.K f to te) := by
  refine ⟨fun pins s σ H D I h => ?_⟩
  refine plainObj_wpAny_Assign_Attribute (thn (he.run pins s σ H _ I h) fun v s1 ⟨y, H1, I1, r1, q1⟩ => thn (ho.run pins s1 σ H1 _ I1 q1) fun u s2 hh => ?_) hs
  obtain ⟨x, H2, I2, r2, a, C, rfl, T, hno, q⟩ := hh
  cases (show u = Value.ref a from r2)
  rcases q with ⟨ea, q⟩ | ⟨dx, fs, ea, ed, hl, q⟩
  · exact st_first T I2 ea hno r1 fun dx s' n ne J => ⟨σ, _, J, q dx n ne⟩
  · exact st_next T I2 ea ed hl hno r1 fun s' J => ⟨σ, _, J, q⟩
/-- the call of the class, its arguments told -/
theorem run_mkx {pins : List (Addr × Obj)} {σ : L2.St} {H : Hp} {s : Shared} {Q : VK} {us ws : List Value} {vs zs : List V} (T : ExK X.K C) (iC : PySem.W.findIn X.K (.ref C) "__init__" = some (some (.ref fI))) (tI : PySem.W.typeIn X.K (.ref fI) = some (.type "function"))
    (F : FnOk X.prog X.w X.K X.mg X.base CX0 k fI fd ps sp) (hr : Room (k + 1) X.A) (hb : KBn X.K fd ps (n + 1) ks g gV) (I : Inv X pins σ H s) (r : Vals vs us) (rz : Vals zs ws) (l1 : vs.length = n) (l2 : zs.length = ks.length) (hn : n ≤ 1000)
    (h : ∀ a, H a = none → sp (gV (.ref a :: vs) zs) (upd H a (exo a C none)) (fun v H3 => v = .non ∧ Q (.ref a) H3) E0) :
    wpAny (model X.prog X.w) X.A (call (.ref C) us (ks.zip ws)) (EP X pins σ Q) X.xe s := by
  obtain ⟨newId, line, ⟨B, initId, S, bmB, FB, SF, L⟩, hi, hl⟩ := T.ln
  obtain ⟨nm, N, qn, bs, bm, hdct, sn, sub, ab, col, dd, k0, k1, k2, k3, k5, hC, hT⟩ := PySem.W.excInit_of I.kIn hi
  have L' : LineX B bm := ⟨(hT _).trans L.hB, (hT _).trans L.hA, (hT _).trans L.hN⟩
  obtain ⟨hp, gg, dr, tk, os⟩ := s
  have hsz : hp.objs.size ≤ hp.objs.size + 1 := Nat.le_succ _
  have kk : ∀ b o, hp.get? b = some o → ((hp.push (PySem.W.kdv_tup us)).push (PySem.HandSPX.excO C hp.objs.size)).get? b = some o := fun b o z => Heap.get?_push_of_some _ (Heap.get?_push_of_some _ z)
  have hget : ((hp.push (PySem.W.kdv_tup us)).push (PySem.HandSPX.excO C hp.objs.size)).get? (hp.objs.size + 1) = some (PySem.HandSPX.excO C hp.objs.size) := by heap_get
  have I2 : Inv X pins σ (upd H (hp.objs.size + 1) (exo (hp.objs.size + 1) C none)) ⟨(hp.push (PySem.W.kdv_tup us)).push (PySem.HandSPX.excO C hp.objs.size), gg, dr, tk, os⟩ :=
    I.laid (t' := tk) kk hsz (exo_ok hget)
  have hq := h (hp.objs.size + 1) (I.hok.fresh hsz)
  have r1 : Vals (V.ref (hp.objs.size + 1) :: vs) (Value.ref (hp.objs.size + 1) :: us) := .cons rfl r
  have lu : us.length = n := r.length.symm.trans l1
  have hus : us.length ≤ sizeLine := by
    rw [lu, sizeLine_eq]
    omega
  have e1 : (Value.ref (hp.objs.size + 1) :: us).length = n + 1 := congrArg Nat.succ lu
  have e2 : ws.length = ks.length := rz.length.symm.trans l2
  refine wpAny_call (mk_call FB L' hC hus (PySem.W.looks_findIn I.kIn iC) (fun self => PySem.W.bind_fn I.kIn self tI)
    (codeAny_mono (F.run _ X.stack _ _ ⟨Value.ref (hp.objs.size + 1) :: us, ks.zip ws⟩ (g (Value.ref (hp.objs.size + 1) :: us) ws) _ _ E0 (hr.make C us (ks.zip ws))
      (I2.env0.make C us (ks.zip ws)) (hb.to _ (Value.ref (hp.objs.size + 1) :: us) ws I2.kIn e1 e2) (hb.rel r1 rz) hq) fun r' s' hq' => ?_))
  cases r' with
  | error e => exact False.elim hq'
  | ok fl =>
    cases fl with
    | ret u =>
      obtain ⟨v, H', I3, rv, ev, q3⟩ := I2.after hq'
      subst ev
      exact ⟨rv, ⟨V.ref (hp.objs.size + 1), H', I3, rfl, q3⟩⟩
    | next => exact False.elim hq'
    | brk => exact False.elim hq'
    | cont => exact False.elim hq'
/-- what a caller knows of an own class of exceptions: its __init__ -/
structure Cx1 (P : Program) (w : World) (K : PySem.W.Frag) (mg : Str → Option Value) (base : Heap) (x : Str) (C : Addr) (n : Nat) (ks : List Str) (sp : Sp) (gV : List V → List V → List V) : Prop where
  ex : ∃ (fI : Addr) (fd : FuncData) (ps : List Str) (g : List Value → List Value → List Value), ExK K C ∧ mg x = some (.ref C) ∧ PySem.W.findIn K (.ref C) "__init__" = some (some (.ref fI)) ∧ PySem.W.typeIn K (.ref fI) = some (.type "function") ∧
    FnOk P w K mg base CX0 1 fI fd ps sp ∧ KBn K fd ps (n + 1) ks g gV
/-- C(e, ..) -/
theorem pe_mkx (c : Cx1 X.prog X.w X.K X.mg X.base x C n [] sp gV) (hr : Room 2 X.A) (hg : Gl X x) (ha : PA X (e :: es) t)
    (hdb : (x == ("__debug__" : Str)) = false := by decide) (he : starEach (e :: es) X.env = (false, eval e X.env) :: starEach es X.env := by rfl) (hpl : (backTo pos (starEach es X.env)).any (·.1) = false := by rfl) :
    PE X (.Call (.Name x p) (e :: es) [] pos) (tMkx C n 0 sp gV t tNil) := by
  obtain ⟨fI, fd, ps, g, T, hm, iC, tI, F, hb⟩ := c.ex
  refine ⟨fun pins s σ H Q I h => wpAny_Call_Name_kw (ld_glob I hg hm ?_ hdb)⟩
  refine PySem.W.callWith_K (h₀ := X.base) I.ok.mod.kin T.kC (thn (ha.run pos pins s σ H _ I h) fun us s1 hh => ?_) he hpl
  obtain ⟨vs, H1, I1, r, l1, _, hn, q⟩ := hh
  exact ⟨I1.kIn, run_mkx T iC tI F hr hb I1 r (ws := []) .nil l1 rfl hn q⟩
/-- C(k = e, ..) -/
theorem pe_mkk (c : Cx1 X.prog X.w X.K X.mg X.base x C 0 ks sp gV) (hr : Room 2 X.A) (hg : Gl X x) (hkw : PK X kws tk)
    (hall : (backToKw pos (keywordEach kws X.env)).all (·.1.isSome) = true := by rfl) (hks : (backToKw pos (keywordEach kws X.env)).filterMap (·.1) = ks := by rfl) (hdb : (x == ("__debug__" : Str)) = false := by decide)
    (hpl : ((backTo pos (starEach [] X.env)).any (·.1) || (backToKw pos (keywordEach kws X.env)).any (·.1.isNone)) = false := by rfl) :
    PE X (.Call (.Name x p) [] kws pos) (tMkx C 0 ks.length sp gV tNil tk) := by
  obtain ⟨fI, fd, ps, g, T, hm, iC, tI, F, hb⟩ := c.ex
  refine ⟨fun pins s σ H Q I h => wpAny_Call_Name_kw (ld_glob I hg hm ?_ hdb)⟩
  refine PySem.W.callWith_KW0 (h₀ := X.base) I.ok.mod.kin T.kC hall (thn (hkw.run pos pins s σ H _ I h) fun ws s2 hh => ?_) hpl
  obtain ⟨zs, H2, I2, rz, l1, l2, hn, q⟩ := hh
  refine ⟨I2.kIn, ?_⟩
  rw [hks]
  exact run_mkx T iC tI F hr hb I2 .nil rz l1 l2 hn q
/-- C() -/
theorem pe_mk0 (c : Cx1 X.prog X.w X.K X.mg X.base x C 0 [] sp gV) (hr : Room 2 X.A) (hg : Gl X x) (hdb : (x == ("__debug__" : Str)) = false := by decide) :
    PE X (.Call (.Name x p) [] [] pos) (tMkx C 0 0 sp gV tNil tNil) := by
  obtain ⟨fI, fd, ps, g, T, hm, iC, tI, F, hb⟩ := c.ex
  refine ⟨fun pins s σ H Q I h => wpAny_Call_Name_kw (ld_glob I hg hm ?_ hdb)⟩
  obtain ⟨_, _, hn, q⟩ := h
  exact PySem.W.callWith_K0 (I.tok _).kIn T.kC (run_mkx T iC tI F hr hb (I.tok _) .nil (ws := []) .nil rfl rfl hn q)
/-- what makes an exception as a value may be raised -/
theorem pmk_x (hx : X.ex = []) (he : PE X e te) :
    PMk X e (fun σ H Q => te σ H fun x H1 => ∃ (a C : Addr) (d : Option Addr), x = .ref a ∧ H1 a = some (exo a C d) ∧ Fr0 X.H_0 a ∧ ExK X.K C ∧ Q (.ref C) d (delH H1 a)) := by
  intro pins s σ H Q I h
  refine wpAny_mono (he.run pins s σ H _ I h) (fun u s1 hu => ?_) fun _ _ x => x
  obtain ⟨v, H1, I1, r1, a, C, d, rfl, ha, h0, T, q⟩ := hu
  cases (show u = Value.ref a from r1)
  obtain ⟨t1, ho⟩ := exo_at I1.hok ha
  obtain ⟨G, gs, ga, J⟩ := I1.untrack ha h0 hx
  exact ⟨a, _, _, { s1 with heap := G }, delH H1 a, .ref C, d, rfl, J, gs, ga, ho, ⟨rfl, rfl⟩, rfl, rfl, delH_same, rfl, I1.bare, raises_own T.exC T.tyC, q⟩
end
end Tp
set_option Elab.async false
set_option linter.all false
set_option maxRecDepth 100000
set_option maxHeartbeats 4000000
/-! what an __init__ that stores its arguments leaves; making such an exception -/
namespace Tp
open PySem PySem.Spec PyProof.Rows L2
def Has (fs : List (Str × V)) (ns : List Str) (vs : List V) : Prop := ∀ (k : Nat) (n : Str) (v : V), ns[k]? = some n → vs[k]? = some v → fs.lookup n = some v
def ExI (H : Hp) (a C : Addr) (ns : List Str) (vs : List V) : Prop := ∃ fs, ExAt H a C fs ∧ Has fs ns vs
theorem ExAt.mono {H H' : Hp} {a C : Addr} {fs : List (Str × V)} (k : Same H H') (h : ExAt H a C fs) : ExAt H' a C fs := by
  rcases h with ⟨e, h⟩ | ⟨dx, n, h1, h2⟩
  · exact .inl ⟨e, k _ _ h⟩
  · exact .inr ⟨dx, n, k _ _ h1, k _ _ h2⟩
theorem ExI.mono {H H' : Hp} {a C : Addr} {ns : List Str} {vs : List V} (k : Same H H') (h : ExI H a C ns vs) : ExI H' a C ns vs := by
  obtain ⟨fs, h1, h2⟩ := h
  exact ⟨fs, h1.mono k, h2⟩
/-- an __init__ that stores its arguments under the names ns -/
def spI (C : Addr) (ns : List Str) : Sp := fun vs H Q _ => ∃ (a : Addr) (xs : List V), vs = .ref a :: xs ∧ xs.length = ns.length ∧ H a = some (exo a C none) ∧ ∀ H', Keep a H H' → ExI H' a C ns xs → Q .non H'
section
variable {K : PySem.W.Frag} {C : Addr} {vs : List V} {H : Hp} {Q : VK} {E : XK} {n m : Str}
theorem ini_len {ns : List Str} (h : spI C ns vs H Q E) : vs.length = (("self" : Str) :: ns).length := by
  obtain ⟨a, xs, rfl, hl, _⟩ := h
  exact congrArg Nat.succ hl
theorem ini0 (h : spI C [] vs H Q E) : ∃ a, vs = [.ref a] ∧ Q .non H := by
  obtain ⟨a, xs, rfl, hl, ha, q⟩ := h
  cases xs with
  | cons x xs => cases hl
  | nil => exact ⟨a, rfl, q H (fun b o _ e => e) ⟨[], .inl ⟨rfl, ha⟩, fun k n v z _ => by cases z⟩⟩
theorem ini1 (h : spI C [n] vs H Q E) : ∃ (a : Addr) (x : V), vs = [.ref a, x] ∧ (ExK K C → PySem.W.findIn K (.ref C) n = some none →
    ∃ a' C' : Addr, V.ref a = .ref a' ∧ ExK K C' ∧ PySem.W.findIn K (.ref C') n = some none ∧ ((H a' = some (exo a' C' none) ∧ ∀ dx, H dx = none → dx ≠ a' → Q .non (upd (upd H dx (exd dx [(n, x)])) a' (exo a' C' (some dx)))) ∨
      ∃ (dx : Addr) (fs : List (Str × V)), H a' = some (exo a' C' (some dx)) ∧ H dx = some (exd dx fs) ∧ fs.length ≤ 900 ∧ Q .non (upd H dx (exd dx ((n, x) :: fs))))) := by
  obtain ⟨a, xs, rfl, hl, ha, q⟩ := h
  match xs, hl with
  | [x], _ =>
    refine ⟨a, x, rfl, fun T hn => ⟨a, C, rfl, T, hn, .inl ⟨ha, fun dx hd hne => q _ (fun b o hb e => ?_) ⟨[(n, x)], .inr ⟨dx, hne, upd_same, ?_⟩, fun k n' v h1 h2 => ?_⟩⟩⟩⟩
    · exact (upd_ne hb).trans ((upd_ne (ne_of_none e hd)).trans e)
    · exact (upd_ne hne).trans upd_same
    · cases k with
      | zero =>
        cases h1
        cases h2
        rw [lookup_put, if_pos rfl]
      | succ k => cases h1
theorem ini2 (hnm : n ≠ m) (h : spI C [n, m] vs H Q E) : ∃ (a : Addr) (x y : V), vs = [.ref a, x, y] ∧ (ExK K C → PySem.W.findIn K (.ref C) n = some none → PySem.W.findIn K (.ref C) m = some none → ∀ N : Hp → Prop,
    (∀ H2, (∃ a' C' : Addr, V.ref a = .ref a' ∧ ExK K C' ∧ PySem.W.findIn K (.ref C') m = some none ∧ ((H2 a' = some (exo a' C' none) ∧ ∀ dx, H2 dx = none → dx ≠ a' → Q .non (upd (upd H2 dx (exd dx [(m, y)])) a' (exo a' C' (some dx)))) ∨
      ∃ (dx : Addr) (fs : List (Str × V)), H2 a' = some (exo a' C' (some dx)) ∧ H2 dx = some (exd dx fs) ∧ fs.length ≤ 900 ∧ Q .non (upd H2 dx (exd dx ((m, y) :: fs))))) → N H2) →
    ∃ a' C' : Addr, V.ref a = .ref a' ∧ ExK K C' ∧ PySem.W.findIn K (.ref C') n = some none ∧ ((H a' = some (exo a' C' none) ∧ ∀ dx, H dx = none → dx ≠ a' → N (upd (upd H dx (exd dx [(n, x)])) a' (exo a' C' (some dx)))) ∨
      ∃ (dx : Addr) (fs : List (Str × V)), H a' = some (exo a' C' (some dx)) ∧ H dx = some (exd dx fs) ∧ fs.length ≤ 900 ∧ N (upd H dx (exd dx ((n, x) :: fs))))) := by
  obtain ⟨a, xs, rfl, hl, ha, q⟩ := h
  match xs, hl with
  | [x, y], _ =>
    refine ⟨a, x, y, rfl, fun T hn hm N hN => ⟨a, C, rfl, T, hn, .inl ⟨ha, fun dx hd hne => hN _ ⟨a, C, rfl, T, hm, .inr ⟨dx, _, upd_same, (upd_ne hne).trans upd_same, Nat.le_of_ble_eq_true rfl, ?_⟩⟩⟩⟩⟩
    have hne' : a ≠ dx := Ne.symm hne
    refine q _ (fun b o hb e => ?_) ⟨[(m, y), (n, x)], .inr ⟨dx, hne, (upd_ne hne').trans upd_same, upd_same⟩, fun k n' v h1 h2 => ?_⟩
    · have e1 : b ≠ dx := ne_of_none e hd
      exact (upd_ne e1).trans ((upd_ne hb).trans ((upd_ne e1).trans e))
    · match k with
      | 0 =>
        cases h1
        cases h2
        rw [lookup_put, if_neg hnm, lookup_put, if_pos rfl]
      | 1 =>
        cases h1
        cases h2
        rw [lookup_put, if_pos rfl]
      | k + 2 => cases h1
end
/-- an exception of C is made, its fields the values -/
def tMke (C : Addr) (ns : List Str) (t : TA) : TE := fun σ H Q => t σ H fun vs H1 => vs.length = ns.length ∧ ns.length ≤ 1000 ∧ ∀ a H', H1 a = none → Same H1 H' → ExI H' a C ns vs → Q (.ref a) H'
theorem PE.of {X : Cx} {e : Expr} {t t' : TE} (h : PE X e t) (k : ∀ σ H Q, t' σ H Q → t σ H Q) : PE X e t' := ⟨fun pins s σ H Q I q => h.run pins s σ H Q I (k σ H Q q)⟩
/-- by keywords: pm puts their values in the fields' order -/
def tMkk (C : Addr) (ns : List Str) (m : Nat) (pm : List V → List V) (tk : TA) : TE := fun σ H Q => tk σ H fun zs H1 => zs.length = m ∧ (pm zs).length = ns.length ∧ ∀ a H', H1 a = none → Same H1 H' → ExI H' a C ns (pm zs) → Q (.ref a) H'
theorem spI_of {C a : Addr} {ns : List Str} {H1 : Hp} {Q : VK} {ws : List V} (hl : ws.length = ns.length) (ha : H1 a = none) (q : ∀ a H', H1 a = none → Same H1 H' → ExI H' a C ns ws → Q (.ref a) H') : spI C ns (.ref a :: ws) (upd H1 a (exo a C none)) (fun v H3 => v = .non ∧ Q (.ref a) H3) E0 :=
  ⟨a, ws, rfl, hl, upd_same, fun H' k h => ⟨rfl, q a H' ha (fun b o eb => k b o (ne_of_none eb ha) ((upd_ne (ne_of_none eb ha)).trans eb)) h⟩⟩
section
variable {X : Cx} {n : Nat} {C : Addr} {ks ns : List Str} {x : Str} {p pos : Pos} {e : Expr} {es : List Expr} {kws : List Keyword} {t tk : TA} {pm : List V → List V}
/-- C(e, ..) -/
theorem pe_mke (c : Cx1 X.prog X.w X.K X.mg X.base x C ns.length [] (spI C ns) (fun vs _ => vs)) (hr : Room 2 X.A) (hg : Gl X x) (ha : PA X (e :: es) t)
    (hdb : (x == ("__debug__" : Str)) = false := by decide) (he : starEach (e :: es) X.env = (false, eval e X.env) :: starEach es X.env := by rfl) (hpl : (backTo pos (starEach es X.env)).any (·.1) = false := by rfl) :
    PE X (.Call (.Name x p) (e :: es) [] pos) (tMke C ns t) := by
  obtain ⟨fI, fd, ps, g, T, hm, iC, tI, F, hb⟩ := c.ex
  refine ⟨fun pins s σ H Q I h => wpAny_Call_Name_kw (ld_glob I hg hm ?_ hdb)⟩
  refine PySem.W.callWith_K (h₀ := X.base) I.ok.mod.kin T.kC (thn (ha.run pos pins s σ H _ I h) fun us s1 hh => ?_) he hpl
  obtain ⟨vs, H1, I1, r, l1, hn, q⟩ := hh
  exact ⟨I1.kIn, run_mkx T iC tI F hr hb I1 r (ws := []) .nil l1 rfl hn fun a ha => spI_of l1 ha q⟩
/-- C(k = e, ..) -/
theorem pe_mkke (c : Cx1 X.prog X.w X.K X.mg X.base x C 0 ks (spI C ns) (fun vs zs => vs ++ pm zs)) (hr : Room 2 X.A) (hg : Gl X x) (hkw : PK X kws tk)
    (hall : (backToKw pos (keywordEach kws X.env)).all (·.1.isSome) = true := by rfl) (hks : (backToKw pos (keywordEach kws X.env)).filterMap (·.1) = ks := by rfl) (hdb : (x == ("__debug__" : Str)) = false := by decide)
    (hpl : ((backTo pos (starEach [] X.env)).any (·.1) || (backToKw pos (keywordEach kws X.env)).any (·.1.isNone)) = false := by rfl) :
    PE X (.Call (.Name x p) [] kws pos) (tMkk C ns ks.length pm tk) := by
  obtain ⟨fI, fd, ps, g, T, hm, iC, tI, F, hb⟩ := c.ex
  refine ⟨fun pins s σ H Q I h => wpAny_Call_Name_kw (ld_glob I hg hm ?_ hdb)⟩
  refine PySem.W.callWith_KW0 (h₀ := X.base) I.ok.mod.kin T.kC hall (thn (hkw.run pos pins s σ H _ I h) fun ws s2 hh => ?_) hpl
  obtain ⟨zs, H2, I2, rz, l2, l3, q⟩ := hh
  refine ⟨I2.kIn, ?_⟩
  rw [hks]
  exact run_mkx T iC tI F hr hb I2 .nil rz rfl l2 (Nat.zero_le _) fun a ha => spI_of l3 ha q
/-- C() -/
theorem pe_mk0e (c : Cx1 X.prog X.w X.K X.mg X.base x C 0 [] (spI C []) (fun vs _ => vs)) (hr : Room 2 X.A) (hg : Gl X x) (hdb : (x == ("__debug__" : Str)) = false := by decide) :
    PE X (.Call (.Name x p) [] [] pos) (tMke C [] tNil) := by
  obtain ⟨fI, fd, ps, g, T, hm, iC, tI, F, hb⟩ := c.ex
  refine ⟨fun pins s σ H Q I h => wpAny_Call_Name_kw (ld_glob I hg hm ?_ hdb)⟩
  obtain ⟨_, _, q⟩ := h
  exact PySem.W.callWith_K0 (I.tok _).kIn T.kC (run_mkx T iC tI F hr hb (I.tok _) .nil (ws := []) .nil rfl rfl (Nat.zero_le _) fun a ha => spI_of rfl ha q)
/-- many made at once: what each is -/
def Many (H : Hp) : List Addr → List (Addr × List Str × List V) → Prop
  | [], [] => True
  | a :: as, c :: cs => ExI H a c.1 c.2.1 c.2.2 ∧ Many H as cs
  | _, _ => False
theorem Many.mono {H H' : Hp} (k : Same H H') : ∀ {as : List Addr} {cs : List (Addr × List Str × List V)}, Many H as cs → Many H' as cs
  | [], [], _ => True.intro
  | a :: as, c :: cs, h => ⟨h.1.mono k, Many.mono k h.2⟩
  | [], _ :: _, h => h.elim
  | _ :: _, [], h => h.elim
theorem Many.app {H : Hp} {bs : List Addr} {ds : List (Addr × List Str × List V)} (k : Many H bs ds) : ∀ {as : List Addr} {cs : List (Addr × List Str × List V)}, Many H as cs → Many H (as ++ bs) (cs ++ ds)
  | [], [], _ => k
  | a :: as, c :: cs, h => ⟨h.1, Many.app k h.2⟩
  | [], _ :: _, h => h.elim
  | _ :: _, [], h => h.elim
theorem Many.len {H : Hp} : ∀ {as : List Addr} {cs : List (Addr × List Str × List V)}, Many H as cs → as.length = cs.length
  | [], [], _ => rfl
  | a :: as, c :: cs, h => congrArg Nat.succ (Many.len h.2)
  | [], _ :: _, h => h.elim
  | _ :: _, [], h => h.elim
theorem Many.get {H : Hp} : ∀ {as : List Addr} {cs : List (Addr × List Str × List V)} (i : Nat) (a : Addr) (c : Addr × List Str × List V), Many H as cs → as[i]? = some a → cs[i]? = some c → ExI H a c.1 c.2.1 c.2.2
  | [], [], i, a, c, _, h1, _ => by cases h1
  | a :: as, c :: cs, 0, _, _, h, h1, h2 => by
    cases h1
    cases h2
    exact h.1
  | a :: as, c :: cs, i + 1, _, _, h, h1, h2 => Many.get i _ _ h.2 h1 h2
  | [], _ :: _, _, _, _, h, _, _ => h.elim
  | _ :: _, [], _, _, _, h, _, _ => h.elim
/-- a row of arguments, each of which makes an exception of what σ tells -/
def tMany (cs : L2.St → Option (List (Addr × List Str × List V))) : TA := fun σ H Q => ∃ c, cs σ = some c ∧ ∀ as H', Same H H' → Many H' as c → Q (as.map V.ref) H'
/-- one expression that makes one -/
def tOne (c : L2.St → Option (Addr × List Str × List V)) : TE := fun σ H Q => ∃ d, c σ = some d ∧ ∀ a H', H a = none → Same H H' → ExI H' a d.1 d.2.1 d.2.2 → Q (.ref a) H'
theorem pa_many0 : PA X [] (tMany fun _ => some []) := ⟨fun pos pins s σ H Q I h => by
  obtain ⟨c, e, q⟩ := h
  cases e
  exact pa_nil.run pos pins s σ H Q I (q [] H (fun _ _ e => e) True.intro)⟩
theorem pa_many {c : L2.St → Option (Addr × List Str × List V)} {cs : L2.St → Option (List (Addr × List Str × List V))} (h1 : PE X e (tOne c)) (h2 : PA X es (tMany cs)) (he : starEach (e :: es) X.env = (false, eval e X.env) :: starEach es X.env := by rfl) :
    PA X (e :: es) (tMany fun σ => (c σ).bind fun d => (cs σ).map fun ds => d :: ds) := ⟨fun pos pins s σ H Q I h => by
  obtain ⟨l, el, q⟩ := h
  obtain ⟨d, ed, el⟩ := Option.bind_eq_some_iff.mp el
  obtain ⟨ds, eds, rfl⟩ := Option.map_eq_some_iff.mp el
  refine (pa_cons h1 h2 he).run pos pins s σ H Q I ⟨d, ed, fun a H1 _ k1 x1 => ⟨ds, eds, fun as H2 k2 x2 => q (a :: as) H2 (fun b o eb => k2 b o (k1 b o eb)) ⟨x1.mono k2, x2⟩⟩⟩⟩
/-- the value of slot i, m times -/
theorem pa_rep {i : Nat} : ∀ {es : List Expr}, True → True := fun _ => True.intro
end
end Tp
set_option Elab.async false
set_option linter.all false
set_option maxRecDepth 100000
set_option maxHeartbeats 4000000
/-! isinstance of any value: plain data, an instance, an exception -/
namespace Tp
open PySem PySem.Spec PyProof.Rows L2
def IsR (K : PySem.W.Frag) (H : Hp) (v : V) (cv : Value) (b : Bool) : Prop := (∃ t, TyX K H v t ∧ PySem.W.kitOne K t cv = some b) ∨ ∃ (a D : Addr) (fs : List (Str × V)), v = .ref a ∧ ExAt H a D fs ∧ ExK K D ∧ PySem.W.kitOne K (.ref D) cv = some b
def IsA (K : PySem.W.Frag) (H : Hp) (v : V) (cs : List Value) (b : Bool) : Prop := (∃ t, TyX K H v t ∧ PySem.W.kitAny K t cs = some b) ∨ ∃ (a D : Addr) (fs : List (Str × V)), v = .ref a ∧ ExAt H a D fs ∧ ExK K D ∧ PySem.W.kitAny K (.ref D) cs = some b
def rIsD (K : PySem.W.Frag) : List V → Hp → VK → Prop := fun xs H Q => ∃ (v c : V) (cv : Value) (b : Bool), xs = [v, c] ∧ ClsV c cv ∧ IsR K H v cv b ∧ Q (.bl b) H
def rIsDT (K : PySem.W.Frag) : List V → Hp → VK → Prop := fun xs H Q => ∃ (v : V) (tp : Addr) (cs : List V) (us : List Value) (b : Bool), xs = [v, .ref tp] ∧ H tp = some (.tup cs) ∧ Paired ClsV cs us ∧ IsA K H v us b ∧ Q (.bl b) H
theorem call_isd {X : Cx} : CallR X (.builtin "isinstance") (rIsD X.K) := by
  intro pins s σ H xs us Q I r h
  obtain ⟨v, c, cv, b, e, k, hr, q⟩ := h
  rcases hr with ⟨t, ty, e1⟩ | ⟨a, D, fs, rfl, hA, T, e1⟩
  · exact call_isi pins s σ H xs us Q I r ⟨v, c, t, cv, b, e, k, ty, e1, q⟩
  · exact call_isx pins s σ H xs us Q I r ⟨a, D, fs, c, cv, b, e, hA, T, k, e1, q⟩
theorem call_isdT {X : Cx} : CallR X (.builtin "isinstance") (rIsDT X.K) := by
  intro pins s σ H xs us Q I r h
  obtain ⟨v, tp, cs, ws, b, e, hT, k, hr, q⟩ := h
  rcases hr with ⟨t, ty, e1⟩ | ⟨a, D, fs, rfl, hA, T, e1⟩
  · exact call_isiT pins s σ H xs us Q I r ⟨v, tp, cs, t, ws, b, e, hT, k, ty, e1, q⟩
  · exact call_isxT pins s σ H xs us Q I r ⟨a, D, fs, tp, cs, ws, b, e, hA, T, hT, k, e1, q⟩
theorem TyX.up {K : PySem.W.Frag} {H H' : Hp} (k : Same H H') {v : V} {t : Value} (h : TyX K H v t) : TyX K H' v t := by
  cases h with
  | base b =>
    cases b with
    | non => exact .base .non
    | bl x => exact .base (.bl x)
    | int i => exact .base (.int i)
    | str x => exact .base (.str x)
    | flt x => exact .base (.flt x)
    | lst e => exact .base (.lst (k _ _ e))
    | frz e => exact .base (.frz (k _ _ e))
    | tup e => exact .base (.tup (k _ _ e))
    | dK e => exact .base (.dK (k _ _ e))
    | dT e => exact .base (.dT (k _ _ e))
    | ins e cl ha hn htk hm => exact .base (.ins (k _ _ e) cl ha hn htk hm)
  | byt b => exact .byt b
  | set e => exact .set (k _ _ e)
  | kList e c => exact .kList e c
  | kTuple e c => exact .kTuple e c
  | kDict e c => exact .kDict e c
  | fTuple e => exact .fTuple (k _ _ e)
  | fDict e => exact .fDict (k _ _ e)
theorem IsA.mono {K : PySem.W.Frag} {H H' : Hp} {v : V} {cs : List Value} {b : Bool} (k : Same H H') (h : IsA K H v cs b) : IsA K H' v cs b := by
  rcases h with ⟨t, ty, e⟩ | ⟨a, D, fs, e1, hA, T, e⟩
  · exact .inl ⟨t, TyX.up k ty, e⟩
  · exact .inr ⟨a, D, fs, e1, hA.mono k, T, e⟩
theorem IsR.mono {K : PySem.W.Frag} {H H' : Hp} {v : V} {c : Value} {b : Bool} (k : Same H H') (h : IsR K H v c b) : IsR K H' v c b := by
  rcases h with ⟨t, ty, e⟩ | ⟨a, D, fs, e1, hA, T, e⟩
  · exact .inl ⟨t, TyX.up k ty, e⟩
  · exact .inr ⟨a, D, fs, e1, hA.mono k, T, e⟩
theorem none_put {H : Hp} {p q : Addr} {o : HO} (hq : H q = none) (hp : upd H q o p = none) : H p = none := by
  by_cases e : p = q
  · rw [e]
    exact hq
  · rwa [upd_ne e] at hp
end Tp
set_option Elab.async false
set_option linter.all false
set_option maxRecDepth 100000
set_option maxHeartbeats 4000000
/-! a list or a tuple as what is walked; enumerate of a tuple -/
namespace Tp
open PySem PySem.Spec PyProof.Rows L2
open Sem (wp)
theorem meets_enum_one {v : Value} {o : Obj} {H : Heap → Prop} (B : Begins v o H) :
    Meets (Builtin.«enumerate.__new__» ⟨[.type "enumerate", v], []⟩) (fun _ R s => H s.heap ∧
      R (.ok (.ret (.ref (s.heap.push o).objs.size))) { s with heap := (s.heap.push o).push { cls := .type "enumerate", data := .fields #[.none, .bool false, .ref s.heap.objs.size, rawInt 0, .none, .none] } }) :=
  .of_wp fun prog w A R s h => by
    obtain ⟨hp, g, d, tk, os⟩ := s; obtain ⟨h1, h⟩ := h
    have hsub := sub_enumerate
    have q1 : ∀ {A' : Around} {E : Value → Shared → Prop} {Q : Value → Shared → Prop}, Q (.ref hp.objs.size) ⟨hp.push o, g, d, tk, os⟩ → wpAny (model prog w) A' (pyIter v) Q E ⟨hp, g, d, tk, os⟩ :=
      fun q => B.iter prog w _ _ ⟨hp, g, d, tk, os⟩ _ h1 q
    wp_walk using q1
    refine wpAny_stack_any fun st => wpAny_pure ?_
    split
    · rename_i c _ _ _ _ _
      cases (c == Value.type "enumerate")
      · wp_walk using q1
        exact ⟨_, rfl, h⟩
      · wp_walk using q1
        exact ⟨_, rfl, h⟩
    · wp_walk using q1
      exact ⟨_, rfl, h⟩
section
variable {prog : Program} {w : World} {A : Around} {E : Value → Shared → Prop} {s : Shared}
theorem enum_one {v : Value} {o : Obj} {H : Heap → Prop} {Q : Value → Shared → Prop} (B : Begins v o H) (h1 : H s.heap) (hn : ∀ obj, argsOk "object.__init__" ⟨[obj, v], []⟩)
    (ht : checkTypeCall "enumerate" ⟨[v], []⟩ = pure ()) (hc : checkBuiltinCall "enumerate.__new__" ⟨[.type "enumerate", v], []⟩ = pure ())
    (h : ∀ h', IsEnum h' (s.heap.objs.size + 1) s.heap.objs.size 0 .none → h'.get? s.heap.objs.size = some o → h'.objs.size = s.heap.objs.size + 2 →
      (∀ b o, s.heap.get? b = some o → h'.get? b = some o) → Q (.ref (s.heap.objs.size + 1)) { s with heap := h' }) :
    wpAny (model prog w) A (call (.type "enumerate") [v]) Q E s := by
  refine callType_new F.called_enumerate (by decide) ht hc hn F.entry_enumerate_new
    (meets_enum_one B) ⟨h1, ?_⟩
  have hz : (s.heap.push o).objs.size = s.heap.objs.size + 1 := Heap.size_push ..
  show _ ∧ _
  rw [hz]
  have he : IsEnum ((s.heap.push o).push { cls := .type "enumerate", data := .fields #[.none, .bool false, .ref s.heap.objs.size, rawInt 0, .none, .none] }) (s.heap.objs.size + 1) s.heap.objs.size 0 .none := by
    have := Heap.get?_push_size (s.heap.push o) (o := { cls := .type "enumerate", data := .fields #[.none, .bool false, .ref s.heap.objs.size, rawInt 0, .none, .none] }) rfl
    rw [hz] at this; exact this
  refine ⟨⟨_, he, rfl⟩, h _ he (Heap.get?_push_of_some _ (Heap.get?_push_size _ B.free)) (by rw [Heap.size_push, hz]) fun b o x => Heap.get?_push_of_some _ (Heap.get?_push_of_some _ x)⟩
end
theorem enum_endT {prog : Program} {w : World} {A : Around} {E : Value → Shared → Prop} {s : Shared} {e it l : Addr} {i : Nat} {items : Array Value} {old : Value} {Q : Option Value → Shared → Prop} (hh : A.handled = none)
    (he : IsEnum s.heap e it i old) (hit : s.heap.IsTupleIter it l i) (hl : s.heap.IsTuple l items) (hx : items[i]? = none)
    (hQ : ∀ h', Heap.ExtBut it s.heap h' → Q none { s with heap := h' }) : wpAny (model prog w) A (pyNext (.ref e)) Q E s := by
  have hT : s.TypeIs (.ref e) "enumerate" := ⟨_, he, rfl⟩
  unfold pyNext
  refine wpAny_bind (wpAny_attempt (wpAny_callSpecial?_slot (name := Str.ofString "__next__") hT F.slot_enumerate_next
    (wpAny_call_entry F.slot_enumerate_next hT F.entry_enumerate_next ?_ (F.args_enumerate_next_1 _))))
  show wpAny _ _ (field (.ref e) 2 >>= _) _ _ _
  refine wpAny_bind (wpAny_field he rfl (x := .ref it) rfl ?_)
  refine wpAny_bind (wpAny_nextOf_tuple_end hh hit hl hx fun h' x he' hx' => ?_)
  obtain ⟨o, ho, hc⟩ := hx'
  refine wpAny_bind (wpAny_isInstance (T := "StopIteration") (b := true) ⟨o, ho, hc⟩ isSubtype_stop ?_)
  exact wpAny_pure (hQ _ he')
/-- the tuple at a as it stands at each turn, each item in a new pair -/
def IteT (K : PySem.W.Frag) (a : Addr) : It :=
  ⟨fun i H => ∃ (xs : List V) (x : V), SqT K H a xs ∧ xs[i]? = some x, fun i H v H' => ∃ T x, v = .ref T ∧ H T = none ∧ H' = upd H T (.tup [.int (i : Nat), x]) ∧ ∀ xs, SqT K H a xs → xs[i]? = some x, fun i H => ∃ xs : List V, SqT K H a xs ∧ xs.length ≤ i⟩
/-- how the iterator of a tuple stands, that of enumerate ahead of it -/
def DrT (t : Addr) (items : Array Value) (i : Nat) (h : Heap) (it : Addr) : Prop := h.IsTupleIter it t i ∧ h.IsTuple t items
theorem turn_enumT {P : Program} {w : World} {K : PySem.W.Frag} {elts : List Expr} {kk : Nat} {tpos : Pos} (a e it : Addr) (ha : a ≠ it) (hae : a ≠ e) :
    Turn P w K (.Tuple elts kk tpos) (IteT K a) [e, it] e (fun i h => (∃ old, IsEnum h e it ((i : Nat) : Int) old) ∧ h.IsTupleIter it a i ∧ e ≠ it) where
  mem := by simp
  obj := fun i h st b hb => by
    obtain ⟨⟨old, he⟩, ⟨o, ho, hc, hd⟩, _⟩ := st
    have e' : b = e ∨ b = it := by simpa using hb
    rcases e' with z | z
    · rw [z]; exact ⟨_, he, fun v q => nomatch q⟩
    · rw [z]; exact ⟨o, ho, fun v q => by rw [hd] at q; cases q⟩
  keep := fun i h h' st k => let ⟨⟨old, he⟩, hi, hne⟩ := st; ⟨⟨old, k e (by simp) _ he⟩, hi.at fun o q => k it (by simp) o q, hne⟩
  item := by
    intro X hP hw hK hc i pins s σ H E I hf st hg
    subst hP hw hK
    obtain ⟨⟨old, he⟩, hit, hne⟩ := st
    obtain ⟨xs, x, hq, hx⟩ := hg
    obtain ⟨its, rv, p, hz⟩ := I.tuple hq
    obtain ⟨u, hu, ru⟩ := rv.get hx
    have hel : e < s.heap.objs.size := Heap.lt_size he
    have hil : it < s.heap.objs.size := by obtain ⟨_, q, _⟩ := hit; exact Heap.lt_size q
    have hi : i < its.toArray.size := by
      have := (List.getElem?_eq_some_iff.mp hu).1
      simpa using this
    refine wpAny_pyNext_enum_itemD (i := i) (Draws.tuple (A := X.A.in1) (I.ok.hd hc) it a ha its.toArray) he ⟨hit, p⟩ hi hne (by simp [hne, hae.symm]) fun u' h' tk hu' ho st' hT hsz hk => ?_
    have eu : u' = u := by
      have h1 : its.toArray[i]? = some u' := hu'
      have h2 : its.toArray[i]? = some u := by simpa using hu
      rw [h1] at h2
      exact Option.some.inj h2
    subst eu
    refine ⟨_, rfl, wpAny_letOwnedTupleGo_enum (s := { s with heap := h', toks := tk + 1 }) ho fun h'' he' sb => ?_⟩
    have hT2 : h''.get? s.heap.objs.size = some { cls := .type "tuple", data := .seq #[.int i tk, u'] } := (sb.2 _ (Nat.ne_of_gt hel)).trans hT
    have new : ObjOk X.prog X.w (upd H s.heap.objs.size (.tup [.int (i : Nat), x])) h'' s.heap.objs.size (.tup [.int (i : Nat), x]) :=
      ⟨by show 2 ≤ sizeLine; decide, [.int i tk, u'], .cons ⟨_, rfl⟩ (.cons ru .nil), ⟨_, hT2, rfl, _, rfl⟩⟩
    have I1 : Inv X pins σ (upd H s.heap.objs.size (.tup [.int (i : Nat), x])) { s with heap := h'', toks := tk + 1 } :=
      I.turnedNew (ch := [e, it]) (fun b ob hb q => (sb.2 b (fun z => hb (by simp [z]))).trans (hk b ob (fun z => hb (by simp [z])) (fun z => hb (by simp [z])) q)) hf (Nat.le_refl _) new
    refine ⟨.ref s.heap.objs.size, _, I1, rfl, ⟨_, x, rfl, I.hok.fresh (Nat.le_refl _), rfl, fun ys hy => by rw [I.tuple_inj hy hq]; exact hx⟩, ⟨⟨u', ?_⟩, st'.1.at fun o q => (sb.2 it (Ne.symm hne)).trans q, hne⟩, fun b hb => ?_⟩
    · have e1 : ((i + 1 : Nat) : Int) = (i : Int) + 1 := by omega
      rw [e1]; exact he'
    · have hb' : b < s.heap.objs.size := by
        have e' : b = e ∨ b = it := by simpa using hb
        rcases e' with z | z
        · rw [z]; exact hel
        · rw [z]; exact hil
      rw [upd_ne (Nat.ne_of_lt hb')]
      exact (hf b hb).1
  done := by
    intro X hP hw hK hc i pins s σ H E I hf st hg
    subst hP hw hK
    obtain ⟨⟨old, he⟩, hit, hne⟩ := st
    obtain ⟨xs, hq, hx⟩ := hg
    obtain ⟨its, rv, p, hz⟩ := I.tuple hq
    obtain ⟨f0, f1, f2, f3, f4, f5⟩ := hf it (by simp)
    have hl := rv.length
    exact enum_endT (I.ok.hd hc) he hit p (by simp; omega) fun h' eb => ⟨rfl, I.turned (t' := s.toks) (fun b o hb q => eb b o hb q) f0 f1 f3 f4 f5⟩
  self := fun A i s Q E st h => let ⟨⟨_, he⟩, _⟩ := st; wpAny_pyIter_enum he h
def iEnumT (K : PySem.W.Frag) (ta : TA) : TI := fun σ H R => ta σ H fun vs H1 => ∃ a xs, vs = [.ref a] ∧ SqT K H1 a xs ∧ R (IteT K a) H1
theorem pi_enumT {X : Cx} {e : Expr} {ta : TA} {p pos tpos : Pos} {elts : List Expr} {kk : Nat} (hg : Gl X "enumerate") (hm : X.mg "enumerate" = none) (ha : PA X [e] ta) (hs : starEach [e] X.env = [(false, eval e X.env)] := by rfl) :
    PI X (.Tuple elts kk tpos) (.Call (.Name "enumerate" p) [e] [] pos) (iEnumT X.K ta) := by
  refine ⟨fun pins s σ H R I h => ?_⟩
  refine Call_ (ld_blt I hg hm boot_enumerate (PyProof.Rows.callWith_type1 (thn (ha.run pos pins s σ H _ I h) fun us s1 ⟨vs, H1, I1, r1, q1⟩ => ?_) hs rfl))
  obtain ⟨a, xs, ex, hq, q⟩ := q1
  subst ex
  cases r1 with
  | cons r rr =>
    cases rr
    cases r
    obtain ⟨its, rv, p', hz⟩ := I1.tuple hq
    have hal : a < s1.heap.objs.size := by obtain ⟨_, q, _⟩ := id p'; exact Heap.lt_size q
    refine enum_one (begins_tuple a its.toArray) p' (fun obj => F.args_object_init_2 obj _) (F.typeCall_enumerate_1 _) (F.newCall_enumerate_1 _) fun h' he hit hsz hk => wpAny_pyIter_enum he ?_
    have I2 : Inv X pins σ H1 { s1 with heap := h' } := I1.kept (t' := s1.toks) hk
    refine ⟨s1.heap.objs.size + 1, [s1.heap.objs.size + 1, s1.heap.objs.size], _, _, H1, rfl, I2, turn_enumT a (s1.heap.objs.size + 1) s1.heap.objs.size (Nat.ne_of_lt hal) (Nat.ne_of_lt (Nat.lt_succ_of_lt hal)), ⟨⟨.none, he⟩, ⟨_, hit, rfl, rfl⟩, Nat.succ_ne_self _⟩, fun b hb => ?_, q⟩
    have e' : b = s1.heap.objs.size + 1 ∨ b = s1.heap.objs.size := by simpa using hb
    have hle : s1.heap.objs.size ≤ b := by
      rcases e' with z | z
      · rw [z]; exact Nat.le_add_right _ _
      · rw [z]; exact Nat.le_refl _
    exact I1.fpOk hle (I1.hok.fresh hle)
theorem walk_enumT {K : PySem.W.Frag} {a : Addr} {xs : List V} : Walk (IteT K a) xs.length (fun H => SqT K H a xs) (YPair (fun i => some (.int (i : Nat))) (fun i => xs[i]?)) := by
  refine ⟨fun i _ hi q => ⟨xs, xs[i], q, by simp [hi]⟩, fun _ q => ⟨xs, q, Nat.le_refl _⟩, fun i H v H' _ q y => ?_⟩
  obtain ⟨T, x, h1, h2, h3, h4⟩ := y
  exact ⟨T, .int (i : Nat), x, h1, h2, h3, rfl, h4 xs q⟩
/-- one of two walks -/
def iOr (w1 w2 : TI) : TI := fun σ H R => w1 σ H R ∨ w2 σ H R
theorem pi_or {X : Cx} {tg iter : Expr} {w1 w2 : TI} (h1 : PI X tg iter w1) (h2 : PI X tg iter w2) : PI X tg iter (iOr w1 w2) :=
  ⟨fun pins s σ H R I h => h.elim (h1.run pins s σ H R I) (h2.run pins s σ H R I)⟩
/-- a list or a tuple stands there -/
def SqA (K : PySem.W.Frag) (H : Hp) (a : Addr) (xs : List V) : Prop := SqL K H a xs ∨ SqT K H a xs
def SeqR (K : PySem.W.Frag) (a : Addr) (H : Hp) (R : It → Hp → Prop) : Prop := ((∃ xs, SqL K H a xs) ∧ R (Itl K a) H) ∨ ((∃ xs, SqT K H a xs) ∧ R (Itt K a) H)
def EnumR (K : PySem.W.Frag) (a : Addr) (H : Hp) (R : It → Hp → Prop) : Prop := ((∃ xs, SqL K H a xs) ∧ R (Ite K a) H) ∨ ((∃ xs, SqT K H a xs) ∧ R (IteT K a) H)
/-- what is walked: a list or a tuple -/
def iSeq (K : PySem.W.Frag) (te : TE) : TI := fun σ H R => te σ H fun x H1 => ∃ a, x = .ref a ∧ SeqR K a H1 R
theorem pi_seq {X : Cx} {tg l : Expr} {tl : TE} (hl : PE X l tl) : PI X tg l (iSeq X.K tl) := by
  refine ⟨fun pins s σ H R I h => ?_⟩
  refine thn (hl.run pins s σ H _ I h) fun v s1 ⟨x, H1, I1, r1, q1⟩ => ?_
  obtain ⟨a, e, q⟩ := q1
  subst e
  cases r1
  rcases q with ⟨⟨xs, hq⟩, q⟩ | ⟨⟨xs, hq⟩, q⟩
  · obtain ⟨its, rv, p, hz⟩ := I1.list hq
    refine wpAny_pyIter_list p.isList ?_
    refine ⟨s1.heap.objs.size, [s1.heap.objs.size], _, _, H1, rfl, I1.kept (t' := s1.toks) fun b o e => Heap.get?_push_of_some _ e, turn_list a _, ⟨_, Heap.get?_push_size _ rfl, rfl, rfl⟩, fun b hb => ?_, q⟩
    have e : b = s1.heap.objs.size := by simpa using hb
    subst e
    exact I1.fpOk (Nat.le_refl _) (I1.hok.fresh (Nat.le_refl _))
  · obtain ⟨its, rv, p, hz⟩ := I1.tuple hq
    refine wpAny_pyIter_tuple (show s1.heap.IsTuple a its.toArray from p) ?_
    refine ⟨s1.heap.objs.size, [s1.heap.objs.size], _, _, H1, rfl, I1.kept (t' := s1.toks) fun b o e => Heap.get?_push_of_some _ e, turn_tuple a _, ⟨_, Heap.get?_push_size _ rfl, rfl, rfl⟩, fun b hb => ?_, q⟩
    have e : b = s1.heap.objs.size := by simpa using hb
    subst e
    exact I1.fpOk (Nat.le_refl _) (I1.hok.fresh (Nat.le_refl _))
/-- enumerate of a list or a tuple -/
def iEnumS (K : PySem.W.Frag) (ta : TA) : TI := fun σ H R => ta σ H fun vs H1 => ∃ a, vs = [.ref a] ∧ EnumR K a H1 R
theorem pi_enumS {X : Cx} {e : Expr} {ta : TA} {p pos tpos : Pos} {elts : List Expr} {kk : Nat} (hg : Gl X "enumerate") (hm : X.mg "enumerate" = none) (ha : PA X [e] ta) (hs : starEach [e] X.env = [(false, eval e X.env)] := by rfl) :
    PI X (.Tuple elts kk tpos) (.Call (.Name "enumerate" p) [e] [] pos) (iEnumS X.K ta) := by
  refine ⟨fun pins s σ H R I h => ?_⟩
  refine Call_ (ld_blt I hg hm boot_enumerate (PyProof.Rows.callWith_type1 (thn (ha.run pos pins s σ H _ I h) fun us s1 ⟨vs, H1, I1, r1, q1⟩ => ?_) hs rfl))
  obtain ⟨a, ex, hq⟩ := q1
  subst ex
  cases r1 with
  | cons r rr =>
    cases rr
    cases r
    have fin : ∀ b, b ∈ [s1.heap.objs.size + 1, s1.heap.objs.size] → s1.heap.objs.size ≤ b := fun b hb => by
      have e' : b = s1.heap.objs.size + 1 ∨ b = s1.heap.objs.size := by simpa using hb
      rcases e' with z | z
      · rw [z]; exact Nat.le_add_right _ _
      · rw [z]; exact Nat.le_refl _
    rcases hq with ⟨⟨xs, hq⟩, q⟩ | ⟨⟨xs, hq⟩, q⟩
    · obtain ⟨its, rv, p', hz⟩ := I1.list hq
      refine call_enumerate_list p'.isList fun h' he hit hsz hk => wpAny_pyIter_enum he ?_
      have I2 : Inv X pins σ H1 { s1 with heap := h' } := I1.kept (t' := s1.toks) hk
      exact ⟨s1.heap.objs.size + 1, [s1.heap.objs.size + 1, s1.heap.objs.size], _, _, H1, rfl, I2, turn_enum a (s1.heap.objs.size + 1) s1.heap.objs.size, ⟨⟨.none, he⟩, hit, Nat.succ_ne_self _⟩, fun b hb => I1.fpOk (fin b hb) (I1.hok.fresh (fin b hb)), q⟩
    · obtain ⟨its, rv, p', hz⟩ := I1.tuple hq
      have hal : a < s1.heap.objs.size := by obtain ⟨_, q, _⟩ := id p'; exact Heap.lt_size q
      refine enum_one (begins_tuple a its.toArray) p' (fun obj => F.args_object_init_2 obj _) (F.typeCall_enumerate_1 _) (F.newCall_enumerate_1 _) fun h' he hit hsz hk => wpAny_pyIter_enum he ?_
      have I2 : Inv X pins σ H1 { s1 with heap := h' } := I1.kept (t' := s1.toks) hk
      exact ⟨s1.heap.objs.size + 1, [s1.heap.objs.size + 1, s1.heap.objs.size], _, _, H1, rfl, I2, turn_enumT a (s1.heap.objs.size + 1) s1.heap.objs.size (Nat.ne_of_lt hal) (Nat.ne_of_lt (Nat.lt_succ_of_lt hal)), ⟨⟨.none, he⟩, ⟨_, hit, rfl, rfl⟩, Nat.succ_ne_self _⟩, fun b hb => I1.fpOk (fin b hb) (I1.hok.fresh (fin b hb)), q⟩
section
variable {K : PySem.W.Frag} {H H' : Hp} {a : Addr} {xs : List V}
theorem SqA.up (k : Same H H') (h : SqA K H a xs) : SqA K H' a xs := by
  rcases h with h | h
  · refine .inl ?_
    rcases h with (h | ⟨o, h⟩) | h
    · exact .inl (.inl (k _ _ h))
    · exact .inl (.inr ⟨o, k _ _ h⟩)
    · exact .inr h
  · refine .inr ?_
    rcases h with (h | ⟨o, h⟩) | h
    · exact .inl (.inl (k _ _ h))
    · exact .inl (.inr ⟨o, k _ _ h⟩)
    · exact .inr h
theorem upL (k : Same H H') (h : SqL K H a xs) : SqL K H' a xs := by
  rcases h with (h | ⟨o, h⟩) | h
  · exact .inl (.inl (k _ _ h))
  · exact .inl (.inr ⟨o, k _ _ h⟩)
  · exact .inr h
theorem upT (k : Same H H') (h : SqT K H a xs) : SqT K H' a xs := by
  rcases h with (h | ⟨o, h⟩) | h
  · exact .inl (.inl (k _ _ h))
  · exact .inl (.inr ⟨o, k _ _ h⟩)
  · exact .inr h
/-- the walk of a list or a tuple while all stands as it stood -/
theorem seq_it {R : It → Hp → Prop} (h : SqA K H a xs) (hR : ∀ J, Walk J xs.length (fun G => Same H G) (YAt xs) → R J H) : SeqR K a H R := by
  rcases h with h | h
  · exact .inl ⟨⟨xs, h⟩, hR _ (walk_list.mono (fun G k => upL k h) fun _ _ _ _ _ _ y => y)⟩
  · exact .inr ⟨⟨xs, h⟩, hR _ (walk_tup.mono (fun G k => upT k h) fun _ _ _ _ _ _ y => y)⟩
theorem enum_it {R : It → Hp → Prop} (h : SqA K H a xs) (hR : ∀ J, Walk J xs.length (fun G => Same H G) (YPair (fun i => some (.int (i : Nat))) (fun i => xs[i]?)) → R J H) : EnumR K a H R := by
  rcases h with h | h
  · exact .inl ⟨⟨xs, h⟩, hR _ (walk_enum.mono (fun G k => upL k h) fun _ _ _ _ _ _ y => y)⟩
  · exact .inr ⟨⟨xs, h⟩, hR _ (walk_enumT.mono (fun G k => upT k h) fun _ _ _ _ _ _ y => y)⟩
end
end Tp
namespace Tp
open PySem PySem.Spec PyProof.Rows L2
theorem lenA {K : PySem.W.Frag} {H : Hp} {a : Addr} {xs : List V} (h : SqA K H a xs) : LenV K (.ref a) H xs.length := h.elim (fun h => .inl ⟨xs, h, rfl⟩) fun h => .inr ⟨xs, h, rfl⟩
theorem ixA {K : PySem.W.Frag} {H : Hp} {a : Addr} {xs : List V} {i : Int} {v : V} {Q : VK} (h : SqA K H a xs) (e : atI xs i = some v) (q : Q v H) : rIxL K (.ref a) (.int i) H Q ∨ rIxT K (.ref a) (.int i) H Q :=
  h.elim (fun h => .inl ⟨a, xs, i, v, rfl, rfl, h, e, q⟩) fun h => .inr ⟨a, xs, i, v, rfl, rfl, h, e, q⟩
end Tp
set_option Elab.async false
set_option linter.all false
set_option maxRecDepth 100000
set_option maxHeartbeats 4000000
/-! data of any depth with dicts in it, and its repr -/
namespace Tp
open PySem PySem.Spec PyProof.Rows L2
/-- a key as data -/
def kD : Key → PyData
  | .inl i => .int i
  | .inr x => .str x
mutual
inductive Dd (K : PySem.W.Frag) (H : Hp) : V → PyData → Prop
  | non : Dd K H .non .none
  | bl (b : Bool) : Dd K H (.bl b) (.bool b)
  | int (i : Int) : Dd K H (.int i) (.int i)
  | str (x : Str) : Dd K H (.str x) (.str x)
  | lst {a : Addr} {xs : List V} {ds : List PyData} : SqL K H a xs → DdAll K H xs ds → Dd K H (.ref a) (.list ds)
  | tup {a : Addr} {xs : List V} {ds : List PyData} : SqT K H a xs → DdAll K H xs ds → Dd K H (.ref a) (.tuple ds)
  | dct {a : Addr} {kvs : List (Key × V)} {es : List (PyData × PyData)} : H a = some (.dK kvs) → es.map (·.1) = kvs.map (fun kv => kD kv.1) → DdAll K H (kvs.map (·.2)) (es.map (·.2)) → Dd K H (.ref a) (.dict es)
inductive DdAll (K : PySem.W.Frag) (H : Hp) : List V → List PyData → Prop
  | nil : DdAll K H [] []
  | cons {v : V} {vs : List V} {d : PyData} {ds : List PyData} : Dd K H v d → DdAll K H vs ds → DdAll K H (v :: vs) (d :: ds)
end
/-- the table of modules is a dict of the written part -/
def Sm (K : PySem.W.Frag) : Prop := ∃ o : Obj, K.lookup sysModules = some o ∧ o.cls = .type "dict"
theorem reads_pairs {P : Program} {w : World} {h : Heap} : ∀ {es : List DictEntry} {kvs : List (Key × Value)}, Pairs (mixKind P w) es kvs → ReadsAll h (es.map (·.key)) (kvs.map fun kv => kD kv.1) [] ∧ es.map (·.val) = kvs.map (·.2)
  | _, _, .nil => ⟨.nil, rfl⟩
  | _, _, .cons h1 h2 h3 => by
    obtain ⟨ih1, ih2⟩ := reads_pairs (h := h) h3
    have e1 := keyIs_shape (show keyIs _ _ = true from h1)
    refine ⟨?_, ?_⟩
    · rcases e1 with ⟨i, t, e, e'⟩ | ⟨x, t, e, e'⟩
      · rw [List.map_cons, List.map_cons, e', e]
        exact ReadsAll.cons (as := []) (bs := []) (.int i t) ih1
      · rw [List.map_cons, List.map_cons, e', e]
        exact ReadsAll.cons (as := []) (bs := []) (.str x t) ih1
    · rw [List.map_cons, List.map_cons, ih2, h2]
theorem kv_keys : ∀ {kvs : List (Key × V)} {vs : List (Key × Value)}, KV kvs vs → vs.map (fun kv => kD kv.1) = kvs.map (fun kv => kD kv.1)
  | _, _, .nil => rfl
  | _, _, .cons a b => by rw [List.map_cons, List.map_cons, kv_keys b, a.1]
theorem kv_vals : ∀ {kvs : List (Key × V)} {vs : List (Key × Value)}, KV kvs vs → Vals (kvs.map (·.2)) (vs.map (·.2))
  | _, _, .nil => .nil
  | _, _, .cons a b => .cons a.2 (kv_vals b)
section
variable {X : Cx} {pins : List (Addr × Obj)} {σ : L2.St} {H : Hp} {s : Shared}
theorem not_list_sm (I : Inv X pins σ H s) (S : Sm X.K) {a : Addr} {o : Obj} (ho : s.heap.get? a = some o) (hc : o.cls = .type "list") : sysModules ≠ a := fun e => by
  obtain ⟨o2, hk, c2⟩ := S
  have h2 := I.kIn _ _ hk
  rw [e, ho] at h2
  have e3 := Option.some.inj h2
  rw [← e3, hc] at c2
  exact absurd (Value.type.inj c2) (by decide)
mutual
theorem Dd.reads (I : Inv X pins σ H s) (S : Sm X.K) : ∀ (d : PyData) (v : V) (u : Value), Dd X.K H v d → RelV v u → ∃ as, Reads s.heap u d as ∧ sysModules ∉ as
  | .none, _, _, h, r => by
    cases h
    cases r
    exact ⟨_, Reads.none, List.not_mem_nil⟩
  | .bool b, _, _, h, r => by
    cases h
    cases r
    exact ⟨_, Reads.bool b, List.not_mem_nil⟩
  | .int i, _, _, h, r => by
    cases h
    obtain ⟨t, rfl⟩ := r
    exact ⟨_, Reads.int i t, List.not_mem_nil⟩
  | .str x, _, _, h, r => by
    cases h
    obtain ⟨t, rfl⟩ := r
    exact ⟨_, Reads.str x t, List.not_mem_nil⟩
  | .list ds, _, _, h, r => by
    cases h with
    | lst hs ha =>
      cases r
      obtain ⟨its, rv, ⟨o, n, ho, hc, _, hd⟩, _⟩ := I.list hs
      obtain ⟨as, hr, hm⟩ := Dd.readsAll I S ds _ its ha rv
      refine ⟨_, Reads.list ho hc hd hr, fun z => ?_⟩
      rcases List.mem_cons.mp z with e | e
      · exact not_list_sm I S ho hc e
      · exact hm e
  | .tuple ds, _, _, h, r => by
    cases h with
    | tup hs ha =>
      cases r
      obtain ⟨its, rv, ⟨o, ho, hc, n, hd⟩, _⟩ := I.tuple hs
      obtain ⟨as, hr, hm⟩ := Dd.readsAll I S ds _ its ha rv
      exact ⟨_, Reads.tuple ho hc hd hr, hm⟩
  | .dict es, _, _, h, r => by
    cases h with
    | @dct a kvs _ ha he hv =>
      cases r
      obtain ⟨_, hsm, vs, rel, o, des, ep, ho, hx, hdat, _, hpr, _⟩ := dk_of I.hok ha
      obtain ⟨p1, p2⟩ := reads_pairs (h := s.heap) hpr
      have hkeys := kv_keys rel
      have hvals := kv_vals rel
      rw [← p2] at hvals
      obtain ⟨bs, hr, hm⟩ := Dd.readsPairs I S es _ _ hv hvals
      refine ⟨_, Reads.dict (as := []) (bs := bs) ho hx.1 hdat ?_ hr, fun z => ?_⟩
      · rw [he, ← hkeys]
        exact p1
      · rcases List.mem_cons.mp z with e | e
        · rw [← e] at hsm
          cases hsm
        · exact hm e
theorem Dd.readsAll (I : Inv X pins σ H s) (S : Sm X.K) : ∀ (ds : List PyData) (vs : List V) (us : List Value), DdAll X.K H vs ds → Vals vs us → ∃ as, ReadsAll s.heap us ds as ∧ sysModules ∉ as
  | [], _, _, h, r => by
    cases h
    cases r
    exact ⟨_, ReadsAll.nil, List.not_mem_nil⟩
  | d :: ds, _, _, h, r => by
    cases h with
    | cons h1 h2 =>
      cases r with
      | cons r1 r2 =>
        obtain ⟨as, q1, n1⟩ := Dd.reads I S d _ _ h1 r1
        obtain ⟨bs, q2, n2⟩ := Dd.readsAll I S ds _ _ h2 r2
        exact ⟨_, ReadsAll.cons q1 q2, fun z => (List.mem_append.mp z).elim n1 n2⟩
theorem Dd.readsPairs (I : Inv X pins σ H s) (S : Sm X.K) : ∀ (es : List (PyData × PyData)) (vs : List V) (us : List Value), DdAll X.K H vs (es.map (·.2)) → Vals vs us → ∃ as, ReadsAll s.heap us (es.map (·.2)) as ∧ sysModules ∉ as
  | [], _, _, h, r => by
    cases h
    cases r
    exact ⟨_, ReadsAll.nil, List.not_mem_nil⟩
  | (k, d) :: ds, _, _, h, r => by
    cases h with
    | cons h1 h2 =>
      cases r with
      | cons r1 r2 =>
        obtain ⟨as, q1, n1⟩ := Dd.reads I S d _ _ h1 r1
        obtain ⟨bs, q2, n2⟩ := Dd.readsPairs I S ds _ _ h2 r2
        exact ⟨_, ReadsAll.cons q1 q2, fun z => (List.mem_append.mp z).elim n1 n2⟩
end
end
/-- repr(x) of data -/
def rReprD (K : PySem.W.Frag) : List V → Hp → VK → Prop := fun xs H Q => ∃ (a : Addr) (d : PyData), xs = [.ref a] ∧ Dd K H (.ref a) d ∧ d.showable = true ∧ d.depth ≤ 60 ∧ d.shown.length ≤ sizeLine ∧ Q (.str d.shown) H
theorem call_reprD {X : Cx} {k : Nat} (S : Sm X.K) (hr : Room k X.A) (hG : X.A.guards = some []) : CallR X (.builtin "repr") (rReprD X.K) := by
  intro pins s σ H xs us Q I r h
  obtain ⟨a, d, rfl, hd, hs, hdep, hz, q⟩ := h
  obtain ⟨u, rfl, r1⟩ := vals1 r
  cases (show u = Value.ref a from r1)
  obtain ⟨as, hrd, hm⟩ := Dd.reads I S d _ _ hd rfl
  have hu := hr.units
  exact repr_of_reads' hrd hs (fun _ => hm) hG (by omega) (fun _ _ e => e) (fun h' u tk hk => ⟨.str d.shown, H, I.kept hk, ⟨u, rfl⟩, q⟩) hz
section
variable {K : PySem.W.Frag} {H H' : Hp}
theorem SqL.up (k : Same H H') {a : Addr} {xs : List V} (h : SqL K H a xs) : SqL K H' a xs := by
  rcases h with (h | ⟨o, h⟩) | h
  · exact .inl (.inl (k _ _ h))
  · exact .inl (.inr ⟨o, k _ _ h⟩)
  · exact .inr h
theorem SqT.up (k : Same H H') {a : Addr} {xs : List V} (h : SqT K H a xs) : SqT K H' a xs := by
  rcases h with (h | ⟨o, h⟩) | h
  · exact .inl (.inl (k _ _ h))
  · exact .inl (.inr ⟨o, k _ _ h⟩)
  · exact .inr h
mutual
theorem Dd.up (k : Same H H') : ∀ (d : PyData) (v : V), Dd K H v d → Dd K H' v d
  | .none, _, h => by cases h; exact .non
  | .bool _, _, h => by cases h; exact .bl _
  | .int _, _, h => by cases h; exact .int _
  | .str _, _, h => by cases h; exact .str _
  | .list ds, _, h => by
    cases h with
    | lst hs ha => exact .lst (SqL.up k hs) (Dd.upAll k ds _ ha)
  | .tuple ds, _, h => by
    cases h with
    | tup hs ha => exact .tup (SqT.up k hs) (Dd.upAll k ds _ ha)
  | .dict es, _, h => by
    cases h with
    | dct ha he hv => exact .dct (k _ _ ha) he (Dd.upPairs k es _ hv)
theorem Dd.upAll (k : Same H H') : ∀ (ds : List PyData) (vs : List V), DdAll K H vs ds → DdAll K H' vs ds
  | [], _, h => by cases h; exact .nil
  | d :: ds, _, h => by
    cases h with
    | cons h1 h2 => exact .cons (Dd.up k d _ h1) (Dd.upAll k ds _ h2)
theorem Dd.upPairs (k : Same H H') : ∀ (es : List (PyData × PyData)) (vs : List V), DdAll K H vs (es.map (·.2)) → DdAll K H' vs (es.map (·.2))
  | [], _, h => by cases h; exact .nil
  | (_, d) :: ds, _, h => by
    cases h with
    | cons h1 h2 => exact .cons (Dd.up k d _ h1) (Dd.upPairs k ds _ h2)
end
theorem Dd.mono {v : V} {d : PyData} (k : Same H H') (h : Dd K H v d) : Dd K H' v d := Dd.up k d v h
theorem DdAll.mono {vs : List V} {ds : List PyData} (k : Same H H') (h : DdAll K H vs ds) : DdAll K H' vs ds := Dd.upAll k ds vs h
theorem DdAll.len : ∀ {vs : List V} {ds : List PyData}, DdAll K H vs ds → vs.length = ds.length
  | _, _, .nil => rfl
  | _, _, .cons _ h => congrArg Nat.succ (DdAll.len h)
theorem DdAll.get : ∀ {vs : List V} {ds : List PyData} {i : Nat} {v : V}, DdAll K H vs ds → vs[i]? = some v → ∃ d, ds[i]? = some d ∧ Dd K H v d
  | _, _, 0, _, .cons h _, e => by
    cases e
    exact ⟨_, rfl, h⟩
  | _, _, i + 1, _, .cons _ h, e => DdAll.get (i := i) h e
  | _, _, _, _, .nil, e => by cases e
theorem DdAll.set : ∀ {vs : List V} {ds : List PyData} {i : Nat} {v : V} {d : PyData}, DdAll K H vs ds → Dd K H v d → DdAll K H (vs.set i v) (ds.set i d)
  | _, _, 0, _, _, .cons _ h, e => .cons e h
  | _, _, i + 1, _, _, .cons h1 h, e => .cons h1 (DdAll.set (i := i) h e)
  | _, _, _, _, _, .nil, _ => .nil
theorem DdAll.app : ∀ {vs ws : List V} {ds es : List PyData}, DdAll K H vs ds → DdAll K H ws es → DdAll K H (vs ++ ws) (ds ++ es)
  | _, _, _, _, .nil, h => h
  | _, _, _, _, .cons h1 h2, h => .cons h1 (DdAll.app h2 h)
theorem ddAll_flat : ∀ {vs : List V}, vs.all isFlat = true → DdAll K H vs (vs.map dV)
  | [], _ => .nil
  | v :: vs, h => by
    rw [List.all_cons, Bool.and_eq_true] at h
    refine .cons ?_ (ddAll_flat h.2)
    match v, h.1 with
    | .non, _ => exact .non
    | .bl b, _ => exact .bl b
    | .int i, _ => exact .int i
    | .str x, _ => exact .str x
end
end Tp
set_option Elab.async false
set_option linter.all false
set_option maxRecDepth 100000
set_option maxHeartbeats 4000000
/-! kinds of any value, and what the four questions of the document answer -/
namespace Tp
open PySem PySem.Spec PyProof.Rows L2
def tys6 : List String := ["int", "bool", "str", "list", "tuple", "dict"]
/-- the answer of isinstance, by the kind's name -/
def ansB (k t : String) : Bool := k == t || (k == "bool" && t == "int")
/-- all that isinstance answers of a value, by its kind -/
def Knd (K : PySem.W.Frag) (H : Hp) (x : V) (k : String) : Prop := (∃ t, TyX K H x t ∧ ∀ u ∈ tys6, PySem.W.kitOne K t (.type u) = some (ansB k u)) ∨
  ∃ (a D : Addr) (fs : List (Str × V)), x = .ref a ∧ ExAt H a D fs ∧ ExK K D ∧ ∀ u ∈ tys6, PySem.W.kitOne K (.ref D) (.type u) = some (ansB k u)
theorem Knd.mono {K : PySem.W.Frag} {H H' : Hp} {x : V} {k : String} (s : Same H H') (h : Knd K H x k) : Knd K H' x k := by
  rcases h with ⟨t, ty, e⟩ | ⟨a, D, fs, e1, hA, T, e⟩
  · exact .inl ⟨t, TyX.up s ty, e⟩
  · exact .inr ⟨a, D, fs, e1, hA.mono s, T, e⟩
theorem Knd.is {K : PySem.W.Frag} {H : Hp} {x : V} {k : String} (h : Knd K H x k) (u : String) (hu : u ∈ tys6) : IsR K H x (.type u) (ansB k u) := by
  rcases h with ⟨t, ty, e⟩ | ⟨a, D, fs, e1, hA, T, e⟩
  · exact .inl ⟨t, ty, e u hu⟩
  · exact .inr ⟨a, D, fs, e1, hA, T, e u hu⟩
theorem any2 {K : PySem.W.Frag} {t a b : Value} {p q : Bool} (h1 : PySem.W.kitOne K t a = some p) (h2 : PySem.W.kitOne K t b = some q) : PySem.W.kitAny K t [a, b] = some (p || q) :=
  kitAny_cons h1 (fun z => by
    rw [z, Bool.false_or]
    exact kitAny_cons h2 (fun z => by rw [z]; rfl) fun z => z) fun z => by rw [z, Bool.true_or]
theorem Knd.lt {K : PySem.W.Frag} {H : Hp} {x : V} {k : String} (h : Knd K H x k) : IsA K H x [.type "list", .type "tuple"] (ansB k "list" || ansB k "tuple") := by
  rcases h with ⟨t, ty, e⟩ | ⟨a, D, fs, e1, hA, T, e⟩
  · exact .inl ⟨t, ty, any2 (e _ (by decide)) (e _ (by decide))⟩
  · exact .inr ⟨a, D, fs, e1, hA, T, any2 (e _ (by decide)) (e _ (by decide))⟩
theorem knd_ty {K : PySem.W.Frag} {H : Hp} {x : V} (t : String) (h : TyX K H x (.type t)) (e : tys6.all (fun u => decide (kitB t u = some (ansB t u))) = true) : Knd K H x t :=
  .inl ⟨_, h, fun u hu => kit_ty (of_decide_eq_true (List.all_eq_true.mp e u hu))⟩
/-- a value with its kind; what an int and a text are -/
structure Vk (K : PySem.W.Frag) (H : Hp) (x : V) (k : String) : Prop where
  kd : Knd K H x k
  i : k = "int" → ∃ i, x = .int i
  s : k = "str" → ∃ z : Str, x = .str z ∧ z.length ≤ 5000
theorem Vk.mono {K : PySem.W.Frag} {H H' : Hp} {x : V} {k : String} (s : Same H H') (h : Vk K H x k) : Vk K H' x k := ⟨h.kd.mono s, h.i, h.s⟩
theorem vk_of {K : PySem.W.Frag} {H : Hp} {x : V} (k : String) (h : Knd K H x k) (h1 : k ≠ "int" := by decide) (h2 : k ≠ "str" := by decide) : Vk K H x k := ⟨h, fun e => absurd e h1, fun e => absurd e h2⟩
section
variable {K : PySem.W.Frag} {H : Hp}
theorem vk_non : Vk K H .non "NoneType" := vk_of _ (knd_ty _ (.base .non) (by decide +kernel))
theorem vk_bl (b : Bool) : Vk K H (.bl b) "bool" := vk_of _ (knd_ty _ (.base (.bl b)) (by decide +kernel))
theorem vk_int (i : Int) : Vk K H (.int i) "int" := ⟨knd_ty _ (.base (.int i)) (by decide +kernel), fun _ => ⟨i, rfl⟩, fun e => absurd e (by decide)⟩
theorem vk_str (z : Str) (h : z.length ≤ 5000) : Vk K H (.str z) "str" := ⟨knd_ty _ (.base (.str z)) (by decide +kernel), fun e => absurd e (by decide), fun _ => ⟨z, rfl, h⟩⟩
theorem tyx_list {a : Addr} {xs : List V} (h : SqL K H a xs) : TyX K H (.ref a) (.type "list") := by
  rcases h with (h | ⟨o, h⟩) | ⟨o, _, _, h, c, _⟩
  · exact .base (.lst h)
  · exact .base (.frz h)
  · exact .kList h c
theorem tyx_tuple {a : Addr} {xs : List V} (h : SqT K H a xs) : TyX K H (.ref a) (.type "tuple") := by
  rcases h with (h | ⟨o, h⟩) | ⟨o, _, _, h, c, _⟩
  · exact .base (.tup h)
  · exact .fTuple h
  · exact .kTuple h c
theorem vk_list {a : Addr} {xs : List V} (h : SqL K H a xs) : Vk K H (.ref a) "list" := vk_of _ (knd_ty _ (tyx_list h) (by decide +kernel))
theorem vk_tuple {a : Addr} {xs : List V} (h : SqT K H a xs) : Vk K H (.ref a) "tuple" := vk_of _ (knd_ty _ (tyx_tuple h) (by decide +kernel))
theorem vk_dict {a : Addr} {kvs : List (Key × V)} (h : H a = some (.dK kvs)) : Vk K H (.ref a) "dict" := vk_of _ (knd_ty _ (.base (.dK h)) (by decide +kernel))
/-- what isinstance asks of an instance of an own class -/
structure InsK (K : PySem.W.Frag) (C : Addr) : Prop where
  cl : Cls K C
  ha : PySem.W.findIn K (.ref C) "__class__" = some (some (.builtin "object.__class__"))
  hn : PySem.W.specialIn K (.builtin "object.__class__") "__get__" = some (some (.builtin "getset_descriptor.__get__"))
  ht : PySem.W.takesIn K (.builtin "object.__class__") = some true
  hm : PySem.W.mroIn K C (.type "object") = some true
  no : ∀ u ∈ tys6, PySem.W.kitOne K (.ref C) (.type u) = some false
theorem vk_ins {C a dx : Addr} {fs : List (Str × V)} (I : InsK K C) (h : H a = some (.ins C dx fs)) : Vk K H (.ref a) "object" :=
  vk_of _ (.inl ⟨_, .base (.ins h I.cl I.ha I.hn I.ht I.hm), fun u hu => by
    rw [I.no u hu]
    have : ∀ u ∈ tys6, ansB "object" u = false := by decide
    rw [this u hu]⟩)
theorem vk_exc {C a : Addr} {fs : List (Str × V)} (T : ExK K C) (no : ∀ u ∈ tys6, PySem.W.kitOne K (.ref C) (.type u) = some false) (h : ExAt H a C fs) : Vk K H (.ref a) "object" :=
  vk_of _ (.inr ⟨a, C, fs, rfl, h, T, fun u hu => by
    rw [no u hu]
    have : ∀ u ∈ tys6, ansB "object" u = false := by decide
    rw [this u hu]⟩)
end
/-! ### the answers -/
def lowB (c : Nat) : Bool := decide (97 ≤ c ∧ c ≤ 122)
def digB (c : Nat) : Bool := decide (48 ≤ c ∧ c ≤ 57)
/-- is it a name? -/
def nameB (l : List Nat) : Bool := decide (1 ≤ l.length ∧ l.length ≤ 8) && (l.head?.any lowB && l.all fun c => lowB c || digB c)
def nameV : V → Bool
  | .str z => nameB (TL.tl z)
  | _ => false
def intB (lo hi : Int) : V → Bool
  | .int i => decide (lo ≤ i ∧ i ≤ hi)
  | _ => false
/-- is_whole -/
def spWhole (K : PySem.W.Frag) : Sp := fun vs H Q _ => ∃ (x : V) (k : String), vs = [x] ∧ Vk K H x k ∧ Q (.bl (k == "int")) H
/-- is_integer -/
def spInteger (K : PySem.W.Frag) : Sp := fun vs H Q _ => ∃ (x : V) (lo hi : Int) (k : String), vs = [x, .int lo, .int hi] ∧ Vk K H x k ∧ (k ≠ "int" → Q (.bl false) H) ∧ ∀ i, x = .int i → Q (.bl (decide (lo ≤ i ∧ i ≤ hi))) H
/-- is_name -/
def spName (K : PySem.W.Frag) : Sp := fun vs H Q _ => ∃ (x : V) (k : String), vs = [x] ∧ Vk K H x k ∧ (k ≠ "str" → Q (.bl false) H) ∧ ∀ z, x = .str z → ∀ H', Same H H' → Q (.bl (nameB (TL.tl z))) H'
/-- is_list -/
def spList (K : PySem.W.Frag) : Sp := fun vs H Q _ => ∃ (x : V) (k : String), vs = [x] ∧ Vk K H x k ∧ ∀ H', Same H H' → Q (.bl (k == "list" || k == "tuple")) H'
theorem low_mem (c : Nat) : decide (c ∈ (("abcdefghijklmnopqrstuvwxyz" : Str)).cps.toList) = lowB c := by
  have e : (("abcdefghijklmnopqrstuvwxyz" : Str)).cps.toList = (List.range 26).map (· + 97) := by decide +kernel
  rw [e]
  unfold lowB
  refine decide_eq_decide.mpr ⟨fun h => ?_, fun h => ?_⟩
  · obtain ⟨i, hi, rfl⟩ := List.mem_map.mp h
    have := List.mem_range.mp hi
    omega
  · exact List.mem_map.mpr ⟨c - 97, List.mem_range.mpr (by omega), by omega⟩
theorem dig_mem' (c : Nat) : decide (c ∈ (("0123456789" : Str)).cps.toList) = digB c := by
  have e : (("0123456789" : Str)).cps.toList = (List.range 10).map (· + 48) := by decide +kernel
  rw [e]
  unfold digB
  refine decide_eq_decide.mpr ⟨fun h => ?_, fun h => ?_⟩
  · obtain ⟨i, hi, rfl⟩ := List.mem_map.mp h
    have := List.mem_range.mp hi
    omega
  · exact List.mem_map.mpr ⟨c - 48, List.mem_range.mpr (by omega), by omega⟩
/-! data: the kind, and the shape of a term row -/
def kindD : PyData → String
  | .none => "NoneType"
  | .bool _ => "bool"
  | .int _ => "int"
  | .str _ => "str"
  | .list _ => "list"
  | .tuple _ => "tuple"
  | .dict _ => "dict"
mutual
def shortD : PyData → Bool
  | .str z => decide (z.length ≤ 5000)
  | .list ds => shortAll ds
  | .tuple ds => shortAll ds
  | .none => true
  | .bool _ => true
  | .int _ => true
  | .dict _ => true
def shortAll : List PyData → Bool
  | [] => true
  | d :: ds => shortD d && shortAll ds
end
theorem shortAll_get : ∀ {ds : List PyData} {i : Nat} {d : PyData}, shortAll ds = true → ds[i]? = some d → shortD d = true
  | d :: ds, 0, _, h, e => by
    cases e
    simp only [shortAll, Bool.and_eq_true] at h
    exact h.1
  | d :: ds, i + 1, _, h, e => by
    simp only [shortAll, Bool.and_eq_true] at h
    exact shortAll_get (i := i) h.2 e
theorem vk_dd {K : PySem.W.Frag} {H : Hp} : ∀ {v : V} {d : PyData}, Dd K H v d → shortD d = true → Vk K H v (kindD d)
  | _, _, .non, _ => vk_non
  | _, _, .bl b, _ => vk_bl b
  | _, _, .int i, _ => vk_int i
  | _, _, .str z, h => vk_str z (of_decide_eq_true (by simpa only [shortD] using h))
  | _, _, .lst h _, _ => vk_list h
  | _, _, .tup h _, _ => vk_tuple h
  | _, _, .dct h _ _, _ => vk_dict h
/-- the items of a list or a tuple -/
def seqD : PyData → Option (List PyData)
  | .list ds => some ds
  | .tuple ds => some ds
  | _ => none
def nameD : PyData → Bool
  | .str z => nameB (TL.tl z)
  | _ => false
def idxD (i : Nat) : PyData → Bool
  | .int n => decide (0 ≤ n ∧ n ≤ (i : Int) - 1)
  | _ => false
def numsB (i : Nat) (d : PyData) : Bool := match seqD d with
  | some ns => decide (ns.length ≤ 3) && ns.all (idxD i)
  | none => false
/-- may it stand at index i as a term row? -/
def rowB (i : Nat) (d : PyData) : Bool := match seqD d with
  | some [a, b] => nameD a && numsB i b
  | _ => false
def rowsB : Nat → List PyData → Bool
  | _, [] => true
  | i, d :: ds => rowB i d && rowsB (i + 1) ds
def termsB (d : PyData) : Bool := match seqD d with
  | some ds => rowsB 0 ds
  | none => false
/-- _is_term_row -/
def spTermRow (K : PySem.W.Frag) : Sp := fun vs H Q _ => ∃ (x : V) (i : Nat) (d : PyData), vs = [x, .int (i : Nat)] ∧ Dd K H x d ∧ shortD d = true ∧ i ≤ 5000 ∧ ∀ H', Same H H' → Q (.bl (rowB i d)) H'
/-- is_terms of data, or of what is no list -/
def spTerms (K : PySem.W.Frag) : Sp := fun vs H Q _ => ∃ x : V, vs = [x] ∧ ((∃ d, Dd K H x d ∧ shortD d = true ∧ (∀ ds, seqD d = some ds → ds.length ≤ 5000) ∧ ∀ H', Same H H' → Q (.bl (termsB d)) H') ∨ (∃ k, Vk K H x k ∧ (k == "list" || k == "tuple") = false ∧ ∀ H', Same H H' → Q (.bl false) H'))
end Tp
namespace Tp
open PySem PySem.Spec PyProof.Rows L2
theorem ans_int {k : String} (h : ansB k "int" = true) : (!ansB k "bool") = (k == "int") := by
  unfold ansB at h ⊢
  by_cases e : k = "int"
  · subst e
    decide
  · have e2 : k = "bool" := by simpa [e] using h
    subst e2
    decide
theorem ans_int0 {k : String} (h : ansB k "int" = false) : (k == "int") = false := by
  unfold ansB at h
  simp only [Bool.or_eq_false_iff] at h
  exact h.1
theorem ans_lt (k : String) : (ansB k "list" || ansB k "tuple") = (k == "list" || k == "tuple") := by
  unfold ansB
  have h1 : ("list" == "int") = false := by decide
  have h2 : ("tuple" == "int") = false := by decide
  rw [h1, h2, Bool.and_false, Bool.or_false, Bool.or_false]
theorem ans_str (k : String) : ansB k "str" = (k == "str") := by
  unfold ansB
  have h1 : ("str" == "int") = false := by decide
  rw [h1, Bool.and_false, Bool.or_false]
theorem if_true_of {c : Bool} {A B : Prop} (hc : c = true) (h : A) : if c = true then A else B := by
  rw [hc]
  exact iteT h
theorem if_false_of {c : Bool} {A B : Prop} (hc : c = false) (h : B) : if c = true then A else B := by
  rw [hc]
  exact iteF h
theorem gl_c {X : Cx} {x : Str} {v : V} {pos : Pos} (hg : Gl X x) (h : ∃ u, X.mg x = some u ∧ RelV v u) (hd : (x == ("__debug__" : Str)) = false := by decide) : PE X (.Name x pos) (tC v) := by
  obtain ⟨u, h1, h2⟩ := h
  exact pe_glob hg h1 h2 hd
end Tp
namespace Tp
open PySem PySem.Spec PyProof.Rows L2
theorem dd_seq {K : PySem.W.Frag} {H : Hp} {x : V} {d : PyData} {ds : List PyData} (h : Dd K H x d) (e : seqD d = some ds) : ∃ a xs, x = .ref a ∧ SqA K H a xs ∧ DdAll K H xs ds := by
  cases h with
  | lst hs ha =>
    cases e
    exact ⟨_, _, rfl, .inl hs, ha⟩
  | tup hs ha =>
    cases e
    exact ⟨_, _, rfl, .inr hs, ha⟩
  | _ => cases e
theorem kind_seq (d : PyData) : (kindD d == "list" || kindD d == "tuple") = (seqD d).isSome := by
  cases d <;> first | rfl | simp [kindD, seqD]
theorem short_seq {d : PyData} {ds : List PyData} (h : shortD d = true) (e : seqD d = some ds) : shortAll ds = true := by
  cases d with
  | list xs =>
    cases e
    simpa only [shortD] using h
  | tuple xs =>
    cases e
    simpa only [shortD] using h
  | _ => cases e
theorem kind_str {K : PySem.W.Frag} {H : Hp} {x : V} {d : PyData} (h : Dd K H x d) : kindD d ≠ "str" → nameD d = false := by
  cases h <;> first | (intro _; rfl) | (intro e; exact absurd rfl e)
theorem kind_int {K : PySem.W.Frag} {H : Hp} {x : V} {d : PyData} (h : Dd K H x d) (i : Nat) : kindD d ≠ "int" → idxD i d = false := by
  cases h <;> first | (intro _; rfl) | (intro e; exact absurd rfl e)
/-- is_name of data -/
theorem name_dd {K : PySem.W.Frag} {H : Hp} {x : V} {d : PyData} {Q : VK} {E : XK} (h : Dd K H x d) (hs : shortD d = true) (q : ∀ H', Same H H' → Q (.bl (nameD d)) H') : spName K [x] H Q E :=
  ⟨x, kindD d, rfl, vk_dd h hs, fun e => by
    have := q H (Same.refl _)
    rwa [kind_str h e] at this, fun z e H' s => by
    subst e
    cases h
    exact q H' s⟩
/-- is_integer of data -/
theorem int_dd {K : PySem.W.Frag} {H : Hp} {x : V} {d : PyData} {i : Nat} {Q : VK} {E : XK} (h : Dd K H x d) (hs : shortD d = true) (q : Q (.bl (idxD i d)) H) : spInteger K [x, .int 0, .int ((i : Nat) - 1)] H Q E :=
  ⟨x, 0, (i : Nat) - 1, kindD d, rfl, vk_dd h hs, fun e => by
    rwa [kind_int h i e] at q, fun n e => by
    subst e
    cases h
    exact q⟩
theorem DdAll.at {K : PySem.W.Frag} {H : Hp} : ∀ {vs : List V} {ds : List PyData} {i : Nat} {d : PyData}, DdAll K H vs ds → ds[i]? = some d → ∃ v, vs[i]? = some v ∧ Dd K H v d
  | _, _, 0, _, .cons h _, e => by
    cases e
    exact ⟨_, rfl, h⟩
  | _, _, i + 1, _, .cons _ h, e => DdAll.at (i := i) h e
  | _, _, _, _, .nil, e => by cases e
def rowsAt (k : Nat) : List PyData → List Bool
  | [] => []
  | d :: ds => rowB k d :: rowsAt (k + 1) ds
theorem rowsAt_len (k : Nat) : ∀ ds : List PyData, (rowsAt k ds).length = ds.length
  | [] => rfl
  | _ :: ds => congrArg Nat.succ (rowsAt_len (k + 1) ds)
theorem rowsAt_all (k : Nat) : ∀ ds : List PyData, (rowsAt k ds).all id = rowsB k ds
  | [] => rfl
  | d :: ds => by
    rw [rowsAt, List.all_cons, rowsAt_all (k + 1) ds]
    rfl
theorem rowsAt_take : ∀ (k : Nat) (ds : List PyData) (i : Nat) (d : PyData), ds[i]? = some d → (rowsAt k ds).take (i + 1) = (rowsAt k ds).take i ++ [rowB (k + i) d]
  | k, [], i, d, e => by cases e
  | k, x :: ds, 0, d, e => by
    cases e
    rfl
  | k, x :: ds, i + 1, d, e => by
    have ih := rowsAt_take (k + 1) ds i d e
    rw [rowsAt, List.take_succ_cons, ih, List.take_succ_cons]
    rw [show k + 1 + i = k + (i + 1) by omega]
    rfl
end Tp
namespace Tp
open PySem PySem.Spec PyProof.Rows L2
theorem Same.tr {A B D : Hp} (a : Same A B) (b : Same B D) : Same A D := fun x o e => b x o (a x o e)
theorem ne_dec1 {n : Nat} {z : Int} (h : ¬ ((n : Nat) : Int) = z) : (!decide (V.int ((n : Nat) : Int) = V.int z)) = true := by
  rw [decide_eq_false fun e => h (V.int.inj e)]
  rfl
theorem ne_dec2 {n : Nat} {z : Int} (h : ((n : Nat) : Int) = z) : (!decide (V.int ((n : Nat) : Int) = V.int z)) = false := by
  rw [decide_eq_true (congrArg V.int h)]
  rfl
end Tp
namespace Tp
open PySem PySem.Spec PyProof.Rows L2
/-- an empty or any list or tuple is a list -/
theorem vk_seqA {K : PySem.W.Frag} {H : Hp} {a : Addr} {xs : List V} (h : SqA K H a xs) : ∃ k, Vk K H (.ref a) k ∧ (k == "list" || k == "tuple") = true :=
  h.elim (fun h => ⟨_, vk_list h, by decide⟩) fun h => ⟨_, vk_tuple h, by decide⟩
end Tp
set_option Elab.async false
set_option linter.all false
set_option maxRecDepth 100000
set_option maxHeartbeats 4000000
namespace T02
open PySem PySem.Spec PyProof.Rows L2 Tp

/-- the built-ins and constants that the checks name -/
structure TxtV (mg : Str → Option Value) : Prop where
  isinstance : mg "isinstance" = none
  int : mg "int" = none
  bool : mg "bool" = none
  str : mg "str" = none
  list : mg "list" = none
  tuple : mg "tuple" = none
  len : mg "len" = none
  all : mg "all" = none
  enumerate : mg "enumerate" = none
  letters : ∃ u, mg "LETTERS" = some u ∧ RelV (.str "abcdefghijklmnopqrstuvwxyz") u
  digits : ∃ u, mg "DIGITS" = some u ∧ RelV (.str "0123456789") u
  longest : ∃ u, mg "LONGEST_NAME" = some u ∧ RelV (.int 8) u
  most : ∃ u, mg "MOST_ARGUMENTS" = some u ∧ RelV (.int 3) u

section
variable {P : Program} {w : World} {K : PySem.W.Frag} {mg : Str → Option Value} {base : Heap} {f : Addr} {fd : FuncData}

abbrev sVw : Stmt := top 8
abbrev nVw : List Str := ["value"]
theorem scVw : FnScope nVw ["value"] (defScope sVw) := ⟨rfl, rfl, rfl, by decide +kernel, rfl, by decide +kernel, by decide +kernel⟩

theorem ok_whole (F : Fun K "is_whole" "is_whole" sVw f fd) (T : TxtV mg) : FnG P w K mg base CX0 1 f fd ["value"] (spWhole K) := by
  refine FunG.ok F scVw (fun vs H Q E h => ?_) (fun cdv B out s H vs Q E hr hG h => ?_)
  · obtain ⟨x, k, rfl, _⟩ := h
    rfl
  · obtain ⟨x, k, rfl, v, q⟩ := h
    refine ⟨_, (pss_one (ps_ret (pe_and (pe_callB call_isd (by rfl) T.isinstance (by decide +kernel) (pa_cons (pv 0) (pa_cons (pe_bltn (by rfl) T.int (by decide +kernel) (show RelV (.ty "int") _ from rfl)) pa_nil))) (pe_one (pe_not (pe_callB call_isd (by rfl) T.isinstance (by decide +kernel) (pa_cons (pv 0) (pa_cons (pe_bltn (by rfl) T.bool (by decide +kernel) (show RelV (.ty "bool") _ from rfl)) pa_nil)))))))), ?_⟩
    refine ⟨_, rfl, _, _, _, _, rfl, .ty _, v.kd.is "int" (by decide), _, rfl, ?_⟩
    refine ite2 (fun h1 => ?_) (fun h1 => ?_)
    · refine ⟨_, rfl, _, _, _, _, rfl, .ty _, v.kd.is "bool" (by decide), _, rfl, ?_⟩
      have e : (!ansB k "bool") = (k == "int") := ans_int h1
      rw [e]
      exact q
    · have e : (k == "int") = false := ans_int0 (Bool.eq_false_iff.mpr h1)
      rw [e] at q
      exact q

abbrev sVi : Stmt := top 7
abbrev nVi : List Str := ["value", "low", "high"]
theorem scVi : FnScope nVi ["value", "low", "high"] (defScope sVi) := ⟨rfl, rfl, rfl, by decide +kernel, rfl, by decide +kernel, by decide +kernel⟩

theorem ok_integer (F : Fun K "is_integer" "is_integer" sVi f fd) (W : Cg P w K mg base 1 "is_whole" (spWhole K)) : FnG P w K mg base CX0 2 f fd ["value", "low", "high"] (spInteger K) := by
  refine FunG.ok F scVi (fun vs H Q E h => ?_) (fun cdv B out s H vs Q E hr hG h => ?_)
  · obtain ⟨x, lo, hi, k, rfl, _⟩ := h
    rfl
  · obtain ⟨x, lo, hi, k, rfl, v, q0, q1⟩ := h
    refine ⟨_, (pss_one (ps_ret (pe_and (pe_g W hr hG (by decide) (by rfl) (pa_cons (pv 0) pa_nil)) (pe_one (pe_chain op_le op_le (pv 1) (pv 0) (pv 2)))))), ?_⟩
    refine ⟨_, rfl, _, k, rfl, v, _, rfl, ?_⟩
    refine ite2 (fun h1 => ?_) (fun h1 => ?_)
    · obtain ⟨i, rfl⟩ := v.i (by simpa using h1)
      refine ⟨_, rfl, _, rfl, _, _, rfl, rfl, _, rfl, ?_⟩
      have q := q1 i rfl
      refine ite2 (fun h2 => ?_) (fun h2 => ?_)
      · refine ⟨_, rfl, _, _, rfl, rfl, ?_⟩
        have e : decide (lo ≤ i ∧ i ≤ hi) = decide (i ≤ hi) := decide_eq_decide.mpr ⟨fun z => z.2, fun z => ⟨of_decide_eq_true h2, z⟩⟩
        rw [e] at q
        exact q
      · have e : decide (lo ≤ i ∧ i ≤ hi) = false := decide_eq_false fun z => h2 (decide_eq_true z.1)
        rw [e] at q
        exact q
    · exact q0 fun e => h1 (by rw [e]; rfl)

abbrev sVl : Stmt := top 10
abbrev nVl : List Str := ["value"]
theorem scVl : FnScope nVl ["value"] (defScope sVl) := ⟨rfl, rfl, rfl, by decide +kernel, rfl, by decide +kernel, by decide +kernel⟩

theorem ok_list (F : Fun K "is_list" "is_list" sVl f fd) (T : TxtV mg) : FnG P w K mg base CX0 1 f fd ["value"] (spList K) := by
  refine FunG.ok F scVl (fun vs H Q E h => ?_) (fun cdv B out s H vs Q E hr hG h => ?_)
  · obtain ⟨x, k, rfl, _⟩ := h
    rfl
  · obtain ⟨x, k, rfl, v, q⟩ := h
    refine ⟨_, (pss_one (ps_ret (pe_callB call_isdT (by rfl) T.isinstance (by decide +kernel) (pa_cons (pv 0) (pa_cons (pe_tup (pa_cons (pe_bltn (by rfl) T.list (by decide +kernel) (show RelV (.ty "list") _ from rfl)) (pa_cons (pe_bltn (by rfl) T.tuple (by decide +kernel) (show RelV (.ty "tuple") _ from rfl)) pa_nil))) pa_nil))))), ?_⟩
    have prs : Paired ClsV [V.ty "list", V.ty "tuple"] [.type "list", .type "tuple"] := .cons (.ty _) (.cons (.ty _) .nil)
    refine ⟨_, rfl, (by show 2 ≤ sizeLine; decide), fun p hp => ⟨_, p, _, _, _, rfl, upd_same, prs, v.kd.lt.mono (Same.put hp), ?_⟩⟩
    rw [ans_lt]
    exact q _ (Same.put hp)

abbrev sVn : Stmt := top 9
abbrev nVn : List Str := ["value", "character"]
theorem scVn : FnScope nVn ["value"] (defScope sVn) := ⟨rfl, rfl, rfl, by decide +kernel, rfl, by decide +kernel, by decide +kernel⟩

theorem ok_name (F : Fun K "is_name" "is_name" sVn f fd) (T : TxtV mg) : FnG P w K mg base CX0 1 f fd ["value"] (spName K) := by
  refine FunG.ok F scVn (fun vs H Q E h => ?_) (fun cdv B out s H vs Q E hr hG h => ?_)
  · obtain ⟨x, k, rfl, _⟩ := h
    rfl
  · obtain ⟨x, k, rfl, v, q0, q1⟩ := h
    refine ⟨_, (pss_cons (ps_if (PW.pt (pw_or (pt_not (pt_val (pe_callB call_isd (by rfl) T.isinstance (by decide +kernel) (pa_cons (pv 0) (pa_cons (pe_bltn (by rfl) T.str (by decide +kernel) (show RelV (.ty "str") _ from rfl)) pa_nil))))) (pw_or1 (pt_not (pt_chain op_le op_le pe_int (pe_callB call_len (by rfl) T.len PySem.boot_len (pa_cons (pv 0) pa_nil)) (gl_c (by rfl) T.longest)))))) (pss_one (ps_ret pe_bl)) pss_nil)
      (pss_one (ps_ret (pe_and (pe_cmpR op_in_sign (pe_ix ix_str (pv 0) pe_int fun _ _ => rfl) (gl_c (by rfl) T.letters) rfl) (pe_one (pe_callB (cr_all rfl) (by rfl) T.all (by decide +kernel) (pa_cons (pe_lc (own := [("character", 1)]) (g := gName 1) (tt := tYes) rfl scVn.nd (pi_str (pv 0)) (blkOk_by (N := nVn) (sc := defScope sVn) (by decide +kernel)) (fun _ _ _ _ _ => pg_name (i := 1) scVn.nd rfl (Or.inl rfl)) (fun _ _ _ _ _ => pts_nil) (fun _ _ _ _ _ => (pe_or (pe_cmpR op_in_sign (pv 1) (gl_c (by rfl) T.letters) rfl) (pe_one (pe_cmpR op_in_sign (pv 1) (gl_c (by rfl) T.digits) rfl))))) pa_nil))))))), ?_⟩
    refine ⟨_, rfl, _, _, _, _, rfl, .ty _, v.kd.is "str" (by decide), _, rfl, ?_⟩
    rw [ans_str]
    cases hk : (k == "str") with
    | false => exact iteT (iteT (q0 fun e => by rw [e] at hk; cases hk))
    | true =>
      obtain ⟨z, rfl, hz⟩ := v.s (by simpa using hk)
      have q := q1 z rfl
      have hzl : z.length = (TL.tl z).length := TL.len_tl z
      refine iteF ⟨_, rfl, _, _, rfl, ⟨by rw [PySem.sizeLine_eq]; omega, rfl⟩, _, _, rfl, rfl, _, rfl, ?_⟩
      have bad : ¬ (1 ≤ (TL.tl z).length ∧ (TL.tl z).length ≤ 8) → Q (.bl false) H := fun hn => by
        have q' := q H (Same.refl _)
        unfold nameB at q'
        rw [decide_eq_false hn] at q'
        exact q'
      refine ite2 (fun h1 => ?_) (fun h1 => ?_)
      · have h1' := of_decide_eq_true h1
        refine ⟨_, _, rfl, rfl, _, rfl, ?_⟩
        by_cases h2 : ((z.length : Nat) : Int) ≤ 8
        · refine if_false_of (by rw [decide_eq_true h2]; rfl) ?_
          have hpos : 0 < (TL.tl z).length := by omega
          have h0 : (TL.tl z)[0]? = some ((TL.tl z)[0]) := List.getElem?_eq_getElem hpos
          have hh : (TL.tl z).head? = some ((TL.tl z)[0]) := by rw [List.head?_eq_getElem?, h0]
          refine ⟨_, rfl, _, _, _, rfl, rfl, by rw [PySem.sizeLine_eq]; omega, atI_nat (j := 0) h0, _, _, rfl, rfl, _, rfl, ?_⟩
          rw [low_mem]
          cases h3 : lowB ((TL.tl z)[0]) with
          | false =>
            refine iteF ?_
            have q' := q H (Same.refl _)
            unfold nameB at q'
            rw [hh, Option.any_some, h3, Bool.false_and, Bool.and_false] at q'
            exact q'
          | true =>
            refine iteT ⟨_, rfl, _, rfl, fun D hD => ?_⟩
            refine lc_it walk_str (fun i G => Same H G ∧ G D = some (.lst ((((TL.tl z).take i).map fun c => lowB c || digB c).map V.bl))) ⟨Same.put hD, upd_same⟩ (fun _ _ _ _ => trivial) ?_ ?_
            · rintro i x G G' hi ⟨sm, hGD⟩ ⟨rfl, c, hc, rfl⟩
              have hi' : i < (TL.tl z).length := by rw [← hzl]; exact hi
              have hc' : (TL.tl z)[i]? = some c := by rw [← hc]; simp
              have fin : ∃ acc, G' D = some (.lst acc) ∧ acc.length < sizeLine ∧ Same H (upd G' D (.lst (acc ++ [V.bl (lowB c || digB c)]))) ∧ (upd G' D (.lst (acc ++ [V.bl (lowB c || digB c)]))) D = some (.lst ((((TL.tl z).take (i + 1)).map fun c => lowB c || digB c).map V.bl)) := by
                refine ⟨_, hGD, ?_, fun b o e => ?_, ?_⟩
                · rw [List.length_map, List.length_map, List.length_take, PySem.sizeLine_eq]
                  omega
                · rw [upd_ne (ne_of_none e hD)]
                  exact sm b o e
                · rw [upd_same, List.take_add_one, hc']
                  simp
              refine ⟨rfl, _, rfl, c, _, rfl, rfl, _, rfl, ?_⟩
              rw [low_mem]
              cases h4 : lowB c with
              | true =>
                refine iteT ?_
                rw [h4, Bool.true_or] at fin
                exact fin
              | false =>
                refine iteF ⟨_, rfl, c, _, rfl, rfl, ?_⟩
                rw [dig_mem']
                rw [h4, Bool.false_or] at fin
                exact fin
            · rintro G ⟨sm, hGD⟩
              have ez : (TL.tl z).take z.cps.size = TL.tl z := List.take_of_length_le (by rw [← hzl]; exact Nat.le_refl _)
              rw [ez] at hGD
              refine ⟨D, _, rfl, SqL.of hGD, ?_⟩
              have q' := q G sm
              unfold nameB at q'
              rw [hh, Option.any_some, h3, Bool.true_and, decide_eq_true (show 1 ≤ (TL.tl z).length ∧ (TL.tl z).length ≤ 8 from ⟨by omega, by omega⟩), Bool.true_and] at q'
              rw [List.all_map]
              exact q'
        · refine if_true_of (by rw [decide_eq_false h2]; rfl) ?_
          exact bad (by omega)
      · refine ⟨_, rfl, ?_⟩
        exact bad (by have h1' : ¬ (1 : Int) ≤ ((z.length : Nat) : Int) := fun e => h1 (decide_eq_true e); omega)

abbrev sVr : Stmt := top 12
abbrev nVr : List Str := ["value", "index", "numbers", "number"]
theorem scVr : FnScope nVr ["value", "index"] (defScope sVr) := ⟨rfl, rfl, rfl, by decide +kernel, rfl, by decide +kernel, by decide +kernel⟩

theorem ok_row (F : Fun K "_is_term_row" "_is_term_row" sVr f fd) (T : TxtV mg) (L : Cg P w K mg base 1 "is_list" (spList K)) (N : Cg P w K mg base 1 "is_name" (spName K)) (I : Cg P w K mg base 2 "is_integer" (spInteger K)) : FnG P w K mg base CX0 3 f fd ["value", "index"] (spTermRow K) := by
  refine FunG.ok F scVr (fun vs H Q E h => ?_) (fun cdv B out s H vs Q E hr hG h => ?_)
  · obtain ⟨x, i, d, rfl, _⟩ := h
    rfl
  · obtain ⟨x, i, d, rfl, hd, hs, hi, q⟩ := h
    refine ⟨_, (pss_cons (ps_if (PW.pt (pw_or (pt_not (pt_val (pe_g L hr hG (by decide) (by rfl) (pa_cons (pv 0) pa_nil)))) (pw_or (pt_cmpR op_ne (pe_callB call_len (by rfl) T.len PySem.boot_len (pa_cons (pv 0) pa_nil)) pe_int (nomark _)) (pw_or1 (pt_not (pt_val (pe_g N hr hG (by decide) (by rfl) (pa_cons (pe_ix (ix_list.or ix_tup) (pv 0) pe_int fun _ _ => rfl) pa_nil)))))))) (pss_one (ps_ret pe_bl)) pss_nil)
      (pss_cons (ps_set (i := 2) scVr.nd rfl (.inl rfl) (pe_ix (ix_list.or ix_tup) (pv 0) pe_int fun _ _ => rfl))
      (pss_cons (ps_if (PW.pt (pw_or (pt_not (pt_val (pe_g L hr hG (by decide) (by rfl) (pa_cons (pv 2) pa_nil)))) (pw_or1 (pt_cmpR op_gt (pe_callB call_len (by rfl) T.len PySem.boot_len (pa_cons (pv 2) pa_nil)) (gl_c (by rfl) T.most) (nomark _))))) (pss_one (ps_ret pe_bl)) pss_nil)
      (pss_one (ps_ret (pe_callB (cr_all rfl) (by rfl) T.all (by decide +kernel) (pa_cons (pe_lc (own := [("number", 3)]) (g := gName 3) (tt := tYes) rfl scVr.nd (pi_seq (pv 2)) (blkOk_by (N := nVr) (sc := defScope sVr) (by decide +kernel)) (fun _ _ _ _ _ => pg_name (i := 3) scVr.nd rfl (Or.inl rfl)) (fun _ _ _ _ _ => pts_nil) (fun _ _ _ _ _ => (pe_g I hr hG (by decide) (by rfl) (pa_cons (pv 3) (pa_cons pe_int (pa_cons (pe_op op_sub (pv 1) pe_int) pa_nil)))))) pa_nil))))))), ?_⟩
    refine ⟨_, rfl, x, kindD d, rfl, vk_dd hd hs, fun H1 s1 => ⟨_, rfl, ?_⟩⟩
    rw [kind_seq]
    have no : rowB i d = false → ∀ H', Same H H' → Q (.bl false) H' := fun e H' s => by
      have q' := q H' s
      rwa [e] at q'
    cases hq : seqD d with
    | none => exact iteT (iteT (no (by unfold rowB; rw [hq]) _ s1))
    | some ds =>
      obtain ⟨a, xs, rfl, hA, hall⟩ := dd_seq hd hq
      have hlen := hall.len
      have hsh := short_seq hs hq
      refine iteF ⟨_, rfl, _, _, rfl, lenA (hA.up s1), rfl, _, rfl, ?_⟩
      by_cases h2 : ds.length = 2
      · obtain ⟨d0, d1, rfl⟩ : ∃ d0 d1, ds = [d0, d1] := by
          match ds, h2 with
          | [a, b], _ => exact ⟨a, b, rfl⟩
        obtain ⟨v0, hv0, hd0⟩ := hall.at (i := 0) rfl
        obtain ⟨v1, hv1, hd1⟩ := hall.at (i := 1) rfl
        have sh0 : shortD d0 = true := shortAll_get (i := 0) hsh rfl
        have sh1 : shortD d1 = true := shortAll_get (i := 1) hsh rfl
        have e2 : decide (((xs.length : Nat) : Int) = 2) = true := decide_eq_true (by rw [hlen]; rfl)
        refine if_false_of (ne_dec2 (by rw [hlen]; rfl)) ?_
        refine ⟨_, rfl, ixA (hA.up s1) (atI_nat (j := 0) hv0) ?_⟩
        dsimp only [tNil]
        refine name_dd (hd0.mono s1) sh0 fun H2 s2 => ⟨_, rfl, ?_⟩
        have s12 := Same.tr s1 s2
        have er : rowB i d = (nameD d0 && numsB i d1) := by unfold rowB; rw [hq]
        cases hn : nameD d0 with
        | false => exact iteT (no (by rw [er, hn]; rfl) _ s12)
        | true =>
          refine iteF ⟨_, rfl, ixA (hA.up s12) (atI_nat (j := 1) hv1) ?_⟩
          rw [hn, Bool.true_and] at er
          refine ⟨_, rfl, v1, kindD d1, rfl, vk_dd (hd1.mono s12) sh1, fun H3 s3 => ⟨_, rfl, ?_⟩⟩
          have s13 := Same.tr s12 s3
          rw [kind_seq]
          cases hq1 : seqD d1 with
          | none => exact iteT (iteT (no (by rw [er]; unfold numsB; rw [hq1]) _ s13))
          | some ns =>
            obtain ⟨a1, ys, rfl, hA1, hall1⟩ := dd_seq hd1 hq1
            have hlen1 := hall1.len
            have hsh1 := short_seq sh1 hq1
            have eN : numsB i d1 = (decide (ns.length ≤ 3) && ns.all (idxD i)) := by unfold numsB; rw [hq1]
            refine iteF ⟨_, rfl, _, _, rfl, lenA (hA1.up s13), _, _, rfl, rfl, _, rfl, ?_⟩
            by_cases h3 : ns.length ≤ 3
            · refine if_false_of (by rw [decide_eq_false_iff_not]; omega) ?_
              rw [decide_eq_true h3, Bool.true_and] at eN
              refine ⟨_, rfl, a1, rfl, seq_it (hA1.up s13) fun J wk => fun D hD => ?_⟩
              refine lc_it wk (fun j G => Same H3 G ∧ G D = some (.lst (((ns.take j).map (idxD i)).map V.bl))) ⟨Same.put hD, upd_same⟩ (fun _ _ _ h => h.1) ?_ ?_
              · rintro j x G G' hj ⟨sm, hGD⟩ ⟨rfl, hx⟩
                obtain ⟨dn, hdn, hxd⟩ := hall1.get hx
                have sg := Same.tr s13 sm
                refine ⟨rfl, _, rfl, _, rfl, _, _, rfl, rfl, ?_⟩
                dsimp only [tNil]
                refine int_dd (i := i) (hxd.mono sg) (shortAll_get hsh1 hdn) ⟨_, hGD, ?_, fun b o e => ?_, ?_⟩
                · rw [List.length_map, List.length_map, List.length_take, PySem.sizeLine_eq]
                  omega
                · rw [upd_ne (ne_of_none e hD)]
                  exact sm b o e
                · rw [upd_same, List.take_add_one, hdn]
                  simp
              · rintro G ⟨sm, hGD⟩
                rw [hlen1, List.take_length] at hGD
                refine ⟨D, _, rfl, SqL.of hGD, ?_⟩
                have q' := q G (Same.tr s13 sm)
                rw [er, eN] at q'
                rw [List.all_map]
                exact q'
            · refine if_true_of (decide_eq_true (by omega)) ?_
              exact no (by rw [er, eN, decide_eq_false h3]; rfl) _ s13
      · refine if_true_of (ne_dec1 (by omega)) ?_
        refine no ?_ _ s1
        unfold rowB
        rw [hq]
        match ds, h2 with
        | [], _ => rfl
        | [_], _ => rfl
        | [_, _], h2 => exact absurd rfl h2
        | _ :: _ :: _ :: _, _ => rfl

abbrev sVt : Stmt := top 11
abbrev nVt : List Str := ["value", "row", "index"]
theorem scVt : FnScope nVt ["value"] (defScope sVt) := ⟨rfl, rfl, rfl, by decide +kernel, rfl, by decide +kernel, by decide +kernel⟩

theorem ok_terms (F : Fun K "is_terms" "is_terms" sVt f fd) (T : TxtV mg) (L : Cg P w K mg base 1 "is_list" (spList K)) (R : Cg P w K mg base 3 "_is_term_row" (spTermRow K)) : FnG P w K mg base CX0 4 f fd ["value"] (spTerms K) := by
  refine FunG.ok F scVt (fun vs H Q E h => ?_) (fun cdv B out s H vs Q E hr hG h => ?_)
  · obtain ⟨x, rfl, _⟩ := h
    rfl
  · obtain ⟨x, rfl, h⟩ := h
    refine ⟨_, (pss_one (ps_ret (pe_and (pe_g L hr hG (by decide) (by rfl) (pa_cons (pv 0) pa_nil)) (pe_one (pe_callB (cr_all rfl) (by rfl) T.all (by decide +kernel) (pa_cons (pe_lc (own := [("index", 2), ("row", 1)]) (g := gTup K 2 (gCons (gName 2) (gCons (gName 1) gNil))) (tt := tYes) rfl scVt.nd (pi_enumS (by rfl) T.enumerate (pa_cons (pv 0) pa_nil)) (blkOk_by (N := nVt) (sc := defScope sVt) (by decide +kernel)) (fun _ _ _ _ _ => pg_tup rfl (pgs_cons (pg_name (i := 2) scVt.nd rfl (Or.inl rfl)) (pgs_cons (pg_name (i := 1) scVt.nd rfl (Or.inl rfl)) pgs_nil))) (fun _ _ _ _ _ => pts_nil) (fun _ _ _ _ _ => (pe_g R hr hG (by decide) (by rfl) (pa_cons (pv 1) (pa_cons (pv 2) pa_nil))))) pa_nil)))))), ?_⟩
    rcases h with ⟨d, hd, hs, hz, q⟩ | ⟨k, v, hk, q⟩
    · refine ⟨_, rfl, x, kindD d, rfl, vk_dd hd hs, fun H1 s1 => ⟨_, rfl, ?_⟩⟩
      rw [kind_seq]
      cases hq : seqD d with
      | none =>
        have q' := q H1 s1
        unfold termsB at q'
        rw [hq] at q'
        exact iteF q'
      | some ds =>
        obtain ⟨a, xs, rfl, hA, hall⟩ := dd_seq hd hq
        have hlen := hall.len
        have hsh := short_seq hs hq
        have hl5 := hz ds hq
        have et : termsB d = rowsB 0 ds := by unfold termsB; rw [hq]
        refine iteT ⟨_, rfl, a, rfl, enum_it (hA.up s1) fun J wk => fun D hD => ?_⟩
        refine lc_it wk (fun j G => Same H1 G ∧ G D = some (.lst (((rowsAt 0 ds).take j).map V.bl))) ⟨Same.put hD, upd_same⟩ (fun _ _ _ h => h.1) ?_ ?_
        · rintro j x G G' hj ⟨sm, hGD⟩ ⟨p, x0, y, rfl, hp, rfl, h0, hx⟩
          cases h0
          obtain ⟨dn, hdn, hxd⟩ := hall.get hx
          have spd : Same G (upd G p (.tup [.int (j : Nat), y])) := Same.put hp
          have sg := Same.tr s1 (Same.tr sm spd)
          refine ⟨p, _, rfl, SqT.of upd_same, rfl, _, _, rfl, _, _, rfl, ⟨rfl, rfl, _, rfl, _, rfl, ?_⟩⟩
          refine ⟨y, j, dn, rfl, hxd.mono sg, shortAll_get hsh hdn, by omega, fun G2 s2 => ?_⟩
          have hD2 := s2 _ _ (spd _ _ hGD)
          refine ⟨_, hD2, ?_, fun b o e => ?_, ?_⟩
          · rw [List.length_map, List.length_take, rowsAt_len, PySem.sizeLine_eq]
            omega
          · rw [upd_ne (ne_of_none e hD)]
            exact s2 _ _ (spd _ _ (sm b o e))
          · rw [upd_same, rowsAt_take 0 ds j dn hdn, Nat.zero_add]
            simp
        · rintro G ⟨sm, hGD⟩
          rw [hlen, show (rowsAt 0 ds).take ds.length = rowsAt 0 ds from List.take_of_length_le (by rw [rowsAt_len]; exact Nat.le_refl _)] at hGD
          refine ⟨D, _, rfl, SqL.of hGD, ?_⟩
          have q' := q G (Same.tr s1 sm)
          rw [et, ← rowsAt_all] at q'
          exact q'
    · refine ⟨_, rfl, x, k, rfl, v, fun H1 s1 => ⟨_, rfl, ?_⟩⟩
      rw [hk]
      exact iteF (q _ s1)

end
end T02
set_option Elab.async false
set_option linter.all false
set_option maxRecDepth 100000
set_option maxHeartbeats 4000000
/-! calls of defs whose promises know the guards: by keywords, by methods, a new instance; parts that are never reached -/
namespace Tp
open PySem PySem.Spec PyProof.Rows L2
section
variable {X : Cx} {CX : CXT} {k n : Nat} {f C : Addr} {fd : FuncData} {ps ks : List Str} {sp : Sp} {E : XK} {x m : Str} {p pos apos : Pos} {e o : Expr} {es : List Expr} {kws : List Keyword} {te ta : TE} {t tk : TA}
variable {dvs : List V} {ds : List Value} {g : List Value → List Value → List Value} {gV : List V → List V → List V}
theorem run_g {pins : List (Addr × Obj)} {σ : L2.St} {H : Hp} {s : Shared} {Q : VK} {us : List Value} {vs : List V} (F : FnG X.prog X.w X.K X.mg X.base CX k f fd ps sp) (hr : Room k X.A) (hG : X.A.guards = some []) (hb : Binds X.K fd ps ds) (hd : Vals dvs ds) (hx : Passes CX X E)
    (I : Inv X pins σ H s) (r : Vals vs us) (h : sp (vs ++ dvs) H Q E) : wpAny (model X.prog X.w) X.A (call (.ref f) us) (EP X pins σ Q) X.xe s := by
  have r2 : Vals (vs ++ dvs) (us ++ ds) := r.append hd
  have hl : (us ++ ds).length = ps.length := by rw [← r2.length]; exact F.len _ _ _ _ h
  refine wpAny_call (codeAny_mono (F.run X.A X.stack s H ⟨us, []⟩ (us ++ ds) (vs ++ dvs) Q E hr hG I.env0 (hb s us I.kIn hl) r2 h) fun r s' hq => ?_)
  cases r with
  | error e => exact hx pins σ H s e s' I hq
  | ok fl =>
    cases fl with
    | ret u => exact I.after hq
    | next => exact False.elim hq
    | brk => exact False.elim hq
    | cont => exact False.elim hq
theorem run_gN {pins : List (Addr × Obj)} {σ : L2.St} {H : Hp} {s : Shared} {Q : VK} {us ws : List Value} {vs zs : List V} (F : FnG X.prog X.w X.K X.mg X.base CX k f fd ps sp) (hr : Room k X.A) (hG : X.A.guards = some []) (hb : KBn X.K fd ps n ks g gV) (hx : Passes CX X E)
    (I : Inv X pins σ H s) (r : Vals vs us) (rz : Vals zs ws) (l1 : vs.length = n) (l2 : zs.length = ks.length) (h : sp (gV vs zs) H Q E) : wpAny (model X.prog X.w) X.A (call (.ref f) us (ks.zip ws)) (EP X pins σ Q) X.xe s := by
  have r2 := hb.rel r rz
  refine wpAny_call (codeAny_mono (F.run X.A X.stack s H ⟨us, ks.zip ws⟩ (g us ws) (gV vs zs) Q E hr hG I.env0 (hb.to s us ws I.kIn (r.length.symm.trans l1) (rz.length.symm.trans l2)) r2 h) fun r s' hq => ?_)
  cases r with
  | error e => exact hx pins σ H s e s' I hq
  | ok fl =>
    cases fl with
    | ret u => exact I.after hq
    | next => exact False.elim hq
    | brk => exact False.elim hq
    | cont => exact False.elim hq
theorem run_gmake {pins : List (Addr × Obj)} {σ : L2.St} {H : Hp} {s : Shared} {Q : VK} {us : List Value} {vs : List V} (M : Mk X.K C f) (F : FnG X.prog X.w X.K X.mg X.base CX k f fd ps sp) (hr : Room (k + 1) X.A) (hG : X.A.guards = some []) (hb : Binds X.K fd ps ds) (hd : Vals dvs ds)
    (hx : Passes CX X E) (I : Inv X pins σ H s) (r : Vals vs us)
    (h : ∀ x dx, H x = none → H dx = none → dx ≠ x → sp (.ref x :: (vs ++ dvs)) (upd (upd H dx (.own x)) x (.ins C dx [])) (fun v H2 => v = .non ∧ Q (.ref x) H2) E) :
    wpAny (model X.prog X.w) X.A (call (.ref C) us) (EP X pins σ Q) X.xe s := by
  have hq := h (s.heap.objs.size + 1) s.heap.objs.size (I.hok.fresh (Nat.le_succ _)) (I.hok.fresh (Nat.le_refl _)) (Nat.ne_of_lt (Nat.lt_succ_self _))
  have I2 := Inv.made (C := C) I
  have r2 : Vals (V.ref (s.heap.objs.size + 1) :: (vs ++ dvs)) (Value.ref (s.heap.objs.size + 1) :: (us ++ ds)) := .cons rfl (r.append hd)
  have hl : (Value.ref (s.heap.objs.size + 1) :: us ++ ds).length = ps.length := by
    have e := r2.length
    rw [F.len _ _ _ _ hq] at e
    exact e.symm
  refine wpAny_call (make_map (f := f) I.kIn M.makes M.init (beq_iff_eq.mp M.fn) (codeAny_mono (F.run _ X.stack _ _ ⟨Value.ref (s.heap.objs.size + 1) :: us, []⟩ (Value.ref (s.heap.objs.size + 1) :: (us ++ ds)) _ _ E (hr.make C us []) hG
    (I2.env0.make C us []) (hb _ (Value.ref (s.heap.objs.size + 1) :: us) I2.kIn hl) r2 hq) fun r s' hq' => ?_))
  cases r with
  | error e => exact hx pins σ _ _ e s' I2 hq'
  | ok fl =>
    cases fl with
    | ret u =>
      obtain ⟨v, H', I3, rv, ev, q3⟩ := I2.after hq'
      subst ev
      exact ⟨rv, ⟨V.ref (s.heap.objs.size + 1), H', I3, rfl, q3⟩⟩
    | next => exact False.elim hq'
    | brk => exact False.elim hq'
    | cont => exact False.elim hq'
theorem pe_gd (F : FnG X.prog X.w X.K X.mg X.base CX k f fd ps sp) (hr : Room k X.A) (hG : X.A.guards = some []) (hg : Gl X x) (hm : X.mg x = some (.ref f)) (hk : PySem.W.keepIn X.K (.ref f) = true) (hb : Binds X.K fd ps ds) (hd : Vals dvs ds) (hx : Passes CX X E)
    (ha : PA X (e :: es) t) (hdb : (x == ("__debug__" : Str)) = false := by decide) (he : starEach (e :: es) X.env = (false, eval e X.env) :: starEach es X.env := by rfl) (hpl : (backTo pos (starEach es X.env)).any (·.1) = false := by rfl) :
    PE X (.Call (.Name x p) (e :: es) [] pos) (tCall sp dvs E t) := by
  refine ⟨fun pins s σ H Q I h => ?_⟩
  refine wpAny_Call_Name_kw (ld_glob I hg hm ?_ hdb)
  refine PySem.W.callWith_K (h₀ := X.base) I.ok.mod.kin hk (thn (ha.run pos pins s σ H _ I h) fun us s1 ⟨vs, H1, I1, r, q⟩ => ⟨I1.kIn, ?_⟩) he hpl
  exact run_g F hr hG hb hd hx I1 r q
theorem pe_gmake (M : Mk X.K C f) (F : FnG X.prog X.w X.K X.mg X.base CX k f fd ps sp) (hr : Room (k + 1) X.A) (hG : X.A.guards = some []) (hg : Gl X x) (hm : X.mg x = some (.ref C)) (hb : Binds X.K fd ps ds) (hd : Vals dvs ds) (hx : Passes CX X E)
    (ha : PA X (e :: es) t) (hdb : (x == ("__debug__" : Str)) = false := by decide) (he : starEach (e :: es) X.env = (false, eval e X.env) :: starEach es X.env := by rfl) (hpl : (backTo pos (starEach es X.env)).any (·.1) = false := by rfl) :
    PE X (.Call (.Name x p) (e :: es) [] pos) (tMake C sp dvs E t) := by
  refine ⟨fun pins s σ H Q I h => ?_⟩
  refine wpAny_Call_Name_kw (ld_glob I hg hm ?_ hdb)
  refine PySem.W.callWith_K (h₀ := X.base) I.ok.mod.kin M.kp (thn (ha.run pos pins s σ H _ I h) fun us s1 ⟨vs, H1, I1, r, q⟩ => ⟨I1.kIn, ?_⟩) he hpl
  exact run_gmake M F hr hG hb hd hx I1 r q
theorem pe_gmake0 (M : Mk X.K C f) (F : FnG X.prog X.w X.K X.mg X.base CX k f fd ps sp) (hr : Room (k + 1) X.A) (hG : X.A.guards = some []) (hg : Gl X x) (hm : X.mg x = some (.ref C)) (hb : Binds X.K fd ps ds) (hd : Vals dvs ds) (hx : Passes CX X E)
    (hdb : (x == ("__debug__" : Str)) = false := by decide) : PE X (.Call (.Name x p) [] [] pos) (tMake C sp dvs E tNil) := by
  refine ⟨fun pins s σ H Q I h => ?_⟩
  refine wpAny_Call_Name_kw (ld_glob I hg hm ?_ hdb)
  exact PySem.W.callWith_K0 I.kIn M.kp (run_gmake (us := []) M F hr hG hb hd hx I .nil h)
theorem pe_gmeth {pl : Sem Bool} (he : PE X o ta) (c : Cls X.K C) (hm : Meth X.K C m f) (F : FnG X.prog X.w X.K X.mg X.base CX k f fd ps sp) (hr : Room k X.A) (hG : X.A.guards = some []) (hb : Binds X.K fd ps ds) (hd : Vals dvs ds) (hx : Passes CX X E) (ha : PA X (e :: es) t)
    (hst : starEach (e :: es) X.env = (false, eval e X.env) :: starEach es X.env := by rfl) (hpl : (backTo pos (starEach es X.env)).any (·.1) = false := by rfl)
    (ht : eval (.Call (.Attribute o m apos) (e :: es) [] pos) X.env = (do
      let ov ← eval o X.env
      standAt apos.atName
      let (f, first) ← holding [ov] (getMethod ov m pl)
      callWith pos f first (backTo pos (starEach (e :: es) X.env)) (backToKw pos (keywordEach [] X.env))) := by rfl) :
    PE X (.Call (.Attribute o m apos) (e :: es) [] pos) (tMeth C m sp dvs E ta t) := by
  refine ⟨fun pins s σ H Q I h => ?_⟩
  refine PySem.W.methodCall_KW (pl := pl) (thn (he.run pins s σ H _ I h) fun u s1 ⟨x, H1, I1, rx, a, dx, fs, ex, ea, l, q⟩ => ?_) ht
  subst ex
  obtain rfl : u = Value.ref a := rx
  refine getmeth_ok I1 ea c hm l ?_
  refine PySem.W.callWith_K (first := [.ref a]) (h₀ := X.base) I.ok.mod.kin hm.kp (thn (ha.run pos pins s1 σ H1 _ I1 q) fun us s2 ⟨vs, H2, I2, r, q2⟩ => ⟨I2.kIn, ?_⟩) hst hpl
  exact run_g (us := .ref a :: us) (vs := .ref a :: vs) F hr hG hb hd hx I2 (.cons rfl r) q2
theorem pe_gmeth0 {pl : Sem Bool} (he : PE X o ta) (c : Cls X.K C) (hm : Meth X.K C m f) (F : FnG X.prog X.w X.K X.mg X.base CX k f fd ps sp) (hr : Room k X.A) (hG : X.A.guards = some []) (hb : Binds X.K fd ps ds) (hd : Vals dvs ds) (hx : Passes CX X E)
    (ht : eval (.Call (.Attribute o m apos) [] [] pos) X.env = (do
      let ov ← eval o X.env
      standAt apos.atName
      let (f, first) ← holding [ov] (getMethod ov m pl)
      callWith pos f first (backTo pos (starEach [] X.env)) (backToKw pos (keywordEach [] X.env))) := by rfl) :
    PE X (.Call (.Attribute o m apos) [] [] pos) (tMeth C m sp dvs E ta tNil) := by
  refine ⟨fun pins s σ H Q I h => ?_⟩
  refine PySem.W.methodCall_KW (pl := pl) (thn (he.run pins s σ H _ I h) fun u s1 ⟨x, H1, I1, rx, a, dx, fs, ex, ea, l, q⟩ => ?_) ht
  subst ex
  obtain rfl : u = Value.ref a := rx
  refine getmeth_ok I1 ea c hm l ?_
  exact PySem.W.callWith_K0 (first := [.ref a]) I1.kIn hm.kp (run_g (us := [.ref a]) (vs := [.ref a]) F hr hG hb hd hx I1 (.cons rfl .nil) q)
theorem pe_gN (F : FnG X.prog X.w X.K X.mg X.base CX k f fd ps sp) (hr : Room k X.A) (hG : X.A.guards = some []) (hg : Gl X x) (hm : X.mg x = some (.ref f)) (hk : PySem.W.keepIn X.K (.ref f) = true) (hb : KBn X.K fd ps n ks g gV) (hx : Passes CX X E)
    (ha : PA X (e :: es) t) (hkw : PK X kws tk) (hall : (backToKw pos (keywordEach kws X.env)).all (·.1.isSome) = true := by rfl) (hks : (backToKw pos (keywordEach kws X.env)).filterMap (·.1) = ks := by rfl)
    (hdb : (x == ("__debug__" : Str)) = false := by decide) (he : starEach (e :: es) X.env = (false, eval e X.env) :: starEach es X.env := by rfl)
    (hpl : ((backTo pos (starEach (e :: es) X.env)).any (·.1) || (backToKw pos (keywordEach kws X.env)).any (·.1.isNone)) = false := by rfl) :
    PE X (.Call (.Name x p) (e :: es) kws pos) (tCallN n ks.length sp gV E t tk) := by
  refine ⟨fun pins s σ H Q I h => ?_⟩
  refine wpAny_Call_Name_kw (ld_glob I hg hm ?_ hdb)
  refine PySem.W.callWith_KW (h₀ := X.base) I.ok.mod.kin hk hall (thn (ha.run pos pins s σ H _ I h) fun us s1 ⟨vs, H1, I1, r, q⟩ => ?_) hpl he
  refine thn (hkw.run pos pins s1 σ H1 _ I1 q) fun ws s2 ⟨zs, H2, I2, rz, l1, l2, q2⟩ => ⟨I2.kIn, ?_⟩
  rw [hks]
  exact run_gN F hr hG hb hx I2 r rz l1 l2 q2
theorem pe_gN0 (F : FnG X.prog X.w X.K X.mg X.base CX k f fd ps sp) (hr : Room k X.A) (hG : X.A.guards = some []) (hg : Gl X x) (hm : X.mg x = some (.ref f)) (hk : PySem.W.keepIn X.K (.ref f) = true) (hb : KBn X.K fd ps 0 ks g gV) (hx : Passes CX X E) (hkw : PK X kws tk)
    (hall : (backToKw pos (keywordEach kws X.env)).all (·.1.isSome) = true := by rfl) (hks : (backToKw pos (keywordEach kws X.env)).filterMap (·.1) = ks := by rfl) (hdb : (x == ("__debug__" : Str)) = false := by decide)
    (hpl : ((backTo pos (starEach [] X.env)).any (·.1) || (backToKw pos (keywordEach kws X.env)).any (·.1.isNone)) = false := by rfl) :
    PE X (.Call (.Name x p) [] kws pos) (tCallN 0 ks.length sp gV E tNil tk) := by
  refine ⟨fun pins s σ H Q I h => wpAny_Call_Name_kw (ld_glob I hg hm ?_ hdb)⟩
  refine PySem.W.callWith_KW0 (h₀ := X.base) I.ok.mod.kin hk hall (thn (hkw.run pos pins s σ H _ I h) fun ws s2 hh => ?_) hpl
  obtain ⟨zs, H2, I2, rz, l1, l2, q2⟩ := hh
  refine ⟨I2.kIn, ?_⟩
  rw [hks]
  exact run_gN F hr hG hb hx I2 .nil rz l1 l2 q2
end
/-- what a caller knows of a def that is called by keywords too -/
structure Cn (P : Program) (w : World) (K : PySem.W.Frag) (mg : Str → Option Value) (base : Heap) (k : Nat) (x : Str) (n : Nat) (ks : List Str) (gV : List V → List V → List V) (sp : Sp) : Prop where
  ex : ∃ (f : Addr) (fd : FuncData) (ps : List Str) (g : List Value → List Value → List Value), FnG P w K mg base CX0 k f fd ps sp ∧ mg x = some (.ref f) ∧ PySem.W.keepIn K (.ref f) = true ∧ KBn K fd ps n ks g gV
section
variable {X : Cx} {j k n : Nat} {ks : List Str} {sp : Sp} {x : Str} {p pos : Pos} {e : Expr} {es : List Expr} {kws : List Keyword} {t tk : TA} {gV : List V → List V → List V}
theorem pe_cn (c : Cn X.prog X.w X.K X.mg X.base j x n ks gV sp) (hr : Room k X.A) (hG : X.A.guards = some []) (hk : j ≤ k) (hg : Gl X x)
    (ha : PA X (e :: es) t) (hkw : PK X kws tk) (hall : (backToKw pos (keywordEach kws X.env)).all (·.1.isSome) = true := by rfl) (hks : (backToKw pos (keywordEach kws X.env)).filterMap (·.1) = ks := by rfl)
    (hdb : (x == ("__debug__" : Str)) = false := by decide) (he : starEach (e :: es) X.env = (false, eval e X.env) :: starEach es X.env := by rfl)
    (hpl : ((backTo pos (starEach (e :: es) X.env)).any (·.1) || (backToKw pos (keywordEach kws X.env)).any (·.1.isNone)) = false := by rfl) :
    PE X (.Call (.Name x p) (e :: es) kws pos) (tCallN n ks.length sp gV E0 t tk) := by
  obtain ⟨f, fd, ps, g, F, hm, hkp, hb⟩ := c.ex
  exact pe_gN F (hr.mono hk) hG hg hm hkp hb pass0 ha hkw hall hks hdb he hpl
theorem pe_cn0 (c : Cn X.prog X.w X.K X.mg X.base j x 0 ks gV sp) (hr : Room k X.A) (hG : X.A.guards = some []) (hk : j ≤ k) (hg : Gl X x) (hkw : PK X kws tk)
    (hall : (backToKw pos (keywordEach kws X.env)).all (·.1.isSome) = true := by rfl) (hks : (backToKw pos (keywordEach kws X.env)).filterMap (·.1) = ks := by rfl) (hdb : (x == ("__debug__" : Str)) = false := by decide)
    (hpl : ((backTo pos (starEach [] X.env)).any (·.1) || (backToKw pos (keywordEach kws X.env)).any (·.1.isNone)) = false := by rfl) :
    PE X (.Call (.Name x p) [] kws pos) (tCallN 0 ks.length sp gV E0 tNil tk) := by
  obtain ⟨f, fd, ps, g, F, hm, hkp, hb⟩ := c.ex
  exact pe_gN0 F (hr.mono hk) hG hg hm hkp hb pass0 hkw hall hks hdb hpl
end
/-- what a caller knows of a class of the text: how an instance is made -/
structure Cm (P : Program) (w : World) (K : PySem.W.Frag) (mg : Str → Option Value) (base : Heap) (k : Nat) (x : Str) (C : Addr) (dvs : List V) (sp : Sp) : Prop where
  ex : ∃ (f : Addr) (fd : FuncData) (ps : List Str) (ds : List Value), Mk K C f ∧ FnG P w K mg base CX0 k f fd ps sp ∧ mg x = some (.ref C) ∧ Binds K fd ps ds ∧ Vals dvs ds
section
variable {X : Cx} {j k n : Nat} {sp : Sp} {x : Str} {C : Addr} {dvs : List V} {p pos : Pos} {e : Expr} {es : List Expr} {t : TA}
theorem pe_cm (c : Cm X.prog X.w X.K X.mg X.base j x C dvs sp) (hr : Room k X.A) (hG : X.A.guards = some []) (hk : j + 1 ≤ k) (hg : Gl X x)
    (ha : PA X (e :: es) t) (hdb : (x == ("__debug__" : Str)) = false := by decide) (he : starEach (e :: es) X.env = (false, eval e X.env) :: starEach es X.env := by rfl) (hpl : (backTo pos (starEach es X.env)).any (·.1) = false := by rfl) :
    PE X (.Call (.Name x p) (e :: es) [] pos) (tMake C sp dvs E0 t) := by
  obtain ⟨f, fd, ps, ds, M, F, hm, hb, hd⟩ := c.ex
  exact pe_gmake M F (hr.mono hk) hG hg hm hb hd pass0 ha hdb he hpl
theorem pe_cm0 (c : Cm X.prog X.w X.K X.mg X.base j x C dvs sp) (hr : Room k X.A) (hG : X.A.guards = some []) (hk : j + 1 ≤ k) (hg : Gl X x)
    (hdb : (x == ("__debug__" : Str)) = false := by decide) : PE X (.Call (.Name x p) [] [] pos) (tMake C sp dvs E0 tNil) := by
  obtain ⟨f, fd, ps, ds, M, F, hm, hb, hd⟩ := c.ex
  exact pe_gmake0 M F (hr.mono hk) hG hg hm hb hd pass0 hdb
end
/-- what a caller knows of a method -/
structure Ct (P : Program) (w : World) (K : PySem.W.Frag) (mg : Str → Option Value) (base : Heap) (k : Nat) (C : Addr) (m : Str) (dvs : List V) (sp : Sp) : Prop where
  ex : ∃ (f : Addr) (fd : FuncData) (ps : List Str) (ds : List Value), Cls K C ∧ Meth K C m f ∧ FnG P w K mg base CX0 k f fd ps sp ∧ Binds K fd ps ds ∧ Vals dvs ds
section
variable {X : Cx} {j k n : Nat} {sp : Sp} {m : Str} {C : Addr} {dvs : List V} {p pos apos : Pos} {e o : Expr} {es : List Expr} {t : TA} {ta : TE}
theorem pe_ct {pl : Sem Bool} (he : PE X o ta) (c : Ct X.prog X.w X.K X.mg X.base j C m dvs sp) (hr : Room k X.A) (hG : X.A.guards = some []) (hk : j ≤ k) (ha : PA X (e :: es) t)
    (hst : starEach (e :: es) X.env = (false, eval e X.env) :: starEach es X.env := by rfl) (hpl : (backTo pos (starEach es X.env)).any (·.1) = false := by rfl)
    (ht : eval (.Call (.Attribute o m apos) (e :: es) [] pos) X.env = (do
      let ov ← eval o X.env
      standAt apos.atName
      let (f, first) ← holding [ov] (getMethod ov m pl)
      callWith pos f first (backTo pos (starEach (e :: es) X.env)) (backToKw pos (keywordEach [] X.env))) := by rfl) :
    PE X (.Call (.Attribute o m apos) (e :: es) [] pos) (tMeth C m sp dvs E0 ta t) := by
  obtain ⟨f, fd, ps, ds, cl, hm, F, hb, hd⟩ := c.ex
  exact pe_gmeth (pl := pl) he cl hm F (hr.mono hk) hG hb hd pass0 ha hst hpl ht
theorem pe_ct0 {pl : Sem Bool} (he : PE X o ta) (c : Ct X.prog X.w X.K X.mg X.base j C m dvs sp) (hr : Room k X.A) (hG : X.A.guards = some []) (hk : j ≤ k)
    (ht : eval (.Call (.Attribute o m apos) [] [] pos) X.env = (do
      let ov ← eval o X.env
      standAt apos.atName
      let (f, first) ← holding [ov] (getMethod ov m pl)
      callWith pos f first (backTo pos (starEach [] X.env)) (backToKw pos (keywordEach [] X.env))) := by rfl) :
    PE X (.Call (.Attribute o m apos) [] [] pos) (tMeth C m sp dvs E0 ta tNil) := by
  obtain ⟨f, fd, ps, ds, cl, hm, F, hb, hd⟩ := c.ex
  exact pe_gmeth0 (pl := pl) he cl hm F (hr.mono hk) hG hb hd pass0 ht
end
/-! ### name = {k: v for ..} on one line, the name a local -/
section
variable {X : Cx}
theorem ps_setDc {i : Nat} {y : Str} {py : Pos} {kx vx tg iter : Expr} {ifs : List Expr} {scope : Scope} {own : List (Str × Nat)} {pos spos : Pos} {wi : TI} {g : TG} {tt : TT} {tk tv : TE} (hc : X.calm = true) (hN : X.N.Nodup) (hy : X.N[i]? = some y) (hyl : X.env.scope.names.lookup y = some .local)
    (hsw : swapsWith (.DictComp kx vx [⟨tg, iter, ifs, 0⟩] scope pos) (some (.Name y py)) spos.line X.env = pure true) (hi : PI X tg iter wi) (ok : BlkOk X.N X.env.scope scope own)
    (hg : ∀ (s : Shared) (H : Hp) (C : Addr) (cl : List (Str × Addr)) (fp : List Addr), PG (X.blk s H scope (compEnvC scope cl C X.env) fp) tg g) (ht : ∀ (s : Shared) (H : Hp) (C : Addr) (cl : List (Str × Addr)) (fp : List Addr), PTs (X.blk s H scope (compEnvC scope cl C X.env) fp) ifs tt)
    (hk : ∀ (s : Shared) (H : Hp) (C : Addr) (cl : List (Str × Addr)) (fp : List Addr), PE (X.blk s H scope (compEnvC scope cl C X.env) fp) kx tk)
    (he : ∀ (s : Shared) (H : Hp) (C : Addr) (cl : List (Str × Addr)) (fp : List Addr), PE (X.blk s H scope (compEnvC scope cl C X.env) fp) vx tv) (hs : ∀ x, foldedSetIterable iter X.env x = pure x := by intro _; rfl) :
    PS X (.Assign [.Name y py] (.DictComp kx vx [⟨tg, iter, ifs, 0⟩] scope pos) spos) (tAsg (tDc wi g tt tk tv (own.map (·.2))) (gName i)) := by
  refine ⟨fun pins s σ H D I h => ?_⟩
  rw [exec_Assign_Name_used _ _ _ _ hsw]
  refine wpAny_bind (wpAny_standAt (wpAny_bind ?_))
  show wpAny _ X.A (do let _ ← comprehension (.DictComp kx vx [⟨tg, iter, ifs, 0⟩] scope pos) scope X.env (firstIterPos [⟨tg, iter, ifs, 0⟩] pos) newDict false (eval iter X.env) (some (assign (.Name y py) X.env))) _ _ s
  have h : tDc wi g tt tk tv (own.map (·.2)) σ H (fun x H1 => gName i x σ H1 D.nx) := h
  refine wpAny_bind (thn (dc_core (Qf := fun _ s' => SP X pins D .next s') hc hN I hi ok hg ht hk he hs h fun L C s' m H' I' q hn f => ?_) fun _ s' hq => wpAny_pure (wpAny_pure hq))
  show wpAny _ _ (assign (.Name y py) X.env (.ref L)) _ _ _
  refine wpAny_assign_Name (store_ok2 (v := V.ref L) I' hN hy (.inl hyl) rfl (fun s2 I2 ⟨a, sb, ha⟩ => ?_) (.inr hyl))
  obtain ⟨f0, f1, f2, f3, f4, f5⟩ := f
  have haC : C ≠ a := by
    rcases ha with z | z
    · rw [z]; exact f1
    · exact fun e => f4 y a z e.symm
  refine ⟨m, hn.sameBut sb haC, fun h3 sb3 => ?_⟩
  exact ⟨_, H', I2.turned (t' := s2.toks) (fun b o hb e => (sb3.2 b hb).trans e) f0 f1 f3 f4 f5, q⟩
theorem sw_trueD {kx vx : Expr} {gs : List Comprehension} {scope : Scope} {pos py : Pos} {y : Str} {l : Nat} {env : Env} (hk : env.scope.kind = .function) (hy : env.scope.names.lookup y = some .local) (hl : (py.line == pos.line) = true)
    (ha : (scope.names.any fun (n, k) => n == y && (k == .local || k == .cell)) = false) : swapsWith (.DictComp kx vx gs scope pos) (some (.Name y py)) l env = pure true := by
  have ky : env.kindOf y = some .local := hy
  have hb : env.blockKind = .function := by unfold Env.blockKind; rw [hk]; rfl
  unfold swapsWith
  simp only [hb, ky, ha, Expr.pos, hl]
  rfl
end
/-! ### never reached -/
def tNev : TE := fun _ _ _ => False
theorem pe_never {X : Cx} {e : Expr} : PE X e tNev := ⟨fun _ _ _ _ _ _ h => h.elim⟩
def gNev : TG := fun _ _ _ _ => False
theorem pg_never {X : Cx} {e : Expr} : PG X e gNev := ⟨fun _ _ _ _ _ _ _ _ _ h => h.elim⟩
def tNevT : TT := fun _ _ _ => False
theorem pts_never {X : Cx} {es : List Expr} : PTs X es tNevT := ⟨fun _ _ _ _ _ _ h => h.elim⟩
/-- nothing is walked: an empty list or tuple -/
theorem dc_it {J : It} {n : Nat} {G : Hp → Prop} {Y : Nat → Hp → V → Hp → Prop} (w : Walk J n G Y) {g : TG} {tt : TT} {tk tv : TE} {vs : List Nat} {σ : L2.St} {H1 : Hp} {D : Addr} {Qd : Hp → Prop} (Pv : Nat → Hp → Prop) (h0 : Pv 0 (upd H1 D (.dK []))) (hG : ∀ i H, i ≤ n → Pv i H → G H)
    (hs : ∀ i x H H', i < n → Pv i H → Y i H x H' → g x (wipe σ vs) H' fun σ2 H2 => wipe σ2 vs = wipe σ vs ∧ tt σ2 H2 fun b H3 =>
      if b = true then tk σ2 H3 fun y H4 => tv σ2 H4 fun z H5 => ∃ kvs k, y = kV k ∧ H5 D = some (.dK kvs) ∧ kvs.length < sizeLine ∧ Pv (i + 1) (upd H5 D (.dK (putK kvs k z))) else Pv (i + 1) H3) (hd : ∀ H, Pv n H → Qd H) :
    ∃ W : Nat → Nat → Hp → Prop, (∃ m, W 0 m (upd H1 D (.dK []))) ∧ ∀ i m H, W i m H →
      (J.stop i H ∧ Qd H) ∨ (J.go i H ∧ ∃ Nx : Hp → Prop, (∀ H', Nx H' → ∃ m', m' < m ∧ W (i + 1) m' H') ∧ ∀ x H', J.yld i H x H' → g x (wipe σ vs) H' fun σ2 H2 => wipe σ2 vs = wipe σ vs ∧ tt σ2 H2 fun b H3 =>
        if b = true then tk σ2 H3 fun y H4 => tv σ2 H4 fun z H5 => ∃ kvs k, y = kV k ∧ H5 D = some (.dK kvs) ∧ kvs.length < sizeLine ∧ Nx (upd H5 D (.dK (putK kvs k z))) else Nx H3) := by
  refine ⟨fun i m H => m = n - i ∧ i ≤ n ∧ Pv i H, ⟨n, by simp, Nat.zero_le _, h0⟩, ?_⟩
  rintro i m H ⟨rfl, hi, p⟩
  have q := hG i H hi p
  by_cases hlt : i < n
  · refine .inr ⟨w.goes i H hlt q, Pv (i + 1), fun H' p' => ⟨n - (i + 1), by omega, rfl, hlt, p'⟩, fun x H' y => hs i x H H' hlt p (w.yields i H x H' hlt q y)⟩
  · have e : i = n := by omega
    subst e
    exact .inl ⟨w.stops H q, hd H p⟩
end Tp
namespace Tp
open PySem PySem.Spec PyProof.Rows L2
/-- a while that does not begin -/
theorem while_no {c : TT} {tb : TS} {D : Ends} {σ : L2.St} {H : Hp} (hc : ∀ Q : Bool → Hp → Prop, Q false H → c σ H Q) (hd : D.nx σ H) : tWhile c tb D σ H :=
  ⟨fun m σ' H' => m = 0 ∧ σ' = σ ∧ H' = H, ⟨0, rfl, rfl, rfl⟩, fun m σ' H' e => by
    obtain ⟨rfl, rfl, rfl⟩ := e
    exact hc _ hd⟩
end Tp
namespace Tp
open PySem PySem.Spec PyProof.Rows L2
/-- a def with defaults, its promise where the guards are known -/
theorem FunDG.ok {P : Program} {w : World} {K : PySem.W.Frag} {mg : Str → Option Value} {base : Heap} {x qual : Str} {params : Arguments} {body : List Stmt} {scope : Scope} {dvs : List V} {kws : List (Str × V)} {f : Addr} {fd : FuncData} {N ps : List Str} {k : Nat} {sp : Sp}
    (F : FunD K x qual params body scope dvs kws f fd) (S : FnScope N ps scope) (len : ∀ vs H Q E, sp vs H Q E → vs.length = ps.length)
    (hb : ∀ (cdv : Value) (B : Around) (out : List Env) (s : Shared) (H : Hp) (vs : List V) (Q : VK) (E : XK),
      Room k (B.deeper (envOfC qual scope s.heap.objs.size f cdv)) → (B.deeper (envOfC qual scope s.heap.objs.size f cdv)).guards = some [] → sp vs H Q E →
      ∃ t, PSs (cxOf CX0 P w K mg base N qual scope f cdv B out s H E).nox body t ∧ t { nx := fun _ H' => Q .non H', rt := Q } (start N vs) H) :
    FnG P w K mg base CX0 (k + 1) f fd ps sp := by
  obtain ⟨oc, od, dV, kV, doc, pm, an, cdv, ct, osl, rfl, lk, hcd, _, _⟩ := F.ex
  refine fnG_of lk hcd S len fun B out s H vs Q E hr hg hsp => ?_
  obtain ⟨t, h, q⟩ := hb cdv B out s H vs Q E hr hg hsp
  exact ⟨t, h.nox, q⟩
end Tp
namespace Tp
open PySem PySem.Spec PyProof.Rows L2
/-- a + b, the sum handed on as a letter -/
def rAddL : R2 := fun x y H Q => ∃ i j : Int, x = .int i ∧ y = .int j ∧ ∀ z : Int, z = i + j → Q (.int z) H
theorem op_addL {X : Cx} : OpR X (binaryOp .Add) rAddL := by
  intro pins s σ H x y v u Q I rx ry h
  obtain ⟨i, j, e1, e2, q⟩ := h
  exact op_add pins s σ H x y v u Q I rx ry ⟨i, j, e1, e2, q _ rfl⟩
def rSubL : R2 := fun x y H Q => ∃ i j : Int, x = .int i ∧ y = .int j ∧ ∀ z : Int, z = i - j → Q (.int z) H
theorem op_subL {X : Cx} : OpR X (binaryOp .Sub) rSubL := by
  intro pins s σ H x y v u Q I rx ry h
  obtain ⟨i, j, e1, e2, q⟩ := h
  exact op_sub pins s σ H x y v u Q I rx ry ⟨i, j, e1, e2, q _ rfl⟩
end Tp
set_option Elab.async false
set_option linter.all false
set_option maxRecDepth 100000
set_option maxHeartbeats 4000000
namespace T02
open PySem PySem.Spec PyProof.Rows L2 Tp
structure TxtN (mg : Str → Option Value) : Prop where
  list : mg "list" = none
  len : mg "len" = none
  enumerate : mg "enumerate" = none
section
variable {P : Program} {w : World} {K : PySem.W.Frag} {mg : Str → Option Value} {base : Heap} {f : Addr} {fd : FuncData}

/-- all these are empty lists or tuples -/
def Emp (K : PySem.W.Frag) (H : Hp) (x : V) : Prop := ∃ a, x = .ref a ∧ SqA K H a []
theorem Emp.up {K : PySem.W.Frag} {H H' : Hp} {x : V} (k : Same H H') (h : Emp K H x) : Emp K H' x := let ⟨a, e, q⟩ := h; ⟨a, e, q.up k⟩
theorem emp_of {K : PySem.W.Frag} {H : Hp} {a : Addr} (h : H a = some (.lst [])) : Emp K H (.ref a) := ⟨a, rfl, .inl (SqL.of h)⟩
/-- a walk of nothing -/
theorem emp_it {K : PySem.W.Frag} {H : Hp} {x : V} {R : It → Hp → Prop} (h : Emp K H x) (hR : ∀ J, Walk J 0 (fun G => Same H G) (YAt []) → R J H) : ∃ a, x = .ref a ∧ SeqR K a H R := by
  obtain ⟨a, rfl, q⟩ := h
  exact ⟨a, rfl, seq_it q hR⟩
theorem for_no {J : It} {G : Hp → Prop} {Y : Nat → Hp → V → Hp → Prop} (w : Walk J 0 G Y) {g : TG} {tb : TS} {D : Ends} {σ : L2.St} {H : Hp} (hG : G H) (hd : D.nx σ H) :
    ∃ W : Nat → Nat → L2.St → Hp → Prop, (∃ m, W 0 m σ H) ∧ ∀ i m σ H, W i m σ H →
      (J.stop i H ∧ D.nx σ H) ∨ (J.go i H ∧ ∃ N : L2.St → Hp → Prop, (∀ σ' H', N σ' H' → ∃ m', m' < m ∧ W (i + 1) m' σ' H') ∧ ∀ x H', J.yld i H x H' → g x σ H' fun σ2 H2 => tb { D with nx := N, ct := N, bk := D.nx } σ2 H2) :=
  for_it w (fun _ σ' H' => σ' = σ ∧ H' = H) ⟨rfl, rfl⟩ (fun _ _ _ _ e => by rw [e.2]; exact hG) (fun i x σ H H' hi => absurd hi (Nat.not_lt_zero _)) fun σ' H' e => by rw [e.1, e.2]; exact hd
theorem lc_no {J : It} {G : Hp → Prop} {Y : Nat → Hp → V → Hp → Prop} (w : Walk J 0 G Y) {g : TG} {tt : TT} {te : TE} {vs : List Nat} {σ : L2.St} {H1 : Hp} {D : Addr} {Qd : Hp → Prop} (hG : G (upd H1 D (.lst []))) (hd : Qd (upd H1 D (.lst []))) :
    ∃ W : Nat → Nat → Hp → Prop, (∃ m, W 0 m (upd H1 D (.lst []))) ∧ ∀ i m H, W i m H →
      (J.stop i H ∧ Qd H) ∨ (J.go i H ∧ ∃ Nx : Hp → Prop, (∀ H', Nx H' → ∃ m', m' < m ∧ W (i + 1) m' H') ∧ ∀ x H', J.yld i H x H' → g x (wipe σ vs) H' fun σ2 H2 => wipe σ2 vs = wipe σ vs ∧ tt σ2 H2 fun b H3 =>
        if b = true then te σ2 H3 fun y H4 => ∃ acc, H4 D = some (.lst acc) ∧ acc.length < sizeLine ∧ Nx (upd H4 D (.lst (acc ++ [y]))) else Nx H3) :=
  lc_it w (fun _ G' => G' = upd H1 D (.lst [])) rfl (fun _ _ _ e => by rw [e]; exact hG) (fun i x H H' hi => absurd hi (Nat.not_lt_zero _)) fun H e => by rw [e]; exact hd
theorem dc_no {J : It} {G : Hp → Prop} {Y : Nat → Hp → V → Hp → Prop} (w : Walk J 0 G Y) {g : TG} {tt : TT} {tk tv : TE} {vs : List Nat} {σ : L2.St} {H1 : Hp} {D : Addr} {Qd : Hp → Prop} (hG : G (upd H1 D (.dK []))) (hd : Qd (upd H1 D (.dK []))) :
    ∃ W : Nat → Nat → Hp → Prop, (∃ m, W 0 m (upd H1 D (.dK []))) ∧ ∀ i m H, W i m H →
      (J.stop i H ∧ Qd H) ∨ (J.go i H ∧ ∃ Nx : Hp → Prop, (∀ H', Nx H' → ∃ m', m' < m ∧ W (i + 1) m' H') ∧ ∀ x H', J.yld i H x H' → g x (wipe σ vs) H' fun σ2 H2 => wipe σ2 vs = wipe σ vs ∧ tt σ2 H2 fun b H3 =>
        if b = true then tk σ2 H3 fun y H4 => tv σ2 H4 fun z H5 => ∃ kvs k, y = kV k ∧ H5 D = some (.dK kvs) ∧ kvs.length < sizeLine ∧ Nx (upd H5 D (.dK (putK kvs k z))) else Nx H3) :=
  dc_it w (fun _ G' => G' = upd H1 D (.dK [])) rfl (fun _ _ _ e => by rw [e]; exact hG) (fun i x H H' hi => absurd hi (Nat.not_lt_zero _)) fun H e => by rw [e]; exact hd
def muN : L2.St → Hp → Nat := fun σ _ => match σ[4]? with
  | some (some (V.int n)) => (-n).toNat
  | _ => 0
/-- two empty ones are given, an empty list is handed back -/
def spE2L (K : PySem.W.Frag) : Sp := fun vs H Q _ => ∃ x y : V, vs = [x, y] ∧ Emp K H x ∧ Emp K H y ∧ ∀ a H', Same H H' → H' a = some (.lst []) → Q (.ref a) H'
/-- .. an empty dict -/
def spE2D (K : PySem.W.Frag) : Sp := fun vs H Q _ => ∃ x y : V, vs = [x, y] ∧ Emp K H x ∧ Emp K H y ∧ ∀ a H', Same H H' → H' a = some (.dK []) → Q (.ref a) H'
def spE1L (K : PySem.W.Frag) : Sp := fun vs H Q _ => ∃ x : V, vs = [x] ∧ Emp K H x ∧ ∀ a H', Same H H' → H' a = some (.lst []) → Q (.ref a) H'
def spE1D (K : PySem.W.Frag) : Sp := fun vs H Q _ => ∃ x : V, vs = [x] ∧ Emp K H x ∧ ∀ a H', Same H H' → H' a = some (.dK []) → Q (.ref a) H'
/-- .. and something beside, an empty list comes back -/
def spEXL (K : PySem.W.Frag) : Sp := fun vs H Q _ => ∃ x y : V, vs = [x, y] ∧ Emp K H x ∧ ∀ a H', Same H H' → H' a = some (.lst []) → Q (.ref a) H'
def spEXD (K : PySem.W.Frag) : Sp := fun vs H Q _ => ∃ x y : V, vs = [x, y] ∧ Emp K H x ∧ ∀ a H', Same H H' → H' a = some (.dK []) → Q (.ref a) H'
/-- nothing comes back, nothing is changed -/
def spEXN (K : PySem.W.Frag) : Sp := fun vs H Q _ => ∃ x y : V, vs = [x, y] ∧ Emp K H x ∧ Q .non H
def spE1N (K : PySem.W.Frag) : Sp := fun vs H Q _ => ∃ x : V, vs = [x] ∧ Emp K H x ∧ Q .non H
def spE2X2N (K : PySem.W.Frag) : Sp := fun vs H Q _ => ∃ x y z u : V, vs = [x, y, z, u] ∧ Emp K H x ∧ Emp K H y ∧ Q .non H
def spE3N (K : PySem.W.Frag) : Sp := fun vs H Q _ => ∃ x y z : V, vs = [x, y, z] ∧ Emp K H x ∧ Emp K H y ∧ Emp K H z ∧ ∀ H', Same H H' → Q .non H'
def spE4N (K : PySem.W.Frag) : Sp := fun vs H Q _ => ∃ x y z u : V, vs = [x, y, z, u] ∧ Emp K H x ∧ Emp K H y ∧ Emp K H z ∧ Emp K H u ∧ ∀ H', Same H H' → Q .non H'

abbrev sJe : Stmt := top 49
abbrev nJe : List Str := ["gates", "outs", "found", "_", "edges"]
theorem scJe : FnScope nJe ["gates", "outs"] (defScope sJe) := ⟨rfl, rfl, rfl, by decide +kernel, rfl, by decide +kernel, by decide +kernel⟩

theorem ok_Je (F : Fun K "joined_edges" "joined_edges" sJe f fd) (T : TxtN mg) : FnG P w K mg base CX0 1 f fd ["gates", "outs"] (spE2L K) := by
  refine FunG.ok F scJe (fun vs H Q E h => ?_) (fun cdv B out s H vs Q E hr hG h => ?_)
  · obtain ⟨x, y, rfl, _⟩ := h
    rfl
  · obtain ⟨x, y, rfl, hx, hy, q⟩ := h
    refine ⟨_, (pss_cons (ps_set (i := 2) scJe.nd rfl (.inl rfl) (pe_lst pa_nil))
      (pss_cons (ps_for PassesOwn.never rfl (pi_seq (pv 0)) (pg_tup rfl (pgs_cons (pg_name (i := 3) scJe.nd rfl (Or.inl rfl)) (pgs_cons (pg_name (i := 3) scJe.nd rfl (Or.inl rfl)) (pgs_cons (pg_name (i := 4) scJe.nd rfl (Or.inl rfl)) pgs_nil)))) pss_never)
      (pss_one (ps_ret (pe_op op_cat (pv 2) (pe_callTy call_list_of (by rfl) T.list (by decide +kernel) (pa_cons (pv 1) pa_nil))))))), ?_⟩
    obtain ⟨a, rfl, ha⟩ := hx
    obtain ⟨b, rfl, hb⟩ := hy
    refine ⟨by show 0 ≤ sizeLine; decide, fun l hl => ?_⟩
    have k1 : Same H (upd H l (.lst [])) := Same.put hl
    refine ⟨_, rfl, a, rfl, seq_it (ha.up k1) fun J wk => for_no wk (Same.refl _) ?_⟩
    refine ⟨_, rfl, _, rfl, b, [], rfl, hb.up k1, fun m hm => ?_⟩
    have k2 := Same.tr k1 (Same.put (o := .lst []) hm)
    refine ⟨l, m, [], [], rfl, rfl, (upd_ne (ne_of_none upd_same hm)).trans upd_same, upd_same, by show 0 ≤ sizeLine; decide, fun p hp => ?_⟩
    exact q p _ (Same.tr k2 (Same.put hp)) upd_same

abbrev sAs : Stmt := top 50
abbrev nAs : List Str := ["gates", "outs", "found", "_", "starts"]
theorem scAs : FnScope nAs ["gates", "outs"] (defScope sAs) := ⟨rfl, rfl, rfl, by decide +kernel, rfl, by decide +kernel, by decide +kernel⟩

theorem ok_As (F : Fun K "all_starts" "all_starts" sAs f fd) (CJ : Cg P w K mg base 1 "joined_edges" (spE2L K)) : FnG P w K mg base CX0 2 f fd ["gates", "outs"] (spE2L K) := by
  refine FunG.ok F scAs (fun vs H Q E h => ?_) (fun cdv B out s H vs Q E hr hG h => ?_)
  · obtain ⟨x, y, rfl, _⟩ := h
    rfl
  · obtain ⟨x, y, rfl, hx, hy, q⟩ := h
    refine ⟨_, (pss_cons (ps_set (i := 2) scAs.nd rfl (.inl rfl) (pe_lst pa_nil))
      (pss_cons (ps_for PassesOwn.never rfl (pi_list (pe_g CJ hr hG (by decide) (by rfl) (pa_cons (pv 0) (pa_cons (pv 1) pa_nil)))) (pg_tup rfl (pgs_cons (pg_name (i := 3) scAs.nd rfl (Or.inl rfl)) (pgs_cons (pg_name (i := 4) scAs.nd rfl (Or.inl rfl)) pgs_nil))) pss_never)
      (pss_one (ps_ret (pv 2))))), ?_⟩
    refine ⟨by show 0 ≤ sizeLine; decide, fun l hl => ?_⟩
    have k1 : Same H (upd H l (.lst [])) := Same.put hl
    have h1 : (upd H l (.lst [])) l = some (.lst []) := upd_same
    refine ⟨_, rfl, _, rfl, x, y, rfl, hx.up k1, hy.up k1, fun j H2 k2 h2 => ?_⟩
    refine ⟨j, rfl, ⟨[], SqL.of h2⟩, for_no (walk_list (xs := [])) (SqL.of h2) ?_⟩
    exact ⟨_, rfl, q l _ (Same.tr k1 k2) (k2 _ _ h1)⟩

abbrev sDs : Stmt := top 52
abbrev nDs : List Str := ["gates", "name", "_", "names", "found", "edges", "source", "starts"]
theorem scDs : FnScope nDs ["gates"] (defScope sDs) := ⟨rfl, rfl, rfl, by decide +kernel, rfl, by decide +kernel, by decide +kernel⟩

theorem ok_Ds (F : Fun K "_direct_sources" "_direct_sources" sDs f fd) : FnG P w K mg base CX0 1 f fd ["gates"] (spE1D K) := by
  refine FunG.ok F scDs (fun vs H Q E h => ?_) (fun cdv B out s H vs Q E hr hG h => ?_)
  · obtain ⟨x, rfl, _⟩ := h
    rfl
  · obtain ⟨x, rfl, hx, q⟩ := h
    refine ⟨_, (pss_cons (ps_set (i := 3) scDs.nd rfl (.inr rfl) (pe_dc (own := [("name", 1), ("_", 2)]) (g := gNev) (tt := tNevT) (tk := tNev) (tv := tNev) rfl scDs.nd (pi_seq (pv 0)) (blkOk_by (N := nDs) (sc := defScope sDs) (by decide +kernel)) (fun _ _ _ _ _ => pg_never) (fun _ _ _ _ _ => pts_never) (fun _ _ _ _ _ => pe_never) (fun _ _ _ _ _ => pe_never)))
      (pss_cons (ps_set (i := 4) scDs.nd rfl (.inl rfl) pe_dnewK)
      (pss_cons (ps_for PassesOwn.never rfl (pi_seq (pv 0)) (pg_tup rfl (pgs_cons (pg_name (i := 1) scDs.nd rfl (Or.inl rfl)) (pgs_cons (pg_name (i := 2) scDs.nd rfl (Or.inl rfl)) (pgs_cons (pg_name (i := 5) scDs.nd rfl (Or.inl rfl)) pgs_nil)))) pss_never)
      (pss_one (ps_ret (pv 4)))))), ?_⟩
    obtain ⟨a, rfl, ha⟩ := hx
    refine ⟨_, rfl, a, rfl, seq_it ha fun J wk => fun D hD => dc_no wk (Same.put hD) ?_⟩
    have k1 : Same H (upd H D (.dK [])) := Same.put hD
    refine fun e he => ?_
    have k2 := Same.tr k1 (Same.put (o := .dK []) he)
    refine ⟨_, rfl, a, rfl, seq_it (ha.up k2) fun J wk => for_no wk (Same.refl _) ?_⟩
    exact ⟨_, rfl, q e _ k2 upd_same⟩

abbrev sSp : Stmt := top 56
abbrev nSp : List Str := ["names", "following", "name", "found", "waiting", "other"]
theorem scSp : FnScope nSp ["names", "following"] (defScope sSp) := ⟨rfl, rfl, rfl, by decide +kernel, rfl, by decide +kernel, by decide +kernel⟩

theorem ok_Sp (F : Fun K "_spread" "_spread" sSp f fd) (T : TxtN mg) : FnG P w K mg base CX0 1 f fd ["names", "following"] (spEXD K) := by
  refine FunG.ok F scSp (fun vs H Q E h => ?_) (fun cdv B out s H vs Q E hr hG h => ?_)
  · obtain ⟨x, y, rfl, _⟩ := h
    rfl
  · obtain ⟨x, y, rfl, hx, q⟩ := h
    refine ⟨_, (pss_cons (ps_setDc (i := 3) (own := [("name", 2)]) (g := gNev) (tt := tNevT) (tk := tNev) (tv := tNev) rfl scSp.nd rfl rfl (sw_trueD rfl rfl rfl (by decide +kernel)) (pi_seq (pv 0)) (blkOk_by (N := nSp) (sc := defScope sSp) (by decide +kernel)) (fun _ _ _ _ _ => pg_never) (fun _ _ _ _ _ => pts_never) (fun _ _ _ _ _ => pe_never) (fun _ _ _ _ _ => pe_never))
      (pss_cons (ps_set (i := 4) scSp.nd rfl (.inl rfl) (pe_callTy (call_list_dK rfl) (by rfl) T.list (by decide +kernel) (pa_cons (pv 3) pa_nil)))
      (pss_cons (ps_while PassesOwn.never (pt_truth (pv 4) (by intro _; rfl)) pss_never)
      (pss_one (ps_ret (pv 3)))))), ?_⟩
    obtain ⟨a, rfl, ha⟩ := hx
    refine ⟨_, rfl, a, rfl, seq_it ha fun J wk => fun D hD => dc_no wk (Same.put hD) ?_⟩
    have k1 : Same H (upd H D (.dK [])) := Same.put hD
    have h1 : (upd H D (.dK [])) D = some (.dK []) := upd_same
    refine ⟨_, rfl, D, [], rfl, h1, fun e he => ?_⟩
    have k2 : Same (upd H D (.dK [])) (upd (upd H D (.dK [])) e (.lst [])) := Same.put he
    dsimp only [gName, tSeq]
    refine while_no (fun Q h => ⟨_, rfl, false, .inl ⟨[], SqL.of upd_same, rfl⟩, h⟩) ?_
    exact ⟨_, rfl, q D _ (Same.tr k1 k2) (k2 _ _ h1)⟩

abbrev sWo : Stmt := top 51
abbrev nWo : List Str := ["gates", "direct", "placed", "waiting", "many", "name", "source"]
theorem scWo : FnScope nWo ["gates"] (defScope sWo) := ⟨rfl, rfl, rfl, by decide +kernel, rfl, by decide +kernel, by decide +kernel⟩

theorem ok_Wo (F : Fun K "working_order" "working_order" sWo f fd) (T : TxtN mg) (CD : Cg P w K mg base 1 "_direct_sources" (spE1D K)) : FnG P w K mg base CX0 2 f fd ["gates"] (spE1L K) := by
  refine FunG.ok F scWo (fun vs H Q E h => ?_) (fun cdv B out s H vs Q E hr hG h => ?_)
  · obtain ⟨x, rfl, _⟩ := h
    rfl
  · obtain ⟨x, rfl, hx, q⟩ := h
    refine ⟨_, (pss_cons (ps_set (i := 1) scWo.nd rfl (.inl rfl) (pe_g CD hr hG (by decide) (by rfl) (pa_cons (pv 0) pa_nil)))
      (pss_cons (ps_set (i := 2) scWo.nd rfl (.inr rfl) pe_dnewK)
      (pss_cons (ps_set (i := 3) scWo.nd rfl (.inl rfl) (pe_callTy (call_list_dK rfl) (by rfl) T.list (by decide +kernel) (pa_cons (pv 1) pa_nil)))
      (pss_cons (ps_set (i := 4) scWo.nd rfl (.inl rfl) (pe_un un_neg pe_int))
      (pss_cons (ps_while PassesOwn.never (pt_cmpR op_gt (pe_callB call_lenD (by rfl) T.len PySem.boot_len (pa_cons (pv 2) pa_nil)) (pv 4) (nomark _)) (pss_cons (ps_set (i := 4) scWo.nd rfl (.inl rfl) (pe_callB call_lenD (by rfl) T.len PySem.boot_len (pa_cons (pv 2) pa_nil)))
        (pss_cons (ps_for PassesOwn.never rfl (pi_list (pv 3)) (pg_name (i := 5) scWo.nd rfl (Or.inl rfl)) pss_never)
        (pss_one (ps_setLc (i := 3) (own := [("name", 5)]) (g := gNev) (tt := tNevT) (te := tNev) rfl scWo.nd rfl rfl (sw_true rfl rfl rfl (by decide +kernel)) (pi_list (pv 3)) (blkOk_by (N := nWo) (sc := defScope sWo) (by decide +kernel)) (fun _ _ _ _ _ => pg_never) (fun _ _ _ _ _ => pts_never) (fun _ _ _ _ _ => pe_never))))))
      (pss_one (ps_ret (pe_callTy (call_list_dK rfl) (by rfl) T.list (by decide +kernel) (pa_cons (pv 2) pa_nil))))))))), ?_⟩
    refine ⟨_, rfl, x, rfl, hx, fun d H1 k1 h1 => ?_⟩
    refine fun e he => ?_
    have k2 : Same H1 (upd H1 e (.dK [])) := Same.put he
    have e2 : (upd H1 e (.dK [])) e = some (.dK []) := upd_same
    have d2 := k2 _ _ h1
    generalize upd H1 e (.dK []) = H2 at k2 e2 d2 ⊢
    refine ⟨_, rfl, d, [], rfl, d2, fun v hv => ?_⟩
    have k3 : Same H2 (upd H2 v (.lst (([] : List (Key × V)).map fun kv => kV kv.1))) := Same.put hv
    have v3 : (upd H2 v (.lst (([] : List (Key × V)).map fun kv => kV kv.1))) v = some (.lst []) := upd_same
    have e3 := k3 _ _ e2
    generalize upd H2 v (.lst (([] : List (Key × V)).map fun kv => kV kv.1)) = H3 at k3 v3 e3 ⊢
    refine ⟨_, rfl, ?_⟩
    have kk := Same.tr k1 (Same.tr k2 k3)
    refine while_by (fun σ G => Same H3 G ∧ ∃ (n : Int) (u : Addr), (n = -1 ∨ n = 0) ∧ G u = some (.lst []) ∧ σ = [some x, some (.ref d), some (.ref e), some (.ref u), some (.int n), none, none]) muN ⟨Same.refl _, -1, v, .inl rfl, v3, rfl⟩ ?_ (fun σ H Q Q' hq ⟨v, e1, a, kvs, e2, e3, v', e4, i, j, e5, e6, b, e7, q⟩ => ⟨v, e1, a, kvs, e2, e3, v', e4, i, j, e5, e6, b, e7, hq _ _ q⟩)
    rintro σ G ⟨kG, n, u, hn, hu, rfl⟩
    refine ⟨_, rfl, e, [], rfl, kG _ _ e3, _, rfl, _, _, rfl, rfl, _, rfl, ?_⟩
    rcases hn with rfl | rfl
    · refine iteT ⟨_, rfl, e, [], rfl, kG _ _ e3, ?_⟩
      refine ⟨_, rfl, u, rfl, ⟨[], SqL.of hu⟩, for_no (walk_list (xs := [])) (SqL.of hu) ?_⟩
      refine ⟨_, rfl, u, rfl, ⟨[], SqL.of hu⟩, fun D hD => lc_no (walk_list (xs := [])) (SqL.of (Same.put hD _ _ hu)) ?_⟩
      refine ⟨⟨Same.tr kG (Same.put hD), 0, D, .inr rfl, upd_same, rfl⟩, by show (-(0 : Int)).toNat < (-(-1 : Int)).toNat; decide⟩
    · refine iteF ⟨_, rfl, e, [], rfl, kG _ _ e3, fun p hp => ?_⟩
      exact q p _ (Same.tr kk (Same.tr kG (Same.put hp))) upd_same

abbrev sRg : Stmt := top 53
abbrev nRg : List Str := ["gates", "name", "working", "stuck", "direct", "walk", "sources", "_", "source"]
theorem scRg : FnScope nRg ["gates"] (defScope sRg) := ⟨rfl, rfl, rfl, by decide +kernel, rfl, by decide +kernel, by decide +kernel⟩

theorem ok_Rg (F : Fun K "ring_without_delay" "ring_without_delay" sRg f fd) (CW : Cg P w K mg base 2 "working_order" (spE1L K)) : FnG P w K mg base CX0 3 f fd ["gates"] (spE1L K) := by
  refine FunG.ok F scRg (fun vs H Q E h => ?_) (fun cdv B out s H vs Q E hr hG h => ?_)
  · obtain ⟨x, rfl, _⟩ := h
    rfl
  · obtain ⟨x, rfl, hx, q⟩ := h
    refine ⟨_, (pss_cons (ps_set (i := 2) scRg.nd rfl (.inr rfl) (pe_dc (own := [("name", 1)]) (g := gNev) (tt := tNevT) (tk := tNev) (tv := tNev) rfl scRg.nd (pi_list (pe_g CW hr hG (by decide) (by rfl) (pa_cons (pv 0) pa_nil))) (blkOk_by (N := nRg) (sc := defScope sRg) (by decide +kernel)) (fun _ _ _ _ _ => pg_never) (fun _ _ _ _ _ => pts_never) (fun _ _ _ _ _ => pe_never) (fun _ _ _ _ _ => pe_never)))
      (pss_cons (ps_setLc (i := 3) (own := [("name", 1), ("_", 7)]) (g := gNev) (tt := tNevT) (te := tNev) rfl scRg.nd rfl rfl (sw_true rfl rfl rfl (by decide +kernel)) (pi_seq (pv 0)) (blkOk_by (N := nRg) (sc := defScope sRg) (by decide +kernel)) (fun _ _ _ _ _ => pg_never) (fun _ _ _ _ _ => pts_never) (fun _ _ _ _ _ => pe_never))
      (pss_cons (ps_if (pt_not (pt_truth (pv 3) (by intro _; rfl))) (pss_one (ps_ret (pe_lst pa_nil))) pss_nil)
      pss_never))), ?_⟩
    refine ⟨_, rfl, x, rfl, hx, fun d H1 k1 h1 => ?_⟩
    refine ⟨d, rfl, ⟨[], SqL.of h1⟩, fun D hD => dc_no (walk_list (xs := [])) (SqL.of (Same.put hD _ _ h1)) ?_⟩
    have k2 := Same.tr k1 (Same.put (o := .dK []) hD)
    obtain ⟨a, rfl, ha⟩ := hx
    refine ⟨_, rfl, a, rfl, seq_it (ha.up k2) fun J wk => fun e he => lc_no wk (Same.put he) ?_⟩
    have k3 := Same.tr k2 (Same.put (o := .lst []) he)
    refine ⟨_, rfl, false, .inl ⟨[], SqL.of upd_same, rfl⟩, iteT ?_⟩
    exact ⟨by show 0 ≤ sizeLine; decide, fun p hp => q p _ (Same.tr k3 (Same.put hp)) upd_same⟩

abbrev sEw : Stmt := top 54
abbrev nEw : List Str := ["inputs", "gates", "readers", "name", "_", "edges", "source"]
theorem scEw : FnScope nEw ["inputs", "gates"] (defScope sEw) := ⟨rfl, rfl, rfl, by decide +kernel, rfl, by decide +kernel, by decide +kernel⟩

theorem ok_Ew (F : Fun K "ends_of_ways" "ends_of_ways" sEw f fd) (CS : Cg P w K mg base 1 "_spread" (spEXD K)) : FnG P w K mg base CX0 2 f fd ["inputs", "gates"] (spE2D K) := by
  refine FunG.ok F scEw (fun vs H Q E h => ?_) (fun cdv B out s H vs Q E hr hG h => ?_)
  · obtain ⟨x, y, rfl, _⟩ := h
    rfl
  · obtain ⟨x, y, rfl, hx, hy, q⟩ := h
    refine ⟨_, (pss_cons (ps_set (i := 2) scEw.nd rfl (.inl rfl) pe_dnewK)
      (pss_cons (ps_for PassesOwn.never rfl (pi_seq (pv 1)) (pg_tup rfl (pgs_cons (pg_name (i := 3) scEw.nd rfl (Or.inl rfl)) (pgs_cons (pg_name (i := 4) scEw.nd rfl (Or.inl rfl)) (pgs_cons (pg_name (i := 5) scEw.nd rfl (Or.inl rfl)) pgs_nil)))) pss_never)
      (pss_one (ps_ret (pe_g CS hr hG (by decide) (by rfl) (pa_cons (pv 0) (pa_cons (pv 2) pa_nil))))))), ?_⟩
    refine fun e he => ?_
    have k1 : Same H (upd H e (.dK [])) := Same.put he
    obtain ⟨b, rfl, hb⟩ := hy
    refine ⟨_, rfl, b, rfl, seq_it (hb.up k1) fun J wk => for_no wk (Same.refl _) ?_⟩
    exact ⟨_, rfl, _, rfl, x, _, rfl, hx.up k1, fun a H' k2 h2 => q a H' (Same.tr k1 k2) h2⟩

abbrev sBw : Stmt := top 55
abbrev nBw : List Str := ["gates", "outs", "sources", "name", "_", "edges", "source"]
theorem scBw : FnScope nBw ["gates", "outs"] (defScope sBw) := ⟨rfl, rfl, rfl, by decide +kernel, rfl, by decide +kernel, by decide +kernel⟩

theorem ok_Bw (F : Fun K "beginnings_of_ways" "beginnings_of_ways" sBw f fd) (CS : Cg P w K mg base 1 "_spread" (spEXD K)) : FnG P w K mg base CX0 2 f fd ["gates", "outs"] (spE2D K) := by
  refine FunG.ok F scBw (fun vs H Q E h => ?_) (fun cdv B out s H vs Q E hr hG h => ?_)
  · obtain ⟨x, y, rfl, _⟩ := h
    rfl
  · obtain ⟨x, y, rfl, hx, hy, q⟩ := h
    refine ⟨_, (pss_cons (ps_set (i := 2) scBw.nd rfl (.inl rfl) pe_dnewK)
      (pss_cons (ps_for PassesOwn.never rfl (pi_seq (pv 0)) (pg_tup rfl (pgs_cons (pg_name (i := 3) scBw.nd rfl (Or.inl rfl)) (pgs_cons (pg_name (i := 4) scBw.nd rfl (Or.inl rfl)) (pgs_cons (pg_name (i := 5) scBw.nd rfl (Or.inl rfl)) pgs_nil)))) pss_never)
      (pss_one (ps_ret (pe_g CS hr hG (by decide) (by rfl) (pa_cons (pe_lc (own := [("source", 6), ("_", 4)]) (g := gNev) (tt := tNevT) (te := tNev) rfl scBw.nd (pi_seq (pv 1)) (blkOk_by (N := nBw) (sc := defScope sBw) (by decide +kernel)) (fun _ _ _ _ _ => pg_never) (fun _ _ _ _ _ => pts_never) (fun _ _ _ _ _ => pe_never)) (pa_cons (pv 2) pa_nil))))))), ?_⟩
    refine fun e he => ?_
    have k1 : Same H (upd H e (.dK [])) := Same.put he
    obtain ⟨a, rfl, ha⟩ := hx
    obtain ⟨b, rfl, hb⟩ := hy
    refine ⟨_, rfl, a, rfl, seq_it (ha.up k1) fun J wk => for_no wk (Same.refl _) ?_⟩
    refine ⟨_, rfl, b, rfl, seq_it (hb.up k1) fun J wk => fun D hD => lc_no wk (Same.put hD) ?_⟩
    have k2 := Same.tr k1 (Same.put (o := .lst []) hD)
    exact ⟨_, rfl, _, _, rfl, emp_of upd_same, fun a H' k3 h3 => q a H' (Same.tr k2 k3) h3⟩

abbrev sCi : Stmt := top 59
abbrev nCi : List Str := ["inputs", "names", "item"]
theorem scCi : FnScope nCi ["inputs", "names"] (defScope sCi) := ⟨rfl, rfl, rfl, by decide +kernel, rfl, by decide +kernel, by decide +kernel⟩

theorem ok_Ci (F : Fun K "_check_inputs" "_check_inputs" sCi f fd) : FnG P w K mg base CX0 1 f fd ["inputs", "names"] (spEXN K) := by
  refine FunG.ok F scCi (fun vs H Q E h => ?_) (fun cdv B out s H vs Q E hr hG h => ?_)
  · obtain ⟨x, y, rfl, _⟩ := h
    rfl
  · obtain ⟨x, y, rfl, ⟨a, rfl, ha⟩, q⟩ := h
    refine ⟨_, (pss_one (ps_for PassesOwn.never rfl (pi_seq (pv 0)) (pg_name (i := 2) scCi.nd rfl (Or.inl rfl)) pss_never)), ?_⟩
    exact ⟨_, rfl, a, rfl, seq_it ha fun J wk => for_no wk (Same.refl _) q⟩

abbrev sCgt : Stmt := top 61
abbrev nCgt : List Str := ["gates", "names", "item", "name", "symbol", "edges"]
theorem scCgt : FnScope nCgt ["gates", "names"] (defScope sCgt) := ⟨rfl, rfl, rfl, by decide +kernel, rfl, by decide +kernel, by decide +kernel⟩

theorem ok_Cgt (F : Fun K "_check_gates" "_check_gates" sCgt f fd) : FnG P w K mg base CX0 1 f fd ["gates", "names"] (spEXN K) := by
  refine FunG.ok F scCgt (fun vs H Q E h => ?_) (fun cdv B out s H vs Q E hr hG h => ?_)
  · obtain ⟨x, y, rfl, _⟩ := h
    rfl
  · obtain ⟨x, y, rfl, ⟨a, rfl, ha⟩, q⟩ := h
    refine ⟨_, (pss_one (ps_for PassesOwn.never rfl (pi_seq (pv 0)) (pg_name (i := 2) scCgt.nd rfl (Or.inl rfl)) pss_never)), ?_⟩
    exact ⟨_, rfl, a, rfl, seq_it ha fun J wk => for_no wk (Same.refl _) q⟩

abbrev sCtm : Stmt := top 62
abbrev nCtm : List Str := ["terms", "index", "item"]
theorem scCtm : FnScope nCtm ["terms"] (defScope sCtm) := ⟨rfl, rfl, rfl, by decide +kernel, rfl, by decide +kernel, by decide +kernel⟩

theorem ok_Ctm (F : Fun K "check_terms" "check_terms" sCtm f fd) (T : TxtN mg) : FnG P w K mg base CX0 1 f fd ["terms"] (spE1N K) := by
  refine FunG.ok F scCtm (fun vs H Q E h => ?_) (fun cdv B out s H vs Q E hr hG h => ?_)
  · obtain ⟨x, rfl, _⟩ := h
    rfl
  · obtain ⟨x, rfl, ⟨a, rfl, ha⟩, q⟩ := h
    refine ⟨_, (pss_one (ps_for PassesOwn.never rfl (pi_enumS (by rfl) T.enumerate (pa_cons (pv 0) pa_nil)) (pg_tup rfl (pgs_cons (pg_name (i := 1) scCtm.nd rfl (Or.inl rfl)) (pgs_cons (pg_name (i := 2) scCtm.nd rfl (Or.inl rfl)) pgs_nil))) pss_never)), ?_⟩
    exact ⟨_, rfl, a, rfl, enum_it ha fun J wk => for_no wk (Same.refl _) q⟩

abbrev sCed : Stmt := top 64
abbrev nCed : List Str := ["gates", "outs", "names", "count", "_", "edges", "item"]
theorem scCed : FnScope nCed ["gates", "outs", "names", "count"] (defScope sCed) := ⟨rfl, rfl, rfl, by decide +kernel, rfl, by decide +kernel, by decide +kernel⟩

theorem ok_Ced (F : Fun K "_check_edges" "_check_edges" sCed f fd) : FnG P w K mg base CX0 1 f fd ["gates", "outs", "names", "count"] (spE2X2N K) := by
  refine FunG.ok F scCed (fun vs H Q E h => ?_) (fun cdv B out s H vs Q E hr hG h => ?_)
  · obtain ⟨x, y, z, u, rfl, _⟩ := h
    rfl
  · obtain ⟨x, y, z, u, rfl, ⟨a, rfl, ha⟩, ⟨b, rfl, hb⟩, q⟩ := h
    refine ⟨_, (pss_cons (ps_for PassesOwn.never rfl (pi_seq (pv 0)) (pg_tup rfl (pgs_cons (pg_name (i := 4) scCed.nd rfl (Or.inl rfl)) (pgs_cons (pg_name (i := 4) scCed.nd rfl (Or.inl rfl)) (pgs_cons (pg_name (i := 5) scCed.nd rfl (Or.inl rfl)) pgs_nil)))) pss_never)
      (pss_one (ps_for PassesOwn.never rfl (pi_seq (pv 1)) (pg_name (i := 6) scCed.nd rfl (Or.inl rfl)) pss_never))), ?_⟩
    refine ⟨_, rfl, a, rfl, seq_it ha fun J wk => for_no wk (Same.refl _) ?_⟩
    exact ⟨_, rfl, b, rfl, seq_it hb fun J wk => for_no wk (Same.refl _) q⟩

abbrev sCwy : Stmt := top 66
abbrev nCwy : List Str := ["inputs", "gates", "outs", "ring", "reached", "name", "_", "leading"]
theorem scCwy : FnScope nCwy ["inputs", "gates", "outs"] (defScope sCwy) := ⟨rfl, rfl, rfl, by decide +kernel, rfl, by decide +kernel, by decide +kernel⟩

theorem ok_Cwy (F : Fun K "_check_ways" "_check_ways" sCwy f fd) (CR : Cg P w K mg base 3 "ring_without_delay" (spE1L K)) (CE : Cg P w K mg base 2 "ends_of_ways" (spE2D K)) (CB : Cg P w K mg base 2 "beginnings_of_ways" (spE2D K)) : FnG P w K mg base CX0 4 f fd ["inputs", "gates", "outs"] (spE3N K) := by
  refine FunG.ok F scCwy (fun vs H Q E h => ?_) (fun cdv B out s H vs Q E hr hG h => ?_)
  · obtain ⟨x, y, z, rfl, _⟩ := h
    rfl
  · obtain ⟨x, y, z, rfl, hx, hy, hz, q⟩ := h
    refine ⟨_, (pss_cons (ps_set (i := 3) scCwy.nd rfl (.inl rfl) (pe_g CR hr hG (by decide) (by rfl) (pa_cons (pv 1) pa_nil)))
      (pss_cons (ps_if (pt_truth (pv 3) (by intro _; rfl)) (pss_one (ps_never)) pss_nil)
      (pss_cons (ps_set (i := 4) scCwy.nd rfl (.inl rfl) (pe_g CE hr hG (by decide) (by rfl) (pa_cons (pv 0) (pa_cons (pv 1) pa_nil))))
      (pss_cons (ps_for PassesOwn.never rfl (pi_seq (pv 1)) (pg_tup rfl (pgs_cons (pg_name (i := 5) scCwy.nd rfl (Or.inl rfl)) (pgs_cons (pg_name (i := 6) scCwy.nd rfl (Or.inl rfl)) (pgs_cons (pg_name (i := 6) scCwy.nd rfl (Or.inl rfl)) pgs_nil)))) pss_never)
      (pss_cons (ps_set (i := 7) scCwy.nd rfl (.inl rfl) (pe_g CB hr hG (by decide) (by rfl) (pa_cons (pv 1) (pa_cons (pv 2) pa_nil))))
      (pss_one (ps_for PassesOwn.never rfl (pi_seq (pv 1)) (pg_tup rfl (pgs_cons (pg_name (i := 5) scCwy.nd rfl (Or.inl rfl)) (pgs_cons (pg_name (i := 6) scCwy.nd rfl (Or.inl rfl)) (pgs_cons (pg_name (i := 6) scCwy.nd rfl (Or.inl rfl)) pgs_nil)))) pss_never))))))), ?_⟩
    refine ⟨_, rfl, y, rfl, hy, fun r H1 k1 h1 => ?_⟩
    refine ⟨_, rfl, false, .inl ⟨[], SqL.of h1, rfl⟩, iteF ?_⟩
    refine ⟨_, rfl, _, rfl, x, y, rfl, hx.up k1, hy.up k1, fun d H2 k2 h2 => ?_⟩
    have k12 := Same.tr k1 k2
    obtain ⟨b, rfl, hb⟩ := hy
    refine ⟨_, rfl, b, rfl, seq_it (hb.up k12) fun J wk => for_no wk (Same.refl _) ?_⟩
    refine ⟨_, rfl, _, rfl, _, z, rfl, ⟨b, rfl, hb.up k12⟩, hz.up k12, fun e H3 k3 h3 => ?_⟩
    have k13 := Same.tr k12 k3
    exact ⟨_, rfl, b, rfl, seq_it (hb.up k13) fun J wk => for_no wk (Same.refl _) (q _ k13)⟩

/-- the classes' facts -/
structure TxtT (K : PySem.W.Frag) (C : Addr) : Prop where
  cl : Cls K C
  n1 : NoAttr K C "_listed"
  n2 : NoAttr K C "_places"
/-- TermTable() -/
def spTt (C : Addr) : Sp := fun vs H Q _ => ∃ p dx, vs = [.ref p] ∧ H p = some (.ins C dx []) ∧ ∀ H' u v, H' p = some (.ins C dx [("_listed", u), ("_places", v)]) → Keep p H H' → Q .non H'
def spTe (K : PySem.W.Frag) : Sp := fun vs H Q _ => ∃ x y : V, vs = [x, y] ∧ Emp K H y ∧ ∀ a H', Same H H' → H' a = some (.lst []) → Q (.ref a) H'
/-- used: a pair of an empty list and an empty dict -/
def spTu (K : PySem.W.Frag) : Sp := fun vs H Q _ => ∃ x y : V, vs = [x, y] ∧ Emp K H y ∧ ∀ a l d H', Same H H' → H' a = some (.tup [.ref l, .ref d]) → H' l = some (.lst []) → H' d = some (.dK []) → Q (.ref a) H'
/-- a new instance of no or any fields -/
def spNw (C : Addr) (n : Nat) (P : Hp → List V → Prop) : Sp := fun vs H Q _ => ∃ p dx us, vs = .ref p :: us ∧ us.length = n ∧ H p = some (.ins C dx []) ∧ P H us ∧ ∀ H' fs, H' p = some (.ins C dx fs) → Keep p H H' → Q .non H'

abbrev sTti : Stmt := inClass (top 35) 0
abbrev nTti : List Str := ["self"]
theorem scTti : FnScope nTti ["self"] (defScope sTti) := ⟨rfl, rfl, rfl, by decide +kernel, rfl, by decide +kernel, by decide +kernel⟩

theorem ok_Tti {C : Addr} (F : Fun K "__init__" "TermTable.__init__" sTti f fd) (T : TxtT K C) : FnG P w K mg base CX0 1 f fd ["self"] (spTt C) := by
  refine FunG.ok F scTti (fun vs H Q E h => ?_) (fun cdv B out s H vs Q E hr hG h => ?_)
  · obtain ⟨p, dx, rfl, _⟩ := h
    rfl
  · obtain ⟨p, dx, rfl, hp, q⟩ := h
    refine ⟨_, (pss_cons (ps_fld (pv 0) (pe_lst pa_nil) rfl)
      (pss_one (ps_fld (pv 0) pe_dnewK rfl))), ?_⟩
    refine ⟨by show 0 ≤ sizeLine; decide, fun l hl => ?_⟩
    refine ⟨_, rfl, p, C, dx, _, rfl, (upd_ne (ne_of_none hp hl)).trans hp, T.cl, T.n1, by show 0 < 1000; decide, ?_⟩
    have k1 : Keep p H (upd (upd H l (.lst [])) p (.ins C dx (putF "_listed" (.ref l) []))) := (Keep.new hl).trans Keep.put
    have h1 : (upd (upd H l (.lst [])) p (.ins C dx (putF "_listed" (.ref l) []))) p = some (.ins C dx (putF "_listed" (.ref l) [])) := upd_same
    generalize upd (upd H l (.lst [])) p (.ins C dx (putF "_listed" (.ref l) [])) = H1 at k1 h1 ⊢
    refine fun d hd => ?_
    refine ⟨_, rfl, p, C, dx, _, rfl, (upd_ne (ne_of_none h1 hd)).trans h1, T.cl, T.n2, by show 1 < 1000; decide, ?_⟩
    exact q _ (.ref l) (.ref d) upd_same (k1.trans ((Keep.new hd).trans Keep.put))

abbrev sTte : Stmt := inClass (top 35) 3
abbrev nTte : List Str := ["self", "terms", "numbers", "symbol", "arguments", "index"]
theorem scTte : FnScope nTte ["self", "terms"] (defScope sTte) := ⟨rfl, rfl, rfl, by decide +kernel, rfl, by decide +kernel, by decide +kernel⟩

theorem ok_Tte {C : Addr} (F : Fun K "enter_terms" "TermTable.enter_terms" sTte f fd) : FnG P w K mg base CX0 1 f fd ["self", "terms"] (spTe K) := by
  refine FunG.ok F scTte (fun vs H Q E h => ?_) (fun cdv B out s H vs Q E hr hG h => ?_)
  · obtain ⟨x, y, rfl, _⟩ := h
    rfl
  · obtain ⟨x, y, rfl, ⟨a, rfl, ha⟩, q⟩ := h
    refine ⟨_, (pss_cons (ps_set (i := 2) scTte.nd rfl (.inr rfl) (pe_lst pa_nil))
      (pss_cons (ps_for PassesOwn.never rfl (pi_seq (pv 1)) (pg_tup rfl (pgs_cons (pg_name (i := 3) scTte.nd rfl (Or.inl rfl)) (pgs_cons (pg_name (i := 4) scTte.nd rfl (Or.inl rfl)) pgs_nil))) pss_never)
      (pss_one (ps_ret (pv 2))))), ?_⟩
    refine ⟨by show 0 ≤ sizeLine; decide, fun l hl => ?_⟩
    refine ⟨_, rfl, a, rfl, seq_it (ha.up (Same.put hl)) fun J wk => for_no wk (Same.refl _) ?_⟩
    exact ⟨_, rfl, q l _ (Same.put hl) upd_same⟩

abbrev sTtu : Stmt := inClass (top 35) 4
abbrev nTtu : List Str := ["self", "numbers", "kept", "places", "number", "waiting", "row", "missing", "part"]
theorem scTtu : FnScope nTtu ["self", "numbers"] (defScope sTtu) := ⟨rfl, rfl, rfl, by decide +kernel, rfl, by decide +kernel, by decide +kernel⟩

theorem ok_Ttu {C : Addr} (F : Fun K "used" "TermTable.used" sTtu f fd) : FnG P w K mg base CX0 1 f fd ["self", "numbers"] (spTu K) := by
  refine FunG.ok F scTtu (fun vs H Q E h => ?_) (fun cdv B out s H vs Q E hr hG h => ?_)
  · obtain ⟨x, y, rfl, _⟩ := h
    rfl
  · obtain ⟨x, y, rfl, ⟨a, rfl, ha⟩, q⟩ := h
    refine ⟨_, (pss_cons (ps_set (i := 2) scTtu.nd rfl (.inl rfl) (pe_lst pa_nil))
      (pss_cons (ps_set (i := 3) scTtu.nd rfl (.inr rfl) pe_dnewK)
      (pss_cons (ps_for PassesOwn.never rfl (pi_seq (pv 1)) (pg_name (i := 4) scTtu.nd rfl (Or.inl rfl)) pss_never)
      (pss_one (ps_ret (pe_tup (pa_cons (pv 2) (pa_cons (pv 3) pa_nil)))))))), ?_⟩
    refine ⟨by show 0 ≤ sizeLine; decide, fun l hl => fun d hd => ?_⟩
    have k1 : Same H (upd H l (.lst [])) := Same.put hl
    have k2 : Same (upd H l (.lst [])) (upd (upd H l (.lst [])) d (.dK [])) := Same.put hd
    have k12 := Same.tr k1 k2
    refine ⟨_, rfl, a, rfl, seq_it (ha.up k12) fun J wk => for_no wk (Same.refl _) ?_⟩
    refine ⟨_, rfl, _, rfl, (by show 2 ≤ sizeLine; decide), fun t ht => ?_⟩
    have k3 : Same (upd (upd H l (.lst [])) d (.dK [])) (upd (upd (upd H l (.lst [])) d (.dK [])) t (.tup [.ref l, .ref d])) := Same.put ht
    exact q t l d _ (Same.tr k12 k3) upd_same (k3 _ _ (k2 _ _ upd_same)) (k3 _ _ upd_same)

abbrev sKe : Stmt := top 69
abbrev nKe : List Str := ["edges", "moved", "source", "start", "starts"]
theorem scKe : FnScope nKe ["edges", "moved"] (defScope sKe) := ⟨rfl, rfl, rfl, by decide +kernel, rfl, by decide +kernel, by decide +kernel⟩

theorem ok_Ke (F : Fun K "_kept_edges" "_kept_edges" sKe f fd) : FnG P w K mg base CX0 1 f fd ["edges", "moved"] (spEXL K) := by
  refine FunG.ok F scKe (fun vs H Q E h => ?_) (fun cdv B out s H vs Q E hr hG h => ?_)
  · obtain ⟨x, y, rfl, _⟩ := h
    rfl
  · obtain ⟨x, y, rfl, ⟨a, rfl, ha⟩, q⟩ := h
    refine ⟨_, (pss_one (ps_ret (pe_lc (own := [("source", 2), ("starts", 4)]) (g := gNev) (tt := tNevT) (te := tNev) rfl scKe.nd (pi_seq (pv 0)) (blkOk_by (N := nKe) (sc := defScope sKe) (by decide +kernel)) (fun _ _ _ _ _ => pg_never) (fun _ _ _ _ _ => pts_never) (fun _ _ _ _ _ => pe_never)))), ?_⟩
    exact ⟨_, rfl, a, rfl, seq_it ha fun J wk => fun D hD => lc_no wk (Same.put hD) (q D _ (Same.put hD) upd_same)⟩

abbrev sCp : Stmt := top 58
abbrev nCp : List Str := ["inputs", "gates", "outs", "terms", "argument", "names"]
theorem scCp : FnScope nCp ["inputs", "gates", "outs", "terms"] (defScope sCp) := ⟨rfl, rfl, rfl, by decide +kernel, rfl, by decide +kernel, by decide +kernel⟩

theorem ok_Cp (F : Fun K "check_parts" "check_parts" sCp f fd) (CL : Cg P w K mg base 1 "is_list" (spList K)) (C1 : Cg P w K mg base 1 "_check_inputs" (spEXN K)) (C2 : Cg P w K mg base 1 "_check_gates" (spEXN K)) (C3 : Cg P w K mg base 1 "check_terms" (spE1N K)) (C4 : Cg P w K mg base 1 "_check_edges" (spE2X2N K)) (C5 : Cg P w K mg base 4 "_check_ways" (spE3N K)) (T : TxtN mg) : FnG P w K mg base CX0 5 f fd ["inputs", "gates", "outs", "terms"] (spE4N K) := by
  refine FunG.ok F scCp (fun vs H Q E h => ?_) (fun cdv B out s H vs Q E hr hG h => ?_)
  · obtain ⟨x, y, z, u, rfl, _⟩ := h
    rfl
  · obtain ⟨x, y, z, u, rfl, hx, hy, hz, hu, q⟩ := h
    refine ⟨_, (pss_cons (ps_for PassesOwn.never rfl (pi_tup (pe_tup (pa_cons (pv 0) (pa_cons (pv 1) (pa_cons (pv 2) (pa_cons (pv 3) pa_nil)))))) (pg_name (i := 4) scCp.nd rfl (Or.inl rfl)) (pss_one (ps_if (pt_not (pt_val (pe_g CL hr hG (by decide) (by rfl) (pa_cons (pv 4) pa_nil)))) (pss_one (ps_never)) pss_nil)))
      (pss_cons (ps_set (i := 5) scCp.nd rfl (.inl rfl) pe_dnewK)
      (pss_cons (ps_expr (pe_g C1 hr hG (by decide) (by rfl) (pa_cons (pv 0) (pa_cons (pv 5) pa_nil))))
      (pss_cons (ps_expr (pe_g C2 hr hG (by decide) (by rfl) (pa_cons (pv 1) (pa_cons (pv 5) pa_nil))))
      (pss_cons (ps_expr (pe_g C3 hr hG (by decide) (by rfl) (pa_cons (pv 3) pa_nil)))
      (pss_cons (ps_expr (pe_g C4 hr hG (by decide) (by rfl) (pa_cons (pv 1) (pa_cons (pv 2) (pa_cons (pv 5) (pa_cons (pe_callB call_len (by rfl) T.len PySem.boot_len (pa_cons (pv 3) pa_nil)) pa_nil))))))
      (pss_one (ps_expr (pe_g C5 hr hG (by decide) (by rfl) (pa_cons (pv 0) (pa_cons (pv 1) (pa_cons (pv 2) pa_nil)))))))))))), ?_⟩
    refine ⟨_, rfl, _, rfl, _, rfl, _, rfl, (by show 4 ≤ sizeLine; decide), fun t ht => ?_⟩
    have k1 : Same H (upd H t (.tup [x, y, z, u])) := Same.put ht
    have t1 : (upd H t (.tup [x, y, z, u])) t = some (.tup [x, y, z, u]) := upd_same
    generalize upd H t (.tup [x, y, z, u]) = H1 at k1 t1 ⊢
    refine ⟨t, rfl, ⟨_, SqT.of t1⟩, for_it (walk_tup (xs := [x, y, z, u])) (fun _ σ G => Same H1 G ∧ ∃ o4 o5, σ = [some x, some y, some z, some u, o4, o5]) ⟨Same.refl _, none, none, rfl⟩ (fun i σ G _ h => SqT.of (h.1 _ _ t1)) ?_ ?_⟩
    · rintro i v σ G G' hi ⟨kG, o4, o5, rfl⟩ ⟨rfl, hv⟩
      have hm : Emp K H v := by
        match i, hv with
        | 0, hv => cases hv; exact hx
        | 1, hv => cases hv; exact hy
        | 2, hv => cases hv; exact hz
        | 3, hv => cases hv; exact hu
      obtain ⟨a, rfl, ha⟩ := hm.up (Same.tr k1 kG)
      obtain ⟨k, vk, hk⟩ := vk_seqA ha
      refine ⟨_, rfl, _, k, rfl, vk, fun H2 k2 => ⟨_, rfl, ?_⟩⟩
      rw [hk]
      exact iteF ⟨Same.tr kG k2, _, _, rfl⟩
    · rintro σ G ⟨kG, o4, o5, rfl⟩
      have kk := Same.tr k1 kG
      refine fun d hd => ?_
      have k2 := Same.tr kk (Same.put (o := .dK []) hd)
      refine ⟨_, rfl, _, rfl, x, _, rfl, hx.up k2, ?_⟩
      refine ⟨_, rfl, _, rfl, y, _, rfl, hy.up k2, ?_⟩
      refine ⟨_, rfl, u, rfl, hu.up k2, ?_⟩
      obtain ⟨ua, rfl, hua⟩ := hu
      refine ⟨_, rfl, _, rfl, _, rfl, _, rfl, _, _, rfl, lenA (hua.up k2), y, z, _, _, rfl, hy.up k2, hz.up k2, ?_⟩
      exact ⟨_, rfl, _, rfl, _, rfl, x, y, z, rfl, hx.up k2, hy.up k2, hz.up k2, fun H3 k3 => q _ (Same.tr k2 k3)⟩

theorem SqA.kp {K : PySem.W.Frag} {p C dx a : Addr} {H H' : Hp} {xs : List V} {fs : List (Str × V)} (k : Keep p H H') (hp : H p = some (.ins C dx fs)) (h : SqA K H a xs) : SqA K H' a xs := by
  have ne : ∀ {o : HO}, H a = some o → (∀ C dx fs, o ≠ .ins C dx fs) → a ≠ p := fun {o} e hn z => by
    rw [z, hp] at e
    exact hn _ _ _ (Option.some.inj e).symm
  rcases h with h | h
  · rcases h with (h | ⟨o, h⟩) | h
    · exact .inl (.inl (.inl (k _ _ (ne h (fun _ _ _ z => by cases z)) h)))
    · exact .inl (.inl (.inr ⟨o, k _ _ (ne h (fun _ _ _ z => by cases z)) h⟩))
    · exact .inl (.inr h)
  · rcases h with (h | ⟨o, h⟩) | h
    · exact .inr (.inl (.inl (k _ _ (ne h (fun _ _ _ z => by cases z)) h)))
    · exact .inr (.inl (.inr ⟨o, k _ _ (ne h (fun _ _ _ z => by cases z)) h⟩))
    · exact .inr (.inr h)
theorem Emp.kp {K : PySem.W.Frag} {p C dx : Addr} {H H' : Hp} {x : V} {fs : List (Str × V)} (k : Keep p H H') (hp : H p = some (.ins C dx fs)) (h : Emp K H x) : Emp K H' x := let ⟨a, e, q⟩ := h; ⟨a, e, SqA.kp k hp q⟩
structure TxtNt (K : PySem.W.Frag) (C : Addr) : Prop where
  cl : Cls K C
  no : ∀ f ∈ (["_terms", "_inputs", "_names", "_symbols", "_edges", "_outs"] : List Str), NoAttr K C f
/-- Net(x, y, z, t) of empty ones -/
def spNt (K : PySem.W.Frag) (C : Addr) : Sp := fun vs H Q _ => ∃ p dx x y z u, vs = [.ref p, x, y, z, u] ∧ H p = some (.ins C dx []) ∧ Emp K H x ∧ Emp K H y ∧ Emp K H z ∧ Emp K H u ∧ ∀ H' fs, H' p = some (.ins C dx fs) → Keep p H H' → Q .non H'

abbrev sNi : Stmt := inClass (top 68) 0
abbrev nNi : List Str := ["self", "inputs", "gates", "outs", "terms", "table", "numbers", "starts", "kept", "places", "moved", "start", "name", "_", "symbol", "edges"]
theorem scNi : FnScope nNi ["self", "inputs", "gates", "outs", "terms"] (defScope sNi) := ⟨rfl, rfl, rfl, by decide +kernel, rfl, by decide +kernel, by decide +kernel⟩

theorem ok_Ni {C : Addr} {dvs : List V} (F : FunD K "__init__" "Net.__init__" (defArgs sNi) (defBody sNi) (defScope sNi) dvs [] f fd) {CT : Addr} (T : TxtNt K C) (TN : TxtN mg) (CP : Cg P w K mg base 5 "check_parts" (spE4N K)) (CM : Cm P w K mg base 1 "TermTable" CT [] (spTt CT)) (CE : Ct P w K mg base 1 CT "enter_terms" [] (spTe K)) (CU : Ct P w K mg base 1 CT "used" [] (spTu K)) (CA : Cg P w K mg base 2 "all_starts" (spE2L K)) (CK : Cg P w K mg base 1 "_kept_edges" (spEXL K)) : FnG P w K mg base CX0 6 f fd ["self", "inputs", "gates", "outs", "terms"] (spNt K C) := by
  refine FunDG.ok F scNi (fun vs H Q E h => ?_) (fun cdv B out s H vs Q E hr hG h => ?_)
  · obtain ⟨p, dx, x, y, z, u, rfl, _⟩ := h
    rfl
  · obtain ⟨p, dx, x, y, z, u, rfl, hp, hx, hy, hz, hu, q⟩ := h
    refine ⟨_, (pss_cons (ps_expr (pe_g CP hr hG (by decide) (by rfl) (pa_cons (pv 1) (pa_cons (pv 2) (pa_cons (pv 3) (pa_cons (pv 4) pa_nil))))))
      (pss_cons (ps_set (i := 5) scNi.nd rfl (.inl rfl) (pe_cm0 CM hr hG (by decide) (by rfl)))
      (pss_cons (ps_set (i := 6) scNi.nd rfl (.inr rfl) (pe_ct (pv 5) CE hr hG (by decide) (pa_cons (pv 4) pa_nil)))
      (pss_cons (ps_set (i := 7) scNi.nd rfl (.inl rfl) (pe_g CA hr hG (by decide) (by rfl) (pa_cons (pv 2) (pa_cons (pv 3) pa_nil))))
      (pss_cons (ps_asg (pe_ct (pv 5) CU hr hG (by decide) (pa_cons (pe_lc (own := [("start", 11)]) (g := gNev) (tt := tNevT) (te := tNev) rfl scNi.nd (pi_list (pv 7)) (blkOk_by (N := nNi) (sc := defScope sNi) (by decide +kernel)) (fun _ _ _ _ _ => pg_never) (fun _ _ _ _ _ => pts_never) (fun _ _ _ _ _ => pe_never)) pa_nil)) (pg_tup rfl (pgs_cons (pg_name (i := 8) scNi.nd rfl (Or.inl rfl)) (pgs_cons (pg_name (i := 9) scNi.nd rfl (Or.inr rfl)) pgs_nil))))
      (pss_cons (ps_set (i := 10) scNi.nd rfl (.inr rfl) (pe_dc (own := [("start", 11)]) (g := gNev) (tt := tNevT) (tk := tNev) (tv := tNev) rfl scNi.nd (pi_list (pv 7)) (blkOk_by (N := nNi) (sc := defScope sNi) (by decide +kernel)) (fun _ _ _ _ _ => pg_never) (fun _ _ _ _ _ => pts_never) (fun _ _ _ _ _ => pe_never) (fun _ _ _ _ _ => pe_never)))
      (pss_cons (ps_fld (pv 0) (pv 8) rfl)
      (pss_cons (ps_fld (pv 0) (pe_callTy call_list_of (by rfl) TN.list (by decide +kernel) (pa_cons (pv 1) pa_nil)) rfl)
      (pss_cons (ps_fld (pv 0) (pe_lc (own := [("name", 12), ("_", 13)]) (g := gNev) (tt := tNevT) (te := tNev) rfl scNi.nd (pi_seq (pv 2)) (blkOk_by (N := nNi) (sc := defScope sNi) (by decide +kernel)) (fun _ _ _ _ _ => pg_never) (fun _ _ _ _ _ => pts_never) (fun _ _ _ _ _ => pe_never)) rfl)
      (pss_cons (ps_fld (pv 0) (pe_dc (own := [("name", 12), ("symbol", 14), ("_", 13)]) (g := gNev) (tt := tNevT) (tk := tNev) (tv := tNev) rfl scNi.nd (pi_seq (pv 2)) (blkOk_by (N := nNi) (sc := defScope sNi) (by decide +kernel)) (fun _ _ _ _ _ => pg_never) (fun _ _ _ _ _ => pts_never) (fun _ _ _ _ _ => pe_never) (fun _ _ _ _ _ => pe_never)) rfl)
      (pss_cons (ps_fld (pv 0) (pe_dc (own := [("name", 12), ("_", 13), ("edges", 15)]) (g := gNev) (tt := tNevT) (tk := tNev) (tv := tNev) rfl scNi.nd (pi_seq (pv 2)) (blkOk_by (N := nNi) (sc := defScope sNi) (by decide +kernel)) (fun _ _ _ _ _ => pg_never) (fun _ _ _ _ _ => pts_never) (fun _ _ _ _ _ => pe_never) (fun _ _ _ _ _ => pe_never)) rfl)
      (pss_one (ps_fld (pv 0) (pe_g CK hr hG (by decide) (by rfl) (pa_cons (pv 3) (pa_cons (pv 10) pa_nil))) rfl))))))))))))), ?_⟩
    have nf : ∀ f ∈ (["_terms", "_inputs", "_names", "_symbols", "_edges", "_outs"] : List Str), NoAttr K C f := T.no
    refine ⟨_, rfl, _, rfl, _, rfl, _, rfl, x, y, z, u, rfl, hx, hy, hz, hu, fun H1 k1 => ?_⟩
    refine fun pt dt nb ndx nex => ⟨pt, dt, rfl, upd_same, fun H2 ta tb h2 kb => ⟨rfl, ?_⟩⟩
    have k2 : Same H1 H2 := Same.made nb ndx (fun b o e hb => kb b o hb e)
    have k12 := Same.tr k1 k2
    refine ⟨_, rfl, pt, dt, _, rfl, h2, rfl, _, rfl, _, _, rfl, hu.up k12, fun nl H3 k3 h3 => ?_⟩
    have k13 := Same.tr k12 k3
    refine ⟨_, rfl, _, rfl, y, z, rfl, hy.up k13, hz.up k13, fun sl H4 k4 h4 => ?_⟩
    have k14 := Same.tr k13 k4
    refine ⟨_, rfl, pt, dt, _, rfl, k4 _ _ (k3 _ _ h2), rfl, _, rfl, sl, rfl, ⟨[], SqL.of h4⟩, fun D hD => lc_no (walk_list (xs := [])) (SqL.of (Same.put hD _ _ h4)) ?_⟩
    have k5 : Same H4 (upd H4 D (.lst [])) := Same.put hD
    refine ⟨_, _, rfl, emp_of upd_same, fun t l d H6 k6 t6 l6 d6 => ?_⟩
    have k46 := Same.tr k5 k6
    have k16 := Same.tr k14 k46
    refine ⟨t, _, rfl, SqT.of t6, rfl, _, _, rfl, _, _, rfl, rfl, ?_⟩
    have h6 := k46 _ _ h4
    refine ⟨_, rfl, sl, rfl, ⟨[], SqL.of h6⟩, fun D2 hD2 => dc_no (walk_list (xs := [])) (SqL.of (Same.put hD2 _ _ h6)) ?_⟩
    have k7 : Same H6 (upd H6 D2 (.dK [])) := Same.put hD2
    have k17 := Same.tr k16 k7
    have hp7 := k17 _ _ hp
    have kp : Keep p H (upd H6 D2 (.dK [])) := Keep.of k17
    generalize upd H6 D2 (.dK []) = G at k7 k17 hp7 kp ⊢
    -- the fields
    refine ⟨_, rfl, _, rfl, p, C, dx, _, rfl, hp7, T.cl, nf _ (by simp), by show 0 < 1000; decide, ?_⟩
    have kp1 : Keep p H (upd G p (.ins C dx (putF "_terms" (.ref l) []))) := kp.trans Keep.put
    have hp1 : (upd G p (.ins C dx (putF "_terms" (.ref l) []))) p = some (.ins C dx (putF "_terms" (.ref l) [])) := upd_same
    have z1 := L2.length_putF "_terms" (V.ref l) []
    generalize upd G p (.ins C dx (putF "_terms" (V.ref l) [])) = G1 at kp1 hp1 ⊢
    generalize putF "_terms" (V.ref l) [] = f1 at hp1 z1
    obtain ⟨xa, rfl, hxa⟩ := hx
    obtain ⟨ya, rfl, hya⟩ := hy
    obtain ⟨za, rfl, hza⟩ := hz
    refine ⟨_, rfl, xa, [], rfl, SqA.kp kp1 hp hxa, fun l2 e2 => ?_⟩
    refine ⟨_, rfl, p, C, dx, _, rfl, (upd_ne (ne_of_none hp1 e2)).trans hp1, T.cl, nf _ (by simp), by simp at z1; omega, ?_⟩
    have kp2 : Keep p H (upd (upd G1 l2 (.lst [])) p (.ins C dx (putF "_inputs" (.ref l2) f1))) := kp1.trans ((Keep.new e2).trans Keep.put)
    have hp2 : (upd (upd G1 l2 (.lst [])) p (.ins C dx (putF "_inputs" (.ref l2) f1))) p = some (.ins C dx (putF "_inputs" (.ref l2) f1)) := upd_same
    have z2 := L2.length_putF "_inputs" (V.ref l2) f1
    generalize upd (upd G1 l2 (.lst [])) p (.ins C dx (putF "_inputs" (V.ref l2) f1)) = G2 at kp2 hp2 ⊢
    generalize putF "_inputs" (V.ref l2) f1 = f2 at hp2 z2
    have gy2 := SqA.kp kp2 hp hya
    refine ⟨_, rfl, ya, rfl, seq_it gy2 fun J wk => fun l3 e3 => lc_no wk (Same.put e3) ?_⟩
    refine ⟨_, rfl, p, C, dx, _, rfl, (upd_ne (ne_of_none hp2 e3)).trans hp2, T.cl, nf _ (by simp), by simp at z1; omega, ?_⟩
    have kp3 : Keep p H (upd (upd G2 l3 (.lst [])) p (.ins C dx (putF "_names" (.ref l3) f2))) := kp2.trans ((Keep.new e3).trans Keep.put)
    have hp3 : (upd (upd G2 l3 (.lst [])) p (.ins C dx (putF "_names" (.ref l3) f2))) p = some (.ins C dx (putF "_names" (.ref l3) f2)) := upd_same
    have z3 := L2.length_putF "_names" (V.ref l3) f2
    generalize upd (upd G2 l3 (.lst [])) p (.ins C dx (putF "_names" (V.ref l3) f2)) = G3 at kp3 hp3 ⊢
    generalize putF "_names" (V.ref l3) f2 = f3 at hp3 z3
    have gy3 := SqA.kp kp3 hp hya
    refine ⟨_, rfl, ya, rfl, seq_it gy3 fun J wk => fun l4 e4 => dc_no wk (Same.put e4) ?_⟩
    refine ⟨_, rfl, p, C, dx, _, rfl, (upd_ne (ne_of_none hp3 e4)).trans hp3, T.cl, nf _ (by simp), by simp at z1; omega, ?_⟩
    have kp4 : Keep p H (upd (upd G3 l4 (.dK [])) p (.ins C dx (putF "_symbols" (.ref l4) f3))) := kp3.trans ((Keep.new e4).trans Keep.put)
    have hp4 : (upd (upd G3 l4 (.dK [])) p (.ins C dx (putF "_symbols" (.ref l4) f3))) p = some (.ins C dx (putF "_symbols" (.ref l4) f3)) := upd_same
    have z4 := L2.length_putF "_symbols" (V.ref l4) f3
    generalize upd (upd G3 l4 (.dK [])) p (.ins C dx (putF "_symbols" (V.ref l4) f3)) = G4 at kp4 hp4 ⊢
    generalize putF "_symbols" (V.ref l4) f3 = f4 at hp4 z4
    have gy4 := SqA.kp kp4 hp hya
    refine ⟨_, rfl, ya, rfl, seq_it gy4 fun J wk => fun l5 e5 => dc_no wk (Same.put e5) ?_⟩
    refine ⟨_, rfl, p, C, dx, _, rfl, (upd_ne (ne_of_none hp4 e5)).trans hp4, T.cl, nf _ (by simp), by simp at z1; omega, ?_⟩
    have kp5 : Keep p H (upd (upd G4 l5 (.dK [])) p (.ins C dx (putF "_edges" (.ref l5) f4))) := kp4.trans ((Keep.new e5).trans Keep.put)
    have hp5 : (upd (upd G4 l5 (.dK [])) p (.ins C dx (putF "_edges" (.ref l5) f4))) p = some (.ins C dx (putF "_edges" (.ref l5) f4)) := upd_same
    have z5 := L2.length_putF "_edges" (V.ref l5) f4
    generalize upd (upd G4 l5 (.dK [])) p (.ins C dx (putF "_edges" (V.ref l5) f4)) = G5 at kp5 hp5 ⊢
    generalize putF "_edges" (V.ref l5) f4 = f5 at hp5 z5
    refine ⟨_, rfl, _, rfl, _, _, rfl, ⟨za, rfl, SqA.kp kp5 hp hza⟩, fun l6 G6 k6' e6 => ?_⟩
    refine ⟨_, rfl, p, C, dx, _, rfl, k6' _ _ hp5, T.cl, nf _ (by simp), by simp at z1; omega, ?_⟩
    exact q _ _ upd_same (kp5.trans ((Keep.of k6').trans Keep.put))

end
end T02
set_option Elab.async false
set_option linter.all false
set_option maxRecDepth 100000
set_option maxHeartbeats 4000000
namespace T02
open PySem PySem.Spec PyProof.Rows L2 Tp
section
variable {P : Program} {w : World} {K : PySem.W.Frag} {mg : Str → Option Value} {base : Heap} {f : Addr} {fd : FuncData}
structure TxtBk (K : PySem.W.Frag) (C : Addr) : Prop where
  cl : Cls K C
  no : ∀ f ∈ (["_rows", "_numbers", "_sizes", "_depths", "_lengths"] : List Str), NoAttr K C f
/-- Book(rows) of no rows -/
def spB0 (K : PySem.W.Frag) (C : Addr) : Sp := fun vs H Q _ => ∃ p dx x, vs = [.ref p, x] ∧ H p = some (.ins C dx []) ∧ Emp K H x ∧ ∀ H' fs, H' p = some (.ins C dx fs) → Keep p H H' → Q .non H'

abbrev sB0 : Stmt := inClass (top 40) 0
abbrev nB0 : List Str := ["self", "rows", "item"]
theorem scB0 : FnScope nB0 ["self", "rows"] (defScope sB0) := ⟨rfl, rfl, rfl, by decide +kernel, rfl, by decide +kernel, by decide +kernel⟩

theorem ok_B0 {C : Addr} {dvs : List V} (F : FunD K "__init__" "Book.__init__" (defArgs sB0) (defBody sB0) (defScope sB0) dvs [] f fd) (T : TxtBk K C) (CL : Cg P w K mg base 1 "is_list" (spList K)) : FnG P w K mg base CX0 2 f fd ["self", "rows"] (spB0 K C) := by
  refine FunDG.ok F scB0 (fun vs H Q E h => ?_) (fun cdv B out s H vs Q E hr hG h => ?_)
  · obtain ⟨p, dx, x, rfl, _⟩ := h
    rfl
  · obtain ⟨p, dx, x, rfl, hp, hx, q⟩ := h
    refine ⟨_, (pss_cons (ps_fld (pv 0) (pe_lst pa_nil) rfl)
      (pss_cons (ps_fld (pv 0) pe_dnewK rfl)
      (pss_cons (ps_fld (pv 0) (pe_lst pa_nil) rfl)
      (pss_cons (ps_fld (pv 0) (pe_lst pa_nil) rfl)
      (pss_cons (ps_fld (pv 0) (pe_lst pa_nil) rfl)
      (pss_cons (ps_if (pt_not (pt_val (pe_g CL hr hG (by decide) (by rfl) (pa_cons (pv 1) pa_nil)))) (pss_one (ps_never)) pss_nil)
      (pss_one (ps_for PassesOwn.never rfl (pi_seq (pv 1)) (pg_name (i := 2) scB0.nd rfl (Or.inl rfl)) pss_never)))))))), ?_⟩
    obtain ⟨f0, rfl⟩ : ∃ f0 : List (Str × V), f0 = [] := ⟨_, rfl⟩
    have kp0 : Keep p H H := Keep.refl _ _
    have hp0 := hp
    have z0 : ([] : List (Str × V)).length ≤ 0 := Nat.le_refl _
    obtain ⟨G0, hG0⟩ : ∃ G0, G0 = H := ⟨_, rfl⟩
    rw [← hG0]
    rw [← hG0] at hp0
    have kp0 : Keep p H G0 := by rw [hG0]; exact Keep.refl _ _
    generalize ([] : List (Str × V)) = f0 at hp0 z0
    refine ⟨(by show 0 ≤ sizeLine; decide), fun l1 e1 => ?_⟩
    refine ⟨_, rfl, p, C, dx, _, rfl, (upd_ne (ne_of_none hp0 e1)).trans hp0, T.cl, T.no _ (by simp), by omega, ?_⟩
    have kp1 : Keep p H (upd (upd G0 l1 (.lst [])) p (.ins C dx (putF "_rows" (.ref l1) f0))) := kp0.trans ((Keep.new e1).trans Keep.put)
    have hp1 : (upd (upd G0 l1 (.lst [])) p (.ins C dx (putF "_rows" (.ref l1) f0))) p = some (.ins C dx (putF "_rows" (.ref l1) f0)) := upd_same
    have z1 := L2.length_putF "_rows" (V.ref l1) f0
    generalize upd (upd G0 l1 (.lst [])) p (.ins C dx (putF "_rows" (V.ref l1) f0)) = G1 at kp1 hp1 ⊢
    generalize putF "_rows" (V.ref l1) f0 = f1 at hp1 z1
    refine  fun l2 e2 => ?_
    refine ⟨_, rfl, p, C, dx, _, rfl, (upd_ne (ne_of_none hp1 e2)).trans hp1, T.cl, T.no _ (by simp), by omega, ?_⟩
    have kp2 : Keep p H (upd (upd G1 l2 (.dK [])) p (.ins C dx (putF "_numbers" (.ref l2) f1))) := kp1.trans ((Keep.new e2).trans Keep.put)
    have hp2 : (upd (upd G1 l2 (.dK [])) p (.ins C dx (putF "_numbers" (.ref l2) f1))) p = some (.ins C dx (putF "_numbers" (.ref l2) f1)) := upd_same
    have z2 := L2.length_putF "_numbers" (V.ref l2) f1
    generalize upd (upd G1 l2 (.dK [])) p (.ins C dx (putF "_numbers" (V.ref l2) f1)) = G2 at kp2 hp2 ⊢
    generalize putF "_numbers" (V.ref l2) f1 = f2 at hp2 z2
    refine ⟨(by show 0 ≤ sizeLine; decide), fun l3 e3 => ?_⟩
    refine ⟨_, rfl, p, C, dx, _, rfl, (upd_ne (ne_of_none hp2 e3)).trans hp2, T.cl, T.no _ (by simp), by omega, ?_⟩
    have kp3 : Keep p H (upd (upd G2 l3 (.lst [])) p (.ins C dx (putF "_sizes" (.ref l3) f2))) := kp2.trans ((Keep.new e3).trans Keep.put)
    have hp3 : (upd (upd G2 l3 (.lst [])) p (.ins C dx (putF "_sizes" (.ref l3) f2))) p = some (.ins C dx (putF "_sizes" (.ref l3) f2)) := upd_same
    have z3 := L2.length_putF "_sizes" (V.ref l3) f2
    generalize upd (upd G2 l3 (.lst [])) p (.ins C dx (putF "_sizes" (V.ref l3) f2)) = G3 at kp3 hp3 ⊢
    generalize putF "_sizes" (V.ref l3) f2 = f3 at hp3 z3
    refine ⟨(by show 0 ≤ sizeLine; decide), fun l4 e4 => ?_⟩
    refine ⟨_, rfl, p, C, dx, _, rfl, (upd_ne (ne_of_none hp3 e4)).trans hp3, T.cl, T.no _ (by simp), by omega, ?_⟩
    have kp4 : Keep p H (upd (upd G3 l4 (.lst [])) p (.ins C dx (putF "_depths" (.ref l4) f3))) := kp3.trans ((Keep.new e4).trans Keep.put)
    have hp4 : (upd (upd G3 l4 (.lst [])) p (.ins C dx (putF "_depths" (.ref l4) f3))) p = some (.ins C dx (putF "_depths" (.ref l4) f3)) := upd_same
    have z4 := L2.length_putF "_depths" (V.ref l4) f3
    generalize upd (upd G3 l4 (.lst [])) p (.ins C dx (putF "_depths" (V.ref l4) f3)) = G4 at kp4 hp4 ⊢
    generalize putF "_depths" (V.ref l4) f3 = f4 at hp4 z4
    refine ⟨(by show 0 ≤ sizeLine; decide), fun l5 e5 => ?_⟩
    refine ⟨_, rfl, p, C, dx, _, rfl, (upd_ne (ne_of_none hp4 e5)).trans hp4, T.cl, T.no _ (by simp), by omega, ?_⟩
    have kp5 : Keep p H (upd (upd G4 l5 (.lst [])) p (.ins C dx (putF "_lengths" (.ref l5) f4))) := kp4.trans ((Keep.new e5).trans Keep.put)
    have hp5 : (upd (upd G4 l5 (.lst [])) p (.ins C dx (putF "_lengths" (.ref l5) f4))) p = some (.ins C dx (putF "_lengths" (.ref l5) f4)) := upd_same
    have z5 := L2.length_putF "_lengths" (V.ref l5) f4
    generalize upd (upd G4 l5 (.lst [])) p (.ins C dx (putF "_lengths" (V.ref l5) f4)) = G5 at kp5 hp5 ⊢
    generalize putF "_lengths" (V.ref l5) f4 = f5 at hp5 z5
    obtain ⟨xa, rfl, hxa⟩ := hx
    have g5 := SqA.kp kp5 hp hxa
    obtain ⟨k, vk, hk⟩ := vk_seqA g5
    refine ⟨_, rfl, _, k, rfl, vk, fun H6 k6 => ⟨_, rfl, ?_⟩⟩
    rw [hk]
    refine iteF ⟨_, rfl, xa, rfl, seq_it (g5.up k6) fun J wk => for_no wk (Same.refl _) ?_⟩
    exact q _ _ (k6 _ _ hp5) (kp5.trans (Keep.of k6))

end
end T02
set_option Elab.async false
set_option linter.all false
set_option maxRecDepth 100000
set_option maxHeartbeats 4000000
/-! more on data whose repr fits; equality with an empty list -/
namespace Tp
open PySem PySem.Spec PyProof.Rows L2
theorem nice_small {i : Int} {k : Nat} (h : i.natAbs < 2 ^ k) (hk : k ≤ 999) : Nice k 0 (.int i) := by
  have hl : i.natAbs.log2 < 1000 ∧ (¬ i = 0 → i.natAbs.log2 < k) := by
    by_cases z : i.natAbs = 0
    · have : i = 0 := by omega
      subst this
      exact ⟨by decide, fun e => absurd rfl e⟩
    · have := (Nat.log2_lt z).mpr h
      exact ⟨by omega, fun _ => this⟩
  have n := nice_int hl.1
  refine ⟨n.sh, n.ls, ?_, n.dp⟩
  simp only [PyData.weight]
  split
  · omega
  · rename_i hz
    have := hl.2 (by simpa using hz)
    omega
theorem NiceAll.app {n m k j : Nat} : ∀ {ds es : List PyData}, NiceAll n k ds → NiceAll m j es → NiceAll (n + m) (max k j) (ds ++ es)
  | [], es, _, h => h.mono (by omega) (by omega)
  | d :: ds, es, h1, h2 => by
    obtain ⟨a, b, c, e⟩ := h1
    obtain ⟨a', b', c', e'⟩ := h2
    simp only [PyData.showableAll, Bool.and_eq_true] at a
    simp only [PyData.leavesShortAll, Bool.and_eq_true] at b
    simp only [PyData.weightAll] at c
    simp only [PyData.depthAll] at e
    have ih := NiceAll.app (n := PyData.weightAll ds) (k := PyData.depthAll ds) (ds := ds) ⟨a.2, b.2, Nat.le_refl _, Nat.le_refl _⟩ ⟨a', b', c', e'⟩
    refine ⟨?_, ?_, ?_, ?_⟩
    · simp only [List.cons_append, PyData.showableAll, a.1, ih.sh, Bool.and_self]
    · simp only [List.cons_append, PyData.leavesShortAll, b.1, ih.ls, Bool.and_self]
    · have := ih.wt
      simp only [List.cons_append, PyData.weightAll]
      omega
    · have := ih.dp
      simp only [List.cons_append, PyData.depthAll]
      omega
theorem niceAll_of {n k : Nat} : ∀ {ds : List PyData}, (∀ d ∈ ds, Nice n k d) → NiceAll (ds.length * (n + 1)) k ds
  | [], _ => niceAll_nil.mono (by omega) (by omega)
  | d :: ds, h => (NiceAll.cons (h d List.mem_cons_self) (niceAll_of (ds := ds) fun x hx => h x (List.mem_cons_of_mem _ hx))).mono (by rw [List.length_cons, Nat.succ_mul]; omega) (by omega)
theorem niceAll_bools : ∀ (bs : List Bool), NiceAll bs.length 0 (bs.map PyData.bool)
  | [] => niceAll_nil
  | b :: bs => (NiceAll.cons (nice_bool b) (niceAll_bools bs)).mono (by rw [List.length_cons]; omega) (by omega)
theorem ddAll_bools {K : PySem.W.Frag} {H : Hp} : ∀ (bs : List Bool), DdAll K H (bs.map V.bl) (bs.map PyData.bool)
  | [] => .nil
  | b :: bs => .cons (.bl b) (ddAll_bools bs)
theorem ddAll_strs {K : PySem.W.Frag} {H : Hp} : ∀ (bs : List Str), DdAll K H (bs.map V.str) (bs.map PyData.str)
  | [] => .nil
  | b :: bs => .cons (.str b) (ddAll_strs bs)
/-- repr(x), x data -/
theorem rReprD_of {K : PySem.W.Frag} {H : Hp} {a : Addr} {d : PyData} {n k : Nat} {Q : VK} (h : Dd K H (.ref a) d) (hn : Nice n k d) (h1 : n ≤ 8000) (h2 : k ≤ 60) (q : Q (.str d.shown) H) : rReprD K [.ref a] H Q :=
  ⟨a, d, rfl, h, hn.sh, Nat.le_trans hn.dp h2, hn.fits h1, q⟩
theorem NiceAll.mem {n k : Nat} : ∀ {ds : List PyData}, NiceAll n k ds → ∀ d ∈ ds, Nice n k d
  | d :: ds, h, x, hx => by
    obtain ⟨a, b, c, e⟩ := h
    simp only [PyData.showableAll, Bool.and_eq_true] at a
    simp only [PyData.leavesShortAll, Bool.and_eq_true] at b
    simp only [PyData.weightAll] at c
    simp only [PyData.depthAll] at e
    rcases List.mem_cons.mp hx with z | z
    · subst z
      exact ⟨a.1, b.1, by omega, by omega⟩
    · exact NiceAll.mem (ds := ds) (n := n) (k := k) ⟨a.2, b.2, by omega, by omega⟩ x z
theorem NiceAll.set {n k m j : Nat} {d : PyData} (hd : Nice m j d) : ∀ {ds : List PyData} {i : Nat}, NiceAll n k ds → NiceAll (n + m) (max k j) (ds.set i d)
  | [], i, h => h.mono (by omega) (by omega)
  | x :: ds, 0, h => by
    obtain ⟨a, b, c, e⟩ := h
    simp only [PyData.showableAll, Bool.and_eq_true] at a
    simp only [PyData.leavesShortAll, Bool.and_eq_true] at b
    simp only [PyData.weightAll] at c
    simp only [PyData.depthAll] at e
    exact (NiceAll.cons hd (m := PyData.weightAll ds) (j := PyData.depthAll ds) ⟨a.2, b.2, Nat.le_refl _, Nat.le_refl _⟩).mono (by omega) (by omega)
  | x :: ds, i + 1, h => by
    obtain ⟨a, b, c, e⟩ := h
    simp only [PyData.showableAll, Bool.and_eq_true] at a
    simp only [PyData.leavesShortAll, Bool.and_eq_true] at b
    simp only [PyData.weightAll] at c
    simp only [PyData.depthAll] at e
    have ih := NiceAll.set hd (ds := ds) (i := i) (n := PyData.weightAll ds) (k := PyData.depthAll ds) ⟨a.2, b.2, Nat.le_refl _, Nat.le_refl _⟩
    exact (NiceAll.cons (d := x) ⟨a.1, b.1, Nat.le_refl _, Nat.le_refl _⟩ ih).mono (by omega) (by omega)
/-! a short text lies in a light datum -/
mutual
theorem short_of_weight : ∀ (d : PyData), d.weight ≤ 5000 → shortD d = true
  | .none, _ => rfl
  | .bool _, _ => rfl
  | .int _, _ => rfl
  | .dict _, _ => rfl
  | .str z, h => by
    simp only [shortD]
    refine decide_eq_true ?_
    simp only [PyData.weight] at h
    exact h
  | .list ds, h => by
    simp only [PyData.weight] at h
    simp only [shortD]
    exact short_of_weightAll ds h
  | .tuple ds, h => by
    simp only [PyData.weight] at h
    simp only [shortD]
    exact short_of_weightAll ds h
theorem short_of_weightAll : ∀ (ds : List PyData), PyData.weightAll ds ≤ 5000 → shortAll ds = true
  | [], _ => rfl
  | d :: ds, h => by
    simp only [PyData.weightAll] at h
    simp only [shortAll, Bool.and_eq_true]
    exact ⟨short_of_weight d (by omega), short_of_weightAll ds (by omega)⟩
end
theorem len_of_weight : ∀ (ds : List PyData), ds.length ≤ PyData.weightAll ds
  | [] => Nat.le_refl _
  | d :: ds => by
    have := len_of_weight ds
    simp only [PyData.weightAll, List.length_cons]
    omega
theorem eqv_nil (ds : List PyData) : PyData.eqv (.list ds) (.list []) = ds.isEmpty := by
  cases ds <;> simp [PyData.eqv, PyData.eqvAll]
theorem canLay_strs : ∀ (ys : List Str), (∀ y ∈ ys, ∀ c ∈ TL.tl y, c < 256) → PyData.canLayAll0 (ys.map PyData.str) = true
  | [], _ => rfl
  | y :: ys, h => by
    simp only [List.map_cons, PyData.canLayAll0, Bool.and_eq_true]
    refine ⟨?_, canLay_strs ys fun z hz => h z (List.mem_cons_of_mem _ hz)⟩
    simp only [PyData.canLay0, PyData.strOk]
    rw [← Array.all_toList]
    exact List.all_eq_true.mpr fun c hc => decide_eq_true (Nat.lt_trans (h y List.mem_cons_self c hc) (by decide))
theorem depth_strs : ∀ (ys : List Str), PyData.depthAll (ys.map PyData.str) = 0
  | [] => rfl
  | y :: ys => by
    simp only [List.map_cons, PyData.depthAll, PyData.depth, depth_strs ys]
    rfl
theorem shaped_strs {ys : List Str} (h : ∀ y ∈ ys, ∀ c ∈ TL.tl y, c < 256) : SeqAt.shaped (.list (ys.map PyData.str)) = true := by
  unfold SeqAt.shaped
  rw [Bool.and_eq_true]
  refine ⟨by simpa only [PyData.canLay0] using canLay_strs ys h, decide_eq_true ?_⟩
  simp only [PyData.depth, depth_strs]
  decide
end Tp
set_option Elab.async false
set_option linter.all false
set_option maxRecDepth 100000
set_option maxHeartbeats 4000000
namespace T02
open PySem PySem.Spec PyProof.Rows L2 Tp
structure TxtL (mg : Str → Option Value) : Prop where
  range : mg "range" = none
  len : mg "len" = none
  max : mg "max" = none
  min : mg "min" = none
  isinstance : mg "isinstance" = none
  str : mg "str" = none
  int : mg "int" = none
  bool : mg "bool" = none
  list : mg "list" = none
  tuple : mg "tuple" = none
  repr : mg "repr" = none
  enumerate : mg "enumerate" = none
theorem tz_nil : Tz 0 ("" : Str) := ⟨by decide +kernel, fun c hc => by rw [show TL.tl ("" : Str) = [] from by decide +kernel] at hc; exact absurd hc List.not_mem_nil⟩
def rLenK (K : PySem.W.Frag) : List V → Hp → VK → Prop := fun xs H Q => ∃ x n, xs = [x] ∧ LenV K x H n ∧ Q (.int (n : Nat)) H
theorem call_lenK {X : Cx} {K : PySem.W.Frag} (h : X.K = K) : CallR X (.builtin "len") (rLenK K) := by
  subst h
  exact call_len
theorem small_log {m : Int} (h0 : 0 ≤ m) (h : m ≤ 100000) : m.natAbs.log2 < 1000 := by
  have := Nat.log2_le_self m.natAbs
  by_cases z : m.natAbs = 0
  · rw [z]; decide
  · exact Nat.lt_of_lt_of_le ((Nat.log2_lt z).mpr (show m.natAbs < 2 ^ 20 by omega)) (by decide)
section
variable {P : Program} {w : World} {K : PySem.W.Frag} {mg : Str → Option Value} {base : Heap} {f : Addr} {fd : FuncData}

/-- a drawn word -/
def spWord : Sp := fun vs H Q _ => ∃ (p : Addr) (n : Nat) (L : Int), vs = [.ref p, .int L] ∧ 0 ≤ L ∧ L ≤ 10 ∧ BoxAt H p n ∧ n ≤ 5000 ∧ ∀ z H', Tz 30 z → BoxAt H' p (n + 20) → Keep p H H' → Q (.str z) H'
abbrev let1 : Str := "abcdefghijklmnopqrstuvwxyz0123456789"
theorem tz_let1 : Tz 36 let1 := ⟨by decide +kernel, by decide +kernel⟩
abbrev let2 : Str := " !\"#$&'()*+,-./:;<=>?\x40ABCDEFGHIJKLMNOPQRSTUVWXYZ[]^_`{|}~"
theorem tz_let2 : Tz 57 let2 := ⟨by decide +kernel, by decide +kernel⟩
theorem len_let2 : (let2 ++ ("\n" : Str)).length = (TL.tl let2).length + 1 := by
  rw [TL.len_tl, TL.tl_append, List.length_append]
  rfl

abbrev sWd : Stmt := top 76
abbrev nWd : List Str := ["_law_box_here", "_law_longest", "_law_signs", "_law_word_here", "_law_others", "_law_spot", "_law_k"]
theorem scWd : FnScope nWd ["_law_box_here", "_law_longest"] (defScope sWd) := ⟨rfl, rfl, rfl, by decide +kernel, rfl, by decide +kernel, by decide +kernel⟩

theorem ok_Wd (F : Fun K "_law_word" "_law_word" sWd f fd) (T : TxtL mg) (C : Cg P w K mg base 1 "_law_take" spTake) : FnG P w K mg base CX0 2 f fd ["_law_box_here", "_law_longest"] spWord := by
  refine FunG.ok F scWd (fun vs H Q E h => ?_) (fun cdv B out s H vs Q E hr hG h => ?_)
  · obtain ⟨p, n, L, rfl, _⟩ := h
    rfl
  · obtain ⟨p, n, L, rfl, hL0, hL, hb, hn, q⟩ := h
    refine ⟨_, (pss_cons (ps_set (i := 2) scWd.nd rfl (.inr rfl) pe_str)
      (pss_cons (ps_set (i := 3) scWd.nd rfl (.inl rfl) (pe_join pe_str (pe_lc (own := [("_law_k", 6)]) (g := gName 6) (tt := tYes) rfl scWd.nd (pi_range1 (by rfl) T.range (pa_cons (pe_g C hr hG (by decide) (by rfl) (pa_cons (pv 0) (pa_cons (pe_op op_add (pv 1) pe_int) pa_nil))) pa_nil)) (blkOk_by (N := nWd) (sc := defScope sWd) (by decide +kernel)) (fun _ _ _ _ _ => pg_name (i := 6) scWd.nd rfl (Or.inl rfl)) (fun _ _ _ _ _ => pts_nil) (fun _ _ _ _ _ => (pe_ix ix_str (pv 2) (pe_g C hr hG (by decide) (by rfl) (pa_cons (pv 0) (pa_cons pe_int pa_nil))) fun _ _ => rfl)))))
      (pss_cons (ps_if (PW.pt (pw_or (pt_cmpR op_eq (pv 3) pe_str (nomark _)) (pw_or1 (pt_cmpR op_gt (pe_g C hr hG (by decide) (by rfl) (pa_cons (pv 0) (pa_cons pe_int pa_nil))) pe_int (nomark _))))) (pss_one (ps_ret (pv 3))) pss_nil)
      (pss_cons (ps_set (i := 4) scWd.nd rfl (.inl rfl) (pe_op op_add_str pe_str pe_str))
      (pss_cons (ps_set (i := 5) scWd.nd rfl (.inl rfl) (pe_g C hr hG (by decide) (by rfl) (pa_cons (pv 0) (pa_cons (pe_callB call_len (by rfl) T.len PySem.boot_len (pa_cons (pv 3) pa_nil)) pa_nil))))
      (pss_one (ps_ret (pe_op op_add_str (pe_op op_add_str (pe_slice sl_str (pv 3) po_none (po_some (pv 5))) (pe_ix ix_str (pv 4) (pe_g C hr hG (by decide) (by rfl) (pa_cons (pv 0) (pa_cons (pe_callB call_len (by rfl) T.len PySem.boot_len (pa_cons (pv 4) pa_nil)) pa_nil))) fun _ _ => rfl)) (pe_slice sl_str (pv 3) (po_some (pe_op op_add (pv 5) pe_int)) po_none))))))))), ?_⟩
    have l1 : (TL.tl let1).length = 36 := by decide +kernel
    refine ⟨⟨_, rfl⟩, _, rfl, _, rfl, _, _, rfl, rfl, p, L + 1, n, rfl, hb, by omega, small_log (by omega) (by omega), by omega, fun d H1 a1 b1 hb1 k1 => ?_⟩
    have kp1 : Keep p H H1 := keep_of k1
    refine ⟨_, rfl, by omega, by omega, fun D hD => ?_⟩
    have npD : D ≠ p := (hb1.ne hD).symm
    refine lc_range (lo := 0) (n := d.toNat) (fun j M => BoxAt M p (n + 1 + j) ∧ Keep2 p D H1 M ∧ ∃ ys : List Str, M D = some (.lst (ys.map V.str)) ∧ ys.length = j ∧ ∀ y ∈ ys, Tz 1 y)
      ⟨hb1.new hD, Keep2.of (Keep.new hD), [], upd_same, rfl, fun y hy => absurd hy List.not_mem_nil⟩ ?_ ?_
    · rintro j M hj ⟨mb, mk, ys, mD, ml, mt⟩
      refine ⟨rfl, _, rfl, _, rfl, p, 36, n + 1 + j, rfl, mb, by decide, by decide, by omega, fun d2 M1 r1 r2 mb1 mk1 => ?_⟩
      obtain ⟨x, hx, ax⟩ := atI_in (xs := TL.tl let1) r1 (by rw [l1]; exact r2)
      have mD1 : M1 D = some (.lst (ys.map V.str)) := by rw [mk1 D npD]; exact mD
      refine ⟨_, _, _, rfl, rfl, by decide +kernel, ax, ys.map V.str, mD1, ?_, (mb1.mono (by omega)).put npD, (mk.next (keep_of mk1)).put, ys ++ [⟨#[x]⟩], ?_, ?_, ?_⟩
      · rw [List.length_map, ml, PySem.sizeLine_eq]
        omega
      · rw [upd_same, List.map_append]
        rfl
      · rw [List.length_append, ml]
        rfl
      · intro y hy
        rcases List.mem_append.mp hy with z | z
        · exact mt y z
        · rw [List.mem_singleton.mp z]
          exact Tz.one (tz_let1.sm x hx)
    · rintro M ⟨mb, mk, ys, mD, ml, mt⟩
      have tz : Tz 10 (Txt.join "" ys) := (Tz.join tz_nil mt).mono (by omega)
      have sm := sum_le mt
      have kpM : Keep p H M := kp1.trans (mk.fin hD)
      refine ⟨_, D, ys, rfl, rfl, .inl (SqL.of mD), ?_, ?_⟩
      · rw [show ("" : Str).length = 0 from by decide +kernel]
        omega
      generalize Txt.join "" ys = z at tz
      refine ⟨_, rfl, rfl, _, rfl, ?_⟩
      refine ite2 (fun h1 => ?_) (fun h1 => ?_)
      · exact iteT ⟨_, rfl, q z M (tz.mono (by omega)) (mb.mono (by omega)) kpM⟩
      have hne : z ≠ "" := fun e => h1 (decide_eq_true (congrArg V.str e))
      have hz1 : 0 < z.length := by
        rw [TL.len_tl]
        refine Nat.pos_of_ne_zero fun e => hne (TL.ext_tl ?_)
        rw [List.length_eq_zero_iff.mp e]
        decide +kernel
      have hzl := tz.len
      refine ⟨_, rfl, p, 3, n + 1 + d.toNat, rfl, mb, by decide, by decide, by omega, fun d3 M3 a3 b3 mb3 k3 => ?_⟩
      have kp3 : Keep p H M3 := kpM.trans (keep_of k3)
      refine ⟨_, _, rfl, rfl, _, rfl, ?_⟩
      refine ite2 (fun h2 => ?_) (fun h2 => ?_)
      · exact ⟨_, rfl, q z M3 (tz.mono (by omega)) (mb3.mono (by omega)) kp3⟩
      refine ⟨_, _, rfl, rfl, by decide +kernel, ?_⟩
      have lz : (let2 ++ ("\n" : Str)).length = 58 := by rw [len_let2]; decide +kernel
      have tz2 : Tz 58 (let2 ++ ("\n" : Str)) := tz_let2.app (m := 1) ⟨by decide +kernel, by decide +kernel⟩
      generalize (let2 ++ ("\n" : Str)) = oth at lz tz2 ⊢
      have lot := lz
      rw [TL.len_tl] at lot
      refine ⟨_, rfl, _, rfl, _, _, rfl, ⟨by rw [PySem.sizeLine_eq]; omega, rfl⟩, p, _, n + 2 + d.toNat, rfl, mb3.mono (by omega), by omega, small_log (by omega) (by omega), by omega, fun d4 M4 a4 b4 mb4 k4 => ?_⟩
      have kp4 : Keep p H M4 := kp3.trans (keep_of k4)
      refine ⟨_, rfl, _, rfl, _, rfl, z, rfl, by rw [PySem.sizeLine_eq]; omega, ?_⟩
      refine ⟨_, rfl, _, rfl, _, rfl, _, _, rfl, ⟨by rw [PySem.sizeLine_eq]; omega, rfl⟩, p, _, n + 3 + d.toNat, rfl, mb4.mono (by omega), by omega, small_log (by omega) (by omega), by omega, fun d5 M5 a5 b5 mb5 k5 => ?_⟩
      have kp5 : Keep p H M5 := kp4.trans (keep_of k5)
      obtain ⟨c, hc, ac⟩ := atI_in (xs := TL.tl oth) a5 (by rw [lot]; rw [lz] at b5; exact b5)
      refine ⟨_, _, _, rfl, rfl, by rw [PySem.sizeLine_eq]; omega, ac, ?_⟩
      have t1 := tz.cut none (some d4)
      have t2 : Tz 1 (⟨#[c]⟩ : Str) := Tz.one (tz2.sm c hc)
      have t12 := t1.app t2
      have t3 := tz.cut (some (d4 + 1)) none
      refine ⟨_, _, rfl, rfl, ?_, ?_⟩
      · have h1 := t1.len
        have h2 := t2.len
        rw [PySem.sizeLine_eq]
        omega
      refine ⟨_, rfl, _, rfl, _, _, rfl, rfl, _, rfl, z, rfl, by rw [PySem.sizeLine_eq]; omega, ?_⟩
      refine ⟨_, _, rfl, rfl, ?_, ?_⟩
      · have h1 := t12.len
        have h2 := t3.len
        rw [PySem.sizeLine_eq]
        omega
      exact q _ M5 ((t12.app t3).mono (by omega)) (mb5.mono (by omega)) kp5

/-- whether it is a name, by the law's own look -/
theorem one_eq {c d : Nat} : ((⟨#[c]⟩ : Str) = ⟨#[d]⟩) ↔ c = d := ⟨fun e => by cases e; rfl, fun e => by rw [e]⟩
theorem named_mem (c : Nat) : decide (c ∈ ((("abcdefghijklmnopqrstuvwxyz" : Str) ++ ("0123456789" : Str))).cps.toList) = (lowB c || digB c) := by
  have e : (("abcdefghijklmnopqrstuvwxyz" : Str) ++ ("0123456789" : Str)).cps.toList = ("abcdefghijklmnopqrstuvwxyz" : Str).cps.toList ++ ("0123456789" : Str).cps.toList := TL.tl_append _ _
  rw [e, ← low_mem, ← dig_mem']
  rw [Bool.eq_iff_iff]
  simp only [List.mem_append, decide_eq_true_eq, Bool.or_eq_true]
/-- _law_is_named -/
def spNamed (K : PySem.W.Frag) : Sp := fun vs H Q _ => ∃ (x : V) (k : String), vs = [x] ∧ Vk K H x k ∧ (∀ z, x = .str z → ∀ c ∈ TL.tl z, c < 256) ∧ (k ≠ "str" → ∀ H', Same H H' → Q (.bl false) H') ∧ ∀ z, x = .str z → ∀ H', Same H H' → Q (.bl (nameB (TL.tl z))) H'

abbrev sNm : Stmt := top 77
abbrev nNm : List Str := ["_law_word_here", "_law_small", "_law_sign"]
theorem scNm : FnScope nNm ["_law_word_here"] (defScope sNm) := ⟨rfl, rfl, rfl, by decide +kernel, rfl, by decide +kernel, by decide +kernel⟩

theorem ok_Nm (F : Fun K "_law_is_named" "_law_is_named" sNm f fd) (T : TxtL mg) : FnG P w K mg base CX0 1 f fd ["_law_word_here"] (spNamed K) := by
  refine FunG.ok F scNm (fun vs H Q E h => ?_) (fun cdv B out s H vs Q E hr hG h => ?_)
  · obtain ⟨x, k, rfl, _⟩ := h
    rfl
  · obtain ⟨x, k, rfl, v, hz, q0, q1⟩ := h
    refine ⟨_, (pss_cons (ps_set (i := 1) scNm.nd rfl (.inr rfl) pe_str)
      (pss_cons (ps_if (PW.pt (pw_or (pt_not (pt_val (pe_callB call_isd (by rfl) T.isinstance (by decide +kernel) (pa_cons (pv 0) (pa_cons (pe_bltn (by rfl) T.str (by decide +kernel) (show RelV (.ty "str") _ from rfl)) pa_nil))))) (pw_or (pt_cmpR op_eq (pv 0) pe_str (nomark _)) (pw_or (pt_cmpR op_gt (pe_callB call_len (by rfl) T.len PySem.boot_len (pa_cons (pv 0) pa_nil)) pe_int (nomark _)) (pw_or1 (pt_cmpR op_notIn_sign (pe_ix ix_str (pv 0) pe_int fun _ _ => rfl) (pv 1) rfl)))))) (pss_one (ps_ret pe_bl)) pss_nil)
      (pss_one (ps_ret (pe_cmpR (op_eqD hr.units) (pe_lc (own := [("_law_sign", 2)]) (g := gName 2) rfl scNm.nd (pi_str (pv 0)) (blkOk_by (N := nNm) (sc := defScope sNm) (by decide +kernel)) (fun _ _ _ _ _ => pg_name (i := 2) scNm.nd rfl (Or.inl rfl)) (fun _ _ _ _ _ => (pts_one (pt_cmpR op_notIn_sign (pv 2) (pe_op op_add_str (pv 1) pe_str) rfl))) (fun _ _ _ _ _ => (pv 2))) (pe_lst pa_nil) (nomark _)))))), ?_⟩
    refine ⟨_, rfl, _, _, _, _, rfl, .ty _, v.kd.is "str" (by decide), _, rfl, ?_⟩
    rw [ans_str]
    cases hk : (k == "str") with
    | false => exact iteT (iteT (q0 (fun e => by rw [e] at hk; cases hk) _ (Same.refl _)))
    | true =>
      obtain ⟨z, rfl, hzl0⟩ := v.s (by simpa using hk)
      have q := q1 z rfl
      have hsm := hz z rfl
      have hzl : z.length = (TL.tl z).length := TL.len_tl z
      have bad : nameB (TL.tl z) = false → Q (.bl false) H := fun e => by
        have q' := q H (Same.refl _)
        rwa [e] at q'
      refine iteF ⟨_, rfl, rfl, _, rfl, ?_⟩
      refine ite2 (fun h1 => ?_) (fun h1 => ?_)
      · refine iteT (bad ?_)
        rw [V.str.inj (of_decide_eq_true h1)]
        decide +kernel
      have hz1 : 0 < (TL.tl z).length := by
        refine Nat.pos_of_ne_zero fun e => h1 (decide_eq_true (congrArg V.str (TL.ext_tl ?_)))
        rw [List.length_eq_zero_iff.mp e]
        decide +kernel
      refine ⟨_, rfl, _, _, rfl, ⟨by rw [PySem.sizeLine_eq]; omega, rfl⟩, _, _, rfl, rfl, _, rfl, ?_⟩
      refine ite2 (fun h2 => ?_) (fun h2 => ?_)
      · have h2' := of_decide_eq_true h2
        refine iteT (bad ?_)
        unfold nameB
        rw [decide_eq_false (by omega)]
        rfl
      have h2' : (TL.tl z).length ≤ 8 := by
        have : ¬ ((z.length : Nat) : Int) > 8 := fun e => h2 (decide_eq_true e)
        omega
      have h0 : (TL.tl z)[0]? = some ((TL.tl z)[0]) := List.getElem?_eq_getElem hz1
      have hh : (TL.tl z).head? = some ((TL.tl z)[0]) := by rw [List.head?_eq_getElem?, h0]
      refine ⟨_, rfl, _, _, _, rfl, rfl, by rw [PySem.sizeLine_eq]; omega, atI_nat (j := 0) h0, _, rfl, _, _, rfl, rfl, _, rfl, ?_⟩
      rw [low_mem]
      have en : nameB (TL.tl z) = (lowB ((TL.tl z)[0]) && (TL.tl z).all fun c => lowB c || digB c) := by
        unfold nameB
        rw [hh, Option.any_some, decide_eq_true (show 1 ≤ (TL.tl z).length ∧ (TL.tl z).length ≤ 8 from ⟨by omega, h2'⟩), Bool.true_and]
      cases h3 : lowB ((TL.tl z)[0]) with
      | false => exact iteT (bad (by rw [en, h3]; rfl))
      | true =>
        rw [h3, Bool.true_and] at en
        refine iteF ⟨_, rfl, _, rfl, fun D hD => ?_⟩
        refine lc_it walk_str (fun i G => Same H G ∧ G D = some (.lst ((((TL.tl z).take i).filter (fun c => !(lowB c || digB c))).map fun c => V.str ⟨#[c]⟩))) ⟨Same.put hD, upd_same⟩ (fun _ _ _ _ => trivial) ?_ ?_
        · rintro i x G G' hi ⟨sm, hGD⟩ ⟨rfl, c, hc, rfl⟩
          have hi' : i < (TL.tl z).length := by rw [← hzl]; exact hi
          have hc' : (TL.tl z)[i]? = some c := by rw [← hc]; simp
          refine ⟨rfl, _, rfl, _, rfl, _, _, rfl, rfl, by decide +kernel, c, _, rfl, rfl, _, rfl, ?_⟩
          rw [named_mem]
          cases h4 : (lowB c || digB c) with
          | true =>
            refine iteF ⟨sm, ?_⟩
            rw [hGD, List.take_add_one, hc', List.filter_append, show List.filter (fun c => !(lowB c || digB c)) (some c).toList = [] from by show List.filter _ [c] = []; rw [List.filter_cons, h4]; rfl, List.append_nil]
          | false =>
            refine iteT ⟨_, rfl, _, hGD, ?_, fun b o e => ?_, ?_⟩
            · rw [List.length_map]
              have := List.length_filter_le (fun c => !(lowB c || digB c)) ((TL.tl z).take i)
              rw [List.length_take] at this
              rw [PySem.sizeLine_eq]
              omega
            · rw [upd_ne (ne_of_none e hD)]
              exact sm b o e
            · rw [upd_same, List.take_add_one, hc', List.filter_append, show List.filter (fun c => !(lowB c || digB c)) (some c).toList = [c] from by show List.filter _ [c] = [c]; rw [List.filter_cons, h4]; rfl, List.map_append]
              rfl
        · rintro G ⟨sm, hGD⟩
          have ez : (TL.tl z).take z.cps.size = TL.tl z := List.take_of_length_le (by rw [← hzl]; exact Nat.le_refl _)
          rw [ez] at hGD
          refine ⟨by show 0 ≤ sizeLine; decide, fun e he => ?_⟩
          have se : Same G (upd G e (.lst [])) := Same.put he
          have e1 : ((((TL.tl z).filter (fun c => !(lowB c || digB c))).map fun c => V.str ⟨#[c]⟩)) = (((TL.tl z).filter (fun c => !(lowB c || digB c))).map fun c => (⟨#[c]⟩ : Str)).map V.str := by rw [List.map_map]; rfl
          rw [e1] at hGD
          refine ⟨_, _, .lst (SqL.of (se _ _ hGD)) (dpAll_strs _), .lst (SqL.of upd_same) .nil, shaped_strs ?_, rfl, ?_⟩
          · intro y hy d hd
            obtain ⟨c, hc, rfl⟩ := List.mem_map.mp hy
            have ed : d = c := by simpa using hd
            rw [ed]
            exact hsm c (List.mem_filter.mp hc).1
          have q' := q _ (Same.tr sm se)
          rw [en] at q'
          rw [eqv_nil]
          have e2 : ((TL.tl z).all fun c => lowB c || digB c) = ((((TL.tl z).filter (fun c => !(lowB c || digB c))).map fun c => (⟨#[c]⟩ : Str)).map PyData.str).isEmpty := by
            rw [List.isEmpty_map, List.isEmpty_map]
            generalize TL.tl z = l
            induction l with
            | nil => rfl
            | cons a l ih =>
              rw [List.all_cons, List.filter_cons]
              cases (lowB a || digB a) with
              | true => simpa using ih
              | false => rfl
          rw [e2] at q'
          exact q'

end
end T02
set_option Elab.async false
set_option linter.all false
set_option maxRecDepth 100000
set_option maxHeartbeats 4000000
/-! own classes of exceptions without an __init__ of their own -/
namespace Tp
section
open PySem HandSPX
local macro_rules | `(tactic| walk_at "factX") => `(tactic| first | decide +kernel | kernel_rfl | (rw [isSubtype_type]; kernel_rfl) | (rw [mroOf_type]; kernel_rfl) | (intro z; kernel_rfl) | (intro z1 z2 z3; unfold argsOk; kernel_rfl))
/-- a built-in class's own __init__, that is BaseException's -/
structure InitX (B initId : String) : Prop where
  slot : Slot B "__init__" initId
  entry : entryFor table initId = some Builtin.«BaseException.__init__»
  split : splitId initId = some (B, "__init__")
  kind : builtinKind initId = some .slot
  row : Manifest.signature? initId = some ⟨.positional, "*", B, .self, [⟨"args", .varPos, false⟩]⟩
  star : (B != "*") = true
theorem initOf {B newId initId : String} {bm : List Value} (F : ExcBaseFacts B newId initId bm) : InitX B initId := ⟨F.init, F.initEntry, F.initSplit, F.initKind, F.initRow, F.noStar⟩
theorem initK : InitX "KeyError" "KeyError.__init__" where
  slot := .of (owner := "KeyError") (n := "__init__")
      (by rw [typeLookup_type, builtinLookup_eq_fast]; kernel_rfl) (by walk_at "factX") (by walk_at "factX")
      (by walk_at "factX") (by first | exact .inl (by walk_at "factX") | exact .inr (by walk_at "factX")) (by walk_at "factX")
  entry := entryFor_alias (id' := "BaseException.__init__")
      (by rw [fastTable_eq_tree]; kernel_rfl) (by walk_at "factX") (by walk_at "factX")
      (by rw [fastTable_eq_tree]; kernel_rfl)
  split := by walk_at "factX"
  kind := by walk_at "factX"
  row := by walk_at "factX"
  star := by walk_at "factX"
variable {prog : Program} {w : World} {A : Around} {E : Value → Shared → Prop} {R : Result → Shared → Prop} {h : Heap} {g : Array GenState} {d : Drawn} {t : Nat} {os : OsState}
variable {nm q : Str} {C N : Addr} {bs bm : List Value} {hdct : Bool} {sn : List Str} {sub : List Value} {ab : Bool} {col : Option Bool} {dd : Option Addr} {k0 k1 k2 k3 k5 : Option Value} {B newId initId : String}
theorem bas_check {M : Model} (F : InitX B initId) (hB : bm.contains (.type B) = true) {e : Addr} {oe : Obj} {rest : List Value} {Q : Unit → Shared → Prop}
    (hC : h.get? C = some (excClassObj nm q C N bs bm hdct sn sub ab col dd k0 k1 k2 k3 k5 newId)) (he : h.get? e = some oe) (hcls : oe.cls = .ref C) (hq : Q () ⟨h, g, d, t, os⟩) :
    wpAny M A (checkBuiltinCall initId ⟨.ref e :: rest, []⟩) Q E ⟨h, g, d, t, os⟩ := by
  have hst := F.star
  have hc : (Value.ref C :: bm).contains (.type B) = true := by
    rw [List.contains_cons]
    exact Bool.or_eq_true_iff.mpr (.inr hB)
  simp only [checkBuiltinCall, F.split, F.kind, F.row]
  repeat (first
    | with_reducible refine wpAny_loadPart_at hC ?_
    | (with_reducible refine wpAny_loadPart_at he ?_; rw [hcls])
    | (with_reducible refine wpAny_isSubtype_exc hC ?_; rw [hc])
    | wp_step)
  refine wpAny_onRaise ?_
  rw [show ∀ (x y : String) (n : Nat), Bind.check ⟨.positional, "*", B, .self, [⟨"args", .varPos, false⟩]⟩ x y n (List.map (fun z => z.fst) ({ pos := Value.ref e :: rest } : Args).kw) = pure () from fun x y n => check_star_args _ _ _ _ _ _]
  exact wpAny_pure hq
theorem bas_init (F : InitX B initId) (hB : bm.contains (.type B) = true) {e t0 : Addr} {rest : List Value}
    (hC : h.get? C = some (excClassObj nm q C N bs bm hdct sn sub ab col dd k0 k1 k2 k3 k5 newId)) (he : h.get? e = some (excO C t0)) (hz : rest.length ≤ sizeLine)
    (hq : ∀ h' t1, (∀ b o, b ≠ e → h.get? b = some o → h'.get? b = some o) → h'.get? e = some (excO C t1) → R (.ok (.ret .none)) ⟨h', g, d, t, os⟩) :
    codeAny (model prog w) A (.call (.builtin initId) ⟨.ref e :: rest, []⟩) R ⟨h, g, d, t, os⟩ := by
  refine codeAny_call_builtin F.slot.plain F.entry (bas_check F hB hC he rfl ?_)
  wp_walk
  refine hq _ h.objs.size (fun b o hb ho => (Heap.get?_update_other _ _ (Ne.symm hb)).trans (Heap.get?_push_of_some _ ho)) ?_
  rw [Heap.get?_update_self _ (Heap.get?_push_of_some _ he) rfl]
  rfl
end
section
open PySem PySem.Spec PyProof.Rows L2
/-- C(e), C without an __init__ -/
def tBas (C : Addr) (t : TA) : TE := fun σ H Q => t σ H fun vs H1 => vs.length ≤ 1000 ∧ ∀ a H', H1 a = none → Same H1 H' → ExAt H' a C [] → Q (.ref a) H'
theorem pe_bas {X : Cx} {C : Addr} {S initId : String} {x : Str} {p pos : Pos} {e : Expr} {es : List Expr} {t : TA} (T : ExK X.K C) (F : InitX S initId) (iC : PySem.W.findIn X.K (.ref C) "__init__" = some (some (.builtin initId))) (hS : PySem.W.subIn X.K (.ref C) (.type S) = some true)
    (hm : X.mg x = some (.ref C)) (hg : Gl X x) (ha : PA X (e :: es) t)
    (hdb : (x == ("__debug__" : Str)) = false := by decide) (he : starEach (e :: es) X.env = (false, eval e X.env) :: starEach es X.env := by rfl) (hpl : (backTo pos (starEach es X.env)).any (·.1) = false := by rfl) :
    PE X (.Call (.Name x p) (e :: es) [] pos) (tBas C t) := by
  refine ⟨fun pins s σ H Q I h => wpAny_Call_Name_kw (ld_glob I hg hm ?_ hdb)⟩
  refine PySem.W.callWith_K (h₀ := X.base) I.ok.mod.kin T.kC (thn (ha.run pos pins s σ H _ I h) fun us s1 hh => ?_) he hpl
  obtain ⟨vs, H1, I1, r, hl, q⟩ := hh
  refine ⟨I1.kIn, ?_⟩
  show wpAny _ _ (call (.ref C) us) _ _ _
  obtain ⟨newId, line, ⟨B', initId', S', bmB, FB, SF, L⟩, hi, hlo⟩ := T.ln
  obtain ⟨nm, N, qn, bs, bm, hdct, sn, sub, ab, col, dd, k0, k1, k2, k3, k5, hC, hT⟩ := PySem.W.excInit_of I1.kIn hi
  have L' : LineX B' bm := ⟨(hT _).trans L.hB, (hT _).trans L.hA, (hT _).trans L.hN⟩
  have hbm : bm.contains (.type S) = true := by
    have e1 : PySem.W.clsIn X.K C ≠ none := fun z => by
      have := T.hdC
      unfold PySem.W.hasDictIn at this
      rw [z] at this
      cases this
    have e2 : PySem.W.mroIn X.K C (.type S) = some true := hS
    unfold PySem.W.mroIn at e2
    obtain ⟨cd, hcd, e3⟩ := Option.bind_eq_some_iff.mp e2
    have e4 : cd.mro = .ref C :: bm := by
      unfold PySem.W.clsIn at hcd
      split at hcd
      · rename_i c' d' cd' sl' ho
        cases hcd
        have z := (I1.kIn _ _ ho).symm.trans hC
        cases z
        rfl
      · cases hcd
    rw [e4] at e3
    have e5 : (Value.ref C :: bm).contains (.type S) = true := by
      have := e3
      simp only [List.isEmpty_cons, Bool.false_eq_true, if_false, Option.some.injEq] at this
      exact this
    rw [List.contains_cons] at e5
    rcases Bool.or_eq_true_iff.mp e5 with z | z
    · cases z
    · exact z
  have lu : us.length ≤ sizeLine := by
    rw [← r.length, sizeLine_eq]
    omega
  obtain ⟨hp, gg, dr, tk, os⟩ := s1
  have hsz : hp.objs.size ≤ hp.objs.size + 1 := Nat.le_succ _
  have kk : ∀ b o, hp.get? b = some o → ((hp.push (PySem.W.kdv_tup us)).push (PySem.HandSPX.excO C hp.objs.size)).get? b = some o := fun b o z => Heap.get?_push_of_some _ (Heap.get?_push_of_some _ z)
  have hget : ((hp.push (PySem.W.kdv_tup us)).push (PySem.HandSPX.excO C hp.objs.size)).get? (hp.objs.size + 1) = some (PySem.HandSPX.excO C hp.objs.size) := by heap_get
  have hn : H1 (hp.objs.size + 1) = none := I1.hok.fresh hsz
  refine wpAny_call (mk_call FB L' hC lu (PySem.W.looks_findIn I1.kIn iC) (fun self => ?_) (bas_init F hbm (kk _ _ hC) hget lu fun h' t1 k hx => ?_))
  · rw [F.slot.bind self]
    exact .now
  · have hne : ∀ b o, hp.get? b = some o → h'.get? b = some o := fun b o z => k b o (Nat.ne_of_lt (Nat.lt_of_lt_of_le (Heap.lt_size z) hsz)) (kk b o z)
    refine ⟨rfl, .ref (hp.objs.size + 1), upd H1 (hp.objs.size + 1) (exo (hp.objs.size + 1) C none), I1.laid (t' := tk) hne hsz (exo_ok hx), rfl, ?_⟩
    exact q _ _ hn (Same.put hn) (.inl ⟨rfl, upd_same⟩)
end
end Tp
set_option Elab.async false
set_option linter.all false
set_option maxRecDepth 100000
set_option maxHeartbeats 4000000
namespace T02
open PySem PySem.Spec PyProof.Rows L2 Tp
section
variable {P : Program} {w : World} {K : PySem.W.Frag} {mg : Str → Option Value} {base : Heap} {f : Addr} {fd : FuncData}

/-- what is known of the empty tuple of the text -/
theorem emp_tup {tE : Addr} {H : Hp} (h : ∃ (o : Obj) (n : Nat), K.lookup tE = some o ∧ o.cls = .type "tuple" ∧ o.data = .seq #[] n) : Emp K H (.ref tE) := by
  obtain ⟨o, n, k, c, d⟩ := h
  exact ⟨tE, rfl, .inr (.inr ⟨o, #[], n, k, c, d, Nat.zero_le _, .nil⟩)⟩
theorem str_kind {H : Hp} {x : V} {k : String} {z : Str} (v : Vk K H x k) (e : x = .str z) : k = "str" := by
  subst e
  rcases v.kd with ⟨t, ty, h⟩ | ⟨a, D, fs, e, _⟩
  · cases ty with
    | base b =>
      cases b with
      | str _ =>
        have h1 := h "str" (by decide)
        rw [kit_ty (show kitB "str" "str" = some true from by decide +kernel)] at h1
        have h2 := Option.some.inj h1
        rw [ans_str] at h2
        simpa using h2.symm
  · cases e
theorem ok_dec' {a b : Str} {Q : VK} {G : Hp} (h : a = b) (q : Q (.bl true) G) : (rEq (.str a) (.str b) G Q) := by
  subst h
  exact ⟨rfl, by rw [decide_eq_true rfl]; exact q⟩
theorem beq_shown {a b : Str} (h : a = b) : decide (V.str a = V.str b) = true := decide_eq_true (congrArg V.str h)
/-- two lists of equal truth values shown -/
theorem pair_nice (a b : Bool) : Nice 2 1 (.list [.bool a, .bool b]) := (NiceAll.cons (nice_bool a) (NiceAll.cons (nice_bool b) niceAll_nil)).list
def spNr (K : PySem.W.Frag) : Sp := fun vs H Q _ => ∃ (p : Addr) (n : Nat), vs = [.ref p] ∧ BoxAt H p n ∧ n ≤ 1000 ∧ ∀ H', BoxAt H' p (n + 90) → Keep p H H' → Q (.bl true) H'

abbrev sNr : Stmt := top 78
abbrev nNr : List Str := ["_law_box_here", "_law_word_here", "_law_due", "_law_things", "_law_thing"]
theorem scNr : FnScope nNr ["_law_box_here"] (defScope sNr) := ⟨rfl, rfl, rfl, by decide +kernel, rfl, by decide +kernel, by decide +kernel⟩

theorem ok_Nr (F : Fun K "_law_names_right" "_law_names_right" sNr f fd) {tE : Addr} (T : TxtL mg) (CW : Cg P w K mg base 2 "_law_word" spWord) (CN : Cg P w K mg base 1 "_law_is_named" (spNamed K)) (IN : Cg P w K mg base 1 "is_name" (spName K)) (INk : Cn P w K mg base 1 "is_name" 0 ["value"] (fun vs zs => vs ++ zs) (spName K)) {CB CNt : Addr} (S : Sm K) (MB : Cm P w K mg base 2 "Book" CB [.ref tE] (spB0 K CB)) (IB : InsK K CB) (eT : ∃ (o : Obj) (n : Nat), K.lookup tE = some o ∧ o.cls = .type "tuple" ∧ o.data = .seq #[] n) {tE2 : Addr} (MN : Cm P w K mg base 6 "Net" CNt [.ref tE2] (spNt K CNt)) (IN2 : InsK K CNt) (eN : ∃ (o : Obj) (n : Nat), K.lookup tE2 = some o ∧ o.cls = .type "tuple" ∧ o.data = .seq #[] n) {CE : Addr} (ME : Cx1 P w K mg base "InvalidName" CE 1 [] (spI CE ["value"]) (fun vs _ => vs)) (TE : ExK K CE) (noE : ∀ u ∈ tys6, PySem.W.kitOne K (.ref CE) (.type u) = some false) : FnG P w K mg base CX0 8 f fd ["_law_box_here"] (spNr K) := by
  refine FunG.ok F scNr (fun vs H Q E h => ?_) (fun cdv B out s H vs Q E hr hG h => ?_)
  · obtain ⟨p, n, rfl, _⟩ := h
    rfl
  · obtain ⟨p, n, rfl, hb, hn, q⟩ := h
    have hr2 : Room 2 _ := hr.mono (by decide)
    refine ⟨_, (pss_cons (ps_for PassesOwn.never rfl (pi_list (pe_lst (pa_cons (pe_g CW hr hG (by decide) (by rfl) (pa_cons (pv 0) (pa_cons pe_int pa_nil))) (pa_cons (pe_op op_add_str pe_str (pe_g CW hr hG (by decide) (by rfl) (pa_cons (pv 0) (pa_cons pe_int pa_nil)))) (pa_cons (pe_op op_add_str pe_str (pe_g CW hr hG (by decide) (by rfl) (pa_cons (pv 0) (pa_cons pe_int pa_nil)))) (pa_cons (pe_g CW hr hG (by decide) (by rfl) (pa_cons (pv 0) (pa_cons pe_int pa_nil))) pa_nil)))))) (pg_name (i := 1) scNr.nd rfl (Or.inl rfl)) (pss_cons (ps_set (i := 2) scNr.nd rfl (.inl rfl) (pe_g CN hr hG (by decide) (by rfl) (pa_cons (pv 1) pa_nil)))
        (pss_one (ps_if (pt_cmpR op_ne (pe_callB (call_reprD S hr hG) (by rfl) T.repr (by decide +kernel) (pa_cons (pe_lst (pa_cons (pe_g IN hr hG (by decide) (by rfl) (pa_cons (pv 1) pa_nil)) (pa_cons (pe_cn0 INk hr hG (by decide) (by rfl) (pk_cons (pv 1) pk_nil)) pa_nil))) pa_nil)) (pe_callB (call_reprD S hr hG) (by rfl) T.repr (by decide +kernel) (pa_cons (pe_lst (pa_cons (pv 2) (pa_cons (pv 2) pa_nil))) pa_nil)) (nomark _)) (pss_one (ps_ret pe_bl)) pss_nil))))
      (pss_cons (ps_set (i := 3) scNr.nd rfl (.inl rfl) (pe_lst (pa_cons pe_non (pa_cons pe_int (pa_cons pe_bl (pa_cons (pe_lst (pa_cons pe_str pa_nil)) (pa_cons (pe_tup (pa_cons pe_str pa_nil)) (pa_cons (pe_disp (pps_cons pe_str pe_int pps_nil) (by rfl) (by rfl) (fun z => by cases z) (by decide)) (pa_cons (pe_lst pa_nil) (pa_cons (pe_cm0 MB hr hG (by decide) (by rfl)) (pa_cons (pe_cm MN hr hG (by decide) (by rfl) (pa_cons (pe_lst pa_nil) (pa_cons (pe_lst pa_nil) (pa_cons (pe_lst pa_nil) pa_nil)))) (pa_cons (pe_mke (ns := ["value"]) ME hr2 (by rfl) (pa_cons pe_str pa_nil)) pa_nil))))))))))))
      (pss_one (ps_ret (pe_cmpR op_eq (pe_callB (call_reprD S hr hG) (by rfl) T.repr (by decide +kernel) (pa_cons (pe_lc (own := [("_law_thing", 4)]) (g := gName 4) (tt := tYes) rfl scNr.nd (pi_list (pv 3)) (blkOk_by (N := nNr) (sc := defScope sNr) (by decide +kernel)) (fun _ _ _ _ _ => pg_name (i := 4) scNr.nd rfl (Or.inl rfl)) (fun _ _ _ _ _ => pts_nil) (fun _ _ _ _ _ => (pe_g IN hr hG (by decide) (by rfl) (pa_cons (pv 4) pa_nil)))) pa_nil)) (pe_callB (call_reprD S hr hG) (by rfl) T.repr (by decide +kernel) (pa_cons (pe_op op_rep (pe_lst (pa_cons pe_bl pa_nil)) pe_int) pa_nil)) (nomark _)))))), ?_⟩
    refine ⟨_, rfl, p, n, 10, rfl, by decide, by decide, hb, by omega, fun z1 H1 t1 b1 k1 => ?_⟩
    refine ⟨_, rfl, p, n + 20, 7, rfl, by decide, by decide, b1, by omega, fun z2 H2 t2 b2 k2 => ?_⟩
    have ta : Tz 1 ("a" : Str) := ⟨by decide +kernel, by decide +kernel⟩
    have tz : Tz 1 ("z" : Str) := ⟨by decide +kernel, by decide +kernel⟩
    have t2' := (ta.app t2).mono (show 1 + 30 ≤ 31 by decide)
    refine ⟨_, _, rfl, rfl, by have := ta.len; have := t2.len; rw [PySem.sizeLine_eq]; omega, ?_⟩
    refine ⟨_, rfl, p, n + 20 + 20, 8, rfl, by decide, by decide, b2, by omega, fun z3 H3 t3 b3 k3 => ?_⟩
    have t3' := (tz.app t3).mono (show 1 + 30 ≤ 31 by decide)
    refine ⟨_, _, rfl, rfl, by have := tz.len; have := t3.len; rw [PySem.sizeLine_eq]; omega, ?_⟩
    refine ⟨_, rfl, p, n + 20 + 20 + 20, 1, rfl, by decide, by decide, b3, by omega, fun z4 H4 t4 b4 k4 => ?_⟩
    have kp4 : Keep p H H4 := k1.trans (k2.trans (k3.trans k4))
    generalize ("a" : Str) ++ z2 = y2 at t2' ⊢
    generalize ("z" : Str) ++ z3 = y3 at t3' ⊢
    refine ⟨(by show 4 ≤ sizeLine; decide), fun lw ew => ?_⟩
    have bw := b4.new (o := .lst [V.str z1, .str y2, .str y3, .str z4]) ew
    have kpw : Keep p H (upd H4 lw (.lst [V.str z1, .str y2, .str y3, .str z4])) := kp4.trans (Keep.new ew)
    have hw : (upd H4 lw (.lst [V.str z1, .str y2, .str y3, .str z4])) lw = some (.lst [V.str z1, .str y2, .str y3, .str z4]) := upd_same
    generalize upd H4 lw (.lst [V.str z1, .str y2, .str y3, .str z4]) = G0 at bw kpw hw ⊢
    refine ⟨lw, rfl, ⟨_, SqL.of hw⟩, for_it (walk_list (xs := [V.str z1, .str y2, .str y3, .str z4])) (fun _ σ G => Same G0 G ∧ ∃ o1 o2, σ = [some (.ref p), o1, o2, none, none]) ⟨Same.refl _, none, none, rfl⟩ (fun i σ G _ h => SqL.of (h.1 _ _ hw)) ?_ ?_⟩
    · rintro i x σ G G' hi ⟨kG, o1, o2, rfl⟩ ⟨rfl, hx⟩
      obtain ⟨y, rfl, ty⟩ : ∃ y : Str, x = .str y ∧ Tz 31 y := by
        match i, hx with
        | 0, hx => cases hx; exact ⟨_, rfl, t1.mono (by decide)⟩
        | 1, hx => cases hx; exact ⟨_, rfl, t2'⟩
        | 2, hx => cases hx; exact ⟨_, rfl, t3'⟩
        | 3, hx => cases hx; exact ⟨_, rfl, t4.mono (by decide)⟩
      have vy : ∀ G, Vk K G (.str y) "str" := fun G => vk_str y (Nat.le_trans ty.len (by decide))
      refine ⟨_, rfl, _, "str", rfl, vy _, fun z e c hc => by cases e; exact ty.sm c hc, fun e => absurd rfl e, fun z e G1 g1 => ?_⟩
      cases e
      refine ⟨_, rfl, _, "str", rfl, vy _, fun e => absurd rfl e, fun z e G2 g2 => ?_⟩
      cases e
      refine ⟨_, rfl, rfl, rfl, ?_⟩
      dsimp only [tNil]
      refine ⟨_, "str", rfl, vy _, fun e => absurd rfl e, fun z e G3 g3 => ?_⟩
      cases e
      generalize nameB (TL.tl y) = b
      refine ⟨(by show 2 ≤ sizeLine; decide), fun l1 e1 => ?_⟩
      try dsimp only [tNil]
      refine rReprD_of (.lst (SqL.of upd_same) (.cons (.bl b) (.cons (.bl b) .nil))) (pair_nice b b) (by decide) (by decide) ?_
      refine ⟨_, rfl, _, rfl, (by show 2 ≤ sizeLine; decide), fun l2 e2 => ?_⟩
      try dsimp only [tNil]
      refine rReprD_of (.lst (SqL.of upd_same) (.cons (.bl b) (.cons (.bl b) .nil))) (pair_nice b b) (by decide) (by decide) ?_
      refine ⟨rfl, _, rfl, ?_⟩
      refine if_false_of (by rw [beq_shown rfl]; rfl) ?_
      exact ⟨Same.tr kG (Same.tr g1 (Same.tr g2 (Same.tr g3 (Same.tr (Same.put e1) (Same.put e2))))), _, _, rfl⟩
    · rintro σ G ⟨kG, o1, o2, rfl⟩
      have bG := bw.keep kG
      have kpG : Keep p H G := kpw.trans (Keep.of kG)
      refine ⟨(by show 1 ≤ sizeLine; decide), fun l1 e1 => ?_⟩
      refine ⟨(by show 1 ≤ sizeLine; decide), fun l2 e2 => ?_⟩
      have s1 : Same G (upd G l1 (.lst [.str "a"])) := Same.put e1
      have s2 : Same (upd G l1 (.lst [.str "a"])) (upd (upd G l1 (.lst [.str "a"])) l2 (.tup [.str "a"])) := Same.put e2
      have f1 := s2 _ _ (show (upd G l1 (.lst [V.str "a"])) l1 = some (.lst [.str "a"]) from upd_same)
      have f2 : (upd (upd G l1 (.lst [V.str "a"])) l2 (.tup [.str "a"])) l2 = some (.tup [.str "a"]) := upd_same
      have s12 := Same.tr s1 s2
      generalize upd (upd G l1 (.lst [V.str "a"])) l2 (.tup [.str "a"]) = G2 at f1 f2 s12 ⊢
      clear s1 s2
      intro l3 e3
      refine ⟨upd_same, [(Sum.inr "a", .int 1)], rfl, by decide, ?_⟩
      rw [upd_upd]
      have s3 := Same.tr s12 (Same.put (o := .dK (mergeK [] [(Sum.inr ("a" : Str), V.int 1)])) e3)
      have f13 := Same.put (o := .dK (mergeK [] [(Sum.inr ("a" : Str), V.int 1)])) e3 _ _ f1
      have f23 := Same.put (o := .dK (mergeK [] [(Sum.inr ("a" : Str), V.int 1)])) e3 _ _ f2
      have f33 : (upd G2 l3 (.dK (mergeK [] [(Sum.inr ("a" : Str), V.int 1)]))) l3 = some (.dK (mergeK [] [(Sum.inr ("a" : Str), V.int 1)])) := upd_same
      generalize upd G2 l3 (.dK (mergeK [] [(Sum.inr ("a" : Str), V.int 1)])) = G3 at s3 f13 f23 f33 ⊢
      refine ⟨(by show 0 ≤ sizeLine; decide), fun l4 e4 => ?_⟩
      have s4 : Same G3 (upd G3 l4 (.lst [])) := Same.put e4
      have f44 : (upd G3 l4 (.lst [])) l4 = some (.lst []) := upd_same
      generalize upd G3 l4 (.lst []) = G4 at s4 f44 ⊢
      intro bk dx nb ndx nex
      refine ⟨bk, dx, _, rfl, upd_same, emp_tup eT, fun G5 fs hbk kb => ⟨rfl, ?_⟩⟩
      have s5 : Same G4 G5 := Same.made nb ndx (fun b o e hb => kb b o hb e)
      refine ⟨(by show 0 ≤ sizeLine; decide), fun a1 x1 => ⟨(by show 0 ≤ sizeLine; decide), fun a2 x2 => ⟨(by show 0 ≤ sizeLine; decide), fun a3 x3 => ?_⟩⟩⟩
      have s6 := Same.tr (Same.put (o := .lst []) x1) (Same.tr (Same.put (o := .lst []) x2) (Same.put (o := .lst []) x3))
      have y3 : (upd (upd (upd G5 a1 (.lst [])) a2 (.lst [])) a3 (.lst [])) a3 = some (.lst []) := upd_same
      have y2' : (upd (upd (upd G5 a1 (.lst [])) a2 (.lst [])) a3 (.lst [])) a2 = some (.lst []) := Same.put x3 _ _ upd_same
      have y1 : (upd (upd (upd G5 a1 (.lst [])) a2 (.lst [])) a3 (.lst [])) a1 = some (.lst []) := Same.put x3 _ _ (Same.put x2 _ _ upd_same)
      generalize upd (upd (upd G5 a1 (.lst [])) a2 (.lst [])) a3 (.lst []) = G6 at s6 y1 y2' y3 ⊢
      intro nt dx2 nb2 ndx2 nex2
      have sm2 : Same G6 (upd (upd G6 dx2 (.own nt)) nt (.ins CNt dx2 [])) := Same.made nb2 ndx2 (fun b o e hb => e)
      refine ⟨nt, dx2, _, _, _, _, rfl, upd_same, emp_of (sm2 _ _ y1), emp_of (sm2 _ _ y2'), emp_of (sm2 _ _ y3), emp_tup eN, fun G7 fs7 hnt kb7 => ⟨rfl, ?_⟩⟩
      have s7 : Same G6 G7 := Same.made nb2 ndx2 (fun b o e hb => kb7 b o hb e)
      refine ⟨rfl, by decide, fun ex G8 nx8 s8 hex => ?_⟩
      refine ⟨(by show 10 ≤ sizeLine; decide), fun lt et => ?_⟩
      have s9 : Same G8 (upd G8 lt (.lst [.non, .int 3, .bl true, .ref l1, .ref l2, .ref l3, .ref l4, .ref bk, .ref nt, .ref ex])) := Same.put et
      have hlt : (upd G8 lt (.lst [.non, .int 3, .bl true, .ref l1, .ref l2, .ref l3, .ref l4, .ref bk, .ref nt, .ref ex])) lt = some (.lst [.non, .int 3, .bl true, .ref l1, .ref l2, .ref l3, .ref l4, .ref bk, .ref nt, .ref ex]) := upd_same
      generalize upd G8 lt (.lst [.non, .int 3, .bl true, .ref l1, .ref l2, .ref l3, .ref l4, .ref bk, .ref nt, .ref ex]) = G9 at s9 hlt ⊢
      have s49 := Same.tr s5 (Same.tr s6 (Same.tr s7 (Same.tr s8 s9)))
      have s39 := Same.tr s4 s49
      have s69 := Same.tr s7 (Same.tr s8 s9)
      have odd : ∀ x ∈ ([.non, .int 3, .bl true, .ref l1, .ref l2, .ref l3, .ref l4, .ref bk, .ref nt, .ref ex] : List V), ∃ k, Vk K G9 x k ∧ k ≠ "str" := by
        intro x hx
        simp only [List.mem_cons, List.not_mem_nil, or_false] at hx
        rcases hx with e | e | e | e | e | e | e | e | e | e <;> subst e
        · exact ⟨_, vk_non, by decide⟩
        · exact ⟨_, vk_int 3, by decide⟩
        · exact ⟨_, vk_bl true, by decide⟩
        · exact ⟨_, vk_list (SqL.of (s39 _ _ f13)), by decide⟩
        · exact ⟨_, vk_tuple (SqT.of (s39 _ _ f23)), by decide⟩
        · exact ⟨_, vk_dict (s39 _ _ f33), by decide⟩
        · exact ⟨_, vk_list (SqL.of (s49 _ _ f44)), by decide⟩
        · exact ⟨_, vk_ins IB (Same.tr s6 s69 _ _ hbk), by decide⟩
        · exact ⟨_, vk_ins IN2 (Same.tr s8 s9 _ _ hnt), by decide⟩
        · obtain ⟨fse, he, _⟩ := hex.mono s9
          exact ⟨_, vk_exc TE noE he, by decide⟩
      have sG9 := Same.tr s3 s39
      clear s39 s49 s69 s3 s4 s5 s6 s7 s8 s9 f13 f23 f33 f44 hbk hnt hex kb kb7
      refine ⟨_, rfl, lt, rfl, ⟨_, SqL.of hlt⟩, fun D hD => ?_⟩
      refine lc_it (walk_list (xs := [.non, .int 3, .bl true, .ref l1, .ref l2, .ref l3, .ref l4, .ref bk, .ref nt, .ref ex])) (fun i M => Same G9 M ∧ M D = some (.lst ((List.replicate i false).map V.bl))) ⟨Same.put hD, upd_same⟩ (fun i M _ hM => SqL.of (hM.1 _ _ hlt)) ?_ ?_
      · rintro i x M M' hi ⟨ms, mD⟩ ⟨rfl, hx⟩
        obtain ⟨k, vk, hk⟩ := odd x (List.mem_of_getElem? hx)
        refine ⟨rfl, _, rfl, ?_⟩
        dsimp only [tNil]
        refine ⟨x, k, rfl, vk.mono ms, fun _ => ?_, fun z e => absurd (str_kind (vk.mono ms) e) hk⟩
        have hi' : i < 10 := hi
        refine ⟨_, mD, ?_, fun b o e => (upd_ne (ne_of_none e hD)).trans (ms _ _ e), ?_⟩
        · rw [List.length_map, List.length_replicate, PySem.sizeLine_eq]
          omega
        · rw [upd_same, List.replicate_succ', List.map_append]
          rfl
      · rintro M ⟨ms, mD⟩
        have n10 : Nice 10 1 (.list ((List.replicate 10 false).map PyData.bool)) := (niceAll_bools (List.replicate 10 false)).list
        try dsimp only [tNil]
        refine rReprD_of (.lst (SqL.of mD) (ddAll_bools _)) n10 (by decide) (by decide) ?_
        refine ⟨(by show 1 ≤ sizeLine; decide), fun l5 e5 => ?_⟩
        refine ⟨l5, 10, _, rfl, rfl, upd_same, by decide, by decide, by decide, fun l6 e6 => ?_⟩
        try dsimp only [tNil]
        refine rReprD_of (.lst (SqL.of upd_same) (ddAll_bools (List.replicate 10 false))) n10 (by decide) (by decide) ?_
        have s5 : Same M (upd M l5 (.lst [.bl false])) := Same.put e5
        have e6' : upd M l5 (.lst [V.bl false]) l6 = none := e6
        refine ok_dec' rfl (q _ (((bG.keep sG9).keep (Same.tr ms (Same.tr s5 (Same.put e6')))).mono (by omega)) (kpG.trans (Keep.of (Same.tr sG9 (Same.tr ms (Same.tr s5 (Same.put e6')))))))

theorem chain_vars {i j k : Nat} {x y z : Int} {σ : L2.St} {H : Hp} {Q : VK} (hi : σ[i]? = some (some (.int x))) (hj : σ[j]? = some (some (.int y))) (hk : σ[k]? = some (some (.int z))) (q : Q (.bl (decide (x ≤ y ∧ y ≤ z))) H) :
    tChain (rI0 fun i j => V.bl (decide (i ≤ j))) (rI0 fun i j => V.bl (decide (i ≤ j))) (tVar i) (tVar j) (tVar k) σ H Q := by
  refine ⟨_, hi, _, hj, _, _, rfl, rfl, _, rfl, ?_⟩
  refine ite2 (fun h2 => ?_) (fun h2 => ?_)
  · refine ⟨_, hk, _, _, rfl, rfl, ?_⟩
    rwa [show decide (x ≤ y ∧ y ≤ z) = decide (y ≤ z) from decide_eq_decide.mpr ⟨fun z => z.2, fun z => ⟨of_decide_eq_true h2, z⟩⟩] at q
  · rwa [show decide (x ≤ y ∧ y ≤ z) = false from decide_eq_false fun z => h2 (decide_eq_true z.1)] at q
def rotI {α : Type} : List α → List α
  | [h, v, l] => [v, l, h]
  | xs => xs
def spIrt (K : PySem.W.Frag) : Sp := fun vs H Q _ => ∃ (p : Addr) (n : Nat), vs = [.ref p] ∧ BoxAt H p n ∧ n ≤ 1000 ∧ ∀ H', BoxAt H' p (n + 90) → Keep p H H' → Q (.bl true) H'

abbrev sIrt : Stmt := top 79
abbrev nIrt : List Str := ["_law_box_here", "_law_scale", "_law_floor", "_law_roof", "_law_amount", "_law_due", "_law_found", "_law_things", "_law_thing"]
theorem scIrt : FnScope nIrt ["_law_box_here"] (defScope sIrt) := ⟨rfl, rfl, rfl, by decide +kernel, rfl, by decide +kernel, by decide +kernel⟩

theorem ok_Irt (F : Fun K "_law_integers_right" "_law_integers_right" sIrt f fd) {tE : Addr} (T : TxtL mg) (C : Cg P w K mg base 1 "_law_take" spTake) (II : Cg P w K mg base 2 "is_integer" (spInteger K)) (IIk : Cn P w K mg base 2 "is_integer" 0 ["high", "value", "low"] (fun vs zs => vs ++ rotI zs) (spInteger K)) {CB : Addr} (S : Sm K) (MB : Cm P w K mg base 2 "Book" CB [.ref tE] (spB0 K CB)) (IB : InsK K CB) (eT : ∃ (o : Obj) (n : Nat), K.lookup tE = some o ∧ o.cls = .type "tuple" ∧ o.data = .seq #[] n) : FnG P w K mg base CX0 8 f fd ["_law_box_here"] (spIrt K) := by
  refine FunG.ok F scIrt (fun vs H Q E h => ?_) (fun cdv B out s H vs Q E hr hG h => ?_)
  · obtain ⟨p, n, rfl, _⟩ := h
    rfl
  · obtain ⟨p, n, rfl, hb, hn, q⟩ := h
    refine ⟨_, (pss_cons (ps_set (i := 1) scIrt.nd rfl (.inl rfl) (pe_ix ix_list (pe_lst (pa_cons pe_int (pa_cons (pe_op op_pow pe_int pe_int) (pa_cons (pe_op op_pow pe_int pe_int) (pa_cons (pe_op op_pow pe_int pe_int) (pa_cons (pe_op op_pow pe_int pe_int) pa_nil)))))) (pe_g C hr hG (by decide) (by rfl) (pa_cons (pv 0) (pa_cons pe_int pa_nil))) fun _ _ => rfl))
      (pss_cons (ps_set (i := 2) scIrt.nd rfl (.inl rfl) (pe_op op_addL (pe_op op_mul (pe_op op_sub (pe_g C hr hG (by decide) (by rfl) (pa_cons (pv 0) (pa_cons pe_int pa_nil))) pe_int) (pv 1)) (pe_g C hr hG (by decide) (by rfl) (pa_cons (pv 0) (pa_cons pe_int pa_nil)))))
      (pss_cons (ps_set (i := 3) scIrt.nd rfl (.inl rfl) (pe_op op_addL (pv 2) (pe_op op_mul (pe_op op_sub (pe_g C hr hG (by decide) (by rfl) (pa_cons (pv 0) (pa_cons pe_int pa_nil))) pe_int) (pe_ix ix_list (pe_lst (pa_cons pe_int (pa_cons (pv 1) pa_nil))) (pe_g C hr hG (by decide) (by rfl) (pa_cons (pv 0) (pa_cons pe_int pa_nil))) fun _ _ => rfl))))
      (pss_cons (ps_for PassesOwn.never rfl (pi_list (pe_lst (pa_cons (pv 2) (pa_cons (pv 3) (pa_cons (pe_op op_sub (pv 2) pe_int) (pa_cons (pe_op op_add (pv 3) pe_int) (pa_cons (pe_op op_fdiv (pe_op op_add (pv 2) (pv 3)) pe_int) (pa_cons pe_int (pa_cons pe_int (pa_cons (pe_op op_sub pe_int (pv 2)) pa_nil)))))))))) (pg_name (i := 4) scIrt.nd rfl (Or.inl rfl)) (pss_cons (ps_set (i := 5) scIrt.nd rfl (.inl rfl) (pe_chain op_le op_le (pv 2) (pv 4) (pv 3)))
        (pss_cons (ps_set (i := 6) scIrt.nd rfl (.inl rfl) (pe_lst (pa_cons (pe_g II hr hG (by decide) (by rfl) (pa_cons (pv 4) (pa_cons (pv 2) (pa_cons (pv 3) pa_nil)))) (pa_cons (pe_cn0 IIk hr hG (by decide) (by rfl) (pk_cons (pv 3) (pk_cons (pv 4) (pk_cons (pv 2) pk_nil)))) pa_nil))))
        (pss_one (ps_if (pt_cmpR op_ne (pe_callB (call_reprD S hr hG) (by rfl) T.repr (by decide +kernel) (pa_cons (pv 6) pa_nil)) (pe_callB (call_reprD S hr hG) (by rfl) T.repr (by decide +kernel) (pa_cons (pe_lst (pa_cons (pv 5) (pa_cons (pv 5) pa_nil))) pa_nil)) (nomark _)) (pss_one (ps_ret pe_bl)) pss_nil)))))
      (pss_cons (ps_set (i := 7) scIrt.nd rfl (.inl rfl) (pe_lst (pa_cons pe_bl (pa_cons pe_bl (pa_cons pe_non (pa_cons pe_str (pa_cons (pe_lst (pa_cons pe_int pa_nil)) (pa_cons (pe_tup (pa_cons pe_int pa_nil)) (pa_cons (pe_disp (pps_cons pe_int pe_int pps_nil) (by rfl) (by rfl) (fun z => by cases z) (by decide)) (pa_cons (pe_cm0 MB hr hG (by decide) (by rfl)) pa_nil))))))))))
      (pss_one (ps_ret (pe_cmpR op_eq (pe_callB (call_reprD S hr hG) (by rfl) T.repr (by decide +kernel) (pa_cons (pe_lc (own := [("_law_thing", 8)]) (g := gName 8) (tt := tYes) rfl scIrt.nd (pi_list (pv 7)) (blkOk_by (N := nIrt) (sc := defScope sIrt) (by decide +kernel)) (fun _ _ _ _ _ => pg_name (i := 8) scIrt.nd rfl (Or.inl rfl)) (fun _ _ _ _ _ => pts_nil) (fun _ _ _ _ _ => (pe_g II hr hG (by decide) (by rfl) (pa_cons (pv 8) (pa_cons (pe_op op_sub pe_int pe_int) (pa_cons pe_int pa_nil)))))) pa_nil)) (pe_callB (call_reprD S hr hG) (by rfl) T.repr (by decide +kernel) (pa_cons (pe_op op_rep (pe_lst (pa_cons pe_bl pa_nil)) pe_int) pa_nil)) (nomark _))))))))), ?_⟩
    refine ⟨_, _, rfl, rfl, ⟨by decide, by decide, by decide⟩, _, _, rfl, rfl, ⟨by decide, by decide, by decide⟩, _, _, rfl, rfl, ⟨by decide, by decide, by decide⟩, _, _, rfl, rfl, ⟨by decide, by decide, by decide⟩, (by show 5 ≤ sizeLine; decide), fun l0 e0 => ?_⟩
    refine ⟨_, rfl, p, 5, n, rfl, hb.new e0, by decide, by decide, by omega, fun d1 H1 a1 b1 hb1 k1 => ?_⟩
    have np0 : l0 ≠ p := (hb.ne e0).symm
    have kp1 : Keep p H H1 := (Keep.new e0).trans (keep_of k1)
    have h1 := (k1 l0 np0).trans upd_same
    obtain ⟨v, hv, av⟩ := atI_in (xs := [V.int 1, .int (10 ^ (5 : Int).toNat), .int (10 ^ (13 : Int).toNat), .int (10 ^ (21 : Int).toNat), .int (10 ^ (26 : Int).toNat)]) a1 b1
    obtain ⟨sc, rfl⟩ : ∃ sc : Int, v = .int sc := by
      simp only [List.mem_cons, List.not_mem_nil, or_false] at hv
      rcases hv with e | e | e | e | e <;> exact ⟨_, e⟩
    refine ⟨l0, _, _, _, rfl, rfl, SqL.of h1, av, ?_⟩
    clear av hv
    refine ⟨_, rfl, p, 2001, n + 1, rfl, hb1, by decide, by decide, by omega, fun d2 H2 a2 b2 hb2 k2 => ?_⟩
    refine ⟨_, _, rfl, rfl, _, rfl, _, _, rfl, rfl, .inl ⟨by omega, by omega⟩, _, rfl, p, 9, n + 2, rfl, hb2, by decide, by decide, by omega, fun d3 H3 a3 b3 hb3 k3 => ?_⟩
    refine ⟨_, _, rfl, rfl, fun fl _ => ?_⟩
    have kp3 : Keep p H H3 := kp1.trans ((keep_of k2).trans (keep_of k3))
    refine ⟨_, rfl, _, rfl, p, 2001, n + 3, rfl, hb3, by decide, by decide, by omega, fun d4 H4 a4 b4 hb4 k4 => ?_⟩
    refine ⟨_, _, rfl, rfl, _, rfl, (by show 2 ≤ sizeLine; decide), fun l5 e5 => ?_⟩
    refine ⟨_, rfl, p, 2, n + 4, rfl, hb4.new e5, by decide, by decide, by omega, fun d6 H6 a6 b6 hb6 k6 => ?_⟩
    have np5 : l5 ≠ p := (hb4.ne e5).symm
    have h6 := (k6 l5 np5).trans upd_same
    obtain ⟨v, hv, av⟩ := atI_in (xs := [V.int 1, .int sc]) a6 b6
    obtain ⟨s2, rfl⟩ : ∃ s2 : Int, v = .int s2 := by
      simp only [List.mem_cons, List.not_mem_nil, or_false] at hv
      rcases hv with e | e <;> exact ⟨_, e⟩
    refine ⟨l5, _, _, _, rfl, rfl, SqL.of h6, av, _, _, rfl, rfl, .inl ⟨by omega, by omega⟩, _, _, rfl, rfl, fun ro _ => ?_⟩
    clear av hv
    have kp6 : Keep p H H6 := kp3.trans ((keep_of k4).trans ((Keep.new e5).trans (keep_of k6)))
    refine ⟨_, rfl, _, rfl, _, rfl, _, _, rfl, rfl, _, rfl, _, _, rfl, rfl, _, rfl, _, rfl, _, _, rfl, rfl, _, _, rfl, rfl, ⟨by decide, by decide⟩, _, rfl, _, _, rfl, rfl, (by show 8 ≤ sizeLine; decide), fun lw ew => ?_⟩
    have am : ∀ v ∈ ([.int fl, .int ro, .int (fl - 1), .int (ro + 1), .int ((fl + ro) / 2), .int 0, .int 1, .int (0 - fl)] : List V), ∃ i : Int, v = .int i := by
      intro v hv
      simp only [List.mem_cons, List.not_mem_nil, or_false] at hv
      rcases hv with e | e | e | e | e | e | e | e <;> exact ⟨_, e⟩
    have hlen : ([.int fl, .int ro, .int (fl - 1), .int (ro + 1), .int ((fl + ro) / 2), .int 0, .int 1, .int (0 - fl)] : List V).length = 8 := rfl
    generalize ([.int fl, .int ro, .int (fl - 1), .int (ro + 1), .int ((fl + ro) / 2), .int 0, .int 1, .int (0 - fl)] : List V) = ws at am hlen ⊢
    have bw := hb6.new (o := .lst ws) ew
    have kpw : Keep p H (upd H6 lw (.lst ws)) := kp6.trans (Keep.new ew)
    have hw : (upd H6 lw (.lst ws)) lw = some (.lst ws) := upd_same
    generalize upd H6 lw (.lst ws) = G0 at bw kpw hw ⊢
    refine ⟨lw, rfl, ⟨_, SqL.of hw⟩, for_it (walk_list (xs := ws)) (fun _ σ G => Same G0 G ∧ ∃ o4 o5 o6, σ = [some (.ref p), some (.int sc), some (.int fl), some (.int ro), o4, o5, o6, none, none]) ⟨Same.refl _, none, none, none, rfl⟩ (fun i σ G _ h => SqL.of (h.1 _ _ hw)) ?_ ?_⟩
    · rintro i x σ G G' hi ⟨kG, o4, o5, o6, rfl⟩ ⟨rfl, hx⟩
      obtain ⟨y, rfl⟩ := am x (List.mem_of_getElem? hx)
      have vy : ∀ G, Vk K G (.int y) "int" := fun G => vk_int y
      refine chain_vars rfl rfl rfl ?_
      dsimp only [gName]
      refine ⟨_, rfl, _, rfl, _, rfl, .int y, fl, ro, "int", rfl, vy _, fun e => absurd rfl e, fun i e => ?_⟩
      cases e
      refine ⟨_, rfl, _, rfl, _, rfl, rfl, rfl, ?_⟩
      dsimp only [tNil]
      refine ⟨.int y, fl, ro, "int", rfl, vy _, fun e => absurd rfl e, fun i e => ?_⟩
      cases e
      generalize decide (fl ≤ y ∧ y ≤ ro) = b
      refine ⟨(by show 2 ≤ sizeLine; decide), fun l1 e1 => ?_⟩
      have s1 : Same G' (upd G' l1 (.lst [.bl b, .bl b])) := Same.put e1
      have g1 : (upd G' l1 (.lst [V.bl b, .bl b])) l1 = some (.lst [.bl b, .bl b]) := upd_same
      refine ⟨_, rfl, ?_⟩
      try dsimp only [tNil]
      refine rReprD_of (.lst (SqL.of g1) (.cons (.bl b) (.cons (.bl b) .nil))) (pair_nice b b) (by decide) (by decide) ?_
      refine ⟨_, rfl, _, rfl, (by show 2 ≤ sizeLine; decide), fun l2 e2 => ?_⟩
      try dsimp only [tNil]
      refine rReprD_of (.lst (SqL.of upd_same) (.cons (.bl b) (.cons (.bl b) .nil))) (pair_nice b b) (by decide) (by decide) ?_
      refine ⟨rfl, _, rfl, ?_⟩
      refine if_false_of (by rw [beq_shown rfl]; rfl) ?_
      exact ⟨Same.tr kG (Same.tr s1 (Same.put e2)), _, _, _, rfl⟩
    · rintro σ G ⟨kG, o4, o5, o6, rfl⟩
      have bG := bw.keep kG
      have kpG : Keep p H G := kpw.trans (Keep.of kG)
      refine ⟨(by show 1 ≤ sizeLine; decide), fun l1 e1 => ?_⟩
      refine ⟨(by show 1 ≤ sizeLine; decide), fun l2 e2 => ?_⟩
      have s1 : Same G (upd G l1 (.lst [.int 1])) := Same.put e1
      have s2 : Same (upd G l1 (.lst [.int 1])) (upd (upd G l1 (.lst [.int 1])) l2 (.tup [.int 1])) := Same.put e2
      have f1 := s2 _ _ (show (upd G l1 (.lst [V.int 1])) l1 = some (.lst [.int 1]) from upd_same)
      have f2 : (upd (upd G l1 (.lst [V.int 1])) l2 (.tup [.int 1])) l2 = some (.tup [.int 1]) := upd_same
      have s12 := Same.tr s1 s2
      generalize upd (upd G l1 (.lst [V.int 1])) l2 (.tup [.int 1]) = G2 at f1 f2 s12 ⊢
      clear s1 s2
      intro l3 e3
      refine ⟨upd_same, [(Sum.inl 1, .int 1)], rfl, by decide, ?_⟩
      rw [upd_upd]
      have s3 := Same.tr s12 (Same.put (o := .dK (mergeK [] [(Sum.inl 1, V.int 1)])) e3)
      have f13 := Same.put (o := .dK (mergeK [] [(Sum.inl 1, V.int 1)])) e3 _ _ f1
      have f23 := Same.put (o := .dK (mergeK [] [(Sum.inl 1, V.int 1)])) e3 _ _ f2
      have f33 : (upd G2 l3 (.dK (mergeK [] [(Sum.inl 1, V.int 1)]))) l3 = some (.dK (mergeK [] [(Sum.inl 1, V.int 1)])) := upd_same
      generalize upd G2 l3 (.dK (mergeK [] [(Sum.inl 1, V.int 1)])) = G3 at s3 f13 f23 f33 ⊢
      intro bk dx nb ndx nex
      refine ⟨bk, dx, _, rfl, upd_same, emp_tup eT, fun G5 fs hbk kb => ⟨rfl, ?_⟩⟩
      have s5 : Same G3 G5 := Same.made nb ndx (fun b o e hb => kb b o hb e)
      refine ⟨(by show 8 ≤ sizeLine; decide), fun lt et => ?_⟩
      have s9 : Same G5 (upd G5 lt (.lst [.bl true, .bl false, .non, .str "1", .ref l1, .ref l2, .ref l3, .ref bk])) := Same.put et
      have hlt : (upd G5 lt (.lst [.bl true, .bl false, .non, .str "1", .ref l1, .ref l2, .ref l3, .ref bk])) lt = some (.lst [.bl true, .bl false, .non, .str "1", .ref l1, .ref l2, .ref l3, .ref bk]) := upd_same
      generalize upd G5 lt (.lst [.bl true, .bl false, .non, .str "1", .ref l1, .ref l2, .ref l3, .ref bk]) = G9 at s9 hlt ⊢
      have s39 := Same.tr s5 s9
      have odd : ∀ x ∈ ([.bl true, .bl false, .non, .str "1", .ref l1, .ref l2, .ref l3, .ref bk] : List V), ∃ k, Vk K G9 x k ∧ k ≠ "int" ∧ ∀ i, x ≠ .int i := by
        intro x hx
        simp only [List.mem_cons, List.not_mem_nil, or_false] at hx
        rcases hx with e | e | e | e | e | e | e | e <;> subst e
        · exact ⟨_, vk_bl true, by decide, fun i z => by cases z⟩
        · exact ⟨_, vk_bl false, by decide, fun i z => by cases z⟩
        · exact ⟨_, vk_non, by decide, fun i z => by cases z⟩
        · exact ⟨_, vk_str "1" (by decide +kernel), by decide, fun i z => by cases z⟩
        · exact ⟨_, vk_list (SqL.of (s39 _ _ f13)), by decide, fun i z => by cases z⟩
        · exact ⟨_, vk_tuple (SqT.of (s39 _ _ f23)), by decide, fun i z => by cases z⟩
        · exact ⟨_, vk_dict (s39 _ _ f33), by decide, fun i z => by cases z⟩
        · exact ⟨_, vk_ins IB (s9 _ _ hbk), by decide, fun i z => by cases z⟩
      have sG9 := Same.tr s3 s39
      clear s39 s3 s5 s9 f13 f23 f33 hbk kb
      refine ⟨_, rfl, lt, rfl, ⟨_, SqL.of hlt⟩, fun D hD => ?_⟩
      refine lc_it (walk_list (xs := [.bl true, .bl false, .non, .str "1", .ref l1, .ref l2, .ref l3, .ref bk])) (fun i M => Same G9 M ∧ M D = some (.lst ((List.replicate i false).map V.bl))) ⟨Same.put hD, upd_same⟩ (fun i M _ hM => SqL.of (hM.1 _ _ hlt)) ?_ ?_
      · rintro i x M M' hi ⟨ms, mD⟩ ⟨rfl, hx⟩
        obtain ⟨k, vk, hk, hni⟩ := odd x (List.mem_of_getElem? hx)
        refine ⟨rfl, _, rfl, _, _, rfl, rfl, ?_⟩
        dsimp only [tNil]
        refine ⟨x, _, _, k, rfl, vk.mono ms, fun _ => ?_, fun z e => absurd e (hni z)⟩
        have hi' : i < 8 := hi
        refine ⟨_, mD, ?_, fun b o e => (upd_ne (ne_of_none e hD)).trans (ms _ _ e), ?_⟩
        · rw [List.length_map, List.length_replicate, PySem.sizeLine_eq]
          omega
        · rw [upd_same, List.replicate_succ', List.map_append]
          rfl
      · rintro M ⟨ms, mD⟩
        have n10 : Nice 8 1 (.list ((List.replicate 8 false).map PyData.bool)) := (niceAll_bools (List.replicate 8 false)).list
        try dsimp only [tNil]
        refine rReprD_of (.lst (SqL.of mD) (ddAll_bools _)) n10 (by decide) (by decide) ?_
        refine ⟨(by show 1 ≤ sizeLine; decide), fun l5 e5 => ?_⟩
        refine ⟨l5, 8, _, rfl, rfl, upd_same, by decide, by decide, by decide, fun l6 e6 => ?_⟩
        try dsimp only [tNil]
        refine rReprD_of (.lst (SqL.of upd_same) (ddAll_bools (List.replicate 8 false))) n10 (by decide) (by decide) ?_
        have s5 : Same M (upd M l5 (.lst [.bl false])) := Same.put e5
        have e6' : upd M l5 (.lst [V.bl false]) l6 = none := e6
        refine ok_dec' rfl (q _ (((bG.keep sG9).keep (Same.tr ms (Same.tr s5 (Same.put e6')))).mono (by omega)) (kpG.trans (Keep.of (Same.tr sG9 (Same.tr ms (Same.tr s5 (Same.put e6')))))))

end
end T02
set_option Elab.async false
set_option linter.all false
set_option maxRecDepth 100000
set_option maxHeartbeats 4000000
/-! the heap without some addresses: data that lies apart from a box -/
namespace Tp
open PySem PySem.Spec PyProof.Rows L2
/-- all that is tracked but at p and q -/
def rs (p q : Addr) (G : Hp) : Hp := fun b => if b = p ∨ b = q then none else G b
section
variable {p q a : Addr} {G G' : Hp} {o : HO}
theorem rs_same : Same (rs p q G) G := fun b u e => by
  unfold rs at e
  split at e
  · cases e
  · exact e
theorem rs_at (h1 : a ≠ p) (h2 : a ≠ q) (e : G a = some o) : rs p q G a = some o := by
  unfold rs
  rw [if_neg fun z => z.elim h1 h2]
  exact e
theorem rs_keep (k : Keep2 p q G G') : Same (rs p q G) (rs p q G') := fun b u e => by
  unfold rs at e ⊢
  split at e
  · cases e
  · rename_i h
    rw [if_neg h]
    exact k b u (fun z => h (.inl z)) (fun z => h (.inr z)) e
theorem rs_keep1 (k : Keep p G G') : Same (rs p p G) (rs p p G') := rs_keep (Keep2.of k)
theorem rs_more : Same (rs p q G) (rs p p G) := fun b u e => by
  unfold rs at e ⊢
  split at e
  · cases e
  · rename_i h
    rw [if_neg fun z => h (.inl (z.elim id id))]
    exact e
theorem rs_up (k : Same G G') : Same (rs p q G) (rs p q G') := rs_keep fun b u _ _ e => k b u e
/-- a new object beside a box -/
theorem alloc {n : Nat} (hb : BoxAt G p n) (e : G a = none) : BoxAt (upd G a o) p n ∧ Same (rs p p G) (rs p p (upd G a o)) ∧ rs p p (upd G a o) a = some o ∧ Keep p G (upd G a o) ∧ Same G (upd G a o) :=
  ⟨hb.new e, rs_up (Same.put e), rs_at (hb.ne e).symm (hb.ne e).symm upd_same, Keep.new e, Same.put e⟩
end
/-- one of two targets -/
def gOr (g1 g2 : TG) : TG := fun v σ H Q => g1 v σ H Q ∨ g2 v σ H Q
theorem pg_or {X : Cx} {tg : Expr} {g1 g2 : TG} (h1 : PG X tg g1) (h2 : PG X tg g2) : PG X tg (gOr g1 g2) :=
  ⟨fun pins s σ H v u Q I r hw => hw.elim (h1.run pins s σ H v u Q I r) (h2.run pins s σ H v u Q I r)⟩
theorem pair_of {K : PySem.W.Frag} {H : Hp} {a : Addr} {xs : List V} {n : Nat} {t : TGs} {σ : L2.St} {Q : L2.St → Hp → Prop} (h : SqA K H a xs) (hn : xs.length = n) (q : t xs σ H Q) : gOr (gTup K n t) (gLst K n t) (.ref a) σ H Q :=
  h.elim (fun h => .inr ⟨a, xs, rfl, h, hn, q⟩) fun h => .inl ⟨a, xs, rfl, h, hn, q⟩
mutual
/-- data whose texts have small signs -/
def smD : PyData → Bool
  | .str z => (TL.tl z).all fun c => decide (c < 256)
  | .list ds => smAll ds
  | .tuple ds => smAll ds
  | .none => true
  | .bool _ => true
  | .int _ => true
  | .dict _ => true
def smAll : List PyData → Bool
  | [] => true
  | d :: ds => smD d && smAll ds
end
theorem smAll_get : ∀ {ds : List PyData} {i : Nat} {d : PyData}, smAll ds = true → ds[i]? = some d → smD d = true
  | d :: ds, 0, _, h, e => by
    cases e
    simp only [smAll, Bool.and_eq_true] at h
    exact h.1
  | d :: ds, i + 1, _, h, e => by
    simp only [smAll, Bool.and_eq_true] at h
    exact smAll_get (i := i) h.2 e
theorem smD_seq {d : PyData} {ds : List PyData} (h : smD d = true) (e : seqD d = some ds) : smAll ds = true := by
  cases d with
  | list xs =>
    cases e
    simpa only [smD] using h
  | tuple xs =>
    cases e
    simpa only [smD] using h
  | _ => cases e
theorem smD_str {z : Str} (h : smD (.str z) = true) : ∀ c ∈ TL.tl z, c < 256 := fun c hc => by
  simp only [smD] at h
  exact of_decide_eq_true (List.all_eq_true.mp h c hc)
theorem smD_tz {n : Nat} {z : Str} (h : Tz n z) : smD (.str z) = true := by
  simp only [smD]
  exact List.all_eq_true.mpr fun c hc => decide_eq_true (h.sm c hc)
theorem smAll_of : ∀ {ds : List PyData}, (∀ d ∈ ds, smD d = true) → smAll ds = true
  | [], _ => rfl
  | d :: ds, h => by
    simp only [smAll, Bool.and_eq_true]
    exact ⟨h d List.mem_cons_self, smAll_of fun x hx => h x (List.mem_cons_of_mem _ hx)⟩
theorem smAll_mem : ∀ {ds : List PyData}, smAll ds = true → ∀ d ∈ ds, smD d = true
  | d :: ds, h, x, hx => by
    simp only [smAll, Bool.and_eq_true] at h
    rcases List.mem_cons.mp hx with e | e
    · subst e
      exact h.1
    · exact smAll_mem h.2 x e
mutual
/-- data without dicts are what the layer knows -/
theorem dp_of_dd {K : PySem.W.Frag} {H : Hp} : ∀ (d : PyData) (v : V), Dd K H v d → d.hasDict = false → Dp K H v d
  | .none, _, h, _ => by cases h; exact .non
  | .bool _, _, h, _ => by cases h; exact .bl _
  | .int _, _, h, _ => by cases h; exact .int _
  | .str _, _, h, _ => by cases h; exact .str _
  | .list ds, _, h, e => by
    cases h with
    | lst hs ha => exact .lst hs (dp_of_ddAll ds _ ha (by simpa only [PyData.hasDict] using e))
  | .tuple ds, _, h, e => by
    cases h with
    | tup hs ha => exact .tup hs (dp_of_ddAll ds _ ha (by simpa only [PyData.hasDict] using e))
  | .dict _, _, _, e => by simp [PyData.hasDict] at e
theorem dp_of_ddAll {K : PySem.W.Frag} {H : Hp} : ∀ (ds : List PyData) (vs : List V), DdAll K H vs ds → PyData.hasDictAll ds = false → DpAll K H vs ds
  | [], _, h, _ => by cases h; exact .nil
  | d :: ds, _, h, e => by
    cases h with
    | cons h1 h2 =>
      simp only [PyData.hasDictAll, Bool.or_eq_false_iff] at e
      exact .cons (dp_of_dd d _ h1 e.1) (dp_of_ddAll ds _ h2 e.2)
end
/-- data that may be shown and asked -/
structure Gd (n k : Nat) (d : PyData) : Prop where
  nc : Nice n k d
  sm : smD d = true
theorem Gd.mono {n k m j : Nat} {d : PyData} (h : Gd n k d) (h1 : n ≤ m) (h2 : k ≤ j) : Gd m j d := ⟨h.nc.mono h1 h2, h.sm⟩
end Tp
namespace Tp
open PySem PySem.Spec PyProof.Rows L2
mutual
theorem canLay_of_sm : ∀ d : PyData, smD d = true → d.hasDict = false → d.canLay0 = true
  | .none, _, _ => rfl
  | .bool _, _, _ => rfl
  | .int _, _, _ => rfl
  | .str z, h, _ => by
    simp only [PyData.canLay0, PyData.strOk]
    rw [← Array.all_toList]
    exact List.all_eq_true.mpr fun c hc => decide_eq_true (Nat.lt_trans (smD_str h c hc) (by decide))
  | .list ds, h, e => by
    simp only [smD] at h
    simp only [PyData.hasDict] at e
    simpa only [PyData.canLay0] using canLay_of_smAll ds h e
  | .tuple ds, h, e => by
    simp only [smD] at h
    simp only [PyData.hasDict] at e
    simpa only [PyData.canLay0] using canLay_of_smAll ds h e
  | .dict _, _, e => by simp [PyData.hasDict] at e
theorem canLay_of_smAll : ∀ ds : List PyData, smAll ds = true → PyData.hasDictAll ds = false → PyData.canLayAll0 ds = true
  | [], _, _ => rfl
  | d :: ds, h, e => by
    simp only [smAll, Bool.and_eq_true] at h
    simp only [PyData.hasDictAll, Bool.or_eq_false_iff] at e
    simp only [PyData.canLayAll0, Bool.and_eq_true]
    exact ⟨canLay_of_sm d h.1 e.1, canLay_of_smAll ds h.2 e.2⟩
end
theorem nodict_ints : ∀ ns : List Int, PyData.hasDictAll (ns.map PyData.int) = false
  | [] => rfl
  | n :: ns => by
    simp only [List.map_cons, PyData.hasDictAll, PyData.hasDict, Bool.false_or]
    exact nodict_ints ns
theorem gd_list {n k : Nat} {ds : List PyData} (h : ∀ d ∈ ds, Gd n k d) : Gd (ds.length * (n + 1)) (k + 1) (.list ds) :=
  ⟨(niceAll_of fun d hd => (h d hd).nc).list, by simpa only [smD] using smAll_of fun d hd => (h d hd).sm⟩
theorem gd_tup {n k : Nat} {ds : List PyData} (h : ∀ d ∈ ds, Gd n k d) : Gd (ds.length * (n + 1)) (k + 1) (.tuple ds) :=
  ⟨(niceAll_of fun d hd => (h d hd).nc).tuple, by simpa only [smD] using smAll_of fun d hd => (h d hd).sm⟩
theorem gd_none : Gd 0 0 .none := ⟨nice_none, rfl⟩
theorem gd_bool (b : Bool) : Gd 0 0 (.bool b) := ⟨nice_bool b, rfl⟩
theorem gd_int {i : Int} {k : Nat} (h : i.natAbs < 2 ^ k) (hk : k ≤ 999) : Gd k 0 (.int i) := ⟨nice_small h hk, rfl⟩
theorem gd_str {n : Nat} {z : Str} (h : Tz n z) : Gd n 0 (.str z) := ⟨nice_str h, smD_tz h⟩
end Tp
set_option Elab.async false
set_option linter.all false
set_option maxRecDepth 100000
set_option maxHeartbeats 4000000
namespace T02
open PySem PySem.Spec PyProof.Rows L2 Tp
section
variable {P : Program} {w : World} {K : PySem.W.Frag} {mg : Str → Option Value} {base : Heap} {f : Addr} {fd : FuncData}

/-- a good row at index k: a name, at most three numbers below k -/
def RowG (k : Nat) (d : PyData) : Prop := ∃ (z : Str) (ns : List Int) (nd : PyData), Tz 9 z ∧ nameB (TL.tl z) = true ∧ (nd = .list (ns.map .int) ∨ nd = .tuple (ns.map .int)) ∧ (d = .list [.str z, nd] ∨ d = .tuple [.str z, nd]) ∧ ns.length ≤ 3 ∧ ∀ i ∈ ns, 0 ≤ i ∧ i < (k : Int)
theorem ddAll_ints {K : PySem.W.Frag} {H : Hp} : ∀ (ns : List Int), DdAll K H (ns.map V.int) (ns.map PyData.int)
  | [] => .nil
  | n :: ns => .cons (.int n) (ddAll_ints ns)
theorem niceAll_ints {k : Nat} (hk : k ≤ 1000) : ∀ (ns : List Int), (∀ i ∈ ns, 0 ≤ i ∧ i < (k : Int)) → NiceAll (ns.length * 11) 0 (ns.map PyData.int)
  | [], _ => niceAll_nil
  | n :: ns, h => by
    have h1 := h n List.mem_cons_self
    exact (NiceAll.cons (nice_small (i := n) (k := 10) (by omega) (by decide)) (niceAll_ints hk ns fun x hx => h x (List.mem_cons_of_mem _ hx))).mono (by rw [List.length_cons, Nat.succ_mul]; omega) (by decide)
theorem nums_gd {k : Nat} {ns : List Int} {nd : PyData} (hk : k ≤ 1000) (h : nd = .list (ns.map .int) ∨ nd = .tuple (ns.map .int)) (hl : ns.length ≤ 3) (hi : ∀ i ∈ ns, 0 ≤ i ∧ i < (k : Int)) : Gd 33 1 nd := by
  have n := (niceAll_ints hk ns hi).mono (show _ ≤ 33 by omega) (Nat.le_refl 0)
  have s : smAll (ns.map PyData.int) = true := smAll_of fun d hd => by
    obtain ⟨i, _, rfl⟩ := List.mem_map.mp hd
    rfl
  rcases h with e | e <;> subst e
  · exact ⟨n.list, by simpa only [smD] using s⟩
  · exact ⟨n.tuple, by simpa only [smD] using s⟩
theorem RowG.gd {k : Nat} {d : PyData} (h : RowG k d) (hk : k ≤ 1000) : Gd 60 2 d := by
  obtain ⟨z, ns, nd, hz, hn, h1, h2, hl, hi⟩ := h
  have g := nums_gd hk h1 hl hi
  have n := (NiceAll.cons (nice_str hz) (NiceAll.cons g.nc niceAll_nil)).mono (show _ ≤ 60 by decide) (show _ ≤ 1 by decide)
  have s : smAll [.str z, nd] = true := smAll_of fun d hd => by
    rcases List.mem_cons.mp hd with e | e
    · rw [e]; exact smD_tz hz
    · rw [List.mem_singleton.mp e]; exact g.sm
  rcases h2 with e | e <;> subst e
  · exact ⟨n.list, by simpa only [smD] using s⟩
  · exact ⟨n.tuple, by simpa only [smD] using s⟩
theorem RowG.row {k : Nat} {d : PyData} (h : RowG k d) : rowB k d = true := by
  obtain ⟨z, ns, nd, hz, hn, h1, h2, hl, hi⟩ := h
  have hs : seqD nd = some (ns.map .int) := by rcases h1 with e | e <;> subst e <;> rfl
  have ha : (ns.map PyData.int).all (idxD k) = true := by
    rw [List.all_map]
    refine List.all_eq_true.mpr fun i h => ?_
    have := hi i h
    exact decide_eq_true (by omega)
  have hn2 : numsB k nd = true := by
    unfold numsB
    rw [hs]
    simp only [List.length_map]
    rw [decide_eq_true hl, ha]
    rfl
  have hd : seqD d = some [.str z, nd] := by rcases h2 with e | e <;> subst e <;> rfl
  unfold rowB
  rw [hd]
  show (nameD (.str z) && numsB k nd) = true
  rw [hn2]
  show (nameB (TL.tl z) && true) = true
  rw [hn]
  rfl
theorem rows_all {k : Nat} : ∀ {ds : List PyData}, (∀ i d, ds[i]? = some d → RowG (k + i) d) → rowsB k ds = true
  | [], _ => rfl
  | d :: ds, h => by
    unfold rowsB
    rw [show rowB k d = true from (h 0 d rfl).row, rows_all (k := k + 1) (ds := ds) fun i e he => by
      have := h (i + 1) e he
      rwa [show k + (i + 1) = k + 1 + i by omega] at this]
    rfl
/-- the rows that are drawn -/
def spRows (K : PySem.W.Frag) : Sp := fun vs H Q _ => ∃ (p : Addr) (n : Nat), vs = [.ref p] ∧ BoxAt H p n ∧ n ≤ 2000 ∧
  ∀ l rows ds H', H l = none → H' l = some (.lst rows) → l ≠ p → DdAll K (rs p l H') rows ds → (∀ i d, ds[i]? = some d → RowG i d) → ds.length ≤ 12 → BoxAt H' p (n + 200) → Keep p H H' → Q (.ref l) H'
theorem nameB_low {c : Nat} (h : lowB c = true) (r : List Nat) (hr : r.all (fun c => lowB c || digB c) = true) (hl : r.length ≤ 7) : nameB (c :: r) = true := by
  unfold nameB
  rw [List.head?_cons, Option.any_some, h, List.all_cons, h, hr, decide_eq_true (by simp only [List.length_cons]; omega)]
  rfl
theorem low26 : ∀ c ∈ TL.tl ("abcdefghijklmnopqrstuvwxyz" : Str), lowB c = true := by decide +kernel

abbrev sRw : Stmt := top 80
abbrev nRw : List Str := ["_law_box_here", "_law_found", "_law_k", "_law_numbers", "_law_name", "_law_j"]
theorem scRw : FnScope nRw ["_law_box_here"] (defScope sRw) := ⟨rfl, rfl, rfl, by decide +kernel, rfl, by decide +kernel, by decide +kernel⟩

theorem ok_Rw (F : Fun K "_law_rows" "_law_rows" sRw f fd) (T : TxtL mg) (C : Cg P w K mg base 1 "_law_take" spTake) : FnG P w K mg base CX0 2 f fd ["_law_box_here"] (spRows K) := by
  refine FunG.ok F scRw (fun vs H Q E h => ?_) (fun cdv B out s H vs Q E hr hG h => ?_)
  · obtain ⟨p, n, rfl, _⟩ := h
    rfl
  · obtain ⟨p, n, rfl, hb, hn, q⟩ := h
    refine ⟨_, (pss_cons (ps_set (i := 1) scRw.nd rfl (.inl rfl) (pe_lst pa_nil))
      (pss_cons (ps_for PassesOwn.never rfl (pi_range1 (by rfl) T.range (pa_cons (pe_g C hr hG (by decide) (by rfl) (pa_cons (pv 0) (pa_cons pe_int pa_nil))) pa_nil)) (pg_name (i := 2) scRw.nd rfl (Or.inr rfl)) (pss_cons (ps_setLc (i := 3) (own := [("_law_j", 5)]) (g := gName 5) rfl scRw.nd rfl rfl (sw_true rfl rfl rfl (by decide +kernel)) (pi_range1 (by rfl) T.range (pa_cons (pe_g C hr hG (by decide) (by rfl) (pa_cons (pv 0) (pa_cons pe_int pa_nil))) pa_nil)) (blkOk_by (N := nRw) (sc := defScope sRw) (by decide +kernel)) (fun _ _ _ _ _ => pg_name (i := 5) scRw.nd rfl (Or.inl rfl)) (fun _ _ _ _ _ => (pts_one (pt_cmpR op_gt (pv 2) pe_int (nomark _)))) (fun _ _ _ _ _ => (pe_g C hr hG (by decide) (by rfl) (pa_cons (pv 0) (pa_cons (pv 2) pa_nil)))))
        (C8.pss_cut (ps_if (pt_cmpR op_eq (pe_g C hr hG (by decide) (by rfl) (pa_cons (pv 0) (pa_cons pe_int pa_nil))) pe_int (nomark _)) (pss_one (ps_set (i := 3) scRw.nd rfl (.inl rfl) (pe_callTy call_tuple_of (by rfl) T.tuple (by decide +kernel) (pa_cons (pv 3) pa_nil)))) pss_nil)
        (pss_cons (ps_set (i := 4) scRw.nd rfl (.inl rfl) (pe_op op_add_str (pe_ix ix_str pe_str (pe_g C hr hG (by decide) (by rfl) (pa_cons (pv 0) (pa_cons pe_int pa_nil))) fun _ _ => rfl) (pe_ix ix_list (pe_lst (pa_cons pe_str (pa_cons pe_str (pa_cons pe_str pa_nil)))) (pe_g C hr hG (by decide) (by rfl) (pa_cons (pv 0) (pa_cons pe_int pa_nil))) fun _ _ => rfl)))
        (pss_one (ps_expr (pe_bm PySem.F.plainAttrs_list PySem.F.slot_list_append PySem.F.type_list_append mt_append (pv 1) (pa_cons (pe_ix ix_list (pe_lst (pa_cons (pe_tup (pa_cons (pv 4) (pa_cons (pv 3) pa_nil))) (pa_cons (pe_lst (pa_cons (pv 4) (pa_cons (pv 3) pa_nil))) pa_nil))) (pe_g C hr hG (by decide) (by rfl) (pa_cons (pv 0) (pa_cons pe_int pa_nil))) fun _ _ => rfl) pa_nil))))))))
      (pss_one (ps_ret (pv 1))))), ?_⟩
    refine ⟨(by show 0 ≤ sizeLine; decide), fun lf ef => ?_⟩
    have hb0 := hb.new (o := .lst []) ef
    have npf : lf ≠ p := (hb.ne ef).symm
    refine ⟨_, rfl, p, 13, n, rfl, hb0, by decide, by decide, by omega, fun d1 H1 a1 b1 hb1 k1 => ?_⟩
    have kp1 : Keep p H H1 := (Keep.new ef).trans (keep_of k1)
    have hf1 : H1 lf = some (.lst []) := (k1 lf npf).trans upd_same
    have kq1 : Keep2 p lf H H1 := (Keep2.of kp1)
    refine ⟨_, rfl, by omega, by omega, ?_⟩
    refine for_range (lo := 0) (n := d1.toNat) (fun i σ G => BoxAt G p (n + 1 + 9 * i) ∧ Keep2 p lf H G ∧ ∃ rows ds, G lf = some (.lst rows) ∧ DdAll K (rs p lf G) rows ds ∧ (∀ i d, ds[i]? = some d → RowG i d) ∧ ds.length = i ∧
      ∃ o2 o3 o4, σ = [some (.ref p), some (.ref lf), o2, o3, o4, none])
      ⟨hb1, kq1, [], [], hf1, .nil, (fun i d e => absurd e (by simp)), rfl, none, none, none, rfl⟩ ?_ ?_
    · rintro i σ G hi ⟨gb, gk, rows, ds, gf, gd, gr, gl, o2, o3, o4, rfl⟩
      have hi12 : i ≤ 12 := by omega
      have hlen := gd.len
      refine ⟨_, rfl, p, 4, n + 1 + 9 * i, rfl, gb, by decide, by decide, by omega, fun d2 G1 a2 b2 gb1 k2 => ?_⟩
      refine ⟨_, rfl, by omega, by omega, fun D hD => ?_⟩
      have gf1 : G1 lf = some (.lst rows) := (k2 lf npf).trans gf
      have npD : D ≠ p := (gb1.ne hD).symm
      have nDf : lf ≠ D := ne_of_none gf1 hD
      refine lc_range (lo := 0) (n := d2.toNat) (fun j M => BoxAt M p (n + 2 + 9 * i + j) ∧ Keep2 p D G1 M ∧ ∃ ns : List Int, M D = some (.lst (ns.map V.int)) ∧ ns.length ≤ j ∧ ∀ x ∈ ns, 0 ≤ x ∧ x < (i : Int))
        ⟨(gb1.mono (by omega)).new hD, Keep2.of (Keep.new hD), [], upd_same, Nat.le_refl _, fun x hx => absurd hx List.not_mem_nil⟩ ?_ ?_
      · rintro j M hj ⟨mb, mk, ns, mD, ml, mt⟩
        refine ⟨rfl, _, rfl, _, _, rfl, rfl, _, rfl, ?_⟩
        refine ite2 (fun hk => ?_) (fun hk => ⟨mb.mono (by omega), mk, ns, mD, by omega, mt⟩)
        have hk' := of_decide_eq_true hk
        refine ⟨_, rfl, _, rfl, p, ((0 : Int) + i), n + 2 + 9 * i + j, rfl, mb, by omega, small_log (by omega) (by omega), by omega, fun d3 M1 r1 r2 mb1 mk1 => ?_⟩
        have mD1 : M1 D = some (.lst (ns.map V.int)) := (mk1 D npD).trans mD
        refine ⟨_, mD1, ?_, mb1.put npD, (mk.next (keep_of mk1)).put, ns ++ [d3], ?_, ?_, ?_⟩
        · rw [List.length_map, PySem.sizeLine_eq]
          omega
        · rw [upd_same, List.map_append]
          rfl
        · rw [List.length_append, List.length_singleton]
          omega
        · intro x hx
          rcases List.mem_append.mp hx with z | z
          · exact mt x z
          · rw [List.mem_singleton.mp z]
            exact ⟨r1, by omega⟩
      · rintro M ⟨mb, mk, ns, mD, ml, mt⟩
        have ml3 : ns.length ≤ 3 := by omega
        have kGM : Keep p G M := (keep_of k2).trans (mk.fin hD)
        have fM : M lf = some (.lst rows) := mk lf _ npf nDf gf1
        -- list or tuple
        refine ⟨fun σ N => BoxAt N p (n + 3 + 9 * i + d2.toNat) ∧ Keep p G N ∧ ∃ b nd, b ≠ p ∧ b ≠ lf ∧ Dd K (rs p lf N) (.ref b) nd ∧ (nd = .list (ns.map .int) ∨ nd = .tuple (ns.map .int)) ∧ σ = [some (.ref p), some (.ref lf), some (.int (0 + i)), some (.ref b), o4, none], ?_, ?_⟩
        · refine ⟨_, rfl, p, 2, n + 2 + 9 * i + d2.toNat, rfl, mb, by decide, by decide, by omega, fun d4 M4 a4 b4 mb4 k4 => ?_⟩
          have kG4 : Keep p G M4 := kGM.trans (keep_of k4)
          have D4 : M4 D = some (.lst (ns.map V.int)) := (k4 D npD).trans mD
          refine ⟨rfl, _, rfl, ?_⟩
          refine ite2 (fun h => ?_) (fun h => ?_)
          · refine ⟨_, rfl, D, _, rfl, .inl ⟨SqL.of D4, fun t ht => ?_⟩⟩
            have npt : t ≠ p := (mb4.ne ht).symm
            have ntf : t ≠ lf := (ne_of_none ((k4 lf npf).trans fM) ht).symm
            exact ⟨(mb4.mono (by omega)).new ht, kG4.trans (Keep.new ht), t, _, npt, ntf, .tup (SqT.of (rs_at npt ntf upd_same)) (ddAll_ints ns), .inr rfl, rfl⟩
          · exact ⟨mb4.mono (by omega), kG4, D, _, npD, nDf.symm, .lst (SqL.of (rs_at npD nDf.symm D4)) (ddAll_ints ns), .inl rfl, rfl⟩
        · rintro σ N ⟨nb, kN, b, nd, npb, nbf, dd, hnd, rfl⟩
          have l26 : (TL.tl ("abcdefghijklmnopqrstuvwxyz" : Str)).length = 26 := by decide +kernel
          refine ⟨_, rfl, p, 26, n + 3 + 9 * i + d2.toNat, rfl, nb, by decide, by decide, by omega, fun d5 N5 a5 b5 nb5 k5 => ?_⟩
          obtain ⟨c, hc, ac⟩ := atI_in (xs := TL.tl ("abcdefghijklmnopqrstuvwxyz" : Str)) a5 (by rw [l26]; exact b5)
          refine ⟨_, _, _, rfl, rfl, by decide +kernel, ac, ?_⟩
          refine ⟨(by show 3 ≤ sizeLine; decide), fun l3 e3 => ?_⟩
          refine ⟨_, rfl, p, 3, n + 4 + 9 * i + d2.toNat, rfl, (nb5.mono (by omega)).new e3, by decide, by decide, by omega, fun d6 N6 a6 b6 nb6 k6 => ?_⟩
          have np3 : l3 ≠ p := (nb5.ne e3).symm
          have h3 : N6 l3 = some (.lst [V.str "", .str "1", .str "x7x7x7x"]) := (k6 l3 np3).trans upd_same
          obtain ⟨v, hv, av⟩ := atI_in (xs := [V.str "", .str "1", .str "x7x7x7x"]) a6 b6
          obtain ⟨y, rfl, ty, hy, hyl⟩ : ∃ y : Str, v = .str y ∧ Tz 7 y ∧ (TL.tl y).all (fun c => lowB c || digB c) = true ∧ (TL.tl y).length ≤ 7 := by
            simp only [List.mem_cons, List.not_mem_nil, or_false] at hv
            rcases hv with e | e | e
            · exact ⟨_, e, ⟨by decide +kernel, by decide +kernel⟩, by decide +kernel, by decide +kernel⟩
            · exact ⟨_, e, ⟨by decide +kernel, by decide +kernel⟩, by decide +kernel, by decide +kernel⟩
            · exact ⟨_, e, ⟨by decide +kernel, by decide +kernel⟩, by decide +kernel, by decide +kernel⟩
          refine ⟨l3, _, _, _, rfl, rfl, SqL.of h3, av, ?_⟩
          have tc : Tz 1 (⟨#[c]⟩ : Str) := Tz.one (Nat.lt_of_le_of_lt (by have := low26 c hc; unfold lowB at this; exact (of_decide_eq_true this).2) (show 122 < 256 by decide))
          have tz : Tz 9 ((⟨#[c]⟩ : Str) ++ y) := (tc.app ty).mono (by decide)
          have hn : nameB (TL.tl ((⟨#[c]⟩ : Str) ++ y)) = true := by
            rw [TL.tl_append]
            exact nameB_low (low26 c hc) (TL.tl y) hy hyl
          refine ⟨_, _, rfl, rfl, by have := tc.len; have := ty.len; rw [PySem.sizeLine_eq]; omega, ?_⟩
          generalize (⟨#[c]⟩ : Str) ++ y = z at tz hn ⊢
          have kN6 : Keep p N N6 := (keep_of k5).trans ((Keep.new e3).trans (keep_of k6))
          have f6 : N6 lf = some (.lst rows) := kN6 _ _ npf (kN _ _ npf gf)
          have dd6 : Dd K (rs p lf N6) (.ref b) nd := dd.mono (rs_keep (Keep2.of kN6))
          -- the row
          refine ⟨_, rfl, .inl ⟨rfl, _, SqL.of f6⟩, _, rfl, _, rfl, (by show 2 ≤ sizeLine; decide), fun t1 et1 => ?_⟩
          have k7 : Same N6 (upd N6 t1 (.tup [.str z, .ref b])) := Same.put et1
          have np1 : t1 ≠ p := (nb6.ne et1).symm
          have nf1 : t1 ≠ lf := (ne_of_none f6 et1).symm
          have h1 : rs p lf (upd N6 t1 (.tup [.str z, .ref b])) t1 = some (.tup [.str z, .ref b]) := rs_at np1 nf1 upd_same
          have nb7 := nb6.new (o := .tup [.str z, .ref b]) et1
          have f7 := k7 _ _ f6
          have dd7 := dd6.mono (rs_up k7)
          have kN7 : Keep p N (upd N6 t1 (.tup [.str z, .ref b])) := kN6.trans (Keep.of k7)
          generalize upd N6 t1 (.tup [.str z, .ref b]) = N7 at k7 h1 nb7 f7 dd7 kN7 ⊢
          refine ⟨_, rfl, _, rfl, (by show 2 ≤ sizeLine; decide), fun t2 et2 => ?_⟩
          have k8 : Same N7 (upd N7 t2 (.lst [.str z, .ref b])) := Same.put et2
          have np2 : t2 ≠ p := (nb7.ne et2).symm
          have nf2 : t2 ≠ lf := (ne_of_none f7 et2).symm
          have h2 : rs p lf (upd N7 t2 (.lst [.str z, .ref b])) t2 = some (.lst [.str z, .ref b]) := rs_at np2 nf2 upd_same
          have nb8 := nb7.new (o := .lst [.str z, .ref b]) et2
          have f8 := k8 _ _ f7
          have dd8 := dd7.mono (rs_up k8)
          have h18 := rs_up (p := p) (q := lf) k8 _ _ h1
          have kN8 : Keep p N (upd N7 t2 (.lst [.str z, .ref b])) := kN7.trans (Keep.of k8)
          generalize upd N7 t2 (.lst [.str z, .ref b]) = N8 at k8 h2 nb8 f8 dd8 h18 kN8 ⊢
          refine ⟨(by show 2 ≤ sizeLine; decide), fun l9 e9 => ?_⟩
          have nb9 := nb8.new (o := .lst [.ref t1, .ref t2]) e9
          have np9 : l9 ≠ p := (nb8.ne e9).symm
          refine ⟨_, rfl, p, 2, n + 5 + 9 * i + d2.toNat, rfl, nb9.mono (by omega), by decide, by decide, by omega, fun d9 N9 a9 b9 nb9 k9 => ?_⟩
          have k89 : Keep p N8 N9 := (Keep.new e9).trans (keep_of k9)
          have h9 : N9 l9 = some (.lst [.ref t1, .ref t2]) := (k9 l9 np9).trans upd_same
          have f9 := k89 _ _ npf f8
          obtain ⟨v, hv, av⟩ := atI_in (xs := [V.ref t1, .ref t2]) a9 b9
          have hk89 := rs_keep (q := lf) (Keep2.of k89)
          have dd9 := dd8.mono hk89
          obtain ⟨dr, hdr, hrow⟩ : ∃ dr, Dd K (rs p lf N9) v dr ∧ (dr = .list [.str z, nd] ∨ dr = .tuple [.str z, nd]) := by
            simp only [List.mem_cons, List.not_mem_nil, or_false] at hv
            rcases hv with e | e
            · exact ⟨_, e ▸ .tup (SqT.of (hk89 _ _ h18)) (.cons (.str z) (.cons dd9 .nil)), .inr rfl⟩
            · exact ⟨_, e ▸ .lst (SqL.of (hk89 _ _ h2)) (.cons (.str z) (.cons dd9 .nil)), .inl rfl⟩
          refine ⟨l9, _, _, _, rfl, rfl, SqL.of h9, av, ?_⟩
          have kG9 : Keep p G N9 := kN.trans (kN8.trans k89)
          refine ⟨lf, _, _, rfl, rfl, f9, ?_, ?_⟩
          · rw [hlen, PySem.sizeLine_eq]
            omega
          have hs : Same (rs p lf N9) (rs p lf (upd N9 lf (.lst (rows ++ [v])))) := rs_keep fun x u h1 h2 e => (upd_ne h2).trans e
          refine ⟨(nb9.mono (by omega)).put npf, (gk.next kG9).put, rows ++ [v], ds ++ [dr], upd_same, ?_, ?_, ?_, _, _, _, rfl⟩
          · exact DdAll.app (gd.mono (Tp.Same.tr (rs_keep (Keep2.of kG9)) hs)) (.cons (hdr.mono hs) .nil)
          · intro j d e
            by_cases hj : j < ds.length
            · rw [List.getElem?_append_left hj] at e
              exact gr j d e
            · rw [List.getElem?_append_right (by omega)] at e
              have e0 : j - ds.length = 0 := by
                by_cases z : j - ds.length = 0
                · exact z
                · rw [List.getElem?_eq_none (by simp; omega)] at e
                  cases e
              rw [e0] at e
              cases e
              exact ⟨z, ns, nd, tz, hn, hnd, hrow, ml3, fun x hx => by have := mt x hx; omega⟩
          · rw [List.length_append, gl]
            rfl
    · rintro σ G ⟨gb, gk, rows, ds, gf, gd, gr, gl, o2, o3, o4, rfl⟩
      exact ⟨_, rfl, q lf rows ds G ef gf npf gd gr (by omega) (gb.mono (by omega)) (gk.fin ef)⟩

theorem dd_ints {H : Hp} : ∀ {ns : List Int} {vs : List V}, DdAll K H vs (ns.map .int) → vs = ns.map V.int
  | [], _, h => by cases h; rfl
  | n :: ns, _, h => by
    cases h with
    | cons h1 h2 =>
      cases h1
      rw [dd_ints h2]
      rfl
theorem rows_nodict : ∀ {ds : List PyData} {k : Nat}, (∀ i d, ds[i]? = some d → RowG (k + i) d) → PyData.hasDictAll ds = false
  | [], _, _ => rfl
  | d :: ds, k, h => by
    simp only [PyData.hasDictAll, Bool.or_eq_false_iff]
    refine ⟨?_, rows_nodict (k := k + 1) fun i e he => by
      have := h (i + 1) e he
      rwa [show k + (i + 1) = k + 1 + i by omega] at this⟩
    obtain ⟨z, ns, nd, hz, hn, h1, h2, hl, hi⟩ := h 0 d rfl
    have hnd : nd.hasDict = false := by rcases h1 with e | e <;> subst e <;> simpa only [PyData.hasDict] using nodict_ints ns
    rcases h2 with e | e <;> subst e <;> simp only [PyData.hasDict, PyData.hasDictAll, hnd, Bool.or_self]
theorem rows_gd {ds : List PyData} (h : ∀ i d, ds[i]? = some d → RowG i d) (hl : ds.length ≤ 1000) : ∀ d ∈ ds, Gd 60 2 d := fun d hd => by
  obtain ⟨i, e⟩ := List.mem_iff_getElem?.mp hd
  exact (h i d e).gd (by have := (List.getElem?_eq_some_iff.mp e).1; omega)
theorem rows_shaped {ds : List PyData} (h : ∀ i d, ds[i]? = some d → RowG i d) (hl : ds.length ≤ 1000) : SeqAt.shaped (.list ds) = true := by
  have g := gd_list (rows_gd h hl)
  unfold SeqAt.shaped
  rw [Bool.and_eq_true]
  refine ⟨canLay_of_sm _ g.sm ?_, decide_eq_true (Nat.le_trans g.nc.dp (by decide))⟩
  simp only [PyData.hasDict]
  exact rows_nodict (k := 0) fun i d e => by rw [Nat.zero_add]; exact h i d e
/-- the rows, one of them otherwise -/
def spBent (K : PySem.W.Frag) : Sp := fun vs H Q _ => ∃ (p l : Addr) (n : Nat) (rows : List V) (ds : List PyData), vs = [.ref p, .ref l] ∧ BoxAt H p n ∧ n ≤ 3000 ∧ H l = some (.lst rows) ∧ DdAll K (rs p p H) rows ds ∧ (∀ i d, ds[i]? = some d → RowG i d) ∧ ds.length ≤ 12 ∧
  ∀ l2 rows2 ds2 H', H l2 = none → H' l2 = some (.lst rows2) → DdAll K (rs p l2 H') rows2 ds2 → (∀ d ∈ ds2, Gd 300 4 d) → ds2.length ≤ 12 → BoxAt H' p (n + 2) → Keep p H H' → Q (.ref l2) H'
theorem cut4 (ns : List Int) : cutV (ns.map V.int ++ [V.int 0, .int 0, .int 0, .int 0]) none (some 4) = ((ns ++ [0, 0, 0, 0]).take 4).map V.int := by
  have e : ns.map V.int ++ [V.int 0, .int 0, .int 0, .int 0] = (ns ++ [0, 0, 0, 0]).map V.int := by rw [List.map_append]; rfl
  rw [e]
  unfold cutV
  have h : ((ns ++ [0, 0, 0, 0] : List Int).map V.int).length = ns.length + 4 := by simp
  rw [h, show HT.sIx (ns.length + 4) 0 none = 0 from rfl, show HT.sIx (ns.length + 4) (ns.length + 4) (some 4) = 4 from by
    have := HT.sIx_nat (ns.length + 4) (ns.length + 4) 4
    rw [show ((4 : Nat) : Int) = 4 from rfl] at this
    rw [this]
    omega, List.drop_zero, Nat.sub_zero, List.map_take]

abbrev sBt : Stmt := top 81
abbrev nBt : List Str := ["_law_box_here", "_law_rows_here", "_law_found", "_law_at", "_law_name", "_law_numbers", "_law_many", "_law_some"]
theorem scBt : FnScope nBt ["_law_box_here", "_law_rows_here"] (defScope sBt) := ⟨rfl, rfl, rfl, by decide +kernel, rfl, by decide +kernel, by decide +kernel⟩

theorem ok_Bt (F : Fun K "_law_bent" "_law_bent" sBt f fd) (T : TxtL mg) (C : Cg P w K mg base 1 "_law_take" spTake) : FnG P w K mg base CX0 2 f fd ["_law_box_here", "_law_rows_here"] (spBent K) := by
  refine FunG.ok F scBt (fun vs H Q E h => ?_) (fun cdv B out s H vs Q E hr hG h => ?_)
  · obtain ⟨p, l, n, rows, ds, rfl, _⟩ := h
    rfl
  · obtain ⟨p, l, n, rows, ds, rfl, hb, hn, hl, hd, hg, hle, q⟩ := h
    refine ⟨_, (pss_cons (ps_set (i := 2) scBt.nd rfl (.inl rfl) (pe_callTy call_list_of (by rfl) T.list (by decide +kernel) (pa_cons (pv 1) pa_nil)))
      (pss_cons (ps_if (pt_cmpR (op_eqD hr.units) (pv 2) (pe_lst pa_nil) (nomark _)) (pss_one (ps_ret (pe_lst (pa_cons pe_non pa_nil)))) pss_nil)
      (pss_cons (ps_set (i := 3) scBt.nd rfl (.inl rfl) (pe_g C hr hG (by decide) (by rfl) (pa_cons (pv 0) (pa_cons (pe_callB call_len (by rfl) T.len PySem.boot_len (pa_cons (pv 2) pa_nil)) pa_nil))))
      (pss_cons (ps_asg (pe_ix ix_list (pv 2) (pv 3) fun _ _ => rfl) (pg_or (pg_tup rfl (pgs_cons (pg_name (i := 4) scBt.nd rfl (Or.inl rfl)) (pgs_cons (pg_name (i := 5) scBt.nd rfl (Or.inl rfl)) pgs_nil))) (pg_lst rfl (pgs_cons (pg_name (i := 4) scBt.nd rfl (Or.inl rfl)) (pgs_cons (pg_name (i := 5) scBt.nd rfl (Or.inl rfl)) pgs_nil)))))
      (pss_cons (ps_set (i := 6) scBt.nd rfl (.inl rfl) (pe_callTy call_list_of (by rfl) T.list (by decide +kernel) (pa_cons (pv 5) pa_nil)))
      (pss_cons (ps_set (i := 7) scBt.nd rfl (.inl rfl) (pe_lst (pa_cons (pe_tup (pa_cons (pv 4) (pa_cons (pe_op op_cat (pv 6) (pe_lst (pa_cons (pv 3) pa_nil))) pa_nil))) (pa_cons (pe_tup (pa_cons (pv 4) (pa_cons (pe_op op_cat (pv 6) (pe_lst (pa_cons (pe_op op_sub pe_int pe_int) pa_nil))) pa_nil))) (pa_cons (pe_tup (pa_cons (pv 4) (pa_cons (pe_op op_cat (pv 6) (pe_lst (pa_cons pe_bl pa_nil))) pa_nil))) (pa_cons (pe_tup (pa_cons (pv 4) (pa_cons (pe_op op_cat (pv 6) (pe_lst (pa_cons pe_str pa_nil))) pa_nil))) (pa_cons (pe_tup (pa_cons (pv 4) pa_nil)) (pa_cons pe_non pa_nil))))))))
      (pss_cons (ps_set (i := 7) scBt.nd rfl (.inl rfl) (pe_op op_cat (pv 7) (pe_lst (pa_cons (pe_tup (pa_cons (pv 4) (pa_cons (pv 6) (pa_cons (pv 6) pa_nil)))) (pa_cons (pe_tup (pa_cons (pe_op op_add_str pe_str (pe_slice sl_str (pv 4) (po_some pe_int) po_none)) (pa_cons (pv 6) pa_nil))) (pa_cons (pe_tup (pa_cons pe_str (pa_cons (pv 6) pa_nil))) (pa_cons (pe_tup (pa_cons pe_str (pa_cons (pv 6) pa_nil))) (pa_cons (pe_tup (pa_cons (pv 4) (pa_cons pe_int pa_nil))) (pa_cons (pe_tup (pa_cons (pv 4) (pa_cons pe_str pa_nil))) pa_nil)))))))))
      (pss_cons (ps_set (i := 7) scBt.nd rfl (.inl rfl) (pe_op op_cat (pv 7) (pe_lst (pa_cons (pe_tup (pa_cons (pv 4) (pa_cons (pe_disp (pps_cons pe_int pe_int pps_nil) (by rfl) (by rfl) (fun z => by cases z) (by decide)) pa_nil))) (pa_cons (pe_tup (pa_cons (pv 4) (pa_cons (pe_slice sl_list (pe_op op_cat (pv 6) (pe_lst (pa_cons pe_int (pa_cons pe_int (pa_cons pe_int (pa_cons pe_int pa_nil)))))) po_none (po_some pe_int)) pa_nil))) (pa_cons (pe_tup (pa_cons pe_str (pa_cons (pv 6) pa_nil))) (pa_cons (pv 4) (pa_cons (pe_lst pa_nil) (pa_cons (pe_tup (pa_cons pe_non (pa_cons (pv 6) pa_nil))) pa_nil)))))))))
      (pss_cons (ps_asg (pe_ix ix_list (pv 7) (pe_g C hr hG (by decide) (by rfl) (pa_cons (pv 0) (pa_cons pe_int pa_nil))) fun _ _ => rfl) (pg_sub (pv 2) (pv 3) set_list))
      (pss_one (ps_ret (pv 2)))))))))))), ?_⟩
    refine ⟨_, rfl, l, rows, rfl, .inl (SqL.of hl), fun lf ef => ?_⟩
    have npf : lf ≠ p := (hb.ne ef).symm
    have hb0 := hb.new (o := .lst rows) ef
    have k0 : Same H (upd H lf (.lst rows)) := Same.put ef
    have f0 : (upd H lf (.lst rows)) lf = some (.lst rows) := upd_same
    have d0 : DdAll K (rs p lf (upd H lf (.lst rows))) rows ds := hd.mono fun b u e => by
      have e1 := rs_same _ _ e
      have e2 : b ≠ lf := ne_of_none e1 ef
      have e3 : b ≠ p := fun z => by
        subst z
        unfold rs at e
        rw [if_pos (.inl rfl)] at e
        cases e
      exact rs_at e3 e2 (k0 _ _ e1)
    generalize upd H lf (.lst rows) = H1 at hb0 k0 f0 d0 ⊢
    have hlen := d0.len
    refine ⟨_, rfl, (by show 0 ≤ sizeLine; decide), fun le ee => ?_⟩
    have dp : DpAll K (upd H1 le (.lst [])) rows ds := dp_of_ddAll ds rows ((d0.mono rs_same).mono (Same.put ee)) (rows_nodict (k := 0) fun i d e => by rw [Nat.zero_add]; exact hg i d e)
    refine ⟨_, _, .lst (SqL.of (Same.put ee _ _ f0)) dp, .lst (SqL.of upd_same) .nil, rows_shaped hg (by omega), rfl, _, rfl, ?_⟩
    rw [eqv_nil]
    have hb1 := hb0.new (o := .lst []) ee
    have k1 : Same H1 (upd H1 le (.lst [])) := Same.put ee
    have f1 := k1 _ _ f0
    have d1 := d0.mono (rs_up (p := p) (q := lf) k1)
    have k01 := Tp.Same.tr k0 k1
    generalize upd H1 le (.lst []) = H2 at hb1 k1 f1 d1 k01 ⊢
    by_cases hds : ds = []
    · refine if_true_of (by rw [hds]; rfl) ?_
      refine ⟨(by show 1 ≤ sizeLine; decide), fun lr er => ?_⟩
      have hnl : H lr = none := by
        cases z : H lr with
        | none => rfl
        | some u => rw [k01 _ _ z] at er; cases er
      refine q lr [.non] [.none] _ hnl upd_same (.cons .non .nil) (fun d hd => by rw [List.mem_singleton.mp hd]; exact ⟨nice_none.mono (by omega) (by omega), rfl⟩) (by decide) ((hb1.new er).mono (by omega)) ?_
      exact (Keep.of k01).trans (Keep.new er)
    refine if_false_of (by cases ds with | nil => exact absurd rfl hds | cons _ _ => rfl) ?_
    have hpos : 0 < ds.length := Nat.pos_of_ne_zero fun e => hds (List.length_eq_zero_iff.mp e)
    refine ⟨_, rfl, _, rfl, _, _, rfl, .inl ⟨_, SqL.of f1, rfl⟩, p, _, n, rfl, hb1, by omega, small_log (by omega) (by omega), by omega, fun at_ H3 a3 b3 hb3 k3 => ?_⟩
    have f3 : H3 lf = some (.lst rows) := (k3 lf npf).trans f1
    have k23 : Keep p H2 H3 := keep_of k3
    have d3 := d1.mono (rs_keep (q := lf) (Keep2.of k23))
    -- the row at that place
    obtain ⟨v, hv, av⟩ := atI_in (xs := rows) a3 b3
    obtain ⟨j, hj⟩ : ∃ j : Nat, at_ = (j : Int) := ⟨at_.toNat, by omega⟩
    subst hj
    have hjl : j < ds.length := by omega
    have hjr : rows[j]? = some v := by
      have e := av
      rw [atI_nat (List.getElem?_eq_getElem (show j < rows.length by omega))] at e
      rw [List.getElem?_eq_getElem (show j < rows.length by omega), Option.some.inj e]
    obtain ⟨dj, hdj, hvd⟩ := d3.get hjr
    obtain ⟨z, ns, nd, hz, hnm, hnd, hdd, hnl, hni⟩ := hg j dj hdj
    refine ⟨_, rfl, _, rfl, lf, _, _, _, rfl, rfl, SqL.of f3, av, ?_⟩
    have hsd : seqD dj = some [.str z, nd] := by rcases hdd with e | e <;> subst e <;> rfl
    obtain ⟨ra, rxs, rfl, hra, hrall⟩ := dd_seq hvd hsd
    have hsn : seqD nd = some (ns.map .int) := by rcases hnd with e | e <;> subst e <;> rfl
    obtain ⟨v0, v1, rfl, hv0, hv1⟩ : ∃ v0 v1, rxs = [v0, v1] ∧ Dd K (rs p lf H3) v0 (.str z) ∧ Dd K (rs p lf H3) v1 nd := by
      cases hrall with
      | cons h1 h2 =>
        cases h2 with
        | cons h3 h4 =>
          cases h4
          exact ⟨_, _, rfl, h1, h3⟩
    cases hv0
    obtain ⟨na, nxs, rfl, hna, hnall⟩ := dd_seq hv1 hsn
    have hnx : nxs = ns.map V.int := dd_ints hnall
    subst hnx
    dsimp only [tAsg]
    refine pair_of (hra.up rs_same) rfl ⟨_, _, rfl, _, _, rfl, rfl, ?_⟩
    refine ⟨_, rfl, na, _, rfl, hna.up rs_same, fun lm em => ?_⟩
    have hzl := hz.len
    have npm : lm ≠ p := (hb3.ne em).symm
    have nfm : lm ≠ lf := (ne_of_none f3 em).symm
    have S0' : Same H3 (upd H3 lm (.lst (ns.map V.int))) := Same.put em
    have M0 : (upd H3 lm (.lst (ns.map V.int))) lm = some (.lst (ns.map V.int)) := upd_same
    have B0 := hb3.new (o := .lst (ns.map V.int)) em
    have F0 := S0' _ _ f3
    have xm0 : rs p lf (upd H3 lm (.lst (ns.map V.int))) lm = some (.lst (ns.map V.int)) := rs_at npm nfm upd_same
    have hd0 := d3.mono (rs_up (p := p) (q := lf) S0')
    generalize upd H3 lm (.lst (ns.map V.int)) = G0 at S0' M0 B0 F0 xm0 hd0 ⊢
    have S0 : Same G0 G0 := Same.refl _
    have A0 : DdAll K (rs p lf G0) ([] : List V) [] := .nil
    dsimp only [gName]
    refine ⟨_, rfl, _, rfl, _, rfl, (by show 1 ≤ sizeLine; decide), fun q1 w1 => ?_⟩
    have nfq1 : q1 ≠ lf := (ne_of_none F0 w1).symm
    have npq1 : q1 ≠ p := (B0.ne w1).symm
    have s0 : Same G0 (upd G0 q1 (.lst [.int (j : Int)])) := Same.put w1
    have xq1 : rs p lf (upd G0 q1 (.lst [.int (j : Int)])) q1 = some (.lst [.int (j : Int)]) := rs_at npq1 nfq1 upd_same
    have yq1 : (upd G0 q1 (.lst [.int (j : Int)])) q1 = some (.lst [.int (j : Int)]) := upd_same
    have B1 := B0.new (o := (.lst [.int (j : Int)])) w1
    have F1 := s0 _ _ F0
    have M1 := s0 _ _ M0
    have S1 := Tp.Same.tr S0 s0
    have A1 := A0.mono (rs_up s0)
    have xm1 := rs_up (p := p) (q := lf) s0 _ _ xm0
    generalize upd G0 q1 (.lst [.int (j : Int)]) = G1 at s0 xq1 yq1 B1 F1 M1 S1 A1 xm1 ⊢
    refine ⟨lm, q1, _, _, rfl, rfl, M1, yq1, by simp only [List.length_map, List.length_singleton]; rw [PySem.sizeLine_eq]; omega, fun q2 w2 => ?_⟩
    have nfq2 : q2 ≠ lf := (ne_of_none F1 w2).symm
    have npq2 : q2 ≠ p := (B1.ne w2).symm
    have s1 : Same G1 (upd G1 q2 (.lst (ns.map V.int ++ [.int (j : Int)]))) := Same.put w2
    have xq2 : rs p lf (upd G1 q2 (.lst (ns.map V.int ++ [.int (j : Int)]))) q2 = some (.lst (ns.map V.int ++ [.int (j : Int)])) := rs_at npq2 nfq2 upd_same
    have yq2 : (upd G1 q2 (.lst (ns.map V.int ++ [.int (j : Int)]))) q2 = some (.lst (ns.map V.int ++ [.int (j : Int)])) := upd_same
    have B2 := B1.new (o := (.lst (ns.map V.int ++ [.int (j : Int)]))) w2
    have F2 := s1 _ _ F1
    have M2 := s1 _ _ M1
    have S2 := Tp.Same.tr S1 s1
    have A2 := A1.mono (rs_up s1)
    have xm2 := rs_up (p := p) (q := lf) s1 _ _ xm1
    generalize upd G1 q2 (.lst (ns.map V.int ++ [.int (j : Int)])) = G2 at s1 xq2 yq2 B2 F2 M2 S2 A2 xm2 ⊢
    refine ⟨(by show 2 ≤ sizeLine; decide), fun q3 w3 => ?_⟩
    have nfq3 : q3 ≠ lf := (ne_of_none F2 w3).symm
    have npq3 : q3 ≠ p := (B2.ne w3).symm
    have s2 : Same G2 (upd G2 q3 (.tup [.str z, .ref q2])) := Same.put w3
    have xq3 : rs p lf (upd G2 q3 (.tup [.str z, .ref q2])) q3 = some (.tup [.str z, .ref q2]) := rs_at npq3 nfq3 upd_same
    have yq3 : (upd G2 q3 (.tup [.str z, .ref q2])) q3 = some (.tup [.str z, .ref q2]) := upd_same
    have B3 := B2.new (o := (.tup [.str z, .ref q2])) w3
    have F3 := s2 _ _ F2
    have M3 := s2 _ _ M2
    have S3 := Tp.Same.tr S2 s2
    have A3 := A2.mono (rs_up s2)
    have xm3 := rs_up (p := p) (q := lf) s2 _ _ xm2
    generalize upd G2 q3 (.tup [.str z, .ref q2]) = G3 at s2 xq3 yq3 B3 F3 M3 S3 A3 xm3 ⊢
    have A3 := A3.app (.cons (Dd.tup (ds := [.str z, .list (ns.map .int ++ [.int (j : Int)])]) (SqT.of xq3) (.cons (.str z) (.cons (.lst (SqL.of (rs_up (p := p) (q := lf) s2 _ _ xq2)) (DdAll.app (ddAll_ints ns) (.cons (.int _) .nil))) .nil))) .nil)
    refine ⟨_, rfl, _, rfl, _, _, rfl, rfl, (by show 1 ≤ sizeLine; decide), fun q4 w4 => ?_⟩
    have nfq4 : q4 ≠ lf := (ne_of_none F3 w4).symm
    have npq4 : q4 ≠ p := (B3.ne w4).symm
    have s3 : Same G3 (upd G3 q4 (.lst [.int (0 - 1)])) := Same.put w4
    have xq4 : rs p lf (upd G3 q4 (.lst [.int (0 - 1)])) q4 = some (.lst [.int (0 - 1)]) := rs_at npq4 nfq4 upd_same
    have yq4 : (upd G3 q4 (.lst [.int (0 - 1)])) q4 = some (.lst [.int (0 - 1)]) := upd_same
    have B4 := B3.new (o := (.lst [.int (0 - 1)])) w4
    have F4 := s3 _ _ F3
    have M4 := s3 _ _ M3
    have S4 := Tp.Same.tr S3 s3
    have A4 := A3.mono (rs_up s3)
    have xm4 := rs_up (p := p) (q := lf) s3 _ _ xm3
    generalize upd G3 q4 (.lst [.int (0 - 1)]) = G4 at s3 xq4 yq4 B4 F4 M4 S4 A4 xm4 ⊢
    refine ⟨lm, q4, _, _, rfl, rfl, M4, yq4, by simp only [List.length_map, List.length_singleton]; rw [PySem.sizeLine_eq]; omega, fun q5 w5 => ?_⟩
    have nfq5 : q5 ≠ lf := (ne_of_none F4 w5).symm
    have npq5 : q5 ≠ p := (B4.ne w5).symm
    have s4 : Same G4 (upd G4 q5 (.lst (ns.map V.int ++ [.int (0 - 1)]))) := Same.put w5
    have xq5 : rs p lf (upd G4 q5 (.lst (ns.map V.int ++ [.int (0 - 1)]))) q5 = some (.lst (ns.map V.int ++ [.int (0 - 1)])) := rs_at npq5 nfq5 upd_same
    have yq5 : (upd G4 q5 (.lst (ns.map V.int ++ [.int (0 - 1)]))) q5 = some (.lst (ns.map V.int ++ [.int (0 - 1)])) := upd_same
    have B5 := B4.new (o := (.lst (ns.map V.int ++ [.int (0 - 1)]))) w5
    have F5 := s4 _ _ F4
    have M5 := s4 _ _ M4
    have S5 := Tp.Same.tr S4 s4
    have A5 := A4.mono (rs_up s4)
    have xm5 := rs_up (p := p) (q := lf) s4 _ _ xm4
    generalize upd G4 q5 (.lst (ns.map V.int ++ [.int (0 - 1)])) = G5 at s4 xq5 yq5 B5 F5 M5 S5 A5 xm5 ⊢
    refine ⟨(by show 2 ≤ sizeLine; decide), fun q6 w6 => ?_⟩
    have nfq6 : q6 ≠ lf := (ne_of_none F5 w6).symm
    have npq6 : q6 ≠ p := (B5.ne w6).symm
    have s5 : Same G5 (upd G5 q6 (.tup [.str z, .ref q5])) := Same.put w6
    have xq6 : rs p lf (upd G5 q6 (.tup [.str z, .ref q5])) q6 = some (.tup [.str z, .ref q5]) := rs_at npq6 nfq6 upd_same
    have yq6 : (upd G5 q6 (.tup [.str z, .ref q5])) q6 = some (.tup [.str z, .ref q5]) := upd_same
    have B6 := B5.new (o := (.tup [.str z, .ref q5])) w6
    have F6 := s5 _ _ F5
    have M6 := s5 _ _ M5
    have S6 := Tp.Same.tr S5 s5
    have A6 := A5.mono (rs_up s5)
    have xm6 := rs_up (p := p) (q := lf) s5 _ _ xm5
    generalize upd G5 q6 (.tup [.str z, .ref q5]) = G6 at s5 xq6 yq6 B6 F6 M6 S6 A6 xm6 ⊢
    have A6 := A6.app (.cons (Dd.tup (ds := [.str z, .list (ns.map .int ++ [.int (0 - 1)])]) (SqT.of xq6) (.cons (.str z) (.cons (.lst (SqL.of (rs_up (p := p) (q := lf) s5 _ _ xq5)) (DdAll.app (ddAll_ints ns) (.cons (.int _) .nil))) .nil))) .nil)
    refine ⟨_, rfl, _, rfl, (by show 1 ≤ sizeLine; decide), fun q7 w7 => ?_⟩
    have nfq7 : q7 ≠ lf := (ne_of_none F6 w7).symm
    have npq7 : q7 ≠ p := (B6.ne w7).symm
    have s6 : Same G6 (upd G6 q7 (.lst [.bl true])) := Same.put w7
    have xq7 : rs p lf (upd G6 q7 (.lst [.bl true])) q7 = some (.lst [.bl true]) := rs_at npq7 nfq7 upd_same
    have yq7 : (upd G6 q7 (.lst [.bl true])) q7 = some (.lst [.bl true]) := upd_same
    have B7 := B6.new (o := (.lst [.bl true])) w7
    have F7 := s6 _ _ F6
    have M7 := s6 _ _ M6
    have S7 := Tp.Same.tr S6 s6
    have A7 := A6.mono (rs_up s6)
    have xm7 := rs_up (p := p) (q := lf) s6 _ _ xm6
    generalize upd G6 q7 (.lst [.bl true]) = G7 at s6 xq7 yq7 B7 F7 M7 S7 A7 xm7 ⊢
    refine ⟨lm, q7, _, _, rfl, rfl, M7, yq7, by simp only [List.length_map, List.length_singleton]; rw [PySem.sizeLine_eq]; omega, fun q8 w8 => ?_⟩
    have nfq8 : q8 ≠ lf := (ne_of_none F7 w8).symm
    have npq8 : q8 ≠ p := (B7.ne w8).symm
    have s7 : Same G7 (upd G7 q8 (.lst (ns.map V.int ++ [.bl true]))) := Same.put w8
    have xq8 : rs p lf (upd G7 q8 (.lst (ns.map V.int ++ [.bl true]))) q8 = some (.lst (ns.map V.int ++ [.bl true])) := rs_at npq8 nfq8 upd_same
    have yq8 : (upd G7 q8 (.lst (ns.map V.int ++ [.bl true]))) q8 = some (.lst (ns.map V.int ++ [.bl true])) := upd_same
    have B8 := B7.new (o := (.lst (ns.map V.int ++ [.bl true]))) w8
    have F8 := s7 _ _ F7
    have M8 := s7 _ _ M7
    have S8 := Tp.Same.tr S7 s7
    have A8 := A7.mono (rs_up s7)
    have xm8 := rs_up (p := p) (q := lf) s7 _ _ xm7
    generalize upd G7 q8 (.lst (ns.map V.int ++ [.bl true])) = G8 at s7 xq8 yq8 B8 F8 M8 S8 A8 xm8 ⊢
    refine ⟨(by show 2 ≤ sizeLine; decide), fun q9 w9 => ?_⟩
    have nfq9 : q9 ≠ lf := (ne_of_none F8 w9).symm
    have npq9 : q9 ≠ p := (B8.ne w9).symm
    have s8 : Same G8 (upd G8 q9 (.tup [.str z, .ref q8])) := Same.put w9
    have xq9 : rs p lf (upd G8 q9 (.tup [.str z, .ref q8])) q9 = some (.tup [.str z, .ref q8]) := rs_at npq9 nfq9 upd_same
    have yq9 : (upd G8 q9 (.tup [.str z, .ref q8])) q9 = some (.tup [.str z, .ref q8]) := upd_same
    have B9 := B8.new (o := (.tup [.str z, .ref q8])) w9
    have F9 := s8 _ _ F8
    have M9 := s8 _ _ M8
    have S9 := Tp.Same.tr S8 s8
    have A9 := A8.mono (rs_up s8)
    have xm9 := rs_up (p := p) (q := lf) s8 _ _ xm8
    generalize upd G8 q9 (.tup [.str z, .ref q8]) = G9 at s8 xq9 yq9 B9 F9 M9 S9 A9 xm9 ⊢
    have A9 := A9.app (.cons (Dd.tup (ds := [.str z, .list (ns.map .int ++ [.bool true])]) (SqT.of xq9) (.cons (.str z) (.cons (.lst (SqL.of (rs_up (p := p) (q := lf) s8 _ _ xq8)) (DdAll.app (ddAll_ints ns) (.cons (.bl true) .nil))) .nil))) .nil)
    refine ⟨_, rfl, _, rfl, (by show 1 ≤ sizeLine; decide), fun q10 w10 => ?_⟩
    have nfq10 : q10 ≠ lf := (ne_of_none F9 w10).symm
    have npq10 : q10 ≠ p := (B9.ne w10).symm
    have s9 : Same G9 (upd G9 q10 (.lst [.str "0"])) := Same.put w10
    have xq10 : rs p lf (upd G9 q10 (.lst [.str "0"])) q10 = some (.lst [.str "0"]) := rs_at npq10 nfq10 upd_same
    have yq10 : (upd G9 q10 (.lst [.str "0"])) q10 = some (.lst [.str "0"]) := upd_same
    have B10 := B9.new (o := (.lst [.str "0"])) w10
    have F10 := s9 _ _ F9
    have M10 := s9 _ _ M9
    have S10 := Tp.Same.tr S9 s9
    have A10 := A9.mono (rs_up s9)
    have xm10 := rs_up (p := p) (q := lf) s9 _ _ xm9
    generalize upd G9 q10 (.lst [.str "0"]) = G10 at s9 xq10 yq10 B10 F10 M10 S10 A10 xm10 ⊢
    refine ⟨lm, q10, _, _, rfl, rfl, M10, yq10, by simp only [List.length_map, List.length_singleton]; rw [PySem.sizeLine_eq]; omega, fun q11 w11 => ?_⟩
    have nfq11 : q11 ≠ lf := (ne_of_none F10 w11).symm
    have npq11 : q11 ≠ p := (B10.ne w11).symm
    have s10 : Same G10 (upd G10 q11 (.lst (ns.map V.int ++ [.str "0"]))) := Same.put w11
    have xq11 : rs p lf (upd G10 q11 (.lst (ns.map V.int ++ [.str "0"]))) q11 = some (.lst (ns.map V.int ++ [.str "0"])) := rs_at npq11 nfq11 upd_same
    have yq11 : (upd G10 q11 (.lst (ns.map V.int ++ [.str "0"]))) q11 = some (.lst (ns.map V.int ++ [.str "0"])) := upd_same
    have B11 := B10.new (o := (.lst (ns.map V.int ++ [.str "0"]))) w11
    have F11 := s10 _ _ F10
    have M11 := s10 _ _ M10
    have S11 := Tp.Same.tr S10 s10
    have A11 := A10.mono (rs_up s10)
    have xm11 := rs_up (p := p) (q := lf) s10 _ _ xm10
    generalize upd G10 q11 (.lst (ns.map V.int ++ [.str "0"])) = G11 at s10 xq11 yq11 B11 F11 M11 S11 A11 xm11 ⊢
    refine ⟨(by show 2 ≤ sizeLine; decide), fun q12 w12 => ?_⟩
    have nfq12 : q12 ≠ lf := (ne_of_none F11 w12).symm
    have npq12 : q12 ≠ p := (B11.ne w12).symm
    have s11 : Same G11 (upd G11 q12 (.tup [.str z, .ref q11])) := Same.put w12
    have xq12 : rs p lf (upd G11 q12 (.tup [.str z, .ref q11])) q12 = some (.tup [.str z, .ref q11]) := rs_at npq12 nfq12 upd_same
    have yq12 : (upd G11 q12 (.tup [.str z, .ref q11])) q12 = some (.tup [.str z, .ref q11]) := upd_same
    have B12 := B11.new (o := (.tup [.str z, .ref q11])) w12
    have F12 := s11 _ _ F11
    have M12 := s11 _ _ M11
    have S12 := Tp.Same.tr S11 s11
    have A12 := A11.mono (rs_up s11)
    have xm12 := rs_up (p := p) (q := lf) s11 _ _ xm11
    generalize upd G11 q12 (.tup [.str z, .ref q11]) = G12 at s11 xq12 yq12 B12 F12 M12 S12 A12 xm12 ⊢
    have A12 := A12.app (.cons (Dd.tup (ds := [.str z, .list (ns.map .int ++ [.str "0"])]) (SqT.of xq12) (.cons (.str z) (.cons (.lst (SqL.of (rs_up (p := p) (q := lf) s11 _ _ xq11)) (DdAll.app (ddAll_ints ns) (.cons (.str _) .nil))) .nil))) .nil)
    refine ⟨_, rfl, (by show 1 ≤ sizeLine; decide), fun q13 w13 => ?_⟩
    have nfq13 : q13 ≠ lf := (ne_of_none F12 w13).symm
    have npq13 : q13 ≠ p := (B12.ne w13).symm
    have s12 : Same G12 (upd G12 q13 (.tup [.str z])) := Same.put w13
    have xq13 : rs p lf (upd G12 q13 (.tup [.str z])) q13 = some (.tup [.str z]) := rs_at npq13 nfq13 upd_same
    have yq13 : (upd G12 q13 (.tup [.str z])) q13 = some (.tup [.str z]) := upd_same
    have B13 := B12.new (o := (.tup [.str z])) w13
    have F13 := s12 _ _ F12
    have M13 := s12 _ _ M12
    have S13 := Tp.Same.tr S12 s12
    have A13 := A12.mono (rs_up s12)
    have xm13 := rs_up (p := p) (q := lf) s12 _ _ xm12
    generalize upd G12 q13 (.tup [.str z]) = G13 at s12 xq13 yq13 B13 F13 M13 S13 A13 xm13 ⊢
    have A13 := A13.app (.cons (Dd.tup (ds := [.str z]) (SqT.of xq13) (.cons (.str z) .nil)) .nil)
    have A13 := A13.app (.cons (.non) .nil)
    refine ⟨(by show 6 ≤ sizeLine; decide), fun q14 w14 => ?_⟩
    have nfq14 : q14 ≠ lf := (ne_of_none F13 w14).symm
    have npq14 : q14 ≠ p := (B13.ne w14).symm
    have s13 : Same G13 (upd G13 q14 (.lst [.ref q3, .ref q6, .ref q9, .ref q12, .ref q13, .non])) := Same.put w14
    have xq14 : rs p lf (upd G13 q14 (.lst [.ref q3, .ref q6, .ref q9, .ref q12, .ref q13, .non])) q14 = some (.lst [.ref q3, .ref q6, .ref q9, .ref q12, .ref q13, .non]) := rs_at npq14 nfq14 upd_same
    have yq14 : (upd G13 q14 (.lst [.ref q3, .ref q6, .ref q9, .ref q12, .ref q13, .non])) q14 = some (.lst [.ref q3, .ref q6, .ref q9, .ref q12, .ref q13, .non]) := upd_same
    have B14 := B13.new (o := (.lst [.ref q3, .ref q6, .ref q9, .ref q12, .ref q13, .non])) w14
    have F14 := s13 _ _ F13
    have M14 := s13 _ _ M13
    have S14 := Tp.Same.tr S13 s13
    have A14 := A13.mono (rs_up s13)
    have xm14 := rs_up (p := p) (q := lf) s13 _ _ xm13
    generalize upd G13 q14 (.lst [.ref q3, .ref q6, .ref q9, .ref q12, .ref q13, .non]) = G14 at s13 xq14 yq14 B14 F14 M14 S14 A14 xm14 ⊢
    refine ⟨_, rfl, _, rfl, _, rfl, _, rfl, (by show 3 ≤ sizeLine; decide), fun q15 w15 => ?_⟩
    have nfq15 : q15 ≠ lf := (ne_of_none F14 w15).symm
    have npq15 : q15 ≠ p := (B14.ne w15).symm
    have s14 : Same G14 (upd G14 q15 (.tup [.str z, .ref lm, .ref lm])) := Same.put w15
    have xq15 : rs p lf (upd G14 q15 (.tup [.str z, .ref lm, .ref lm])) q15 = some (.tup [.str z, .ref lm, .ref lm]) := rs_at npq15 nfq15 upd_same
    have yq15 : (upd G14 q15 (.tup [.str z, .ref lm, .ref lm])) q15 = some (.tup [.str z, .ref lm, .ref lm]) := upd_same
    have B15 := B14.new (o := (.tup [.str z, .ref lm, .ref lm])) w15
    have F15 := s14 _ _ F14
    have M15 := s14 _ _ M14
    have S15 := Tp.Same.tr S14 s14
    have A15 := A14.mono (rs_up s14)
    have xm15 := rs_up (p := p) (q := lf) s14 _ _ xm14
    generalize upd G14 q15 (.tup [.str z, .ref lm, .ref lm]) = G15 at s14 xq15 yq15 B15 F15 M15 S15 A15 xm15 ⊢
    have A15 := A15.app (.cons (Dd.tup (ds := [.str z, .list (ns.map .int), .list (ns.map .int)]) (SqT.of xq15) (.cons (.str z) (.cons (.lst (SqL.of xm15) (ddAll_ints ns)) (.cons (.lst (SqL.of xm15) (ddAll_ints ns)) .nil)))) .nil)
    refine ⟨_, rfl, _, rfl, z, rfl, by rw [PySem.sizeLine_eq]; omega, _, _, rfl, rfl, by have := (hz.cut (some 1) none).len; have : ("A" : Str).length = 1 := (by decide +kernel); rw [PySem.sizeLine_eq]; omega, _, rfl, (by show 2 ≤ sizeLine; decide), fun q16 w16 => ?_⟩
    have nfq16 : q16 ≠ lf := (ne_of_none F15 w16).symm
    have npq16 : q16 ≠ p := (B15.ne w16).symm
    have s15 : Same G15 (upd G15 q16 (.tup [.str (("A" : Str) ++ cutS z (some 1) none), .ref lm])) := Same.put w16
    have xq16 : rs p lf (upd G15 q16 (.tup [.str (("A" : Str) ++ cutS z (some 1) none), .ref lm])) q16 = some (.tup [.str (("A" : Str) ++ cutS z (some 1) none), .ref lm]) := rs_at npq16 nfq16 upd_same
    have yq16 : (upd G15 q16 (.tup [.str (("A" : Str) ++ cutS z (some 1) none), .ref lm])) q16 = some (.tup [.str (("A" : Str) ++ cutS z (some 1) none), .ref lm]) := upd_same
    have B16 := B15.new (o := (.tup [.str (("A" : Str) ++ cutS z (some 1) none), .ref lm])) w16
    have F16 := s15 _ _ F15
    have M16 := s15 _ _ M15
    have S16 := Tp.Same.tr S15 s15
    have A16 := A15.mono (rs_up s15)
    have xm16 := rs_up (p := p) (q := lf) s15 _ _ xm15
    generalize upd G15 q16 (.tup [.str (("A" : Str) ++ cutS z (some 1) none), .ref lm]) = G16 at s15 xq16 yq16 B16 F16 M16 S16 A16 xm16 ⊢
    have A16 := A16.app (.cons (Dd.tup (ds := [.str (("A" : Str) ++ cutS z (some 1) none), .list (ns.map .int)]) (SqT.of xq16) (.cons (.str _) (.cons (.lst (SqL.of xm16) (ddAll_ints ns)) .nil))) .nil)
    refine ⟨_, rfl, (by show 2 ≤ sizeLine; decide), fun q17 w17 => ?_⟩
    have nfq17 : q17 ≠ lf := (ne_of_none F16 w17).symm
    have npq17 : q17 ≠ p := (B16.ne w17).symm
    have s16 : Same G16 (upd G16 q17 (.tup [.str "", .ref lm])) := Same.put w17
    have xq17 : rs p lf (upd G16 q17 (.tup [.str "", .ref lm])) q17 = some (.tup [.str "", .ref lm]) := rs_at npq17 nfq17 upd_same
    have yq17 : (upd G16 q17 (.tup [.str "", .ref lm])) q17 = some (.tup [.str "", .ref lm]) := upd_same
    have B17 := B16.new (o := (.tup [.str "", .ref lm])) w17
    have F17 := s16 _ _ F16
    have M17 := s16 _ _ M16
    have S17 := Tp.Same.tr S16 s16
    have A17 := A16.mono (rs_up s16)
    have xm17 := rs_up (p := p) (q := lf) s16 _ _ xm16
    generalize upd G16 q17 (.tup [.str "", .ref lm]) = G17 at s16 xq17 yq17 B17 F17 M17 S17 A17 xm17 ⊢
    have A17 := A17.app (.cons (Dd.tup (ds := [.str "", .list (ns.map .int)]) (SqT.of xq17) (.cons (.str _) (.cons (.lst (SqL.of xm17) (ddAll_ints ns)) .nil))) .nil)
    refine ⟨_, rfl, (by show 2 ≤ sizeLine; decide), fun q18 w18 => ?_⟩
    have nfq18 : q18 ≠ lf := (ne_of_none F17 w18).symm
    have npq18 : q18 ≠ p := (B17.ne w18).symm
    have s17 : Same G17 (upd G17 q18 (.tup [.str "1a", .ref lm])) := Same.put w18
    have xq18 : rs p lf (upd G17 q18 (.tup [.str "1a", .ref lm])) q18 = some (.tup [.str "1a", .ref lm]) := rs_at npq18 nfq18 upd_same
    have yq18 : (upd G17 q18 (.tup [.str "1a", .ref lm])) q18 = some (.tup [.str "1a", .ref lm]) := upd_same
    have B18 := B17.new (o := (.tup [.str "1a", .ref lm])) w18
    have F18 := s17 _ _ F17
    have M18 := s17 _ _ M17
    have S18 := Tp.Same.tr S17 s17
    have A18 := A17.mono (rs_up s17)
    have xm18 := rs_up (p := p) (q := lf) s17 _ _ xm17
    generalize upd G17 q18 (.tup [.str "1a", .ref lm]) = G18 at s17 xq18 yq18 B18 F18 M18 S18 A18 xm18 ⊢
    have A18 := A18.app (.cons (Dd.tup (ds := [.str "1a", .list (ns.map .int)]) (SqT.of xq18) (.cons (.str _) (.cons (.lst (SqL.of xm18) (ddAll_ints ns)) .nil))) .nil)
    refine ⟨_, rfl, (by show 2 ≤ sizeLine; decide), fun q19 w19 => ?_⟩
    have nfq19 : q19 ≠ lf := (ne_of_none F18 w19).symm
    have npq19 : q19 ≠ p := (B18.ne w19).symm
    have s18 : Same G18 (upd G18 q19 (.tup [.str z, .int 0])) := Same.put w19
    have xq19 : rs p lf (upd G18 q19 (.tup [.str z, .int 0])) q19 = some (.tup [.str z, .int 0]) := rs_at npq19 nfq19 upd_same
    have yq19 : (upd G18 q19 (.tup [.str z, .int 0])) q19 = some (.tup [.str z, .int 0]) := upd_same
    have B19 := B18.new (o := (.tup [.str z, .int 0])) w19
    have F19 := s18 _ _ F18
    have M19 := s18 _ _ M18
    have S19 := Tp.Same.tr S18 s18
    have A19 := A18.mono (rs_up s18)
    have xm19 := rs_up (p := p) (q := lf) s18 _ _ xm18
    generalize upd G18 q19 (.tup [.str z, .int 0]) = G19 at s18 xq19 yq19 B19 F19 M19 S19 A19 xm19 ⊢
    have A19 := A19.app (.cons (Dd.tup (ds := [.str z, .int 0]) (SqT.of xq19) (.cons (.str z) (.cons (.int 0) .nil))) .nil)
    refine ⟨_, rfl, (by show 2 ≤ sizeLine; decide), fun q20 w20 => ?_⟩
    have nfq20 : q20 ≠ lf := (ne_of_none F19 w20).symm
    have npq20 : q20 ≠ p := (B19.ne w20).symm
    have s19 : Same G19 (upd G19 q20 (.tup [.str z, .str "0"])) := Same.put w20
    have xq20 : rs p lf (upd G19 q20 (.tup [.str z, .str "0"])) q20 = some (.tup [.str z, .str "0"]) := rs_at npq20 nfq20 upd_same
    have yq20 : (upd G19 q20 (.tup [.str z, .str "0"])) q20 = some (.tup [.str z, .str "0"]) := upd_same
    have B20 := B19.new (o := (.tup [.str z, .str "0"])) w20
    have F20 := s19 _ _ F19
    have M20 := s19 _ _ M19
    have S20 := Tp.Same.tr S19 s19
    have A20 := A19.mono (rs_up s19)
    have xm20 := rs_up (p := p) (q := lf) s19 _ _ xm19
    generalize upd G19 q20 (.tup [.str z, .str "0"]) = G20 at s19 xq20 yq20 B20 F20 M20 S20 A20 xm20 ⊢
    have A20 := A20.app (.cons (Dd.tup (ds := [.str z, .str "0"]) (SqT.of xq20) (.cons (.str z) (.cons (.str _) .nil))) .nil)
    refine ⟨(by show 6 ≤ sizeLine; decide), fun q21 w21 => ?_⟩
    have nfq21 : q21 ≠ lf := (ne_of_none F20 w21).symm
    have npq21 : q21 ≠ p := (B20.ne w21).symm
    have s20 : Same G20 (upd G20 q21 (.lst [.ref q15, .ref q16, .ref q17, .ref q18, .ref q19, .ref q20])) := Same.put w21
    have xq21 : rs p lf (upd G20 q21 (.lst [.ref q15, .ref q16, .ref q17, .ref q18, .ref q19, .ref q20])) q21 = some (.lst [.ref q15, .ref q16, .ref q17, .ref q18, .ref q19, .ref q20]) := rs_at npq21 nfq21 upd_same
    have yq21 : (upd G20 q21 (.lst [.ref q15, .ref q16, .ref q17, .ref q18, .ref q19, .ref q20])) q21 = some (.lst [.ref q15, .ref q16, .ref q17, .ref q18, .ref q19, .ref q20]) := upd_same
    have B21 := B20.new (o := (.lst [.ref q15, .ref q16, .ref q17, .ref q18, .ref q19, .ref q20])) w21
    have F21 := s20 _ _ F20
    have M21 := s20 _ _ M20
    have S21 := Tp.Same.tr S20 s20
    have A21 := A20.mono (rs_up s20)
    have xm21 := rs_up (p := p) (q := lf) s20 _ _ xm20
    generalize upd G20 q21 (.lst [.ref q15, .ref q16, .ref q17, .ref q18, .ref q19, .ref q20]) = G21 at s20 xq21 yq21 B21 F21 M21 S21 A21 xm21 ⊢
    have z1 : G21 q14 = some (.lst [.ref q3, .ref q6, .ref q9, .ref q12, .ref q13, .non]) := (Tp.Same.tr s14 (Tp.Same.tr s15 (Tp.Same.tr s16 (Tp.Same.tr s17 (Tp.Same.tr s18 (Tp.Same.tr s19 s20)))))) _ _ yq14
    refine ⟨q14, q21, _, _, rfl, rfl, z1, yq21, (by show 12 ≤ sizeLine; decide), fun q22 w22 => ?_⟩
    have nfq22 : q22 ≠ lf := (ne_of_none F21 w22).symm
    have npq22 : q22 ≠ p := (B21.ne w22).symm
    have s21 : Same G21 (upd G21 q22 (.lst ([V.ref q3, V.ref q6, V.ref q9, V.ref q12, V.ref q13, V.non] ++ [V.ref q15, V.ref q16, V.ref q17, V.ref q18, V.ref q19, V.ref q20]))) := Same.put w22
    have xq22 : rs p lf (upd G21 q22 (.lst ([V.ref q3, V.ref q6, V.ref q9, V.ref q12, V.ref q13, V.non] ++ [V.ref q15, V.ref q16, V.ref q17, V.ref q18, V.ref q19, V.ref q20]))) q22 = some (.lst ([V.ref q3, V.ref q6, V.ref q9, V.ref q12, V.ref q13, V.non] ++ [V.ref q15, V.ref q16, V.ref q17, V.ref q18, V.ref q19, V.ref q20])) := rs_at npq22 nfq22 upd_same
    have yq22 : (upd G21 q22 (.lst ([V.ref q3, V.ref q6, V.ref q9, V.ref q12, V.ref q13, V.non] ++ [V.ref q15, V.ref q16, V.ref q17, V.ref q18, V.ref q19, V.ref q20]))) q22 = some (.lst ([V.ref q3, V.ref q6, V.ref q9, V.ref q12, V.ref q13, V.non] ++ [V.ref q15, V.ref q16, V.ref q17, V.ref q18, V.ref q19, V.ref q20])) := upd_same
    have B22 := B21.new (o := (.lst ([V.ref q3, V.ref q6, V.ref q9, V.ref q12, V.ref q13, V.non] ++ [V.ref q15, V.ref q16, V.ref q17, V.ref q18, V.ref q19, V.ref q20]))) w22
    have F22 := s21 _ _ F21
    have M22 := s21 _ _ M21
    have S22 := Tp.Same.tr S21 s21
    have A22 := A21.mono (rs_up s21)
    have xm22 := rs_up (p := p) (q := lf) s21 _ _ xm21
    generalize upd G21 q22 (.lst ([V.ref q3, V.ref q6, V.ref q9, V.ref q12, V.ref q13, V.non] ++ [V.ref q15, V.ref q16, V.ref q17, V.ref q18, V.ref q19, V.ref q20])) = G22 at s21 xq22 yq22 B22 F22 M22 S22 A22 xm22 ⊢
    refine ⟨_, rfl, _, rfl, fun q23 w23 => ?_⟩
    refine ⟨upd_same, [(Sum.inl 0, .int 0)], rfl, by decide, ?_⟩
    rw [upd_upd]
    have nfq23 : q23 ≠ lf := (ne_of_none F22 w23).symm
    have npq23 : q23 ≠ p := (B22.ne w23).symm
    have s22 : Same G22 (upd G22 q23 (.dK (mergeK [] [(Sum.inl 0, V.int 0)]))) := Same.put w23
    have xq23 : rs p lf (upd G22 q23 (.dK (mergeK [] [(Sum.inl 0, V.int 0)]))) q23 = some (.dK (mergeK [] [(Sum.inl 0, V.int 0)])) := rs_at npq23 nfq23 upd_same
    have yq23 : (upd G22 q23 (.dK (mergeK [] [(Sum.inl 0, V.int 0)]))) q23 = some (.dK (mergeK [] [(Sum.inl 0, V.int 0)])) := upd_same
    have B23 := B22.new (o := (.dK (mergeK [] [(Sum.inl 0, V.int 0)]))) w23
    have F23 := s22 _ _ F22
    have M23 := s22 _ _ M22
    have S23 := Tp.Same.tr S22 s22
    have A23 := A22.mono (rs_up s22)
    have xm23 := rs_up (p := p) (q := lf) s22 _ _ xm22
    generalize upd G22 q23 (.dK (mergeK [] [(Sum.inl 0, V.int 0)])) = G23 at s22 xq23 yq23 B23 F23 M23 S23 A23 xm23 ⊢
    refine ⟨(by show 2 ≤ sizeLine; decide), fun q24 w24 => ?_⟩
    have nfq24 : q24 ≠ lf := (ne_of_none F23 w24).symm
    have npq24 : q24 ≠ p := (B23.ne w24).symm
    have s23 : Same G23 (upd G23 q24 (.tup [.str z, .ref q23])) := Same.put w24
    have xq24 : rs p lf (upd G23 q24 (.tup [.str z, .ref q23])) q24 = some (.tup [.str z, .ref q23]) := rs_at npq24 nfq24 upd_same
    have yq24 : (upd G23 q24 (.tup [.str z, .ref q23])) q24 = some (.tup [.str z, .ref q23]) := upd_same
    have B24 := B23.new (o := (.tup [.str z, .ref q23])) w24
    have F24 := s23 _ _ F23
    have M24 := s23 _ _ M23
    have S24 := Tp.Same.tr S23 s23
    have A24 := A23.mono (rs_up s23)
    have xm24 := rs_up (p := p) (q := lf) s23 _ _ xm23
    generalize upd G23 q24 (.tup [.str z, .ref q23]) = G24 at s23 xq24 yq24 B24 F24 M24 S24 A24 xm24 ⊢
    have A24 := A24.app (.cons (Dd.tup (ds := [.str z, .dict [(.int 0, .int 0)]]) (SqT.of xq24) (.cons (.str z) (.cons (.dct (kvs := [(Sum.inl 0, V.int 0)]) (rs_up (p := p) (q := lf) s23 _ _ xq23) rfl (.cons (.int 0) .nil)) .nil))) .nil)
    refine ⟨_, rfl, _, rfl, (by show 4 ≤ sizeLine; decide), fun q25 w25 => ?_⟩
    have nfq25 : q25 ≠ lf := (ne_of_none F24 w25).symm
    have npq25 : q25 ≠ p := (B24.ne w25).symm
    have s24 : Same G24 (upd G24 q25 (.lst [.int 0, .int 0, .int 0, .int 0])) := Same.put w25
    have xq25 : rs p lf (upd G24 q25 (.lst [.int 0, .int 0, .int 0, .int 0])) q25 = some (.lst [.int 0, .int 0, .int 0, .int 0]) := rs_at npq25 nfq25 upd_same
    have yq25 : (upd G24 q25 (.lst [.int 0, .int 0, .int 0, .int 0])) q25 = some (.lst [.int 0, .int 0, .int 0, .int 0]) := upd_same
    have B25 := B24.new (o := (.lst [.int 0, .int 0, .int 0, .int 0])) w25
    have F25 := s24 _ _ F24
    have M25 := s24 _ _ M24
    have S25 := Tp.Same.tr S24 s24
    have A25 := A24.mono (rs_up s24)
    have xm25 := rs_up (p := p) (q := lf) s24 _ _ xm24
    generalize upd G24 q25 (.lst [.int 0, .int 0, .int 0, .int 0]) = G25 at s24 xq25 yq25 B25 F25 M25 S25 A25 xm25 ⊢
    refine ⟨lm, q25, _, _, rfl, rfl, M25, yq25, by simp only [List.length_map, List.length_cons, List.length_nil]; rw [PySem.sizeLine_eq]; omega, fun q26 w26 => ?_⟩
    have nfq26 : q26 ≠ lf := (ne_of_none F25 w26).symm
    have npq26 : q26 ≠ p := (B25.ne w26).symm
    have s25 : Same G25 (upd G25 q26 (.lst (ns.map V.int ++ [.int 0, .int 0, .int 0, .int 0]))) := Same.put w26
    have xq26 : rs p lf (upd G25 q26 (.lst (ns.map V.int ++ [.int 0, .int 0, .int 0, .int 0]))) q26 = some (.lst (ns.map V.int ++ [.int 0, .int 0, .int 0, .int 0])) := rs_at npq26 nfq26 upd_same
    have yq26 : (upd G25 q26 (.lst (ns.map V.int ++ [.int 0, .int 0, .int 0, .int 0]))) q26 = some (.lst (ns.map V.int ++ [.int 0, .int 0, .int 0, .int 0])) := upd_same
    have B26 := B25.new (o := (.lst (ns.map V.int ++ [.int 0, .int 0, .int 0, .int 0]))) w26
    have F26 := s25 _ _ F25
    have M26 := s25 _ _ M25
    have S26 := Tp.Same.tr S25 s25
    have A26 := A25.mono (rs_up s25)
    have xm26 := rs_up (p := p) (q := lf) s25 _ _ xm25
    generalize upd G25 q26 (.lst (ns.map V.int ++ [.int 0, .int 0, .int 0, .int 0])) = G26 at s25 xq26 yq26 B26 F26 M26 S26 A26 xm26 ⊢
    refine ⟨_, rfl, q26, _, rfl, SqL.of yq26, fun q27 w27 => ?_⟩
    rw [cut4]
    have nfq27 : q27 ≠ lf := (ne_of_none F26 w27).symm
    have npq27 : q27 ≠ p := (B26.ne w27).symm
    have s26 : Same G26 (upd G26 q27 (.lst (((ns ++ [0, 0, 0, 0]).take 4).map V.int))) := Same.put w27
    have xq27 : rs p lf (upd G26 q27 (.lst (((ns ++ [0, 0, 0, 0]).take 4).map V.int))) q27 = some (.lst (((ns ++ [0, 0, 0, 0]).take 4).map V.int)) := rs_at npq27 nfq27 upd_same
    have yq27 : (upd G26 q27 (.lst (((ns ++ [0, 0, 0, 0]).take 4).map V.int))) q27 = some (.lst (((ns ++ [0, 0, 0, 0]).take 4).map V.int)) := upd_same
    have B27 := B26.new (o := (.lst (((ns ++ [0, 0, 0, 0]).take 4).map V.int))) w27
    have F27 := s26 _ _ F26
    have M27 := s26 _ _ M26
    have S27 := Tp.Same.tr S26 s26
    have A27 := A26.mono (rs_up s26)
    have xm27 := rs_up (p := p) (q := lf) s26 _ _ xm26
    generalize upd G26 q27 (.lst (((ns ++ [0, 0, 0, 0]).take 4).map V.int)) = G27 at s26 xq27 yq27 B27 F27 M27 S27 A27 xm27 ⊢
    refine ⟨(by show 2 ≤ sizeLine; decide), fun q28 w28 => ?_⟩
    have nfq28 : q28 ≠ lf := (ne_of_none F27 w28).symm
    have npq28 : q28 ≠ p := (B27.ne w28).symm
    have s27 : Same G27 (upd G27 q28 (.tup [.str z, .ref q27])) := Same.put w28
    have xq28 : rs p lf (upd G27 q28 (.tup [.str z, .ref q27])) q28 = some (.tup [.str z, .ref q27]) := rs_at npq28 nfq28 upd_same
    have yq28 : (upd G27 q28 (.tup [.str z, .ref q27])) q28 = some (.tup [.str z, .ref q27]) := upd_same
    have B28 := B27.new (o := (.tup [.str z, .ref q27])) w28
    have F28 := s27 _ _ F27
    have M28 := s27 _ _ M27
    have S28 := Tp.Same.tr S27 s27
    have A28 := A27.mono (rs_up s27)
    have xm28 := rs_up (p := p) (q := lf) s27 _ _ xm27
    generalize upd G27 q28 (.tup [.str z, .ref q27]) = G28 at s27 xq28 yq28 B28 F28 M28 S28 A28 xm28 ⊢
    have A28 := A28.app (.cons (Dd.tup (ds := [.str z, .list (((ns ++ [0, 0, 0, 0]).take 4).map .int)]) (SqT.of xq28) (.cons (.str z) (.cons (.lst (SqL.of (rs_up (p := p) (q := lf) s27 _ _ xq27)) (ddAll_ints _)) .nil))) .nil)
    refine ⟨_, rfl, (by show 2 ≤ sizeLine; decide), fun q29 w29 => ?_⟩
    have nfq29 : q29 ≠ lf := (ne_of_none F28 w29).symm
    have npq29 : q29 ≠ p := (B28.ne w29).symm
    have s28 : Same G28 (upd G28 q29 (.tup [.str "abcdefghi", .ref lm])) := Same.put w29
    have xq29 : rs p lf (upd G28 q29 (.tup [.str "abcdefghi", .ref lm])) q29 = some (.tup [.str "abcdefghi", .ref lm]) := rs_at npq29 nfq29 upd_same
    have yq29 : (upd G28 q29 (.tup [.str "abcdefghi", .ref lm])) q29 = some (.tup [.str "abcdefghi", .ref lm]) := upd_same
    have B29 := B28.new (o := (.tup [.str "abcdefghi", .ref lm])) w29
    have F29 := s28 _ _ F28
    have M29 := s28 _ _ M28
    have S29 := Tp.Same.tr S28 s28
    have A29 := A28.mono (rs_up s28)
    have xm29 := rs_up (p := p) (q := lf) s28 _ _ xm28
    generalize upd G28 q29 (.tup [.str "abcdefghi", .ref lm]) = G29 at s28 xq29 yq29 B29 F29 M29 S29 A29 xm29 ⊢
    have A29 := A29.app (.cons (Dd.tup (ds := [.str "abcdefghi", .list (ns.map .int)]) (SqT.of xq29) (.cons (.str _) (.cons (.lst (SqL.of xm29) (ddAll_ints ns)) .nil))) .nil)
    have A29 := A29.app (.cons (.str z) .nil)
    refine ⟨_, rfl, ?_⟩
    refine ⟨(by show 0 ≤ sizeLine; decide), fun q30 w30 => ?_⟩
    have nfq30 : q30 ≠ lf := (ne_of_none F29 w30).symm
    have npq30 : q30 ≠ p := (B29.ne w30).symm
    have s29 : Same G29 (upd G29 q30 (.lst [])) := Same.put w30
    have xq30 : rs p lf (upd G29 q30 (.lst [])) q30 = some (.lst []) := rs_at npq30 nfq30 upd_same
    have yq30 : (upd G29 q30 (.lst [])) q30 = some (.lst []) := upd_same
    have B30 := B29.new (o := (.lst [])) w30
    have F30 := s29 _ _ F29
    have M30 := s29 _ _ M29
    have S30 := Tp.Same.tr S29 s29
    have A30 := A29.mono (rs_up s29)
    have xm30 := rs_up (p := p) (q := lf) s29 _ _ xm29
    generalize upd G29 q30 (.lst []) = G30 at s29 xq30 yq30 B30 F30 M30 S30 A30 xm30 ⊢
    have A30 := A30.app (.cons (Dd.lst (SqL.of xq30) .nil) .nil)
    refine ⟨_, rfl, (by show 2 ≤ sizeLine; decide), fun q31 w31 => ?_⟩
    have nfq31 : q31 ≠ lf := (ne_of_none F30 w31).symm
    have npq31 : q31 ≠ p := (B30.ne w31).symm
    have s30 : Same G30 (upd G30 q31 (.tup [.non, .ref lm])) := Same.put w31
    have xq31 : rs p lf (upd G30 q31 (.tup [.non, .ref lm])) q31 = some (.tup [.non, .ref lm]) := rs_at npq31 nfq31 upd_same
    have yq31 : (upd G30 q31 (.tup [.non, .ref lm])) q31 = some (.tup [.non, .ref lm]) := upd_same
    have B31 := B30.new (o := (.tup [.non, .ref lm])) w31
    have F31 := s30 _ _ F30
    have M31 := s30 _ _ M30
    have S31 := Tp.Same.tr S30 s30
    have A31 := A30.mono (rs_up s30)
    have xm31 := rs_up (p := p) (q := lf) s30 _ _ xm30
    generalize upd G30 q31 (.tup [.non, .ref lm]) = G31 at s30 xq31 yq31 B31 F31 M31 S31 A31 xm31 ⊢
    have A31 := A31.app (.cons (Dd.tup (ds := [.none, .list (ns.map .int)]) (SqT.of xq31) (.cons (.non) (.cons (.lst (SqL.of xm31) (ddAll_ints ns)) .nil))) .nil)
    refine ⟨(by show 6 ≤ sizeLine; decide), fun q32 w32 => ?_⟩
    have nfq32 : q32 ≠ lf := (ne_of_none F31 w32).symm
    have npq32 : q32 ≠ p := (B31.ne w32).symm
    have s31 : Same G31 (upd G31 q32 (.lst [.ref q24, .ref q28, .ref q29, .str z, .ref q30, .ref q31])) := Same.put w32
    have xq32 : rs p lf (upd G31 q32 (.lst [.ref q24, .ref q28, .ref q29, .str z, .ref q30, .ref q31])) q32 = some (.lst [.ref q24, .ref q28, .ref q29, .str z, .ref q30, .ref q31]) := rs_at npq32 nfq32 upd_same
    have yq32 : (upd G31 q32 (.lst [.ref q24, .ref q28, .ref q29, .str z, .ref q30, .ref q31])) q32 = some (.lst [.ref q24, .ref q28, .ref q29, .str z, .ref q30, .ref q31]) := upd_same
    have B32 := B31.new (o := (.lst [.ref q24, .ref q28, .ref q29, .str z, .ref q30, .ref q31])) w32
    have F32 := s31 _ _ F31
    have M32 := s31 _ _ M31
    have S32 := Tp.Same.tr S31 s31
    have A32 := A31.mono (rs_up s31)
    have xm32 := rs_up (p := p) (q := lf) s31 _ _ xm31
    generalize upd G31 q32 (.lst [.ref q24, .ref q28, .ref q29, .str z, .ref q30, .ref q31]) = G32 at s31 xq32 yq32 B32 F32 M32 S32 A32 xm32 ⊢
    have z2 : G32 q22 = some (.lst [.ref q3, .ref q6, .ref q9, .ref q12, .ref q13, .non, .ref q15, .ref q16, .ref q17, .ref q18, .ref q19, .ref q20]) := (Tp.Same.tr s22 (Tp.Same.tr s23 (Tp.Same.tr s24 (Tp.Same.tr s25 (Tp.Same.tr s26 (Tp.Same.tr s27 (Tp.Same.tr s28 (Tp.Same.tr s29 (Tp.Same.tr s30 s31))))))))) _ _ yq22
    refine ⟨q22, q32, _, _, rfl, rfl, z2, yq32, (by show 18 ≤ sizeLine; decide), fun q33 w33 => ?_⟩
    have nfq33 : q33 ≠ lf := (ne_of_none F32 w33).symm
    have npq33 : q33 ≠ p := (B32.ne w33).symm
    have s32 : Same G32 (upd G32 q33 (.lst ([V.ref q3, V.ref q6, V.ref q9, V.ref q12, V.ref q13, V.non, V.ref q15, V.ref q16, V.ref q17, V.ref q18, V.ref q19, V.ref q20] ++ [V.ref q24, V.ref q28, V.ref q29, V.str z, V.ref q30, V.ref q31]))) := Same.put w33
    have xq33 : rs p lf (upd G32 q33 (.lst ([V.ref q3, V.ref q6, V.ref q9, V.ref q12, V.ref q13, V.non, V.ref q15, V.ref q16, V.ref q17, V.ref q18, V.ref q19, V.ref q20] ++ [V.ref q24, V.ref q28, V.ref q29, V.str z, V.ref q30, V.ref q31]))) q33 = some (.lst ([V.ref q3, V.ref q6, V.ref q9, V.ref q12, V.ref q13, V.non, V.ref q15, V.ref q16, V.ref q17, V.ref q18, V.ref q19, V.ref q20] ++ [V.ref q24, V.ref q28, V.ref q29, V.str z, V.ref q30, V.ref q31])) := rs_at npq33 nfq33 upd_same
    have yq33 : (upd G32 q33 (.lst ([V.ref q3, V.ref q6, V.ref q9, V.ref q12, V.ref q13, V.non, V.ref q15, V.ref q16, V.ref q17, V.ref q18, V.ref q19, V.ref q20] ++ [V.ref q24, V.ref q28, V.ref q29, V.str z, V.ref q30, V.ref q31]))) q33 = some (.lst ([V.ref q3, V.ref q6, V.ref q9, V.ref q12, V.ref q13, V.non, V.ref q15, V.ref q16, V.ref q17, V.ref q18, V.ref q19, V.ref q20] ++ [V.ref q24, V.ref q28, V.ref q29, V.str z, V.ref q30, V.ref q31])) := upd_same
    have B33 := B32.new (o := (.lst ([V.ref q3, V.ref q6, V.ref q9, V.ref q12, V.ref q13, V.non, V.ref q15, V.ref q16, V.ref q17, V.ref q18, V.ref q19, V.ref q20] ++ [V.ref q24, V.ref q28, V.ref q29, V.str z, V.ref q30, V.ref q31]))) w33
    have F33 := s32 _ _ F32
    have M33 := s32 _ _ M32
    have S33 := Tp.Same.tr S32 s32
    have A33 := A32.mono (rs_up s32)
    have xm33 := rs_up (p := p) (q := lf) s32 _ _ xm32
    generalize upd G32 q33 (.lst ([V.ref q3, V.ref q6, V.ref q9, V.ref q12, V.ref q13, V.non, V.ref q15, V.ref q16, V.ref q17, V.ref q18, V.ref q19, V.ref q20] ++ [V.ref q24, V.ref q28, V.ref q29, V.str z, V.ref q30, V.ref q31])) = G33 at s32 xq33 yq33 B33 F33 M33 S33 A33 xm33 ⊢
    have AE : DdAll K (rs p lf G33) [.ref q3, .ref q6, .ref q9, .ref q12, .ref q13, .non, .ref q15, .ref q16, .ref q17, .ref q18, .ref q19, .ref q20, .ref q24, .ref q28, .ref q29, .str z, .ref q30, .ref q31] [.tuple [.str z, .list (ns.map .int ++ [.int (j : Int)])], .tuple [.str z, .list (ns.map .int ++ [.int (0 - 1)])], .tuple [.str z, .list (ns.map .int ++ [.bool true])], .tuple [.str z, .list (ns.map .int ++ [.str "0"])], .tuple [.str z], .none, .tuple [.str z, .list (ns.map .int), .list (ns.map .int)], .tuple [.str (("A" : Str) ++ cutS z (some 1) none), .list (ns.map .int)], .tuple [.str "", .list (ns.map .int)], .tuple [.str "1a", .list (ns.map .int)], .tuple [.str z, .int 0], .tuple [.str z, .str "0"], .tuple [.str z, .dict [(.int 0, .int 0)]], .tuple [.str z, .list (((ns ++ [0, 0, 0, 0]).take 4).map .int)], .tuple [.str "abcdefghi", .list (ns.map .int)], .str z, .list [], .tuple [.none, .list (ns.map .int)]] := A33
    have gE : ∀ d ∈ ([.tuple [.str z, .list (ns.map .int ++ [.int (j : Int)])], .tuple [.str z, .list (ns.map .int ++ [.int (0 - 1)])], .tuple [.str z, .list (ns.map .int ++ [.bool true])], .tuple [.str z, .list (ns.map .int ++ [.str "0"])], .tuple [.str z], .none, .tuple [.str z, .list (ns.map .int), .list (ns.map .int)], .tuple [.str (("A" : Str) ++ cutS z (some 1) none), .list (ns.map .int)], .tuple [.str "", .list (ns.map .int)], .tuple [.str "1a", .list (ns.map .int)], .tuple [.str z, .int 0], .tuple [.str z, .str "0"], .tuple [.str z, .dict [(.int 0, .int 0)]], .tuple [.str z, .list (((ns ++ [0, 0, 0, 0]).take 4).map .int)], .tuple [.str "abcdefghi", .list (ns.map .int)], .str z, .list [], .tuple [.none, .list (ns.map .int)]] : List PyData), Gd 300 4 d := by
      have gz : Gd 60 0 (.str z) := (gd_str hz).mono (by omega) (Nat.le_refl _)
      have sm : ∀ i ∈ ns, i.natAbs < 2 ^ 10 := fun i hi => by have := hni i hi; omega
      have gl : ∀ x : PyData, Gd 10 0 x → Gd 60 1 (.list (ns.map .int ++ [x])) := fun x gx => (gd_list (n := 10) (k := 0) fun d hd => by
        rcases List.mem_append.mp hd with e | e
        · obtain ⟨i, hi, rfl⟩ := List.mem_map.mp e
          exact gd_int (sm i hi) (by decide)
        · rw [List.mem_singleton.mp e]
          exact gx).mono (by rw [List.length_append, List.length_map, List.length_singleton]; omega) (Nat.le_refl _)
      have gn : Gd 60 1 (.list (ns.map .int)) := (gd_list (n := 10) (k := 0) fun d hd => by
        obtain ⟨i, hi, rfl⟩ := List.mem_map.mp hd
        exact gd_int (sm i hi) (by decide)).mono (by rw [List.length_map]; omega) (Nat.le_refl _)
      have g4 : Gd 60 1 (.list (((ns ++ [0, 0, 0, 0]).take 4).map .int)) := (gd_list (n := 10) (k := 0) fun d hd => by
        obtain ⟨i, hi, rfl⟩ := List.mem_map.mp hd
        refine gd_int ?_ (by decide)
        rcases List.mem_append.mp (List.mem_of_mem_take hi) with e | e
        · exact sm i e
        · simp only [List.mem_cons, List.not_mem_nil, or_false] at e
          rcases e with e | e | e | e <;> subst e <;> decide).mono (by rw [List.length_map]; have := List.length_take_le 4 (ns ++ [0, 0, 0, 0]); omega) (Nat.le_refl _)
      have gs : ∀ y : Str, Tz 60 y → Gd 60 1 (.str y) := fun y hy => (gd_str hy).mono (by omega) (by omega)
      have gi : ∀ i : Int, i.natAbs < 2 ^ 10 → Gd 60 1 (.int i) := fun i hi => (gd_int hi (by decide)).mono (by omega) (by omega)
      have gz1 : Gd 60 1 (.str z) := gz.mono (by omega) (by omega)
      have gd : Gd 60 1 (.dict [(.int 0, .int 0)]) := ⟨⟨by decide +kernel, by decide +kernel, by decide +kernel, by decide +kernel⟩, rfl⟩
      have t2 : ∀ a b : PyData, Gd 60 1 a → Gd 60 1 b → Gd 300 4 (.tuple [a, b]) := fun a b ha hb => (gd_tup (n := 60) (k := 1) fun d hd => by
        rcases List.mem_cons.mp hd with e | e
        · rw [e]; exact ha
        · rw [List.mem_singleton.mp e]; exact hb).mono (by simp) (by omega)
      intro d hd
      simp only [List.mem_cons, List.not_mem_nil, or_false] at hd
      rcases hd with e | e | e | e | e | e | e | e | e | e | e | e | e | e | e | e | e | e <;> subst e
      · exact t2 _ _ gz1 (gl _ (gd_int (by omega) (by decide)))
      · exact t2 _ _ gz1 (gl _ (gd_int (by decide) (by decide)))
      · exact t2 _ _ gz1 (gl _ ((gd_bool true).mono (by omega) (by omega)))
      · exact t2 _ _ gz1 (gl _ ((gd_str (n := 1) ⟨by decide +kernel, by decide +kernel⟩).mono (by omega) (by omega)))
      · exact (gd_tup (n := 60) (k := 1) fun d hd => by rw [List.mem_singleton.mp hd]; exact gz1).mono (by simp) (by omega)
      · exact gd_none.mono (by omega) (by omega)
      · exact (gd_tup (n := 60) (k := 1) fun d hd => by
          simp only [List.mem_cons, List.not_mem_nil, or_false] at hd
          rcases hd with e | e | e <;> subst e
          · exact gz1
          · exact gn
          · exact gn).mono (by simp) (by omega)
      · exact t2 _ _ (gs _ (((show Tz 1 ("A" : Str) from ⟨by decide +kernel, by decide +kernel⟩).app (hz.cut (some 1) none)).mono (by decide))) gn
      · exact t2 _ _ (gs _ (tz_nil.mono (by decide))) gn
      · exact t2 _ _ (gs _ ⟨by decide +kernel, by decide +kernel⟩) gn
      · exact t2 _ _ gz1 (gi 0 (by decide))
      · exact t2 _ _ gz1 (gs _ ⟨by decide +kernel, by decide +kernel⟩)
      · exact t2 _ _ gz1 gd
      · exact t2 _ _ gz1 g4
      · exact t2 _ _ (gs _ ⟨by decide +kernel, by decide +kernel⟩) gn
      · exact gz.mono (by omega) (by omega)
      · exact (gd_list (n := 0) (k := 0) fun d hd => absurd hd List.not_mem_nil).mono (by simp) (by omega)
      · exact t2 _ _ (gd_none.mono (by omega) (by omega)) gn
    have yE : G33 q33 = some (.lst [.ref q3, .ref q6, .ref q9, .ref q12, .ref q13, .non, .ref q15, .ref q16, .ref q17, .ref q18, .ref q19, .ref q20, .ref q24, .ref q28, .ref q29, .str z, .ref q30, .ref q31]) := yq33
    have hlE : ([.ref q3, .ref q6, .ref q9, .ref q12, .ref q13, .non, .ref q15, .ref q16, .ref q17, .ref q18, .ref q19, .ref q20, .ref q24, .ref q28, .ref q29, .str z, .ref q30, .ref q31] : List V).length = 18 := rfl
    generalize ([.ref q3, .ref q6, .ref q9, .ref q12, .ref q13, .non, .ref q15, .ref q16, .ref q17, .ref q18, .ref q19, .ref q20, .ref q24, .ref q28, .ref q29, .str z, .ref q30, .ref q31] : List V) = vals at AE yE hlE
    generalize ([.tuple [.str z, .list (ns.map .int ++ [.int (j : Int)])], .tuple [.str z, .list (ns.map .int ++ [.int (0 - 1)])], .tuple [.str z, .list (ns.map .int ++ [.bool true])], .tuple [.str z, .list (ns.map .int ++ [.str "0"])], .tuple [.str z], .none, .tuple [.str z, .list (ns.map .int), .list (ns.map .int)], .tuple [.str (("A" : Str) ++ cutS z (some 1) none), .list (ns.map .int)], .tuple [.str "", .list (ns.map .int)], .tuple [.str "1a", .list (ns.map .int)], .tuple [.str z, .int 0], .tuple [.str z, .str "0"], .tuple [.str z, .dict [(.int 0, .int 0)]], .tuple [.str z, .list (((ns ++ [0, 0, 0, 0]).take 4).map .int)], .tuple [.str "abcdefghi", .list (ns.map .int)], .str z, .list [], .tuple [.none, .list (ns.map .int)]] : List PyData) = dats at AE gE
    refine ⟨_, rfl, _, rfl, p, 18, n + 1, rfl, B33, by decide, by decide, by omega, fun d9 H9 a9 b9 hb9 k9 => ?_⟩
    have np9 : q33 ≠ p := npq33
    have y9 : H9 q33 = some (.lst vals) := (k9 _ np9).trans yE
    obtain ⟨vv, hvv, av9⟩ := atI_in (xs := vals) a9 (by rw [hlE]; exact b9)
    have k9' : Keep p G33 H9 := keep_of k9
    have hi9 : vals[d9.toNat]? = some vv := by
      have e := av9
      have e2 : d9 = ((d9.toNat : Nat) : Int) := by omega
      have e3 : d9.toNat < vals.length := by omega
      rw [e2, atI_nat (List.getElem?_eq_getElem e3)] at e
      rw [List.getElem?_eq_getElem e3, Option.some.inj e]
    obtain ⟨dd9, hdd9, hvd9⟩ := AE.get hi9
    have hs9 := rs_keep (q := lf) (Keep2.of k9')
    have f9 : H9 lf = some (.lst rows) := k9' _ _ npf F33
    have r9 : DdAll K (rs p lf H9) rows ds := (hd0.mono (rs_up S33)).mono hs9
    refine ⟨q33, _, _, _, rfl, rfl, SqL.of y9, av9, ?_⟩
    refine ⟨_, rfl, _, rfl, lf, _, _, j, rfl, rfl, f9, (by unfold ixN; rw [if_pos (by omega), if_pos (by omega), Int.toNat_natCast]), ?_⟩
    have hsl : Same (rs p lf H9) (rs p lf (upd H9 lf (.lst (rows.set j vv)))) := rs_keep fun x u h1 h2 e => (upd_ne h2).trans e
    have kH : Keep p H H9 := (Keep.of k01).trans (k23.trans ((Keep.of (Tp.Same.tr S0' S33)).trans k9'))
    refine ⟨_, rfl, q lf (rows.set j vv) (ds.set j dd9) _ ef upd_same (((r9.set (i := j) (hvd9.mono hs9)).mono hsl)) (fun d hd => ?_) (by rw [List.length_set]; exact hle) ((hb9.mono (by omega)).put npf) ?_⟩
    · rcases List.mem_or_eq_of_mem_set hd with e | e
      · exact (rows_gd hg (by omega) d e).mono (by omega) (by omega)
      · rw [e]
        exact gE _ (List.mem_of_getElem? hdd9)
    · exact (Keep2.fin (d := lf) ((Keep2.of kH).put) ef)

end
end T02
set_option Elab.async false
set_option linter.all false
set_option maxRecDepth 100000
set_option maxHeartbeats 4000000
namespace T02
open PySem PySem.Spec PyProof.Rows L2 Tp
section
variable {P : Program} {w : World} {K : PySem.W.Frag} {mg : Str → Option Value} {base : Heap} {f : Addr} {fd : FuncData}

theorem not_dec {c : Prop} [Decidable c] (h : c) : (!decide c) = false := by
  rw [decide_eq_true h]
  rfl
theorem all_false {i j : Nat} {ns : List PyData} {d : PyData} (h : ns[j]? = some d) (e : idxD i d = false) : ns.all (idxD i) = false := by
  rw [Bool.eq_false_iff]
  intro z
  rw [List.all_eq_true.mp z d (List.mem_of_getElem? h)] at e
  cases e
/-- _law_is_named of data -/
theorem named_dd {H : Hp} {x : V} {d : PyData} {Q : VK} {E : XK} (h : Dd K H x d) (hs : shortD d = true) (hm : smD d = true) (q : ∀ H', Same H H' → Q (.bl (nameD d)) H') : spNamed K [x] H Q E :=
  ⟨x, kindD d, rfl, vk_dd h hs, (fun z e => by
    subst e
    cases h
    exact smD_str hm), (fun e H' s => by
    have := q H' s
    rwa [kind_str h e] at this), fun z e H' s => by
    subst e
    cases h
    exact q H' s⟩
theorem rowsB_true : ∀ {k : Nat} {ds : List PyData}, (∀ j d, ds[j]? = some d → rowB (k + j) d = true) → rowsB k ds = true
  | _, [], _ => rfl
  | k, d :: ds, h => by
    unfold rowsB
    rw [show rowB k d = true from h 0 d rfl, rowsB_true (k := k + 1) (ds := ds) fun i e he => by
      have := h (i + 1) e he
      rwa [show k + (i + 1) = k + 1 + i by omega] at this]
    rfl
theorem rowsB_false : ∀ {k : Nat} {ds : List PyData} {j : Nat} {d : PyData}, ds[j]? = some d → rowB (k + j) d = false → rowsB k ds = false
  | k, x :: ds, 0, d, e, h => by
    cases e
    unfold rowsB
    rw [show rowB k x = false from h]
    rfl
  | k, x :: ds, j + 1, d, e, h => by
    unfold rowsB
    rw [rowsB_false (k := k + 1) (ds := ds) (j := j) e (by rwa [show k + 1 + j = k + (j + 1) by omega])]
    rw [Bool.and_false]
/-- _law_are_rows of data -/
def spAre (K : PySem.W.Frag) : Sp := fun vs H Q _ => ∃ (x : V) (d : PyData) (ds : List PyData), vs = [x] ∧ Dd K H x d ∧ seqD d = some ds ∧ shortD d = true ∧ smD d = true ∧ ds.length ≤ 1000 ∧ ∀ H', Same H H' → Q (.bl (termsB d)) H'

abbrev sAr : Stmt := top 82
abbrev nAr : List Str := ["_law_rows_here", "_law_at", "_law_row", "_law_one"]
theorem scAr : FnScope nAr ["_law_rows_here"] (defScope sAr) := ⟨rfl, rfl, rfl, by decide +kernel, rfl, by decide +kernel, by decide +kernel⟩

theorem ok_Ar (F : Fun K "_law_are_rows" "_law_are_rows" sAr f fd) (T : TxtL mg) (CN : Cg P w K mg base 1 "_law_is_named" (spNamed K)) : FnG P w K mg base CX0 2 f fd ["_law_rows_here"] (spAre K) := by
  refine FunG.ok F scAr (fun vs H Q E h => ?_) (fun cdv B out s H vs Q E hr hG h => ?_)
  · obtain ⟨x, d, ds, rfl, _⟩ := h
    rfl
  · obtain ⟨x, d, ds, rfl, hd, hq, hs, hm, hl, q⟩ := h
    refine ⟨_, (pss_cons (ps_for PassesOwn.never rfl (pi_enumS (by rfl) T.enumerate (pa_cons (pv 0) pa_nil)) (pg_tup rfl (pgs_cons (pg_name (i := 1) scAr.nd rfl (Or.inl rfl)) (pgs_cons (pg_name (i := 2) scAr.nd rfl (Or.inl rfl)) pgs_nil))) (pss_cons (ps_if (PW.pt (pw_or (pt_not (pt_val (pe_callB call_isdT (by rfl) T.isinstance (by decide +kernel) (pa_cons (pv 2) (pa_cons (pe_tup (pa_cons (pe_bltn (by rfl) T.list (by decide +kernel) (show RelV (.ty "list") _ from rfl)) (pa_cons (pe_bltn (by rfl) T.tuple (by decide +kernel) (show RelV (.ty "tuple") _ from rfl)) pa_nil))) pa_nil))))) (pw_or (pt_cmpR op_ne (pe_callB call_len (by rfl) T.len PySem.boot_len (pa_cons (pv 2) pa_nil)) pe_int (nomark _)) (pw_or1 (pt_not (pt_val (pe_g CN hr hG (by decide) (by rfl) (pa_cons (pe_ix (ix_list.or ix_tup) (pv 2) pe_int fun _ _ => rfl) pa_nil)))))))) (pss_one (ps_ret pe_bl)) pss_nil)
        (pss_cons (ps_if (PW.pt (pw_or (pt_not (pt_val (pe_callB call_isdT (by rfl) T.isinstance (by decide +kernel) (pa_cons (pe_ix (ix_list.or ix_tup) (pv 2) pe_int fun _ _ => rfl) (pa_cons (pe_tup (pa_cons (pe_bltn (by rfl) T.list (by decide +kernel) (show RelV (.ty "list") _ from rfl)) (pa_cons (pe_bltn (by rfl) T.tuple (by decide +kernel) (show RelV (.ty "tuple") _ from rfl)) pa_nil))) pa_nil))))) (pw_or1 (pt_cmpR op_gt (pe_callB call_len (by rfl) T.len PySem.boot_len (pa_cons (pe_ix (ix_list.or ix_tup) (pv 2) pe_int fun _ _ => rfl) pa_nil)) pe_int (nomark _))))) (pss_one (ps_ret pe_bl)) pss_nil)
        (pss_one (ps_for PassesOwn.never rfl (pi_seq (pe_ix (ix_list.or ix_tup) (pv 2) pe_int fun _ _ => rfl)) (pg_name (i := 3) scAr.nd rfl (Or.inl rfl)) (pss_one (ps_if (PW.pt (pw_or (pt_not (pt_val (pe_callB call_isd (by rfl) T.isinstance (by decide +kernel) (pa_cons (pv 3) (pa_cons (pe_bltn (by rfl) T.int (by decide +kernel) (show RelV (.ty "int") _ from rfl)) pa_nil))))) (pw_or (pt_val (pe_callB call_isd (by rfl) T.isinstance (by decide +kernel) (pa_cons (pv 3) (pa_cons (pe_bltn (by rfl) T.bool (by decide +kernel) (show RelV (.ty "bool") _ from rfl)) pa_nil)))) (pw_or1 (pt_not (pt_chain op_le op_lt pe_int (pv 3) (pv 1))))))) (pss_one (ps_ret pe_bl)) pss_nil)))))))
      (pss_one (ps_ret pe_bl))), ?_⟩
    obtain ⟨a, xs, rfl, hA, hall⟩ := dd_seq hd hq
    have hlen := hall.len
    have hsh := short_seq hs hq
    have hsm := smD_seq hm hq
    have et : termsB d = rowsB 0 ds := by unfold termsB; rw [hq]
    rw [et] at q
    have prs : Paired ClsV [V.ty "list", V.ty "tuple"] [.type "list", .type "tuple"] := .cons (.ty _) (.cons (.ty _) .nil)
    refine ⟨_, rfl, a, rfl, enum_it hA fun J wk => ?_⟩
    refine for_it wk (fun i σ G => Same H G ∧ (∀ j d, j < i → ds[j]? = some d → rowB j d = true) ∧ ∃ o1 o2 o3, σ = [some (.ref a), o1, o2, o3]) ⟨Same.refl _, (fun j d h => absurd h (Nat.not_lt_zero _)), none, none, none, rfl⟩ (fun _ _ _ _ h => h.1) ?_ ?_
    · rintro i x σ G G' hi ⟨kG, ok, o1, o2, o3, rfl⟩ ⟨p, x0, y, rfl, hp, rfl, h0, hx⟩
      cases h0
      obtain ⟨dn, hdn, hxd⟩ := hall.get hx
      have sp1 : Same G (upd G p (.tup [.int (i : Nat), y])) := Same.put hp
      have hg1 : (upd G p (.tup [V.int (i : Nat), y])) p = some (.tup [.int (i : Nat), y]) := upd_same
      have hy := hxd.mono (Same.tr kG sp1)
      have kG1 := Same.tr kG sp1
      generalize upd G p (.tup [V.int (i : Nat), y]) = G1 at sp1 hg1 hy kG1 ⊢
      have shn := shortAll_get hsh hdn
      have smn := smAll_get hsm hdn
      have no : rowB i dn = false → ∀ H', Same G1 H' → Q (.bl false) H' := fun e H' s => by
        have q' := q H' (Same.tr kG1 s)
        rwa [rowsB_false (k := 0) hdn (by rwa [Nat.zero_add])] at q'
      have yes : rowB i dn = true → (∀ j d, j < i + 1 → ds[j]? = some d → rowB j d = true) := fun e j d hj hd => by
        by_cases hji : j = i
        · subst hji
          rw [hdn] at hd
          cases hd
          exact e
        · exact ok j d (by omega) hd
      refine ⟨p, _, rfl, SqT.of hg1, rfl, _, _, rfl, _, _, rfl, rfl, ?_⟩
      refine ⟨_, rfl, (by show 2 ≤ sizeLine; decide), fun t1 e1 => ⟨_, t1, _, _, _, rfl, upd_same, prs, (vk_dd hy shn).kd.lt.mono (Same.put e1), _, rfl, ?_⟩⟩
      rw [ans_lt, kind_seq]
      have s1 : Same G1 (upd G1 t1 (.tup [V.ty "list", .ty "tuple"])) := Same.put e1
      generalize upd G1 t1 (.tup [V.ty "list", .ty "tuple"]) = G2 at s1 ⊢
      cases hq1 : seqD dn with
      | none => exact iteT (iteT (no (by unfold rowB; rw [hq1]) _ s1))
      | some es =>
        obtain ⟨b, ys, rfl, hB, hballs⟩ := dd_seq (hy.mono s1) hq1
        have hblen := hballs.len
        have hbsh := short_seq shn hq1
        have hbsm := smD_seq smn hq1
        refine iteF ⟨_, rfl, _, _, rfl, lenA hB, rfl, _, rfl, ?_⟩
        by_cases h2 : es.length = 2
        · obtain ⟨d0, d1, rfl⟩ : ∃ d0 d1, es = [d0, d1] := by
            match es, h2 with
            | [a, b], _ => exact ⟨a, b, rfl⟩
          obtain ⟨v0, hv0, hd0⟩ := hballs.at (i := 0) rfl
          obtain ⟨v1, hv1, hd1⟩ := hballs.at (i := 1) rfl
          have sh0 : shortD d0 = true := shortAll_get (i := 0) hbsh rfl
          have sh1 : shortD d1 = true := shortAll_get (i := 1) hbsh rfl
          have sm0 : smD d0 = true := smAll_get (i := 0) hbsm rfl
          refine if_false_of (ne_dec2 (by rw [hblen]; rfl)) ?_
          refine ⟨_, rfl, ixA hB (atI_nat (j := 0) hv0) ?_⟩
          have er : rowB i dn = (nameD d0 && numsB i d1) := by unfold rowB; rw [hq1]
          dsimp only [tNil]
          refine named_dd hd0 sh0 sm0 fun G3 s3 => ⟨_, rfl, ?_⟩
          have s13 := Same.tr s1 s3
          cases hn : nameD d0 with
          | false => exact iteT (no (by rw [er, hn]; rfl) _ s13)
          | true =>
            rw [hn, Bool.true_and] at er
            refine iteF ?_
            refine ⟨_, rfl, ixA (hB.up s3) (atI_nat (j := 1) hv1) ?_⟩
            dsimp only [tTup, tCons, tNil, tC]
            refine ⟨(by show 2 ≤ sizeLine; decide), fun t2 e2 => ⟨_, t2, _, _, _, rfl, upd_same, prs, (vk_dd (hd1.mono s3) sh1).kd.lt.mono (Same.put e2), _, rfl, ?_⟩⟩
            rw [ans_lt, kind_seq]
            have s4 : Same G3 (upd G3 t2 (.tup [V.ty "list", .ty "tuple"])) := Same.put e2
            generalize upd G3 t2 (.tup [V.ty "list", .ty "tuple"]) = G4 at s4 ⊢
            have s14 := Same.tr s13 s4
            have s24 := Same.tr s3 s4
            cases hq2 : seqD d1 with
            | none => exact iteT (iteT (no (by rw [er]; unfold numsB; rw [hq2]) _ s14))
            | some ns =>
              obtain ⟨c, zs, rfl, hC, hcall⟩ := dd_seq (hd1.mono s24) hq2
              have hclen := hcall.len
              have hcsh := short_seq sh1 hq2
              have eN : numsB i d1 = (decide (ns.length ≤ 3) && ns.all (idxD i)) := by unfold numsB; rw [hq2]
              refine iteF ⟨_, rfl, ixA (hB.up s24) (atI_nat (j := 1) hv1) ?_⟩
              dsimp only [tNil]
              refine ⟨_, _, rfl, lenA hC, _, _, rfl, rfl, _, rfl, ?_⟩
              by_cases h3 : ns.length ≤ 3
              · refine if_false_of (by rw [decide_eq_false_iff_not]; omega) ?_
                rw [decide_eq_true h3, Bool.true_and] at eN
                refine ⟨_, rfl, ixA (hB.up s24) (atI_nat (j := 1) hv1) ⟨c, rfl, seq_it hC fun J2 wk2 => ?_⟩⟩
                refine for_it wk2 (fun j σ M => Same G4 M ∧ (∀ m d, m < j → ns[m]? = some d → idxD i d = true) ∧ ∃ o3, σ = [some (.ref a), some (.int (i : Nat)), some (.ref b), o3]) ⟨Same.refl _, (fun j d h => absurd h (Nat.not_lt_zero _)), o3, rfl⟩ (fun _ _ _ _ h => h.1) ?_ ?_
                · rintro j x σ M M' hj ⟨kM, okj, o3, rfl⟩ ⟨rfl, hxj⟩
                  obtain ⟨dm, hdm, hxm⟩ := hcall.get hxj
                  have vk := vk_dd (hxm.mono kM) (shortAll_get hcsh hdm)
                  have no2 : idxD i dm = false → Q (.bl false) M' := fun e => no (by rw [er, eN]; exact all_false hdm e) _ (Same.tr s14 kM)
                  refine ⟨_, rfl, _, _, _, _, rfl, .ty _, vk.kd.is "int" (by decide), _, rfl, ?_⟩
                  have nk : kindD dm ≠ "int" → idxD i dm = false := kind_int hxm i
                  by_cases hki : kindD dm = "int"
                  · obtain ⟨z, rfl⟩ := vk.i hki
                    cases hxm
                    refine iteF ⟨_, rfl, _, _, _, _, rfl, .ty _, vk.kd.is "bool" (by decide), _, rfl, ?_⟩
                    refine iteF ⟨_, rfl, _, _, rfl, rfl, _, rfl, ?_⟩
                    refine ite2 (fun h4 => ?_) (fun h4 => ?_)
                    · refine ⟨_, rfl, _, _, rfl, rfl, _, rfl, ?_⟩
                      have h4' := of_decide_eq_true h4
                      by_cases h5 : z < (i : Int)
                      · refine if_false_of (not_dec h5) ?_
                        refine ⟨kM, fun m d hm hd => ?_, _, rfl⟩
                        by_cases hmj : m = j
                        · subst hmj
                          rw [hdm] at hd
                          cases hd
                          exact decide_eq_true ⟨h4', by omega⟩
                        · exact okj m d (by omega) hd
                      · refine if_true_of (by rw [decide_eq_false h5]; rfl) ?_
                        exact no2 (decide_eq_false fun e => h5 (by omega))
                    · refine ⟨_, rfl, iteT ?_⟩
                      exact no2 (decide_eq_false fun e => h4 (decide_eq_true e.1))
                  · cases hab : ansB (kindD dm) "int" with
                    | false => exact iteT (iteT (no2 (nk hki)))
                    | true =>
                      refine iteF ⟨_, rfl, _, _, _, _, rfl, .ty _, vk.kd.is "bool" (by decide), _, rfl, ?_⟩
                      have hb : ansB (kindD dm) "bool" = true := by
                        have e := ans_int hab
                        rw [beq_eq_false_iff_ne.mpr hki] at e
                        simpa using e
                      rw [hb]
                      exact iteT (iteT (no2 (nk hki)))
                · rintro σ M ⟨kM, okj, o3, rfl⟩
                  refine ⟨Same.tr kG1 (Same.tr s14 kM), yes ?_, _, _, _, rfl⟩
                  rw [er, eN]
                  refine List.all_eq_true.mpr fun d hd => ?_
                  obtain ⟨m, hm⟩ := List.mem_iff_getElem?.mp hd
                  exact okj m d (by have := (List.getElem?_eq_some_iff.mp hm).1; omega) hm
              · refine if_true_of (decide_eq_true (by omega)) ?_
                exact no (by rw [er, eN, decide_eq_false h3]; rfl) _ s14
        · refine if_true_of (ne_dec1 (by omega)) (iteT ?_)
          refine no ?_ _ s1
          unfold rowB
          rw [hq1]
          match es, h2 with
          | [], _ => rfl
          | [_], _ => rfl
          | [_, _], h2 => exact absurd rfl h2
          | _ :: _ :: _ :: _, _ => rfl
    · rintro σ G ⟨kG, ok, o1, o2, o3, rfl⟩
      have q' := q G kG
      rw [rowsB_true (k := 0) fun j d e => by rw [Nat.zero_add]; exact ok j d (by have := (List.getElem?_eq_some_iff.mp e).1; omega) e] at q'
      exact q'

end
end T02
set_option Elab.async false
set_option linter.all false
set_option maxRecDepth 100000
set_option maxHeartbeats 4000000
namespace T02
open PySem PySem.Spec PyProof.Rows L2 Tp
section
variable {P : Program} {w : World} {K : PySem.W.Frag} {mg : Str → Option Value} {base : Heap} {f : Addr} {fd : FuncData}

def spTr (K : PySem.W.Frag) : Sp := fun vs H Q _ => ∃ (p : Addr) (n : Nat), vs = [.ref p] ∧ BoxAt H p n ∧ n ≤ 2000 ∧ ∀ H', BoxAt H' p (n + 300) → Keep p H H' → Q (.bl true) H'
theorem Dd.kp {p : Addr} {H H' : Hp} {v : V} {d : PyData} (h : Dd K (rs p p H) v d) (k : Keep p H H') : Dd K (rs p p H') v d := Dd.mono (rs_keep1 k) h
/-- is_list of a list or a tuple -/
theorem list_dd {H : Hp} {x : V} {d : PyData} {Q : VK} {E : XK} (h : Dd K H x d) (hs : shortD d = true) (he : (seqD d).isSome = true) (q : ∀ H', Same H H' → Q (.bl true) H') : spList K [x] H Q E :=
  ⟨x, kindD d, rfl, vk_dd h hs, fun H' s => by rw [kind_seq, he]; exact q H' s⟩
theorem terms_dd {H : Hp} {x : V} {d : PyData} {ds : List PyData} {Q : VK} {E : XK} (h : Dd K H x d) (hs : shortD d = true) (he : seqD d = some ds) (hl : ds.length ≤ 5000) (q : ∀ H', Same H H' → Q (.bl (termsB d)) H') : spTerms K [x] H Q E :=
  ⟨x, rfl, .inl ⟨d, h, hs, fun es e => by rw [he] at e; cases e; exact hl, q⟩⟩
theorem trio_nice (a b c : Bool) : Nice 3 1 (.list [.bool a, .bool b, .bool c]) := (NiceAll.cons (nice_bool a) (NiceAll.cons (nice_bool b) (NiceAll.cons (nice_bool c) niceAll_nil))).list
theorem gd_short {n k : Nat} {d : PyData} (h : Gd n k d) (hn : n ≤ 5000) : shortD d = true := short_of_weight d (Nat.le_trans h.nc.wt hn)

abbrev sTr : Stmt := top 83
abbrev nTr : List Str := ["_law_box_here", "_law_rows_here", "_law_bent_here", "_law_some", "_law_held", "_law_due", "_law_found", "_law_things", "_law_one"]
theorem scTr : FnScope nTr ["_law_box_here"] (defScope sTr) := ⟨rfl, rfl, rfl, by decide +kernel, rfl, by decide +kernel, by decide +kernel⟩

theorem ok_Tr (F : Fun K "_law_terms_right" "_law_terms_right" sTr f fd) (T : TxtL mg) {tE CB CNt : Addr} (S : Sm K) (MB : Cm P w K mg base 2 "Book" CB [.ref tE] (spB0 K CB)) (IB : InsK K CB) (eT : ∃ (o : Obj) (n : Nat), K.lookup tE = some o ∧ o.cls = .type "tuple" ∧ o.data = .seq #[] n) {tE2 : Addr} (MN : Cm P w K mg base 6 "Net" CNt [.ref tE2] (spNt K CNt)) (IN2 : InsK K CNt) (eN : ∃ (o : Obj) (n : Nat), K.lookup tE2 = some o ∧ o.cls = .type "tuple" ∧ o.data = .seq #[] n) (CR : Cg P w K mg base 2 "_law_rows" (spRows K)) (CBt : Cg P w K mg base 2 "_law_bent" (spBent K)) (CA : Cg P w K mg base 2 "_law_are_rows" (spAre K)) (IT : Cg P w K mg base 4 "is_terms" (spTerms K)) (ITk : Cn P w K mg base 4 "is_terms" 0 ["value"] (fun vs zs => vs ++ zs) (spTerms K)) (IL : Cg P w K mg base 1 "is_list" (spList K)) (ILk : Cn P w K mg base 1 "is_list" 0 ["value"] (fun vs zs => vs ++ zs) (spList K)) : FnG P w K mg base CX0 8 f fd ["_law_box_here"] (spTr K) := by
  refine FunG.ok F scTr (fun vs H Q E h => ?_) (fun cdv B out s H vs Q E hr hG h => ?_)
  · obtain ⟨p, n, rfl, _⟩ := h
    rfl
  · obtain ⟨p, n, rfl, hb, hn, q⟩ := h
    refine ⟨_, (pss_cons (ps_set (i := 1) scTr.nd rfl (.inl rfl) (pe_g CR hr hG (by decide) (by rfl) (pa_cons (pv 0) pa_nil)))
      (pss_cons (ps_set (i := 2) scTr.nd rfl (.inl rfl) (pe_g CBt hr hG (by decide) (by rfl) (pa_cons (pv 0) (pa_cons (pv 1) pa_nil))))
      (pss_cons (ps_for PassesOwn.never rfl (pi_list (pe_lst (pa_cons (pv 1) (pa_cons (pe_callTy call_tuple_of (by rfl) T.tuple (by decide +kernel) (pa_cons (pv 1) pa_nil)) (pa_cons (pv 2) (pa_cons (pe_callTy call_tuple_of (by rfl) T.tuple (by decide +kernel) (pa_cons (pv 2) pa_nil)) pa_nil)))))) (pg_name (i := 3) scTr.nd rfl (Or.inl rfl)) (pss_cons (ps_par (i := 4) (j := 5) rfl scTr.nd rfl rfl (by decide) rfl rfl (pa_cons (pe_callB (call_reprD S hr hG) (by rfl) T.repr (by decide +kernel) (pa_cons (pv 3) pa_nil)) (pa_cons (pe_g CA hr hG (by decide) (by rfl) (pa_cons (pv 3) pa_nil)) pa_nil)) (by rfl))
        (pss_cons (ps_set (i := 6) scTr.nd rfl (.inl rfl) (pe_lst (pa_cons (pe_g IT hr hG (by decide) (by rfl) (pa_cons (pv 3) pa_nil)) (pa_cons (pe_cn0 ITk hr hG (by decide) (by rfl) (pk_cons (pv 3) pk_nil)) (pa_cons (pe_g IL hr hG (by decide) (by rfl) (pa_cons (pv 3) pa_nil)) pa_nil)))))
        (pss_one (ps_if (PW.pt (pw_or (pt_cmpR op_ne (pe_callB (call_reprD S hr hG) (by rfl) T.repr (by decide +kernel) (pa_cons (pv 6) pa_nil)) (pe_callB (call_reprD S hr hG) (by rfl) T.repr (by decide +kernel) (pa_cons (pe_lst (pa_cons (pv 5) (pa_cons (pv 5) (pa_cons pe_bl pa_nil)))) pa_nil)) (nomark _)) (pw_or1 (pt_cmpR op_ne (pe_callB (call_reprD S hr hG) (by rfl) T.repr (by decide +kernel) (pa_cons (pv 3) pa_nil)) (pv 4) (nomark _))))) (pss_one (ps_ret pe_bl)) pss_nil)))))
      (pss_cons (ps_if (PW.pt (pw_or (pt_not (pt_val (pe_g CA hr hG (by decide) (by rfl) (pa_cons (pv 1) pa_nil)))) (pw_or (pt_cmpR op_notBl (pe_g IT hr hG (by decide) (by rfl) (pa_cons (pe_lst pa_nil) pa_nil)) pe_bl (nomark _)) (pw_or1 (pt_cmpR op_notBl (pe_g IT hr hG (by decide) (by rfl) (pa_cons (pe_tup pa_nil) pa_nil)) pe_bl (nomark _)))))) (pss_one (ps_ret pe_bl)) pss_nil)
      (pss_cons (ps_set (i := 7) scTr.nd rfl (.inl rfl) (pe_lst (pa_cons pe_non (pa_cons pe_int (pa_cons pe_bl (pa_cons pe_str (pa_cons (pe_disp (pps_cons pe_str (pe_tup pa_nil) pps_nil) (by rfl) (by rfl) (fun z => by cases z) (by decide)) (pa_cons pe_dnewK (pa_cons (pe_cm0 MB hr hG (by decide) (by rfl)) (pa_cons (pe_cm MN hr hG (by decide) (by rfl) (pa_cons (pe_lst pa_nil) (pa_cons (pe_lst pa_nil) (pa_cons (pe_lst pa_nil) pa_nil)))) pa_nil))))))))))
      (pss_cons (ps_setLc (i := 6) (own := [("_law_one", 8)]) (g := gName 8) (tt := tYes) rfl scTr.nd rfl rfl (sw_true rfl rfl rfl (by decide +kernel)) (pi_list (pv 7)) (blkOk_by (N := nTr) (sc := defScope sTr) (by decide +kernel)) (fun _ _ _ _ _ => pg_name (i := 8) scTr.nd rfl (Or.inl rfl)) (fun _ _ _ _ _ => pts_nil) (fun _ _ _ _ _ => (pe_lst (pa_cons (pe_g IT hr hG (by decide) (by rfl) (pa_cons (pv 8) pa_nil)) (pa_cons (pe_g IL hr hG (by decide) (by rfl) (pa_cons (pv 8) pa_nil)) pa_nil)))))
      (pss_one (ps_ret (pe_and (pe_cmpR op_eq (pe_callB (call_reprD S hr hG) (by rfl) T.repr (by decide +kernel) (pa_cons (pv 6) pa_nil)) (pe_callB (call_reprD S hr hG) (by rfl) T.repr (by decide +kernel) (pa_cons (pe_op op_rep (pe_lst (pa_cons (pe_op op_rep (pe_lst (pa_cons pe_bl pa_nil)) pe_int) pa_nil)) pe_int) pa_nil)) (nomark _)) (pe_one (pe_cmpR op_isBl (pe_cn0 ILk hr hG (by decide) (by rfl) (pk_cons (pv 7) pk_nil)) pe_bl (nomark _)))))))))))), ?_⟩
    refine ⟨_, rfl, p, n, rfl, hb, hn, fun lr rows ds H1 e0 h1 np1 d1 g1 l1 b1 k1 => ?_⟩
    have d1' : DdAll K (rs p p H1) rows ds := d1.mono rs_more
    refine ⟨_, rfl, _, rfl, p, lr, n + 200, rows, ds, rfl, b1, by omega, h1, d1', g1, l1, fun lb rows2 ds2 H2 e2 h2 d2 g2 l2 b2 k2 => ?_⟩
    have npb : lb ≠ p := (b1.ne e2).symm
    have d12 : DdAll K H2 rows ds := (d1'.mono (rs_keep1 k2)).mono rs_same
    have d22 : DdAll K H2 rows2 ds2 := d2.mono rs_same
    have h12 : H2 lr = some (.lst rows) := k2 _ _ np1 h1
    have g1' : ∀ d ∈ ds, Gd 300 4 d := fun d hd => (rows_gd g1 (by omega) d hd).mono (by omega) (by omega)
    have kp2 : Keep p H H2 := k1.trans k2
    -- the four
    refine ⟨_, rfl, _, rfl, lr, rows, rfl, .inl ⟨SqL.of h12, fun t1 et1 => ?_⟩⟩
    have s1 : Same H2 (upd H2 t1 (.tup rows)) := Same.put et1
    have x1 : (upd H2 t1 (.tup rows)) t1 = some (.tup rows) := upd_same
    generalize upd H2 t1 (.tup rows) = H3 at s1 x1 ⊢
    refine ⟨_, rfl, _, rfl, lb, rows2, rfl, .inl ⟨SqL.of (s1 _ _ h2), fun t2 et2 => ?_⟩⟩
    have s2 : Same H3 (upd H3 t2 (.tup rows2)) := Same.put et2
    have x2 : (upd H3 t2 (.tup rows2)) t2 = some (.tup rows2) := upd_same
    generalize upd H3 t2 (.tup rows2) = H4 at s2 x2 ⊢
    have s24 := Same.tr s1 s2
    refine ⟨(by show 4 ≤ sizeLine; decide), fun lw ew => ?_⟩
    have s5 : Same H4 (upd H4 lw (.lst [.ref lr, .ref t1, .ref lb, .ref t2])) := Same.put ew
    have hw : (upd H4 lw (.lst [.ref lr, .ref t1, .ref lb, .ref t2])) lw = some (.lst [.ref lr, .ref t1, .ref lb, .ref t2]) := upd_same
    generalize upd H4 lw (.lst [.ref lr, .ref t1, .ref lb, .ref t2]) = G0 at s5 hw ⊢
    have s25 := Same.tr s24 s5
    have four : ∀ v ∈ ([.ref lr, .ref t1, .ref lb, .ref t2] : List V), ∃ d es, Dd K G0 v d ∧ seqD d = some es ∧ Gd 4000 5 d ∧ es.length ≤ 12 ∧ ∃ a, v = .ref a := by
      intro v hv
      have ga : ∀ es : List PyData, es.length ≤ 12 → (∀ d ∈ es, Gd 300 4 d) → Gd 4000 5 (.list es) ∧ Gd 4000 5 (.tuple es) := fun es hl he => by
        have e1 : es.length * (300 + 1) ≤ 4000 := Nat.le_trans (Nat.mul_le_mul_right _ hl) (by decide)
        exact ⟨(gd_list he).mono e1 (by omega), (gd_tup he).mono e1 (by omega)⟩
      simp only [List.mem_cons, List.not_mem_nil, or_false] at hv
      rcases hv with e | e | e | e <;> subst e
      · exact ⟨.list ds, ds, .lst (SqL.of (s25 _ _ h12)) (d12.mono s25), rfl, (ga ds l1 g1').1, l1, _, rfl⟩
      · exact ⟨.tuple ds, ds, .tup (SqT.of (s5 _ _ (s2 _ _ x1))) (d12.mono s25), rfl, (ga ds l1 g1').2, l1, _, rfl⟩
      · exact ⟨.list ds2, ds2, .lst (SqL.of (s25 _ _ h2)) (d22.mono s25), rfl, (ga ds2 l2 g2).1, l2, _, rfl⟩
      · exact ⟨.tuple ds2, ds2, .tup (SqT.of (s5 _ _ x2)) (d22.mono s25), rfl, (ga ds2 l2 g2).2, l2, _, rfl⟩
    refine ⟨lw, rfl, ⟨_, SqL.of hw⟩, for_it (walk_list (xs := [.ref lr, .ref t1, .ref lb, .ref t2])) (fun _ σ G => Same G0 G ∧ ∃ o3 o4 o5 o6, σ = [some (.ref p), some (.ref lr), some (.ref lb), o3, o4, o5, o6, none, none]) ⟨Same.refl _, none, none, none, none, rfl⟩ (fun i σ G _ h => SqL.of (h.1 _ _ hw)) ?_ ?_⟩
    · rintro i x σ G G' hi ⟨kG, o3, o4, o5, o6, rfl⟩ ⟨rfl, hx⟩
      obtain ⟨d, es, hd, hq, hg, hl, xa, rfl⟩ := four x (List.mem_of_getElem? hx)
      have hs := gd_short hg (by decide)
      have hdG := hd.mono kG
      refine ⟨_, rfl, ?_⟩
      try dsimp only [tNil]
      refine rReprD_of hdG hg.nc (by decide) (by decide) ?_
      refine ⟨_, rfl, _, d, es, rfl, hdG, hq, hs, hg.sm, by omega, fun G1 q1 => ?_⟩
      refine ⟨_, _, rfl, ?_⟩
      have hd1 := hdG.mono q1
      refine ⟨_, rfl, ?_⟩
      try dsimp only [tNil]
      refine terms_dd hd1 hs hq (by omega) fun G2 q2 => ?_
      refine ⟨_, rfl, rfl, rfl, ?_⟩
      try dsimp only [tNil]
      refine terms_dd (hd1.mono q2) hs hq (by omega) fun G3 q3 => ?_
      refine ⟨_, rfl, ?_⟩
      try dsimp only [tNil]
      refine list_dd ((hd1.mono q2).mono q3) hs (by rw [hq]; rfl) fun G4 q4 => ?_
      have q14 := Same.tr q1 (Same.tr q2 (Same.tr q3 q4))
      generalize termsB d = b
      refine ⟨(by show 3 ≤ sizeLine; decide), fun l5 e5 => ?_⟩
      refine ⟨_, rfl, ?_⟩
      try dsimp only [tNil]
      have q5 : Same G4 (upd G4 l5 (.lst [.bl b, .bl b, .bl true])) := Same.put e5
      have y5 : (upd G4 l5 (.lst [V.bl b, .bl b, .bl true])) l5 = some (.lst [.bl b, .bl b, .bl true]) := upd_same
      generalize upd G4 l5 (.lst [V.bl b, .bl b, .bl true]) = G5 at q5 y5 ⊢
      refine rReprD_of (.lst (SqL.of y5) (.cons (.bl b) (.cons (.bl b) (.cons (.bl true) .nil)))) (trio_nice b b true) (by decide) (by decide) ?_
      refine ⟨_, rfl, _, rfl, (by show 3 ≤ sizeLine; decide), fun l6 e6 => ?_⟩
      try dsimp only [tNil]
      have q6 : Same G5 (upd G5 l6 (.lst [.bl b, .bl b, .bl true])) := Same.put e6
      have y6 : (upd G5 l6 (.lst [V.bl b, .bl b, .bl true])) l6 = some (.lst [.bl b, .bl b, .bl true]) := upd_same
      generalize upd G5 l6 (.lst [V.bl b, .bl b, .bl true]) = G6 at q6 y6 ⊢
      refine rReprD_of (.lst (SqL.of y6) (.cons (.bl b) (.cons (.bl b) (.cons (.bl true) .nil)))) (trio_nice b b true) (by decide) (by decide) ?_
      refine ⟨rfl, _, rfl, ?_⟩
      refine if_false_of (by rw [beq_shown rfl]; rfl) ?_
      have q16 := Same.tr q14 (Same.tr q5 q6)
      refine ⟨_, rfl, ?_⟩
      try dsimp only [tNil]
      refine rReprD_of (hdG.mono q16) hg.nc (by decide) (by decide) ?_
      refine ⟨_, rfl, rfl, _, rfl, ?_⟩
      refine if_false_of (by rw [beq_shown rfl]; rfl) ?_
      exact ⟨Same.tr kG q16, _, _, _, _, rfl⟩
    · rintro σ G ⟨kG, o3, o4, o5, o6, rfl⟩
      have s2G := Same.tr s25 kG
      have bG := b2.keep s2G
      have kpG : Keep p H G := kp2.trans (Keep.of s2G)
      have g5 : Gd 4000 5 (.list ds) := (gd_list g1').mono (Nat.le_trans (Nat.mul_le_mul_right _ l1) (by decide)) (by omega)
      have dG : Dd K G (.ref lr) (.list ds) := .lst (SqL.of (s2G _ _ h12)) (d12.mono s2G)
      have et : termsB (.list ds) = true := rows_all (k := 0) fun i d e => by rw [Nat.zero_add]; exact g1 i d e
      refine ⟨_, rfl, _, .list ds, ds, rfl, dG, rfl, gd_short g5 (by decide), g5.sm, by omega, fun G1 q1 => ⟨_, rfl, ?_⟩⟩
      rw [et]
      refine iteF ?_
      refine ⟨(by show 0 ≤ sizeLine; decide), fun m1 u1 => ?_⟩
      have r1 : Same G1 (upd G1 m1 (.lst [])) := Same.put u1
      have v1 : (upd G1 m1 (.lst [])) m1 = some (.lst []) := upd_same
      generalize upd G1 m1 (.lst []) = G2 at r1 v1 ⊢
      dsimp only [tNil]
      refine terms_dd (.lst (SqL.of v1) .nil) rfl rfl (by decide) fun G3 r2 => ?_
      refine ⟨_, _, rfl, rfl, _, rfl, ?_⟩
      refine if_false_of (not_dec (by decide)) ?_
      refine ⟨(by show 0 ≤ sizeLine; decide), fun m2 u2 => ?_⟩
      have r3 : Same G3 (upd G3 m2 (.tup [])) := Same.put u2
      have v2 : (upd G3 m2 (.tup [])) m2 = some (.tup []) := upd_same
      generalize upd G3 m2 (.tup []) = G4 at r3 v2 ⊢
      dsimp only [tNil]
      refine terms_dd (.tup (SqT.of v2) .nil) rfl rfl (by decide) fun G5 r4 => ?_
      refine ⟨_, _, rfl, rfl, _, rfl, ?_⟩
      refine if_false_of (not_dec (by decide)) ?_
      have r05 := Same.tr q1 (Same.tr r1 (Same.tr r2 (Same.tr r3 r4)))
      have b5 := bG.keep r05
      have kp5 : Keep p H G5 := kpG.trans (Keep.of r05)
      clear r05 q1 r1 r2 r3 r4 v1 v2 dG
      -- the things
      intro dd1 ed1
      refine ⟨(by show 0 ≤ sizeLine; decide), fun tt1 et1 => ?_⟩
      have w0 : (upd (upd G5 dd1 (.dK [])) tt1 (.tup [])) dd1 = some (.dK []) := Same.put et1 _ _ upd_same
      refine ⟨w0, [(Sum.inr "a", .ref tt1)], rfl, (by show 1 ≤ 15; decide), ?_⟩
      have w1 : Same G5 (upd (upd (upd G5 dd1 (.dK [])) tt1 (.tup [])) dd1 (.dK (mergeK [] [(Sum.inr ("a" : Str), V.ref tt1)]))) := fun b o e => by
        have n1 := ne_of_none e ed1
        exact (upd_ne n1).trans (Same.put et1 _ _ ((upd_ne n1).trans e))
      have w2 : (upd (upd (upd G5 dd1 (.dK [])) tt1 (.tup [])) dd1 (.dK (mergeK [] [(Sum.inr ("a" : Str), V.ref tt1)]))) dd1 = some (.dK (mergeK [] [(Sum.inr ("a" : Str), V.ref tt1)])) := upd_same
      generalize upd (upd (upd G5 dd1 (.dK [])) tt1 (.tup [])) dd1 (.dK (mergeK [] [(Sum.inr ("a" : Str), V.ref tt1)])) = G6 at w1 w2 ⊢
      intro dd2 ed2
      have w3 : Same G6 (upd G6 dd2 (.dK [])) := Same.put ed2
      have w4 : (upd G6 dd2 (.dK [])) dd2 = some (.dK []) := upd_same
      generalize upd G6 dd2 (.dK []) = G7 at w3 w4 ⊢
      intro bk dx nb ndx nex
      refine ⟨bk, dx, _, rfl, upd_same, emp_tup eT, fun G8 fs hbk kb => ⟨rfl, ?_⟩⟩
      have w5 : Same G7 G8 := Same.made nb ndx (fun b o e hb => kb b o hb e)
      refine ⟨(by show 0 ≤ sizeLine; decide), fun a1 x1 => ⟨(by show 0 ≤ sizeLine; decide), fun a2 x2 => ⟨(by show 0 ≤ sizeLine; decide), fun a3 x3 => ?_⟩⟩⟩
      have w6 := Same.tr (Same.put (o := .lst []) x1) (Same.tr (Same.put (o := .lst []) x2) (Same.put (o := .lst []) x3))
      have y3 : (upd (upd (upd G8 a1 (.lst [])) a2 (.lst [])) a3 (.lst [])) a3 = some (.lst []) := upd_same
      have y2' : (upd (upd (upd G8 a1 (.lst [])) a2 (.lst [])) a3 (.lst [])) a2 = some (.lst []) := Same.put x3 _ _ upd_same
      have y1 : (upd (upd (upd G8 a1 (.lst [])) a2 (.lst [])) a3 (.lst [])) a1 = some (.lst []) := Same.put x3 _ _ (Same.put x2 _ _ upd_same)
      generalize upd (upd (upd G8 a1 (.lst [])) a2 (.lst [])) a3 (.lst []) = G9 at w6 y1 y2' y3 ⊢
      intro nt dx2 nb2 ndx2 nex2
      have sm2 : Same G9 (upd (upd G9 dx2 (.own nt)) nt (.ins CNt dx2 [])) := Same.made nb2 ndx2 (fun b o e hb => e)
      refine ⟨nt, dx2, _, _, _, _, rfl, upd_same, emp_of (sm2 _ _ y1), emp_of (sm2 _ _ y2'), emp_of (sm2 _ _ y3), emp_tup eN, fun GA fs7 hnt kb7 => ⟨rfl, ?_⟩⟩
      have w7 : Same G9 GA := Same.made nb2 ndx2 (fun b o e hb => kb7 b o hb e)
      refine ⟨(by show 8 ≤ sizeLine; decide), fun lt et => ?_⟩
      have w8 : Same GA (upd GA lt (.lst [.non, .int 3, .bl true, .str "a", .ref dd1, .ref dd2, .ref bk, .ref nt])) := Same.put et
      have hlt : (upd GA lt (.lst [.non, .int 3, .bl true, .str "a", .ref dd1, .ref dd2, .ref bk, .ref nt])) lt = some (.lst [.non, .int 3, .bl true, .str "a", .ref dd1, .ref dd2, .ref bk, .ref nt]) := upd_same
      generalize upd GA lt (.lst [.non, .int 3, .bl true, .str "a", .ref dd1, .ref dd2, .ref bk, .ref nt]) = GB at w8 hlt ⊢
      have w78 := Same.tr w7 w8
      have w58 := Same.tr w5 (Same.tr w6 w78)
      have w38 := Same.tr w3 w58
      have odd : ∀ x ∈ ([.non, .int 3, .bl true, .str "a", .ref dd1, .ref dd2, .ref bk, .ref nt] : List V), ∃ k, Vk K GB x k ∧ (k == "list" || k == "tuple") = false := by
        intro x hx
        simp only [List.mem_cons, List.not_mem_nil, or_false] at hx
        rcases hx with e | e | e | e | e | e | e | e <;> subst e
        · exact ⟨_, vk_non, by decide⟩
        · exact ⟨_, vk_int 3, by decide⟩
        · exact ⟨_, vk_bl true, by decide⟩
        · exact ⟨_, vk_str "a" (by decide +kernel), by decide⟩
        · exact ⟨_, vk_dict (w38 _ _ w2), by decide⟩
        · exact ⟨_, vk_dict (w58 _ _ w4), by decide⟩
        · exact ⟨_, vk_ins IB (Same.tr w6 w78 _ _ hbk), by decide⟩
        · exact ⟨_, vk_ins IN2 (w8 _ _ hnt), by decide⟩
      have w18 := Same.tr w1 w38
      have bB := b5.keep w18
      have kpB : Keep p H GB := kp5.trans (Keep.of w18)
      clear w1 w2 w3 w4 w5 w6 w7 w8 w18 w38 w58 w78 hbk hnt kb kb7 y1 y2' y3
      refine ⟨_, rfl, lt, rfl, ⟨_, SqL.of hlt⟩, fun D hD => ?_⟩
      refine lc_it (walk_list (xs := [.non, .int 3, .bl true, .str "a", .ref dd1, .ref dd2, .ref bk, .ref nt])) (fun i M => Same GB M ∧ ∃ as : List Addr, M D = some (.lst (as.map V.ref)) ∧ as.length = i ∧ ∀ a ∈ as, a ≠ D ∧ M a = some (.lst [.bl false, .bl false]))
        ⟨Same.put hD, [], upd_same, rfl, fun a ha => absurd ha List.not_mem_nil⟩ (fun i M _ hM => SqL.of (hM.1 _ _ hlt)) ?_ ?_
      · rintro i x M M' hi ⟨ms, as, mD, ml, ma⟩ ⟨rfl, hx⟩
        obtain ⟨k, vk, hk⟩ := odd x (List.mem_of_getElem? hx)
        refine ⟨rfl, _, rfl, ?_⟩
        dsimp only [tNil]
        refine ⟨x, rfl, .inr ⟨k, vk.mono ms, hk, fun N1 n1 => ?_⟩⟩
        refine ⟨_, rfl, ?_⟩
        try dsimp only [tNil]
        refine ⟨x, k, rfl, (vk.mono ms).mono n1, fun N2 n2 => ?_⟩
        rw [hk]
        refine ⟨(by show 2 ≤ sizeLine; decide), fun a ea => ?_⟩
        have n12 := Same.tr n1 n2
        have D2 := n12 _ _ mD
        have naD : a ≠ D := (ne_of_none D2 ea).symm
        refine ⟨_, (upd_ne naD.symm).trans D2, ?_, fun b o e => ?_, as ++ [a], ?_, ?_, ?_⟩
        · have hi' : i < 8 := hi
          rw [List.length_map, ml, PySem.sizeLine_eq]
          omega
        · have nbD := ne_of_none e hD
          exact (upd_ne nbD).trans (Same.put ea _ _ (n12 _ _ (ms _ _ e)))
        · rw [upd_same, List.map_append]
          rfl
        · rw [List.length_append, ml]
          rfl
        · intro c hc
          rcases List.mem_append.mp hc with z | z
          · obtain ⟨z1, z2⟩ := ma c z
            exact ⟨z1, (upd_ne z1).trans (Same.put ea _ _ (n12 _ _ z2))⟩
          · rw [List.mem_singleton.mp z]
            exact ⟨naD, (upd_ne naD).trans upd_same⟩
      · rintro M ⟨ms, as, mD, ml, ma⟩
        have ml8 : as.length = 8 := ml
        have nFF : Nice 2 1 (.list [.bool false, .bool false]) := (NiceAll.cons (nice_bool false) (NiceAll.cons (nice_bool false) niceAll_nil)).list
        have nA : Nice 30 2 (.list (List.replicate 8 (.list [.bool false, .bool false]))) := ((niceAll_of (n := 2) (k := 1) fun d hd => by rw [(List.mem_replicate.mp hd).2]; exact nFF).list).mono (by rw [List.length_replicate]; decide) (by decide)
        have dA : ∀ (N : Hp) (bs : List Addr), (∀ a ∈ bs, N a = some (.lst [.bl false, .bl false])) → DdAll K N (bs.map V.ref) (List.replicate bs.length (.list [.bool false, .bool false])) := fun N bs => by
          induction bs with
          | nil => intro _; exact .nil
          | cons b bs ih =>
            intro hb
            exact .cons (.lst (SqL.of (hb b List.mem_cons_self)) (.cons (.bl false) (.cons (.bl false) .nil))) (ih fun x hx => hb x (List.mem_cons_of_mem _ hx))
        refine ⟨_, rfl, ?_⟩
        try dsimp only [tNil]
        have dM := dA M as fun a ha => (ma a ha).2
        rw [ml8] at dM
        refine rReprD_of (.lst (SqL.of mD) dM) nA (by decide) (by decide) ?_
        refine ⟨(by show 1 ≤ sizeLine; decide), fun z1 f1 => ?_⟩
        refine ⟨z1, 2, _, rfl, rfl, upd_same, by decide, by decide, by decide, fun z2 f2 => ?_⟩
        have p1 : Same M (upd M z1 (.lst [.bl false])) := Same.put f1
        generalize upd M z1 (.lst [V.bl false]) = M1 at p1 f2 ⊢
        have p2 : Same M1 (upd M1 z2 (.lst (List.replicate (2 : Int).toNat [V.bl false]).flatten)) := Same.put f2
        have c2 : (upd M1 z2 (.lst (List.replicate (2 : Int).toNat [V.bl false]).flatten)) z2 = some (.lst [.bl false, .bl false]) := upd_same
        generalize upd M1 z2 (.lst (List.replicate (2 : Int).toNat [V.bl false]).flatten) = M2 at p2 c2 ⊢
        refine ⟨(by show 1 ≤ sizeLine; decide), fun z3 f3 => ?_⟩
        have p3 : Same M2 (upd M2 z3 (.lst [.ref z2])) := Same.put f3
        have c3 : (upd M2 z3 (.lst [V.ref z2])) z3 = some (.lst [.ref z2]) := upd_same
        generalize upd M2 z3 (.lst [V.ref z2]) = M3 at p3 c3 ⊢
        refine ⟨z3, 8, _, rfl, rfl, c3, by decide, by decide, (by show 1 * 8 ≤ sizeLine; decide), fun z4 f4 => ?_⟩
        have p4 : Same M3 (upd M3 z4 (.lst (List.replicate (8 : Int).toNat [V.ref z2]).flatten)) := Same.put f4
        have c4 : (upd M3 z4 (.lst (List.replicate (8 : Int).toNat [V.ref z2]).flatten)) z4 = some (.lst ((List.replicate 8 z2).map V.ref)) := upd_same
        generalize upd M3 z4 (.lst (List.replicate (8 : Int).toNat [V.ref z2]).flatten) = M4 at p4 c4 ⊢
        have p24 := Same.tr p3 p4
        have p14 := Same.tr p1 (Same.tr p2 p24)
        try dsimp only [tNil]
        have dM4 := dA M4 (List.replicate 8 z2) fun a ha => by rw [(List.mem_replicate.mp ha).2]; exact p24 _ _ c2
        refine rReprD_of (.lst (SqL.of c4) dM4) nA (by decide) (by decide) ?_
        refine ⟨rfl, _, rfl, ?_⟩
        refine if_true_of (decide_eq_true rfl) ?_
        refine ⟨_, rfl, rfl, rfl, ?_⟩
        try dsimp only [tNil]
        have mB := Same.tr ms p14
        refine ⟨_, "list", rfl, vk_list (SqL.of (mB _ _ hlt)), fun M5 p5 => ?_⟩
        refine ⟨_, _, rfl, rfl, ?_⟩
        exact q _ ((bB.keep (Same.tr mB p5)).mono (by omega)) (kpB.trans (Keep.of (Same.tr mB p5)))

end
end T02
set_option Elab.async false
set_option linter.all false
set_option maxRecDepth 100000
set_option maxHeartbeats 4000000
namespace T02
open PySem PySem.Spec PyProof.Rows L2 Tp
def spLaw (K : PySem.W.Frag) : Sp := fun vs H Q _ => ∃ (a : Addr) (ns : List Int), vs = [.ref a] ∧ SqL K H a (ns.map V.int) ∧ ns.length ≤ 63 ∧ ∀ H', Q (.bl true) H'
abbrev sEn : Stmt := inClass (top 19) 0
theorem vals_rotI : ∀ {vs : List V} {us : List Value}, Vals vs us → Vals (rotI vs) (rotI us)
  | [], _, .nil => .nil
  | [_], _, .cons a .nil => .cons a .nil
  | [_, _], _, .cons a (.cons b .nil) => .cons a (.cons b .nil)
  | [_, _, _], _, .cons a (.cons b (.cons c .nil)) => .cons b (.cons c (.cons a .nil))
  | _ :: _ :: _ :: _ :: _, _, .cons a (.cons b (.cons c (.cons d e))) => .cons a (.cons b (.cons c (.cons d e)))
section
variable {P : Program} {w : World} {K : PySem.W.Frag} {mg : Str → Option Value} {base : Heap} {f : Addr} {fd : FuncData}

abbrev sLaw : Stmt := top 84
abbrev nLaw : List Str := ["_law_script", "_law_k", "_law_box_here"]
theorem scLaw : FnScope nLaw ["_law_script"] (defScope sLaw) := ⟨rfl, rfl, rfl, by decide +kernel, rfl, by decide +kernel, by decide +kernel⟩

theorem ok_law (F : Fun K "law" "law" sLaw f fd) (T : TxtL mg) (CC : Cg P w K mg base 1 "_law_cell" (Tp.spCellT K)) (CB : Cg P w K mg base 1 "_law_box" spBox) (CN : Cg P w K mg base 8 "_law_names_right" (spNr K)) (CI : Cg P w K mg base 8 "_law_integers_right" (spIrt K)) (CT : Cg P w K mg base 8 "_law_terms_right" (spTr K)) : FnG P w K mg base CX0 9 f fd ["_law_script"] (spLaw K) := by
  refine FunG.ok F scLaw (fun vs H Q E h => ?_) (fun cdv B out s H vs Q E hr hG h => ?_)
  · obtain ⟨a, ns, rfl, _⟩ := h
    rfl
  · obtain ⟨a, ns, rfl, hs, hl, q⟩ := h
    refine ⟨_, (pss_cons (ps_for PassesOwn.never rfl (pi_range1 (by rfl) T.range (pa_cons (pe_callB (call_max2 rfl) (by rfl) T.max (by decide +kernel) (pa_cons pe_int (pa_cons (pe_callB (call_min2 rfl) (by rfl) T.min (by decide +kernel) (pa_cons pe_int (pa_cons (pe_callB call_len (by rfl) T.len PySem.boot_len (pa_cons (pv 0) pa_nil)) pa_nil))) pa_nil))) pa_nil)) (pg_name (i := 1) scLaw.nd rfl (Or.inl rfl)) (pss_cons (ps_set (i := 2) scLaw.nd rfl (.inl rfl) (pe_g CB hr hG (by decide) (by rfl) (pa_cons (pe_g CC hr hG (by decide) (by rfl) (pa_cons (pv 0) (pa_cons (pv 1) pa_nil))) pa_nil)))
        (pss_one (ps_if (PW.pt (pw_or (pt_not (pt_val (pe_g CN hr hG (by decide) (by rfl) (pa_cons (pv 2) pa_nil)))) (pw_or (pt_not (pt_val (pe_g CI hr hG (by decide) (by rfl) (pa_cons (pv 2) pa_nil)))) (pw_or1 (pt_not (pt_val (pe_g CT hr hG (by decide) (by rfl) (pa_cons (pv 2) pa_nil)))))))) (pss_one (ps_ret pe_bl)) pss_nil))))
      (pss_one (ps_ret pe_bl))), ?_⟩
    refine ⟨_, rfl, _, _, rfl, .inl ⟨_, hs, rfl⟩, _, _, rfl, _, _, rfl, _, rfl, ?_⟩
    rw [List.length_map]
    have hlt : (if (if ((ns.length : Nat) : Int) < 8 then ((ns.length : Nat) : Int) else 8) > 2 then (if ((ns.length : Nat) : Int) < 8 then ((ns.length : Nat) : Int) else 8) else 2) ≤ 8 ∧
        0 ≤ (if (if ((ns.length : Nat) : Int) < 8 then ((ns.length : Nat) : Int) else 8) > 2 then (if ((ns.length : Nat) : Int) < 8 then ((ns.length : Nat) : Int) else 8) else 2) := by
      constructor <;> split <;> split <;> omega
    generalize (if (if ((ns.length : Nat) : Int) < 8 then ((ns.length : Nat) : Int) else 8) > 2 then (if ((ns.length : Nat) : Int) < 8 then ((ns.length : Nat) : Int) else 8) else 2) = turns at hlt ⊢
    refine ⟨by omega, by omega, ?_⟩
    refine for_range (lo := 0) (n := turns.toNat) (fun i σ G => SqL K G a (ns.map V.int) ∧ ∃ o1 o2, σ = [some (.ref a), o1, o2]) ⟨hs, none, none, rfl⟩ ?_ ?_
    · rintro i σ G hi ⟨gs, o1, o2, rfl⟩
      refine ⟨_, rfl, _, rfl, a, ns, i, by rw [Int.zero_add], gs, hl, by omega, fun z => ?_⟩
      refine ⟨z, rfl, fun p G1 hp gb gk => ?_⟩
      have up : ∀ G2, Keep p G G2 → SqL K G2 a (ns.map V.int) := fun G2 k => SqL.up (fun b o e => k b o (ne_of_none e hp) e) gs
      refine ⟨_, rfl, p, 0, rfl, gb, by decide, fun G2 gb2 gk2 => ?_⟩
      refine ⟨_, rfl, iteF ?_⟩
      refine ⟨_, rfl, p, 90, rfl, gb2, by decide, fun G3 gb3 gk3 => ?_⟩
      refine ⟨_, rfl, iteF ?_⟩
      refine ⟨_, rfl, p, 180, rfl, gb3, by decide, fun G4 gb4 gk4 => ?_⟩
      exact ⟨_, rfl, iteF ⟨up _ (gk.trans (gk2.trans (gk3.trans gk4))), _, _, rfl⟩⟩
    · rintro σ G ⟨gs, o1, o2, rfl⟩
      exact q _
theorem scEn : FnScope ["self", "value"] ["self", "value"] (defScope sEn) := ⟨rfl, rfl, rfl, by decide +kernel, rfl, by decide +kernel, by decide +kernel⟩
theorem ok_En {C : Addr} (F : Fun K "__init__" "InvalidName.__init__" sEn f fd) (T : ExK K C) (n0 : PySem.W.findIn K (.ref C) "value" = some none) : FnOk P w K mg base CX0 1 f fd ["self", "value"] (spI C ["value"]) := by
  exact F.ok scEn (fun vs H Q E h => ini_len h) (fun cdv A outer s H vs Q E hr h => by
    obtain ⟨a, x, rfl, q⟩ := ini1 h
    exact ⟨_, PSs.nox (pss_one (ps_osx (pv 0) (pv 1))), _, rfl, _, rfl, q T n0⟩)
end
end T02
set_option Elab.async false
set_option linter.all false
set_option maxRecDepth 100000
set_option maxHeartbeats 8000000
/-! the head of a law by facts: what is read off the written part, and how it is told -/
namespace Tp
open PySem PySem.Spec PyProof.Rows L2
def dfn (x : Str) (st : Stmt) (dfl : List He.Dv := []) (kwd : List (Str × He.Dv) := []) : He.DefD := ⟨(x, none), x, x, defArgs st, defBody st, defScope st, dfl, kwd⟩
def dmt (c m q : Str) (st : Stmt) (dfl : List He.Dv := []) (kwd : List (Str × He.Dv) := []) : He.DefD := ⟨(c, some m), m, q, defArgs st, defBody st, defScope st, dfl, kwd⟩
theorem fun_of {K : PySem.W.Frag} {x qual : Str} {st : Stmt} {f : Addr} {fd : FuncData} (F : FunD K x qual (defArgs st) (defBody st) (defScope st) [] [] f fd) : Fun K x qual st f fd := by
  obtain ⟨oc, od, dV, kV, doc, pm, an, cdv, ct, osl, e, lk, hcd, hD, _⟩ := F.ex
  rcases hD with ⟨_, e2⟩ | ⟨z, _⟩
  · subst e2
    exact ⟨⟨oc, od, kV, doc, pm, an, cdv, ct, osl, e, lk, hcd⟩, F.kp⟩
  · exact absurd rfl z
theorem kb_of {K : PySem.W.Frag} {x q : Str} {st : Stmt} {f : Addr} {fd : FuncData} {ps ks : List Str} {n : Nat} {g : List Value → List Value → List Value} {gV : List V → List V → List V} (G : Fun K x q st f fd)
    (h : ∀ (kV doc pm : Value) (an : Option Addr) (cdv ct : Value) (us ws : List Value), us.length = n → ws.length = ks.length → bindArgs (PySem.W.fnOf x q (defArgs st) (defBody st) (defScope st) .none kV doc pm an cdv ct) ⟨us, ks.zip ws⟩ = pure (ps.zip (g us ws)))
    (rel : ∀ {vs : List V} {us : List Value} {zs : List V} {ws : List Value}, Vals vs us → Vals zs ws → Vals (gV vs zs) (g us ws)) : KBn K fd ps n ks g gV := by
  obtain ⟨oc, od, kV, doc, pm, an, cdv, ct, osl, rfl, lk, hcd⟩ := G.ex
  exact ⟨fun s us ws _ l1 l2 => .of_eq (h kV doc pm an cdv ct us ws l1 l2), rel⟩
/-- the goal that such a head leaves -/
theorem walkGE {l : PySem.W.OpenLaw} {n k : Nat} {q : Program} {loose : List Str} {XP : (Str → Option Value) → Heap → Prop} {YP : World → Heap → Prop} {d : DefRec} {x : Str}
    (hn : l.most = some n) (hn2 : n ≤ sizeLine) (hdf : d.params.defaults = []) (hr : Room k callerA)
    (F : ∀ (w : World) (mg : Str → Option Value) (fa : Addr) (h : Heap), YP w h → h.Ns mainGlobals mg → mg d.name = some (.ref fa) →
      ∃ (K : PySem.W.Frag) (fd : FuncData) (sp : Sp), K.In h ∧ (∀ (s : Shared) (u : Value), BindsTo s fd ⟨[u], []⟩ [(x, u)]) ∧ (∀ base : Heap, K.In base → base.Ns mainGlobals mg → FnG l.prog w K mg base CX0 k fa fd [x] sp) ∧
        ∀ (H : Hp) (a : Addr) (ns : List Int), ns.length ≤ n → Only H → SqL K H a (ns.map V.int) → sp [.ref a] H (fun v _ => v = .bl true) E0) :
    PySem.W.WalkO q loose XP YP l.row.toRowW d [] (fun f vs => PySem.call f vs) := by
  refine Att.attach_call hn hdf fun w s0 s1 mg mb fa o pm cd doc a vs ns G Y ho hd hcd hmg hobj hints hlen hg => ?_
  obtain ⟨K, fd, sp, KX, hb, hF, hsp⟩ := F w mg fa _ Y G.T.g hmg
  exact law_callG KX G.T.g G.T.b G.T.builtins G.T.nolimit hg hobj hints (Nat.le_trans hlen hn2) hr hF hb fun H hO hS => hsp H a ns hlen hO hS
/-! ### facts by one Bool -/
def emB (K : PySem.W.Frag) (a : Addr) : Bool := match K.lookup a with
  | some ⟨.type t, _, .seq its _, _⟩ => decide (t = "tuple") && decide (its = #[])
  | _ => false
theorem emB_ok {K : PySem.W.Frag} {a : Addr} (h : emB K a = true) : ∃ (o : Obj) (n : Nat), K.lookup a = some o ∧ o.cls = .type "tuple" ∧ o.data = .seq #[] n := by
  unfold emB at h
  split at h
  · rename_i t od its n sl e
    rw [Bool.and_eq_true, decide_eq_true_eq, decide_eq_true_eq] at h
    obtain ⟨rfl, rfl⟩ := h
    exact ⟨_, n, e, rfl, rfl⟩
  · cases h
def smB (K : PySem.W.Frag) : Bool := match K.lookup sysModules with
  | some ⟨.type t, _, _, _⟩ => decide (t = "dict")
  | _ => false
theorem smB_ok {K : PySem.W.Frag} (h : smB K = true) : Sm K := by
  unfold smB at h
  split at h
  · rename_i t od dt sl e
    rw [decide_eq_true_eq] at h
    subst h
    exact ⟨_, e, rfl⟩
  · cases h
/-- what all instances and exceptions share -/
def glB (K : PySem.W.Frag) : Bool := He.eqO (PySem.W.specialIn K (.builtin "object.__class__") "__get__") (some (some (.builtin "getset_descriptor.__get__"))) && decide (PySem.W.takesIn K (.builtin "object.__class__") = some true)
def insB (K : PySem.W.Frag) (C : Addr) : Bool := He.eqO (PySem.W.findIn K (.ref C) "__class__") (some (some (.builtin "object.__class__"))) && (decide (PySem.W.mroIn K C (.type "object") = some true) && tys6.all fun u => decide (PySem.W.subIn K (.ref C) (.type u) = some false))
theorem kit_sub {K : PySem.W.Frag} {C : Addr} {u : String} {b : Bool} (hu : u ∈ tys6) (h : PySem.W.subIn K (.ref C) (.type u) = some b) : PySem.W.kitOne K (.ref C) (.type u) = some b := by
  have km : ∀ u ∈ tys6, PySem.W.kitMeta u = true := by decide +kernel
  unfold PySem.W.kitOne
  rw [if_neg (show ¬ (Value.ref C == Value.type u) = true from fun z => by cases z)]
  show (if PySem.W.kitMeta u = true then PySem.W.subIn K (.ref C) (.type u) else none) = some b
  rw [if_pos (km u hu)]
  exact h
theorem insB_ok {K : PySem.W.Frag} {C : Addr} (g : glB K = true) (c : Cls K C) (h : insB K C = true) : InsK K C := by
  unfold insB at h
  unfold glB at g
  simp only [Bool.and_eq_true, decide_eq_true_eq, List.all_eq_true] at g h
  exact ⟨c, He.eqO_ok h.1, He.eqO_ok g.1, g.2, h.2.1, fun u hu => kit_sub hu (h.2.2 u hu)⟩
/-! ### exceptions -/
def classB (K : PySem.W.Frag) (C : Addr) (tl : List Value) (newId : String) : Bool := match K.lookup C with
  | some ⟨.type t, _, .cls cd, sl⟩ => decide (t = "type") && (cd.hasDict && (!cd.hasDel && (decide (cd.mro = .ref C :: tl) && (match sl.toList with
    | [_, _, _, _, some (.builtin n), _] => decide (n = newId)
    | _ => false))))
  | _ => false
/-- how a class is written -/
def Lin (K : PySem.W.Frag) (C : Addr) (tl : List Value) (newId : String) : Prop := ∃ (nm qn : Str) (N : Addr) (bs : List Value) (sn : List Str) (sub : List Value) (ab : Bool) (col : Option Bool) (dd : Option Addr) (k0 k1 k2 k3 k5 : Option Value),
  K.lookup C = some (excClassObj nm qn C N bs tl true sn sub ab col dd k0 k1 k2 k3 k5 newId)
theorem classB_ok {K : PySem.W.Frag} {C : Addr} {tl : List Value} {newId : String} (h : classB K C tl newId = true) : Lin K C tl newId := by
  unfold classB at h
  split at h
  · rename_i t dd cd sl ho
    simp only [Bool.and_eq_true, decide_eq_true_eq, Bool.not_eq_true'] at h
    obtain ⟨rfl, h1, h2, h3, h4⟩ := h
    split at h4
    · rename_i k0 k1 k2 k3 n k5 hs
      have en := of_decide_eq_true h4
      obtain ⟨nm, bs, mro, ns, qn, hd, sn, sub, ab, col, del⟩ := cd
      dsimp only at h1 h2 h3
      subst h1 h2 h3
      have hsl : sl = #[k0, k1, k2, k3, some (.builtin n), k5] := by
        obtain ⟨l⟩ := sl
        simp only at hs
        rw [hs]
      subst hsl
      exact ⟨nm, qn, ns, bs, sn, sub, ab, col, dd, k0, k1, k2, k3, k5, by rw [ho, en]⟩
    · cases h4
  · cases h
section
variable {K : PySem.W.Frag} {C Bc : Addr} {tl line : List Value} {newId : String}
theorem Lin.cls (h : Lin K C tl newId) : ∃ cd, PySem.W.clsIn K C = some cd ∧ cd.mro = .ref C :: tl ∧ cd.hasDict = true ∧ PySem.W.typeIn K (.ref C) = some (.type "type") := by
  obtain ⟨nm, qn, N, bs, sn, sub, ab, col, dd, k0, k1, k2, k3, k5, h⟩ := h
  refine ⟨_, (by unfold PySem.W.clsIn; rw [h]), rfl, rfl, ?_⟩
  show (K.lookup C).map (·.cls) = _
  rw [h]
  rfl
theorem Lin.own (h : Lin K C tl newId) (t : Value) {b : Bool} (e : (Value.ref C :: tl).contains t = b) : PySem.W.subIn K (.ref C) t = some b := by
  obtain ⟨cd, hc, hm, _⟩ := h.cls
  show PySem.W.mroIn K C t = some b
  unfold PySem.W.mroIn
  rw [hc, Option.bind_some, hm, e]
  rfl
theorem Lin.two (h : Lin K C tl newId) (ht : PySem.W.excTail line tl = true) : PySem.W.excInitIn K C line newId = true ∧ PySem.W.excOver K C line = true := by
  constructor
  · obtain ⟨nm, qn, N, bs, sn, sub, ab, col, dd, k0, k1, k2, k3, k5, h⟩ := h
    unfold PySem.W.excInitIn
    rw [h]
    simp [ht]
  · obtain ⟨cd, hc, hm, _⟩ := h.cls
    unfold PySem.W.excOver
    rw [hc, Option.any_some]
    simp only [hm]
    simp [ht]
/-- the three lines behind the package's bases -/
def lnN (i : Nat) : List Value := if i = 0 then valLine else if i = 1 then keyLine else lookLine
def nwN (i : Nat) : String := if i = 0 then "ValueError.__new__" else "LookupError.__new__"
theorem ln_ref (i : Nat) (a : Addr) (r : List Value) : lnN i ≠ .ref a :: r := fun z => by
  unfold lnN at z
  split at z
  · cases z
  · split at z <;> cases z
theorem ln_tail (i : Nat) : PySem.W.excTail (lnN i) (.ref Bc :: lnN i) = true := by
  show PySem.W.excTail (lnN i) (lnN i) = true
  unfold lnN
  split
  · decide +kernel
  · split <;> decide +kernel
theorem ln_base (i : Nat) : BaseX (nwN i) (lnN i) := by
  unfold nwN lnN
  split
  · exact baseV
  · split
    · exact baseK
    · exact baseL
/-- all that is asked of class C below Bc, kind i, the fields fs -/
def excB (K : PySem.W.Frag) (C Bc : Addr) (i : Nat) (fs : List Str) (fI : Addr) : Bool := classB K C (.ref Bc :: lnN i) (nwN i) && (He.eqO (PySem.W.findIn K (.ref C) "__setattr__") (some (some (.builtin "object.__setattr__"))) &&
  (He.eqO (PySem.W.findIn K (.ref C) "__getattribute__") (some (some (.builtin "BaseException.__getattribute__"))) && (He.eqO (PySem.W.findIn K (.ref C) "__getattr__") (some none) && (PySem.W.keepIn K (.ref C) &&
  (He.eqO (PySem.W.findIn K (.ref C) "__class__") (some (some (.builtin "object.__class__"))) && (He.eqO (PySem.W.findIn K (.ref C) "__init__") (some (some (.ref fI))) && (decide (PySem.W.typeIn K (.ref fI) = some (.type "function")) && fs.all fun f => He.eqO (PySem.W.findIn K (.ref C) f) (some none))))))))
/-- what is told of it -/
structure ExcK (K : PySem.W.Frag) (C Bc : Addr) (i : Nat) (fs : List Str) (fI : Addr) : Prop where
  ex : ExK K C
  no : ∀ f ∈ fs, PySem.W.findIn K (.ref C) f = some none
  ini : PySem.W.findIn K (.ref C) "__init__" = some (some (.ref fI))
  fn : PySem.W.typeIn K (.ref fI) = some (.type "function")
  lin : Lin K C (.ref Bc :: lnN i) (nwN i)
theorem ln_no (i : Nat) (C Bc : Addr) : ∀ u ∈ tys6, (Value.ref C :: Value.ref Bc :: lnN i).contains (.type u) = false := by
  have a1 : ∀ u ∈ tys6, ∀ l ∈ [valLine, keyLine, lookLine], l.contains (.type u) = false := by decide +kernel
  intro u hu
  have e1 : (Value.type u == Value.ref C) = false := rfl
  have e2 : (Value.type u == Value.ref Bc) = false := rfl
  rw [List.contains_cons, e1, Bool.false_or, List.contains_cons, e2, Bool.false_or]
  refine a1 u hu _ ?_
  unfold lnN
  split
  · simp
  · split <;> simp
theorem ExcK.kit {i : Nat} {fs : List Str} {fI : Addr} (h : ExcK K C Bc i fs fI) : ∀ u ∈ tys6, PySem.W.kitOne K (.ref C) (.type u) = some false := fun u hu => kit_sub hu (h.lin.own _ (ln_no i C Bc u hu))
theorem excB_ok {i : Nat} {fs : List Str} {fI : Addr} (g : glB K = true) (h : excB K C Bc i fs fI = true) : ExcK K C Bc i fs fI := by
  unfold excB at h
  unfold glB at g
  simp only [Bool.and_eq_true, decide_eq_true_eq, List.all_eq_true] at g h
  obtain ⟨h1, sa, ga, gg, kc, ha, hi, hf, hfs⟩ := h
  have L := classB_ok h1
  obtain ⟨cd, hc, hm, hd, hty⟩ := L.cls
  have lb : ∀ l ∈ [valLine, keyLine, lookLine], l.contains (.type "BaseException") = true ∧ l.contains (.type "object") = true := by decide +kernel
  have hl : lnN i ∈ [valLine, keyLine, lookLine] := by
    unfold lnN
    split
    · simp
    · split <;> simp
  have up : ∀ t, (lnN i).contains (.type t) = true → (Value.ref C :: Value.ref Bc :: lnN i).contains (.type t) = true := fun t e => by
    rw [List.contains_cons, List.contains_cons, e]
    simp
  refine ⟨⟨⟨_, _, ln_base i, L.two (ln_tail i)⟩, He.eqO_ok sa, He.eqO_ok ga, He.eqO_ok gg, L.own _ (up _ (lb _ hl).1), hty, ?_, kc, He.eqO_ok ha, He.eqO_ok g.1, g.2, L.own _ (up _ (lb _ hl).2)⟩, fun f hf => He.eqO_ok (hfs f hf), He.eqO_ok hi, hf, L⟩
  unfold PySem.W.hasDictIn
  rw [hc, Option.any_some]
  exact hd
end
/-! ### the run's hook -/
/-- the addresses that are looked at: the module's names, their classes' bodies, what stands in them, code, defaults, the table of modules -/
def refsR (o : Obj) : List Addr := match o.data with
  | .cls cd => [cd.ns]
  | .func fd => He.refV fd.code ++ (He.refV fd.defaults ++ He.refV fd.kwdefaults)
  | .seq its _ => its.toList.flatMap He.refV
  | _ => []
def dictR (o : Obj) : List Addr := match o.data with
  | .dict es _ => es.toList.flatMap fun e => He.refV e.val
  | _ => []
def viaR (g : Addr → Option Obj) (f : Obj → List Addr) (as : List Addr) : List Addr := as.flatMap fun a => match g a with
  | some o => f o
  | none => []
def asR (g : Addr → Option Obj) : List Addr :=
  let l1 := viaR g dictR [mainGlobals]
  let l2 := viaR g refsR l1
  let l3 := viaR g dictR l2
  let l4 := viaR g refsR l2
  let l5 := viaR g refsR l3
  sysModules :: mainGlobals :: (l1 ++ (l2 ++ (l3 ++ (l4 ++ (l5 ++ viaR g refsR l5)))))
abbrev AlR : Type := He.AlD × Bool
def obsR (fa : List He.Fa) (fn : List He.DefD) (ex : PySem.W.Frag → Bool) (g : Addr → Option Obj) : AlR := (He.obsD fa fn (He.frG g (asR g)), ex (He.frG g (asR g)))
def hookR (fa : List He.Fa) (fn : List He.DefD) (ex : PySem.W.Frag → Bool) : PySem.W.Hook where
  α := AlR
  obs := fun s => obsR fa fn ex s.heap.get?
  val := fun _ => (He.valD fn, true)
  says := fun _ h => ∃ K : PySem.W.Frag, K.In h ∧ He.SaysD fa fn K ∧ ex K = true
  of := fun _ s e => ⟨_, He.frG_in, congrArg (fun z : AlR => z.1) e, congrArg (fun z : AlR => z.2) e⟩
  keeps := fun _ _ _ ⟨K, hK, c⟩ k => ⟨K, PySem.W.Frag.In.keeps hK k, c⟩
theorem obsR_eq {fa : List He.Fa} {fn : List He.DefD} {ex : PySem.W.Frag → Bool} {g : Addr → Option Obj} {s : Shared} (h : ∀ a, g a = s.heap.get? a) : obsR fa fn ex g = (hookR fa fn ex).obs s := by
  have e : g = s.heap.get? := funext h
  rw [e] <;> rfl
end Tp
set_option Elab.async false
set_option linter.all false
set_option maxRecDepth 100000
set_option maxHeartbeats 8000000
namespace T02
open PySem PySem.Spec PyProof.Rows L2 Tp
theorem rel_int {mg : Str → Option Value} {x : Str} {i : Int} (h : ∃ t, mg x = some (.int i t)) : ∃ u, mg x = some u ∧ RelV (.int i) u := let ⟨t, e⟩ := h; ⟨_, e, t, rfl⟩
theorem rel_str {mg : Str → Option Value} {x z : Str} (h : ∃ t, mg x = some (.str z t)) : ∃ u, mg x = some u ∧ RelV (.str z) u := let ⟨t, e⟩ := h; ⟨_, e, t, rfl⟩
def fnL : List He.DefD := [dfn "_law_cell" sCell,
  dfn "_law_box" sBox,
  dfn "_law_take" sTake,
  dfn "_law_word" sWd,
  dfn "_law_is_named" sNm,
  dfn "_law_names_right" sNr,
  dfn "_law_integers_right" sIrt,
  dfn "_law_rows" sRw,
  dfn "_law_bent" sBt,
  dfn "_law_are_rows" sAr,
  dfn "_law_terms_right" sTr,
  dfn "law" sLaw,
  dfn "is_whole" sVw,
  dfn "is_integer" sVi,
  dfn "is_list" sVl,
  dfn "is_name" sVn,
  dfn "_is_term_row" sVr,
  dfn "is_terms" sVt,
  dfn "joined_edges" sJe,
  dfn "all_starts" sAs,
  dfn "_direct_sources" sDs,
  dfn "_spread" sSp,
  dfn "working_order" sWo,
  dfn "ring_without_delay" sRg,
  dfn "ends_of_ways" sEw,
  dfn "beginnings_of_ways" sBw,
  dfn "_check_inputs" sCi,
  dfn "_check_gates" sCgt,
  dfn "check_terms" sCtm,
  dfn "_check_edges" sCed,
  dfn "_check_ways" sCwy,
  dfn "_kept_edges" sKe,
  dfn "check_parts" sCp,
  dmt "TermTable" "__init__" "TermTable.__init__" sTti,
  dmt "TermTable" "enter_terms" "TermTable.enter_terms" sTte,
  dmt "TermTable" "used" "TermTable.used" sTtu,
  dmt "Net" "__init__" "Net.__init__" sNi [.adr (He.dflAt ("Net", some "__init__") 0)],
  dmt "Book" "__init__" "Book.__init__" sB0 [.adr (He.dflAt ("Book", some "__init__") 0)],
  dmt "InvalidName" "__init__" "InvalidName.__init__" sEn]
def fa0 : List He.Fa := [.free "isinstance", .free "int", .free "bool", .free "str", .free "list", .free "tuple", .free "len", .free "all", .free "enumerate", .str "LETTERS" "abcdefghijklmnopqrstuvwxyz", .str "DIGITS" "0123456789", .int "LONGEST_NAME" 8, .int "MOST_ARGUMENTS" 3, .free "range", .free "max", .free "min", .free "repr", .glo "is_whole", .glo "is_integer", .glo "is_list", .glo "is_name", .glo "_is_term_row", .glo "is_terms", .glo "joined_edges", .glo "all_starts", .glo "_direct_sources", .glo "_spread", .glo "working_order", .glo "ring_without_delay", .glo "ends_of_ways"]
def fa1 : List He.Fa := [.glo "beginnings_of_ways", .glo "_check_inputs", .glo "_check_gates", .glo "check_terms", .glo "_check_edges", .glo "_check_ways", .glo "_kept_edges", .glo "check_parts", .cls "TermTable", .noat "TermTable" "_listed", .noat "TermTable" "_places", .mkr "TermTable", .glo "TermTable", .meth "TermTable" "enter_terms", .meth "TermTable" "used", .cls "Net", .noat "Net" "_terms", .noat "Net" "_inputs", .noat "Net" "_names", .noat "Net" "_symbols", .noat "Net" "_edges", .noat "Net" "_outs", .cls "Book", .noat "Book" "_rows", .noat "Book" "_numbers", .noat "Book" "_sizes", .noat "Book" "_depths", .noat "Book" "_lengths", .mkr "Net", .glo "Net"]
def fa2 : List He.Fa := [.mkr "Book", .glo "Book", .glo "InvalidName", .glo "_law_cell", .glo "_law_box", .glo "_law_take", .glo "_law_word", .glo "_law_is_named", .glo "_law_names_right", .glo "_law_integers_right", .glo "_law_rows", .glo "_law_bent", .glo "_law_are_rows", .glo "_law_terms_right", .glo "law"]
def faL : List He.Fa := fa0 ++ (fa1 ++ (fa2))
def exB (K : PySem.W.Frag) : Bool := (glB K) && ((smB K) && ((emB K (He.dflAt ("Net", some "__init__") 0 K)) && ((emB K (He.dflAt ("Book", some "__init__") 0 K)) && ((insB K (He.ga K "Net")) && ((insB K (He.ga K "Book")) && ((excB K (He.ga K "InvalidName") (He.ga K "NetError") 0 ["value"] (He.fAd K ("InvalidName", some "__init__")))))))))
theorem all2 {l : PySem.W.OpenLaw} {w : World} {K : PySem.W.Frag} {h : Heap} {mg : Str → Option Value} {fa : Addr} (X : K.In h) (G : h.Ns mainGlobals mg) (hfa : mg "law" = some (.ref fa)) (cd : He.SaysD faL fnL K) (ex : exB K = true) :
    ∃ fd : FuncData, (∀ (s : Shared) (v : Value), BindsTo s fd ⟨[v], []⟩ [("_law_script", v)]) ∧ ∀ base : Heap, K.In base → base.Ns mainGlobals mg → FnG l.prog w K mg base CX0 9 fa fd ["_law_script"] (spLaw K) := by
  obtain ⟨fd_cell, D_cell⟩ := cd.def_ 0 (d := dfn "_law_cell" sCell) rfl
  have F_cell : Fun K "_law_cell" "_law_cell" sCell (He.ga K "_law_cell") fd_cell := fun_of D_cell
  have b_cell := F_cell.binds (ps := ["_law_script", "_law_k"]) fun _ _ _ _ _ _ us hl => match us, hl with | [_, _], _ => rfl
  obtain ⟨fd_box, D_box⟩ := cd.def_ 1 (d := dfn "_law_box" sBox) rfl
  have F_box : Fun K "_law_box" "_law_box" sBox (He.ga K "_law_box") fd_box := fun_of D_box
  have b_box := F_box.binds (ps := ["_law_cell_here"]) fun _ _ _ _ _ _ us hl => match us, hl with | [_], _ => rfl
  obtain ⟨fd_take, D_take⟩ := cd.def_ 2 (d := dfn "_law_take" sTake) rfl
  have F_take : Fun K "_law_take" "_law_take" sTake (He.ga K "_law_take") fd_take := fun_of D_take
  have b_take := F_take.binds (ps := ["_law_box_here", "_law_many"]) fun _ _ _ _ _ _ us hl => match us, hl with | [_, _], _ => rfl
  obtain ⟨fd_word, D_word⟩ := cd.def_ 3 (d := dfn "_law_word" sWd) rfl
  have F_word : Fun K "_law_word" "_law_word" sWd (He.ga K "_law_word") fd_word := fun_of D_word
  have b_word := F_word.binds (ps := ["_law_box_here", "_law_longest"]) fun _ _ _ _ _ _ us hl => match us, hl with | [_, _], _ => rfl
  obtain ⟨fd_named, D_named⟩ := cd.def_ 4 (d := dfn "_law_is_named" sNm) rfl
  have F_named : Fun K "_law_is_named" "_law_is_named" sNm (He.ga K "_law_is_named") fd_named := fun_of D_named
  have b_named := F_named.binds (ps := ["_law_word_here"]) fun _ _ _ _ _ _ us hl => match us, hl with | [_], _ => rfl
  obtain ⟨fd_nr, D_nr⟩ := cd.def_ 5 (d := dfn "_law_names_right" sNr) rfl
  have F_nr : Fun K "_law_names_right" "_law_names_right" sNr (He.ga K "_law_names_right") fd_nr := fun_of D_nr
  have b_nr := F_nr.binds (ps := ["_law_box_here"]) fun _ _ _ _ _ _ us hl => match us, hl with | [_], _ => rfl
  obtain ⟨fd_ir, D_ir⟩ := cd.def_ 6 (d := dfn "_law_integers_right" sIrt) rfl
  have F_ir : Fun K "_law_integers_right" "_law_integers_right" sIrt (He.ga K "_law_integers_right") fd_ir := fun_of D_ir
  have b_ir := F_ir.binds (ps := ["_law_box_here"]) fun _ _ _ _ _ _ us hl => match us, hl with | [_], _ => rfl
  obtain ⟨fd_rows, D_rows⟩ := cd.def_ 7 (d := dfn "_law_rows" sRw) rfl
  have F_rows : Fun K "_law_rows" "_law_rows" sRw (He.ga K "_law_rows") fd_rows := fun_of D_rows
  have b_rows := F_rows.binds (ps := ["_law_box_here"]) fun _ _ _ _ _ _ us hl => match us, hl with | [_], _ => rfl
  obtain ⟨fd_bent, D_bent⟩ := cd.def_ 8 (d := dfn "_law_bent" sBt) rfl
  have F_bent : Fun K "_law_bent" "_law_bent" sBt (He.ga K "_law_bent") fd_bent := fun_of D_bent
  have b_bent := F_bent.binds (ps := ["_law_box_here", "_law_rows_here"]) fun _ _ _ _ _ _ us hl => match us, hl with | [_, _], _ => rfl
  obtain ⟨fd_are, D_are⟩ := cd.def_ 9 (d := dfn "_law_are_rows" sAr) rfl
  have F_are : Fun K "_law_are_rows" "_law_are_rows" sAr (He.ga K "_law_are_rows") fd_are := fun_of D_are
  have b_are := F_are.binds (ps := ["_law_rows_here"]) fun _ _ _ _ _ _ us hl => match us, hl with | [_], _ => rfl
  obtain ⟨fd_tr, D_tr⟩ := cd.def_ 10 (d := dfn "_law_terms_right" sTr) rfl
  have F_tr : Fun K "_law_terms_right" "_law_terms_right" sTr (He.ga K "_law_terms_right") fd_tr := fun_of D_tr
  have b_tr := F_tr.binds (ps := ["_law_box_here"]) fun _ _ _ _ _ _ us hl => match us, hl with | [_], _ => rfl
  obtain ⟨fd_law, D_law⟩ := cd.def_ 11 (d := dfn "law" sLaw) rfl
  have F_law : Fun K "law" "law" sLaw (He.ga K "law") fd_law := fun_of D_law
  have b_law := F_law.binds (ps := ["_law_script"]) fun _ _ _ _ _ _ us hl => match us, hl with | [_], _ => rfl
  obtain ⟨fd_whole, D_whole⟩ := cd.def_ 12 (d := dfn "is_whole" sVw) rfl
  have F_whole : Fun K "is_whole" "is_whole" sVw (He.ga K "is_whole") fd_whole := fun_of D_whole
  have b_whole := F_whole.binds (ps := ["value"]) fun _ _ _ _ _ _ us hl => match us, hl with | [_], _ => rfl
  obtain ⟨fd_integer, D_integer⟩ := cd.def_ 13 (d := dfn "is_integer" sVi) rfl
  have F_integer : Fun K "is_integer" "is_integer" sVi (He.ga K "is_integer") fd_integer := fun_of D_integer
  have b_integer := F_integer.binds (ps := ["value", "low", "high"]) fun _ _ _ _ _ _ us hl => match us, hl with | [_, _, _], _ => rfl
  obtain ⟨fd_list, D_list⟩ := cd.def_ 14 (d := dfn "is_list" sVl) rfl
  have F_list : Fun K "is_list" "is_list" sVl (He.ga K "is_list") fd_list := fun_of D_list
  have b_list := F_list.binds (ps := ["value"]) fun _ _ _ _ _ _ us hl => match us, hl with | [_], _ => rfl
  obtain ⟨fd_name, D_name⟩ := cd.def_ 15 (d := dfn "is_name" sVn) rfl
  have F_name : Fun K "is_name" "is_name" sVn (He.ga K "is_name") fd_name := fun_of D_name
  have b_name := F_name.binds (ps := ["value"]) fun _ _ _ _ _ _ us hl => match us, hl with | [_], _ => rfl
  obtain ⟨fd_trow, D_trow⟩ := cd.def_ 16 (d := dfn "_is_term_row" sVr) rfl
  have F_trow : Fun K "_is_term_row" "_is_term_row" sVr (He.ga K "_is_term_row") fd_trow := fun_of D_trow
  have b_trow := F_trow.binds (ps := ["value", "index"]) fun _ _ _ _ _ _ us hl => match us, hl with | [_, _], _ => rfl
  obtain ⟨fd_terms, D_terms⟩ := cd.def_ 17 (d := dfn "is_terms" sVt) rfl
  have F_terms : Fun K "is_terms" "is_terms" sVt (He.ga K "is_terms") fd_terms := fun_of D_terms
  have b_terms := F_terms.binds (ps := ["value"]) fun _ _ _ _ _ _ us hl => match us, hl with | [_], _ => rfl
  obtain ⟨fd_je, D_je⟩ := cd.def_ 18 (d := dfn "joined_edges" sJe) rfl
  have F_je : Fun K "joined_edges" "joined_edges" sJe (He.ga K "joined_edges") fd_je := fun_of D_je
  have b_je := F_je.binds (ps := ["gates", "outs"]) fun _ _ _ _ _ _ us hl => match us, hl with | [_, _], _ => rfl
  obtain ⟨fd_as, D_as⟩ := cd.def_ 19 (d := dfn "all_starts" sAs) rfl
  have F_as : Fun K "all_starts" "all_starts" sAs (He.ga K "all_starts") fd_as := fun_of D_as
  have b_as := F_as.binds (ps := ["gates", "outs"]) fun _ _ _ _ _ _ us hl => match us, hl with | [_, _], _ => rfl
  obtain ⟨fd_ds, D_ds⟩ := cd.def_ 20 (d := dfn "_direct_sources" sDs) rfl
  have F_ds : Fun K "_direct_sources" "_direct_sources" sDs (He.ga K "_direct_sources") fd_ds := fun_of D_ds
  have b_ds := F_ds.binds (ps := ["gates"]) fun _ _ _ _ _ _ us hl => match us, hl with | [_], _ => rfl
  obtain ⟨fd_sp, D_sp⟩ := cd.def_ 21 (d := dfn "_spread" sSp) rfl
  have F_sp : Fun K "_spread" "_spread" sSp (He.ga K "_spread") fd_sp := fun_of D_sp
  have b_sp := F_sp.binds (ps := ["names", "following"]) fun _ _ _ _ _ _ us hl => match us, hl with | [_, _], _ => rfl
  obtain ⟨fd_wo, D_wo⟩ := cd.def_ 22 (d := dfn "working_order" sWo) rfl
  have F_wo : Fun K "working_order" "working_order" sWo (He.ga K "working_order") fd_wo := fun_of D_wo
  have b_wo := F_wo.binds (ps := ["gates"]) fun _ _ _ _ _ _ us hl => match us, hl with | [_], _ => rfl
  obtain ⟨fd_rg, D_rg⟩ := cd.def_ 23 (d := dfn "ring_without_delay" sRg) rfl
  have F_rg : Fun K "ring_without_delay" "ring_without_delay" sRg (He.ga K "ring_without_delay") fd_rg := fun_of D_rg
  have b_rg := F_rg.binds (ps := ["gates"]) fun _ _ _ _ _ _ us hl => match us, hl with | [_], _ => rfl
  obtain ⟨fd_ew, D_ew⟩ := cd.def_ 24 (d := dfn "ends_of_ways" sEw) rfl
  have F_ew : Fun K "ends_of_ways" "ends_of_ways" sEw (He.ga K "ends_of_ways") fd_ew := fun_of D_ew
  have b_ew := F_ew.binds (ps := ["inputs", "gates"]) fun _ _ _ _ _ _ us hl => match us, hl with | [_, _], _ => rfl
  obtain ⟨fd_bw, D_bw⟩ := cd.def_ 25 (d := dfn "beginnings_of_ways" sBw) rfl
  have F_bw : Fun K "beginnings_of_ways" "beginnings_of_ways" sBw (He.ga K "beginnings_of_ways") fd_bw := fun_of D_bw
  have b_bw := F_bw.binds (ps := ["gates", "outs"]) fun _ _ _ _ _ _ us hl => match us, hl with | [_, _], _ => rfl
  obtain ⟨fd_ci, D_ci⟩ := cd.def_ 26 (d := dfn "_check_inputs" sCi) rfl
  have F_ci : Fun K "_check_inputs" "_check_inputs" sCi (He.ga K "_check_inputs") fd_ci := fun_of D_ci
  have b_ci := F_ci.binds (ps := ["inputs", "names"]) fun _ _ _ _ _ _ us hl => match us, hl with | [_, _], _ => rfl
  obtain ⟨fd_cg, D_cg⟩ := cd.def_ 27 (d := dfn "_check_gates" sCgt) rfl
  have F_cg : Fun K "_check_gates" "_check_gates" sCgt (He.ga K "_check_gates") fd_cg := fun_of D_cg
  have b_cg := F_cg.binds (ps := ["gates", "names"]) fun _ _ _ _ _ _ us hl => match us, hl with | [_, _], _ => rfl
  obtain ⟨fd_ct, D_ct⟩ := cd.def_ 28 (d := dfn "check_terms" sCtm) rfl
  have F_ct : Fun K "check_terms" "check_terms" sCtm (He.ga K "check_terms") fd_ct := fun_of D_ct
  have b_ct := F_ct.binds (ps := ["terms"]) fun _ _ _ _ _ _ us hl => match us, hl with | [_], _ => rfl
  obtain ⟨fd_ce, D_ce⟩ := cd.def_ 29 (d := dfn "_check_edges" sCed) rfl
  have F_ce : Fun K "_check_edges" "_check_edges" sCed (He.ga K "_check_edges") fd_ce := fun_of D_ce
  have b_ce := F_ce.binds (ps := ["gates", "outs", "names", "count"]) fun _ _ _ _ _ _ us hl => match us, hl with | [_, _, _, _], _ => rfl
  obtain ⟨fd_cw, D_cw⟩ := cd.def_ 30 (d := dfn "_check_ways" sCwy) rfl
  have F_cw : Fun K "_check_ways" "_check_ways" sCwy (He.ga K "_check_ways") fd_cw := fun_of D_cw
  have b_cw := F_cw.binds (ps := ["inputs", "gates", "outs"]) fun _ _ _ _ _ _ us hl => match us, hl with | [_, _, _], _ => rfl
  obtain ⟨fd_ke, D_ke⟩ := cd.def_ 31 (d := dfn "_kept_edges" sKe) rfl
  have F_ke : Fun K "_kept_edges" "_kept_edges" sKe (He.ga K "_kept_edges") fd_ke := fun_of D_ke
  have b_ke := F_ke.binds (ps := ["edges", "moved"]) fun _ _ _ _ _ _ us hl => match us, hl with | [_, _], _ => rfl
  obtain ⟨fd_cp, D_cp⟩ := cd.def_ 32 (d := dfn "check_parts" sCp) rfl
  have F_cp : Fun K "check_parts" "check_parts" sCp (He.ga K "check_parts") fd_cp := fun_of D_cp
  have b_cp := F_cp.binds (ps := ["inputs", "gates", "outs", "terms"]) fun _ _ _ _ _ _ us hl => match us, hl with | [_, _, _, _], _ => rfl
  obtain ⟨fd_tti, D_tti⟩ := cd.def_ 33 (d := dmt "TermTable" "__init__" "TermTable.__init__" sTti) rfl
  have F_tti : Fun K "__init__" "TermTable.__init__" sTti (He.fAd K ("TermTable", some "__init__")) fd_tti := fun_of D_tti
  have b_tti := F_tti.binds (ps := ["self"]) fun _ _ _ _ _ _ us hl => match us, hl with | [_], _ => rfl
  obtain ⟨fd_tte, D_tte⟩ := cd.def_ 34 (d := dmt "TermTable" "enter_terms" "TermTable.enter_terms" sTte) rfl
  have F_tte : Fun K "enter_terms" "TermTable.enter_terms" sTte (He.fAd K ("TermTable", some "enter_terms")) fd_tte := fun_of D_tte
  have b_tte := F_tte.binds (ps := ["self", "terms"]) fun _ _ _ _ _ _ us hl => match us, hl with | [_, _], _ => rfl
  obtain ⟨fd_ttu, D_ttu⟩ := cd.def_ 35 (d := dmt "TermTable" "used" "TermTable.used" sTtu) rfl
  have F_ttu : Fun K "used" "TermTable.used" sTtu (He.fAd K ("TermTable", some "used")) fd_ttu := fun_of D_ttu
  have b_ttu := F_ttu.binds (ps := ["self", "numbers"]) fun _ _ _ _ _ _ us hl => match us, hl with | [_, _], _ => rfl
  obtain ⟨fd_ni, D_ni⟩ := cd.def_ 36 (d := dmt "Net" "__init__" "Net.__init__" sNi [.adr (He.dflAt ("Net", some "__init__") 0)]) rfl
  have F_ni : FunD K "__init__" "Net.__init__" (defArgs sNi) (defBody sNi) (defScope sNi) [.ref (He.dflAt ("Net", some "__init__") 0 K)] [] (He.fAd K ("Net", some "__init__")) fd_ni := D_ni
  obtain ⟨ds_ni, v_ni, b_ni⟩ := F_ni.binds1 (ps := ["self", "inputs", "gates", "outs", "terms"]) 4 0 (List.cons_ne_nil _ _) rfl fun T kV doc pm an cdv ct us its h1 h2 => match us, its, h1, h2 with | [_, _, _, _], [_], _, _ => ⟨_, rfl, rfl⟩
  obtain ⟨fd_b0, D_b0⟩ := cd.def_ 37 (d := dmt "Book" "__init__" "Book.__init__" sB0 [.adr (He.dflAt ("Book", some "__init__") 0)]) rfl
  have F_b0 : FunD K "__init__" "Book.__init__" (defArgs sB0) (defBody sB0) (defScope sB0) [.ref (He.dflAt ("Book", some "__init__") 0 K)] [] (He.fAd K ("Book", some "__init__")) fd_b0 := D_b0
  obtain ⟨ds_b0, v_b0, b_b0⟩ := F_b0.binds1 (ps := ["self", "rows"]) 1 0 (List.cons_ne_nil _ _) rfl fun T kV doc pm an cdv ct us its h1 h2 => match us, its, h1, h2 with | [_], [_], _, _ => ⟨_, rfl, rfl⟩
  obtain ⟨fd_in, D_in⟩ := cd.def_ 38 (d := dmt "InvalidName" "__init__" "InvalidName.__init__" sEn) rfl
  have F_in : Fun K "__init__" "InvalidName.__init__" sEn (He.fAd K ("InvalidName", some "__init__")) fd_in := fun_of D_in
  have b_in := F_in.binds (ps := ["self", "value"]) fun _ _ _ _ _ _ us hl => match us, hl with | [_, _], _ => rfl
  have e := hfa.symm.trans (He.glo_ok X G (cd.fact 74 (f := .glo "law") rfl))
  cases e
  unfold exB at ex
  simp only [Bool.and_eq_true] at ex
  obtain ⟨x_gl, x_sm, x_emNet, x_emBook, x_insNet, x_insBook, x_exc⟩ := ex
  refine ⟨fd_law, fun s v => ?_, fun base _ _ => ?_⟩
  · obtain ⟨oc, od, kV, doc, pm, an, cdv, ct, osl, rfl, lk, hcd⟩ := F_law.ex
    exact .of_eq rfl
  · have S : Sm K := smB_ok x_sm
    have eT := emB_ok x_emBook
    have eN := emB_ok x_emNet
    have TV : TxtV mg := ⟨He.free_ok X G (cd.fact 0 (f := .free "isinstance") rfl), He.free_ok X G (cd.fact 1 (f := .free "int") rfl), He.free_ok X G (cd.fact 2 (f := .free "bool") rfl), He.free_ok X G (cd.fact 3 (f := .free "str") rfl), He.free_ok X G (cd.fact 4 (f := .free "list") rfl), He.free_ok X G (cd.fact 5 (f := .free "tuple") rfl), He.free_ok X G (cd.fact 6 (f := .free "len") rfl), He.free_ok X G (cd.fact 7 (f := .free "all") rfl), He.free_ok X G (cd.fact 8 (f := .free "enumerate") rfl), rel_str (He.str_ok X G (cd.fact 9 (f := .str "LETTERS" "abcdefghijklmnopqrstuvwxyz") rfl)), rel_str (He.str_ok X G (cd.fact 10 (f := .str "DIGITS" "0123456789") rfl)), rel_int (He.int_ok X G (cd.fact 11 (f := .int "LONGEST_NAME" 8) rfl)), rel_int (He.int_ok X G (cd.fact 12 (f := .int "MOST_ARGUMENTS" 3) rfl))⟩
    have TL : TxtL mg := ⟨He.free_ok X G (cd.fact 13 (f := .free "range") rfl), He.free_ok X G (cd.fact 6 (f := .free "len") rfl), He.free_ok X G (cd.fact 14 (f := .free "max") rfl), He.free_ok X G (cd.fact 15 (f := .free "min") rfl), He.free_ok X G (cd.fact 0 (f := .free "isinstance") rfl), He.free_ok X G (cd.fact 3 (f := .free "str") rfl), He.free_ok X G (cd.fact 1 (f := .free "int") rfl), He.free_ok X G (cd.fact 2 (f := .free "bool") rfl), He.free_ok X G (cd.fact 4 (f := .free "list") rfl), He.free_ok X G (cd.fact 5 (f := .free "tuple") rfl), He.free_ok X G (cd.fact 16 (f := .free "repr") rfl), He.free_ok X G (cd.fact 8 (f := .free "enumerate") rfl)⟩
    have TN : TxtN mg := ⟨He.free_ok X G (cd.fact 4 (f := .free "list") rfl), He.free_ok X G (cd.fact 6 (f := .free "len") rfl), He.free_ok X G (cd.fact 8 (f := .free "enumerate") rfl)⟩
    have cW : Cg l.prog w K mg base 1 "is_whole" (spWhole K) := .mk' F_whole (ok_whole F_whole TV) (He.glo_ok X G (cd.fact 17 (f := .glo "is_whole") rfl)) b_whole
    have gI := ok_integer (P := l.prog) (w := w) (base := base) F_integer cW
    have cI : Cg l.prog w K mg base 2 "is_integer" (spInteger K) := .mk' F_integer (gI) (He.glo_ok X G (cd.fact 18 (f := .glo "is_integer") rfl)) b_integer
    have gL := ok_list (P := l.prog) (w := w) (base := base) F_list TV
    have cL : Cg l.prog w K mg base 1 "is_list" (spList K) := .mk' F_list (gL) (He.glo_ok X G (cd.fact 19 (f := .glo "is_list") rfl)) b_list
    have gN := ok_name (P := l.prog) (w := w) (base := base) F_name TV
    have cN : Cg l.prog w K mg base 1 "is_name" (spName K) := .mk' F_name (gN) (He.glo_ok X G (cd.fact 20 (f := .glo "is_name") rfl)) b_name
    have cR : Cg l.prog w K mg base 3 "_is_term_row" (spTermRow K) := .mk' F_trow (ok_row F_trow TV cL cN cI) (He.glo_ok X G (cd.fact 21 (f := .glo "_is_term_row") rfl)) b_trow
    have gT := ok_terms (P := l.prog) (w := w) (base := base) F_terms TV cL cR
    have cT : Cg l.prog w K mg base 4 "is_terms" (spTerms K) := .mk' F_terms (gT) (He.glo_ok X G (cd.fact 22 (f := .glo "is_terms") rfl)) b_terms
    have kN : Cn l.prog w K mg base 1 "is_name" 0 ["value"] (fun vs zs => vs ++ zs) (spName K) := ⟨⟨_, _, _, _, gN, He.glo_ok X G (cd.fact 20 (f := .glo "is_name") rfl), F_name.kp, kb_of F_name (fun _ _ _ _ _ _ us ws l1 l2 => match us, ws, l1, l2 with | [], [_], _, _ => rfl) (g := fun us ws => us ++ ws) fun r1 r2 => r1.append r2⟩⟩
    have kT : Cn l.prog w K mg base 4 "is_terms" 0 ["value"] (fun vs zs => vs ++ zs) (spTerms K) := ⟨⟨_, _, _, _, gT, He.glo_ok X G (cd.fact 22 (f := .glo "is_terms") rfl), F_terms.kp, kb_of F_terms (fun _ _ _ _ _ _ us ws l1 l2 => match us, ws, l1, l2 with | [], [_], _, _ => rfl) (g := fun us ws => us ++ ws) fun r1 r2 => r1.append r2⟩⟩
    have kL : Cn l.prog w K mg base 1 "is_list" 0 ["value"] (fun vs zs => vs ++ zs) (spList K) := ⟨⟨_, _, _, _, gL, He.glo_ok X G (cd.fact 19 (f := .glo "is_list") rfl), F_list.kp, kb_of F_list (fun _ _ _ _ _ _ us ws l1 l2 => match us, ws, l1, l2 with | [], [_], _, _ => rfl) (g := fun us ws => us ++ ws) fun r1 r2 => r1.append r2⟩⟩
    have kI : Cn l.prog w K mg base 2 "is_integer" 0 ["high", "value", "low"] (fun vs zs => vs ++ rotI zs) (spInteger K) := ⟨⟨_, _, _, _, gI, He.glo_ok X G (cd.fact 18 (f := .glo "is_integer") rfl), F_integer.kp, kb_of F_integer (fun _ _ _ _ _ _ us ws l1 l2 => match us, ws, l1, l2 with | [], [_, _, _], _, _ => rfl) (g := fun us ws => us ++ rotI ws) fun r1 r2 => r1.append (vals_rotI r2)⟩⟩
    have c_je : Cg l.prog w K mg base 1 "joined_edges" (spE2L K) := .mk' F_je (ok_Je F_je TN) (He.glo_ok X G (cd.fact 23 (f := .glo "joined_edges") rfl)) b_je
    have c_as : Cg l.prog w K mg base 2 "all_starts" (spE2L K) := .mk' F_as (ok_As F_as c_je) (He.glo_ok X G (cd.fact 24 (f := .glo "all_starts") rfl)) b_as
    have c_ds : Cg l.prog w K mg base 1 "_direct_sources" (spE1D K) := .mk' F_ds (ok_Ds F_ds) (He.glo_ok X G (cd.fact 25 (f := .glo "_direct_sources") rfl)) b_ds
    have c_sp : Cg l.prog w K mg base 1 "_spread" (spEXD K) := .mk' F_sp (ok_Sp F_sp TN) (He.glo_ok X G (cd.fact 26 (f := .glo "_spread") rfl)) b_sp
    have c_wo : Cg l.prog w K mg base 2 "working_order" (spE1L K) := .mk' F_wo (ok_Wo F_wo TN c_ds) (He.glo_ok X G (cd.fact 27 (f := .glo "working_order") rfl)) b_wo
    have c_rg : Cg l.prog w K mg base 3 "ring_without_delay" (spE1L K) := .mk' F_rg (ok_Rg F_rg c_wo) (He.glo_ok X G (cd.fact 28 (f := .glo "ring_without_delay") rfl)) b_rg
    have c_ew : Cg l.prog w K mg base 2 "ends_of_ways" (spE2D K) := .mk' F_ew (ok_Ew F_ew c_sp) (He.glo_ok X G (cd.fact 29 (f := .glo "ends_of_ways") rfl)) b_ew
    have c_bw : Cg l.prog w K mg base 2 "beginnings_of_ways" (spE2D K) := .mk' F_bw (ok_Bw F_bw c_sp) (He.glo_ok X G (cd.fact 30 (f := .glo "beginnings_of_ways") rfl)) b_bw
    have c_ci : Cg l.prog w K mg base 1 "_check_inputs" (spEXN K) := .mk' F_ci (ok_Ci F_ci) (He.glo_ok X G (cd.fact 31 (f := .glo "_check_inputs") rfl)) b_ci
    have c_cg : Cg l.prog w K mg base 1 "_check_gates" (spEXN K) := .mk' F_cg (ok_Cgt F_cg) (He.glo_ok X G (cd.fact 32 (f := .glo "_check_gates") rfl)) b_cg
    have c_ct : Cg l.prog w K mg base 1 "check_terms" (spE1N K) := .mk' F_ct (ok_Ctm F_ct TN) (He.glo_ok X G (cd.fact 33 (f := .glo "check_terms") rfl)) b_ct
    have c_ce : Cg l.prog w K mg base 1 "_check_edges" (spE2X2N K) := .mk' F_ce (ok_Ced F_ce) (He.glo_ok X G (cd.fact 34 (f := .glo "_check_edges") rfl)) b_ce
    have c_cw : Cg l.prog w K mg base 4 "_check_ways" (spE3N K) := .mk' F_cw (ok_Cwy F_cw c_rg c_ew c_bw) (He.glo_ok X G (cd.fact 35 (f := .glo "_check_ways") rfl)) b_cw
    have c_ke : Cg l.prog w K mg base 1 "_kept_edges" (spEXL K) := .mk' F_ke (ok_Ke F_ke) (He.glo_ok X G (cd.fact 36 (f := .glo "_kept_edges") rfl)) b_ke
    have c_cp : Cg l.prog w K mg base 5 "check_parts" (spE4N K) := .mk' F_cp (ok_Cp F_cp cL c_ci c_cg c_ct c_ce c_cw TN) (He.glo_ok X G (cd.fact 37 (f := .glo "check_parts") rfl)) b_cp
    have tT : TxtT K (He.ga K "TermTable") := ⟨He.cls_ok (cd.fact 38 (f := .cls "TermTable") rfl), He.noat_ok (cd.fact 39 (f := .noat "TermTable" "_listed") rfl), He.noat_ok (cd.fact 40 (f := .noat "TermTable" "_places") rfl)⟩
    have mT : Cm l.prog w K mg base 1 "TermTable" (He.ga K "TermTable") [] (spTt (He.ga K "TermTable")) := ⟨⟨_, _, _, _, He.mkr_ok (cd.fact 41 (f := .mkr "TermTable") rfl), ok_Tti F_tti tT, He.glo_ok X G (cd.fact 42 (f := .glo "TermTable") rfl), b_tti, .nil⟩⟩
    have mE : Ct l.prog w K mg base 1 (He.ga K "TermTable") "enter_terms" [] (spTe K) := ⟨⟨_, _, _, _, tT.cl, He.meth_ok (cd.fact 43 (f := .meth "TermTable" "enter_terms") rfl), ok_Tte (C := 0) F_tte, b_tte, .nil⟩⟩
    have mU : Ct l.prog w K mg base 1 (He.ga K "TermTable") "used" [] (spTu K) := ⟨⟨_, _, _, _, tT.cl, He.meth_ok (cd.fact 44 (f := .meth "TermTable" "used") rfl), ok_Ttu (C := 0) F_ttu, b_ttu, .nil⟩⟩
    have tNt : TxtNt K (He.ga K "Net") := ⟨He.cls_ok (cd.fact 45 (f := .cls "Net") rfl), fun f hf => by
      simp only [List.mem_cons, List.not_mem_nil, or_false] at hf
      rcases hf with rfl | rfl | rfl | rfl | rfl | rfl
      · exact He.noat_ok (cd.fact 46 (f := .noat "Net" "_terms") rfl)
      · exact He.noat_ok (cd.fact 47 (f := .noat "Net" "_inputs") rfl)
      · exact He.noat_ok (cd.fact 48 (f := .noat "Net" "_names") rfl)
      · exact He.noat_ok (cd.fact 49 (f := .noat "Net" "_symbols") rfl)
      · exact He.noat_ok (cd.fact 50 (f := .noat "Net" "_edges") rfl)
      · exact He.noat_ok (cd.fact 51 (f := .noat "Net" "_outs") rfl)⟩
    have tBk : TxtBk K (He.ga K "Book") := ⟨He.cls_ok (cd.fact 52 (f := .cls "Book") rfl), fun f hf => by
      simp only [List.mem_cons, List.not_mem_nil, or_false] at hf
      rcases hf with rfl | rfl | rfl | rfl | rfl
      · exact He.noat_ok (cd.fact 53 (f := .noat "Book" "_rows") rfl)
      · exact He.noat_ok (cd.fact 54 (f := .noat "Book" "_numbers") rfl)
      · exact He.noat_ok (cd.fact 55 (f := .noat "Book" "_sizes") rfl)
      · exact He.noat_ok (cd.fact 56 (f := .noat "Book" "_depths") rfl)
      · exact He.noat_ok (cd.fact 57 (f := .noat "Book" "_lengths") rfl)⟩
    have mN : Cm l.prog w K mg base 6 "Net" (He.ga K "Net") [.ref (He.dflAt ("Net", some "__init__") 0 K)] (spNt K (He.ga K "Net")) := ⟨⟨_, _, _, _, He.mkr_ok (cd.fact 58 (f := .mkr "Net") rfl), ok_Ni F_ni tNt TN c_cp mT mE mU c_as c_ke, He.glo_ok X G (cd.fact 59 (f := .glo "Net") rfl), b_ni, v_ni⟩⟩
    have mB : Cm l.prog w K mg base 2 "Book" (He.ga K "Book") [.ref (He.dflAt ("Book", some "__init__") 0 K)] (spB0 K (He.ga K "Book")) := ⟨⟨_, _, _, _, He.mkr_ok (cd.fact 60 (f := .mkr "Book") rfl), ok_B0 F_b0 tBk cL, He.glo_ok X G (cd.fact 61 (f := .glo "Book") rfl), b_b0, v_b0⟩⟩
    have iB := insB_ok x_gl tBk.cl x_insBook
    have iN := insB_ok x_gl tNt.cl x_insNet
    have xE := excB_ok x_gl x_exc
    have mX : Cx1 l.prog w K mg base "InvalidName" (He.ga K "InvalidName") 1 [] (spI (He.ga K "InvalidName") ["value"]) (fun vs _ => vs) := ⟨⟨_, _, _, _, xE.ex, He.glo_ok X G (cd.fact 62 (f := .glo "InvalidName") rfl), xE.ini, xE.fn, ok_En F_in xE.ex (xE.no _ (by simp)), kb_of F_in (fun _ _ _ _ _ _ us ws l1 l2 => match us, ws, l1, l2 with | [_, _], [], _, _ => rfl) (g := fun us _ => us) fun r1 r2 => r1⟩⟩
    have CC : Cg l.prog w K mg base 1 "_law_cell" (Tp.spCellT K) := .mk' F_cell (ok_cell F_cell TL.len) (He.glo_ok X G (cd.fact 63 (f := .glo "_law_cell") rfl)) b_cell
    have CB : Cg l.prog w K mg base 1 "_law_box" spBox := .mk' F_box (ok_box F_box TL.max) (He.glo_ok X G (cd.fact 64 (f := .glo "_law_box") rfl)) b_box
    have CK : Cg l.prog w K mg base 1 "_law_take" spTake := .mk' F_take (ok_take F_take) (He.glo_ok X G (cd.fact 65 (f := .glo "_law_take") rfl)) b_take
    have CWd : Cg l.prog w K mg base 2 "_law_word" spWord := .mk' F_word (ok_Wd F_word TL CK) (He.glo_ok X G (cd.fact 66 (f := .glo "_law_word") rfl)) b_word
    have CNm : Cg l.prog w K mg base 1 "_law_is_named" (spNamed K) := .mk' F_named (ok_Nm F_named TL) (He.glo_ok X G (cd.fact 67 (f := .glo "_law_is_named") rfl)) b_named
    have CNr : Cg l.prog w K mg base 8 "_law_names_right" (spNr K) := .mk' F_nr (ok_Nr F_nr TL CWd CNm cN kN S mB iB eT mN iN eN mX xE.ex xE.kit) (He.glo_ok X G (cd.fact 68 (f := .glo "_law_names_right") rfl)) b_nr
    have CIr : Cg l.prog w K mg base 8 "_law_integers_right" (spIrt K) := .mk' F_ir (ok_Irt F_ir TL CK cI kI S mB iB eT) (He.glo_ok X G (cd.fact 69 (f := .glo "_law_integers_right") rfl)) b_ir
    have CRw : Cg l.prog w K mg base 2 "_law_rows" (spRows K) := .mk' F_rows (ok_Rw F_rows TL CK) (He.glo_ok X G (cd.fact 70 (f := .glo "_law_rows") rfl)) b_rows
    have CBt : Cg l.prog w K mg base 2 "_law_bent" (spBent K) := .mk' F_bent (ok_Bt F_bent TL CK) (He.glo_ok X G (cd.fact 71 (f := .glo "_law_bent") rfl)) b_bent
    have CAr : Cg l.prog w K mg base 2 "_law_are_rows" (spAre K) := .mk' F_are ((ok_Ar F_are TL CNm)) (He.glo_ok X G (cd.fact 72 (f := .glo "_law_are_rows") rfl)) b_are
    have CTr : Cg l.prog w K mg base 8 "_law_terms_right" (spTr K) := .mk' F_tr (ok_Tr F_tr TL S mB iB eT mN iN eN CRw CBt CAr cT kT cL kL) (He.glo_ok X G (cd.fact 73 (f := .glo "_law_terms_right") rfl)) b_tr
    exact ok_law F_law TL CC CB CNr CIr CTr
end T02
set_option Elab.async false
set_option linter.all false
set_option maxRecDepth 100000
set_option maxHeartbeats 0
namespace T02
open PySem PySem.Spec PyProof.Rows L2
abbrev R : PySem.W.OpenRow := PySem.W.OpenLaw.row PySem.Challenge.rw_toldpast_k02_names_integers_and_lists_of
def lo0 : List PySem.Str := ["_wall", "LETTERS", "DIGITS", "LONGEST_NAME", "MOST_DIGITS", "MOST_ARGUMENTS", "is_integer", "is_whole", "is_name", "is_list", "is_terms", "_is_term_row", "parse_integer", "NetError", "MissingError", "StateError", "InvalidPart", "InvalidName", "Duplicate", "InvalidRow", "InvalidEdge", "Ring", "Dry", "Idle", "InvalidBook", "InvalidTurn", "InvalidString", "UnknownSource", "UnknownGate", "UnknownEdge"]
def lo1 : List PySem.Str := ["UnknownTerm", "TooLong", "TermTable", "arguments_of", "moved_row", "LONGEST_TEXT", "Book", "_is_turn", "_has_row_form", "_kept_row", "_row_text", "read_book", "_read_leaf", "_tokens", "joined_edges", "all_starts", "working_order", "_direct_sources", "ring_without_delay", "ends_of_ways", "beginnings_of_ways", "_spread", "check_parts", "_check_inputs", "_take_name", "_check_gates", "check_terms", "_are_indices", "_check_edges", "_check_edge"]
def lo2 : List PySem.Str := ["_check_ways", "Net", "require_gate", "_kept_edges", "_given_edges", "_law_cell", "_law_box", "_law_take", "_law_word", "_law_is_named", "_law_names_right", "_law_integers_right", "_law_rows", "_law_bent", "_law_are_rows", "_law_terms_right"]
abbrev hk : PySem.W.Hook := Tp.hookR faL fnL exB
def ob (s : PySem.W.SharedT) : Tp.AlR := Tp.obsR faL fnL exB (HandSHeadRun.getT s)
theorem ob_eq (s : PySem.W.SharedT) : ob s = hk.obs s.abs := Tp.obsR_eq (HandSHeadRun.getT_eq s)
theorem run (w : World) : HandSHeadRun.RunEq R (PySem.W.view R.prog [84]) hk ob 20000 (T02.lo0 ++ (T02.lo1 ++ (T02.lo2))) w := by
  intro os
  kernel_rfl
end T02
open PySem PySem.W PySem.Calls PyProof.Rows
theorem PySem.Challenge.cw_toldpast_k02_names_integers_and_lists_of_holds : PySem.Challenge.rw_toldpast_k02_names_integers_and_lists_of.Holds := by
  w_on; o_law
  refine HandSHeadRun.head_any (r := OpenLaw.row PySem.Challenge.rw_toldpast_k02_names_integers_and_lists_of) (q := view (OpenLaw.row PySem.Challenge.rw_toldpast_k02_names_integers_and_lists_of).prog [84]) (H := T02.hk) (ob := T02.ob) (M := 20000) (loose := (T02.lo0 ++ (T02.lo1 ++ (T02.lo2)))) (d := HandSHeadRun.topDef (OpenLaw.row PySem.Challenge.rw_toldpast_k02_names_integers_and_lists_of).prog 84) (kwd := []) T02.ob_eq
    (by kernel_rfl) (fun s => by kernel_rfl) T02.run (by kernel_rfl) (by kernel_rfl) (by kernel_rfl) (by rfl) (by first | assumption | decide +kernel) (by decide +kernel) ⟨rfl, rfl, rfl, rfl, rfl, by decide +kernel⟩ ?hw ?hc
  case hw => w_witness2
  case hc =>
    refine Tp.walkGE (l := PySem.Challenge.rw_toldpast_k02_names_integers_and_lists_of) (n := 63) (k := 9) (x := "_law_script") rfl (by decide) (by kernel_rfl) ⟨rfl, by decide, by decide⟩ ?F
    intro w mg fa h Y G hmg0
    obtain ⟨K, KX, c⟩ := Y
    have hmg : mg ("law" : PySem.Str) = some (.ref fa) := by
      have e : (HandSHeadRun.topDef (OpenLaw.row PySem.Challenge.rw_toldpast_k02_names_integers_and_lists_of).prog 84).name = ("law" : PySem.Str) := by kernel_rfl
      rw [← e]
      exact hmg0
    obtain ⟨fd, hb, hF⟩ := T02.all2 (l := PySem.Challenge.rw_toldpast_k02_names_integers_and_lists_of) (w := w) KX G hmg c.1 c.2
    exact ⟨K, fd, T02.spLaw K, KX, hb, hF, fun H a ns hl _ hS => ⟨a, ns, rfl, hS, hl, fun _ => rfl⟩⟩
#print axioms PySem.Challenge.cw_toldpast_k02_names_integers_and_lists_of_holds
