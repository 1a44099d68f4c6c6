import PyProof.Rows.All
import Wide.All
import OpenK.AllK
import Wide.FinOn
import PyProof.EqAt
import PyProof.EqKinds
import PyProof.TupleCall
import PyProof.Rows.ReprR
import HandS.Base
import HandS.Call
import HandS.List
import HandS.Comp
import HandS.Ends
import HandS.Dict
import HandS.Iter
import HandS.Text
import HandS.Words
import HandS.WordsList
import HandS.Defaults
import PyProof.StrBlock2
import HandS.Wide
import HandS.Walk
import HandS.IsInst
import KE.IntTextLaws
import HandS.ForDict
import HandS.MakeKwOnly
import HandS.Codes
import PyProof.ReprLen
import PyProof.FitsInt
import PySem.Challenge.RW_toldpast_k03_integers_and_words_in_strin
set_option Elab.async false
set_option linter.all false
set_option maxRecDepth 100000
set_option maxHeartbeats 4000000
/-! what the laws of this set share: promises of defs that are called where no repr is under way, and repr itself -/
namespace Tp
open PySem PySem.Spec PyProof.Rows L2

/-- a def keeps its promise wherever no repr is under way -/
structure FnG (P : Program) (w : World) (K : PySem.W.Frag) (mg : Str → Option Value) (base : Heap) (CX : CXT) (k : Nat)
    (f : Addr) (fd : FuncData) (ps : List Str) (sp : Sp) : Prop where
  len : ∀ vs H Q E, sp vs H Q E → vs.length = ps.length
  run : ∀ (B : Around) (out : List Env) (s : Shared) (H : Hp) (args : Args) (us : List Value) (vs : List V) (Q : VK) (E : XK),
    Room k B → B.guards = some [] → Env0 P w K mg base B out s H → BindsTo s fd args (ps.zip us) → Vals vs us → sp vs H Q E →
    codeAny (model P w) B (.call (.ref f) args) (CR CX out P w H s Q E) s

section
variable {P : Program} {w : World} {K : PySem.W.Frag} {mg : Str → Option Value} {base : Heap} {CX : CXT} {j k : Nat}
variable {f : Addr} {fd : FuncData} {ps : List Str} {sp sp' : Sp}
theorem FnG.of (F : FnOk P w K mg base CX k f fd ps sp) : FnG P w K mg base CX k f fd ps sp :=
  ⟨F.len, fun B out s H args us vs Q E hr _ he => F.run B out s H args us vs Q E hr he⟩
theorem FnG.up (F : FnG P w K mg base CX j f fd ps sp) (h : j ≤ k) : FnG P w K mg base CX k f fd ps sp :=
  ⟨F.len, fun B out s H args us vs Q E hr => F.run B out s H args us vs Q E (hr.mono h)⟩
theorem deeper_guards {B : Around} {env : Env} {g : List Code} (h : B.guards = some g) : (B.deeper env).guards = some g := h

/-- a body's reading gives the promise -/
theorem fnG_of {nm qual : Str} {params : Arguments} {body : List Stmt} {sc : Scope} {dV kV doc pm cdv ct oc : Value} {an od : Option Addr}
    {osl : Array (Option Value)} {N : List Str} (lk : K.lookup f = some ⟨oc, od, .func (PySem.W.fnOf nm qual params body sc dV kV doc pm an cdv ct), osl⟩)
    (hcd : PySem.W.codeIn K cdv qual = true) (S : FnScope N ps sc) (len : ∀ vs H Q E, sp vs H Q E → vs.length = ps.length)
    (hbody : ∀ (B : Around) (out : List Env) (s : Shared) (H : Hp) (vs : List V) (Q : VK) (E : XK),
      Room k (B.deeper (envOfC qual sc s.heap.objs.size f cdv)) → (B.deeper (envOfC qual sc s.heap.objs.size f cdv)).guards = some [] → sp vs H Q E →
      ∃ t, PSs (cxOf CX P w K mg base N qual sc f cdv B out s H E) body t ∧ t { nx := fun _ H' => Q .non H', rt := Q } (start N vs) H) :
    FnG P w K mg base CX (k + 1) f (PySem.W.fnOf nm qual params body sc dV kV doc pm an cdv ct) ps sp := by
  refine ⟨len, fun B out s H args us vs Q E hr hg e0 hb rv hsp => ?_⟩
  obtain ⟨t, ht, hq⟩ := hbody B out s H vs Q E (hr.deeper _) (deeper_guards hg) hsp
  have hl := len _ _ _ _ hsp
  have KX : K.In s.heap := e0.mod.kin.keeps fun b o e => (e0.bs b o e).1
  have lim : s.heap.NoLimit := e0.mod.nolimit.keeps fun b o e => (e0.bs b o e).1
  have hkind : ∀ y ∈ ps.zip us, sc.names.lookup y.1 = some .local ∨
      (sc.names.lookup y.1 = some .cell ∧ ((cellsFrom (s.heap.objs.size + 1) sc.names []).lookup y.1).isSome = true) := by
    rintro ⟨n, v⟩ hy
    exact (S.par n (List.of_mem_zip hy).1).imp id fun q => ⟨q, PySem.W.cellsFrom_some _ _ _ (.inl q)⟩
  refine codeAny_call_function hr.depth (KX _ _ lk) rfl S.co S.gen rfl (PySem.W.codeRec_of KX hcd) (hb _ _ _ _ ?_)
  refine wpAny_newFunctionEnv_cells S.kind hkind fun env he s1 x => ?_
  subst he
  refine ⟨lim.keeps x.toInCall.keep, codeAny_func ?_⟩
  have I : Inv (cxOf CX P w K mg base N qual sc f cdv B out s H E) [] (start N vs) H s1 := inv_start S hr.hd e0 hl rv x
  refine wpAny_mono (ht.run [] s1 (start N vs) H _ I hq) (fun fl s' hs => ?_) fun e s' hs => hs
  cases fl with
  | ret u =>
    obtain ⟨v, τ, G, J, rw', q⟩ := hs
    exact ⟨v, G, J.os, J.bare, J.base, J.hok, rw', q⟩
  | next =>
    obtain ⟨τ, G, J, q⟩ := hs
    exact ⟨V.non, G, J.os, J.bare, J.base, J.hok, rfl, q⟩
  | brk => exact hs.elim fun _ z => z.elim fun _ z => z.2.elim
  | cont => exact hs.elim fun _ z => z.elim fun _ z => z.2.elim

/-- a def of the text, its body walked -/
theorem FunG.ok {x qual : Str} {st : Stmt} {N : List Str} (F : Fun K x qual st f fd) (S : FnScope N ps (defScope st)) (len : ∀ vs H Q E, sp vs H Q E → vs.length = ps.length)
    (hb : ∀ (cdv : Value) (B : Around) (out : List Env) (s : Shared) (H : Hp) (vs : List V) (Q : VK) (E : XK),
      Room k (B.deeper (envOfC qual (defScope st) s.heap.objs.size f cdv)) → (B.deeper (envOfC qual (defScope st) s.heap.objs.size f cdv)).guards = some [] → sp vs H Q E →
      ∃ t, PSs (cxOf CX0 P w K mg base N qual (defScope st) f cdv B out s H E).nox (defBody st) t ∧ t { nx := fun _ H' => Q .non H', rt := Q } (start N vs) H) :
    FnG P w K mg base CX0 (k + 1) f fd ps sp := by
  obtain ⟨oc, od, kV, doc, pm, an, cdv, ct, osl, rfl, lk, hcd⟩ := F.ex
  refine fnG_of lk hcd S len fun B out s H vs Q E hr hg hsp => ?_
  obtain ⟨t, h, q⟩ := hb cdv B out s H vs Q E hr hg hsp
  exact ⟨t, h.nox, q⟩
end

/-- what a caller knows of a def of the module: its promise, where it stands -/
structure Cg (P : Program) (w : World) (K : PySem.W.Frag) (mg : Str → Option Value) (base : Heap) (k : Nat) (x : Str) (sp : Sp) : Prop where
  ex : ∃ (f : Addr) (fd : FuncData) (ps : List Str), FnG P w K mg base CX0 k f fd ps sp ∧ mg x = some (.ref f) ∧ PySem.W.keepIn K (.ref f) = true ∧ Binds K fd ps []
theorem Cg.mk' {P : Program} {w : World} {K : PySem.W.Frag} {mg : Str → Option Value} {base : Heap} {k : Nat} {x qual : Str} {sp : Sp} {f : Addr} {fd : FuncData} {ps : List Str} {st : Stmt}
    (F : Fun K x qual st f fd) (G : FnG P w K mg base CX0 k f fd ps sp) (hm : mg x = some (.ref f)) (hb : Binds K fd ps []) : Cg P w K mg base k x sp := ⟨⟨f, fd, ps, G, hm, F.kp, hb⟩⟩
def tCl (sp : Sp) (t : TA) : TE := fun σ H Q => t σ H fun vs H1 => sp vs H1 Q E0
section
variable {X : Cx} {j k : Nat} {x : Str} {p pos : Pos} {e : Expr} {es : List Expr} {t : TA} {sp : Sp}
theorem pe_g (c : Cg X.prog X.w X.K X.mg X.base j x sp) (hr : Room k X.A) (hG : X.A.guards = some []) (hk : j ≤ k) (hg : Gl X x) (ha : PA X (e :: es) t)
    (hdb : (x == ("__debug__" : Str)) = false := by decide) (he : starEach (e :: es) X.env = (false, eval e X.env) :: starEach es X.env := by rfl)
    (hpl : (backTo pos (starEach es X.env)).any (·.1) = false := by rfl) : PE X (.Call (.Name x p) (e :: es) [] pos) (tCl sp t) := by
  obtain ⟨f, fd, ps, F, hm, hkp, hb⟩ := c.ex
  refine ⟨fun pins s σ H Q I h => wpAny_Call_Name_kw (ld_glob I hg hm ?_ hdb)⟩
  refine PySem.W.callWith_K (h₀ := X.base) I.ok.mod.kin hkp (thn (ha.run pos pins s σ H _ I h) fun us s1 hh => ?_) he hpl
  obtain ⟨vs, H1, I1, r, q⟩ := hh
  refine ⟨I1.kIn, ?_⟩
  have hl : (us ++ []).length = ps.length := by
    rw [List.append_nil, ← r.length]
    exact F.len _ _ _ _ q
  have hbt := hb s1 us I1.kIn hl
  rw [List.append_nil] at hbt
  refine wpAny_call (codeAny_mono (F.run X.A X.stack s1 H1 ⟨us, []⟩ us vs Q E0 (hr.mono hk) hG I1.env0 hbt r q) fun r' s' hq => ?_)
  cases r' with
  | error e' => exact (show False from hq).elim
  | ok fl =>
    cases fl with
    | ret u => exact I1.after hq
    | next => exact (show False from hq).elim
    | brk => exact (show False from hq).elim
    | cont => exact (show False from hq).elim
end

/-! ### repr of plain data -/
mutual
theorem Dp.plain {K : PySem.W.Frag} {H : Hp} : ∀ (d : PyData) (v : V), Dp K H v d → d.hasDict = false
  | .none, _, _ => by simp only [PyData.hasDict]
  | .bool _, _, _ => by simp only [PyData.hasDict]
  | .int _, _, _ => by simp only [PyData.hasDict]
  | .str _, _, _ => by simp only [PyData.hasDict]
  | .list ds, _, h => by
    cases h with
    | lst _ ha => simpa only [PyData.hasDict] using Dp.plainAll ds _ ha
  | .tuple ds, _, h => by
    cases h with
    | tup _ ha => simpa only [PyData.hasDict] using Dp.plainAll ds _ ha
  | .dict _, _, h => by cases h
theorem Dp.plainAll {K : PySem.W.Frag} {H : Hp} : ∀ (ds : List PyData) (vs : List V), DpAll K H vs ds → PyData.hasDictAll ds = false
  | [], _, _ => by simp only [PyData.hasDictAll]
  | d :: ds, _, h => by
    cases h with
    | cons h1 h2 =>
      simp only [PyData.hasDictAll, Bool.or_eq_false_iff]
      exact ⟨Dp.plain d _ h1, Dp.plainAll ds _ h2⟩
end
def rRepr (K : PySem.W.Frag) : List V → Hp → VK → Prop := fun xs H Q => ∃ (a : Addr) (d : PyData), xs = [.ref a] ∧ Dp K H (.ref a) d ∧ d.showable = true ∧ d.depth ≤ 60 ∧ d.shown.length ≤ sizeLine ∧ Q (.str d.shown) H
theorem call_repr {X : Cx} {k : Nat} (hr : Room k X.A) (hG : X.A.guards = some []) : CallR X (.builtin "repr") (rRepr X.K) := by
  intro pins s σ H xs us Q I r h
  obtain ⟨a, d, rfl, hd, hs, hdep, hz, q⟩ := h
  obtain ⟨u, rfl, r1⟩ := vals1 r
  cases (show u = Value.ref a from r1)
  obtain ⟨as, hrd⟩ := Dp.reads I d _ _ hd rfl
  have hu := hr.units
  exact repr_of_reads' hrd hs (PyData.noDict_hsm (Dp.plain d _ hd)) hG (by omega) (fun _ _ e => e) (fun h' u tk hk => ⟨.str d.shown, H, I.kept hk, ⟨u, rfl⟩, q⟩) hz

/-! ### the law's call -/
theorem law_callG {P : Program} {w : World} {K : PySem.W.Frag} {mg mb : Str → Option Value} {k : Nat} {fa a : Addr} {fd : FuncData} {x : Str} {sp : Sp} {s1 : Shared} {vs : List Value} {ns : List Int}
    (KX : K.In s1.heap) (hns : s1.heap.Ns mainGlobals mg) (hb : s1.heap.Ns builtinsNs mb) (hbb : ∀ x : Str, x ≠ "__name__" → mb x = bootBuiltins x) (hlim : s1.heap.NoLimit) (hg : s1.gens = #[])
    (ha : s1.heap.get? a = some { cls := .type "list", data := .seq vs.toArray }) (hi : IntsAre vs ns) (hl : ns.length ≤ sizeLine) (hr : Room k callerA)
    (F : ∀ base : Heap, K.In base → base.Ns mainGlobals mg → FnG P w K mg base CX0 k fa fd [x] sp) (hbind : ∀ (s : Shared) (u : Value), BindsTo s fd ⟨[u], []⟩ [(x, u)])
    (hsp : ∀ H : Hp, Only H → SqL K H a (ns.map V.int) → sp [.ref a] H (fun v _ => v = .bl true) E0) :
    codeAny (model P w) callerA (.call (.ref fa) ⟨[.ref a], []⟩) (fun r s' => r = .ok (.ret (.bool true)) ∧ OldK s1.heap s'.heap ∧ s'.os = s1.os ∧ AllBare s'.gens) s1 := by
  -- the layer's own end, asked of a promise that holds of this one call alone, by a def that keeps none elsewhere
  have rv := vals_ints hi
  have lv := hi.length
  have core : ∀ H : Hp, Only H → SqL K H a (ns.map V.int) → HOk P w H s1.heap → (∀ b, H b ≠ none → b = a) → (H a ≠ none → K.lookup a = none) →
      codeAny (model P w) callerA (.call (.ref fa) ⟨[.ref a], []⟩) (fun r s' => r = .ok (.ret (.bool true)) ∧ OldK s1.heap s'.heap ∧ s'.os = s1.os ∧ AllBare s'.gens) s1 := by
    intro H hO hS hok hA hK
    have noA : ∀ {b : Addr} {o : Obj} {es : Array DictEntry} {ep : Nat}, s1.heap.get? b = some o → o.data = .dict es ep → H b = none := by
      intro b o es ep e d
      cases q : H b with
      | none => rfl
      | some u =>
        have eb := hA b (by rw [q]; exact Option.some_ne_none _)
        rw [eb, ha] at e
        cases e
        cases (show Data.seq vs.toArray _ = Data.dict es ep from d)
    have nsK : ∀ {b : Addr} {m : Str → Option Value}, s1.heap.Ns b m → (hidT s1.heap H).Ns b m := by
      intro b m hm
      obtain ⟨o, es, ep, e, d, r⟩ := hm
      exact ⟨o, es, ep, hidT_get e (noA e d), d, r⟩
    have hKb : K.In (hidT s1.heap H) := by
      intro b o e
      refine hidT_get (KX b o e) ?_
      cases q : H b with
      | none => rfl
      | some u =>
        have eb := hA b (by rw [q]; exact Option.some_ne_none _)
        rw [eb] at e q
        rw [hK (by rw [q]; exact Option.some_ne_none _)] at e
        cases e
    obtain ⟨mc, l1, l2⟩ := hlim
    have hM : Mod K mg (hidT s1.heap H) := ⟨hKb, nsK hns, ⟨mb, nsK hb, hbb⟩, ⟨mc, nsK l1, l2⟩⟩
    have e0 : Env0 P w K mg (hidT s1.heap H) callerA [] s1 H :=
      ⟨rfl, hM, fun b o e => of_hidT e, Nat.le_of_eq (hidT_size _ _), trivial, fun b hb => (List.not_mem_nil hb).elim, hok, .of_eq hg⟩
    refine codeAny_mono ((F _ hKb (nsK hns)).run callerA [] s1 H ⟨[.ref a], []⟩ [.ref a] [.ref a] _ _ hr rfl e0 (hbind s1 (.ref a)) (.cons rfl .nil) (hsp H hO hS)) ?_
    intro r s' h
    cases r with
    | error e => exact (show False from h).elim
    | ok fl =>
      cases fl with
      | next => exact (show False from h).elim
      | brk => exact (show False from h).elim
      | cont => exact (show False from h).elim
      | ret u =>
        obtain ⟨v, H', os, bare, un, hok', r', q⟩ := h
        cases (show v = .bl true from q)
        cases (show u = Value.bool true from r')
        refine ⟨rfl, OldK.of_keep fun b o e => ?_, os, bare⟩
        cases q : H b with
        | none => exact un.keep b o e q (fun z => (List.not_mem_nil z).elim) (fun z => (List.not_mem_nil z).elim)
        | some u =>
          rcases hO b with z | ⟨ob, xs, z⟩
          · rw [q] at z
            cases z
          · have e1 := (hok b _ z).1
            have e2 := (hok' b _ (un.frzs b ob _ z)).1
            rw [e] at e1
            cases e1
            exact e2
  cases hk : K.lookup a with
  | some o =>
    have e := KX a o hk
    rw [ha] at e
    cases e
    refine core (fun _ => none) (fun _ => .inl rfl) (.inr ⟨_, vs.toArray, _, hk, rfl, rfl, rfl, ?_, ?_⟩) (fun b u z => by cases (show (none : Option HO) = some u from z)) (fun b z => (z rfl).elim) fun z => (z rfl).elim
    · rw [List.size_toArray, lv]
      exact hl
    · simpa using rv
  | none =>
    refine core (fun b => if b = a then some (.frz { cls := .type "list", data := .seq vs.toArray } (.lst (ns.map V.int))) else none) (fun b => ?_) (.inl (.inr ⟨_, if_pos rfl⟩)) (fun b u z => ?_) (fun b z => ?_) fun _ => hk
    · by_cases hb : b = a
      · exact .inr ⟨_, _, if_pos hb⟩
      · exact .inl (if_neg hb)
    · by_cases hb : b = a
      · cases (if_pos hb).symm.trans z
        cases hb
        refine ⟨ha, ?_, vs, _, rv, ha⟩
        rw [List.length_map]
        exact hl
      · cases (if_neg hb).symm.trans z
    · by_cases hb : b = a
      · exact hb
      · exact (z (if_neg hb)).elim

/-- the goal that the head leaves, from the law's promise -/
theorem walkG {l : PySem.W.OpenLaw} {n k : Nat} {q : Program} {loose : List Str} {XP : (Str → Option Value) → Heap → Prop} {YP : World → Heap → Prop} {d : DefRec} {K : Params → PySem.W.Frag} {sp : PySem.W.Frag → Sp} {x : Str}
    (hn : l.most = some n) (hn2 : n ≤ sizeLine) (hdf : d.params.defaults = []) (hr : Room k callerA) (hY : ∀ (w : World) (h : Heap), YP w h → (K w.params).In h)
    (F : ∀ (w : World) (mg : Str → Option Value) (fa : Addr) (h : Heap), (K w.params).In h → h.Ns mainGlobals mg → mg d.name = some (.ref fa) →
      ∃ fd : FuncData, (∀ (s : Shared) (u : Value), BindsTo s fd ⟨[u], []⟩ [(x, u)]) ∧
        ∀ base : Heap, (K w.params).In base → base.Ns mainGlobals mg → FnG l.prog w (K w.params) mg base CX0 k fa fd [x] (sp (K w.params)))
    (hsp : ∀ (K : PySem.W.Frag) (H : Hp) (a : Addr) (ns : List Int), ns.length ≤ n → Only H → SqL K H a (ns.map V.int) → sp K [.ref a] H (fun v _ => v = .bl true) E0) :
    PySem.W.WalkO q loose XP YP l.row.toRowW d [] (fun f vs => PySem.call f vs) := by
  refine Att.attach_call hn hdf fun w s0 s1 mg mb fa o pm cd doc a vs ns G Y ho hd hcd hmg hobj hints hlen hg => ?_
  have KX := hY w _ Y
  obtain ⟨fd, hb, hF⟩ := F w mg fa _ KX G.T.g hmg
  exact law_callG KX G.T.g G.T.b G.T.builtins G.T.nolimit hg hobj hints (Nat.le_trans hlen hn2) hr hF hb fun H hO hS => hsp (K w.params) H a ns hlen hO hS
end Tp
set_option Elab.async false
set_option linter.all false
set_option maxRecDepth 100000
set_option maxHeartbeats 4000000
/-! the draws: a box of three ints, of which each draw takes some -/
namespace Tp
open PySem PySem.Spec PyProof.Rows L2
/-- a box at p, from which at most n draws were mixed -/
def BoxAt (H : Hp) (p : Addr) (n : Nat) : Prop := ∃ a b c : Int, H p = some (.lst [.int a, .int b, .int c]) ∧ 0 ≤ a ∧ 0 ≤ b ∧ b < 2147483629 ∧ 0 ≤ c ∧ c ≤ (n : Int)
theorem BoxAt.mono {H : Hp} {p : Addr} {n m : Nat} (h : BoxAt H p n) (hl : n ≤ m) : BoxAt H p m := by
  obtain ⟨a, b, c, h1, h2, h3, h4, h5, h6⟩ := h
  exact ⟨a, b, c, h1, h2, h3, h4, h5, by omega⟩
/-- all that was tracked is as it was, but at p -/
def Keep (p : Addr) (H H' : Hp) : Prop := ∀ b o, b ≠ p → H b = some o → H' b = some o
theorem Keep.refl (p : Addr) (H : Hp) : Keep p H H := fun _ _ _ e => e
theorem Keep.trans {p : Addr} {H H1 H2 : Hp} (a : Keep p H H1) (b : Keep p H1 H2) : Keep p H H2 := fun c o hc e => b c o hc (a c o hc e)
theorem Keep.of {p : Addr} {H H' : Hp} (a : Same H H') : Keep p H H' := fun c o _ e => a c o e
theorem Keep.put {p : Addr} {H : Hp} {o : HO} : Keep p H (upd H p o) := fun c u hc e => by rw [upd_ne hc]; exact e
theorem Same.put {H : Hp} {q : Addr} {o : HO} (h : H q = none) : Same H (upd H q o) := fun c u e => by rw [upd_ne (ne_of_none e h)]; exact e
theorem Keep.new {p q : Addr} {H : Hp} {o : HO} (h : H q = none) : Keep p H (upd H q o) := .of (Same.put h)
theorem BoxAt.keep {H H' : Hp} {p : Addr} {n : Nat} (h : BoxAt H p n) (k : Same H H') : BoxAt H' p n := by
  obtain ⟨a, b, c, h1, h2⟩ := h
  exact ⟨a, b, c, k _ _ h1, h2⟩
theorem BoxAt.ne {H : Hp} {p q : Addr} {n : Nat} (h : BoxAt H p n) (hq : H q = none) : p ≠ q := by
  obtain ⟨a, b, c, h1, _⟩ := h
  exact ne_of_none h1 hq
theorem BoxAt.new {H : Hp} {p q : Addr} {n : Nat} {o : HO} (h : BoxAt H p n) (hq : H q = none) : BoxAt (upd H q o) p n := h.keep (Same.put hq)
theorem BoxAt.put {H : Hp} {p q : Addr} {n : Nat} {o : HO} (h : BoxAt H p n) (hq : q ≠ p) : BoxAt (upd H q o) p n := by
  obtain ⟨a, b, c, h1, h2⟩ := h
  exact ⟨a, b, c, (upd_ne hq.symm).trans h1, h2⟩
/-- all that was tracked is as it was, but at p and at d -/
def Keep2 (p d : Addr) (H H' : Hp) : Prop := ∀ b o, b ≠ p → b ≠ d → H b = some o → H' b = some o
theorem Keep2.of {p d : Addr} {H H' : Hp} (k : Keep p H H') : Keep2 p d H H' := fun b o h1 _ e => k b o h1 e
theorem Keep2.put {p d : Addr} {H G : Hp} {o : HO} (k : Keep2 p d H G) : Keep2 p d H (upd G d o) := fun b u h1 h2 e => (upd_ne h2).trans (k b u h1 h2 e)
theorem Keep2.next {p d : Addr} {H G G' : Hp} (k : Keep2 p d H G) (j : Keep p G G') : Keep2 p d H G' := fun b u h1 h2 e => j b u h1 (k b u h1 h2 e)
theorem Keep2.fin {p d : Addr} {H G : Hp} (k : Keep2 p d H G) (hd : H d = none) : Keep p H G := fun b u h1 e => k b u h1 (ne_of_none e hd) e
theorem keep_of {p : Addr} {H H' : Hp} (h : ∀ b, b ≠ p → H' b = H b) : Keep p H H' := fun b o hb e => by rw [h b hb]; exact e
/-- a list that is read stands on, but at p -/
theorem Keep.seq {K : PySem.W.Frag} {p a : Addr} {H H' : Hp} {xs : List V} (k : Keep p H H') (ha : a ≠ p) (h : SqL K H a xs) : SqL K H' a xs := by
  rcases h with (h | ⟨o, h⟩) | h
  · exact .inl (.inl (k _ _ ha h))
  · exact .inl (.inr ⟨o, k _ _ ha h⟩)
  · exact .inr h

/-- _law_cell: some int of the script, or some other -/
def spCellT (K : PySem.W.Frag) : Sp := fun vs H Q _ => ∃ (a : Addr) (ns : List Int) (k : Nat), vs = [.ref a, .int k] ∧ SqL K H a (ns.map V.int) ∧ ns.length ≤ 63 ∧ k ≤ 1000 ∧ ∀ z : Int, Q (.int z) H
/-- _law_box -/
def spBox : Sp := fun vs H Q _ => ∃ z : Int, vs = [.int z] ∧ ∀ p H', H p = none → BoxAt H' p 0 → Keep p H H' → Q (.ref p) H'
/-- _law_take -/
def spTake : Sp := fun vs H Q _ => ∃ (p : Addr) (m : Int) (n : Nat), vs = [.ref p, .int m] ∧ BoxAt H p n ∧ 0 < m ∧ m.natAbs.log2 < 1000 ∧ n ≤ 1000000 ∧
  ∀ (d : Int) (H' : Hp), 0 ≤ d → d < m → BoxAt H' p (n + 1) → (∀ b, b ≠ p → H' b = H b) → Q (.int d) H'

end Tp
set_option Elab.async false
set_option linter.all false
set_option maxRecDepth 100000
set_option maxHeartbeats 4000000
namespace T03
open PySem PySem.Spec PyProof.Rows L2 Tp
def top (i : Nat) : Stmt := PySem.Challenge.pw_toldpast_k03_integers_and_words_in_strin.main.body.getD i (.Pass ⟨0, 0, 0, 0⟩)
abbrev sCell : Stmt := top 39
abbrev sBox : Stmt := top 40
abbrev sTake : Stmt := top 41
section
variable {P : Program} {w : World} {K : PySem.W.Frag} {mg : Str → Option Value} {base : Heap} {f : Addr} {fd : FuncData}
theorem scCell : FnScope ["_law_script", "_law_k"] ["_law_script", "_law_k"] (defScope sCell) := ⟨rfl, rfl, rfl, by decide +kernel, rfl, by decide +kernel, by decide +kernel⟩
theorem ok_cell (F : Fun K "_law_cell" "_law_cell" sCell f fd) (mL : mg "len" = none) : FnG P w K mg base CX0 1 f fd ["_law_script", "_law_k"] (spCellT K) := by
  refine FunG.ok F scCell (fun vs H Q E h => ?_) (fun cdv B out s H vs Q E hr hG h => ?_)
  · obtain ⟨a, ns, k, rfl, _⟩ := h
    rfl
  · obtain ⟨a, ns, k, rfl, hs, hl, hk, q⟩ := h
    refine ⟨_, pss_cons (ps_if (pt_cmpR op_lt (pv 1) (pe_callB call_len (by rfl) mL PySem.boot_len (pa_cons (pv 0) pa_nil)) (nomark _)) (pss_one (ps_ret (pe_ix ix_list (pv 0) (pv 1) fun _ _ => rfl))) pss_nil)
      (pss_one (ps_ret (pe_op op_add (pe_op op_mul pe_int (pv 1)) pe_int))), ?_⟩
    refine ⟨_, rfl, _, rfl, _, _, rfl, .inl ⟨_, hs, rfl⟩, _, _, rfl, rfl, _, rfl, ?_⟩
    refine ite2 (fun hlt => ?_) (fun hge => ?_)
    · have hlt' := of_decide_eq_true hlt
      rw [List.length_map] at hlt'
      have hkl : k < ns.length := by omega
      refine ⟨_, rfl, _, rfl, a, _, _, .int (ns[k]), rfl, rfl, hs, atI_nat ?_, q _⟩
      rw [List.getElem?_map, List.getElem?_eq_getElem hkl]
      rfl
    · refine ⟨_, rfl, _, _, rfl, rfl, .inl ⟨by decide, by decide⟩, _, _, rfl, rfl, q _⟩
theorem scBox : FnScope ["_law_cell_here"] ["_law_cell_here"] (defScope sBox) := ⟨rfl, rfl, rfl, by decide +kernel, rfl, by decide +kernel, by decide +kernel⟩
theorem ok_box (F : Fun K "_law_box" "_law_box" sBox f fd) (mM : mg "max" = none) : FnG P w K mg base CX0 1 f fd ["_law_cell_here"] spBox := by
  refine FunG.ok F scBox (fun vs H Q E h => ?_) (fun cdv B out s H vs Q E hr hG h => ?_)
  · obtain ⟨z, rfl, _⟩ := h
    rfl
  · obtain ⟨z, rfl, q⟩ := h
    refine ⟨_, pss_one (ps_ret (pe_lst (pa_cons (pe_callB (call_max2 rfl) (by rfl) mM (by decide +kernel) (pa_cons pe_int (pa_cons (pe_op op_sub (pv 0) (pe_op op_pow pe_int pe_int)) pa_nil)))
      (pa_cons (pe_op op_mod (pv 0) pe_int) (pa_cons pe_int pa_nil))))), ?_⟩
    refine ⟨_, rfl, _, _, rfl, rfl, ⟨by decide, by decide, by decide⟩, _, _, rfl, rfl, _, _, rfl, _, rfl, _, _, rfl, rfl, (by decide : (0:Int) < 2147483629), ?_⟩
    refine ⟨(by show 3 ≤ sizeLine; decide), fun p hp => ?_⟩
    refine q p _ hp ⟨_, _, _, upd_same, ?_, Int.emod_nonneg _ (by decide), Int.emod_lt_of_pos _ (by decide), by decide, by decide⟩ Keep.put
    split <;> omega
theorem scTake : FnScope ["_law_box_here", "_law_many", "_law_digit", "_law_mixed"] ["_law_box_here", "_law_many"] (defScope sTake) := ⟨rfl, rfl, rfl, by decide +kernel, rfl, by decide +kernel, by decide +kernel⟩
theorem pow_small {x : Int} {b : Nat} (h0 : 0 ≤ x) (h : x < 2 ^ 63) : x.natAbs < 2 ^ 64 := by omega
theorem ok_take (F : Fun K "_law_take" "_law_take" sTake f fd) : FnG P w K mg base CX0 1 f fd ["_law_box_here", "_law_many"] spTake := by
  refine FunG.ok F scTake (fun vs H Q E h => ?_) (fun cdv B out s H vs Q E hr hG h => ?_)
  · obtain ⟨p, m, n, rfl, _⟩ := h
    rfl
  · obtain ⟨p, m, n, rfl, ⟨a, b, c, hp, ha, hb, hb2, hc, hcn⟩, hm, hm2, hn, q⟩ := h
    refine ⟨_, pss_cons (ps_if (pt_cmpR op_gt (pe_ix ix_list (pv 0) pe_int fun _ _ => rfl) pe_int (nomark _))
        (pss_cons (ps_set (i := 2) scTake.nd rfl (.inl rfl) (pe_op op_mod (pe_ix ix_list (pv 0) pe_int fun _ _ => rfl) (pv 1)))
          (pss_cons (ps_asg (pe_op op_fdivW (pe_ix ix_list (pv 0) pe_int fun _ _ => rfl) (pv 1)) (pg_sub (pv 0) pe_int set_list))
            (pss_one (ps_ret (pv 2))))) pss_nil)
      (pss_cons (ps_asg (pe_op op_add (pe_ix ix_list (pv 0) pe_int fun _ _ => rfl) pe_int) (pg_sub (pv 0) pe_int set_list))
        (pss_cons (ps_set (i := 3) scTake.nd rfl (.inl rfl) (pe_op op_mod (pe_op op_pow (pe_op op_add (pe_op op_add (pe_ix ix_list (pv 0) pe_int fun _ _ => rfl) (pe_op op_mul pe_int (pe_ix ix_list (pv 0) pe_int fun _ _ => rfl))) pe_int) pe_int) pe_int))
          (pss_cons (ps_set (i := 3) scTake.nd rfl (.inl rfl) (pe_op op_mod (pe_op op_pow (pe_op op_add (pv 3) (pe_op op_mul pe_int (pe_ix ix_list (pv 0) pe_int fun _ _ => rfl))) pe_int) pe_int))
            (pss_one (ps_ret (pe_op op_mod (pe_op op_fdiv (pv 3) pe_int) (pv 1))))))), ?_⟩
    have sq : SqL K H p [V.int a, V.int b, V.int c] := SqL.of hp
    refine ⟨_, rfl, p, _, _, .int a, rfl, rfl, sq, rfl, _, _, rfl, rfl, _, rfl, ?_⟩
    refine ite2 (fun h1 => ?_) (fun h1 => ?_)
    · have h1' := of_decide_eq_true h1
      refine ⟨_, rfl, p, _, _, .int a, rfl, rfl, sq, rfl, _, rfl, _, _, rfl, rfl, hm, ?_⟩
      refine ⟨_, rfl, p, _, _, .int a, rfl, rfl, sq, rfl, _, rfl, _, _, rfl, rfl, ⟨hm, by omega⟩, _, rfl, p, _, _, 0, rfl, rfl, hp, rfl, ?_⟩
      refine ⟨_, rfl, q _ _ (Int.emod_nonneg _ (by omega)) (Int.emod_lt_of_pos _ hm) ⟨_, _, _, upd_same, ?_, hb, hb2, hc, by omega⟩ fun x hx => upd_ne hx⟩
      exact Int.ediv_nonneg (by omega) (by omega)
    · have sq2 : SqL K (upd H p (.lst [.int a, .int b, .int (c + 1)])) p [V.int a, V.int b, V.int (c + 1)] := SqL.of upd_same
      refine ⟨_, rfl, p, _, _, .int c, rfl, rfl, sq, rfl, _, _, rfl, rfl, _, rfl, p, _, _, 2, rfl, rfl, hp, rfl, ?_⟩
      refine ⟨_, rfl, p, _, _, .int b, rfl, rfl, sq2, rfl, _, rfl, p, _, _, .int (c + 1), rfl, rfl, sq2, rfl, _, _, rfl, rfl, .inl ⟨by decide, by decide⟩, _, _, rfl, rfl, _, _, rfl, rfl, _, _, rfl, rfl, ⟨by decide, by decide, by omega⟩, _, _, rfl, rfl, (by decide : (0 : Int) < 2147483647), ?_⟩
      have hx1 := Int.emod_nonneg ((b + 15486299 * (c + 1) + 1259) ^ (5 : Int).toNat) (by decide : (2147483647 : Int) ≠ 0)
      have hx2 := Int.emod_lt_of_pos ((b + 15486299 * (c + 1) + 1259) ^ (5 : Int).toNat) (by decide : (0 : Int) < 2147483647)
      generalize (b + 15486299 * (c + 1) + 1259) ^ (5 : Int).toNat % 2147483647 = y at hx1 hx2 ⊢
      refine ⟨_, rfl, _, rfl, p, _, _, .int (c + 1), rfl, rfl, sq2, rfl, _, _, rfl, rfl, .inl ⟨by decide, by decide⟩, _, _, rfl, rfl, _, _, rfl, rfl, ⟨by decide, by decide, by omega⟩, _, _, rfl, rfl, (by decide : (0 : Int) < 2147483587), ?_⟩
      generalize (y + 104711 * (c + 1)) ^ (3 : Int).toNat % 2147483587 = z
      refine ⟨_, rfl, _, _, rfl, rfl, ⟨by decide, by decide⟩, _, rfl, _, _, rfl, rfl, hm, ?_⟩
      exact q _ _ (Int.emod_nonneg _ (by omega)) (Int.emod_lt_of_pos _ hm) ⟨_, _, _, upd_same, ha, hb, hb2, by omega, by omega⟩ fun x hx => upd_ne hx
end
end T03
set_option Elab.async false
set_option linter.all false
set_option maxRecDepth 100000
set_option maxHeartbeats 4000000
namespace T03
open PySem PySem.Spec PyProof.Rows L2 Tp
/-! ### decimal texts -/
def isDig (c : Nat) : Bool := decide (48 ≤ c ∧ c ≤ 57)
/-- what a text is worth: the int, within bounds, or None -/
def whole (l : List Nat) (lo hi : Int) : V :=
  if 1 ≤ l.length ∧ l.length ≤ 30 ∧ l.all isDig = true ∧ ¬ (l[0]? = some 48 ∧ 1 < l.length) then
    (if lo ≤ ((NumText.digitsVal l : Nat) : Int) ∧ ((NumText.digitsVal l : Nat) : Int) ≤ hi then .int ((NumText.digitsVal l : Nat) : Int) else .non) else .non
theorem dig_mem (c : Nat) : decide (c ∈ (("0123456789" : Str)).cps.toList) = isDig c := by
  have e : (("0123456789" : Str)).cps.toList = [48, 49, 50, 51, 52, 53, 54, 55, 56, 57] := by decide +kernel
  rw [e]
  unfold isDig
  refine decide_eq_decide.mpr ⟨fun h => ?_, fun h => ?_⟩
  · simp only [List.mem_cons, List.not_mem_nil, or_false] at h
    omega
  · simp only [List.mem_cons, List.not_mem_nil, or_false]
    omega
theorem all_dig {l : List Nat} (h : l.all isDig = true) : NumText.AllDigits l := fun c hc => by
  have q := List.all_eq_true.mp h c hc
  exact of_decide_eq_true q
/-- a value that is no text -/
def NoStr (K : PySem.W.Frag) (H : Hp) (x : V) : Prop := ∃ t, TyX K H x t ∧ PySem.W.kitOne K t (.type "str") = some false
structure Txt3 (K : PySem.W.Frag) (mg : Str → Option Value) : Prop where
  isi : mg "isinstance" = none
  str : mg "str" = none
  len : mg "len" = none
  all : mg "all" = none
  int : mg "int" = none
  mdig : ∃ u, mg "MOST_DIGITS" = some u ∧ RelV (.int 30) u
  digs : ∃ u, mg "DIGITS" = some u ∧ RelV (.str "0123456789") u
def spPi (K : PySem.W.Frag) : Sp := fun vs H Q _ => ∃ (x : V) (lo hi : Int), vs = [x, .int lo, .int hi] ∧
  ((∃ z : Str, x = .str z ∧ z.length ≤ 5000 ∧ ∀ H', Same H H' → Q (whole (TL.tl z) lo hi) H') ∨ (NoStr K H x ∧ Q .non H))
section
variable {P : Program} {w : World} {K : PySem.W.Frag} {mg : Str → Option Value} {base : Heap} {f : Addr} {fd : FuncData}
theorem if_true_of {c : Bool} {A B : Prop} (hc : c = true) (h : A) : if c = true then A else B := by
  rw [hc]
  exact iteT h
theorem if_false_of {c : Bool} {A B : Prop} (hc : c = false) (h : B) : if c = true then A else B := by
  rw [hc]
  exact iteF h
abbrev sPi : Stmt := top 11
theorem scPi : FnScope ["text", "low", "high", "number", "character"] ["text", "low", "high"] (defScope sPi) := ⟨rfl, rfl, rfl, by decide +kernel, rfl, by decide +kernel, by decide +kernel⟩
theorem gl_c {X : Cx} {x : Str} {v : V} {pos : Pos} (hg : Gl X x) (h : ∃ u, X.mg x = some u ∧ RelV v u) (hd : (x == ("__debug__" : Str)) = false := by decide) : PE X (.Name x pos) (tC v) := by
  obtain ⟨u, h1, h2⟩ := h
  exact pe_glob hg h1 h2 hd
theorem ok_pi {kws : List (Str × V)} (F : FunD K "parse_integer" "parse_integer" (defArgs sPi) (defBody sPi) (defScope sPi) [] kws f fd) (T : Txt3 K mg) : FnOk P w K mg base CX0 1 f fd ["text", "low", "high"] (spPi K) := by
  refine F.ok scPi (fun vs H Q E h => ?_) (fun cdv A outer s H vs Q E hr h => ?_)
  · obtain ⟨x, lo, hi, rfl, _⟩ := h
    rfl
  · obtain ⟨x, lo, hi, rfl, h⟩ := h
    refine ⟨_, pss_cons (ps_if (PW.pt (pw_or (pt_not (pt_val (pe_callB call_isi (by rfl) T.isi (by decide +kernel) (pa_cons (pv 0) (pa_cons (pe_bltn (by rfl) T.str (by decide +kernel) (show RelV (.ty "str") _ from rfl)) pa_nil)))))
        (pw_or1 (pt_not (pt_chain op_le op_le pe_int (pe_callB call_len (by rfl) T.len PySem.boot_len (pa_cons (pv 0) pa_nil)) (gl_c (by rfl) T.mdig)))))) (pss_one (ps_ret pe_non)) pss_nil)
      (pss_cons (ps_if (pt_not (pt_val (pe_callB (cr_all rfl) (by rfl) T.all (by decide +kernel) (pa_cons
          (pe_lc (own := [("character", 4)]) (g := gName 4) (tt := tYes) rfl scPi.nd (pi_str (pv 0)) (blkOk_by (N := ["text", "low", "high", "number", "character"]) (sc := defScope sPi) (by decide +kernel))
            (fun _ _ _ _ _ => pg_name (i := 4) scPi.nd rfl (Or.inl rfl)) (fun _ _ _ _ _ => pts_nil) (fun _ _ _ _ _ => pe_cmpR op_in_sign (pv 4) (gl_c (by rfl) T.digs) rfl)) pa_nil)))) (pss_one (ps_ret pe_non)) pss_nil)
      (pss_cons (ps_if (PW.pt (pw_and (pt_cmpR op_eq (pe_ix ix_str (pv 0) pe_int fun _ _ => rfl) pe_str (nomark _)) (pw_and1 (pt_cmpR op_gt (pe_callB call_len (by rfl) T.len PySem.boot_len (pa_cons (pv 0) pa_nil)) pe_int (nomark _)))))
          (pss_one (ps_ret pe_non)) pss_nil)
      (pss_cons (ps_set (i := 3) scPi.nd rfl (.inl rfl) (pe_callTy call_int_str (by rfl) T.int (by decide +kernel) (pa_cons (pv 0) pa_nil)))
      (pss_one (ps_ret (pe_ifExp (pt_chain op_le op_le (pv 1) (pv 3) (pv 2)) (pv 3) pe_non)))))), ?_⟩
    refine ⟨_, rfl, ?_⟩
    rcases h with ⟨z, rfl, hz, q⟩ | ⟨⟨t, ty, ko⟩, q⟩
    · refine ⟨_, _, _, _, true, rfl, .ty "str", .base (.str z), kit_ty (by decide +kernel), _, rfl, ?_⟩
      refine iteF ?_
      refine ⟨_, rfl, _, _, rfl, ⟨by rw [PySem.sizeLine_eq]; omega, rfl⟩, _, _, rfl, rfl, _, rfl, ?_⟩
      have hzl : z.length = (TL.tl z).length := TL.len_tl z
      have bad : ∀ H', Same H H' → ¬ (1 ≤ (TL.tl z).length ∧ (TL.tl z).length ≤ 30 ∧ (TL.tl z).all isDig = true ∧ ¬ ((TL.tl z)[0]? = some 48 ∧ 1 < (TL.tl z).length)) → Q .non H' := fun H' k hn => by
        have q' := q H' k
        unfold whole at q'
        rw [if_neg hn] at q'
        exact q'
      refine ite2 (fun h1 => ?_) (fun h1 => ?_)
      · have h1' := of_decide_eq_true h1
        refine ⟨_, _, rfl, rfl, _, rfl, ?_⟩
        by_cases h2 : ((z.length : Nat) : Int) ≤ 30
        · refine if_false_of (by rw [decide_eq_true h2]; rfl) ?_
          refine ⟨_, rfl, _, rfl, fun D hD => ?_⟩
          refine lc_it walk_str (fun i G => Same H G ∧ G D = some (.lst ((((TL.tl z).take i).map isDig).map V.bl))) ⟨Same.put hD, upd_same⟩ (fun _ _ _ _ => trivial) ?_ ?_
          · rintro i x G G' hi ⟨sm, hG⟩ ⟨rfl, c, hc, rfl⟩
            have hi' : i < (TL.tl z).length := by rw [← hzl]; exact hi
            have hc' : (TL.tl z)[i]? = some c := by rw [← hc]; simp
            refine ⟨rfl, _, rfl, _, _, rfl, rfl, _, hG, ?_, ?_⟩
            · rw [List.length_map, List.length_map, List.length_take, PySem.sizeLine_eq]
              omega
            · refine ⟨fun b o e => ?_, ?_⟩
              · rw [upd_ne (ne_of_none e hD)]
                exact sm b o e
              · rw [upd_same, dig_mem, List.take_add_one, hc']
                simp
          · rintro G ⟨sm, hG⟩
            have ez : (TL.tl z).take z.cps.size = TL.tl z := List.take_of_length_le (by rw [← hzl]; exact Nat.le_refl _)
            rw [ez] at hG
            refine ⟨D, _, rfl, SqL.of hG, _, rfl, ?_⟩
            rw [List.all_map]
            by_cases h3 : (TL.tl z).all isDig = true
            · refine if_false_of (by simp only [Function.comp_def, id]; rw [h3]; rfl) ?_
              have hpos : 0 < (TL.tl z).length := by omega
              have h0 : (TL.tl z)[0]? = some ((TL.tl z)[0]) := List.getElem?_eq_getElem hpos
              refine ⟨_, rfl, _, _, _, rfl, rfl, by rw [PySem.sizeLine_eq]; omega, atI_nat (j := 0) h0, rfl, _, rfl, ?_⟩
              have tail : ¬ ((TL.tl z)[0]? = some 48 ∧ 1 < (TL.tl z).length) → tSeq (tAsg (tCB (fun xs H Q => ∃ a n, xs = [V.str a] ∧ intText? a = some n ∧ a.length ≤ 640 ∧ Q (V.int n) H) (tCons (tVar 0) tNil)) (gName 3))
                  (tRet (tIf (tTest (tChain (rI0 fun i j => V.bl (decide (i ≤ j))) (rI0 fun i j => V.bl (decide (i ≤ j))) (tVar 1) (tVar 3) (tVar 2))) (tVar 3) (tC V.non)))
                  { nx := fun x H' => Q V.non H', rt := Q } (L2.start ["text", "low", "high", "number", "character"] [V.str z, V.int lo, V.int hi]) G := fun hn => by
                have q' := q G sm
                unfold whole at q'
                rw [if_pos (show 1 ≤ (TL.tl z).length ∧ (TL.tl z).length ≤ 30 ∧ (TL.tl z).all isDig = true ∧ ¬ ((TL.tl z)[0]? = some 48 ∧ 1 < (TL.tl z).length) from ⟨by omega, by omega, h3, hn⟩)] at q'
                refine ⟨_, rfl, z, _, rfl, PySem.intText_digits (all_dig h3) (List.ne_nil_of_length_pos hpos) (by omega), by omega, ?_⟩
                refine ⟨_, rfl, _, rfl, _, _, rfl, rfl, _, rfl, ?_⟩
                refine ite2 (fun hl => ?_) (fun hl => ?_)
                · refine ⟨_, rfl, _, _, rfl, rfl, _, rfl, ?_⟩
                  refine ite2 (fun hh => ?_) (fun hh => ?_)
                  · rw [if_pos ⟨of_decide_eq_true hl, of_decide_eq_true hh⟩] at q'
                    exact ⟨_, rfl, q'⟩
                  · rw [if_neg fun e => hh (decide_eq_true e.2)] at q'
                    exact q'
                · rw [if_neg fun e => hl (decide_eq_true e.1)] at q'
                  exact ⟨_, rfl, q'⟩
              refine ite2 (fun h4 => ?_) (fun h4 => ?_)
              · have h4' : (TL.tl z)[0] = 48 := by
                  have e := V.str.inj (of_decide_eq_true h4)
                  have e2 : TL.tl (⟨#[(TL.tl z)[0]]⟩ : Str) = TL.tl ("0" : Str) := congrArg TL.tl e
                  have e3 : TL.tl ("0" : Str) = [48] := by decide +kernel
                  rw [e3] at e2
                  exact List.head_eq_of_cons_eq e2
                refine ⟨_, rfl, _, _, rfl, ⟨by rw [PySem.sizeLine_eq]; omega, rfl⟩, _, _, rfl, rfl, _, rfl, ?_⟩
                refine ite2 (fun h5 => ?_) (fun h5 => ?_)
                · refine bad G sm fun e => e.2.2.2 ⟨by rw [h0, h4'], ?_⟩
                  have := of_decide_eq_true h5
                  omega
                · refine tail fun e => h5 (decide_eq_true ?_)
                  omega
              · refine tail fun e => h4 (decide_eq_true ?_)
                rw [h0] at e
                rw [Option.some.inj e.1]
                exact congrArg V.str (TL.ext_tl (by decide +kernel))
            · refine if_true_of (by simp only [Function.comp_def, id]; rw [Bool.eq_false_iff.mpr h3]; rfl) ?_
              exact bad G sm (by simp [h3])
        · refine if_true_of (by rw [decide_eq_false h2]; rfl) ?_
          exact bad H (Same.refl H) (by omega)
      · refine ⟨_, rfl, ?_⟩
        exact bad H (Same.refl H) (by have h1' : ¬ (1 : Int) ≤ ((z.length : Nat) : Int) := fun e => h1 (decide_eq_true e); omega)
    · refine ⟨_, _, _, _, false, rfl, .ty "str", ty, ko, _, rfl, ?_⟩
      exact iteT (iteT q)

/-! ### split_words -/
/-- a text of such words -/
def swOk (z m : Str) : Bool := !decide (10 ∈ z.cps.toList) && !inV (.str ("" : Str)) ((Txt.split z m).map V.str)
def spSw (K : PySem.W.Frag) : Sp := fun vs H Q _ => ∃ (x : V) (m : Str), vs = [x, .str m] ∧
  ((∃ z : Str, x = .str z ∧ z.length ≤ 5000 ∧ m.length = 1 ∧ (swOk z m = false → Q .non H) ∧ (swOk z m = false → ∀ H', Same H H' → Q .non H') ∧
    (swOk z m = true → ∀ p H', H p = none → H' p = some (.lst ((Txt.split z m).map V.str)) → Same H H' → Q (.ref p) H')) ∨ (NoStr K H x ∧ Q .non H))
abbrev sSw : Stmt := top 12
theorem scSw : FnScope ["text", "separator", "words"] ["text", "separator"] (defScope sSw) := ⟨rfl, rfl, rfl, by decide +kernel, rfl, by decide +kernel, by decide +kernel⟩
theorem ok_sw {kws : List (Str × V)} (F : FunD K "split_words" "split_words" (defArgs sSw) (defBody sSw) (defScope sSw) [] kws f fd) (T : Txt3 K mg) : FnOk P w K mg base CX0 1 f fd ["text", "separator"] (spSw K) := by
  refine F.ok scSw (fun vs H Q E h => ?_) (fun cdv A outer s H vs Q E hr h => ?_)
  · obtain ⟨x, m, rfl, _⟩ := h
    rfl
  · obtain ⟨x, m, rfl, h⟩ := h
    refine ⟨_, pss_cons (ps_if (PW.pt (pw_or (pt_not (pt_val (pe_callB call_isi (by rfl) T.isi (by decide +kernel) (pa_cons (pv 0) (pa_cons (pe_bltn (by rfl) T.str (by decide +kernel) (show RelV (.ty "str") _ from rfl)) pa_nil)))))
        (pw_or1 (pt_cmpR op_in_sign pe_str (pv 0) rfl)))) (pss_one (ps_ret pe_non)) pss_nil)
      (pss_cons (ps_set (i := 2) scSw.nd rfl (.inl rfl) (pe_split (pv 0) (pv 1)))
      (pss_one (ps_ret (pe_ifExp (pt_cmpR op_in_seq pe_str (pv 2) rfl) pe_non (pv 2))))), ?_⟩
    refine ⟨_, rfl, ?_⟩
    rcases h with ⟨z, rfl, hz, hm, q0, q1, q2⟩ | ⟨⟨t, ty, ko⟩, q⟩
    · refine ⟨_, _, _, _, true, rfl, .ty "str", .base (.str z), kit_ty (by decide +kernel), _, rfl, ?_⟩
      refine iteF ⟨_, rfl, 10, z, by decide +kernel, rfl, _, rfl, ?_⟩
      refine ite2 (fun h1 => ?_) (fun h1 => ?_)
      · refine q0 ?_
        unfold swOk
        rw [h1]
        rfl
      · have h1' : decide (10 ∈ z.cps.toList) = false := Bool.eq_false_iff.mpr h1
        refine ⟨_, rfl, ⟨_, rfl⟩, _, rfl, z, m, rfl, rfl, by rw [hm]; rfl, by rw [PySem.sizeLine_eq]; omega, fun p hp => ?_⟩
        refine ⟨_, rfl, p, _, rfl, .inl (SqL.of upd_same), rfl, ?_, _, rfl, ?_⟩
        · rw [List.all_map]
          exact List.all_eq_true.mpr fun _ _ => rfl
        · refine ite2 (fun h2 => ?_) (fun h2 => ?_)
          · refine q1 ?_ _ (Same.put hp)
            unfold swOk
            rw [show inV (.str ("" : Str)) ((Txt.split z m).map V.str) = true from h2, Bool.not_true, Bool.and_false]
          · refine ⟨_, rfl, q2 ?_ p _ hp upd_same (Same.put hp)⟩
            unfold swOk
            rw [show inV (.str ("" : Str)) ((Txt.split z m).map V.str) = false from Bool.eq_false_iff.mpr h2, h1']
            rfl
    · refine ⟨_, _, _, _, false, rfl, .ty "str", ty, ko, _, rfl, ?_⟩
      exact iteT (iteT q)

/-! ### is_list, Book() -/
def spIsl (K : PySem.W.Frag) : Sp := fun vs H Q _ => ∃ (x : V) (t : Value) (b : Bool), vs = [x] ∧ TyX K H x t ∧ PySem.W.kitAny K t [.type "list", .type "tuple"] = some b ∧ ∀ H', Same H H' → Q (.bl b) H'
structure TxtL (K : PySem.W.Frag) (mg : Str → Option Value) : Prop where
  isi : mg "isinstance" = none
  list : mg "list" = none
  tuple : mg "tuple" = none
theorem TyX.mono {H H' : Hp} {x : V} {t : Value} (k : Same H H') (h : TyX K H x t) : TyX K H' x t := by
  cases h with
  | base b =>
    cases b with
    | non => exact .base .non
    | bl y => exact .base (.bl y)
    | int y => exact .base (.int y)
    | str y => exact .base (.str y)
    | flt y => exact .base (.flt y)
    | lst e => exact .base (.lst (k _ _ e))
    | frz e => exact .base (.frz (k _ _ e))
    | tup e => exact .base (.tup (k _ _ e))
    | dK e => exact .base (.dK (k _ _ e))
    | dT e => exact .base (.dT (k _ _ e))
    | ins e cl ha hn htk hm => exact .base (.ins (k _ _ e) cl ha hn htk hm)
  | byt b => exact .byt b
  | set e => exact .set (k _ _ e)
  | kList e c => exact .kList e c
  | kTuple e c => exact .kTuple e c
  | kDict e c => exact .kDict e c
  | fTuple e => exact .fTuple (k _ _ e)
  | fDict e => exact .fDict (k _ _ e)
abbrev sIsl : Stmt := top 10
theorem scIsl : FnScope ["value"] ["value"] (defScope sIsl) := ⟨rfl, rfl, rfl, by decide +kernel, rfl, by decide +kernel, by decide +kernel⟩
theorem ok_isl (F : Fun K "is_list" "is_list" sIsl f fd) (T : TxtL K mg) : FnOk P w K mg base CX0 1 f fd ["value"] (spIsl K) := by
  refine F.ok scIsl (fun vs H Q E h => ?_) (fun cdv A outer s H vs Q E hr h => ?_)
  · obtain ⟨x, t, b, rfl, _⟩ := h
    rfl
  · obtain ⟨x, t, b, rfl, ty, ko, q⟩ := h
    refine ⟨_, pss_one (ps_ret (pe_callB call_isiT (by rfl) T.isi (by decide +kernel) (pa_cons (pv 0) (pa_cons (pe_tup (pa_cons (pe_bltn (by rfl) T.list (by decide +kernel) (show RelV (.ty "list") _ from rfl))
      (pa_cons (pe_bltn (by rfl) T.tuple (by decide +kernel) (show RelV (.ty "tuple") _ from rfl)) pa_nil))) pa_nil)))), ?_⟩
    refine ⟨_, rfl, (by show 2 ≤ sizeLine; decide), fun p hp => ?_⟩
    exact ⟨x, p, _, t, _, b, rfl, upd_same, .cons (.ty "list") (.cons (.ty "tuple") .nil), TyX.mono (Same.put hp) ty, ko, q _ (Same.put hp)⟩
end
end T03
set_option Elab.async false
set_option linter.all false
set_option maxRecDepth 100000
set_option maxHeartbeats 4000000
namespace T03
open PySem PySem.Spec PyProof.Rows L2 Tp
structure TxtB (K : PySem.W.Frag) (mg : Str → Option Value) (C : Addr) : Prop where
  cl : Cls K C
  n1 : NoAttr K C "_rows"
  n2 : NoAttr K C "_numbers"
  n3 : NoAttr K C "_sizes"
  n4 : NoAttr K C "_depths"
  n5 : NoAttr K C "_lengths"
/-- Book.__init__ of no rows -/
def spBi (K : PySem.W.Frag) (C : Addr) : Sp := fun vs H Q _ => ∃ (p dx : Addr) (t : Addr), vs = [.ref p, .ref t] ∧ H p = some (.ins C dx []) ∧ (∃ (o : Obj) (n : Nat), K.lookup t = some o ∧ o.cls = .type "tuple" ∧ o.data = .seq #[] n) ∧
  ∀ H' fs, H' p = some (.ins C dx fs) → Keep p H H' → Q .non H'
abbrev sBi : Stmt := inClass (top 30) 0
section
variable {P : Program} {w : World} {K : PySem.W.Frag} {mg : Str → Option Value} {base : Heap} {f : Addr} {fd : FuncData}
theorem scBi : FnScope ["self", "rows", "item"] ["self", "rows"] (defScope sBi) := ⟨rfl, rfl, rfl, by decide +kernel, rfl, by decide +kernel, by decide +kernel⟩
theorem SqTmono {a : Addr} {H H' : Hp} {xs : List V} (k : Same H H') (h : SqT K H a xs) : SqT K H' a xs := by
  rcases h with (h | ⟨o, h⟩) | h
  · exact .inl (.inl (k _ _ h))
  · exact .inl (.inr ⟨o, k _ _ h⟩)
  · exact .inr h
theorem ok_bi {C : Addr} {dvs : List V} {fL : Addr} {fdL : FuncData} (F : FunD K "__init__" "Book.__init__" (defArgs sBi) (defBody sBi) (defScope sBi) dvs [] f fd) (T : TxtB K mg C)
    (L : FnOk P w K mg base CX0 1 fL fdL ["value"] (spIsl K)) (gL : mg "is_list" = some (.ref fL)) (kL : PySem.W.keepIn K (.ref fL) = true) (bL : Binds K fdL ["value"] []) :
    FnOk P w K mg base CX0 2 f fd ["self", "rows"] (spBi K C) := by
  refine F.ok scBi (fun vs H Q E h => ?_) (fun cdv A outer s H vs Q E hr h => ?_)
  · obtain ⟨p, dx, t, rfl, _⟩ := h
    rfl
  · obtain ⟨p, dx, t, rfl, hp, ⟨ot, nt, kt, ct, dt⟩, q⟩ := h
    have hr1 : Room 1 _ := hr
    have z0 : ([] : List (Str × V)).length = 0 := rfl
    refine ⟨_, PSs.nox (pss_cons (ps_fld (pv 0) (pe_lst pa_nil) rfl) (pss_cons (ps_fld (pv 0) pe_dnewK rfl) (pss_cons (ps_fld (pv 0) (pe_lst pa_nil) rfl) (pss_cons (ps_fld (pv 0) (pe_lst pa_nil) rfl) (pss_cons (ps_fld (pv 0) (pe_lst pa_nil) rfl)
      (pss_cons (ps_if (pt_not (pt_val (pe_call L hr1 (by rfl) gL kL bL .nil pass0 (pa_cons (pv 1) pa_nil)))) (pss_one ps_never) pss_nil)
      (pss_one (ps_for PassesOwn.never rfl (pi_tup (pv 1)) (pg_name (i := 2) scBi.nd rfl (Or.inl rfl)) pss_never)))))))), ?_⟩
    refine ⟨(by show 0 ≤ sizeLine; decide), fun l1 e1 => ?_⟩
    refine ⟨_, rfl, p, C, dx, _, rfl, (by rw [upd_ne (ne_of_none hp e1)]; exact hp), T.cl, T.n1, (by show 0 < 1000; decide), ?_⟩
    have hp1 : (upd (upd H l1 (.lst [])) p (.ins C dx (putF "_rows" (.ref l1) []))) p = some (.ins C dx (putF "_rows" (.ref l1) [])) := upd_same
    have k1 : Keep p H (upd (upd H l1 (.lst [])) p (.ins C dx (putF "_rows" (.ref l1) []))) := ((Keep.new e1).trans Keep.put)
    have z1 := L2.length_putF "_rows" (V.ref l1) []
    generalize upd (upd H l1 (.lst [])) p (.ins C dx (putF "_rows" (.ref l1) [])) = H1 at hp1 k1 ⊢
    generalize putF "_rows" (V.ref l1) [] = f1 at hp1 z1
    intro l2 e2
    refine ⟨_, rfl, p, C, dx, _, rfl, (by rw [upd_ne (ne_of_none hp1 e2)]; exact hp1), T.cl, T.n2, (by omega), ?_⟩
    have hp2 : (upd (upd H1 l2 (.dK [])) p (.ins C dx (putF "_numbers" (.ref l2) f1))) p = some (.ins C dx (putF "_numbers" (.ref l2) f1)) := upd_same
    have k2 : Keep p H (upd (upd H1 l2 (.dK [])) p (.ins C dx (putF "_numbers" (.ref l2) f1))) := (k1.trans ((Keep.new e2).trans Keep.put))
    have z2 := L2.length_putF "_numbers" (V.ref l2) f1
    generalize upd (upd H1 l2 (.dK [])) p (.ins C dx (putF "_numbers" (.ref l2) f1)) = H2 at hp2 k2 ⊢
    generalize putF "_numbers" (V.ref l2) f1 = f2 at hp2 z2
    refine ⟨(by show 0 ≤ sizeLine; decide), fun l3 e3 => ?_⟩
    refine ⟨_, rfl, p, C, dx, _, rfl, (by rw [upd_ne (ne_of_none hp2 e3)]; exact hp2), T.cl, T.n3, (by omega), ?_⟩
    have hp3 : (upd (upd H2 l3 (.lst [])) p (.ins C dx (putF "_sizes" (.ref l3) f2))) p = some (.ins C dx (putF "_sizes" (.ref l3) f2)) := upd_same
    have k3 : Keep p H (upd (upd H2 l3 (.lst [])) p (.ins C dx (putF "_sizes" (.ref l3) f2))) := (k2.trans ((Keep.new e3).trans Keep.put))
    have z3 := L2.length_putF "_sizes" (V.ref l3) f2
    generalize upd (upd H2 l3 (.lst [])) p (.ins C dx (putF "_sizes" (.ref l3) f2)) = H3 at hp3 k3 ⊢
    generalize putF "_sizes" (V.ref l3) f2 = f3 at hp3 z3
    refine ⟨(by show 0 ≤ sizeLine; decide), fun l4 e4 => ?_⟩
    refine ⟨_, rfl, p, C, dx, _, rfl, (by rw [upd_ne (ne_of_none hp3 e4)]; exact hp3), T.cl, T.n4, (by omega), ?_⟩
    have hp4 : (upd (upd H3 l4 (.lst [])) p (.ins C dx (putF "_depths" (.ref l4) f3))) p = some (.ins C dx (putF "_depths" (.ref l4) f3)) := upd_same
    have k4 : Keep p H (upd (upd H3 l4 (.lst [])) p (.ins C dx (putF "_depths" (.ref l4) f3))) := (k3.trans ((Keep.new e4).trans Keep.put))
    have z4 := L2.length_putF "_depths" (V.ref l4) f3
    generalize upd (upd H3 l4 (.lst [])) p (.ins C dx (putF "_depths" (.ref l4) f3)) = H4 at hp4 k4 ⊢
    generalize putF "_depths" (V.ref l4) f3 = f4 at hp4 z4
    refine ⟨(by show 0 ≤ sizeLine; decide), fun l5 e5 => ?_⟩
    refine ⟨_, rfl, p, C, dx, _, rfl, (by rw [upd_ne (ne_of_none hp4 e5)]; exact hp4), T.cl, T.n5, (by omega), ?_⟩
    have hp5 : (upd (upd H4 l5 (.lst [])) p (.ins C dx (putF "_lengths" (.ref l5) f4))) p = some (.ins C dx (putF "_lengths" (.ref l5) f4)) := upd_same
    have k5 : Keep p H (upd (upd H4 l5 (.lst [])) p (.ins C dx (putF "_lengths" (.ref l5) f4))) := (k4.trans ((Keep.new e5).trans Keep.put))
    have z5 := L2.length_putF "_lengths" (V.ref l5) f4
    generalize upd (upd H4 l5 (.lst [])) p (.ins C dx (putF "_lengths" (.ref l5) f4)) = H5 at hp5 k5 ⊢
    generalize putF "_lengths" (V.ref l5) f4 = f5 at hp5 z5
    have st : ∀ G : Hp, SqT K G t [] := fun G => .inr ⟨ot, #[], nt, kt, ct, dt, Nat.zero_le _, .nil⟩
    refine ⟨_, rfl, _, _, true, rfl, .kTuple kt ct, (kitAny_cons (b := false) (kit_ty (by decide +kernel)) (fun _ => kitAny_cons (b := true) (kit_ty (by decide +kernel)) (fun z => by cases z) fun _ => rfl) fun z => by cases z), fun H6 k6 => ⟨_, rfl, ?_⟩⟩
    refine iteF ?_
    refine ⟨_, rfl, t, rfl, ⟨[], st _⟩, for_tup (xs := []) (fun _ _ G => G = H6) rfl (fun _ _ G _ _ => st G) (fun i x σ G hx _ => by cases hx) fun σ G e => ?_⟩
    subst e
    exact q _ _ (k6 _ _ hp5) (k5.trans (.of k6))
end
end T03
set_option Elab.async false
set_option linter.all false
set_option maxRecDepth 100000
set_option maxHeartbeats 4000000
namespace T03
open PySem PySem.Spec PyProof.Rows L2 Tp
section
variable {P : Program} {w : World} {K : PySem.W.Frag} {mg : Str → Option Value} {base : Heap} {f : Addr} {fd : FuncData}
abbrev kwPi : List (Str × V) := [("low", .int 0), ("high", .int 999999)]
abbrev FPi (K : PySem.W.Frag) (f : Addr) (fd : FuncData) : Prop := FunD K "parse_integer" "parse_integer" (defArgs sPi) (defBody sPi) (defScope sPi) [] kwPi f fd
theorem bPi0 (F : FPi K f fd) : ∃ ds, Vals [V.int 0, V.int 999999] ds ∧ Binds K fd ["text", "low", "high"] ds :=
  F.binds0 1 (by simp) rfl fun D doc pm an cdv ct us ks hl hk => match us, ks, hl, hk with
    | [u], [a, b], _, _ => ⟨_, _, _, _, _, _, rfl, rfl, _, _, _, _, _, _, rfl, rfl, rfl⟩
theorem bPiL (F : FPi K f fd) : ∃ mv, KBn K fd ["text", "low", "high"] 1 ["low"] (fun us ws => us ++ ws ++ mv) (fun vs zs => vs ++ zs ++ [.int 999999]) := by
  have h := F.kbinds0 (ps := ["text", "low", "high"]) 1 ["low"] [("high", .int 999999)] (fun us mv ws => us ++ ws ++ mv) (by simp) (by simp) (fun r1 r2 r3 => (r1.append r3).append r2) fun D doc pm an cdv ct us mv ws l1 l2 l3 => match us, mv, ws, l1, l2, l3 with
    | [u], [a], [b], _, _, _ => ⟨_, _, _, _, _, _, rfl, rfl, rfl⟩
  exact h
theorem bPiH (F : FPi K f fd) : ∃ mv, KBn K fd ["text", "low", "high"] 1 ["high"] (fun us ws => us ++ mv ++ ws) (fun vs zs => vs ++ [.int 0] ++ zs) := by
  have h := F.kbinds0 (ps := ["text", "low", "high"]) 1 ["high"] [("low", .int 0)] (fun us mv ws => us ++ mv ++ ws) (by simp) (by simp) (fun r1 r2 r3 => (r1.append r2).append r3) fun D doc pm an cdv ct us mv ws l1 l2 l3 => match us, mv, ws, l1, l2, l3 with
    | [u], [a], [b], _, _, _ => ⟨_, _, _, _, _, _, rfl, rfl, rfl⟩
  exact h
theorem bPiB (F : FPi K f fd) : ∃ mv : List Value, KBn K fd ["text", "low", "high"] 1 ["low", "high"] (fun us ws => us ++ ws) (fun vs zs => vs ++ zs) := by
  have h := F.kbinds0 (ps := ["text", "low", "high"]) 1 ["low", "high"] [] (fun us mv ws => us ++ ws) (by simp) (by simp) (fun r1 r2 r3 => r1.append r3) fun D doc pm an cdv ct us mv ws l1 l2 l3 => match us, mv, ws, l1, l2, l3 with
    | [u], [], [a, b], _, _, _ => rfl
  exact h
def rot {α : Type} : List α → List α
  | [h, l, t] => [t, l, h]
  | xs => xs
theorem vals_rot : ∀ {vs : List V} {us : List Value}, Vals vs us → Vals (rot vs) (rot us)
  | [], _, .nil => .nil
  | [_], _, .cons a .nil => .cons a .nil
  | [_, _], _, .cons a (.cons b .nil) => .cons a (.cons b .nil)
  | [_, _, _], _, .cons a (.cons b (.cons c .nil)) => .cons c (.cons b (.cons a .nil))
  | _ :: _ :: _ :: _ :: _, _, .cons a (.cons b (.cons c (.cons d e))) => .cons a (.cons b (.cons c (.cons d e)))
theorem bPiR (F : FPi K f fd) : ∃ mv : List Value, KBn K fd ["text", "low", "high"] 0 ["high", "low", "text"] (fun us ws => us ++ rot ws) (fun vs zs => vs ++ rot zs) := by
  have h := F.kbinds0 (ps := ["text", "low", "high"]) 0 ["high", "low", "text"] [] (fun us mv ws => us ++ rot ws) (by simp) (by simp) (fun r1 r2 r3 => r1.append (vals_rot r3)) fun D doc pm an cdv ct us mv ws l1 l2 l3 => match us, mv, ws, l1, l2, l3 with
    | [], [], [a, b, c], _, _, _ => rfl
  exact h
abbrev kwSw : List (Str × V) := [("separator", .str " ")]
abbrev FSw (K : PySem.W.Frag) (f : Addr) (fd : FuncData) : Prop := FunD K "split_words" "split_words" (defArgs sSw) (defBody sSw) (defScope sSw) [] kwSw f fd
theorem bSw0 (F : FSw K f fd) : ∃ ds, Vals [V.str " "] ds ∧ Binds K fd ["text", "separator"] ds :=
  F.binds0 1 (by simp) rfl fun D doc pm an cdv ct us ks hl hk => match us, ks, hl, hk with
    | [u], [a], _, _ => ⟨_, _, _, _, _, _, rfl, rfl, rfl⟩
theorem bSwB (F : FSw K f fd) : ∃ mv : List Value, KBn K fd ["text", "separator"] 1 ["separator"] (fun us ws => us ++ ws) (fun vs zs => vs ++ zs) := by
  have h := F.kbinds0 (ps := ["text", "separator"]) 1 ["separator"] [] (fun us mv ws => us ++ ws) (by simp) (by simp) (fun r1 r2 r3 => r1.append r3) fun D doc pm an cdv ct us mv ws l1 l2 l3 => match us, mv, ws, l1, l2, l3 with
    | [u], [], [a], _, _, _ => rfl
  exact h
def rot2 {α : Type} : List α → List α
  | [s, t] => [t, s]
  | xs => xs
theorem vals_rot2 : ∀ {vs : List V} {us : List Value}, Vals vs us → Vals (rot2 vs) (rot2 us)
  | [], _, .nil => .nil
  | [_], _, .cons a .nil => .cons a .nil
  | [_, _], _, .cons a (.cons b .nil) => .cons b (.cons a .nil)
  | _ :: _ :: _ :: _, _, .cons a (.cons b (.cons c d)) => .cons a (.cons b (.cons c d))
theorem bSwR (F : FSw K f fd) : ∃ mv : List Value, KBn K fd ["text", "separator"] 0 ["separator", "text"] (fun us ws => us ++ rot2 ws) (fun vs zs => vs ++ rot2 zs) := by
  have h := F.kbinds0 (ps := ["text", "separator"]) 0 ["separator", "text"] [] (fun us mv ws => us ++ rot2 ws) (by simp) (by simp) (fun r1 r2 r3 => r1.append (vals_rot2 r3)) fun D doc pm an cdv ct us mv ws l1 l2 l3 => match us, mv, ws, l1, l2, l3 with
    | [], [], [a, b], _, _, _ => rfl
  exact h
/-- f(k = v, ..): keywords alone -/
theorem pe_callN0 {X : Cx} {CX : CXT} {k : Nat} {f : Addr} {fd : FuncData} {ps ks : List Str} {sp : Sp} {E : XK} {x : Str} {p pos : Pos} {kws : List Keyword} {tk : TA} {g : List Value → List Value → List Value} {gV : List V → List V → List V}
    (F : FnOk X.prog X.w X.K X.mg X.base CX k f fd ps sp) (hr : Room k X.A) (hg : Gl X x) (hm : X.mg x = some (.ref f)) (hk : PySem.W.keepIn X.K (.ref f) = true) (hb : KBn X.K fd ps 0 ks g gV) (hx : Passes CX X E) (hkw : PK X kws tk)
    (hall : (backToKw pos (keywordEach kws X.env)).all (·.1.isSome) = true := by rfl) (hks : (backToKw pos (keywordEach kws X.env)).filterMap (·.1) = ks := by rfl) (hdb : (x == ("__debug__" : Str)) = false := by decide)
    (hpl : ((backTo pos (starEach [] X.env)).any (·.1) || (backToKw pos (keywordEach kws X.env)).any (·.1.isNone)) = false := by rfl) :
    PE X (.Call (.Name x p) [] kws pos) (tCallN 0 ks.length sp gV E tNil tk) := by
  refine ⟨fun pins s σ H Q I h => wpAny_Call_Name_kw (ld_glob I hg hm ?_ hdb)⟩
  refine PySem.W.callWith_KW0 (h₀ := X.base) I.ok.mod.kin hk hall (thn (hkw.run pos pins s σ H _ I h) fun ws s2 hh => ?_) hpl
  obtain ⟨zs, H2, I2, rz, l1, l2, q2⟩ := hh
  refine ⟨I2.kIn, ?_⟩
  rw [hks]
  exact run_fnN F hr hb hx I2 .nil rz l1 l2 q2
end
end T03
set_option Elab.async false
set_option linter.all false
set_option maxRecDepth 100000
set_option maxHeartbeats 4000000
/-! texts of bounded length, data whose repr fits -/
namespace Tp
open PySem PySem.Spec PyProof.Rows L2
/-! ### texts -/
structure Tz (n : Nat) (z : Str) : Prop where
  le : (TL.tl z).length ≤ n
  sm : ∀ c ∈ TL.tl z, c < 256
theorem Tz.mono {n m : Nat} {z : Str} (h : Tz n z) (hl : n ≤ m) : Tz m z := ⟨Nat.le_trans h.le hl, h.sm⟩
theorem Tz.len {n : Nat} {z : Str} (h : Tz n z) : z.length ≤ n := by
  rw [TL.len_tl]
  exact h.le
theorem Tz.app {n m : Nat} {x y : Str} (a : Tz n x) (b : Tz m y) : Tz (n + m) (x ++ y) := by
  have e := TL.tl_append x y
  refine ⟨?_, fun c hc => ?_⟩
  · rw [e, List.length_append]
    exact Nat.add_le_add a.le b.le
  · rw [e] at hc
    exact (List.mem_append.mp hc).elim (a.sm c) (b.sm c)
theorem Tz.one {c : Nat} (h : c < 256) : Tz 1 ⟨#[c]⟩ := ⟨Nat.le_refl 1, fun d hd => by
  have e : d = c := by simpa using hd
  rw [e]
  exact h⟩
theorem Tz.cut {n : Nat} {z : Str} (h : Tz n z) (lo hi : Option Int) : Tz n (cutS z lo hi) := by
  have e : TL.tl (cutS z lo hi) = ((TL.tl z).drop (HT.sIx z.length 0 lo)).take (HT.sIx z.length z.length hi - HT.sIx z.length 0 lo) := rfl
  refine ⟨?_, fun c hc => ?_⟩
  · rw [e, List.length_take, List.length_drop]
    have := h.le
    omega
  · rw [e] at hc
    exact h.sm c (List.mem_of_mem_drop (List.mem_of_mem_take hc))
theorem joinL_len (S : List Nat) (m k : Nat) (hS : S.length ≤ k) : ∀ ps : List (List Nat), (∀ q ∈ ps, q.length ≤ m) → (TL.joinL S ps).length ≤ ps.length * (m + k)
  | [], _ => Nat.zero_le _
  | [q], h => by
    have := h q List.mem_cons_self
    show q.length ≤ 1 * (m + k)
    omega
  | q :: r :: rs, h => by
    have h1 := h q List.mem_cons_self
    have ih := joinL_len S m k hS (r :: rs) fun x hx => h x (List.mem_cons_of_mem _ hx)
    show (q ++ (S ++ TL.joinL S (r :: rs))).length ≤ ((r :: rs).length + 1) * (m + k)
    rw [List.length_append, List.length_append, Nat.succ_mul]
    omega
theorem joinL_mem {S : List Nat} : ∀ {ps : List (List Nat)} {c : Nat}, c ∈ TL.joinL S ps → c ∈ S ∨ ∃ q ∈ ps, c ∈ q
  | [], _, h => absurd h List.not_mem_nil
  | [q], _, h => .inr ⟨q, List.mem_cons_self, h⟩
  | q :: r :: rs, c, h => by
    have h' : c ∈ q ++ (S ++ TL.joinL S (r :: rs)) := h
    rcases List.mem_append.mp h' with z | z
    · exact .inr ⟨q, List.mem_cons_self, z⟩
    · rcases List.mem_append.mp z with z | z
      · exact .inl z
      · rcases joinL_mem z with z | ⟨x, hx, z⟩
        · exact .inl z
        · exact .inr ⟨x, List.mem_cons_of_mem _ hx, z⟩
theorem tl_joinT (s : Str) (ys : List Str) : TL.tl (Txt.join s ys) = TL.joinL (TL.tl s) (ys.map TL.tl) := (congrArg TL.tl (TL.join_eq s ys)).trans (TL.tl_join s ys)
theorem Tz.join {k m : Nat} {s : Str} {ys : List Str} (hs : Tz k s) (hy : ∀ y ∈ ys, Tz m y) : Tz (ys.length * (m + k)) (Txt.join s ys) := by
  refine ⟨?_, fun c hc => ?_⟩
  · rw [tl_joinT]
    have h := joinL_len (TL.tl s) m k hs.le (ys.map TL.tl) fun q hq => by
      obtain ⟨y, hy', rfl⟩ := List.mem_map.mp hq
      exact (hy y hy').le
    rwa [List.length_map] at h
  · rw [tl_joinT] at hc
    rcases joinL_mem hc with z | ⟨q, hq, z⟩
    · exact hs.sm c z
    · obtain ⟨y, hy', rfl⟩ := List.mem_map.mp hq
      exact (hy y hy').sm c z
/-- the sum that join wants -/
theorem sum_le {m : Nat} : ∀ {ys : List Str}, (∀ y ∈ ys, Tz m y) → (ys.map (·.length)).sum ≤ ys.length * m
  | [], _ => Nat.zero_le _
  | y :: ys, h => by
    have h1 := (h y List.mem_cons_self).len
    have ih := sum_le (m := m) (ys := ys) fun z hz => h z (List.mem_cons_of_mem _ hz)
    rw [List.map_cons, List.sum_cons, List.length_cons, Nat.succ_mul]
    omega
/-- parts between separators -/
theorem spl_len (S : List Nat) : ∀ (l : List Nat) (k : Nat) (acc : List Nat), ((TL.spl S k acc l).map (·.length)).sum ≤ acc.length + l.length ∧ (TL.spl S k acc l).length ≤ l.length + 1 ∧ ∀ q ∈ TL.spl S k acc l, ∀ c ∈ q, c ∈ acc ∨ c ∈ l
  | [], k, acc => by
    rw [TL.spl_nil]
    refine ⟨by simp, by simp, fun q hq c hc => ?_⟩
    rw [List.mem_singleton.mp hq] at hc
    exact .inl hc
  | c :: r, 0, acc => by
    cases h : TL.pre S (c :: r) with
    | true =>
      rw [TL.spl_hit h]
      obtain ⟨h1, h2, h3⟩ := spl_len S r (S.length - 1) []
      refine ⟨?_, ?_, fun q hq d hd => ?_⟩
      · rw [List.map_cons, List.sum_cons, List.length_cons]
        rw [List.length_nil] at h1
        omega
      · rw [List.length_cons, List.length_cons]
        omega
      · rcases List.mem_cons.mp hq with e | e
        · rw [e] at hd
          exact .inl hd
        · rcases h3 q e d hd with z | z
          · exact absurd z List.not_mem_nil
          · exact .inr (List.mem_cons_of_mem _ z)
    | false =>
      rw [TL.spl_miss h]
      obtain ⟨h1, h2, h3⟩ := spl_len S r 0 (acc ++ [c])
      refine ⟨?_, ?_, fun q hq d hd => ?_⟩
      · rw [List.length_append] at h1
        rw [List.length_cons]
        have e : [c].length = 1 := rfl
        omega
      · rw [List.length_cons]
        omega
      · rcases h3 q hq d hd with z | z
        · rcases List.mem_append.mp z with z | z
          · exact .inl z
          · rw [List.mem_singleton.mp z]
            exact .inr List.mem_cons_self
        · exact .inr (List.mem_cons_of_mem _ z)
  | c :: r, k + 1, acc => by
    have e : TL.spl S (k + 1) acc (c :: r) = TL.spl S k acc r := by
      rw [TL.spl_pass S (k + 1), TL.spl_pass S k]
      rfl
    rw [e]
    obtain ⟨h1, h2, h3⟩ := spl_len S r k acc
    refine ⟨?_, ?_, fun q hq d hd => (h3 q hq d hd).imp id (List.mem_cons_of_mem _)⟩
    · rw [List.length_cons]
      omega
    · rw [List.length_cons]
      omega
theorem split_len {z m : Str} {n : Nat} (hz : Tz n z) (hm : (TL.tl m).length = 1) (h2 : ∀ c ∈ TL.tl m, c < 256) :
    ((Txt.split z m).map (·.length)).sum ≤ n ∧ (Txt.split z m).length ≤ n + 1 ∧ ∀ y ∈ Txt.split z m, ∀ c ∈ TL.tl y, c < 256 := by
  have hne : TL.tl m ≠ [] := fun e => by
    rw [e] at hm
    cases hm
  have hk : ¬ Builtin.Str.strKind z < Builtin.Str.strKind m := TL.kind_ok (by
    rw [← Array.all_toList]
    exact List.all_eq_true.mpr fun c hc => decide_eq_true (h2 c hc))
  have e := TL.split_spl z m hne hk
  obtain ⟨h3, h4, h5⟩ := spl_len (TL.tl m) (TL.tl z) 0 []
  rw [← e] at h3 h4 h5
  rw [List.map_map] at h3
  have e2 : ((fun l : List Nat => l.length) ∘ TL.tl) = fun y : Str => y.length := funext fun y => (TL.len_tl y).symm
  have hzl := hz.le
  refine ⟨?_, ?_, fun y hy c hc => ?_⟩
  · rw [e2, List.length_nil] at h3
    omega
  · rw [List.length_map] at h4
    omega
  · rcases h5 (TL.tl y) (List.mem_map.mpr ⟨y, hy, rfl⟩) c hc with x | x
    · exact absurd x List.not_mem_nil
    · exact hz.sm c x
/-- an item of a list at a drawn place -/
theorem atI_in {α : Type} {xs : List α} {d : Int} (h0 : 0 ≤ d) (h : d < (xs.length : Int)) : ∃ v, v ∈ xs ∧ atI xs d = some v := by
  have hj : d.toNat < xs.length := by omega
  have e : d = ((d.toNat : Nat) : Int) := by omega
  exact ⟨xs[d.toNat], List.getElem_mem hj, (congrArg (atI xs) e).trans (atI_nat (List.getElem?_eq_getElem hj))⟩

/-! ### data whose repr fits -/
structure Nice (n k : Nat) (d : PyData) : Prop where
  sh : d.showable = true
  ls : d.leavesShort 2000 = true
  wt : d.weight ≤ n
  dp : d.depth ≤ k
structure NiceAll (n k : Nat) (ds : List PyData) : Prop where
  sh : PyData.showableAll ds = true
  ls : PyData.leavesShortAll 2000 ds = true
  wt : PyData.weightAll ds ≤ n
  dp : PyData.depthAll ds ≤ k
theorem Nice.fits {n k : Nat} {d : PyData} (h : Nice n k d) (hn : n ≤ 8000) : d.shown.length ≤ sizeLine := by
  have h1 := PyData.shown_le 2000 (by decide) d h.ls
  have h2 : (2000 + 2) * d.weight ≤ 2002 * 8000 := Nat.mul_le_mul (Nat.le_refl _) (Nat.le_trans h.wt hn)
  rw [PySem.sizeLine_eq]
  omega
theorem Nice.mono {n k m j : Nat} {d : PyData} (h : Nice n k d) (h1 : n ≤ m) (h2 : k ≤ j) : Nice m j d := ⟨h.sh, h.ls, Nat.le_trans h.wt h1, Nat.le_trans h.dp h2⟩
theorem nice_none : Nice 0 0 .none := ⟨rfl, rfl, Nat.le_refl _, Nat.le_refl _⟩
theorem nice_bool (b : Bool) : Nice 0 0 (.bool b) := ⟨rfl, rfl, Nat.le_refl _, Nat.le_refl _⟩
theorem nice_int {i : Int} (h : i.natAbs.log2 < 1000) : Nice 1000 0 (.int i) := by
  refine ⟨?_, ?_, ?_, by simp only [PyData.depth]; exact Nat.le_refl _⟩
  · simp only [PyData.showable]
    exact decide_eq_true (by omega)
  · simp only [PyData.leavesShort]
    refine decide_eq_true ?_
    have e := int_text_length_le (a := i) (k := 1920) (by decide) (by omega)
    show (Str.ofString (toString i)).length ≤ 2000
    rw [PySem.ofString_length]
    omega
  · simp only [PyData.weight]
    split <;> omega
theorem nice_str {n : Nat} {z : Str} (h : Tz n z) : Nice n 0 (.str z) := by
  refine ⟨by simp only [PyData.showable], ?_, ?_, by simp only [PyData.depth]; exact Nat.le_refl _⟩
  · simp only [PyData.leavesShort]
    refine List.all_eq_true.mpr fun c hc => decide_eq_true ?_
    exact Nat.lt_of_lt_of_le (h.sm c hc) (by decide)
  · simp only [PyData.weight]
    exact h.len
theorem niceAll_nil : NiceAll 0 0 [] := ⟨rfl, rfl, Nat.le_refl _, Nat.le_refl _⟩
theorem NiceAll.cons {n m k j : Nat} {d : PyData} {ds : List PyData} (h : Nice n k d) (hs : NiceAll m j ds) : NiceAll (n + 1 + m) (max k j) (d :: ds) := by
  refine ⟨?_, ?_, ?_, ?_⟩
  · simp only [PyData.showableAll, h.sh, hs.sh, Bool.and_self]
  · simp only [PyData.leavesShortAll, h.ls, hs.ls, Bool.and_self]
  · simp only [PyData.weightAll]
    have := h.wt
    have := hs.wt
    omega
  · simp only [PyData.depthAll]
    have := h.dp
    have := hs.dp
    omega
theorem NiceAll.list {n k : Nat} {ds : List PyData} (h : NiceAll n k ds) : Nice n (k + 1) (.list ds) := by
  refine ⟨?_, ?_, ?_, ?_⟩
  · simp only [PyData.showable]
    exact h.sh
  · simp only [PyData.leavesShort]
    exact h.ls
  · simp only [PyData.weight]
    exact h.wt
  · simp only [PyData.depth]
    have := h.dp
    omega
theorem NiceAll.tuple {n k : Nat} {ds : List PyData} (h : NiceAll n k ds) : Nice n (k + 1) (.tuple ds) := by
  refine ⟨?_, ?_, ?_, ?_⟩
  · simp only [PyData.showable]
    exact h.sh
  · simp only [PyData.leavesShort]
    exact h.ls
  · simp only [PyData.weight]
    exact h.wt
  · simp only [PyData.depth]
    have := h.dp
    omega
theorem NiceAll.mono {n k m j : Nat} {ds : List PyData} (h : NiceAll n k ds) (h1 : n ≤ m) (h2 : k ≤ j) : NiceAll m j ds := ⟨h.sh, h.ls, Nat.le_trans h.wt h1, Nat.le_trans h.dp h2⟩
theorem niceAll_strs : ∀ {ys : List Str}, (∀ y ∈ ys, ∀ c ∈ TL.tl y, c < 256) → NiceAll ((ys.map (·.length)).sum + ys.length) 0 (ys.map PyData.str)
  | [], _ => niceAll_nil
  | y :: ys, h => by
    have h1 := NiceAll.cons (nice_str (n := y.length) (z := y) ⟨Nat.le_of_eq (TL.len_tl y).symm, h y List.mem_cons_self⟩) (niceAll_strs (ys := ys) fun z hz => h z (List.mem_cons_of_mem _ hz))
    refine h1.mono ?_ (Nat.le_refl _)
    rw [List.map_cons, List.sum_cons, List.length_cons]
    omega
/-- repr(x), x plain data -/
theorem rRepr_of {K : PySem.W.Frag} {H : Hp} {a : Addr} {d : PyData} {n k : Nat} {Q : VK} (h : Dp K H (.ref a) d) (hn : Nice n k d) (h1 : n ≤ 8000) (h2 : k ≤ 60) (q : Q (.str d.shown) H) : rRepr K [.ref a] H Q :=
  ⟨a, d, rfl, h, hn.sh, Nat.le_trans hn.dp h2, hn.fits h1, q⟩
/-- flat values as data -/
def dV : V → PyData
  | .bl b => .bool b
  | .int i => .int i
  | .str x => .str x
  | _ => .none
def isFlat : V → Bool
  | .non => true
  | .bl _ => true
  | .int _ => true
  | .str _ => true
  | _ => false
theorem dp_flat {K : PySem.W.Frag} {H : Hp} : ∀ {v : V}, isFlat v = true → Dp K H v (dV v)
  | .non, _ => .non
  | .bl b, _ => .bl b
  | .int i, _ => .int i
  | .str x, _ => .str x
theorem dpAll_flat {K : PySem.W.Frag} {H : Hp} : ∀ {vs : List V}, vs.all isFlat = true → DpAll K H vs (vs.map dV)
  | [], _ => .nil
  | v :: vs, h => by
    rw [List.all_cons, Bool.and_eq_true] at h
    exact .cons (dp_flat h.1) (dpAll_flat h.2)
theorem dpAll_strs {K : PySem.W.Frag} {H : Hp} : ∀ (ys : List Str), DpAll K H (ys.map V.str) (ys.map PyData.str)
  | [] => .nil
  | y :: ys => .cons (.str y) (dpAll_strs ys)
end Tp
set_option Elab.async false
set_option linter.all false
set_option maxRecDepth 100000
set_option maxHeartbeats 4000000
namespace T03
open PySem PySem.Spec PyProof.Rows L2 Tp
structure TxtLaw (K : PySem.W.Frag) (mg : Str → Option Value) : Prop where
  range : mg "range" = none
  len : mg "len" = none
  max : mg "max" = none
  min : mg "min" = none
  isi : mg "isinstance" = none
  str : mg "str" = none
  ord : mg "ord" = none
  repr : mg "repr" = none
/-- a text out of the box -/
def spDg : Sp := fun vs H Q _ => ∃ (p : Addr) (n : Nat), vs = [.ref p] ∧ BoxAt H p n ∧ n ≤ 10000 ∧ ∀ z H', Tz 64 z → BoxAt H' p (n + 60) → Keep p H H' → Q (.str z) H'
abbrev sDg : Stmt := top 42
abbrev nDg : List Str := ["_law_box_here", "_law_many", "_law_line", "_law_way", "_law_at", "_law_k"]
section
variable {P : Program} {w : World} {K : PySem.W.Frag} {mg : Str → Option Value} {base : Heap} {f : Addr} {fd : FuncData}
theorem scDg : FnScope nDg ["_law_box_here"] (defScope sDg) := ⟨rfl, rfl, rfl, by decide +kernel, rfl, by decide +kernel, by decide +kernel⟩
theorem ok_dg (F : Fun K "_law_digits" "_law_digits" sDg f fd) (T : TxtLaw K mg) (C : Cg P w K mg base 1 "_law_take" spTake) : FnG P w K mg base CX0 2 f fd ["_law_box_here"] spDg := by
  refine FunG.ok F scDg (fun vs H Q E h => ?_) (fun cdv B out s H vs Q E hr hG h => ?_)
  · obtain ⟨p, n, rfl, _⟩ := h
    rfl
  · obtain ⟨p, n, rfl, hb, hn, q⟩ := h
    refine ⟨_, pss_cons (ps_set (i := 1) scDg.nd rfl (.inl rfl) (pe_ix ix_list (pe_lst (pa_cons pe_int (pa_cons (pe_op op_add pe_int (pe_g C hr hG (by decide) (by rfl) (pa_cons (pv 0) (pa_cons pe_int pa_nil))))
        (pa_cons (pe_op op_add pe_int (pe_g C hr hG (by decide) (by rfl) (pa_cons (pv 0) (pa_cons pe_int pa_nil)))) (pa_cons pe_int (pa_cons pe_int pa_nil)))))) (pe_g C hr hG (by decide) (by rfl) (pa_cons (pv 0) (pa_cons pe_int pa_nil))) fun _ _ => rfl))
      (pss_cons (ps_set (i := 2) scDg.nd rfl (.inl rfl) (pe_join pe_str (pe_lc (own := [("_law_k", 5)]) (g := gName 5) (tt := tYes) rfl scDg.nd (pi_range1 (by rfl) T.range (pa_cons (pv 1) pa_nil)) (blkOk_by (N := nDg) (sc := defScope sDg) (by decide +kernel))
          (fun _ _ _ _ _ => pg_name (i := 5) scDg.nd rfl (Or.inl rfl)) (fun _ _ _ _ _ => pts_nil) (fun _ _ _ _ _ => pe_ix ix_str pe_str (pe_g C hr hG (by decide) (by rfl) (pa_cons (pv 0) (pa_cons pe_int pa_nil))) fun _ _ => rfl))))
      (pss_cons (ps_par (i := 3) (j := 4) rfl scDg.nd rfl rfl (by decide) rfl rfl (pa_cons (pe_g C hr hG (by decide) (by rfl) (pa_cons (pv 0) (pa_cons pe_int pa_nil))) (pa_cons (pe_g C hr hG (by decide) (by rfl) (pa_cons (pv 0) (pa_cons (pe_op op_add (pe_callB call_len (by rfl) T.len PySem.boot_len (pa_cons (pv 2) pa_nil)) pe_int) pa_nil))) pa_nil)) (by rfl))
      (pss_cons (ps_if (pt_cmpR op_eq (pv 3) pe_int (nomark _)) (pss_one (ps_ret (pe_op op_add_str pe_str (pv 2)))) pss_nil)
      (pss_cons (ps_if (pt_cmpR op_eq (pv 3) pe_int (nomark _)) (pss_one (ps_ret (pe_op op_add_str (pe_op op_add_str (pe_slice sl_str (pv 2) po_none (po_some (pv 4))) (pe_ix ix_str pe_str (pe_g C hr hG (by decide) (by rfl) (pa_cons (pv 0) (pa_cons pe_int pa_nil))) fun _ _ => rfl)) (pe_slice sl_str (pv 2) (po_some (pv 4)) po_none)))) pss_nil)
      (pss_cons (ps_if (pt_cmpR op_eq (pv 3) pe_int (nomark _)) (pss_one (ps_ret (pe_slice sl_str (pv 2) po_none (po_some (pe_callB (call_max2 rfl) (by rfl) T.max (by decide +kernel) (pa_cons pe_int (pa_cons (pe_op op_sub (pv 4) pe_int) pa_nil))))))) pss_nil)
      (pss_one (ps_ret (pv 2)))))))), ?_⟩
    -- the number of digits
    refine ⟨_, rfl, p, 6, n, rfl, hb, by decide, by decide, by omega, fun d1 H1 a1 b1 hb1 k1 => ?_⟩
    refine ⟨_, _, rfl, rfl, _, rfl, p, 31, n + 1, rfl, hb1, by decide, by decide, by omega, fun d2 H2 a2 b2 hb2 k2 => ?_⟩
    refine ⟨_, _, rfl, rfl, (by show 5 ≤ sizeLine; decide), fun l hl => ?_⟩
    refine ⟨_, rfl, p, 5, n + 2, rfl, hb2.new hl, by decide, by decide, by omega, fun d3 H3 a3 b3 hb3 k3 => ?_⟩
    have npl : l ≠ p := (hb2.ne hl).symm
    have hl3 : H3 l = some (.lst [.int 1, .int (1 + d1), .int (1 + d2), .int 30, .int 31]) := by
      rw [k3 l npl]
      exact upd_same
    obtain ⟨v, hv, av⟩ := atI_in (xs := [V.int 1, .int (1 + d1), .int (1 + d2), .int 30, .int 31]) a3 b3
    obtain ⟨m, rfl, hm1, hm2⟩ : ∃ m : Int, v = .int m ∧ 1 ≤ m ∧ m ≤ 31 := by
      simp only [List.mem_cons, List.not_mem_nil, or_false] at hv
      rcases hv with e | e | e | e | e <;> subst e <;> exact ⟨_, rfl, by omega, by omega⟩
    refine ⟨l, _, _, _, rfl, rfl, SqL.of hl3, av, ?_⟩
    have kp3 : Keep p H H3 := (keep_of k1).trans ((keep_of k2).trans ((Keep.new hl).trans (keep_of k3)))
    -- the digits
    refine ⟨⟨_, rfl⟩, _, rfl, m, rfl, by omega, by omega, fun D hD => ?_⟩
    have npD : D ≠ p := (hb3.ne hD).symm
    refine lc_range (lo := 0) (n := m.toNat) (fun i G => BoxAt G p (n + 3 + i) ∧ Keep2 p D H3 G ∧ ∃ ys : List Str, G D = some (.lst (ys.map V.str)) ∧ ys.length = i ∧ ∀ y ∈ ys, Tz 1 y)
      ⟨hb3.new hD, Keep2.of (Keep.new hD), [], upd_same, rfl, fun y hy => absurd hy List.not_mem_nil⟩ ?_ ?_
    · rintro i G hi ⟨gb, gk, ys, gD, gl, gt⟩
      refine ⟨rfl, _, rfl, p, 10, n + 3 + i, rfl, gb, by decide, by decide, by omega, fun d G1 c1 c2 gb1 gk1 => ?_⟩
      obtain ⟨c, hc, ac⟩ := atI_in (xs := (("0123456789" : Str)).cps.toList) c1 (by rw [show ((("0123456789" : Str)).cps.toList).length = 10 from by decide +kernel]; exact c2)
      have hc2 : c < 256 := by
        have q := dig_mem c
        rw [decide_eq_true hc] at q
        have := of_decide_eq_true q.symm
        omega
      have gD1 : G1 D = some (.lst (ys.map V.str)) := by rw [gk1 D npD]; exact gD
      refine ⟨_, _, _, rfl, rfl, by decide +kernel, ac, ys.map V.str, gD1, ?_, gb1.put npD, ?_, ys ++ [⟨#[c]⟩], ?_, ?_, ?_⟩
      · rw [List.length_map, gl, PySem.sizeLine_eq]
        omega
      · exact (gk.next (keep_of gk1)).put
      · rw [upd_same, List.map_append]
        rfl
      · rw [List.length_append, gl]
        rfl
      · intro y hy
        rcases List.mem_append.mp hy with z | z
        · exact gt y z
        · rw [List.mem_singleton.mp z]
          exact Tz.one hc2
    · rintro G ⟨gb, gk, ys, gD, gl, gt⟩
      have hml : ys.length ≤ 31 := by omega
      have t0 : Tz 0 ("" : Str) := ⟨by decide +kernel, fun c hc => by rw [show TL.tl ("" : Str) = [] from by decide +kernel] at hc; exact absurd hc List.not_mem_nil⟩
      have tz : Tz 31 (Txt.join "" ys) := (Tz.join t0 gt).mono (by omega)
      have sm := sum_le gt
      refine ⟨_, D, ys, rfl, rfl, .inl (SqL.of gD), ?_, ?_⟩
      · have e0 : ("" : Str).length = 0 := by decide +kernel
        rw [e0]
        omega
      generalize Txt.join "" ys = z at tz
      have kpG : Keep p H G := kp3.trans (gk.fin hD)
      refine ⟨_, rfl, p, 10, n + 34, rfl, gb.mono (by omega), by decide, by decide, by omega, fun way H4 a4 b4 hb4 k4 => ?_⟩
      have hzl := tz.len
      refine ⟨_, rfl, _, rfl, _, _, rfl, ⟨by rw [PySem.sizeLine_eq]; omega, rfl⟩, _, _, rfl, rfl, ?_⟩
      refine ⟨p, _, n + 35, rfl, hb4, by omega, ?_, by omega, fun at' H5 a5 b5 hb5 k5 => ?_⟩
      · have := Nat.log2_le_self (((z.length : Nat) : Int) + 1).natAbs
        omega
      have kp5 : Keep p H H5 := kpG.trans ((keep_of k4).trans (keep_of k5))
      refine ⟨_, _, rfl, ?_⟩
      refine ⟨_, rfl, rfl, _, rfl, ?_⟩
      refine ite2 (fun h1 => ?_) (fun h1 => ?_)
      · refine ⟨_, rfl, _, _, rfl, rfl, by rw [PySem.sizeLine_eq, show ("0" : Str).length = 1 from by decide +kernel]; omega, ?_⟩
        exact q _ _ ((Tz.app (n := 1) ⟨by decide +kernel, by decide +kernel⟩ tz).mono (by omega)) (hb5.mono (by omega)) kp5
      · refine ⟨_, rfl, rfl, _, rfl, ?_⟩
        refine ite2 (fun h2 => ?_) (fun h2 => ?_)
        · refine ⟨_, rfl, _, rfl, _, rfl, z, rfl, by rw [PySem.sizeLine_eq]; omega, ?_⟩
          refine ⟨_, rfl, p, 10, n + 36, rfl, hb5.mono (by omega), by decide, by decide, by omega, fun d6 H6 a6 b6 hb6 k6 => ?_⟩
          obtain ⟨c, hc, ac⟩ := atI_in (xs := ((" +-_.,aA\n:" : Str)).cps.toList) a6 (by rw [show (((" +-_.,aA\n:" : Str)).cps.toList).length = 10 from by decide +kernel]; exact b6)
          have hc2 : c < 256 := (show ∀ c ∈ ((" +-_.,aA\n:" : Str)).cps.toList, c < 256 from by decide +kernel) c hc
          have t1 := tz.cut none (some at')
          have t2 := t1.app (Tz.one hc2)
          have t3 := tz.cut (some at') none
          have l1 := t1.len
          have l2 := t2.len
          have l3 := t3.len
          refine ⟨_, _, _, rfl, rfl, by decide +kernel, ac, _, _, rfl, rfl, by rw [PySem.sizeLine_eq, show (⟨#[c]⟩ : Str).length = 1 from rfl]; omega, ?_⟩
          refine ⟨_, rfl, _, rfl, _, rfl, z, rfl, by rw [PySem.sizeLine_eq]; omega, _, _, rfl, rfl, by rw [PySem.sizeLine_eq]; omega, ?_⟩
          exact q _ _ ((t2.app t3).mono (by omega)) (hb6.mono (by omega)) (kp5.trans (keep_of k6))
        · refine ⟨_, rfl, rfl, _, rfl, ?_⟩
          refine ite2 (fun h3 => ?_) (fun h3 => ?_)
          · refine ⟨_, rfl, _, rfl, _, _, rfl, rfl, _, _, rfl, _, rfl, z, rfl, by rw [PySem.sizeLine_eq]; omega, ?_⟩
            exact q _ _ ((tz.cut _ _).mono (by omega)) (hb5.mono (by omega)) kp5
          · exact ⟨_, rfl, q _ _ (tz.mono (by omega)) (hb5.mono (by omega)) kp5⟩
end
end T03
set_option Elab.async false
set_option linter.all false
set_option maxRecDepth 100000
set_option maxHeartbeats 4000000
namespace T03
open PySem PySem.Spec PyProof.Rows L2 Tp
def spWh : Sp := fun vs H Q _ => ∃ (z : Str) (lo hi : Int), vs = [.str z, .int lo, .int hi] ∧ z.length ≤ 1000 ∧ Q (whole (TL.tl z) lo hi) H
abbrev sWh : Stmt := top 43
abbrev nWh : List Str := ["_law_line", "_law_floor", "_law_roof", "_law_found", "_law_sign"]
section
variable {P : Program} {w : World} {K : PySem.W.Frag} {mg : Str → Option Value} {base : Heap} {f : Addr} {fd : FuncData}
theorem scWh : FnScope nWh ["_law_line", "_law_floor", "_law_roof"] (defScope sWh) := ⟨rfl, rfl, rfl, by decide +kernel, rfl, by decide +kernel, by decide +kernel⟩
theorem val_snoc (l : List Nat) (c : Nat) : NumText.digitsVal (l ++ [c]) = NumText.digitsVal l * 10 + (c - 48) := by
  unfold NumText.digitsVal
  rw [List.foldl_append]
  rfl
theorem ok_wh (F : Fun K "_law_whole" "_law_whole" sWh f fd) (T : TxtLaw K mg) : FnG P w K mg base CX0 1 f fd ["_law_line", "_law_floor", "_law_roof"] spWh := by
  refine FunG.ok F scWh (fun vs H Q E h => ?_) (fun cdv B out s H vs Q E hr hG h => ?_)
  · obtain ⟨z, lo, hi, rfl, _⟩ := h
    rfl
  · obtain ⟨z, lo, hi, rfl, hz, q⟩ := h
    refine ⟨_, pss_cons (ps_if (PW.pt (pw_or (pt_not (pt_val (pe_callB call_isi (by rfl) T.isi (by decide +kernel) (pa_cons (pv 0) (pa_cons (pe_bltn (by rfl) T.str (by decide +kernel) (show RelV (.ty "str") _ from rfl)) pa_nil)))))
          (pw_or (pt_not (pt_chain op_lt op_lt pe_int (pe_callB call_len (by rfl) T.len PySem.boot_len (pa_cons (pv 0) pa_nil)) pe_int))
          (pw_or1 (PW.pt (pw_and (pt_cmpR op_eq (pe_ix ix_str (pv 0) pe_int fun _ _ => rfl) pe_str (nomark _)) (pw_and1 (pt_cmpR op_ne (pv 0) pe_str (nomark _))))))))) (pss_one (ps_ret pe_non)) pss_nil)
      (pss_cons (ps_set (i := 3) scWh.nd rfl (.inl rfl) pe_int)
      (pss_cons (ps_for PassesOwn.never rfl (pi_str (pv 0)) (pg_name (i := 4) scWh.nd rfl (Or.inl rfl))
        (pss_cons (ps_if (pt_cmpR op_notIn_sign (pv 4) pe_str rfl) (pss_one (ps_ret pe_non)) pss_nil)
        (pss_one (ps_set (i := 3) scWh.nd rfl (.inl rfl) (pe_op op_sub (pe_op op_add (pe_op op_mul (pv 3) pe_int) (pe_callB call_ord (by rfl) T.ord (by decide +kernel) (pa_cons (pv 4) pa_nil))) pe_int)))))
      (pss_one (ps_ret (pe_ifExp (pt_chain op_le op_le (pv 1) (pv 3) (pv 2)) (pv 3) pe_non))))), ?_⟩
    have hzl : z.length = (TL.tl z).length := TL.len_tl z
    refine ⟨_, rfl, _, _, _, _, true, rfl, .ty "str", .base (.str z), kit_ty (by decide +kernel), _, rfl, ?_⟩
    refine iteF ⟨_, rfl, _, _, rfl, ⟨by rw [PySem.sizeLine_eq]; omega, rfl⟩, _, _, rfl, rfl, _, rfl, ?_⟩
    have bad : ¬ (1 ≤ (TL.tl z).length ∧ (TL.tl z).length ≤ 30 ∧ (TL.tl z).all isDig = true ∧ ¬ ((TL.tl z)[0]? = some 48 ∧ 1 < (TL.tl z).length)) → Q .non H := fun hn => by
      unfold whole at q
      rw [if_neg hn] at q
      exact q
    refine ite2 (fun h1 => ?_) (fun h1 => ?_)
    · have h1' := of_decide_eq_true h1
      have hpos : 0 < (TL.tl z).length := by omega
      have h0 : (TL.tl z)[0]? = some ((TL.tl z)[0]) := List.getElem?_eq_getElem hpos
      refine ⟨_, _, rfl, rfl, _, rfl, ?_⟩
      by_cases h2 : ((z.length : Nat) : Int) < 31
      · refine if_false_of (by rw [decide_eq_true h2]; rfl) ?_
        refine ⟨_, rfl, _, _, _, rfl, rfl, by rw [PySem.sizeLine_eq]; omega, atI_nat (j := 0) h0, rfl, _, rfl, ?_⟩
        have e48 : ((V.str ⟨#[(TL.tl z)[0]]⟩ : V) = .str "0") ↔ (TL.tl z)[0] = 48 := by
          constructor
          · intro e
            have e2 : TL.tl (⟨#[(TL.tl z)[0]]⟩ : Str) = TL.tl ("0" : Str) := congrArg TL.tl (V.str.inj e)
            rw [show TL.tl ("0" : Str) = [48] from by decide +kernel] at e2
            exact List.head_eq_of_cons_eq e2
          · intro e
            rw [e]
            exact congrArg V.str (TL.ext_tl (by decide +kernel))
        have ez1 : (TL.tl z)[0] = 48 → (((V.str z : V) = .str "0") ↔ ¬ 1 < (TL.tl z).length) := fun e => by
          constructor
          · intro e2
            rw [V.str.inj e2]
            decide +kernel
          · intro hn
            refine congrArg V.str (TL.ext_tl ?_)
            rw [show TL.tl ("0" : Str) = [48] from by decide +kernel]
            cases hl : TL.tl z with
            | nil => rw [hl] at hpos; exact absurd hpos (Nat.lt_irrefl 0)
            | cons a r =>
              cases r with
              | nil =>
                have e3 : (TL.tl z)[0]? = some 48 := by rw [h0, e]
                rw [hl] at e3
                have e4 : a = 48 := Option.some.inj e3
                rw [e4]
              | cons b r' =>
                rw [hl] at hn
                exact absurd (Nat.succ_lt_succ (Nat.succ_pos _)) hn
        have tail : ¬ ((TL.tl z)[0]? = some 48 ∧ 1 < (TL.tl z).length) →
            tSeq (tAsg (tC (.int 0)) (gName 3)) (tSeq (tFor (iStr (tVar 0)) (gName 4) (tSeq (tIfS (tTest (tOp (fun x y H Q => ∃ (c : Nat) (z : Str), x = .str ⟨#[c]⟩ ∧ y = .str z ∧ Q (.bl (!decide (c ∈ z.cps.toList))) H) (tVar 4) (tC (.str "0123456789")))) (tRet (tC .non)) tNext)
              (tAsg (tOp (rI0 fun i j => .int (i - j)) (tOp (rI0 fun i j => .int (i + j)) (tOp (rI CMul fun i j => .int (i * j)) (tVar 3) (tC (.int 10))) (tCB (fun xs H Q => ∃ x, xs = [.str x] ∧ x.length = 1 ∧ Q (.int (x.cps.getD 0 0 : Nat)) H) (tCons (tVar 4) tNil))) (tC (.int 48))) (gName 3))))
              (tRet (tIf (tTest (tChain (rI0 fun i j => .bl (decide (i ≤ j))) (rI0 fun i j => .bl (decide (i ≤ j))) (tVar 1) (tVar 3) (tVar 2))) (tVar 3) (tC .non))))
              { nx := fun _ H' => Q .non H', rt := Q } (L2.start nWh [.str z, .int lo, .int hi]) H := fun hn => by
          refine ⟨_, rfl, _, rfl, for_it walk_str (fun i σ G => G = H ∧ ((TL.tl z).take i).all isDig = true ∧ ∃ o, σ = [some (.str z), some (.int lo), some (.int hi), some (.int ((NumText.digitsVal ((TL.tl z).take i) : Nat) : Int)), o]) ⟨rfl, rfl, none, rfl⟩ (fun _ _ _ _ _ => trivial) ?_ ?_⟩
          · rintro i x σ G G' hlt ⟨rfl, hd, o, rfl⟩ ⟨rfl, c, hc, rfl⟩
            have hi' : i < (TL.tl z).length := by rw [← hzl]; exact hlt
            have hc' : (TL.tl z)[i]? = some c := by rw [← hc]; simp
            have ht : (TL.tl z).take (i + 1) = (TL.tl z).take i ++ [c] := by
              rw [List.take_add_one, hc']
              rfl
            refine ⟨_, rfl, c, _, rfl, rfl, _, rfl, ?_⟩
            rw [dig_mem]
            cases h9 : isDig c with
            | false =>
              refine iteT (bad fun hh => ?_)
              have := List.all_eq_true.mp hh.2.2.1 c (List.mem_of_getElem? hc')
              rw [h9] at this
              cases this
            | true =>
              have h9' := of_decide_eq_true h9
              refine iteF ⟨_, rfl, _, _, rfl, rfl, .inr ⟨by decide, by decide⟩, _, rfl, _, rfl, rfl, _, _, rfl, rfl, _, _, rfl, rfl, rfl, ?_, some (.str ⟨#[c]⟩), ?_⟩
              · rw [ht, List.all_append, hd]
                simp [h9]
              · rw [ht, val_snoc]
                show _ = [some (V.str z), some (V.int lo), some (V.int hi), some (V.int ((NumText.digitsVal ((TL.tl z).take i) * 10 + (c - 48) : Nat) : Int)), some (V.str ⟨#[c]⟩)]
                have e : (((NumText.digitsVal ((TL.tl z).take i) * 10 + (c - 48) : Nat) : Int)) = ((NumText.digitsVal ((TL.tl z).take i) : Nat) : Int) * 10 + ((c : Nat) : Int) - 48 := by omega
                rw [e]
                rfl
          · rintro σ G ⟨rfl, hd, o, rfl⟩
            have ez : (TL.tl z).take z.cps.size = TL.tl z := List.take_of_length_le (by rw [← hzl]; exact Nat.le_refl _)
            rw [ez] at hd ⊢
            unfold whole at q
            rw [if_pos (show 1 ≤ (TL.tl z).length ∧ (TL.tl z).length ≤ 30 ∧ (TL.tl z).all isDig = true ∧ ¬ ((TL.tl z)[0]? = some 48 ∧ 1 < (TL.tl z).length) from ⟨by omega, by omega, hd, hn⟩)] at q
            refine ⟨_, rfl, _, rfl, _, _, rfl, rfl, _, rfl, ?_⟩
            refine ite2 (fun hl => ?_) (fun hl => ?_)
            · refine ⟨_, rfl, _, _, rfl, rfl, _, rfl, ?_⟩
              refine ite2 (fun hh => ?_) (fun hh => ?_)
              · rw [if_pos ⟨of_decide_eq_true hl, of_decide_eq_true hh⟩] at q
                exact ⟨_, rfl, q⟩
              · rw [if_neg fun e => hh (decide_eq_true e.2)] at q
                exact q
            · rw [if_neg fun e => hl (decide_eq_true e.1)] at q
              exact ⟨_, rfl, q⟩
        refine ite2 (fun h4 => ?_) (fun h4 => ?_)
        · have h4' := e48.mp (of_decide_eq_true h4)
          refine ⟨_, rfl, rfl, _, rfl, ?_⟩
          by_cases h5 : (V.str z : V) = .str "0"
          · refine if_false_of (by rw [decide_eq_true h5]; rfl) ?_
            exact tail fun e => ((ez1 h4').mp h5) e.2
          · refine if_true_of (by rw [decide_eq_false h5]; rfl) ?_
            exact bad fun e => e.2.2.2 ⟨by rw [h0, h4'], Decidable.byContradiction fun hn => h5 ((ez1 h4').mpr hn)⟩
        · refine tail fun e => h4 (decide_eq_true (e48.mpr ?_))
          rw [h0] at e
          exact Option.some.inj e.1
      · refine if_true_of (by rw [decide_eq_false h2]; rfl) ?_
        exact bad (by omega)
    · refine ⟨_, rfl, ?_⟩
      refine iteT (bad ?_)
      have h1' : ¬ (0 : Int) < ((z.length : Nat) : Int) := fun e => h1 (decide_eq_true e)
      omega
end
end T03
set_option Elab.async false
set_option linter.all false
set_option maxRecDepth 100000
set_option maxHeartbeats 4000000
namespace T03
open PySem PySem.Spec PyProof.Rows L2 Tp
theorem val_lt : ∀ (r : List Nat), r.reverse.all isDig = true → NumText.digitsVal r.reverse < 10 ^ r.length
  | [], _ => by decide
  | c :: r, h => by
    rw [List.reverse_cons] at h ⊢
    rw [List.all_append, Bool.and_eq_true] at h
    have ih := val_lt r h.1
    have h2 : isDig c = true := by simpa using h.2
    have h2' := of_decide_eq_true h2
    rw [val_snoc, List.length_cons, Nat.pow_succ]
    omega
theorem val_lt' {l : List Nat} (h : l.all isDig = true) : NumText.digitsVal l < 10 ^ l.length := by
  have q := val_lt l.reverse (by rw [List.reverse_reverse]; exact h)
  rwa [List.reverse_reverse, List.length_reverse] at q
theorem val_30 {l : List Nat} (h : l.all isDig = true) (hl : l.length ≤ 30) : NumText.digitsVal l < 10 ^ 30 := Nat.lt_of_lt_of_le (val_lt' h) (Nat.pow_le_pow_right (by decide) hl)
/-- what a text is worth: None, or an int below 10 ** 30 -/
theorem whole_cases (l : List Nat) (lo hi : Int) : whole l lo hi = .non ∨ ∃ n : Nat, whole l lo hi = .int (n : Int) ∧ n < 10 ^ 30 := by
  unfold whole
  split
  · rename_i h
    split
    · exact .inr ⟨_, rfl, val_30 h.2.2.1 h.2.1⟩
    · exact .inl rfl
  · exact .inl rfl
theorem whole_top (l : List Nat) : whole l (0 - 5) (10 ^ 30 - 1) = whole l 0 (10 ^ 30) := by
  unfold whole
  split
  · rename_i h
    have := val_30 h.2.2.1 h.2.1
    rw [if_pos (by omega), if_pos (by omega)]
  · rfl
theorem whole_flat (l : List Nat) (lo hi : Int) : isFlat (whole l lo hi) = true := by
  rcases whole_cases l lo hi with e | ⟨n, e, _⟩ <;> rw [e] <;> rfl
theorem whole_nice (l : List Nat) (lo hi : Int) : Nice 1000 0 (dV (whole l lo hi)) := by
  rcases whole_cases l lo hi with e | ⟨n, e, h⟩
  · rw [e]
    exact nice_none.mono (by decide) (by decide)
  · rw [e]
    refine nice_int ?_
    show n.log2 < 1000
    by_cases h0 : n = 0
    · rw [h0]
      decide
    · exact Nat.lt_trans ((Nat.log2_lt h0).mpr (Nat.lt_trans h (by decide : 10 ^ 30 < 2 ^ 100))) (by decide)
theorem nice5 {a b c d e : PyData} (h1 : Nice 1000 0 a) (h2 : Nice 1000 0 b) (h3 : Nice 1000 0 c) (h4 : Nice 1000 0 d) (h5 : Nice 1000 0 e) : Nice 6000 1 (.list [a, b, c, d, e]) :=
  (NiceAll.cons h1 (.cons h2 (.cons h3 (.cons h4 (.cons h5 niceAll_nil))))).list.mono (by decide) (by decide)
theorem ok_dec {c : Prop} [Decidable c] {Q : VK} {H : Hp} (hc : c) (h : Q (.bl true) H) : Q (.bl (decide c)) H := by
  rw [decide_eq_true hc]
  exact h
def spIr : Sp := fun vs H Q _ => ∃ (p : Addr) (n : Nat), vs = [.ref p] ∧ BoxAt H p n ∧ n ≤ 5000 ∧ ∀ H', BoxAt H' p (n + 70) → Keep p H H' → Q (.bl true) H'
abbrev sIr : Stmt := top 44
abbrev nIr : List Str := ["_law_box_here", "_law_line", "_law_plain", "_law_middle", "_law_floor", "_law_roof", "_law_found", "_law_due"]
section
variable {P : Program} {w : World} {K : PySem.W.Frag} {mg : Str → Option Value} {base : Heap} {f : Addr} {fd : FuncData}
theorem scIr : FnScope nIr ["_law_box_here"] (defScope sIr) := ⟨rfl, rfl, rfl, by decide +kernel, rfl, by decide +kernel, by decide +kernel⟩
theorem ok_ir {fP : Addr} {fdP : FuncData} (F : Fun K "_law_integers_right" "_law_integers_right" sIr f fd) (T : TxtLaw K mg) (C : Cg P w K mg base 1 "_law_take" spTake) (D : Cg P w K mg base 2 "_law_digits" spDg) (W : Cg P w K mg base 1 "_law_whole" spWh)
    (FP : FPi K fP fdP) (GP : FnOk P w K mg base CX0 1 fP fdP ["text", "low", "high"] (spPi K)) (gP : mg "parse_integer" = some (.ref fP)) : FnG P w K mg base CX0 3 f fd ["_law_box_here"] spIr := by
  refine FunG.ok F scIr (fun vs H Q E h => ?_) (fun cdv B out s H vs Q E hr hG h => ?_)
  · obtain ⟨p, n, rfl, _⟩ := h
    rfl
  · obtain ⟨p, n, rfl, hb, hn, q⟩ := h
    have hr1 := hr.mono (show 1 ≤ 2 by decide)
    obtain ⟨ds0, v0, b0⟩ := bPi0 FP
    obtain ⟨_, bL⟩ := bPiL FP
    obtain ⟨_, bH⟩ := bPiH FP
    obtain ⟨_, bB⟩ := bPiB FP
    obtain ⟨_, bR⟩ := bPiR FP
    refine ⟨_, pss_cons (ps_set (i := 1) scIr.nd rfl (.inl rfl) (pe_g D hr hG (by decide) (by rfl) (pa_cons (pv 0) pa_nil)))
      (pss_cons (ps_set (i := 2) scIr.nd rfl (.inl rfl) (pe_g W hr hG (by decide) (by rfl) (pa_cons (pv 1) (pa_cons pe_int (pa_cons (pe_op op_pow pe_int pe_int) pa_nil)))))
      (C8.pss_cut (ps_set (i := 3) scIr.nd rfl (.inl rfl) (pe_ifExp (pt_cmpR op_notN (pv 2) pe_non (nomark _)) (pv 2) pe_int))
      (pss_cons (ps_set (i := 4) scIr.nd rfl (.inl rfl) (pe_callB (call_min2 rfl) (by rfl) T.min (by decide +kernel) (pa_cons (pe_op op_sub (pe_op op_pow pe_int pe_int) pe_int) (pa_cons (pe_op op_add (pe_op op_sub (pv 3) (pe_g C hr hG (by decide) (by rfl) (pa_cons (pv 0) (pa_cons pe_int pa_nil)))) pe_int) pa_nil))))
      (pss_cons (ps_set (i := 5) scIr.nd rfl (.inl rfl) (pe_callB (call_min2 rfl) (by rfl) T.min (by decide +kernel) (pa_cons (pe_op op_sub (pe_op op_pow pe_int pe_int) pe_int) (pa_cons (pe_op op_sub (pe_op op_add (pv 3) (pe_g C hr hG (by decide) (by rfl) (pa_cons (pv 0) (pa_cons pe_int pa_nil)))) pe_int) pa_nil))))
      (pss_cons (ps_set (i := 6) scIr.nd rfl (.inl rfl) (pe_lst (pa_cons (pe_call GP hr1 (by rfl) gP FP.kp b0 v0 pass0 (pa_cons (pv 1) pa_nil)) (pa_cons (pe_callN GP hr1 (by rfl) gP FP.kp bL pass0 (pa_cons (pv 1) pa_nil) (pk_cons (pv 4) pk_nil))
        (pa_cons (pe_callN GP hr1 (by rfl) gP FP.kp bH pass0 (pa_cons (pv 1) pa_nil) (pk_cons (pv 5) pk_nil)) pa_nil)))))
      (pss_cons (ps_set (i := 6) scIr.nd rfl (.inl rfl) (pe_op op_cat (pv 6) (pe_lst (pa_cons (pe_callN0 GP hr1 (by rfl) gP FP.kp bR pass0 (pk_cons (pv 5) (pk_cons (pv 4) (pk_cons (pv 1) pk_nil))))
        (pa_cons (pe_callN GP hr1 (by rfl) gP FP.kp bB pass0 (pa_cons (pv 1) pa_nil) (pk_cons (pe_op op_sub pe_int pe_int) (pk_cons (pe_op op_sub (pe_op op_pow pe_int pe_int) pe_int) pk_nil))) pa_nil)))))
      (pss_cons (ps_set (i := 7) scIr.nd rfl (.inl rfl) (pe_lst (pa_cons (pe_g W hr hG (by decide) (by rfl) (pa_cons (pv 1) (pa_cons pe_int (pa_cons pe_int pa_nil)))) (pa_cons (pe_g W hr hG (by decide) (by rfl) (pa_cons (pv 1) (pa_cons (pv 4) (pa_cons pe_int pa_nil))))
        (pa_cons (pe_g W hr hG (by decide) (by rfl) (pa_cons (pv 1) (pa_cons pe_int (pa_cons (pv 5) pa_nil)))) pa_nil)))))
      (pss_cons (ps_set (i := 7) scIr.nd rfl (.inl rfl) (pe_op op_cat (pv 7) (pe_lst (pa_cons (pe_g W hr hG (by decide) (by rfl) (pa_cons (pv 1) (pa_cons (pv 4) (pa_cons (pv 5) pa_nil)))) (pa_cons (pv 2) pa_nil)))))
      (pss_one (ps_ret (pe_cmpR op_eq (pe_callB (call_repr hr hG) (by rfl) T.repr (by decide +kernel) (pa_cons (pv 6) pa_nil)) (pe_callB (call_repr hr hG) (by rfl) T.repr (by decide +kernel) (pa_cons (pv 7) pa_nil)) (nomark _)))))))))))), ?_⟩
    refine ⟨_, rfl, p, n, rfl, hb, by omega, fun z H1 tz hb1 k1 => ?_⟩
    have hzl := tz.len
    refine ⟨_, rfl, _, _, rfl, rfl, ⟨by decide, by decide, by decide⟩, z, _, _, rfl, by omega, ?_⟩
    -- the middle is an int
    refine ⟨fun σ G => G = H1 ∧ ∃ m : Int, σ = [some (.ref p), some (.str z), some (whole (TL.tl z) 0 (10 ^ 30)), some (.int m), none, none, none, none], ?_, ?_⟩
    · refine ⟨_, rfl, rfl, _, rfl, ?_⟩
      rcases whole_cases (TL.tl z) 0 (10 ^ (30 : Int).toNat) with e | ⟨m, e, _⟩
      · refine if_false_of (by rw [e]; rfl) ?_
        exact ⟨rfl, 7, rfl⟩
      · refine if_true_of (by rw [e]; rfl) ?_
        exact ⟨_, rfl, rfl, m, by rw [← e]; rfl⟩
    rintro σ G ⟨rfl, m, rfl⟩
    refine ⟨_, _, rfl, rfl, ⟨by decide, by decide, by decide⟩, _, _, rfl, rfl, _, rfl, ?_⟩
    refine ⟨_, rfl, p, 3, n + 60, rfl, hb1, by decide, by decide, by omega, fun d2 H2 a2 b2 hb2 k2 => ?_⟩
    refine ⟨_, _, rfl, rfl, _, _, rfl, rfl, _, _, rfl, ?_⟩
    generalize (if m - d2 + 1 < 10 ^ (30 : Int).toNat - 1 then m - d2 + 1 else 10 ^ (30 : Int).toNat - 1) = fl
    refine ⟨_, _, rfl, rfl, ⟨by decide, by decide, by decide⟩, _, _, rfl, rfl, _, rfl, ?_⟩
    refine ⟨_, rfl, p, 3, n + 61, rfl, hb2, by decide, by decide, by omega, fun d3 H3 a3 b3 hb3 k3 => ?_⟩
    refine ⟨_, _, rfl, rfl, _, _, rfl, rfl, _, _, rfl, ?_⟩
    generalize (if m + d3 - 1 < 10 ^ (30 : Int).toNat - 1 then m + d3 - 1 else 10 ^ (30 : Int).toNat - 1) = rf
    have kp3 : Keep p H H3 := k1.trans ((keep_of k2).trans (keep_of k3))
    -- what the program finds
    refine ⟨_, rfl, _, _, _, rfl, .inl ⟨z, rfl, by omega, fun H4 k4 => ?_⟩⟩
    refine ⟨_, rfl, _, rfl, rfl, rfl, _, _, _, rfl, .inl ⟨z, rfl, by omega, fun H5 k5 => ?_⟩⟩
    refine ⟨_, rfl, _, rfl, rfl, rfl, _, _, _, rfl, .inl ⟨z, rfl, by omega, fun H6 k6 => ?_⟩⟩
    refine ⟨(by show 3 ≤ sizeLine; decide), fun l1 e1 => ?_⟩
    refine ⟨_, rfl, _, rfl, _, rfl, _, rfl, rfl, rfl, _, _, _, rfl, .inl ⟨z, rfl, by omega, fun H7 k7 => ?_⟩⟩
    refine ⟨_, rfl, _, _, rfl, rfl, _, _, rfl, rfl, ⟨by decide, by decide, by decide⟩, _, _, rfl, rfl, rfl, rfl, _, _, _, rfl, .inl ⟨z, rfl, by omega, fun H8 k8 => ?_⟩⟩
    refine ⟨(by show 2 ≤ sizeLine; decide), fun l2 e2 => ?_⟩
    have h8 : H8 l1 = some (.lst [whole (TL.tl z) 0 999999, whole (TL.tl z) fl 999999, whole (TL.tl z) 0 rf]) := k8 _ _ (k7 _ _ upd_same)
    have hb8 : BoxAt H8 p (n + 62) := (((((hb3.keep k4).keep k5).keep k6).new e1).keep k7).keep k8
    have kp8 : Keep p H H8 := kp3.trans ((Keep.of k4).trans ((Keep.of k5).trans ((Keep.of k6).trans ((Keep.new e1).trans ((Keep.of k7).trans (Keep.of k8))))))
    refine ⟨l1, l2, _, _, rfl, rfl, Same.put e2 _ _ h8, upd_same, (by show 3 + 2 ≤ sizeLine; decide), fun l3 e3 => ?_⟩
    generalize hG9 : upd (upd H8 l2 (.lst [whole (TL.tl z) fl rf, whole (TL.tl z) (0 - 5) (10 ^ (30 : Int).toNat - 1)])) l3
      (.lst ([whole (TL.tl z) 0 999999, whole (TL.tl z) fl 999999, whole (TL.tl z) 0 rf] ++ [whole (TL.tl z) fl rf, whole (TL.tl z) (0 - 5) (10 ^ (30 : Int).toNat - 1)])) = H9
    have h9 : H9 l3 = some (.lst [whole (TL.tl z) 0 999999, whole (TL.tl z) fl 999999, whole (TL.tl z) 0 rf, whole (TL.tl z) fl rf, whole (TL.tl z) (0 - 5) (10 ^ (30 : Int).toNat - 1)]) := by
      rw [← hG9]
      exact upd_same
    have hb9 : BoxAt H9 p (n + 62) := by
      rw [← hG9]
      exact (hb8.new e2).new e3
    have kp9 : Keep p H H9 := by
      rw [← hG9]
      exact kp8.trans ((Keep.new e2).trans (Keep.new e3))
    -- what is due
    refine ⟨_, rfl, z, _, _, rfl, by omega, ?_⟩
    refine ⟨_, rfl, _, rfl, z, _, _, rfl, by omega, ?_⟩
    refine ⟨_, rfl, _, rfl, z, _, _, rfl, by omega, ?_⟩
    refine ⟨(by show 3 ≤ sizeLine; decide), fun l4 e4 => ?_⟩
    refine ⟨_, rfl, _, rfl, _, rfl, _, rfl, z, _, _, rfl, by omega, ?_⟩
    refine ⟨_, rfl, (by show 2 ≤ sizeLine; decide), fun l5 e5 => ?_⟩
    refine ⟨l4, l5, _, _, rfl, rfl, Same.put e5 _ _ upd_same, upd_same, (by show 3 + 2 ≤ sizeLine; decide), fun l6 e6 => ?_⟩
    have s6 : ∀ o4 o5 o6, Same H9 (upd (upd (upd H9 l4 o4) l5 o5) l6 o6) := fun o4 o5 o6 c o hc => by
      have c4 : c ≠ l4 := ne_of_none hc e4
      have q4 := upd_ne (o := o4) (H := H9) c4
      have c5 : c ≠ l5 := fun e => by
        rw [e] at q4 hc
        have e5' := e5
        rw [upd_ne (e ▸ c4)] at e5'
        rw [e5'] at hc
        cases hc
      have c6 : c ≠ l6 := fun e => by
        rw [e] at hc
        have e6' := e6
        rw [upd_ne (e ▸ c5), upd_ne (e ▸ c4)] at e6'
        rw [e6'] at hc
        cases hc
      rw [upd_ne c6, upd_ne c5, upd_ne c4]
      exact hc
    have n5 : ∀ a b : Int, ∀ c d : Int, Nice 6000 1 (.list [dV (whole (TL.tl z) 0 999999), dV (whole (TL.tl z) a 999999), dV (whole (TL.tl z) 0 b), dV (whole (TL.tl z) a b), dV (whole (TL.tl z) c d)]) := fun a b c d =>
      nice5 (whole_nice _ _ _) (whole_nice _ _ _) (whole_nice _ _ _) (whole_nice _ _ _) (whole_nice _ _ _)
    have fl5 : ∀ a b c d : Int, ([whole (TL.tl z) 0 999999, whole (TL.tl z) a 999999, whole (TL.tl z) 0 b, whole (TL.tl z) a b, whole (TL.tl z) c d]).all isFlat = true := fun a b c d => by
      simp only [List.all_cons, List.all_nil, whole_flat, Bool.and_self]
    have nn := n5 fl rf (0 - 5) (10 ^ (30 : Int).toNat - 1)
    have nd := n5 fl rf 0 (10 ^ (30 : Int).toNat)
    refine ⟨_, rfl, l3, _, rfl, Dp.lst (SqL.of (s6 _ _ _ _ _ h9)) (dpAll_flat (fl5 _ _ _ _)), nn.sh, Nat.le_trans nn.dp (by decide), nn.fits (by decide), ?_⟩
    refine ⟨_, rfl, l6, _, rfl, Dp.lst (SqL.of upd_same) (dpAll_flat (fl5 _ _ _ _)), nd.sh, Nat.le_trans nd.dp (by decide), nd.fits (by decide), ?_⟩
    refine ⟨rfl, ?_⟩
    have eq : (PyData.list ([whole (TL.tl z) 0 999999, whole (TL.tl z) fl 999999, whole (TL.tl z) 0 rf, whole (TL.tl z) fl rf, whole (TL.tl z) (0 - 5) (10 ^ (30 : Int).toNat - 1)].map dV)).shown =
        (PyData.list ([whole (TL.tl z) 0 999999, whole (TL.tl z) fl 999999, whole (TL.tl z) 0 rf, whole (TL.tl z) fl rf, whole (TL.tl z) 0 (10 ^ 30)].map dV)).shown := by
      have e := whole_top (TL.tl z)
      have e2 : (10 : Int) ^ (30 : Int).toNat = 10 ^ 30 := rfl
      rw [e2, e]
    exact ok_dec (Q := Q) (congrArg V.str eq) (q _ ((hb9.keep (s6 _ _ _)).mono (by omega)) (kp9.trans (Keep.of (s6 _ _ _))))
end
end T03
set_option Elab.async false
set_option linter.all false
set_option maxRecDepth 100000
set_option maxHeartbeats 4000000
namespace T03
open PySem PySem.Spec PyProof.Rows L2 Tp
abbrev let1 : Str := "abcdefghijklmnopqrstuvwxyzABCDEFGHIJKLMNOPQRSTUVWXYZ0123456789"
abbrev let2 : Str := " !\"#$&'()*+,-./:;<=>?\x40[\\]^_`{|}~"
theorem let_tz : Tz 100 (let1 ++ let2) := by
  have h1 : Tz 62 let1 := ⟨by decide +kernel, by decide +kernel⟩
  have h2 : Tz 38 let2 := ⟨by decide +kernel, by decide +kernel⟩
  exact h1.app h2
theorem let_len : (let1 ++ let2).length = (TL.tl let1).length + (TL.tl let2).length := by
  rw [TL.len_tl, TL.tl_append, List.length_append]
theorem let_pos : 0 < (let1 ++ let2).length ∧ (let1 ++ let2).length ≤ 100 := by
  rw [let_len]
  decide +kernel
def rLenK (K : PySem.W.Frag) : List V → Hp → VK → Prop := fun xs H Q => ∃ x n, xs = [x] ∧ LenV K x H n ∧ Q (.int (n : Nat)) H
theorem call_lenK {X : Cx} {K : PySem.W.Frag} (h : X.K = K) : CallR X (.builtin "len") (rLenK K) := by
  subst h
  exact call_len
theorem sw_none {K : PySem.W.Frag} {y m : Str} {H : Hp} {Q : VK} {E : XK} (h1 : y.length ≤ 5000) (h2 : m.length = 1) (hk : swOk y m = false) (h : ∀ H', Same H H' → Q .non H') : spSw K [.str y, .str m] H Q E :=
  ⟨_, _, rfl, .inl ⟨y, rfl, h1, h2, fun _ => h _ (Same.refl _), fun _ => h, fun e => by rw [hk] at e; cases e⟩⟩
def spWr : Sp := fun vs H Q _ => ∃ (p : Addr) (n : Nat), vs = [.ref p] ∧ BoxAt H p n ∧ n ≤ 5000 ∧ ∀ H', BoxAt H' p (n + 600) → Keep p H H' → Q (.bl true) H'
abbrev sWr : Stmt := top 45
abbrev nWr : List Str := ["_law_box_here", "_law_letters", "_law_mark", "_law_words", "_law_k", "_law_word", "_law_plain", "_law_line", "_law_way", "_law_at", "_law_some", "_law_due", "_law_found", "_law_j"]
section
variable {P : Program} {w : World} {K : PySem.W.Frag} {mg : Str → Option Value} {base : Heap} {f : Addr} {fd : FuncData}
theorem scWr : FnScope nWr ["_law_box_here"] (defScope sWr) := ⟨rfl, rfl, rfl, by decide +kernel, rfl, by decide +kernel, by decide +kernel⟩
theorem ok_wr {fP : Addr} {fdP : FuncData} (F : Fun K "_law_words_right" "_law_words_right" sWr f fd) (T : TxtLaw K mg) (C : Cg P w K mg base 1 "_law_take" spTake)
    (FP : FSw K fP fdP) (GP : FnOk P w K mg base CX0 1 fP fdP ["text", "separator"] (spSw K)) (gP : mg "split_words" = some (.ref fP)) : FnG P w K mg base CX0 3 f fd ["_law_box_here"] spWr := by
  refine FunG.ok F scWr (fun vs H Q E h => ?_) (fun cdv B out s H vs Q E hr hG h => ?_)
  · obtain ⟨p, n, rfl, _⟩ := h
    rfl
  · obtain ⟨p, n, rfl, hb, hn, q⟩ := h
    have hr1 := hr.mono (show 1 ≤ 2 by decide)
    obtain ⟨ds0, v0, b0⟩ := bSw0 FP
    obtain ⟨_, bB⟩ := bSwB FP
    obtain ⟨_, bR⟩ := bSwR FP
    refine ⟨_, (pss_cons (ps_set (i := 1) scWr.nd rfl (.inr rfl) pe_str)
      (pss_cons (ps_set (i := 1) scWr.nd rfl (.inr rfl) (pe_op op_add_str (pv 1) pe_str))
      (pss_cons (ps_set (i := 2) scWr.nd rfl (.inr rfl) (pe_ix ix_list (pe_lst (pa_cons pe_str (pa_cons pe_str (pa_cons pe_str (pa_cons (pe_ix ix_str (pv 1) (pe_g C hr hG (by decide) (by rfl) (pa_cons (pv 0) (pa_cons (pe_callB call_len (by rfl) T.len PySem.boot_len (pa_cons (pv 1) pa_nil)) pa_nil))) fun _ _ => rfl) pa_nil))))) (pe_g C hr hG (by decide) (by rfl) (pa_cons (pv 0) (pa_cons pe_int pa_nil))) fun _ _ => rfl))
      (pss_cons (ps_set (i := 3) scWr.nd rfl (.inl rfl) (pe_lst pa_nil))
      (pss_cons (ps_for PassesOwn.never rfl (pi_range1 (by rfl) T.range (pa_cons (pe_op op_add pe_int (pe_g C hr hG (by decide) (by rfl) (pa_cons (pv 0) (pa_cons (pe_ix ix_list (pe_lst (pa_cons pe_int (pa_cons pe_int pa_nil))) (pe_g C hr hG (by decide) (by rfl) (pa_cons (pv 0) (pa_cons pe_int pa_nil))) fun _ _ => rfl) pa_nil)))) pa_nil)) (pg_name (i := 4) scWr.nd rfl (Or.inl rfl)) (pss_cons (ps_set (i := 5) scWr.nd rfl (.inl rfl) (pe_join pe_str (pe_lc (own := [("_law_j", 13)]) (g := gName 13) (tt := tYes) rfl scWr.nd (pi_range1 (by rfl) T.range (pa_cons (pe_op op_add pe_int (pe_g C hr hG (by decide) (by rfl) (pa_cons (pv 0) (pa_cons pe_int pa_nil)))) pa_nil)) (blkOk_by (N := nWr) (sc := defScope sWr) (by decide +kernel)) (fun _ _ _ _ _ => pg_name (i := 13) scWr.nd rfl (Or.inl rfl)) (fun _ _ _ _ _ => pts_nil) (fun _ _ _ _ _ => (pe_ix ix_str (pv 1) (pe_g C hr hG (by decide) (by rfl) (pa_cons (pv 0) (pa_cons (pe_callB (call_lenK (K := K) rfl) (by rfl) T.len PySem.boot_len (pa_cons (pv 1) pa_nil)) pa_nil))) fun _ _ => rfl)))))
      (pss_one (ps_expr (pe_bm PySem.F.plainAttrs_list PySem.F.slot_list_append PySem.F.type_list_append mt_append (pv 3) (pa_cons (pv 5) pa_nil))))))
      (pss_cons (ps_setLc (i := 6) (own := [("_law_word", 5)]) (g := gName 5) rfl scWr.nd rfl rfl (sw_true rfl rfl rfl (by decide +kernel)) (pi_list (pv 3)) (blkOk_by (N := nWr) (sc := defScope sWr) (by decide +kernel)) (fun _ _ _ _ _ => pg_name (i := 5) scWr.nd rfl (Or.inl rfl)) (fun _ _ _ _ _ => (pts_one (pt_cmpR op_notIn_sign (pv 2) (pv 5) rfl))) (fun _ _ _ _ _ => (pv 5)))
      (pss_cons (ps_set (i := 7) scWr.nd rfl (.inl rfl) (pe_join (pv 2) (pv 3)))
      (pss_cons (ps_par (i := 8) (j := 9) rfl scWr.nd rfl rfl (by decide) rfl rfl (pa_cons (pe_g C hr hG (by decide) (by rfl) (pa_cons (pv 0) (pa_cons pe_int pa_nil))) (pa_cons (pe_g C hr hG (by decide) (by rfl) (pa_cons (pv 0) (pa_cons (pe_op op_add (pe_callB call_len (by rfl) T.len PySem.boot_len (pa_cons (pv 7) pa_nil)) pe_int) pa_nil))) pa_nil)) (by rfl))
      (pss_cons (ps_set (i := 10) scWr.nd rfl (.inl rfl) (pe_lst (pa_cons (pv 7) (pa_cons (pe_op op_add_str (pe_op op_add_str (pe_slice sl_str (pv 7) po_none (po_some (pv 9))) (pv 2)) (pe_slice sl_str (pv 7) (po_some (pv 9)) po_none)) (pa_cons (pe_op op_add_str (pv 7) (pv 2)) (pa_cons (pe_op op_add_str (pv 2) (pv 7)) (pa_cons (pe_op op_add_str (pe_op op_add_str (pe_slice sl_str (pv 7) po_none (po_some (pv 9))) pe_str) (pe_slice sl_str (pv 7) (po_some (pv 9)) po_none)) pa_nil)))))))
      (pss_cons (ps_set (i := 7) scWr.nd rfl (.inl rfl) (pe_ix ix_list (pe_op op_cat (pv 10) (pe_lst (pa_cons (pe_join (pv 2) (pv 6)) pa_nil))) (pv 8) fun _ _ => rfl))
      (pss_cons (ps_set (i := 11) scWr.nd rfl (.inl rfl) (pe_split (pv 7) (pv 2)))
      (pss_cons (ps_if (PW.pt (pw_or (pt_cmpR op_in_seq pe_str (pv 11) rfl) (pw_or1 (pt_cmpR op_in_sign pe_str (pv 7) rfl)))) (pss_one (ps_set (i := 11) scWr.nd rfl (.inl rfl) pe_non)) pss_nil)
      (pss_cons (ps_set (i := 12) scWr.nd rfl (.inl rfl) (pe_lst (pa_cons (pe_callN GP hr1 (by rfl) gP FP.kp bB pass0 (pa_cons (pv 7) pa_nil) (pk_cons (pv 2) pk_nil)) (pa_cons (pe_callN0 GP hr1 (by rfl) gP FP.kp bR pass0 (pk_cons (pv 2) (pk_cons (pv 7) pk_nil))) pa_nil))))
      (pss_cons (ps_if (pt_cmpR op_eq (pv 2) pe_str (nomark _)) (pss_cons (ps_expr (pe_bm PySem.F.plainAttrs_list PySem.F.slot_list_append PySem.F.type_list_append mt_append (pv 12) (pa_cons (pe_call GP hr1 (by rfl) gP FP.kp b0 v0 pass0 (pa_cons (pv 7) pa_nil)) pa_nil)))
      (pss_one (ps_ret (pe_cmpR op_eq (pe_callB (call_repr hr hG) (by rfl) T.repr (by decide +kernel) (pa_cons (pv 12) pa_nil)) (pe_callB (call_repr hr hG) (by rfl) T.repr (by decide +kernel) (pa_cons (pe_lst (pa_cons (pv 11) (pa_cons (pv 11) (pa_cons (pv 11) pa_nil)))) pa_nil)) (nomark _))))) pss_nil)
      (pss_one (ps_ret (pe_cmpR op_eq (pe_callB (call_repr hr hG) (by rfl) T.repr (by decide +kernel) (pa_cons (pv 12) pa_nil)) (pe_callB (call_repr hr hG) (by rfl) T.repr (by decide +kernel) (pa_cons (pe_lst (pa_cons (pv 11) (pa_cons (pv 11) pa_nil))) pa_nil)) (nomark _)))))))))))))))))), ?_⟩
    -- letters, the mark
    have lp := let_pos
    have ltz := let_tz
    have hl2 : let1.length + let2.length ≤ 100 := by
      have := lp.2
      rwa [strLen_append] at this
    refine ⟨_, rfl, _, _, rfl, rfl, by rw [PySem.sizeLine_eq]; exact Nat.le_trans hl2 (by decide), ?_⟩
    generalize (let1 ++ let2) = L at lp ltz
    have hL1 : ((L.length : Nat) : Int).natAbs.log2 < 1000 := by
      have := Nat.log2_le_self ((L.length : Nat) : Int).natAbs
      omega
    refine ⟨_, rfl, _, rfl, _, rfl, _, _, rfl, ⟨by rw [PySem.sizeLine_eq]; omega, rfl⟩, p, _, n, rfl, hb, by omega, hL1, by omega, fun d1 H1 a1 b1 hb1 k1 => ?_⟩
    obtain ⟨c1, hc1, ac1⟩ := atI_in (xs := TL.tl L) a1 (by rw [← TL.len_tl]; exact b1)
    refine ⟨_, _, _, rfl, rfl, by rw [PySem.sizeLine_eq]; omega, ac1, ?_⟩
    refine ⟨(by show 4 ≤ sizeLine; decide), fun l0 e0 => ?_⟩
    refine ⟨_, rfl, p, 4, n + 1, rfl, hb1.new e0, by decide, by decide, by omega, fun d2 H2 a2 b2 hb2 k2 => ?_⟩
    have np0 : l0 ≠ p := (hb1.ne e0).symm
    obtain ⟨v, hv, av⟩ := atI_in (xs := [V.str " ", .str ":", .str ",", .str ⟨#[c1]⟩]) a2 b2
    obtain ⟨c, rfl, hc⟩ : ∃ c : Nat, v = .str ⟨#[c]⟩ ∧ c < 256 := by
      simp only [List.mem_cons, List.not_mem_nil, or_false] at hv
      rcases hv with e | e | e | e
      · exact ⟨32, by rw [e]; exact congrArg V.str (TL.ext_tl (by decide +kernel)), by decide⟩
      · exact ⟨58, by rw [e]; exact congrArg V.str (TL.ext_tl (by decide +kernel)), by decide⟩
      · exact ⟨44, by rw [e]; exact congrArg V.str (TL.ext_tl (by decide +kernel)), by decide⟩
      · exact ⟨c1, e, ltz.sm c1 hc1⟩
    have h2l : H2 l0 = some (.lst [V.str " ", .str ":", .str ",", .str ⟨#[c1]⟩]) := by rw [k2 l0 np0]; exact upd_same
    refine ⟨l0, _, _, _, rfl, rfl, SqL.of h2l, av, ?_⟩
    have kp2 : Keep p H H2 := (keep_of k1).trans ((Keep.new e0).trans (keep_of k2))
    -- the words
    refine ⟨(by show 0 ≤ sizeLine; decide), fun lw ew => ?_⟩
    refine ⟨_, rfl, (by show 2 ≤ sizeLine; decide), fun l3 e3 => ?_⟩
    refine ⟨_, rfl, p, 2, n + 2, rfl, (hb2.new ew).new e3, by decide, by decide, by omega, fun d4 H4 a4 b4 hb4 k4 => ?_⟩
    have npw : lw ≠ p := (hb2.ne ew).symm
    have np3 : l3 ≠ p := ((hb2.new ew).ne e3).symm
    have nw3 : lw ≠ l3 := ne_of_none (show upd H2 lw (.lst []) lw = some (.lst []) from upd_same) e3
    have h4w : H4 lw = some (.lst []) := by rw [k4 lw npw, upd_ne nw3]; exact upd_same
    have h43 : H4 l3 = some (.lst [.int 4, .int 40]) := by rw [k4 l3 np3]; exact upd_same
    obtain ⟨m4, hm4, am4⟩ := atI_in (xs := [V.int 4, .int 40]) a4 b4
    obtain ⟨m, rfl, hm0, hm1⟩ : ∃ m : Int, m4 = .int m ∧ 0 < m ∧ m ≤ 40 := by
      simp only [List.mem_cons, List.not_mem_nil, or_false] at hm4
      rcases hm4 with e | e <;> subst e <;> exact ⟨_, rfl, by decide, by decide⟩
    have lg : m.natAbs.log2 < 1000 := by
      have := Nat.log2_le_self m.natAbs
      omega
    refine ⟨l3, _, _, _, rfl, rfl, SqL.of h43, am4, p, m, n + 3, rfl, hb4, hm0, lg, by omega, fun d5 H5 a5 b5 hb5 k5 => ?_⟩
    refine ⟨_, _, rfl, rfl, _, rfl, by omega, by omega, ?_⟩
    have h5w : H5 lw = some (.lst []) := by rw [k5 lw npw]; exact h4w
    have kp5 : Keep2 p lw H2 H5 := ((Keep2.of (Keep.new ew)).next ((Keep.new e3).trans ((keep_of k4).trans (keep_of k5))))
    have nwp := npw
    refine for_range (lo := 0) (n := (1 + d5).toNat) (fun i σ G => BoxAt G p (n + 10 + 10 * i) ∧ Keep2 p lw H2 G ∧ ∃ ws : List Str, G lw = some (.lst (ws.map V.str)) ∧ ws.length = i ∧ (∀ y ∈ ws, Tz 5 y) ∧
      ∃ o4 o5, σ = [some (.ref p), some (.str L), some (.str ⟨#[c]⟩), some (.ref lw), o4, o5, none, none, none, none, none, none, none, none])
      ⟨hb5.mono (by omega), kp5, [], h5w, rfl, fun y hy => absurd hy List.not_mem_nil, none, none, rfl⟩ ?_ ?_
    · rintro i σ G hi ⟨gb, gk, ws, gw, gl, gt, o4, o5, rfl⟩
      refine ⟨⟨_, rfl⟩, _, rfl, p, 5, n + 10 + 10 * i, rfl, gb, by decide, by decide, by omega, fun d6 G1 a6 b6 gb1 gk1 => ?_⟩
      refine ⟨_, _, rfl, rfl, _, rfl, by omega, by omega, fun D hD => ?_⟩
      have npD : D ≠ p := (gb1.ne hD).symm
      have gw1 : G1 lw = some (.lst (ws.map V.str)) := by rw [gk1 lw npw]; exact gw
      have nDw : lw ≠ D := ne_of_none gw1 hD
      refine lc_range (lo := 0) (n := (1 + d6).toNat) (fun j M => BoxAt M p (n + 11 + 10 * i + j) ∧ Keep2 p D G1 M ∧ ∃ ys : List Str, M D = some (.lst (ys.map V.str)) ∧ ys.length = j ∧ ∀ y ∈ ys, Tz 1 y)
        ⟨(gb1.mono (by omega)).new hD, Keep2.of (Keep.new hD), [], upd_same, rfl, fun y hy => absurd hy List.not_mem_nil⟩ ?_ ?_
      · rintro j M hj ⟨mb, mk, ys, mD, ml, mt⟩
        refine ⟨rfl, _, rfl, _, rfl, _, rfl, _, _, rfl, ⟨by rw [PySem.sizeLine_eq]; omega, rfl⟩, p, _, n + 11 + 10 * i + j, rfl, mb, by omega, hL1, by omega, fun d M1 r1 r2 mb1 mk1 => ?_⟩
        obtain ⟨x, hx, ax⟩ := atI_in (xs := TL.tl L) r1 (by rw [← TL.len_tl]; exact r2)
        have mD1 : M1 D = some (.lst (ys.map V.str)) := by rw [mk1 D npD]; exact mD
        refine ⟨_, _, _, rfl, rfl, by rw [PySem.sizeLine_eq]; omega, ax, ys.map V.str, mD1, ?_, mb1.put npD, (mk.next (keep_of mk1)).put, ys ++ [⟨#[x]⟩], ?_, ?_, ?_⟩
        · rw [List.length_map, ml, PySem.sizeLine_eq]
          omega
        · rw [upd_same, List.map_append]
          rfl
        · rw [List.length_append, ml]
          rfl
        · intro y hy
          rcases List.mem_append.mp hy with z | z
          · exact mt y z
          · rw [List.mem_singleton.mp z]
            exact Tz.one (ltz.sm x hx)
      · rintro M ⟨mb, mk, ys, mD, ml, mt⟩
        have t0 : Tz 0 ("" : Str) := ⟨by decide +kernel, fun c hc => by rw [show TL.tl ("" : Str) = [] from by decide +kernel] at hc; exact absurd hc List.not_mem_nil⟩
        have tz : Tz 5 (Txt.join "" ys) := (Tz.join t0 mt).mono (by omega)
        have sm := sum_le mt
        have mw : M lw = some (.lst (ws.map V.str)) := mk _ _ npw nDw gw1
        refine ⟨_, D, ys, rfl, rfl, .inl (SqL.of mD), ?_, ?_⟩
        · rw [show ("" : Str).length = 0 from by decide +kernel]
          omega
        refine ⟨_, rfl, .inl ⟨rfl, _, SqL.of mw⟩, _, rfl, lw, _, _, rfl, rfl, mw, ?_, ?_, ?_, ws ++ [Txt.join "" ys], ?_, ?_, ?_, _, _, rfl⟩
        · rw [List.length_map, gl, PySem.sizeLine_eq]
          omega
        · exact (mb.mono (by omega)).put npw
        · exact ((gk.next ((keep_of gk1).trans (mk.fin hD)))).put
        · rw [upd_same, List.map_append]
          rfl
        · rw [List.length_append, gl]
          rfl
        · intro y hy
          rcases List.mem_append.mp hy with z | z
          · exact gt y z
          · rw [List.mem_singleton.mp z]
            exact tz
    · rintro σ G ⟨gb, gk, ws, gw, gl, gt, o4, o5, rfl⟩
      have gl40 : ws.length ≤ 40 := by omega
      have kpG : Keep p H G := kp2.trans (gk.fin ew)
      -- those without the mark
      refine ⟨_, rfl, lw, rfl, ⟨_, SqL.of gw⟩, fun D hD => ?_⟩
      have npD : D ≠ p := (gb.ne hD).symm
      have nDw : lw ≠ D := ne_of_none gw hD
      refine lc_list (xs := ws.map V.str) (fun i M => BoxAt M p (n + 500) ∧ Keep2 p D G M ∧ ∃ us : List Str, M D = some (.lst (us.map V.str)) ∧ us.length ≤ i ∧ ∀ y ∈ us, Tz 5 y)
        ⟨(gb.mono (by omega)).new hD, Keep2.of (Keep.new hD), [], upd_same, Nat.zero_le _, fun y hy => absurd hy List.not_mem_nil⟩ (fun i M _ hM => SqL.of (hM.2.1 _ _ npw nDw gw)) ?_ ?_
      · rintro i x M hx ⟨mb, mk, us, mD, ml, mt⟩
        rw [List.getElem?_map] at hx
        obtain ⟨y, hy, rfl⟩ := Option.map_eq_some_iff.mp hx
        have hi : i < ws.length := (List.getElem?_eq_some_iff.mp hy).1
        have hyw := gt y (List.mem_of_getElem? hy)
        refine ⟨rfl, _, rfl, _, rfl, c, y, rfl, rfl, _, rfl, ?_⟩
        refine ite2 (fun _ => ?_) (fun _ => ?_)
        · refine ⟨_, rfl, us.map V.str, mD, ?_, mb.put npD, mk.put, us ++ [y], ?_, ?_, ?_⟩
          · rw [List.length_map, PySem.sizeLine_eq]
            omega
          · rw [upd_same, List.map_append]
            rfl
          · rw [List.length_append]
            exact Nat.succ_le_succ ml
          · intro z hz
            rcases List.mem_append.mp hz with e | e
            · exact mt z e
            · rw [List.mem_singleton.mp e]
              exact hyw
        · exact ⟨mb, mk, us, mD, Nat.le_succ_of_le ml, mt⟩
      rintro M ⟨mb, mk, us, mD, ml, mt⟩
      rw [List.length_map] at ml
      have mw : M lw = some (.lst (ws.map V.str)) := mk _ _ npw nDw gw
      have kpM : Keep p H M := kpG.trans (mk.fin hD)
      have tc : Tz 1 (⟨#[c]⟩ : Str) := Tz.one hc
      have lc1 : (⟨#[c]⟩ : Str).length = 1 := rfl
      -- the line
      have tzl : Tz 240 (Txt.join ⟨#[c]⟩ ws) := (Tz.join tc gt).mono (by omega)
      have smw := sum_le gt
      refine ⟨_, rfl, ⟨_, rfl⟩, _, rfl, _, lw, ws, rfl, rfl, .inl (SqL.of mw), by rw [lc1]; omega, ?_⟩
      generalize Txt.join ⟨#[c]⟩ ws = z at tzl
      have hzl := tzl.len
      refine ⟨_, rfl, p, 6, n + 500, rfl, mb, by decide, by decide, by omega, fun way H6 a6 b6 hb6 k6 => ?_⟩
      refine ⟨_, rfl, _, rfl, _, _, rfl, ⟨by rw [PySem.sizeLine_eq]; omega, rfl⟩, _, _, rfl, rfl, p, _, n + 501, rfl, hb6, by omega, ?_, by omega, fun at' H7 a7 b7 hb7 k7 => ?_⟩
      · have := Nat.log2_le_self (((z.length : Nat) : Int) + 1).natAbs
        omega
      have kp7 : Keep p H H7 := kpM.trans ((keep_of k6).trans (keep_of k7))
      have h7D : H7 D = some (.lst (us.map V.str)) := by rw [k7 D npD, k6 D npD]; exact mD
      refine ⟨_, _, rfl, ?_⟩
      have t1 := tzl.cut none (some at')
      have t2 := t1.app tc
      have t3 := tzl.cut (some at') none
      have tn : Tz 1 ("\n" : Str) := ⟨by decide +kernel, by decide +kernel⟩
      have t5 := t1.app tn
      have l1 := t1.len
      have l2 := t2.len
      have l3' := t3.len
      have l5 := t5.len
      have ln := tn.len
      refine ⟨_, rfl, _, rfl, _, rfl, _, rfl, z, rfl, by rw [PySem.sizeLine_eq]; omega, _, rfl, _, _, rfl, rfl, by rw [PySem.sizeLine_eq, lc1]; omega, ?_⟩
      refine ⟨_, rfl, _, rfl, _, rfl, z, rfl, by rw [PySem.sizeLine_eq]; omega, _, _, rfl, rfl, by rw [PySem.sizeLine_eq]; omega, ?_⟩
      refine ⟨_, rfl, _, rfl, _, _, rfl, rfl, by rw [PySem.sizeLine_eq, lc1]; omega, ?_⟩
      refine ⟨_, rfl, _, rfl, _, _, rfl, rfl, by rw [PySem.sizeLine_eq, lc1]; omega, ?_⟩
      refine ⟨_, rfl, _, rfl, _, rfl, z, rfl, by rw [PySem.sizeLine_eq]; omega, _, _, rfl, rfl, by rw [PySem.sizeLine_eq]; omega, ?_⟩
      refine ⟨_, rfl, _, rfl, _, rfl, z, rfl, by rw [PySem.sizeLine_eq]; omega, _, _, rfl, rfl, by rw [PySem.sizeLine_eq]; omega, ?_⟩
      refine ⟨(by show 5 ≤ sizeLine; decide), fun l8 e8 => ?_⟩
      have q2 := (t2.app t3).mono (show 240 + 1 + 240 ≤ 500 by decide)
      have q3 := (tzl.app tc).mono (show 240 + 1 ≤ 500 by decide)
      have q4 := (tc.app tzl).mono (show 1 + 240 ≤ 500 by decide)
      have q5 := (t5.app t3).mono (show 240 + 1 + 240 ≤ 500 by decide)
      have tj : Tz 240 (Txt.join ⟨#[c]⟩ us) := (Tz.join tc mt).mono (by omega)
      have smu := sum_le mt
      have h8D := Same.put (o := .lst [V.str z, .str (cutS z none (some at') ++ ⟨#[c]⟩ ++ cutS z (some at') none), .str (z ++ ⟨#[c]⟩), .str (⟨#[c]⟩ ++ z), .str (cutS z none (some at') ++ "\n" ++ cutS z (some at') none)]) e8 _ _ h7D
      refine ⟨_, rfl, _, rfl, ⟨_, rfl⟩, _, rfl, _, D, us, rfl, rfl, .inl (SqL.of h8D), by rw [lc1]; omega, ?_⟩
      refine ⟨(by show 1 ≤ sizeLine; decide), fun l9 e9 => ?_⟩
      refine ⟨l8, l9, _, _, rfl, rfl, Same.put e9 _ _ upd_same, upd_same, (by show 5 + 1 ≤ sizeLine; decide), fun la ea => ?_⟩
      obtain ⟨v, hv, av⟩ := atI_in (xs := [V.str z, .str (cutS z none (some at') ++ ⟨#[c]⟩ ++ cutS z (some at') none), .str (z ++ ⟨#[c]⟩), .str (⟨#[c]⟩ ++ z), .str (cutS z none (some at') ++ "\n" ++ cutS z (some at') none)] ++ [V.str (Txt.join ⟨#[c]⟩ us)]) a6 b6
      obtain ⟨y, rfl, ty⟩ : ∃ y : Str, v = .str y ∧ Tz 500 y := by
        simp only [List.cons_append, List.nil_append, List.mem_cons, List.not_mem_nil, or_false] at hv
        rcases hv with e | e | e | e | e | e
        · exact ⟨_, e, tzl.mono (by decide)⟩
        · exact ⟨_, e, q2⟩
        · exact ⟨_, e, q3⟩
        · exact ⟨_, e, q4⟩
        · exact ⟨_, e, q5⟩
        · exact ⟨_, e, tj.mono (by decide)⟩
      refine ⟨_, rfl, la, _, _, _, rfl, rfl, SqL.of upd_same, av, ?_⟩
      have kA : ∀ o8 o9 oa, Keep p H7 (upd (upd (upd H7 l8 o8) l9 o9) la oa) ∧ BoxAt (upd (upd (upd H7 l8 o8) l9 o9) la oa) p (n + 502) := fun o8 o9 oa => by
        have n8 := hb7.ne e8
        have n9 : p ≠ l9 := fun e => by
          have e9' := e9
          rw [← e, upd_ne n8] at e9'
          obtain ⟨_, _, _, x, _⟩ := hb7
          rw [x] at e9'
          cases e9'
        have na : p ≠ la := fun e => by
          have ea' := ea
          rw [← e, upd_ne n9, upd_ne n8] at ea'
          obtain ⟨_, _, _, x, _⟩ := hb7
          rw [x] at ea'
          cases ea'
        refine ⟨fun b o hb e => ?_, ((hb7.put n8.symm).put n9.symm).put na.symm⟩
        have m8 := ne_of_none e e8
        have m9 : b ≠ l9 := fun x => by
          have e9' := e9
          rw [← x, upd_ne m8, e] at e9'
          cases e9'
        have ma : b ≠ la := fun x => by
          have ea' := ea
          rw [← x, upd_ne m9, upd_ne m8, e] at ea'
          cases ea'
        rw [upd_ne ma, upd_ne m9, upd_ne m8]
        exact e
      obtain ⟨kA1, kA2⟩ := kA _ _ _
      have kpN : Keep p H _ := kp7.trans kA1
      generalize upd (upd (upd H7 l8 _) l9 _) la _ = N at kA2 kpN ⊢
      have hyl := ty.len
      obtain ⟨sp1, sp2, sp3⟩ := split_len ty (m := ⟨#[c]⟩) rfl tc.sm
      refine ⟨_, rfl, ⟨_, rfl⟩, _, rfl, y, _, rfl, rfl, rfl, by rw [PySem.sizeLine_eq]; omega, fun ld ed => ?_⟩
      generalize hps : Txt.split y ⟨#[c]⟩ = ps at sp1 sp2 sp3 ⊢
      have kN2 := kpN.trans (Keep.new (o := .lst (ps.map V.str)) ed)
      have bN2 := kA2.new (o := .lst (ps.map V.str)) ed
      have dN2 : (upd N ld (.lst (ps.map V.str))) ld = some (.lst (ps.map V.str)) := upd_same
      generalize upd N ld (.lst (ps.map V.str)) = N2 at kN2 bN2 dN2 ⊢
      have fl : (ps.map V.str).all flatV = true := by
        rw [List.all_map]
        exact List.all_eq_true.mpr fun _ _ => rfl
      have nl := (niceAll_strs sp3).mono (show _ ≤ 1001 by omega) (Nat.le_refl 0)
      by_cases hk : swOk y ⟨#[c]⟩ = true
      · -- words
        have hk' := hk
        unfold swOk at hk'
        rw [hps, Bool.and_eq_true, Bool.not_eq_true', Bool.not_eq_true'] at hk'
        refine ⟨_, rfl, ld, _, rfl, .inl (SqL.of dN2), rfl, fl, _, rfl, ?_⟩
        refine if_false_of hk'.2 ⟨_, rfl, 10, y, by decide +kernel, rfl, _, rfl, if_false_of hk'.1 ?_⟩
        refine ⟨_, rfl, _, rfl, rfl, rfl, _, _, rfl, .inl ⟨y, rfl, by omega, rfl, fun e => ?_, fun e => ?_, fun _ p1 M1 f1 g1 s1 => ?_⟩⟩
        · rw [hk] at e
          cases e
        · rw [hk] at e
          cases e
        refine ⟨_, rfl, _, rfl, rfl, rfl, _, _, rfl, .inl ⟨y, rfl, by omega, rfl, fun e => ?_, fun e => ?_, fun _ p2 M2 f2 g2 s2 => ?_⟩⟩
        · rw [hk] at e
          cases e
        · rw [hk] at e
          cases e
        rw [hps] at g1 g2
        refine ⟨(by show 2 ≤ sizeLine; decide), fun lf ef => ?_⟩
        have w1 : upd M2 lf (.lst [.ref p1, .ref p2]) p1 = some (.lst (ps.map V.str)) := Same.put ef _ _ (s2 _ _ g1)
        have w2 : upd M2 lf (.lst [.ref p1, .ref p2]) p2 = some (.lst (ps.map V.str)) := Same.put ef _ _ g2
        have wd : upd M2 lf (.lst [.ref p1, .ref p2]) ld = some (.lst (ps.map V.str)) := Same.put ef _ _ (s2 _ _ (s1 _ _ dN2))
        have wf : upd M2 lf (.lst [.ref p1, .ref p2]) lf = some (.lst [.ref p1, .ref p2]) := upd_same
        have wb : BoxAt (upd M2 lf (.lst [.ref p1, .ref p2])) p (n + 502) := ((bN2.keep s1).keep s2).new ef
        have wk : Keep p H (upd M2 lf (.lst [.ref p1, .ref p2])) := kN2.trans ((Keep.of s1).trans ((Keep.of s2).trans (Keep.new ef)))
        have k2' : Keep p H M2 := kN2.trans ((Keep.of s1).trans (Keep.of s2))
        generalize upd M2 lf (.lst [.ref p1, .ref p2]) = M at w1 w2 wd wf wb wk ⊢
        refine ⟨_, rfl, rfl, _, rfl, ?_⟩
        refine ite2 (fun h9 => ?_) (fun h9 => ?_)
        · have em : (⟨#[c]⟩ : Str) = " " := V.str.inj (of_decide_eq_true h9)
          refine ⟨_, rfl, .inl ⟨rfl, _, SqL.of wf⟩, _, rfl, _, _, rfl, .inl ⟨y, rfl, by omega, by decide +kernel, fun e => ?_, fun e => ?_, fun _ p3 M3 f3 g3 s3 => ?_⟩⟩
          · rw [← em, hk] at e
            cases e
          · rw [← em, hk] at e
            cases e
          rw [← em, hps] at g3
          have n3f : p3 ≠ lf := fun e => by
            rw [e, wf] at f3
            cases f3
          refine ⟨lf, _, _, rfl, rfl, s3 _ _ wf, (by show 2 < sizeLine; decide), ?_⟩
          have x1 := s3 _ _ w1
          have x2 := s3 _ _ w2
          have xd := s3 _ _ wd
          have xf := s3 _ _ wf
          have n1f : p1 ≠ lf := fun e => by
            rw [e, xf] at x1
            exact absurd (HO.lst.inj (Option.some.inj x1)) (by cases ps <;> simp)
          have n2f : p2 ≠ lf := fun e => by
            rw [e, xf] at x2
            exact absurd (HO.lst.inj (Option.some.inj x2)) (by cases ps <;> simp)
          have ndf : ld ≠ lf := fun e => by
            rw [e, xf] at xd
            exact absurd (HO.lst.inj (Option.some.inj xd)) (by cases ps <;> simp)
          have nn := (NiceAll.cons nl.list (.cons nl.list (.cons nl.list niceAll_nil))).list.mono (show _ ≤ 8000 by omega) (show _ ≤ 60 by decide)
          refine ⟨_, rfl, lf, _, rfl, Dp.lst (SqL.of upd_same) (.cons (Dp.lst (SqL.of ((upd_ne n1f).trans x1)) (dpAll_strs ps)) (.cons (Dp.lst (SqL.of ((upd_ne n2f).trans x2)) (dpAll_strs ps)) (.cons (Dp.lst (SqL.of ((upd_ne n3f).trans g3)) (dpAll_strs ps)) .nil))), nn.sh, nn.dp, nn.fits (by decide), ?_⟩
          refine ⟨_, rfl, _, rfl, _, rfl, (by show 3 ≤ sizeLine; decide), fun lz ez => ?_⟩
          have zd := Same.put (o := .lst [.ref ld, .ref ld, .ref ld]) ez _ _ ((upd_ne ndf).trans xd)
          refine ⟨lz, _, rfl, Dp.lst (SqL.of upd_same) (.cons (Dp.lst (SqL.of zd) (dpAll_strs ps)) (.cons (Dp.lst (SqL.of zd) (dpAll_strs ps)) (.cons (Dp.lst (SqL.of zd) (dpAll_strs ps)) .nil))), nn.sh, nn.dp, nn.fits (by decide), rfl, ?_⟩
          refine ok_dec (Q := Q) rfl (q _ ?_ ?_)
          · have npf : lf ≠ p := fun e => by
              obtain ⟨_, _, _, b1, _⟩ := wb
              rw [← e, wf] at b1
              cases b1
            exact (((wb.keep s3).put npf).new ez).mono (by omega)
          · intro b o hbp e
            have nb := ne_of_none (k2' b o hbp e) ef
            exact Same.put ez _ _ ((upd_ne nb).trans (s3 _ _ (wk b o hbp e)))
        · have nn := (NiceAll.cons nl.list (.cons nl.list niceAll_nil)).list.mono (show _ ≤ 8000 by omega) (show _ ≤ 60 by decide)
          refine ⟨_, rfl, lf, _, rfl, Dp.lst (SqL.of wf) (.cons (Dp.lst (SqL.of w1) (dpAll_strs ps)) (.cons (Dp.lst (SqL.of w2) (dpAll_strs ps)) .nil)), nn.sh, nn.dp, nn.fits (by decide), ?_⟩
          refine ⟨_, rfl, _, rfl, (by show 2 ≤ sizeLine; decide), fun lz ez => ?_⟩
          have zd := Same.put (o := .lst [.ref ld, .ref ld]) ez _ _ wd
          refine ⟨lz, _, rfl, Dp.lst (SqL.of upd_same) (.cons (Dp.lst (SqL.of zd) (dpAll_strs ps)) (.cons (Dp.lst (SqL.of zd) (dpAll_strs ps)) .nil)), nn.sh, nn.dp, nn.fits (by decide), rfl, ?_⟩
          exact ok_dec (Q := Q) rfl (q _ ((wb.new ez).mono (by omega)) (wk.trans (Keep.new ez)))
      · -- none
        have hk0 : swOk y ⟨#[c]⟩ = false := Bool.eq_false_iff.mpr hk
        refine ⟨_, rfl, ld, _, rfl, .inl (SqL.of dN2), rfl, fl, _, rfl, ?_⟩
        have tail : ∀ σ : L2.St, σ = [some (.ref p), some (.str L), some (.str ⟨#[c]⟩), some (.ref lw), o4, o5, some (.ref D), some (.str y), some (.int way), some (.int at'), some (.ref l8), some .non, none, none] →
            tSeq (tAsg (tLst (tCons (tCallN 1 ["separator"].length (spSw K) (fun vs zs => vs ++ zs) E0 (tCons (tVar 7) tNil) (tCons (tVar 2) tNil)) (tCons (tCallN 0 ["separator", "text"].length (spSw K) (fun vs zs => vs ++ rot2 zs) E0 tNil (tCons (tVar 2) (tCons (tVar 7) tNil))) tNil))) (gName 12))
              (tSeq (tIfS (tTest (tOp rEq (tVar 2) (tC (.str " ")))) (tSeq (tDrop (tBM K "list" rAppend (tVar 12) (tCons (tCall (spSw K) [V.str " "] E0 (tCons (tVar 7) tNil)) tNil)))
                (tRet (tOp rEq (tCB (rRepr K) (tCons (tVar 12) tNil)) (tCB (rRepr K) (tCons (tLst (tCons (tVar 11) (tCons (tVar 11) (tCons (tVar 11) tNil)))) tNil))))) tNext)
                (tRet (tOp rEq (tCB (rRepr K) (tCons (tVar 12) tNil)) (tCB (rRepr K) (tCons (tLst (tCons (tVar 11) (tCons (tVar 11) tNil))) tNil)))))
              { nx := fun _ H' => Q .non H', rt := Q } σ N2 := by
          rintro σ rfl
          refine ⟨_, rfl, _, rfl, rfl, rfl, sw_none (by omega) rfl hk0 fun M1 s1 => ?_⟩
          refine ⟨_, rfl, _, rfl, rfl, rfl, sw_none (by omega) rfl hk0 fun M2 s2 => ?_⟩
          refine ⟨(by show 2 ≤ sizeLine; decide), fun lf ef => ?_⟩
          have wf : upd M2 lf (.lst [.non, .non]) lf = some (.lst [.non, .non]) := upd_same
          have wb : BoxAt (upd M2 lf (.lst [.non, .non])) p (n + 502) := ((bN2.keep s1).keep s2).new ef
          have k2' : Keep p H M2 := kN2.trans ((Keep.of s1).trans (Keep.of s2))
          have wk : Keep p H (upd M2 lf (.lst [.non, .non])) := k2'.trans (Keep.new ef)
          generalize upd M2 lf (.lst [.non, .non]) = M at wf wb wk ⊢
          refine ⟨_, rfl, rfl, _, rfl, ?_⟩
          refine ite2 (fun h9 => ?_) (fun h9 => ?_)
          · have em : (⟨#[c]⟩ : Str) = " " := V.str.inj (of_decide_eq_true h9)
            refine ⟨_, rfl, .inl ⟨rfl, _, SqL.of wf⟩, _, rfl, ?_⟩
            dsimp only [tNil]
            refine sw_none (m := " ") (by omega) (by decide +kernel) (by rw [← em]; exact hk0) fun M3 s3 => ?_
            refine ⟨lf, _, _, rfl, rfl, s3 _ _ wf, (by show 2 < sizeLine; decide), ?_⟩
            have nn := (NiceAll.cons nice_none (.cons nice_none (.cons nice_none niceAll_nil))).list.mono (show _ ≤ 8000 by decide) (show _ ≤ 60 by decide)
            refine ⟨_, rfl, lf, _, rfl, Dp.lst (SqL.of upd_same) (.cons .non (.cons .non (.cons .non .nil))), nn.sh, nn.dp, nn.fits (by decide), ?_⟩
            refine ⟨_, rfl, _, rfl, _, rfl, (by show 3 ≤ sizeLine; decide), fun lz ez => ?_⟩
            refine ⟨lz, _, rfl, Dp.lst (SqL.of upd_same) (.cons .non (.cons .non (.cons .non .nil))), nn.sh, nn.dp, nn.fits (by decide), rfl, ?_⟩
            refine ok_dec (Q := Q) rfl (q _ ?_ ?_)
            · have npf : lf ≠ p := fun e => by
                obtain ⟨_, _, _, b1, _⟩ := wb
                rw [← e, wf] at b1
                cases b1
              exact (((wb.keep s3).put npf).new ez).mono (by omega)
            · intro b o hbp e
              have nb := ne_of_none (k2' b o hbp e) ef
              exact Same.put ez _ _ ((upd_ne nb).trans (s3 _ _ (wk b o hbp e)))
          · have nn := (NiceAll.cons nice_none (.cons nice_none niceAll_nil)).list.mono (show _ ≤ 8000 by decide) (show _ ≤ 60 by decide)
            refine ⟨_, rfl, lf, _, rfl, Dp.lst (SqL.of wf) (.cons .non (.cons .non .nil)), nn.sh, nn.dp, nn.fits (by decide), ?_⟩
            refine ⟨_, rfl, _, rfl, (by show 2 ≤ sizeLine; decide), fun lz ez => ?_⟩
            refine ⟨lz, _, rfl, Dp.lst (SqL.of upd_same) (.cons .non (.cons .non .nil)), nn.sh, nn.dp, nn.fits (by decide), rfl, ?_⟩
            exact ok_dec (Q := Q) rfl (q _ ((wb.new ez).mono (by omega)) (wk.trans (Keep.new ez)))
        unfold swOk at hk0
        rw [hps] at hk0
        cases hi : inV (.str ("" : Str)) (ps.map V.str) with
        | true => exact if_true_of rfl (tail _ rfl)
        | false =>
          rw [hi, Bool.not_false, Bool.and_true, Bool.not_eq_false'] at hk0
          exact if_false_of rfl ⟨_, rfl, 10, y, by decide +kernel, rfl, _, rfl, if_true_of hk0 (tail _ rfl)⟩
end
end T03
set_option Elab.async false
set_option linter.all false
set_option maxRecDepth 100000
set_option maxHeartbeats 4000000
namespace T03
open PySem PySem.Spec PyProof.Rows L2 Tp
/-- a text, times a number -/
def rMulS : V → V → Hp → VK → Prop := fun x y H Q => ∃ (z : Str) (k : Int), x = .str z ∧ y = .int k ∧ MulOk z k ∧ Q (.str (Txt.mul z k)) H
theorem op_mulS {X : Cx} : OpR X (binaryOp .Mult) rMulS := by
  intro pins s σ H x y v u Q I rx ry h
  obtain ⟨z, k, rfl, rfl, hok, q⟩ := h
  obtain ⟨t, rfl⟩ := rx
  obtain ⟨t', rfl⟩ := ry
  exact SB.mul hok fun t2 k2 => ⟨.str _, H, I.tok _, ⟨t2, rfl⟩, q⟩
/-- the law's own promise -/
def spLaw (K : PySem.W.Frag) : Sp := fun vs H Q _ => ∃ (a : Addr) (ns : List Int), vs = [.ref a] ∧ SqL K H a (ns.map V.int) ∧ ns.length ≤ 63 ∧ ∀ H', Q (.bl true) H'
abbrev sLaw : Stmt := top 46
abbrev nLaw : List Str := ["_law_script", "_law_k", "_law_box_here", "_law_things", "_law_found", "_law_thing"]
/-- what isinstance asks of a Book -/
structure TxtI (K : PySem.W.Frag) (C : Addr) : Prop where
  cl : Cls K C
  ha : PySem.W.findIn K (.ref C) "__class__" = some (some (.builtin "object.__class__"))
  hn : PySem.W.specialIn K (.builtin "object.__class__") "__get__" = some (some (.builtin "getset_descriptor.__get__"))
  ht : PySem.W.takesIn K (.builtin "object.__class__") = some true
  hm : PySem.W.mroIn K C (.type "object") = some true
  ns : PySem.W.kitOne K (.ref C) (.type "str") = some false
section
variable {P : Program} {w : World} {K : PySem.W.Frag} {mg : Str → Option Value} {base : Heap} {f : Addr} {fd : FuncData}
theorem scLaw : FnScope nLaw ["_law_script"] (defScope sLaw) := ⟨rfl, rfl, rfl, by decide +kernel, rfl, by decide +kernel, by decide +kernel⟩
theorem seq_new {K : PySem.W.Frag} {p a : Addr} {H H' : Hp} {xs : List V} (hn : H p = none) (k : Keep p H H') (h : SqL K H a xs) : SqL K H' a xs := by
  rcases h with (h | ⟨o, h⟩) | h
  · exact .inl (.inl (k _ _ (ne_of_none h hn) h))
  · exact .inl (.inr ⟨o, k _ _ (ne_of_none h hn) h⟩)
  · exact .inr h
/-- what parse_integer gives None for -/
def OddI (K : PySem.W.Frag) (G : Hp) (x : V) : Prop := (∃ z : Str, x = .str z ∧ z.length ≤ 5000 ∧ whole (TL.tl z) 0 999999 = .non) ∨ NoStr K G x
def OddW (K : PySem.W.Frag) (G : Hp) (x : V) : Prop := (∃ z : Str, x = .str z ∧ z.length ≤ 5000 ∧ swOk z " " = false) ∨ NoStr K G x
theorem NoStr.mono {G G' : Hp} {x : V} (s : Same G G') (h : NoStr K G x) : NoStr K G' x := by
  obtain ⟨t, h1, h2⟩ := h
  exact ⟨t, TyX.mono s h1, h2⟩
theorem OddI.mono {G G' : Hp} {x : V} (s : Same G G') (h : OddI K G x) : OddI K G' x := h.imp id (NoStr.mono s)
theorem OddW.mono {G G' : Hp} {x : V} (s : Same G G') (h : OddW K G x) : OddW K G' x := h.imp id (NoStr.mono s)
theorem pi_non {G : Hp} {x : V} {Q : VK} {E : XK} (h : OddI K G x) (q : ∀ H', Same G H' → Q .non H') : spPi K [x, .int 0, .int 999999] G Q E := by
  rcases h with ⟨z, rfl, hz, e⟩ | h
  · exact ⟨_, _, _, rfl, .inl ⟨z, rfl, hz, fun H' s => by rw [e]; exact q H' s⟩⟩
  · exact ⟨_, _, _, rfl, .inr ⟨h, q _ (Same.refl _)⟩⟩
theorem sw_non {G : Hp} {x : V} {Q : VK} {E : XK} (h : OddW K G x) (q : ∀ H', Same G H' → Q .non H') : spSw K [x, .str " "] G Q E := by
  rcases h with ⟨z, rfl, hz, e⟩ | h
  · exact sw_none hz (by decide +kernel) e q
  · exact ⟨_, _, rfl, .inr ⟨h, q _ (Same.refl _)⟩⟩
theorem whole_long {l : List Nat} {lo hi : Int} (h : 30 < l.length) : whole l lo hi = .non := by
  unfold whole
  rw [if_neg fun e => absurd e.2.1 (Nat.not_le.mpr h)]
theorem nice_rep : ∀ k : Nat, NiceAll k 0 ((List.replicate k V.non).map dV)
  | 0 => niceAll_nil
  | k + 1 => by
    rw [List.replicate_succ, List.map_cons]
    exact (NiceAll.cons nice_none (nice_rep k)).mono (by omega) (by decide)
theorem flat_rep (k : Nat) : (List.replicate k V.non).all isFlat = true := List.all_eq_true.mpr fun v hv => by
  rw [(List.mem_replicate.mp hv).2]
  rfl
theorem not_dec {c : Prop} [Decidable c] (h : c) : (!decide c) = false := by
  rw [decide_eq_true h]
  rfl
theorem ne_dec {c : Prop} [Decidable c] {Q : VK} {H : Hp} (hc : c) (h : Q (.bl false) H) : Q (.bl (!decide c)) H := by
  rw [decide_eq_true hc]
  exact h
theorem ok_law {fP fS fB CB0 : Addr} {fdP fdS fdB : FuncData} (F : Fun K "law" "law" sLaw f fd) (T : TxtLaw K mg) (CC : Cg P w K mg base 1 "_law_cell" (spCellT K)) (CB : Cg P w K mg base 1 "_law_box" spBox) (CI : Cg P w K mg base 3 "_law_integers_right" spIr) (CW : Cg P w K mg base 3 "_law_words_right" spWr)
    (FP : FPi K fP fdP) (GP : FnOk P w K mg base CX0 1 fP fdP ["text", "low", "high"] (spPi K)) (gP : mg "parse_integer" = some (.ref fP)) (FS : FSw K fS fdS) (GS : FnOk P w K mg base CX0 1 fS fdS ["text", "separator"] (spSw K)) (gS : mg "split_words" = some (.ref fS))
    (I : TxtI K CB0) (MB : Mk K CB0 fB) (GB : FnOk P w K mg base CX0 2 fB fdB ["self", "rows"] (spBi K CB0)) (gB : mg "Book" = some (.ref CB0)) {tR : Addr} {dsB : List Value} (bBk : Binds K fdB ["self", "rows"] dsB) (vBk : Vals [V.ref tR] dsB)
    (tup : ∃ (o : Obj) (n : Nat), K.lookup tR = some o ∧ o.cls = .type "tuple" ∧ o.data = .seq #[] n) : FnG P w K mg base CX0 5 f fd ["_law_script"] (spLaw K) := by
  refine FunG.ok F scLaw (fun vs H Q E h => ?_) (fun cdv B out s H vs Q E hr hG h => ?_)
  · obtain ⟨a, ns, rfl, _⟩ := h
    rfl
  · obtain ⟨a, ns, rfl, hs, hl, q⟩ := h
    have hr1 := hr.mono (show 1 ≤ 4 by decide)
    have hr2 := hr.mono (show 2 + 1 ≤ 4 by decide)
    obtain ⟨ds0, v0, b0⟩ := bPi0 FP
    obtain ⟨es0, w0, c0⟩ := bSw0 FS
    refine ⟨_, (pss_cons (ps_for PassesOwn.never rfl (pi_range1 (by rfl) T.range (pa_cons (pe_callB (call_max2 rfl) (by rfl) T.max (by decide +kernel) (pa_cons pe_int (pa_cons (pe_callB (call_min2 rfl) (by rfl) T.min (by decide +kernel) (pa_cons pe_int (pa_cons (pe_callB call_len (by rfl) T.len PySem.boot_len (pa_cons (pv 0) pa_nil)) pa_nil))) pa_nil))) pa_nil)) (pg_name (i := 1) scLaw.nd rfl (Or.inl rfl)) (pss_cons (ps_set (i := 2) scLaw.nd rfl (.inl rfl) (pe_g CB hr hG (by decide) (by rfl) (pa_cons (pe_g CC hr hG (by decide) (by rfl) (pa_cons (pv 0) (pa_cons (pv 1) pa_nil))) pa_nil)))
      (pss_one (ps_if (PW.pt (pw_or (pt_not (pt_val (pe_g CI hr hG (by decide) (by rfl) (pa_cons (pv 2) pa_nil)))) (pw_or1 (pt_not (pt_val (pe_g CW hr hG (by decide) (by rfl) (pa_cons (pv 2) pa_nil))))))) (pss_one (ps_ret pe_bl)) pss_nil))))
      (pss_cons (ps_set (i := 3) scLaw.nd rfl (.inl rfl) (pe_lst (pa_cons pe_non (pa_cons pe_int (pa_cons pe_bl (pa_cons (pe_lst (pa_cons pe_str pa_nil)) (pa_cons (pe_tup (pa_cons pe_str (pa_cons pe_str pa_nil))) (pa_cons (pe_disp (pps_cons pe_str pe_int pps_nil) (by rfl) (by rfl) (fun z => by cases z) (by decide)) (pa_cons (pe_lst pa_nil) (pa_cons (pe_make0 MB GB hr2 (by rfl) gB bBk vBk pass0) (pa_cons pe_str (pa_cons pe_str (pa_cons (pe_op op_mulS pe_str pe_int) (pa_cons (pe_op op_mulS pe_str pe_int) pa_nil))))))))))))))
      (pss_cons (ps_if (pt_cmpR op_ne (pe_callB (call_repr hr hG) (by rfl) T.repr (by decide +kernel) (pa_cons (pe_lc (own := [("_law_thing", 5)]) (g := gName 5) (tt := tYes) rfl scLaw.nd (pi_list (pv 3)) (blkOk_by (N := nLaw) (sc := defScope sLaw) (by decide +kernel)) (fun _ _ _ _ _ => pg_name (i := 5) scLaw.nd rfl (Or.inl rfl)) (fun _ _ _ _ _ => pts_nil) (fun _ _ _ _ _ => (pe_call GP hr1 (by rfl) gP FP.kp b0 v0 pass0 (pa_cons (pv 5) pa_nil)))) pa_nil)) (pe_callB (call_repr hr hG) (by rfl) T.repr (by decide +kernel) (pa_cons (pe_op op_rep (pe_lst (pa_cons pe_non pa_nil)) pe_int) pa_nil)) (nomark _)) (pss_one (ps_ret pe_bl)) pss_nil)
      (pss_cons (ps_setLc (i := 4) (own := [("_law_thing", 5)]) (g := gName 5) (tt := tYes) rfl scLaw.nd rfl rfl (sw_true rfl rfl rfl (by decide +kernel)) (pi_list (pe_slice sl_list (pv 3) po_none (po_some pe_int))) (blkOk_by (N := nLaw) (sc := defScope sLaw) (by decide +kernel)) (fun _ _ _ _ _ => pg_name (i := 5) scLaw.nd rfl (Or.inl rfl)) (fun _ _ _ _ _ => pts_nil) (fun _ _ _ _ _ => (pe_call GS hr1 (by rfl) gS FS.kp c0 w0 pass0 (pa_cons (pv 5) pa_nil))))
      (pss_one (ps_ret (pe_and (pe_cmpR op_eq (pe_callB (call_repr hr hG) (by rfl) T.repr (by decide +kernel) (pa_cons (pv 4) pa_nil)) (pe_callB (call_repr hr hG) (by rfl) T.repr (by decide +kernel) (pa_cons (pe_op op_rep (pe_lst (pa_cons pe_non pa_nil)) pe_int) pa_nil)) (nomark _)) (pe_one (pe_cmpR (op_eqD hr.units) (pe_call GS hr1 (by rfl) gS FS.kp c0 w0 pass0 (pa_cons (pe_op op_mulS pe_str pe_int) pa_nil)) (pe_lst (pa_cons (pe_op op_mulS pe_str pe_int) pa_nil)) (nomark _)))))))))), ?_⟩
    refine ⟨_, rfl, _, _, rfl, .inl ⟨_, hs, rfl⟩, _, _, rfl, _, _, rfl, _, rfl, ?_⟩
    rw [List.length_map]
    have hlt : (if (if ((ns.length : Nat) : Int) < 8 then ((ns.length : Nat) : Int) else 8) > 2 then (if ((ns.length : Nat) : Int) < 8 then ((ns.length : Nat) : Int) else 8) else 2) ≤ 8 ∧
        0 ≤ (if (if ((ns.length : Nat) : Int) < 8 then ((ns.length : Nat) : Int) else 8) > 2 then (if ((ns.length : Nat) : Int) < 8 then ((ns.length : Nat) : Int) else 8) else 2) := by
      constructor <;> split <;> split <;> omega
    generalize (if (if ((ns.length : Nat) : Int) < 8 then ((ns.length : Nat) : Int) else 8) > 2 then (if ((ns.length : Nat) : Int) < 8 then ((ns.length : Nat) : Int) else 8) else 2) = turns at hlt ⊢
    refine ⟨by omega, by omega, ?_⟩
    refine for_range (lo := 0) (n := turns.toNat) (fun i σ G => SqL K G a (ns.map V.int) ∧ ∃ o1 o2, σ = [some (.ref a), o1, o2, none, none, none]) ⟨hs, none, none, rfl⟩ ?_ ?_
    · rintro i σ G hi ⟨gs, o1, o2, rfl⟩
      refine ⟨_, rfl, _, rfl, a, ns, i, by rw [Int.zero_add], gs, hl, by omega, fun z => ?_⟩
      refine ⟨z, rfl, fun p G1 hp gb gk => ?_⟩
      have gs1 := seq_new hp gk gs
      refine ⟨_, rfl, p, 0, rfl, gb, by decide, fun G2 gb2 gk2 => ?_⟩
      have gs2 := seq_new hp (gk.trans gk2) gs
      refine ⟨_, rfl, iteF ?_⟩
      refine ⟨_, rfl, p, 70, rfl, gb2, by decide, fun G3 gb3 gk3 => ?_⟩
      have gs3 := seq_new hp (gk.trans (gk2.trans gk3)) gs
      exact ⟨_, rfl, iteF ⟨gs3, _, _, rfl⟩⟩
    · rintro σ G ⟨gs, o1, o2, rfl⟩
      refine ⟨(by show 1 ≤ sizeLine; decide), fun l1 e1 => ?_⟩
      refine ⟨(by show 2 ≤ sizeLine; decide), fun t1 e2 => ?_⟩
      intro d1 e3
      refine ⟨upd_same, [(Sum.inr "a", .int 1)], rfl, by decide, ?_⟩
      rw [upd_upd]
      refine ⟨(by show 0 ≤ sizeLine; decide), fun l2 e4 => ?_⟩
      intro bk dx nb ndx nex
      refine ⟨bk, dx, tR, rfl, upd_same, tup, fun G5 fs hbk kb => ⟨rfl, ?_⟩⟩
      have s5 := Same.made nb ndx (fun b o e hb => kb b o hb e)
      have g4 : G5 l2 = some (.lst []) := s5 _ _ upd_same
      have g3 := s5 _ _ (Same.put e4 _ _ upd_same)
      have g2 := s5 _ _ (Same.put e4 _ _ (Same.put e3 _ _ upd_same))
      have g1 := s5 _ _ (Same.put e4 _ _ (Same.put e3 _ _ (Same.put e2 _ _ upd_same)))
      clear s5 kb
      refine ⟨_, _, rfl, rfl, by unfold MulOk; decide +kernel, _, _, rfl, rfl, by unfold MulOk; decide +kernel, (by show 12 ≤ sizeLine; decide), fun lt et => ?_⟩
      have m1 : (TL.tl (Txt.mul ("1" : Str) 4000)) = List.replicate 4000 49 := by
        rw [show ("1" : Str) = ⟨#[49]⟩ from TL.ext_tl (by decide +kernel)]
        exact PyProof.Rows.mul_one_list 49 4000
      have m2 : (TL.tl (Txt.mul ("0" : Str) 3999)) = List.replicate 3999 48 := by
        rw [show ("0" : Str) = ⟨#[48]⟩ from TL.ext_tl (by decide +kernel)]
        exact PyProof.Rows.mul_one_list 48 3999
      generalize Txt.mul ("1" : Str) 4000 = z1 at m1 ⊢
      generalize Txt.mul ("0" : Str) 3999 = z2 at m2 ⊢
      have z1l : z1.length = 4000 := by rw [TL.len_tl, m1, List.length_replicate]
      have z2l : z2.length = 3999 := by rw [TL.len_tl, m2, List.length_replicate]
      have s6 : ∀ o, Same G5 (upd G5 lt o) := fun o => Same.put et
      have ol : ∀ {x : V} {t : Value}, TyX K G5 x t → PySem.W.kitOne K t (.type "str") = some false → NoStr K G5 x := fun h1 h2 => ⟨_, h1, h2⟩
      have nn : NoStr K G5 .non := ol (.base .non) (kit_ty (by decide +kernel))
      have n3 : NoStr K G5 (.int 3) := ol (.base (.int 3)) (kit_ty (by decide +kernel))
      have nT : NoStr K G5 (.bl true) := ol (.base (.bl true)) (kit_ty (by decide +kernel))
      have nl1 : NoStr K G5 (.ref l1) := ol (.base (.lst g1)) (kit_ty (by decide +kernel))
      have nt1 : NoStr K G5 (.ref t1) := ol (.base (.tup g2)) (kit_ty (by decide +kernel))
      have nd1 : NoStr K G5 (.ref d1) := ol (.base (.dK g3)) (kit_ty (by decide +kernel))
      have nl2 : NoStr K G5 (.ref l2) := ol (.base (.lst g4)) (kit_ty (by decide +kernel))
      have nbk : NoStr K G5 (.ref bk) := ol (.base (.ins hbk I.cl I.ha I.hn I.ht I.hm)) I.ns
      have we : whole (TL.tl ("" : Str)) 0 999999 = .non := by decide +kernel
      have wn : whole (TL.tl ("\n" : Str)) 0 999999 = .non := by decide +kernel
      have oI : ∀ x ∈ ([.non, .int 3, .bl true, .ref l1, .ref t1, .ref d1, .ref l2, .ref bk, .str "", .str "\n", .str z1, .str z2] : List V), OddI K G5 x := by
        intro x hx
        simp only [List.mem_cons, List.not_mem_nil, or_false] at hx
        rcases hx with e | e | e | e | e | e | e | e | e | e | e | e <;> subst e
        · exact .inr nn
        · exact .inr n3
        · exact .inr nT
        · exact .inr nl1
        · exact .inr nt1
        · exact .inr nd1
        · exact .inr nl2
        · exact .inr nbk
        · exact .inl ⟨_, rfl, by decide +kernel, we⟩
        · exact .inl ⟨_, rfl, by decide +kernel, wn⟩
        · exact .inl ⟨_, rfl, by omega, whole_long (by rw [m1, List.length_replicate]; decide)⟩
        · exact .inl ⟨_, rfl, by omega, whole_long (by rw [m2, List.length_replicate]; decide)⟩
      have oW : ∀ x ∈ ([.non, .int 3, .bl true, .ref l1, .ref t1, .ref d1, .ref l2, .ref bk, .str "", .str "\n"] : List V), OddW K G5 x := by
        intro x hx
        simp only [List.mem_cons, List.not_mem_nil, or_false] at hx
        rcases hx with e | e | e | e | e | e | e | e | e | e <;> subst e
        · exact .inr nn
        · exact .inr n3
        · exact .inr nT
        · exact .inr nl1
        · exact .inr nt1
        · exact .inr nd1
        · exact .inr nl2
        · exact .inr nbk
        · exact .inl ⟨_, rfl, by decide +kernel, by decide +kernel⟩
        · exact .inl ⟨_, rfl, by decide +kernel, by decide +kernel⟩
      clear nn n3 nT nl1 nt1 nd1 nl2 nbk
      -- None for each of them
      refine ⟨_, rfl, lt, rfl, ⟨_, SqL.of upd_same⟩, fun D hD => ?_⟩
      have hlt : ∀ o, upd G5 lt o lt = some o := fun o => upd_same
      refine lc_list (xs := [.non, .int 3, .bl true, .ref l1, .ref t1, .ref d1, .ref l2, .ref bk, .str "", .str "\n", .str z1, .str z2])
        (fun i M => Same (upd G5 lt (.lst [.non, .int 3, .bl true, .ref l1, .ref t1, .ref d1, .ref l2, .ref bk, .str "", .str "\n", .str z1, .str z2])) M ∧ M D = some (.lst (List.replicate i .non)))
        ⟨Same.put hD, upd_same⟩ (fun i M _ hM => SqL.of (hM.1 _ _ upd_same)) ?_ ?_
      · rintro i x M hx ⟨ms, mD⟩
        refine ⟨rfl, _, rfl, ?_⟩
        dsimp only [tNil]
        refine pi_non (OddI.mono ((s6 _).trans ms) (oI x (List.mem_of_getElem? hx))) fun M' ms' => ?_
        have hi : i < 12 := (List.getElem?_eq_some_iff.mp hx).1
        refine ⟨_, ms' _ _ mD, ?_, ?_, ?_⟩
        · rw [List.length_replicate, PySem.sizeLine_eq]
          omega
        · intro b o e
          have nb := ne_of_none e hD
          rw [upd_ne nb]
          exact ms' _ _ (ms _ _ e)
        · rw [upd_same, List.replicate_succ']
      rintro M ⟨ms, mD⟩
      have n12 := (nice_rep 12).list
      refine ⟨D, _, rfl, Dp.lst (SqL.of mD) (dpAll_flat (flat_rep 12)), n12.sh, Nat.le_trans n12.dp (by decide), n12.fits (by decide), ?_⟩
      refine ⟨(by show 1 ≤ sizeLine; decide), fun l5 e5 => ?_⟩
      refine ⟨l5, 12, _, rfl, rfl, upd_same, by decide, by decide, by decide, fun l6 e6 => ?_⟩
      refine ⟨l6, _, rfl, Dp.lst (SqL.of upd_same) (dpAll_flat (flat_rep 12)), n12.sh, Nat.le_trans n12.dp (by decide), n12.fits (by decide), rfl, ?_⟩
      refine ⟨_, rfl, ?_⟩
      refine if_false_of (not_dec rfl) ?_
      have sR : ∀ o5 o6, Same M (upd (upd M l5 o5) l6 o6) := fun o5 o6 b o e => by
        have nb5 := ne_of_none e e5
        have nb6 : b ≠ l6 := fun x => by
          have e6' := e6
          rw [← x, upd_ne nb5, e] at e6'
          cases e6'
        rw [upd_ne nb6, upd_ne nb5]
        exact e
      have sA := (s6 (.lst [.non, .int 3, .bl true, .ref l1, .ref t1, .ref d1, .ref l2, .ref bk, .str "", .str "\n", .str z1, .str z2])).trans (ms.trans (sR (.lst [.non]) (.lst (List.replicate (12 : Int).toNat [V.non]).flatten)))
      have hlN := sR (.lst [.non]) (.lst (List.replicate (12 : Int).toNat [V.non]).flatten) _ _ (ms _ _ (hlt _))
      generalize upd (upd M l5 (.lst [.non])) l6 (.lst (List.replicate (12 : Int).toNat [V.non]).flatten) = N at sA hlN ⊢
      clear sR e6 e5 mD
      -- the words
      refine ⟨_, rfl, _, rfl, lt, _, rfl, SqL.of hlN, fun lc ec => ?_⟩
      refine ⟨lc, rfl, ⟨_, SqL.of upd_same⟩, fun D2 hD2 => ?_⟩
      refine lc_list (xs := [.non, .int 3, .bl true, .ref l1, .ref t1, .ref d1, .ref l2, .ref bk, .str "", .str "\n"])
        (fun i M => Same (upd N lc (.lst [.non, .int 3, .bl true, .ref l1, .ref t1, .ref d1, .ref l2, .ref bk, .str "", .str "\n"])) M ∧ M D2 = some (.lst (List.replicate i .non)))
        ⟨Same.put hD2, upd_same⟩ (fun i M _ hM => SqL.of (hM.1 _ _ upd_same)) ?_ ?_
      · rintro i x M2 hx ⟨ms2, mD2⟩
        refine ⟨rfl, _, rfl, ?_⟩
        dsimp only [tNil]
        refine sw_non (OddW.mono (sA.trans ((Same.put ec).trans ms2)) (oW x (List.mem_of_getElem? hx))) fun M' ms' => ?_
        have hi : i < 10 := (List.getElem?_eq_some_iff.mp hx).1
        refine ⟨_, ms' _ _ mD2, ?_, ?_, ?_⟩
        · rw [List.length_replicate, PySem.sizeLine_eq]
          omega
        · intro b o e
          have nb := ne_of_none e hD2
          rw [upd_ne nb]
          exact ms' _ _ (ms2 _ _ e)
        · rw [upd_same, List.replicate_succ']
      rintro M2 ⟨ms2, mD2⟩
      have n10 := (nice_rep 10).list
      refine ⟨_, rfl, D2, _, rfl, Dp.lst (SqL.of mD2) (dpAll_flat (flat_rep 10)), n10.sh, Nat.le_trans n10.dp (by decide), n10.fits (by decide), ?_⟩
      refine ⟨(by show 1 ≤ sizeLine; decide), fun l7 e7 => ?_⟩
      refine ⟨l7, 10, _, rfl, rfl, upd_same, by decide, by decide, by decide, fun l8 e8 => ?_⟩
      refine ⟨l8, _, rfl, Dp.lst (SqL.of upd_same) (dpAll_flat (flat_rep 10)), n10.sh, Nat.le_trans n10.dp (by decide), n10.fits (by decide), rfl, ?_⟩
      refine ⟨_, rfl, ?_⟩
      refine if_true_of (decide_eq_true rfl) ?_
      -- a text of one word
      have m3 : (TL.tl (Txt.mul ("1" : Str) 4000)) = List.replicate 4000 49 := by
        rw [show ("1" : Str) = ⟨#[49]⟩ from TL.ext_tl (by decide +kernel)]
        exact PyProof.Rows.mul_one_list 49 4000
      refine ⟨_, _, rfl, rfl, by unfold MulOk; decide +kernel, ?_⟩
      generalize hz3 : Txt.mul ("1" : Str) 4000 = z3 at m3 ⊢
      have z3l : z3.length = 4000 := by rw [TL.len_tl, m3, List.length_replicate]
      have sp3 : Txt.split z3 " " = [z3] := by
        refine TL.map_tl_inj ?_
        have hk : ¬ Builtin.Str.strKind z3 < Builtin.Str.strKind (" " : Str) := TL.kind_ok (by decide +kernel)
        rw [TL.split_spl z3 " " (by decide +kernel) hk, show TL.tl (" " : Str) = [32] from by decide +kernel]
        rw [TL.spl_last1 (fun h => by rw [m3] at h; exact absurd (List.mem_replicate.mp h).2 (by decide))]
        rfl
      have ok3 : swOk z3 " " = true := by
        unfold swOk
        rw [sp3, Bool.and_eq_true, Bool.not_eq_true', Bool.not_eq_true']
        refine ⟨decide_eq_false fun h => ?_, ?_⟩
        · rw [show z3.cps.toList = List.replicate 4000 49 from m3] at h
          exact absurd (List.mem_replicate.mp h).2 (by decide)
        · have ne : z3 ≠ "" := fun e => by
            rw [e] at z3l
            exact absurd z3l (by decide +kernel)
          unfold inV
          simp only [List.map_cons, List.map_nil, List.any_cons, List.any_nil, Bool.or_false]
          exact beq_eq_false_iff_ne.mpr ne
      refine ⟨_, _, rfl, .inl ⟨z3, rfl, by omega, by decide +kernel, fun e => ?_, fun e => ?_, fun _ p3 M3 f3 g3 s3 => ?_⟩⟩
      · rw [ok3] at e
        cases e
      · rw [ok3] at e
        cases e
      rw [sp3] at g3
      refine ⟨_, _, rfl, rfl, by unfold MulOk; decide +kernel, ?_⟩
      rw [hz3]
      refine ⟨(by show 1 ≤ sizeLine; decide), fun l9 e9 => ?_⟩
      have sh : SeqAt.shaped (.list [.str z3]) = true := by
        have so : PyData.strOk z3 = true := by
          unfold PyData.strOk
          rw [← Array.all_toList]
          refine List.all_eq_true.mpr fun c hc => ?_
          rw [show z3.cps.toList = List.replicate 4000 49 from m3] at hc
          rw [(List.mem_replicate.mp hc).2]
          decide
        unfold SeqAt.shaped
        simp only [PyData.canLay0, PyData.canLayAll0, so, PyData.depth, PyData.depthAll, Bool.true_and, Bool.and_true]
        rfl
      refine ⟨_, _, Dp.lst (SqL.of (Same.put e9 _ _ g3)) (.cons (.str z3) .nil), Dp.lst (SqL.of upd_same) (.cons (.str z3) .nil), sh, sh, ?_⟩
      rw [SeqAt.eqv_refl _ (SeqAt.canLay_of_shaped sh)]
      exact q _
end
end T03
set_option Elab.async false
set_option linter.all false
set_option maxRecDepth 100000
set_option maxHeartbeats 8000000
namespace T03
open PySem PySem.Spec PyProof.Rows L2 Tp
theorem kit_of_sub {K : PySem.W.Frag} {C : Addr} {b : Bool} (h : PySem.W.subIn K (.ref C) (.type "str") = some b) : PySem.W.kitOne K (.ref C) (.type "str") = some b := by
  unfold PySem.W.kitOne
  rw [if_neg (show ¬ (Value.ref C == Value.type "str") = true from fun z => by cases z)]
  show (if PySem.W.kitMeta "str" = true then PySem.W.subIn K (.ref C) (.type "str") else none) = some b
  rw [if_pos (by decide +kernel)]
  exact h

theorem all_mk {l : PySem.W.OpenLaw} {w : World} {K : PySem.W.Frag} {h : Heap} {mg : Str → Option Value} {fa : Addr} (X : K.In h) (G : h.Ns mainGlobals mg) (hfa : mg "law" = some (.ref fa))
    {f_cell : Addr} {od_cell an_cell : Option Addr} {sl_cell : Array (Option Value)} {oc_cell kV_cell dc_cell pm_cell cd_cell ct_cell : Value}
    {f_box : Addr} {od_box an_box : Option Addr} {sl_box : Array (Option Value)} {oc_box kV_box dc_box pm_box cd_box ct_box : Value}
    {f_take : Addr} {od_take an_take : Option Addr} {sl_take : Array (Option Value)} {oc_take kV_take dc_take pm_take cd_take ct_take : Value}
    {f_dg : Addr} {od_dg an_dg : Option Addr} {sl_dg : Array (Option Value)} {oc_dg kV_dg dc_dg pm_dg cd_dg ct_dg : Value}
    {f_wh : Addr} {od_wh an_wh : Option Addr} {sl_wh : Array (Option Value)} {oc_wh kV_wh dc_wh pm_wh cd_wh ct_wh : Value}
    {f_ir : Addr} {od_ir an_ir : Option Addr} {sl_ir : Array (Option Value)} {oc_ir kV_ir dc_ir pm_ir cd_ir ct_ir : Value}
    {f_wr : Addr} {od_wr an_wr : Option Addr} {sl_wr : Array (Option Value)} {oc_wr kV_wr dc_wr pm_wr cd_wr ct_wr : Value}
    {f_law : Addr} {od_law an_law : Option Addr} {sl_law : Array (Option Value)} {oc_law kV_law dc_law pm_law cd_law ct_law : Value}
    {f_isl : Addr} {od_isl an_isl : Option Addr} {sl_isl : Array (Option Value)} {oc_isl kV_isl dc_isl pm_isl cd_isl ct_isl : Value}
    {f_pi D_pi : Addr} {od_pi an_pi : Option Addr} {sl_pi : Array (Option Value)} {oc_pi dc_pi pm_pi cd_pi ct_pi : Value} {t_pi0 : Tok}  {t_pi1 : Tok}
    {f_sw D_sw : Addr} {od_sw an_sw : Option Addr} {sl_sw : Array (Option Value)} {oc_sw dc_sw pm_sw cd_sw ct_sw : Value} {t_sw0 : Tok}
    {C fBi TBi tE : Addr} {od_bi an_bi od_T od_E : Option Addr} {sl_bi sl_T sl_E : Array (Option Value)} {oc_bi kV_bi dc_bi pm_bi cd_bi ct_bi : Value} {n_T n_E : Nat}
    {t_md t_dg : Tok}
    (a_cell : PySem.W.nsIn K mainGlobals "_law_cell" = some (some (.ref f_cell)))
    (l_cell : K.lookup f_cell = some ⟨oc_cell, od_cell, .func (PySem.W.fnOf "_law_cell" "_law_cell" (defArgs sCell) (defBody sCell) (defScope sCell) .none kV_cell dc_cell pm_cell an_cell cd_cell ct_cell), sl_cell⟩)
    (c_cell : PySem.W.codeIn K cd_cell "_law_cell" = true)
    (k_cell : PySem.W.keepIn K (.ref f_cell) = true)
    (a_box : PySem.W.nsIn K mainGlobals "_law_box" = some (some (.ref f_box)))
    (l_box : K.lookup f_box = some ⟨oc_box, od_box, .func (PySem.W.fnOf "_law_box" "_law_box" (defArgs sBox) (defBody sBox) (defScope sBox) .none kV_box dc_box pm_box an_box cd_box ct_box), sl_box⟩)
    (c_box : PySem.W.codeIn K cd_box "_law_box" = true)
    (k_box : PySem.W.keepIn K (.ref f_box) = true)
    (a_take : PySem.W.nsIn K mainGlobals "_law_take" = some (some (.ref f_take)))
    (l_take : K.lookup f_take = some ⟨oc_take, od_take, .func (PySem.W.fnOf "_law_take" "_law_take" (defArgs sTake) (defBody sTake) (defScope sTake) .none kV_take dc_take pm_take an_take cd_take ct_take), sl_take⟩)
    (c_take : PySem.W.codeIn K cd_take "_law_take" = true)
    (k_take : PySem.W.keepIn K (.ref f_take) = true)
    (a_dg : PySem.W.nsIn K mainGlobals "_law_digits" = some (some (.ref f_dg)))
    (l_dg : K.lookup f_dg = some ⟨oc_dg, od_dg, .func (PySem.W.fnOf "_law_digits" "_law_digits" (defArgs sDg) (defBody sDg) (defScope sDg) .none kV_dg dc_dg pm_dg an_dg cd_dg ct_dg), sl_dg⟩)
    (c_dg : PySem.W.codeIn K cd_dg "_law_digits" = true)
    (k_dg : PySem.W.keepIn K (.ref f_dg) = true)
    (a_wh : PySem.W.nsIn K mainGlobals "_law_whole" = some (some (.ref f_wh)))
    (l_wh : K.lookup f_wh = some ⟨oc_wh, od_wh, .func (PySem.W.fnOf "_law_whole" "_law_whole" (defArgs sWh) (defBody sWh) (defScope sWh) .none kV_wh dc_wh pm_wh an_wh cd_wh ct_wh), sl_wh⟩)
    (c_wh : PySem.W.codeIn K cd_wh "_law_whole" = true)
    (k_wh : PySem.W.keepIn K (.ref f_wh) = true)
    (a_ir : PySem.W.nsIn K mainGlobals "_law_integers_right" = some (some (.ref f_ir)))
    (l_ir : K.lookup f_ir = some ⟨oc_ir, od_ir, .func (PySem.W.fnOf "_law_integers_right" "_law_integers_right" (defArgs sIr) (defBody sIr) (defScope sIr) .none kV_ir dc_ir pm_ir an_ir cd_ir ct_ir), sl_ir⟩)
    (c_ir : PySem.W.codeIn K cd_ir "_law_integers_right" = true)
    (k_ir : PySem.W.keepIn K (.ref f_ir) = true)
    (a_wr : PySem.W.nsIn K mainGlobals "_law_words_right" = some (some (.ref f_wr)))
    (l_wr : K.lookup f_wr = some ⟨oc_wr, od_wr, .func (PySem.W.fnOf "_law_words_right" "_law_words_right" (defArgs sWr) (defBody sWr) (defScope sWr) .none kV_wr dc_wr pm_wr an_wr cd_wr ct_wr), sl_wr⟩)
    (c_wr : PySem.W.codeIn K cd_wr "_law_words_right" = true)
    (k_wr : PySem.W.keepIn K (.ref f_wr) = true)
    (a_law : PySem.W.nsIn K mainGlobals "law" = some (some (.ref f_law)))
    (l_law : K.lookup f_law = some ⟨oc_law, od_law, .func (PySem.W.fnOf "law" "law" (defArgs sLaw) (defBody sLaw) (defScope sLaw) .none kV_law dc_law pm_law an_law cd_law ct_law), sl_law⟩)
    (c_law : PySem.W.codeIn K cd_law "law" = true)
    (k_law : PySem.W.keepIn K (.ref f_law) = true)
    (a_isl : PySem.W.nsIn K mainGlobals "is_list" = some (some (.ref f_isl)))
    (l_isl : K.lookup f_isl = some ⟨oc_isl, od_isl, .func (PySem.W.fnOf "is_list" "is_list" (defArgs sIsl) (defBody sIsl) (defScope sIsl) .none kV_isl dc_isl pm_isl an_isl cd_isl ct_isl), sl_isl⟩)
    (c_isl : PySem.W.codeIn K cd_isl "is_list" = true)
    (k_isl : PySem.W.keepIn K (.ref f_isl) = true)
    (a_pi : PySem.W.nsIn K mainGlobals "parse_integer" = some (some (.ref f_pi)))
    (l_pi : K.lookup f_pi = some ⟨oc_pi, od_pi, .func (PySem.W.fnOf "parse_integer" "parse_integer" (defArgs sPi) (defBody sPi) (defScope sPi) .none (.ref D_pi) dc_pi pm_pi an_pi cd_pi ct_pi), sl_pi⟩)
    (c_pi : PySem.W.codeIn K cd_pi "parse_integer" = true)
    (k_pi : PySem.W.keepIn K (.ref f_pi) = true)
    (d_pi0 : PySem.W.nsIn K D_pi "low" = some (some (.int 0 t_pi0)))
    (d_pi1 : PySem.W.nsIn K D_pi "high" = some (some (.int 999999 t_pi1)))
    (a_sw : PySem.W.nsIn K mainGlobals "split_words" = some (some (.ref f_sw)))
    (l_sw : K.lookup f_sw = some ⟨oc_sw, od_sw, .func (PySem.W.fnOf "split_words" "split_words" (defArgs sSw) (defBody sSw) (defScope sSw) .none (.ref D_sw) dc_sw pm_sw an_sw cd_sw ct_sw), sl_sw⟩)
    (c_sw : PySem.W.codeIn K cd_sw "split_words" = true)
    (k_sw : PySem.W.keepIn K (.ref f_sw) = true)
    (d_sw0 : PySem.W.nsIn K D_sw "separator" = some (some (.str " " t_sw0)))
    (a_C : PySem.W.nsIn K mainGlobals "Book" = some (some (.ref C)))
    (i_bi : PySem.W.findIn K (.ref C) "__init__" = some (some (.ref fBi)))
    (j_bi : PySem.W.isFn K (.ref fBi) = true)
    (l_bi : K.lookup fBi = some ⟨oc_bi, od_bi, .func (PySem.W.fnOf "__init__" "Book.__init__" (defArgs sBi) (defBody sBi) (defScope sBi) (.ref TBi) kV_bi dc_bi pm_bi an_bi cd_bi ct_bi), sl_bi⟩)
    (c_bi : PySem.W.codeIn K cd_bi "Book.__init__" = true)
    (k_bi : PySem.W.keepIn K (.ref fBi) = true)
    (l_T : K.lookup TBi = some ⟨.type "tuple", od_T, .seq #[.ref tE] n_T, sl_T⟩)
    (l_E : K.lookup tE = some ⟨.type "tuple", od_E, .seq #[] n_E, sl_E⟩)
    (k_C : PySem.W.keepIn K (.ref C) = true)
    (m_C : PySem.W.makesIn K C = true)
    (pg : PySem.W.plainGet K C Str.empty = true)
    (hd : PySem.W.hasDictIn K C = true)
    (po : PySem.W.plainOver K C = true)
    (sa : PySem.W.findIn K (.ref C) "__setattr__" = some (some (.builtin "object.__setattr__")))
    (na1 : PySem.W.findIn K (.ref C) "_rows" = some none)
    (na2 : PySem.W.findIn K (.ref C) "_numbers" = some none)
    (na3 : PySem.W.findIn K (.ref C) "_sizes" = some none)
    (na4 : PySem.W.findIn K (.ref C) "_depths" = some none)
    (na5 : PySem.W.findIn K (.ref C) "_lengths" = some none)
    (ha : PySem.W.findIn K (.ref C) "__class__" = some (some (.builtin "object.__class__")))
    (hn : PySem.W.specialIn K (.builtin "object.__class__") "__get__" = some (some (.builtin "getset_descriptor.__get__")))
    (ht : PySem.W.takesIn K (.builtin "object.__class__") = some true)
    (hm : PySem.W.mroIn K C (.type "object") = some true)
    (hs : PySem.W.subIn K (.ref C) (.type "str") = some false)
    (g_md : PySem.W.nsIn K mainGlobals "MOST_DIGITS" = some (some (.int 30 t_md)))
    (g_dg : PySem.W.nsIn K mainGlobals "DIGITS" = some (some (.str "0123456789" t_dg)))
    (z_range : PySem.W.nsIn K mainGlobals "range" = some none)
    (z_len : PySem.W.nsIn K mainGlobals "len" = some none)
    (z_max : PySem.W.nsIn K mainGlobals "max" = some none)
    (z_min : PySem.W.nsIn K mainGlobals "min" = some none)
    (z_isinstance : PySem.W.nsIn K mainGlobals "isinstance" = some none)
    (z_str : PySem.W.nsIn K mainGlobals "str" = some none)
    (z_ord : PySem.W.nsIn K mainGlobals "ord" = some none)
    (z_repr : PySem.W.nsIn K mainGlobals "repr" = some none)
    (z_all : PySem.W.nsIn K mainGlobals "all" = some none)
    (z_int : PySem.W.nsIn K mainGlobals "int" = some none)
    (z_list : PySem.W.nsIn K mainGlobals "list" = some none)
    (z_tuple : PySem.W.nsIn K mainGlobals "tuple" = some none) :
    ∃ fd : FuncData, (∀ (s : Shared) (v : Value), BindsTo s fd ⟨[v], []⟩ [("_law_script", v)]) ∧ ∀ base : Heap, K.In base → base.Ns mainGlobals mg → FnG l.prog w K mg base CX0 5 fa fd ["_law_script"] (spLaw K) := by
  have e := hfa.symm.trans (PySem.W.mg_of X G a_law)
  cases e
  have F_cell := fun_mk (st := sCell) l_cell c_cell k_cell
  have F_box := fun_mk (st := sBox) l_box c_box k_box
  have F_take := fun_mk (st := sTake) l_take c_take k_take
  have F_dg := fun_mk (st := sDg) l_dg c_dg k_dg
  have F_wh := fun_mk (st := sWh) l_wh c_wh k_wh
  have F_ir := fun_mk (st := sIr) l_ir c_ir k_ir
  have F_wr := fun_mk (st := sWr) l_wr c_wr k_wr
  have F_law := fun_mk (st := sLaw) l_law c_law k_law
  have F_isl := fun_mk (st := sIsl) l_isl c_isl k_isl
  have b_cell := F_cell.binds (ps := ["_law_script", "_law_k"]) fun _ _ _ _ _ _ us hl => match us, hl with | [_, _], _ => rfl
  have b_box := F_box.binds (ps := ["_law_cell_here"]) fun _ _ _ _ _ _ us hl => match us, hl with | [_], _ => rfl
  have b_take := F_take.binds (ps := ["_law_box_here", "_law_many"]) fun _ _ _ _ _ _ us hl => match us, hl with | [_, _], _ => rfl
  have b_dg := F_dg.binds (ps := ["_law_box_here"]) fun _ _ _ _ _ _ us hl => match us, hl with | [_], _ => rfl
  have b_wh := F_wh.binds (ps := ["_law_line", "_law_floor", "_law_roof"]) fun _ _ _ _ _ _ us hl => match us, hl with | [_, _, _], _ => rfl
  have b_ir := F_ir.binds (ps := ["_law_box_here"]) fun _ _ _ _ _ _ us hl => match us, hl with | [_], _ => rfl
  have b_wr := F_wr.binds (ps := ["_law_box_here"]) fun _ _ _ _ _ _ us hl => match us, hl with | [_], _ => rfl
  have b_isl := F_isl.binds (ps := ["value"]) fun _ _ _ _ _ _ us hl => match us, hl with | [_], _ => rfl
  have Fpi : FPi K f_pi _ := ⟨⟨oc_pi, od_pi, .none, .ref D_pi, dc_pi, pm_pi, an_pi, cd_pi, ct_pi, sl_pi, rfl, l_pi, c_pi, .inl ⟨rfl, rfl⟩, .inr ⟨D_pi, rfl, fun q hq => by
    simp only [kwPi, List.mem_cons, List.not_mem_nil, or_false] at hq
    rcases hq with e | e <;> subst e
    · exact ⟨_, d_pi0, ⟨_, rfl⟩⟩
    · exact ⟨_, d_pi1, ⟨_, rfl⟩⟩⟩⟩, k_pi⟩
  have Fsw : FSw K f_sw _ := ⟨⟨oc_sw, od_sw, .none, .ref D_sw, dc_sw, pm_sw, an_sw, cd_sw, ct_sw, sl_sw, rfl, l_sw, c_sw, .inl ⟨rfl, rfl⟩, .inr ⟨D_sw, rfl, fun q hq => by
    simp only [kwSw, List.mem_cons, List.not_mem_nil, or_false] at hq
    subst hq
    exact ⟨_, d_sw0, ⟨_, rfl⟩⟩⟩⟩, k_sw⟩
  have Fbi : FunD K "__init__" "Book.__init__" (defArgs sBi) (defBody sBi) (defScope sBi) [V.ref tE] [] fBi _ := ⟨⟨oc_bi, od_bi, .ref TBi, kV_bi, dc_bi, pm_bi, an_bi, cd_bi, ct_bi, sl_bi, rfl, l_bi, c_bi, .inr ⟨List.cons_ne_nil _ _, TBi, _, [.ref tE], n_T, rfl, l_T, rfl, .cons rfl .nil⟩, .inl rfl⟩, k_bi⟩
  obtain ⟨dsB, vB, bB⟩ := Fbi.binds1 (ps := ["self", "rows"]) 1 0 (List.cons_ne_nil _ _) rfl fun T kV doc pm an cdv ct us its h1 h2 => match us, its, h1, h2 with | [_], [_], _, _ => ⟨_, rfl, rfl⟩
  have t3 : Txt3 K mg := ⟨PySem.W.mg_none_of X G z_isinstance, PySem.W.mg_none_of X G z_str, PySem.W.mg_none_of X G z_len, PySem.W.mg_none_of X G z_all, PySem.W.mg_none_of X G z_int, ⟨_, PySem.W.mg_of X G g_md, ⟨_, rfl⟩⟩, ⟨_, PySem.W.mg_of X G g_dg, ⟨_, rfl⟩⟩⟩
  have tl : TxtLaw K mg := ⟨PySem.W.mg_none_of X G z_range, PySem.W.mg_none_of X G z_len, PySem.W.mg_none_of X G z_max, PySem.W.mg_none_of X G z_min, PySem.W.mg_none_of X G z_isinstance, PySem.W.mg_none_of X G z_str, PySem.W.mg_none_of X G z_ord, PySem.W.mg_none_of X G z_repr⟩
  have tb : TxtB K mg C := ⟨⟨pg, hd, po, sa⟩, na1, na2, na3, na4, na5⟩
  have ti : TxtI K C := ⟨⟨pg, hd, po, sa⟩, ha, hn, ht, hm, kit_of_sub hs⟩
  refine ⟨PySem.W.fnOf "law" "law" (defArgs sLaw) (defBody sLaw) (defScope sLaw) .none kV_law dc_law pm_law an_law cd_law ct_law, fun s v => .of_eq rfl, fun base _ _ => ?_⟩
  have CC : Cg l.prog w K mg base 1 "_law_cell" (spCellT K) := .mk' F_cell (ok_cell F_cell (PySem.W.mg_none_of X G z_len)) (PySem.W.mg_of X G a_cell) b_cell
  have CB : Cg l.prog w K mg base 1 "_law_box" spBox := .mk' F_box (ok_box F_box (PySem.W.mg_none_of X G z_max)) (PySem.W.mg_of X G a_box) b_box
  have CT : Cg l.prog w K mg base 1 "_law_take" spTake := .mk' F_take (ok_take F_take) (PySem.W.mg_of X G a_take) b_take
  have CD : Cg l.prog w K mg base 2 "_law_digits" spDg := .mk' F_dg (ok_dg F_dg tl CT) (PySem.W.mg_of X G a_dg) b_dg
  have CWh : Cg l.prog w K mg base 1 "_law_whole" spWh := .mk' F_wh (ok_wh F_wh tl) (PySem.W.mg_of X G a_wh) b_wh
  have GP : FnOk l.prog w K mg base CX0 1 f_pi _ ["text", "low", "high"] (spPi K) := ok_pi Fpi t3
  have GS : FnOk l.prog w K mg base CX0 1 f_sw _ ["text", "separator"] (spSw K) := ok_sw Fsw t3
  have GL : FnOk l.prog w K mg base CX0 1 f_isl _ ["value"] (spIsl K) := ok_isl F_isl ⟨PySem.W.mg_none_of X G z_isinstance, PySem.W.mg_none_of X G z_list, PySem.W.mg_none_of X G z_tuple⟩
  have GB : FnOk l.prog w K mg base CX0 2 fBi _ ["self", "rows"] (spBi K C) := ok_bi Fbi tb GL (PySem.W.mg_of X G a_isl) F_isl.kp b_isl
  have CI : Cg l.prog w K mg base 3 "_law_integers_right" spIr := .mk' F_ir (ok_ir F_ir tl CT CD CWh Fpi GP (PySem.W.mg_of X G a_pi)) (PySem.W.mg_of X G a_ir) b_ir
  have CW : Cg l.prog w K mg base 3 "_law_words_right" spWr := .mk' F_wr (ok_wr F_wr tl CT Fsw GS (PySem.W.mg_of X G a_sw)) (PySem.W.mg_of X G a_wr) b_wr
  exact ok_law F_law tl CC CB CI CW Fpi GP (PySem.W.mg_of X G a_pi) Fsw GS (PySem.W.mg_of X G a_sw) ti ⟨m_C, i_bi, j_bi, k_C⟩ GB (PySem.W.mg_of X G a_C) bB vB ⟨_, _, l_E, rfl, rfl⟩
end T03
set_option Elab.async false
set_option linter.all false
open PySem PySem.W PyProof.Rows
set_option maxRecDepth 100000 in
set_option maxHeartbeats 0 in
theorem PySem.Challenge.cw_toldpast_k03_integers_and_words_in_strin_holds : PySem.Challenge.rw_toldpast_k03_integers_and_words_in_strin.Holds := by
  w_on; o_law; k_head; (case hw => w_witness2)
  k_fill
  refine Tp.walkG (l := PySem.Challenge.rw_toldpast_k03_integers_and_words_in_strin) (n := 63) (k := 5) (x := "_law_script") (sp := T03.spLaw) rfl (by decide) rfl ⟨rfl, by decide, by decide⟩ (fun w h Y => PySem.W.kIn_of Y) ?F (fun K H a ns hl _ hS => ⟨a, ns, rfl, hS, hl, fun _ => rfl⟩)
  case F =>
    intro w mg fa h KX G hmg
    refine' T03.all_mk (l := PySem.Challenge.rw_toldpast_k03_integers_and_words_in_strin) KX G hmg ?a_cell ?l_cell ?c_cell ?k_cell ?a_box ?l_box ?c_box ?k_box ?a_take ?l_take ?c_take ?k_take ?a_dg ?l_dg ?c_dg ?k_dg ?a_wh ?l_wh ?c_wh ?k_wh ?a_ir ?l_ir ?c_ir ?k_ir ?a_wr ?l_wr ?c_wr ?k_wr ?a_law ?l_law ?c_law ?k_law ?a_isl ?l_isl ?c_isl ?k_isl ?a_pi ?l_pi ?c_pi ?k_pi ?d_pi0 ?d_pi1 ?a_sw ?l_sw ?c_sw ?k_sw ?d_sw0 ?a_C ?i_bi ?j_bi ?l_bi ?c_bi ?k_bi ?l_T ?l_E ?k_C ?m_C ?pg ?hd ?po ?sa ?na1 ?na2 ?na3 ?na4 ?na5 ?ha ?hn ?ht ?hm ?hs ?g_md ?g_dg ?z_range ?z_len ?z_max ?z_min ?z_isinstance ?z_str ?z_ord ?z_repr ?z_all ?z_int ?z_list ?z_tuple
    (case a_cell => k_is)
    (case l_cell => k_is)
    (case c_cell => k_is)
    (case k_cell => k_is)
    (case a_box => k_is)
    (case l_box => k_is)
    (case c_box => k_is)
    (case k_box => k_is)
    (case a_take => k_is)
    (case l_take => k_is)
    (case c_take => k_is)
    (case k_take => k_is)
    (case a_dg => k_is)
    (case l_dg => k_is)
    (case c_dg => k_is)
    (case k_dg => k_is)
    (case a_wh => k_is)
    (case l_wh => k_is)
    (case c_wh => k_is)
    (case k_wh => k_is)
    (case a_ir => k_is)
    (case l_ir => k_is)
    (case c_ir => k_is)
    (case k_ir => k_is)
    (case a_wr => k_is)
    (case l_wr => k_is)
    (case c_wr => k_is)
    (case k_wr => k_is)
    (case a_law => k_is)
    (case l_law => k_is)
    (case c_law => k_is)
    (case k_law => k_is)
    (case a_isl => k_is)
    (case l_isl => k_is)
    (case c_isl => k_is)
    (case k_isl => k_is)
    (case a_pi => k_is)
    (case l_pi => k_is)
    (case c_pi => k_is)
    (case k_pi => k_is)
    (case d_pi0 => k_is)
    (case d_pi1 => k_is)
    (case a_sw => k_is)
    (case l_sw => k_is)
    (case c_sw => k_is)
    (case k_sw => k_is)
    (case d_sw0 => k_is)
    (case a_C => k_is)
    (case i_bi => k_is)
    (case j_bi => k_is)
    (case l_bi => k_is)
    (case c_bi => k_is)
    (case k_bi => k_is)
    (case l_T => k_is)
    (case l_E => k_is)
    (case k_C => k_is)
    (case m_C => k_is)
    (case pg => k_is)
    (case hd => k_is)
    (case po => k_is)
    (case sa => k_is)
    (case na1 => k_is)
    (case na2 => k_is)
    (case na3 => k_is)
    (case na4 => k_is)
    (case na5 => k_is)
    (case ha => k_is)
    (case hn => k_is)
    (case ht => k_is)
    (case hm => k_is)
    (case hs => k_is)
    (case g_md => k_is)
    (case g_dg => k_is)
    (case z_range => k_is)
    (case z_len => k_is)
    (case z_max => k_is)
    (case z_min => k_is)
    (case z_isinstance => k_is)
    (case z_str => k_is)
    (case z_ord => k_is)
    (case z_repr => k_is)
    (case z_all => k_is)
    (case z_int => k_is)
    (case z_list => k_is)
    (case z_tuple => k_is)
#print axioms PySem.Challenge.cw_toldpast_k03_integers_and_words_in_strin_holds
