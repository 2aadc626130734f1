import PyProof.Rows.All
import Wide.All
import OpenK.AllK
import Wide.FinOn
import HandS.ForMost
import HandS.ForExc
import HandS.ExcInit
import HandS.ExcField
import HandS.IsInst
import HandS.Wide
import PyProof.ReprRoads
import KE.KExcIs
import HandS.Style
import HandS.TupAny
import HandS.Conv
import HandS.Dict
import PyProof.NeData
import HandS.SortOrd
import HandS.SortRule
import HandS.TupLe
import KE.KSortTup
import KE.KSortAsk
import KE.GoesMore
import KE.GoesEnum
import HandS.Text
import HandS.Walk
import KE.KDictPairs
import KE.KDictWalk
import HandS.Strs
import HandS.OwnEq
import HandS.TupLen
import HandS.Defaults
import KE.SortData
import PyProof.InstNe
import HandS.Steps
import HandS.DictEq
import HandS.Star
import HandS.Deep
import HandS.TupMul
import HandS.SlotsOwn
import HandS.Zip
import HandS.NoneIn
import PyProof.Rows.ReprOcc
import PyProof.Rows.StrIntSpec
import PyProof.EqKinds
import PyProof.FactsAll.dict_1
import PyProof.FactsAll.tuple_1
import HandS.TryOnly
import HandS.Lambda
import HandS.EndTab
import HandS.WordsExc
import PySem.Challenge.RW_wakesothers_k09_how_rules_differ
set_option Elab.async false
set_option linter.all false
set_option maxRecDepth 100000
set_option maxHeartbeats 0
section
open PySem PySem.W PyProof.Rows
open_top hd09 for PySem.Challenge.rw_wakesothers_k09_how_rules_differ
end
namespace Wk
open PySem PySem.Spec PyProof.Rows L2
set_option maxHeartbeats 4000000

/-! ## defs that are called where no repr runs -/
structure FnG (P : Program) (w : World) (K : PySem.W.Frag) (mg : Str → Option Value) (base : Heap) (CX : CXT) (k : Nat) (f : Addr) (fd : FuncData) (ps : List Str) (sp : Sp) : Prop where
  len : ∀ vs H Q E, sp vs H Q E → vs.length = ps.length
  go : ∀ (A : Around) (outer : List Env) (s : Shared) (H : Hp) (args : Args) (us : List Value) (vs : List V) (Q : VK) (E : XK),
    A.guards = some [] → Room k A → Env0 P w K mg base A outer s H → BindsTo s fd args (ps.zip us) → Vals vs us → sp vs H Q E →
    codeAny (model P w) A (.call (.ref f) args) (CR CX outer P w H s Q E) s

section
variable {P : Program} {w : World} {K : PySem.W.Frag} {mg : Str → Option Value} {base : Heap}
theorem FnG.ofOk {CX : CXT} {k : Nat} {f : Addr} {fd : FuncData} {ps : List Str} {sp : Sp} (F : FnOk P w K mg base CX k f fd ps sp) : FnG P w K mg base CX k f fd ps sp :=
  ⟨F.len, fun A outer s H args us vs Q E _ hr e0 hb r h => F.run A outer s H args us vs Q E hr e0 hb r h⟩

/-- a def of the text by its body, where no repr runs around the call -/
theorem funG {x qual : Str} {st : Stmt} {f : Addr} {fd : FuncData} {N ps : List Str} {k : Nat} {sp : Sp} (F : Fun K x qual st f fd) (S : FnScope N ps (defScope st))
    (len : ∀ vs H Q E, sp vs H Q E → vs.length = ps.length)
    (hbody : ∀ (cdv : Value) (A : Around) (outer : List Env) (s : Shared) (H : Hp) (vs : List V) (Q : VK) (E : XK),
      (A.deeper (envOfC qual (defScope st) s.heap.objs.size f cdv)).guards = some [] →
      Room k (A.deeper (envOfC qual (defScope st) s.heap.objs.size f cdv)) → sp vs H Q E →
      ∃ t, PSs (cxOf CX0 P w K mg base N qual (defScope st) f cdv A outer s H E).nox (defBody st) t ∧
        t { nx := fun _ H' => Q .non H', rt := Q } (start N vs) H) :
    FnG P w K mg base CX0 (k + 1) f fd ps sp := by
  obtain ⟨oc, od, kV, doc, pm, an, cdv, ct, osl, rfl, lk, hcd⟩ := F.ex
  refine ⟨len, fun A outer s H args us vs Q E hgd hr e0 hb r hsp => ?_⟩
  have hl := len _ _ _ _ hsp
  have KX : K.In s.heap := e0.mod.kin.keeps fun b o e => (e0.bs b o e).1
  have lim : s.heap.NoLimit := e0.mod.nolimit.keeps fun b o e => (e0.bs b o e).1
  have kinds : ∀ y ∈ ps.zip us, (defScope st).names.lookup y.1 = some .local ∨
      ((defScope st).names.lookup y.1 = some .cell ∧ ((cellsFrom (s.heap.objs.size + 1) (defScope st).names []).lookup y.1).isSome = true) := by
    rintro ⟨n, v⟩ hy
    rcases S.par n (List.of_mem_zip hy).1 with q | q
    · exact .inl q
    · exact .inr ⟨q, PySem.W.cellsFrom_some _ _ _ (.inl q)⟩
  refine codeAny_call_function hr.depth (KX _ _ lk) rfl S.co S.gen rfl (PySem.W.codeRec_of KX hcd) (hb _ _ _ _ ?_)
  refine wpAny_newFunctionEnv_cells S.kind kinds fun env he s1 x => ?_
  subst he
  refine ⟨lim.keeps x.toInCall.keep, codeAny_func ?_⟩
  obtain ⟨t, ht, hq⟩ := hbody cdv A outer s H vs Q E (by first | exact hgd | (show A.guards = some []; exact hgd)) (hr.deeper _) hsp
  have I := inv_start (CX := CX0) (N := N) (f := f) (cd := cdv) (qual := qual) (E := E) S hr.hd e0 hl r x
  refine wpAny_mono (ht.nox.run [] s1 (start N vs) H _ I hq) (fun fl s' hs => ?_) fun e s' hs => hs
  cases fl with
  | ret u =>
    obtain ⟨v, σ', H', J, rv, q⟩ := hs
    exact ⟨v, H', J.os, J.bare, J.base, J.hok, rv, q⟩
  | next =>
    obtain ⟨σ', H', J, q⟩ := hs
    exact ⟨V.non, H', J.os, J.bare, J.base, J.hok, rfl, q⟩
  | brk =>
    obtain ⟨_, _, _, q⟩ := hs
    exact False.elim q
  | cont =>
    obtain ⟨_, _, _, q⟩ := hs
    exact False.elim q
end

section
variable {X : Cx} {CX : CXT} {k : Nat} {f : Addr} {fd : FuncData} {ps : List Str} {sp : Sp} {dvs : List V} {ds : List Value} {E : XK} {x : Str} {p pos : Pos} {e : Expr} {es : List Expr} {t : TA}
theorem runG {pins : List (Addr × Obj)} {σ : L2.St} {H : Hp} {s : Shared} {Q : VK} {us : List Value} {vs : List V} (F : FnG X.prog X.w X.K X.mg X.base CX k f fd ps sp)
    (hgd : X.A.guards = some []) (hr : Room k X.A) (hb : Binds X.K fd ps ds) (hd : Vals dvs ds) (hx : Passes CX X E)
    (I : Inv X pins σ H s) (r : Vals vs us) (h : sp (vs ++ dvs) H Q E) : wpAny (model X.prog X.w) X.A (call (.ref f) us) (EP X pins σ Q) X.xe s := by
  have r2 : Vals (vs ++ dvs) (us ++ ds) := r.append hd
  have hl : (us ++ ds).length = ps.length := (r2.length).symm.trans (F.len _ _ _ _ h)
  refine wpAny_call (codeAny_mono (F.go X.A X.stack s H ⟨us, []⟩ _ _ Q E hgd hr I.env0 (hb s us I.kIn hl) r2 h) fun r s' hq => ?_)
  match r, hq with
  | .error e, hq => exact hx pins σ H s e s' I hq
  | .ok (.ret u), hq => exact I.after hq
theorem pe_callG (F : FnG X.prog X.w X.K X.mg X.base CX k f fd ps sp) (hgd : X.A.guards = some []) (hr : Room k X.A) (hg : Gl X x) (hm : X.mg x = some (.ref f)) (hk : PySem.W.keepIn X.K (.ref f) = true)
    (hb : Binds X.K fd ps ds) (hd : Vals dvs ds) (hx : Passes CX X E) (ha : PA X (e :: es) t)
    (hdb : (x == ("__debug__" : Str)) = false := by decide) (he : starEach (e :: es) X.env = (false, eval e X.env) :: starEach es X.env := by rfl)
    (hpl : (backTo pos (starEach es X.env)).any (·.1) = false := by rfl) :
    PE X (.Call (.Name x p) (e :: es) [] pos) (tCall sp dvs E t) :=
  ⟨fun pins s σ H Q I h => wpAny_Call_Name_kw (ld_glob I hg hm (PySem.W.callWith_K (h₀ := X.base) I.ok.mod.kin hk
    (thn (ha.run pos pins s σ H _ I h) fun us s1 ⟨vs, H1, I1, r, q⟩ => ⟨I1.kIn, runG F hgd hr hb hd hx I1 r q⟩) he hpl) hdb)⟩
end

/-! ## the law's own call -/
/-- from a heap that holds the script alone -/
theorem lawRun {P : Program} {w : World} {K : PySem.W.Frag} {mg mb : Str → Option Value} {k : Nat} {fa a : Addr} {fd : FuncData} {x : Str} {sp : Sp} {s₁ : Shared} {vs : List Value} {H : Hp}
    (KX : K.In s₁.heap) (hns : s₁.heap.Ns mainGlobals mg) (hb : s₁.heap.Ns builtinsNs mb) (hbb : ∀ x : Str, x ≠ "__name__" → mb x = bootBuiltins x)
    (hlim : s₁.heap.NoLimit) (hg : s₁.gens = #[]) (ha : s₁.heap.get? a = some { cls := .type "list", data := .seq vs.toArray })
    (hr : Room k callerA) (F : ∀ base : Heap, K.In base → base.Ns mainGlobals mg → FnG P w K mg base CX0 k fa fd [x] sp)
    (hbind : ∀ (s : Shared) (u : Value), BindsTo s fd ⟨[u], []⟩ [(x, u)])
    (hsp : sp [.ref a] H (fun v _ => v = .bl true) fun _ _ _ => False)
    (hO : Only H) (hok : HOk P w H s₁.heap) (hA : ∀ b, H b ≠ none → b = a) (hK : H a ≠ none → K.lookup a = none) :
    codeAny (model P w) callerA (.call (.ref fa) ⟨[.ref a], []⟩) (fun r s' => r = .ok (.ret (.bool true)) ∧ OldK s₁.heap s'.heap ∧ s'.os = s₁.os ∧ AllBare s'.gens) s₁ := by
  have out : ∀ {b : Addr} {u : HO}, H b = some u → b = a := fun {b u} q => hA b (by rw [q]; exact fun z => nomatch z)
  have nodict : ∀ {b : Addr} {o : Obj} {es : Array DictEntry} {ep : Nat}, s₁.heap.get? b = some o → o.data = .dict es ep → H b = none := by
    intro b o es ep e d
    cases q : H b with
    | none => rfl
    | some u =>
      obtain rfl := out q
      rw [ha] at e
      obtain rfl := Option.some.inj e
      cases d
  have hide : ∀ {b : Addr} {m : Str → Option Value}, s₁.heap.Ns b m → (hidT s₁.heap H).Ns b m := by
    rintro b m ⟨o, es, ep, e, d, r⟩
    exact ⟨o, es, ep, hidT_get e (nodict e d), d, r⟩
  have hKb : K.In (hidT s₁.heap H) := by
    intro b o e
    refine hidT_get (KX b o e) ?_
    cases q : H b with
    | none => rfl
    | some u =>
      obtain rfl := out q
      rw [hK (by rw [q]; exact fun z => nomatch z)] at e
      cases e
  have hM : Mod K mg (hidT s₁.heap H) := by
    obtain ⟨mc, h1, h2⟩ := hlim
    exact ⟨hKb, hide hns, ⟨mb, hide hb, hbb⟩, ⟨mc, hide h1, h2⟩⟩
  have e0 : Env0 P w K mg (hidT s₁.heap H) callerA [] s₁ H :=
    { frames := rfl, mod := hM, bs := fun _ _ e => of_hidT e, bsz := Nat.le_of_eq (hidT_size _ _), funs := trivial
      frf := (fun b hb => absurd (show b ∈ ([] : List Addr) from hb) (by simp)), hok := hok, bare := .of_eq hg }
  refine codeAny_mono ((F _ hKb (hide hns)).go callerA [] s₁ H ⟨[.ref a], []⟩ [.ref a] [.ref a] _ _ rfl hr e0 (hbind s₁ (.ref a)) (.cons rfl .nil) hsp) fun r s' h => ?_
  cases r with
  | error e => exact False.elim h
  | ok fl =>
   cases fl with
   | next => exact False.elim h
   | brk => exact False.elim h
   | cont => exact False.elim h
   | ret u =>
    obtain ⟨v, H', os, bare, un, hok', r', q⟩ := h
    obtain rfl : v = .bl true := q
    obtain rfl : u = Value.bool true := r'
    refine ⟨rfl, OldK.of_keep fun b o e => ?_, os, bare⟩
    cases q : H b with
    | none => exact un.keep b o e q (fun z => nomatch z) (fun z => nomatch z)
    | some u =>
      rcases hO b with z | ⟨ob, xs, z⟩
      · rw [q] at z
        cases z
      · have e1 := (hok b _ z).1
        have e2 := (hok' b _ (un.frzs b ob _ z)).1
        rw [e] at e1
        obtain rfl := Option.some.inj e1
        exact e2

theorem walkG {l : PySem.W.OpenLaw} {n k : Nat} {q : Program} {loose : List Str} {XP : (Str → Option Value) → Heap → Prop} {YP : World → Heap → Prop} {d : DefRec} {K : Params → PySem.W.Frag} {sp : World → Sp} {x : Str}
    (hn : l.most = some n) (hn2 : n ≤ sizeLine) (hdf : d.params.defaults = []) (hr : Room k callerA) (hY : ∀ (w : World) (h : Heap), YP w h → (K w.params).In h)
    (F : ∀ (w : World) (mg : Str → Option Value) (fa : Addr) (h : Heap), (K w.params).In h → h.Ns mainGlobals mg → mg d.name = some (.ref fa) →
      ∃ fd : FuncData, (∀ (s : Shared) (u : Value), BindsTo s fd ⟨[u], []⟩ [(x, u)]) ∧
        ∀ base : Heap, (K w.params).In base → base.Ns mainGlobals mg → FnG l.prog w (K w.params) mg base CX0 k fa fd [x] (sp w))
    (hsp : ∀ (w : World) (H : Hp) (a : Addr) (ns : List Int), ns.length ≤ n → Only H → SqL (K w.params) H a (ns.map V.int) → sp w [.ref a] H (fun v _ => v = .bl true) fun _ _ _ => False) :
    PySem.W.WalkO q loose XP YP l.row.toRowW d [] (fun f vs => PySem.call f vs) := by
  refine Att.attach_call hn hdf ?_
  intro w s₀ s₁ mg mb fa o pm cd doc a vs ns GG Y ho hd hcd hmg hobj hints hlen hg
  have KX := hY w _ Y
  obtain ⟨fd, hb, hF⟩ := F w mg fa _ KX GG.T.g hmg
  have rv := vals_ints hints
  have lenV := hints.length
  have hsz : ns.length ≤ sizeLine := Nat.le_trans hlen hn2
  cases hk : (K w.params).lookup a with
  | some o =>
    have e := KX a o hk
    rw [hobj] at e
    obtain rfl := Option.some.inj e
    refine lawRun (H := fun _ => none) KX GG.T.g GG.T.b GG.T.builtins GG.T.nolimit hg hobj hr hF hb
      (hsp w _ a ns hlen (fun _ => .inl rfl) (.inr ⟨_, vs.toArray, _, hk, rfl, rfl, rfl, ?_, ?_⟩)) (fun _ => .inl rfl) (fun _ _ z => nomatch z) (fun _ z => absurd rfl z) (fun z => absurd rfl z)
    · rw [List.size_toArray, lenV]
      exact hsz
    · simpa using rv
  | none =>
    have at_a : (fun b => if b = a then some (HO.frz { cls := .type "list", data := .seq vs.toArray } (.lst (ns.map V.int))) else none) a = some (HO.frz { cls := .type "list", data := .seq vs.toArray } (.lst (ns.map V.int))) := if_pos rfl
    refine lawRun (H := fun b => if b = a then some (HO.frz { cls := .type "list", data := .seq vs.toArray } (.lst (ns.map V.int))) else none) KX GG.T.g GG.T.b GG.T.builtins GG.T.nolimit hg hobj hr hF hb
      (hsp w _ a ns hlen ?_ (.inl (.inr ⟨_, at_a⟩))) ?_ ?_ ?_ (fun _ => hk)
    · intro b
      by_cases h : b = a
      · exact .inr ⟨_, _, if_pos h⟩
      · exact .inl (if_neg h)
    · intro b
      by_cases h : b = a
      · exact .inr ⟨_, _, if_pos h⟩
      · exact .inl (if_neg h)
    · intro b u z
      by_cases h : b = a
      · subst h
        rw [at_a] at z
        obtain rfl := Option.some.inj z
        exact ⟨hobj, by rw [List.length_map]; exact hsz, vs, _, rv, hobj⟩
      · dsimp only at z
        rw [if_neg h] at z
        cases z
    · intro b z
      by_cases h : b = a
      · exact h
      · exact absurd (if_neg h) z

/-! ## errors as values -/
/-- what the written part says of an error's class -/
structure ErrC (K : PySem.W.Frag) (D fI : Addr) : Prop where
  o : OexC K D
  x : XfC K D
  ini : PySem.W.findIn K (.ref D) "__init__" = some (some (.ref fI))
  inv : PySem.W.findIn K (.ref D) "value" = some none
  cc : PySem.W.findIn K (.ref D) "__class__" = some (some (.builtin "object.__class__"))
  cg : PySem.W.specialIn K (.builtin "object.__class__") "__get__" = some (some (.builtin "getset_descriptor.__get__"))
  ct : PySem.W.takesIn K (.builtin "object.__class__") = some true
  cm : PySem.W.mroIn K D (.type "object") = some true
/-- an error of the class D with this value stands at a -/
def ErrAt (H : Hp) (a D : Addr) (v : V) : Prop := ∃ d, H a = some (exo a D (some d)) ∧ H d = some (exd d [(("value" : Str), v)])

/-- D(e) as a value -/
def tErr (D : Addr) (sp : Sp) (t : TA) : TE := fun σ H Q => t σ H fun vs H1 => vs.length ≤ 1000 ∧
  ∀ a, H1 a = none → sp (.ref a :: vs) (upd H1 a (exo a D none)) (fun v H2 => v = .non ∧ Q (.ref a) H2) (fun _ _ _ => False)
section
variable {X : Cx}
theorem pe_err {x : Str} {D fI : Addr} {k : Nat} {fd : FuncData} {ps : List Str} {sp : Sp} {e : Expr} {es : List Expr} {t : TA} {p pos : Pos} (T : ErrC X.K D fI)
    (tI : PySem.W.typeIn X.K (.ref fI) = some (.type "function")) (F1 : FnOk X.prog X.w X.K X.mg X.base CX0 k fI fd ps sp) (hr : Room (k + 1) X.A) (hb : Binds X.K fd ps [])
    (hg : Gl X x) (hm : X.mg x = some (.ref D)) (ha : PA X (e :: es) t) (hdb : (x == ("__debug__" : Str)) = false := by decide)
    (he : starEach (e :: es) X.env = (false, eval e X.env) :: starEach es X.env := by rfl) (hpl : (backTo pos (starEach es X.env)).any (·.1) = false := by rfl) :
    PE X (.Call (.Name x p) (e :: es) [] pos) (tErr D sp t) := by
  refine ⟨fun pins s σ H Q I h => ?_⟩
  obtain ⟨nm, q, N, bs, bm, sn, sub, ab, col, dd, k0, k1, k2, k3, k5, hC, hbm⟩ := T.o.cls
  refine wpAny_Call_Name_kw (ld_glob I hg hm ?_ hdb)
  refine PySem.W.callWith_K (h₀ := X.base) I.ok.mod.kin T.o.kC (thn (ha.run pos pins s σ H _ I h) ?_) he hpl
  rintro us s1 ⟨vs, H1, I1, r1, hz, q1⟩
  refine ⟨I1.kIn, ?_⟩
  show wpAny _ _ (call (.ref D) us) _ _ _
  obtain ⟨hp, g, dr, tk, os⟩ := s1
  have hn : H1 (hp.objs.size + 1) = none := I1.hok.fresh (Nat.le_succ _)
  have hq := q1 _ hn
  have kk : ∀ b o, hp.get? b = some o → ((hp.push (PySem.W.kdv_tup us)).push (PySem.HandSPX.excO D hp.objs.size)).get? b = some o :=
    fun b o e => Heap.get?_push_of_some _ (Heap.get?_push_of_some _ e)
  have hget : ((hp.push (PySem.W.kdv_tup us)).push (PySem.HandSPX.excO D hp.objs.size)).get? (hp.objs.size + 1) = some (PySem.HandSPX.excO D hp.objs.size) := by
    heap_get
  have I2 : Inv X pins σ (upd H1 (hp.objs.size + 1) (exo (hp.objs.size + 1) D none)) ⟨(hp.push (PySem.W.kdv_tup us)).push (PySem.HandSPX.excO D hp.objs.size), g, dr, tk, os⟩ :=
    I1.laid (t' := tk) (a := hp.objs.size + 1) (o := exo (hp.objs.size + 1) D none) (h' := (hp.push (PySem.W.kdv_tup us)).push (PySem.HandSPX.excO D hp.objs.size))
      kk (Nat.le_succ _) (exo_ok hget)
  have r2 : Vals (V.ref (hp.objs.size + 1) :: vs) (Value.ref (hp.objs.size + 1) :: us) := .cons rfl r1
  have hl : (Value.ref (hp.objs.size + 1) :: us ++ []).length = ps.length := by
    rw [List.append_nil]
    exact r2.length.symm.trans (F1.len _ _ _ _ hq)
  have hbb := hb _ (Value.ref (hp.objs.size + 1) :: us) I2.kIn hl
  rw [List.append_nil] at hbb
  have hus : us.length ≤ sizeLine := by
    rw [← Paired.length r1, sizeLine_eq]
    omega
  refine wpAny_call (PySem.HandSPX.call_own F.excBase_ValueError (fun Y => PySem.HandSPX.refsVE_contains Y bm hbm) (I1.kIn _ _ hC) (PySem.W.looks_findIn I1.kIn T.ini)
    (fun self => PySem.W.bind_fn I1.kIn self tI) hus (codeAny_mono (F1.run _ X.stack _ _ ⟨Value.ref (hp.objs.size + 1) :: us, []⟩ _ _ _ (fun _ _ _ => False)
      (hr.make D us []) (I2.env0.make D us []) hbb r2 hq) fun r s' hq' => ?_))
  cases r with
  | error er => exact False.elim hq'
  | ok fl =>
    cases fl with
    | ret u =>
      obtain ⟨v, H2, I3, rv, ev, q3⟩ := I2.after hq'
      subst ev
      exact ⟨rv, ⟨V.ref (hp.objs.size + 1), H2, I3, rfl, q3⟩⟩
    | next => exact False.elim hq'
    | brk => exact False.elim hq'
    | cont => exact False.elim hq'

/-- e.value of an error -/
def tErrV (te : TE) : TE := fun σ H Q => te σ H fun x H1 => ∃ a D v, x = .ref a ∧ ErrAt H1 a D v ∧ (∃ K fI, ErrC K D fI) ∧ Q v H1
def tValue (K : PySem.W.Frag) (te : TE) : TE := fun σ H Q => te σ H fun x H1 => ∃ (a D fI : Addr) (v : V), x = .ref a ∧ ErrC K D fI ∧ ErrAt H1 a D v ∧ Q v H1
theorem err_inst {pins : List (Addr × Obj)} {σ : L2.St} {H : Hp} {s : Shared} {a D : Addr} {v : V} (I : Inv X pins σ H s) (h : ErrAt H a D v) :
    ∃ ox od, PySem.W.InstAt s.heap a ox D (some od) ∧ ∃ u, RelV v u ∧ PySem.W.lookIn ("value" : Str) od = some (some u) := by
  obtain ⟨d, ha, hd⟩ := h
  obtain ⟨t1, ho⟩ := exo_at I.hok ha
  obtain ⟨mA, hns, hr⟩ := exd_at I.hok hd
  obtain ⟨od, hod, hl⟩ := lookIn_ns hns
  have l : List.lookup ("value" : Str) [(("value" : Str), v)] = some v := by simp [List.lookup]
  obtain ⟨u, hu, ru⟩ := RelO.some_of (v := v) (o := mA "value") (by rw [← l]; exact hr "value")
  exact ⟨_, od, ⟨ho, rfl, rfl, hod⟩, u, ru, by rw [hl, hu]⟩
theorem pe_value {e : Expr} {te : TE} {pos : Pos} (he : PE X e te) (hb : attributeBase e "value" X.env (eval e X.env) = eval e X.env := by rfl) :
    PE X (.Attribute e "value" pos) (tValue X.K te) := by
  refine ⟨fun pins s σ H Q I h => attr_of hb (thn (he.run pins s σ H _ I h) ?_)⟩
  rintro u s1 ⟨x, H1, I1, rx, a, D, fI, v, ex, T, ea, q⟩
  subst ex
  obtain rfl : u = Value.ref a := rx
  obtain ⟨ox, od, J, w, rw', hl⟩ := err_inst I1 ea
  exact HandSPX.exc_get I1.kIn J T.x.ga T.x.gg T.x.exC (PySem.W.findObj_own T.x.hdC T.inv rfl hl) (handed_of rw') ⟨v, H1, I1.tok _, rw', q⟩
/-- isinstance(error, class) -/
def rIsErr (K : PySem.W.Frag) : List V → Hp → VK → Prop := fun xs H Q => ∃ (a D fI : Addr) (v c : V) (cv : Value) (b : Bool), xs = [.ref a, c] ∧ ErrC K D fI ∧ ErrAt H a D v ∧ ClsV c cv ∧ PySem.W.kitOne K (.ref D) cv = some b ∧ Q (.bl b) H
theorem call_isErr : CallR X (.builtin "isinstance") (rIsErr X.K) := by
  intro pins s σ H xs us Q I r h
  obtain ⟨a, D, fI, v, c, cv, b, rfl, T, ea, kc, e, q⟩ := h
  obtain ⟨u1, u2, rfl, r1, r2⟩ := vals2 r
  have e2 := kc.eq r2
  subst e2
  obtain rfl : u1 = Value.ref a := r1
  obtain ⟨ox, od, J, _⟩ := err_inst I ea
  have hcl : (PySem.W.clsIn X.K D).isSome = true := by
    have z := T.x.hdC
    unfold PySem.W.hasDictIn at z
    cases hc : PySem.W.clsIn X.K D with
    | none =>
      rw [hc] at z
      cases z
    | some cd => rfl
  exact PySem.W.kia_one (PySem.W.kitx_exc (ox := ox) (od := some od) hcl T.x.ga T.x.gg T.x.exC T.cc T.cg T.ct T.cm) I.kIn J e (fun z => nomatch z) fun tk => ⟨.bl b, H, I.tok tk, rfl, q⟩
end

/-! ## data: sizes -/
mutual
def okD : PyData → Bool
  | .none | .bool _ => true
  | .int i => decide (i.natAbs < 2 ^ 100)
  | .str x => x.cps.toList.all (fun c => decide (c < 128))
  | .list xs | .tuple xs => okA xs
  | .dict kvs => okKv kvs
def okA : List PyData → Bool
  | [] => true
  | x :: xs => okD x && okA xs
def okKv : List (PyData × PyData) → Bool
  | [] => true
  | (k, v) :: r => okD k && okD v && okKv r
end
mutual
def szD : PyData → Nat
  | .none | .bool _ => 5
  | .int _ => 110
  | .str x => 10 * x.length + 2
  | .list xs | .tuple xs => szA xs + 3
  | .dict kvs => szKv kvs + 2
def szA : List PyData → Nat
  | [] => 0
  | x :: xs => szD x + 2 + szA xs
def szKv : List (PyData × PyData) → Nat
  | [] => 0
  | (k, v) :: r => szD k + szD v + 4 + szKv r
end
theorem okA_iff : ∀ {xs : List PyData}, okA xs = true ↔ ∀ d ∈ xs, okD d = true
  | [] => ⟨fun _ d h => absurd h (by simp), fun _ => rfl⟩
  | x :: xs => by
    simp only [okA, Bool.and_eq_true, List.mem_cons, forall_eq_or_imp]
    rw [okA_iff]
theorem szA_append : ∀ (xs ys : List PyData), szA (xs ++ ys) = szA xs + szA ys
  | [], ys => by simp [szA]
  | x :: xs, ys => by
    simp only [List.cons_append, szA]
    rw [szA_append xs ys]
    omega
theorem szA_mem : ∀ {xs : List PyData} {d : PyData}, d ∈ xs → szD d + 2 ≤ szA xs
  | x :: xs, d, h => by
    simp only [szA]
    rcases List.mem_cons.mp h with e | h
    · subst e
      omega
    · have := szA_mem h
      omega
theorem szA_take (xs : List PyData) (n : Nat) : szA (xs.take n) ≤ szA xs := by
  have h := szA_append (xs.take n) (xs.drop n)
  rw [List.take_append_drop] at h
  omega
theorem szA_drop (xs : List PyData) (n : Nat) : szA (xs.drop n) ≤ szA xs := by
  have h := szA_append (xs.take n) (xs.drop n)
  rw [List.take_append_drop] at h
  omega
theorem szA_rev : ∀ (xs : List PyData), szA xs.reverse = szA xs
  | [] => rfl
  | x :: xs => by
    rw [List.reverse_cons, szA_append, szA_rev xs]
    simp only [szA]
    omega
theorem szA_cut (xs : List PyData) {n : Nat} {d : PyData} (h : xs[n]? = some d) : szA (xs.take n) + (szD d + 2) + szA (xs.drop (n + 1)) = szA xs := by
  have hl : n < xs.length := (List.getElem?_eq_some_iff.mp h).1
  have e : xs[n] = d := (List.getElem?_eq_some_iff.mp h).2
  have h1 := szA_append (xs.take n) (xs.drop n)
  rw [List.take_append_drop, List.drop_eq_getElem_cons hl, e] at h1
  simp only [szA] at h1
  omega

theorem depthAll_le {n : Nat} : ∀ {xs : List PyData}, PyData.depthAll xs ≤ n ↔ ∀ d ∈ xs, d.depth ≤ n
  | [] => ⟨fun _ d h => absurd h (by simp), fun _ => Nat.zero_le _⟩
  | x :: xs => by
    simp only [PyData.depthAll, List.mem_cons, forall_eq_or_imp]
    rw [Nat.max_le, depthAll_le]

theorem join_len (sep : Str) : ∀ (ts : List Str), (Str.join sep ts).length ≤ (ts.map fun t => t.length + sep.length).sum
  | [] => by
    have e : (Str.join sep []).length = 0 := by rfl
    rw [e]
    exact Nat.zero_le _
  | [x] => by
    have e : Str.join sep [x] = x := rfl
    rw [e]
    simp
  | x :: y :: r => by
    have ih := join_len sep (y :: r)
    have e : Str.join sep (x :: y :: r) = x ++ sep ++ Str.join sep (y :: r) := rfl
    rw [e, strLen_append, strLen_append, List.map_cons, List.sum_cons]
    omega
theorem tupleText_le (ts : List Str) : (tupleText ts).length ≤ (ts.map fun t => t.length + 2).sum + 3 := by
  have h := join_len (", " : Str) ts
  have e2 : (", " : Str).length = 2 := by decide
  rw [e2] at h
  unfold tupleText
  rw [strLen_append, strLen_append]
  have e1 : ("(" : Str).length = 1 := by decide
  have e3 : ((if ts.length == 1 then ",)" else ")" : String) : Str).length ≤ 2 := by
    split <;> decide
  rw [e1]
  omega
theorem textFrom_le : ∀ (ts : List Str) (k : Nat) (acc : Str), (textFrom k acc ts).length ≤ acc.length + (ts.map fun t => t.length + 2).sum
  | [], k, acc => by simp [textFrom]
  | t :: ts, k, acc => by
    have h := textFrom_le ts (k + 1) (acc ++ (if k > 0 then ", " else "" : String) ++ t)
    have e : ((if k > 0 then ", " else "" : String) : Str).length ≤ 2 := by
      split <;> decide
    rw [strLen_append, strLen_append] at h
    simp only [textFrom, List.map_cons, List.sum_cons]
    omega
theorem listText_le (ts : List Str) : (listText ts).length ≤ (ts.map fun t => t.length + 2).sum + 3 := by
  have h := textFrom_le ts 0 ("[" : Str)
  have e1 : ("[" : Str).length = 1 := by decide
  have e2 : ("]" : Str).length = 1 := by decide
  unfold listText
  rw [strLen_append, e2]
  rw [e1] at h
  omega
theorem dictText_le (ts : List Str) : (dictText ts).length ≤ (ts.map fun t => t.length + 2).sum + 2 := by
  have h := join_len (", " : Str) ts
  have e2 : (", " : Str).length = 2 := by decide
  rw [e2] at h
  unfold dictText
  rw [strLen_append, strLen_append]
  have e1 : ("{" : Str).length = 1 := by decide
  have e3 : ("}" : Str).length = 1 := by decide
  rw [e1, e3]
  omega
theorem log2_small {n : Nat} (h : n < 2 ^ 100) : n.log2 < 1920 := by
  by_cases e : n = 0
  · subst e
    decide
  · have := (Nat.log2_lt e).mpr h
    omega
theorem int_len {i : Int} (h : i.natAbs < 2 ^ 100) : (PyData.shown (.int i)).length ≤ 110 := by
  show (Str.ofString (toString i)).length ≤ 110
  have l : i.natAbs.log2 < 101 := by
    by_cases e : i.natAbs = 0
    · rw [e]
      decide
    · have := (Nat.log2_lt e).mpr h
      omega
  have h1 := int_text_length_le (a := i) (k := 101) (by decide) l
  rw [PySem.ofString_length]
  omega
mutual
theorem shows_of : ∀ (d : PyData), okD d = true → d.showable = true ∧ d.shown.length ≤ szD d
  | .none, _ => ⟨rfl, by decide⟩
  | .bool b, _ => ⟨rfl, by cases b <;> decide⟩
  | .int i, h => by
    have h1 : i.natAbs < 2 ^ 100 := of_decide_eq_true h
    exact ⟨decide_eq_true (log2_small h1), int_len h1⟩
  | .str x, h => by
    refine ⟨rfl, ?_⟩
    have hx : ∀ c ∈ x.cps.toList, c < 16 ^ 8 := fun c hc => by
      have := of_decide_eq_true (List.all_eq_true.mp h c hc)
      omega
    exact StrLaws.reprText_len x hx
  | .list xs, h => by
    obtain ⟨h1, h2⟩ := shows_all xs h
    refine ⟨h1, ?_⟩
    have h3 := listText_le (PyData.shownAll xs)
    show (listText (PyData.shownAll xs)).length ≤ szA xs + 3
    omega
  | .tuple xs, h => by
    obtain ⟨h1, h2⟩ := shows_all xs h
    refine ⟨h1, ?_⟩
    have h3 := tupleText_le (PyData.shownAll xs)
    show (tupleText (PyData.shownAll xs)).length ≤ szA xs + 3
    omega
  | .dict kvs, h => by
    obtain ⟨h1, h2⟩ := shows_kv kvs h
    refine ⟨h1, ?_⟩
    have h3 := dictText_le (PyData.shownKv kvs)
    show (dictText (PyData.shownKv kvs)).length ≤ szKv kvs + 2
    omega
theorem shows_all : ∀ (xs : List PyData), okA xs = true → PyData.showableAll xs = true ∧ ((PyData.shownAll xs).map fun t => t.length + 2).sum ≤ szA xs
  | [], _ => ⟨rfl, Nat.le_refl _⟩
  | x :: xs, h => by
    obtain ⟨a, b⟩ := Bool.and_eq_true_iff.mp h
    obtain ⟨a1, a2⟩ := shows_of x a
    obtain ⟨b1, b2⟩ := shows_all xs b
    refine ⟨by show (_ && _) = true; rw [a1, b1]; rfl, ?_⟩
    show x.shown.length + 2 + _ ≤ szD x + 2 + szA xs
    exact Nat.add_le_add (Nat.add_le_add_right a2 2) b2
theorem shows_kv : ∀ (xs : List (PyData × PyData)), okKv xs = true → PyData.showableKv xs = true ∧ ((PyData.shownKv xs).map fun t => t.length + 2).sum ≤ szKv xs
  | [], _ => ⟨rfl, Nat.le_refl _⟩
  | (k, v) :: xs, h => by
    obtain ⟨ab, c⟩ := Bool.and_eq_true_iff.mp h
    obtain ⟨a, b⟩ := Bool.and_eq_true_iff.mp ab
    obtain ⟨a1, a2⟩ := shows_of k a
    obtain ⟨b1, b2⟩ := shows_of v b
    obtain ⟨c1, c2⟩ := shows_kv xs c
    refine ⟨by show (_ && _ && _) = true; rw [a1, b1, c1]; rfl, ?_⟩
    have e : (": " : Str).length = 2 := by decide
    have el : (k.shown ++ ": " ++ v.shown).length = k.shown.length + 2 + v.shown.length := by
      rw [strLen_append, strLen_append, e]
    show (k.shown ++ ": " ++ v.shown).length + 2 + ((PyData.shownKv xs).map fun t => t.length + 2).sum ≤ szD k + szD v + 4 + szKv xs
    rw [el]
    exact Nat.add_le_add (by omega) c2
end
mutual
def inB : PyData → Bool
  | .int i => decide (i.natAbs < 2 ^ 64)
  | .list xs | .tuple xs => inA xs
  | .none | .bool _ | .str _ | .dict _ => true
def inA : List PyData → Bool
  | [] => true
  | x :: xs => inB x && inA xs
end
theorem inA_mem : ∀ {xs : List PyData}, inA xs = true → ∀ d ∈ xs, inB d = true
  | [], _, d, h => absurd h (by simp)
  | x :: xs, h, d, hd => by
    obtain ⟨a, b⟩ := Bool.and_eq_true_iff.mp h
    rcases List.mem_cons.mp hd with e | hd
    · rw [e]
      exact a
    · exact inA_mem b d hd

/-! ## data in the heap: q is the one list that may change meanwhile -/
mutual
inductive Dq (K : PySem.W.Frag) (q : Addr) (H : Hp) : V → PyData → Prop
  | non : Dq K q H .non .none
  | bl (b : Bool) : Dq K q H (.bl b) (.bool b)
  | int (i : Int) : Dq K q H (.int i) (.int i)
  | str (x : Str) : Dq K q H (.str x) (.str x)
  | lst {a : Addr} {xs : List V} {ds : List PyData} : H a = some (.lst xs) → a ≠ q → a ≠ sysModules → DqA K q H xs ds → Dq K q H (.ref a) (.list ds)
  | tup {a : Addr} {xs : List V} {ds : List PyData} : SqT K H a xs → DqA K q H xs ds → Dq K q H (.ref a) (.tuple ds)
  | dic {a : Addr} {kvs : List (Key × V)} {ds : List (PyData × PyData)} : H a = some (.dK kvs) → DqA K q H (kvs.map fun p => kV p.1) (ds.map (·.1)) → DqA K q H (kvs.map (·.2)) (ds.map (·.2)) → Dq K q H (.ref a) (.dict ds)
inductive DqA (K : PySem.W.Frag) (q : Addr) (H : Hp) : List V → List PyData → Prop
  | nil : DqA K q H [] []
  | cons {v : V} {vs : List V} {d : PyData} {ds : List PyData} : Dq K q H v d → DqA K q H vs ds → DqA K q H (v :: vs) (d :: ds)
end
/-- all but q stands -/
def HS (q : Addr) (H H' : Hp) : Prop := ∀ b o, b ≠ q → H b = some o → H' b = some o
theorem HS.refl (q : Addr) (H : Hp) : HS q H H := fun _ _ _ h => h
theorem HS.trans {q : Addr} {H H1 H2 : Hp} (a : HS q H H1) (b : HS q H1 H2) : HS q H H2 := fun c o n h => b c o n (a c o n h)
theorem HS.same {q : Addr} {H H' : Hp} (h : Same H H') : HS q H H' := fun b o _ e => h b o e
theorem HS.upd {q p : Addr} {H H' : Hp} {o : HO} (h : HS q H H') (n : H' p = none) : HS q H (upd H' p o) := fun b u nb e => by
  have e' := h b u nb e
  rw [upd_ne (ne_of_none e' n)]
  exact e'
theorem HS.updq {q : Addr} {H H' : Hp} {o : HO} (h : HS q H H') : HS q H (L2.upd H' q o) := fun b u nb e => by
  rw [upd_ne nb]
  exact h b u nb e
theorem HS.free {q p : Addr} {H H' : Hp} (h : HS q H H') (hp : p ≠ q) (e : H' p = none) : H p = none := by
  cases z : H p with
  | none => rfl
  | some o =>
    rw [h p o hp z] at e
    cases e
theorem HS.sqT {K : PySem.W.Frag} {q a : Addr} {H H' : Hp} {xs l : List V} (h : HS q H H') (hq : H q = some (.lst l)) (s : SqT K H a xs) : SqT K H' a xs := by
  have hne : ∀ {o : HO}, H a = some o → o ≠ .lst l → a ≠ q := fun {o} e n z => by
    rw [z, hq] at e
    exact n (Option.some.inj e).symm
  rcases s with (s | ⟨o, s⟩) | s
  · exact .inl (.inl (h a _ (hne s (fun z => nomatch z)) s))
  · exact .inl (.inr ⟨o, h a _ (hne s (fun z => nomatch z)) s⟩)
  · exact .inr s
mutual
theorem Dq.mono {K : PySem.W.Frag} {q : Addr} {H H' : Hp} {l : List V} (h : HS q H H') (hq : H q = some (.lst l)) : ∀ {v : V} {d : PyData}, Dq K q H v d → Dq K q H' v d
  | _, _, .non => .non
  | _, _, .bl b => .bl b
  | _, _, .int i => .int i
  | _, _, .str x => .str x
  | _, _, .lst e n n2 r => .lst (h _ _ n e) n n2 (DqA.mono h hq r)
  | _, _, .tup e r => .tup (h.sqT hq e) (DqA.mono h hq r)
  | _, _, .dic e r1 r2 => .dic (h _ _ (fun z => by rw [z, hq] at e; cases e) e) (DqA.mono h hq r1) (DqA.mono h hq r2)
theorem DqA.mono {K : PySem.W.Frag} {q : Addr} {H H' : Hp} {l : List V} (h : HS q H H') (hq : H q = some (.lst l)) : ∀ {vs : List V} {ds : List PyData}, DqA K q H vs ds → DqA K q H' vs ds
  | _, _, .nil => .nil
  | _, _, .cons r t => .cons (Dq.mono h hq r) (DqA.mono h hq t)
end
theorem DqA.length {K : PySem.W.Frag} {q : Addr} {H : Hp} : ∀ {vs : List V} {ds : List PyData}, DqA K q H vs ds → vs.length = ds.length
  | _, _, .nil => rfl
  | _, _, .cons _ t => congrArg (· + 1) t.length
theorem DqA.get {K : PySem.W.Frag} {q : Addr} {H : Hp} : ∀ {vs : List V} {ds : List PyData} {i : Nat} {v : V}, DqA K q H vs ds → vs[i]? = some v → ∃ d, ds[i]? = some d ∧ Dq K q H v d
  | _, _, _, _, .nil, e => by simp at e
  | _, _, 0, _, .cons r _, e => by
    simp at e
    subst e
    exact ⟨_, rfl, r⟩
  | _, _, i + 1, v, .cons _ t, e => by
    obtain ⟨d, h1, h2⟩ := DqA.get (i := i) (v := v) t (by simpa using e)
    exact ⟨d, by simpa using h1, h2⟩
theorem DqA.append {K : PySem.W.Frag} {q : Addr} {H : Hp} : ∀ {vs ws : List V} {ds es : List PyData}, DqA K q H vs ds → DqA K q H ws es → DqA K q H (vs ++ ws) (ds ++ es)
  | _, _, _, _, .nil, s => s
  | _, _, _, _, .cons r t, s => .cons r (DqA.append t s)
theorem DqA.take {K : PySem.W.Frag} {q : Addr} {H : Hp} : ∀ {vs : List V} {ds : List PyData} (n : Nat), DqA K q H vs ds → DqA K q H (vs.take n) (ds.take n)
  | _, _, 0, _ => .nil
  | _, _, _ + 1, .nil => .nil
  | _, _, n + 1, .cons r t => .cons r (DqA.take n t)
theorem DqA.drop {K : PySem.W.Frag} {q : Addr} {H : Hp} : ∀ {vs : List V} {ds : List PyData} (n : Nat), DqA K q H vs ds → DqA K q H (vs.drop n) (ds.drop n)
  | _, _, 0, r => r
  | _, _, _ + 1, .nil => .nil
  | _, _, n + 1, .cons _ t => DqA.drop n t
theorem DqA.rev {K : PySem.W.Frag} {q : Addr} {H : Hp} : ∀ {vs : List V} {ds : List PyData}, DqA K q H vs ds → DqA K q H vs.reverse ds.reverse
  | _, _, .nil => .nil
  | _, _, .cons r t => by
    rw [List.reverse_cons, List.reverse_cons]
    exact (DqA.rev t).append (.cons r .nil)

/-! ## repr -/
section
variable {X : Cx} {pins : List (Addr × Obj)} {σ : L2.St} {H : Hp} {s : Shared} {q : Addr}
theorem pairs_vals {P : Program} {w : World} : ∀ {kvs : List (Key × V)} {vs : List (Key × Value)} {l : List DictEntry}, KV kvs vs → Pairs (mixKind P w) l vs →
    Vals (kvs.map fun p => kV p.1) (l.map (·.key)) ∧ Vals (kvs.map (·.2)) (l.map (·.val))
  | _, _, _, .nil, .nil => ⟨.nil, .nil⟩
  | _, _, _, .cons (a := p) r t, .cons (e := e) k1 k2 m => by
    obtain ⟨h1, h2⟩ := pairs_vals t m
    refine ⟨.cons ?_ h1, .cons (by show RelV p.2 e.val; rw [k2]; exact r.2) h2⟩
    have k1' : keyIs p.1 e.key = true := by
      rw [r.1]
      exact k1
    rcases keyIs_shape k1' with ⟨i, t, e1, e2⟩ | ⟨x, t, e1, e2⟩
    · show RelV (kV p.1) e.key
      rw [e1, e2]
      exact ⟨t, rfl⟩
    · show RelV (kV p.1) e.key
      rw [e1, e2]
      exact ⟨t, rfl⟩
mutual
theorem Dq.reads (I : Inv X pins σ H s) : ∀ {v : V} {d : PyData} {u : Value}, Dq X.K q H v d → RelV v u → ∃ as, Reads s.heap u d as ∧ sysModules ∉ as
  | _, _, _, .non, r => by
    cases r
    exact ⟨_, Reads.none, List.not_mem_nil⟩
  | _, _, _, .bl b, r => by
    cases r
    exact ⟨_, Reads.bool b, List.not_mem_nil⟩
  | _, _, _, .int i, r => by
    obtain ⟨t, rfl⟩ := r
    exact ⟨_, Reads.int i t, List.not_mem_nil⟩
  | _, _, _, .str x, r => by
    obtain ⟨t, rfl⟩ := r
    exact ⟨_, Reads.str x t, List.not_mem_nil⟩
  | _, _, _, .lst hs hq hm ha, r => by
    cases r
    obtain ⟨its, rv, ⟨o, n, ho, hc, _, hd⟩, _⟩ := I.list (SqL.of (K := X.K) hs)
    obtain ⟨as, hr, hn⟩ := DqA.reads I ha rv
    refine ⟨_, Reads.list ho hc hd hr, fun z => ?_⟩
    rcases List.mem_cons.mp z with e | z
    · exact hm e.symm
    · exact hn z
  | _, _, _, .tup hs ha, r => by
    cases r
    obtain ⟨its, rv, ⟨o, ho, hc, n, hd⟩, _⟩ := I.tuple hs
    obtain ⟨as, hr, hn⟩ := DqA.reads I ha rv
    exact ⟨_, Reads.tuple ho hc hd hr, hn⟩
  | _, _, _, .dic hs h1 h2, r => by
    cases r
    obtain ⟨hz, hm, vs, kr, o, es, ep, ho, hx, hd, hk, hp, hnd⟩ := dk_of I.hok hs
    obtain ⟨hkeys, hvals⟩ := pairs_vals kr hp
    obtain ⟨as, hr1, hn1⟩ := DqA.reads I h1 hkeys
    obtain ⟨bs, hr2, hn2⟩ := DqA.reads I h2 hvals
    refine ⟨_, Reads.dict ho hx.1 hd hr1 hr2, fun z => ?_⟩
    rcases List.mem_append.mp z with z | z
    · rcases List.mem_cons.mp z with e | z
      · rw [← e] at hm
        simp at hm
      · exact hn1 z
    · exact hn2 z
theorem DqA.reads (I : Inv X pins σ H s) : ∀ {vs : List V} {ds : List PyData} {us : List Value}, DqA X.K q H vs ds → Vals vs us → ∃ as, ReadsAll s.heap us ds as ∧ sysModules ∉ as
  | _, _, _, .nil, r => by
    cases r
    exact ⟨_, ReadsAll.nil, List.not_mem_nil⟩
  | _, _, _, .cons h1 h2, r => by
    cases r with
    | cons r1 r2 =>
      obtain ⟨as, q1, n1⟩ := Dq.reads I h1 r1
      obtain ⟨bs, q2, n2⟩ := DqA.reads I h2 r2
      exact ⟨_, ReadsAll.cons q1 q2, fun z => (List.mem_append.mp z).elim n1 n2⟩
end
/-- repr(data) -/
def rRepr (K : PySem.W.Frag) : List V → Hp → VK → Prop := fun xs H Q => ∃ (q : Addr) (x : V) (d : PyData), xs = [x] ∧ Dq K q H x d ∧ okD d = true ∧ szD d ≤ 1000000 ∧ d.depth ≤ 60 ∧ Q (.str d.shown) H
theorem call_repr (hg : X.A.guards = some []) (hu : X.A.units + 64 < cLine) : CallR X (.builtin "repr") (rRepr X.K) := by
  intro pins s σ H xs us Q I r h
  obtain ⟨q, x, d, rfl, hd, ok, hz, hdep, hq⟩ := h
  obtain ⟨u, rfl, ru⟩ := vals1 r
  obtain ⟨hs, hl⟩ := shows_of d ok
  have hsz : d.shown.length ≤ sizeLine := by
    rw [sizeLine_eq]
    omega
  have fin : ∀ (h' : Heap) (t : Tok) (tk : Tok), (∀ b o, s.heap.get? b = some o → h'.get? b = some o) →
      EP X pins σ Q (.str d.shown t) { s with heap := h', toks := tk } := fun h' t tk k => ⟨.str d.shown, H, I.kept k, ⟨t, rfl⟩, hq⟩
  cases hd with
  | non =>
    cases ru
    exact PySem.P.repr_of_none ⟨.str _, H, I.tok _, ⟨_, rfl⟩, hq⟩
  | bl b =>
    cases ru
    refine PySem.P.repr_of_bool ⟨.str _, H, I.tok _, ⟨_, rfl⟩, ?_⟩
    cases b <;> exact hq
  | int i =>
    obtain ⟨t, rfl⟩ := ru
    exact PySem.P.repr_of_int (of_decide_eq_true hs) ⟨.str _, H, I.tok _, ⟨_, rfl⟩, hq⟩
  | str y =>
    obtain ⟨t, rfl⟩ := ru
    exact PySem.P.repr_of_str (hsz := hsz) ⟨.str _, H, I.tok _, ⟨_, rfl⟩, hq⟩
  | lst a1 a2 a3 a4 =>
    obtain ⟨as, hr, hn⟩ := Dq.reads I (Dq.lst a1 a2 a3 a4) ru
    cases ru
    exact repr_of_reads' hr hs (fun _ => hn) hg (by omega) (fun _ _ e => e) (fun h' t tk k => fin h' t tk k) hsz
  | tup a1 a2 =>
    obtain ⟨as, hr, hn⟩ := Dq.reads (q := q) I (Dq.tup a1 a2) ru
    cases ru
    exact repr_of_reads' hr hs (fun _ => hn) hg (by omega) (fun _ _ e => e) (fun h' t tk k => fin h' t tk k) hsz
  | dic a1 a2 a3 =>
    obtain ⟨as, hr, hn⟩ := Dq.reads I (Dq.dic a1 a2 a3) ru
    cases ru
    exact repr_of_reads' hr hs (fun _ => hn) hg (by omega) (fun _ _ e => e) (fun h' t tk k => fin h' t tk k) hsz
end

/-! ## a def of the text, by its name -/
def FunAt (K : PySem.W.Frag) (mg : Str → Option Value) (x : Str) (st : Stmt) : Prop := ∃ f fd, Fun K x x st f fd ∧ mg x = some (.ref f)
/-- the function that stands at f -/
def Here (K : PySem.W.Frag) (f : Addr) (fd : FuncData) : Prop := ∃ oc od osl, K.lookup f = some ⟨oc, od, .func fd, osl⟩
theorem Here.one {K : PySem.W.Frag} {f : Addr} {fd fd' : FuncData} (h : Here K f fd) (h' : Here K f fd') : fd = fd' := by
  obtain ⟨oc, od, osl, e⟩ := h
  obtain ⟨oc', od', osl', e'⟩ := h'
  rw [e] at e'
  have e1 := Option.some.inj e'
  have e2 : Data.func fd = Data.func fd' := congrArg Obj.data e1
  exact Data.func.inj e2
theorem here_of {K : PySem.W.Frag} {x qual : Str} {st : Stmt} {f : Addr} {fd : FuncData} (F : Fun K x qual st f fd) : Here K f fd := by
  obtain ⟨oc, od, kV, doc, pm, an, cdv, ct, osl, _, lk, _⟩ := F.ex
  exact ⟨oc, od, osl, lk⟩
/-- it keeps its promise wherever k rooms are left -/
def Def (P : Program) (w : World) (K : PySem.W.Frag) (mg : Str → Option Value) (base : Heap) (k : Nat) (x : Str) (ps : List Str) (sp : Sp) : Prop :=
  ∃ f fd, FnOk P w K mg base CX0 k f fd ps sp ∧ mg x = some (.ref f) ∧ PySem.W.keepIn K (.ref f) = true ∧ Binds K fd ps [] ∧ Here K f fd
/-- .. where no repr runs -/
def DefG (P : Program) (w : World) (K : PySem.W.Frag) (mg : Str → Option Value) (base : Heap) (k : Nat) (x : Str) (ps : List Str) (sp : Sp) : Prop :=
  ∃ f fd, FnG P w K mg base CX0 k f fd ps sp ∧ mg x = some (.ref f) ∧ PySem.W.keepIn K (.ref f) = true ∧ Binds K fd ps [] ∧ Here K f fd
/-- how arguments meet the parameters of the def st -/
def BindsSt (x : Str) (st : Stmt) (ps : List Str) : Prop := ∀ (kV doc pm : Value) (an : Option Addr) (cdv ct : Value) (us : List Value), us.length = ps.length →
  bindArgs (PySem.W.fnOf x x (defArgs st) (defBody st) (defScope st) .none kV doc pm an cdv ct) ⟨us, []⟩ = pure (ps.zip us)
section
variable {P : Program} {w : World} {K : PySem.W.Frag} {mg : Str → Option Value} {base : Heap}
theorem Def.mono {j k : Nat} {x : Str} {ps : List Str} {sp : Sp} (D : Def P w K mg base j x ps sp) (h : j ≤ k) : Def P w K mg base k x ps sp := by
  obtain ⟨f, fd, F, r⟩ := D
  exact ⟨f, fd, F.mono h, r⟩
theorem def_of {x : Str} {st : Stmt} {N ps : List Str} {k : Nat} {sp : Sp} (F : FunAt K mg x st) (S : FnScope N ps (defScope st)) (hb : BindsSt x st ps) (len : ∀ vs H Q E, sp vs H Q E → vs.length = ps.length)
    (hbody : ∀ (f : Addr) (cdv : Value) (A : Around) (outer : List Env) (s : Shared) (H : Hp) (vs : List V) (Q : VK) (E : XK), Room k (A.deeper (envOfC x (defScope st) s.heap.objs.size f cdv)) → sp vs H Q E →
      ∃ t, PSs (cxOf CX0 P w K mg base N x (defScope st) f cdv A outer s H E).nox (defBody st) t ∧ t { nx := fun _ H' => Q .non H', rt := Q } (start N vs) H) : Def P w K mg base (k + 1) x ps sp := by
  obtain ⟨f, fd, F1, hm⟩ := F
  exact ⟨f, fd, F1.ok S len fun cdv A outer s H vs Q E hr h => hbody f cdv A outer s H vs Q E hr h, hm, F1.kp, F1.binds hb, here_of F1⟩
theorem defG_of {x : Str} {st : Stmt} {N ps : List Str} {k : Nat} {sp : Sp} (F : FunAt K mg x st) (S : FnScope N ps (defScope st)) (hb : BindsSt x st ps) (len : ∀ vs H Q E, sp vs H Q E → vs.length = ps.length)
    (hbody : ∀ (f : Addr) (cdv : Value) (A : Around) (outer : List Env) (s : Shared) (H : Hp) (vs : List V) (Q : VK) (E : XK), (A.deeper (envOfC x (defScope st) s.heap.objs.size f cdv)).guards = some [] → Room k (A.deeper (envOfC x (defScope st) s.heap.objs.size f cdv)) → sp vs H Q E →
      ∃ t, PSs (cxOf CX0 P w K mg base N x (defScope st) f cdv A outer s H E).nox (defBody st) t ∧ t { nx := fun _ H' => Q .non H', rt := Q } (start N vs) H) : DefG P w K mg base (k + 1) x ps sp := by
  obtain ⟨f, fd, F1, hm⟩ := F
  exact ⟨f, fd, funG F1 S len fun cdv A outer s H vs Q E hg hr h => hbody f cdv A outer s H vs Q E hg hr h, hm, F1.kp, F1.binds hb, here_of F1⟩
theorem DefG.ofD {k : Nat} {x : Str} {ps : List Str} {sp : Sp} (D : Def P w K mg base k x ps sp) : DefG P w K mg base k x ps sp := by
  obtain ⟨f, fd, F, r⟩ := D
  exact ⟨f, fd, .ofOk F, r⟩
end
section
variable {X : Cx} {k : Nat} {ps : List Str} {sp : Sp} {x : Str} {p pos : Pos} {e : Expr} {es : List Expr} {t : TA}
/-- x(e, ..), x a def of the text -/
theorem pe_d (D : Def X.prog X.w X.K X.mg X.base k x ps sp) (hr : Room k X.A) (ha : PA X (e :: es) t) (hg : Gl X x := by rfl) (hdb : (x == ("__debug__" : Str)) = false := by decide)
    (he : starEach (e :: es) X.env = (false, eval e X.env) :: starEach es X.env := by rfl) (hpl : (backTo pos (starEach es X.env)).any (·.1) = false := by rfl) :
    PE X (.Call (.Name x p) (e :: es) [] pos) (tCall sp [] E0 t) := by
  obtain ⟨f, fd, F, hm, hk, hb, _⟩ := D
  exact pe_call F hr hg hm hk hb .nil pass0 ha hdb he hpl
theorem pe_dG (D : DefG X.prog X.w X.K X.mg X.base k x ps sp) (hgd : X.A.guards = some []) (hr : Room k X.A) (ha : PA X (e :: es) t) (hg : Gl X x := by rfl) (hdb : (x == ("__debug__" : Str)) = false := by decide)
    (he : starEach (e :: es) X.env = (false, eval e X.env) :: starEach es X.env := by rfl) (hpl : (backTo pos (starEach es X.env)).any (·.1) = false := by rfl) :
    PE X (.Call (.Name x p) (e :: es) [] pos) (tCall sp [] E0 t) := by
  obtain ⟨f, fd, F, hm, hk, hb, _⟩ := D
  exact pe_callG F hgd hr hg hm hk hb .nil pass0 ha hdb he hpl

/-! ## rules that the layer lacks -/
/-- powers of any size that the machine takes -/
def CPowW (i j : Int) : Prop := 0 ≤ j ∧ (Builtin.Int.intBits i : Int) * j ≤ 2 ^ 27
theorem op_powW : OpR X (binaryOp .Pow) (rI CPowW fun i j => .int (i ^ j.toNat)) := opI fun _ _ _ _ _ _ _ hc q => pow_int hc.1 hc.2 q
/-- a list display that tells that it is not the modules' dict -/
def tLstN (t : TA) : TE := fun σ H Q => t σ H fun xs H1 => xs.length ≤ sizeLine ∧ ∀ p, H1 p = none → p ≠ sysModules → Q (.ref p) (upd H1 p (.lst xs))
theorem pe_lstN {es : List Expr} (h : PA X es t) : PE X (.List es pos) (tLstN t) := by
  refine ⟨fun pins s σ H Q I hq => wpAny_List_spliced (thn (h.run pos pins s σ H _ I hq) ?_)⟩
  rintro us s1 ⟨xs, H1, I1, r, z, q⟩
  refine ⟨by rw [← r.length]; exact z, ?_⟩
  have hf : H1 s1.heap.objs.size = none := I1.hok.fresh (Nat.le_refl _)
  have J := I1.laid (t' := s1.toks) (a := s1.heap.objs.size) (o := .lst xs) (h' := s1.heap.push { cls := .type "list", data := .seq us.toArray }) (fun b u e => Heap.get?_push_of_some _ e) (Nat.le_refl _)
    ⟨z, us, 0, r, Heap.get?_push_size _ rfl⟩
  exact ⟨.ref _, _, J, rfl, q _ hf (Nat.ne_of_gt I1.big)⟩
end

/-! ## t[::-1], s[::-1] -/
section
variable {prog : Program} {w : World} {A : Around} {E : Value → Shared → Prop} {s : Shared}
theorem applied_back {sl : Addr} {n : Nat} {t : Tok} {Q : Int × Int × Nat → Shared → Prop} (hs : s.heap.IsSliceOf sl .none .none (.int (-1) t)) (h : Q ((n : Int) - 1, -1, n) s) :
    wpAny (model prog w) A (Builtin.Slice.sliceApplied (.ref sl) (pure (n : Int))) Q E s := by
  obtain ⟨os, hos, hcs, hds⟩ := id hs
  unfold Builtin.Slice.sliceApplied Builtin.Slice.sliceFields
  refine wpAny_bind (wpAny_bind (wpAny_field hos hds (x := .none) rfl (wpAny_bind (wpAny_field hos hds (x := .none) rfl
    (wpAny_bind (wpAny_field hos hds (x := .int (-1) t) rfl (wpAny_pure ?_)))))))
  refine wpAny_bind (HT.slicePart_ (.int (-1) t) ?_)
  show wpAny _ _ (if ((-1 : Int) == 0) = true then _ else _) _ _ s
  rw [if_neg (by decide)]
  refine wpAny_bind (HT.slicePart_ .none (wpAny_bind (HT.slicePart_ .none (wpAny_bind (wpAny_pure ?_)))))
  have e : Builtin.Slice.sliceAdjust none none (-1) (n : Int) = ((n : Int) - 1, -1) := rfl
  have e2 : Builtin.Slice.slicePlaces ((n : Int) - 1) (-1) (-1) = n := by
    unfold Builtin.Slice.slicePlaces
    rw [if_neg (by decide)]
    by_cases hn : n = 0
    · subst hn
      rfl
    · rw [if_pos (by omega)]
      have : (-(-1 : Int)) = 1 := rfl
      rw [this, Int.ediv_one]
      omega
  show wpAny _ _ (match Builtin.Slice.sliceAdjust none none (-1) (n : Int) with | (lo, hi) => pure (lo, (-1 : Int), Builtin.Slice.slicePlaces lo hi (-1))) _ _ s
  rw [e]
  show wpAny _ _ (pure ((n : Int) - 1, (-1 : Int), Builtin.Slice.slicePlaces ((n : Int) - 1) (-1) (-1))) _ _ s
  rw [e2]
  exact wpAny_pure h
theorem filterMap_map {α β : Type} {f : α → Option β} {g : α → β} : ∀ {l : List α}, (∀ a ∈ l, f a = some (g a)) → l.filterMap f = l.map g
  | [], _ => rfl
  | a :: l, h => by
    rw [List.filterMap_cons, h a List.mem_cons_self, List.map_cons, filterMap_map fun b hb => h b (List.mem_cons_of_mem _ hb)]
theorem pick_back (xs : Array Value) : ((List.range xs.size).filterMap fun (k : Nat) => xs[(((xs.size : Int) - 1) + (k : Int) * (-1)).toNat]?).toArray = xs.toList.reverse.toArray := by
  have e : (List.range xs.size).filterMap (fun (k : Nat) => xs[(((xs.size : Int) - 1) + (k : Int) * (-1)).toNat]?) = xs.toList.reverse := by
    apply List.ext_getElem?
    intro i
    have e1 : (List.range xs.size).filterMap (fun (k : Nat) => xs[(((xs.size : Int) - 1) + (k : Int) * (-1)).toNat]?) = (List.range xs.size).map (fun k => xs.toList.getD (xs.size - 1 - k) .none) := by
      refine filterMap_map fun k hk => ?_
      have hk' := List.mem_range.mp hk
      have : (((xs.size : Int) - 1) + (k : Int) * (-1)).toNat = xs.size - 1 - k := by omega
      rw [this]
      have hb : xs.size - 1 - k < xs.size := by omega
      rw [Array.getElem?_eq_getElem hb]
      simp [List.getD, hb]
    rw [e1, List.getElem?_map]
    by_cases hi : i < xs.size
    · rw [List.getElem?_range hi, List.getElem?_reverse (by simpa using hi)]
      simp only [Option.map_some, Array.length_toList]
      have hb : xs.size - 1 - i < xs.toList.length := by
        rw [Array.length_toList]
        omega
      rw [List.getD_eq_getElem?_getD, List.getElem?_eq_getElem hb]
      rfl
    · rw [List.getElem?_eq_none (by rw [List.length_range]; omega), List.getElem?_eq_none (by rw [List.length_reverse, Array.length_toList]; omega)]
      rfl
  rw [e]
theorem item_back {t sl : Addr} {items : Array Value} {tk : Tok} {Q : Value → Shared → Prop} (ht : IsTup s.heap t items) (hs : s.heap.IsSliceOf sl .none .none (.int (-1) tk))
    (h : Q (.ref s.heap.objs.size) { s with heap := s.heap.push { cls := .type "tuple", data := .seq items.toList.reverse.toArray } }) (hz : items.size ≤ sizeLine) :
    wpAny (model prog w) A (getItem (.ref t) (.ref sl)) Q E s := by
  obtain ⟨os, hos, hcs, hds⟩ := id hs
  have hT : s.TypeIs (.ref sl) "slice" := ⟨os, hos, hcs⟩
  have room : sizeOk (.seq items.toList.reverse.toArray) := by
    show items.toList.reverse.toArray.size ≤ sizeLine
    rw [List.size_toArray, List.length_reverse, Array.length_toList]
    exact hz
  unfold getItem
  try (with_reducible refine wpAny_holding ?_)
  first
    | refine wpAny_bind (wpAny_pure ?_)
    | skip
  refine wpAny_bind (wpAny_sequenceKey ht.typeIs (by decide) (wpAny_bind (wpAny_callSpecial?_slot (name := Str.ofString "__getitem__") ht.typeIs PyProof.Rows.slot_tuple_getitem
    (wpAny_call_entry PyProof.Rows.slot_tuple_getitem ht.typeIs PyProof.Rows.entry_tuple_getitem ?_ (PyProof.Rows.args_tuple_getitem _ _)))))
  show wpAny _ _ (Builtin.Tuple.tupleItemsOf (.ref t) >>= fun _ => _) _ _ s
  refine wpAny_bind (tupleItemsOf_ ht (wpAny_bind (wpAny_typeOf hT ?_)))
  rw [if_pos (by decide)]
  refine wpAny_bind (applied_back hs ?_)
  have no : ¬ ((((items.size : Int) - 1) == 0 && (-1 : Int) == 1 && items.size == items.size) = true) := by
    intro q
    simp at q
  show wpAny _ _ (if (((items.size : Int) - 1) == 0 && (-1 : Int) == 1 && items.size == items.size) = true then _ else _) _ _ s
  rw [if_neg no, pick_back]
  first
    | exact wpAny_bind (m := Builtin.Tuple.tupleExact _) (wpAny_newObj_type (wpAny_pure ⟨_, rfl, wpAny_pure h⟩) room)
    | exact wpAny_bind (m := Builtin.Tuple.tupleExact _) (wpAny_newObj_type (wpAny_bind (wpAny_pure (wpAny_pure ⟨_, rfl, wpAny_pure h⟩))) room)
    | exact wpAny_bind (wpAny_bind (m := Builtin.Tuple.tupleExact _) (wpAny_newObj_type (wpAny_pure (wpAny_pure ⟨_, rfl, wpAny_pure h⟩)) room))
    | exact wpAny_bind (wpAny_bind (m := Builtin.Tuple.tupleExact _) (wpAny_newObj_type (wpAny_pure ⟨_, rfl, wpAny_pure h⟩) room))
end
abbrev backE (e : Expr) (k : Nat) (p1 p2 p3 pos : Pos) : Expr := .Subscript e (.Slice none none (some (.UnaryOp .USub (.Constant (.int 1) k p1) p2)) p3) pos
def tBackT (K : PySem.W.Frag) (te : TE) : TE := fun σ H Q => te σ H fun x H1 => ∃ a xs, x = .ref a ∧ SqT K H1 a xs ∧ ∀ p, H1 p = none → Q (.ref p) (upd H1 p (.tup xs.reverse))
def tBackS (te : TE) : TE := fun σ H Q => te σ H fun x H1 => ∃ y : Str, x = .str y ∧ y.length ≤ sizeLine ∧ ∀ z : Str, z.length ≤ y.length → (∀ c ∈ z.cps.toList, c ∈ y.cps.toList) → Q (.str z) H1
section
variable {X : Cx} {e : Expr} {te : TE} {k : Nat} {p1 p2 p3 pos : Pos}
theorem pe_backT (he : PE X e te) : PE X (backE e k p1 p2 p3 pos) (tBackT X.K te) := by
  refine ⟨fun pins s σ H Q I h => Subscript_ (thn (he.run pins s σ H _ I h) ?_)⟩
  rintro v s1 ⟨x, H1, I1, r1, a, xs, rfl, hx, q⟩
  obtain rfl : v = Value.ref a := r1
  have hst : PO X (some (.UnaryOp .USub (.Constant (.int 1) k p1) p2)) (tPart (tUn (rU fun i => .int (-i)) (tC (.int 1)))) := po_some (pe_un un_neg pe_int)
  refine wpAny_Slice (thn (po_none.run pins s1 σ H1 (fun o H2 => o = none ∧ H2 = H1) I1 ⟨rfl, rfl⟩) ?_)
  rintro vl s2 ⟨l, H2, I2, pl, rfl, rfl⟩
  refine thn (po_none.run pins s2 σ H2 (fun o H3 => o = none ∧ H3 = H2) I2 ⟨rfl, rfl⟩) ?_
  rintro vu s3 ⟨u, H3, I3, pu, rfl, rfl⟩
  refine thn (hst.run pins s3 σ H3 (fun o H4 => o = some (-1) ∧ H4 = H3) I3 ⟨1, rfl, -1, rfl, rfl, rfl⟩) ?_
  rintro vs s4 ⟨o, H4, I4, ps, rfl, rfl⟩
  cases pl
  cases pu
  cases ps with
  | int i t =>
  have I5 : Inv X pins σ H4 { s4 with heap := s4.heap.push { cls := .type "slice", data := .fields #[.none, .none, .int (-1) t] } } :=
    I4.kept (t' := s4.toks) fun b ob q => Heap.get?_push_of_some _ q
  obtain ⟨its, r, ht, hz⟩ := I5.tuple hx
  have hlen := r.length
  show wpAny _ _ (subscriptTail e (.Slice none none (some (.UnaryOp .USub (.Constant (.int 1) k p1) p2)) p3) (.ref a) (.ref s4.heap.objs.size)) _ _ _
  refine tail_any (ops := [.ref a, .ref s4.heap.objs.size]) ht.typeIs PyProof.Rows.slot_tuple_getitem.lookup (item_back (tk := t) ht (Heap.IsSliceOf.new _ .none .none (.int (-1) t)) ?_ (by rw [List.size_toArray]; omega)) (by with_unfolding_all rfl)
  refine ⟨.ref _, _, I5.laid (t' := s4.toks) (o := .tup xs.reverse) (fun b ob q => Heap.get?_push_of_some _ q) (Nat.le_refl _) ?_, rfl, q _ (I5.hok.fresh (Nat.le_refl _))⟩
  exact ⟨by rw [List.length_reverse]; exact hz, _, r.reverse, IsTup.new _ _⟩
theorem back_facts (x : Str) : (⟨((Builtin.Str.strSliceIndices none none (-1) x.length).filterMap (x.cps[·]?)).toArray⟩ : Str).length ≤ x.length ∧
    ∀ c ∈ (⟨((Builtin.Str.strSliceIndices none none (-1) x.length).filterMap (x.cps[·]?)).toArray⟩ : Str).cps.toList, c ∈ x.cps.toList := by
  rw [picked_rev]
  constructor
  · show (List.toArray _).size ≤ _
    rw [List.size_toArray]
    refine Nat.le_trans (List.length_filterMap_le _ _) ?_
    rw [List.length_map, List.length_range]
    exact Nat.le_refl _
  · intro c hc
    have hc' : c ∈ ((List.map (fun k => x.length - 1 - k) (List.range x.length)).filterMap (x.cps[·]?)).toArray.toList := hc
    rw [List.toList_toArray] at hc'
    obtain ⟨i, _, hi⟩ := List.mem_filterMap.mp hc'
    exact Array.mem_toList_iff.mpr (Array.mem_of_getElem? hi)
theorem pe_backS (he : PE X e te) : PE X (backE e k p1 p2 p3 pos) (tBackS te) := by
  refine ⟨fun pins s σ H Q I h => Subscript_ (thn (he.run pins s σ H _ I h) ?_)⟩
  rintro v s1 ⟨x, H1, I1, r1, y, rfl, hz, q⟩
  obtain ⟨ty, rfl⟩ := r1
  have hst : PO X (some (.UnaryOp .USub (.Constant (.int 1) k p1) p2)) (tPart (tUn (rU fun i => .int (-i)) (tC (.int 1)))) := po_some (pe_un un_neg pe_int)
  refine wpAny_Slice (thn (po_none.run pins s1 σ H1 (fun o H2 => o = none ∧ H2 = H1) I1 ⟨rfl, rfl⟩) ?_)
  rintro vl s2 ⟨l, H2, I2, pl, rfl, rfl⟩
  refine thn (po_none.run pins s2 σ H2 (fun o H3 => o = none ∧ H3 = H2) I2 ⟨rfl, rfl⟩) ?_
  rintro vu s3 ⟨u, H3, I3, pu, rfl, rfl⟩
  refine thn (hst.run pins s3 σ H3 (fun o H4 => o = some (-1) ∧ H4 = H3) I3 ⟨1, rfl, -1, rfl, rfl, rfl⟩) ?_
  rintro vs s4 ⟨o, H4, I4, ps, rfl, rfl⟩
  cases pl
  cases pu
  cases ps with
  | int i t =>
  have I5 : Inv X pins σ H4 { s4 with heap := s4.heap.push { cls := .type "slice", data := .fields #[.none, .none, .int (-1) t] } } :=
    I4.kept (t' := s4.toks) fun b ob q => Heap.get?_push_of_some _ q
  obtain ⟨f1, f2⟩ := back_facts y
  show wpAny _ _ (subscriptTail e (.Slice none none (some (.UnaryOp .USub (.Constant (.int 1) k p1) p2)) p3) (.str y ty) (.ref s4.heap.objs.size)) _ _ _
  refine tail_any (ops := [.str y ty, .ref s4.heap.objs.size]) (typeIs_str _ _ _) F.slot_str_getitem.lookup
    (wpAny_getItem_str_slice (l := none) (u := none) (st := some (-1, t)) (Heap.IsSliceOf.new _ .none .none (.int (-1) t)) rfl ?_) (by with_unfolding_all rfl)
  show Made.post (if ((-1 : Int) == 1 && (Builtin.Str.strSliceIndices none none (-1) y.length).length == y.length) = true then Made.val (.str y ty)
    else Made.str ⟨((Builtin.Str.strSliceIndices none none (-1) y.length).filterMap (y.cps[·]?)).toArray⟩) _ _
  rw [if_neg (by simp)]
  refine ⟨Nat.le_trans f1 hz, ?_⟩
  exact ⟨.str _, H4, I5.tok _, ⟨_, rfl⟩, q _ f1 f2⟩
/-- list(xs), list(t) -/
theorem call_listN : CallR X (.type "list") (fun xs H Q => ∃ p ys, xs = [.ref p] ∧ (SqL X.K H p ys ∨ SqT X.K H p ys) ∧ ∀ l, H l = none → l ≠ sysModules → Q (.ref l) (upd H l (.lst ys))) := by
  intro pins s σ H xs us Q I r h
  obtain ⟨p, ys, rfl, hq, q⟩ := h
  obtain ⟨u, rfl, rx⟩ := vals1 r
  obtain rfl : u = Value.ref p := rx
  have fin : ∀ (its : List Value), Vals ys its → ys.length ≤ sizeLine → ∀ (h' : Heap) (c' : Nat), (∀ b o', s.heap.get? b = some o' → h'.get? b = some o') →
      h'.get? s.heap.objs.size = some { cls := .type "list", dict := none, data := .seq its.toArray c', slots := #[] } →
      EP X pins σ Q (.ref s.heap.objs.size) { s with heap := h' } := by
    intro its r' hz h' c' kp e
    have J := I.laid (a := s.heap.objs.size) (o := .lst ys) (t' := s.toks) kp (Nat.le_refl _) ⟨hz, its, c', r', e⟩
    exact ⟨.ref _, _, J, rfl, q _ (I.hok.fresh (Nat.le_refl _)) (Nat.ne_of_gt I.big)⟩
  rcases hq with hq | hq
  · obtain ⟨its, r', pl, hz⟩ := I.list hq
    obtain ⟨o, ho, hc, n, hd⟩ := pl.isList
    have hlen := r'.length
    refine call_list_seq p (.inl rfl) ho hc hd (fun h' c' kp e => fin its r' hz h' c' kp e) ?_
    rw [List.size_toArray]
    omega
  · obtain ⟨its, r', pl, hz⟩ := I.tuple hq
    obtain ⟨o, ho, hc, n, hd⟩ := pl
    have hlen := r'.length
    refine call_list_seq p (.inr rfl) ho hc hd (fun h' c' kp e => fin its r' hz h' c' kp e) ?_
    rw [List.size_toArray]
    omega
end

/-! ## readings, answered from the left -/
section
variable {K : PySem.W.Frag} {σ : L2.St} {H : Hp} {Q : VK} {D : Ends} {v : V}
theorem w_C (k : Q v H) : tC v σ H Q := k
theorem w_var {i : Nat} (h : σ[i]? = some (some v)) (k : Q v H) : tVar i σ H Q := ⟨v, h, k⟩
theorem w_op {r : R2} {ta tb : TE} (k : ta σ H fun x H1 => tb σ H1 fun y H2 => r x y H2 Q) : tOp r ta tb σ H Q := k
theorem w_un {r : V → Hp → VK → Prop} {ta : TE} (k : ta σ H fun x H1 => r x H1 Q) : tUn r ta σ H Q := k
theorem w_seq {t u : TS} (k : t { D with nx := u D } σ H) : tSeq t u D σ H := k
theorem w_asg {te : TE} {g : TG} (k : te σ H fun x H1 => g x σ H1 D.nx) : tAsg te g D σ H := k
theorem w_ret {te : TE} (k : te σ H D.rt) : tRet te D σ H := k
theorem w_retN (k : D.rt .non H) : tRetN D σ H := k
theorem w_drop {te : TE} (k : te σ H fun _ H1 => D.nx σ H1) : tDrop te D σ H := k
theorem w_next (k : D.nx σ H) : tNext D σ H := k
theorem w_ifS {c : TT} {t u : TS} (k : c σ H fun b H1 => if b = true then t D σ H1 else u D σ H1) : tIfS c t u D σ H := k
theorem w_test {t : TE} {R : Bool → Hp → Prop} (k : t σ H fun x H1 => ∃ c, x = .bl c ∧ R c H1) : tTest t σ H R := k
theorem w_B {t : TE} {R : Bool → Hp → Prop} (k : t σ H fun x H1 => ∃ c, x = .bl c ∧ R c H1) : tB t σ H R := k
theorem w_bl {b : Bool} {R : Bool → Prop} (k : R b) : ∃ c, V.bl b = .bl c ∧ R c := ⟨b, rfl, k⟩
theorem w_and {t u : TT} {R : Bool → Hp → Prop} (k : t σ H fun c H1 => if c = true then u σ H1 R else R false H1) : tAnd t u σ H R := k
theorem w_or {t u : TT} {R : Bool → Hp → Prop} (k : t σ H fun c H1 => if c = true then R true H1 else u σ H1 R) : tOr t u σ H R := k
theorem w_not {t : TT} {R : Bool → Hp → Prop} (k : t σ H fun c H1 => R (!c) H1) : tNot t σ H R := k
theorem w_if {t : TT} {ta tb : TE} (k : t σ H fun c H1 => if c = true then ta σ H1 Q else tb σ H1 Q) : tIf t ta tb σ H Q := k
theorem w_andV {ta tb : TE} (k : ta σ H fun x H1 => ∃ c, x = .bl c ∧ if c = true then tb σ H1 Q else Q (.bl false) H1) : tAndV ta tb σ H Q := k
theorem w_orV {ta tb : TE} (k : ta σ H fun x H1 => ∃ c, x = .bl c ∧ if c = true then Q (.bl true) H1 else tb σ H1 Q) : tOrV ta tb σ H Q := k
theorem w_notV {ta : TE} (k : ta σ H fun x H1 => ∃ c, x = .bl c ∧ Q (.bl (!c)) H1) : tNotV ta σ H Q := k
theorem w_cb {r : List V → Hp → VK → Prop} {t : TA} (k : t σ H fun vs H1 => r vs H1 Q) : tCB r t σ H Q := k
theorem w_nil {R : List V → Hp → Prop} (k : R [] H) : tNil σ H R := k
theorem w_cons {R : List V → Hp → Prop} {ta : TE} {tr : TA} (k : ta σ H fun x H1 => tr σ H1 fun xs H2 => R (x :: xs) H2) : tCons ta tr σ H R := k
theorem w_tup {t : TA} (k : t σ H fun xs H1 => xs.length ≤ sizeLine ∧ ∀ p, H1 p = none → Q (.ref p) (upd H1 p (.tup xs))) : tTup t σ H Q := k
theorem w_lst {t : TA} (k : t σ H fun xs H1 => xs.length ≤ sizeLine ∧ ∀ p, H1 p = none → Q (.ref p) (upd H1 p (.lst xs))) : tLst t σ H Q := k
theorem w_lstN {t : TA} (k : t σ H fun xs H1 => xs.length ≤ sizeLine ∧ ∀ p, H1 p = none → p ≠ sysModules → Q (.ref p) (upd H1 p (.lst xs))) : tLstN t σ H Q := k
theorem w_call {sp : Sp} {dvs : List V} {E : XK} {t : TA} (k : t σ H fun vs H1 => sp (vs ++ dvs) H1 Q E) : tCall sp dvs E t σ H Q := k
theorem w_sl {r : V → Option Int → Option Int → Hp → VK → Prop} {te : TE} {tl th : TO} (k : te σ H fun x H1 => tl σ H1 fun l H2 => th σ H2 fun u H3 => r x l u H3 Q) : tSl r te tl th σ H Q := k
theorem w_nopart {R : Option Int → Hp → Prop} (k : R none H) : tNoPart σ H R := k
theorem w_part {R : Option Int → Hp → Prop} {t : TE} (k : t σ H fun x H1 => ∃ i, x = .int i ∧ R (some i) H1) : tPart t σ H R := k
theorem w_isint {i : Int} {R : Int → Prop} (k : R i) : ∃ j, V.int i = .int j ∧ R j := ⟨i, rfl, k⟩
theorem w_gname {i : Nat} {R : L2.St → Hp → Prop} (k : R (σ.set i (some v)) H) : gName i v σ H R := k
theorem w_gsub {to ti : TE} {t : TSet} {R : L2.St → Hp → Prop} (k : to σ H fun o H1 => ti σ H1 fun i H2 => t o i v H2 fun H3 => R σ H3) : gSub to ti t v σ H R := k
theorem w_I0 {g : Int → Int → V} {i j : Int} (k : Q (g i j) H) : rI0 g (.int i) (.int j) H Q := ⟨i, j, rfl, rfl, k⟩
theorem w_I {C : Int → Int → Prop} {g : Int → Int → V} {i j : Int} (c : C i j) (k : Q (g i j) H) : rI C g (.int i) (.int j) H Q := ⟨i, j, rfl, rfl, c, k⟩
theorem w_U {g : Int → V} {i : Int} (k : Q (g i) H) : rU g (.int i) H Q := ⟨i, rfl, k⟩
theorem w_lt {p : Int → Int → Bool} {ta tb : TE} (k : ta σ H fun x H1 => tb σ H1 fun y H2 => ∃ i j, x = .int i ∧ y = .int j ∧ Q (.bl (p i j)) H2) : tCmp p ta tb σ H Q := k
theorem w_ij {i j : Int} {R : Int → Int → Prop} (k : R i j) : ∃ i' j', V.int i = .int i' ∧ V.int j = .int j' ∧ R i' j' := ⟨i, j, rfl, rfl, k⟩
theorem w_int {n : Int} {R : Int → Prop} {S : Bool → Prop} (k : R n) : (∃ i, [V.int n] = [V.int i] ∧ R i) ∨ ∃ b, [V.int n] = [V.bl b] ∧ S b := .inl ⟨n, rfl, k⟩
theorem w_intb {b : Bool} {R : Int → Prop} {S : Bool → Prop} (k : S b) : (∃ i, [V.bl b] = [V.int i] ∧ R i) ∨ ∃ b', [V.bl b] = [V.bl b'] ∧ S b' := .inr ⟨b, rfl, k⟩
theorem w_abs {n : Int} {R : Int → Prop} (k : R n) : ∃ i, [V.int n] = [V.int i] ∧ R i := ⟨n, rfl, k⟩
theorem w_max {m n : Int} {R : Int → Int → Prop} (k : R m n) : ∃ i j, [V.int m, V.int n] = [V.int i, V.int j] ∧ R i j := ⟨m, n, rfl, k⟩
theorem w_ixL {p : Addr} {xs : List V} {i : Int} (h : SqL K H p xs) (hv : atI xs i = some v) (k : Q v H) : rIxL K (.ref p) (.int i) H Q := ⟨p, xs, i, v, rfl, rfl, h, hv, k⟩
theorem w_ixT {p : Addr} {xs : List V} {i : Int} (h : SqT K H p xs) (hv : atI xs i = some v) (k : Q v H) : rIxT K (.ref p) (.int i) H Q := ⟨p, xs, i, v, rfl, rfl, h, hv, k⟩
theorem w_setL {p : Addr} {xs : List V} {i : Int} {j : Nat} {R : Hp → Prop} (h : H p = some (.lst xs)) (hj : ixN xs.length i = some j) (k : R (upd H p (.lst (xs.set j v)))) : rSetL (.ref p) (.int i) v H R := ⟨p, xs, i, j, rfl, rfl, h, hj, k⟩
theorem w_lenL {p : Addr} {xs : List V} (h : SqL K H p xs) {R : Nat → Prop} (k : R xs.length) : ∃ x n, [V.ref p] = [x] ∧ LenV K x H n ∧ R n := ⟨.ref p, xs.length, rfl, .inl ⟨_, h, rfl⟩, k⟩
theorem w_lenT {p : Addr} {xs : List V} (h : SqT K H p xs) {R : Nat → Prop} (k : R xs.length) : ∃ x n, [V.ref p] = [x] ∧ LenV K x H n ∧ R n := ⟨.ref p, xs.length, rfl, .inr ⟨_, h, rfl⟩, k⟩
theorem w_new {n : Nat} {R : Addr → Prop} (h : n ≤ sizeLine) (k : ∀ p, H p = none → R p) : n ≤ sizeLine ∧ ∀ p, H p = none → R p := ⟨h, k⟩
theorem w_newN {n : Nat} {R : Addr → Prop} (h : n ≤ sizeLine) (k : ∀ p, H p = none → p ≠ sysModules → R p) : n ≤ sizeLine ∧ ∀ p, H p = none → p ≠ sysModules → R p := ⟨h, k⟩
theorem at_mem {xs : List V} {i : Int} (h0 : 0 ≤ i) (h1 : i < (xs.length : Int)) : ∃ v, v ∈ xs ∧ atI xs i = some v := by
  have hb : i.toNat < xs.length := by omega
  refine ⟨xs[i.toNat], List.getElem_mem hb, ?_⟩
  unfold atI ixN
  rw [if_pos h0, if_pos h1]
  show xs[i.toNat]? = _
  rw [List.getElem?_eq_getElem hb]
theorem w_ixLany {p : Addr} {xs : List V} {i : Int} (h : SqL K H p xs) (h0 : 0 ≤ i) (h1 : i < (xs.length : Int)) (k : ∀ v, v ∈ xs → Q v H) : rIxL K (.ref p) (.int i) H Q := by
  obtain ⟨v, hv, e⟩ := at_mem h0 h1
  exact ⟨p, xs, i, v, rfl, rfl, h, e, k v hv⟩
theorem w_ixTany {p : Addr} {xs : List V} {i : Int} (h : SqT K H p xs) (h0 : 0 ≤ i) (h1 : i < (xs.length : Int)) (k : ∀ v, v ∈ xs → Q v H) : rIxT K (.ref p) (.int i) H Q := by
  obtain ⟨v, hv, e⟩ := at_mem h0 h1
  exact ⟨p, xs, i, v, rfl, rfl, h, e, k v hv⟩
/-- a reckoned int as a letter with what is known of it -/
theorem w_Ib {C : Int → Int → Prop} {f : Int → Int → Int} {i j : Int} (B : Int → Prop) (c : C i j) (hb : B (f i j)) (k : ∀ r, B r → Q (.int r) H) : rI C (fun i j => .int (f i j)) (.int i) (.int j) H Q := ⟨i, j, rfl, rfl, c, k _ hb⟩
theorem w_I0b {f : Int → Int → Int} {i j : Int} (B : Int → Prop) (hb : B (f i j)) (k : ∀ r, B r → Q (.int r) H) : rI0 (fun i j => .int (f i j)) (.int i) (.int j) H Q := ⟨i, j, rfl, rfl, k _ hb⟩
theorem c_mul1 {i j : Int} (h1 : -18446744073709551616 < i) (h2 : i < 18446744073709551616) : CMul i j := .inl ⟨h1, h2⟩
theorem c_mul2 {i j : Int} (h1 : -18446744073709551616 < j) (h2 : j < 18446744073709551616) : CMul i j := .inr ⟨h1, h2⟩
theorem c_div {i j : Int} (h1 : 0 < j) (h2 : j < 1073741824) : CDiv i j := ⟨h1, h2⟩
theorem c_pow {i j : Int} (h1 : 0 ≤ j) (h2 : j ≤ 1000000) (h3 : i.natAbs < 18446744073709551616) : CPow i j := ⟨h1, h2, h3⟩
theorem c_powW {i j : Int} (h : (decide (0 ≤ j) && decide ((Builtin.Int.intBits i : Int) * j ≤ 2 ^ 27)) = true) : CPowW i j := by
  rw [Bool.and_eq_true] at h
  exact ⟨of_decide_eq_true h.1, of_decide_eq_true h.2⟩
theorem c_ne {j : Int} (h : j ≠ 0) : (fun _ j : Int => j ≠ 0) 0 j := h
theorem w_lstRg {te : L2.St → Hp → (Int → Int → Hp → Prop) → Prop} (k : te σ H fun a b H1 => RgOk a b ∧ ∀ q, H1 q = none → Q (.ref q) (upd H1 q (.lst (rgV a b)))) : tLstRg te σ H Q := k
theorem w_rg1 {ta : TE} {R : Int → Int → Hp → Prop} (k : ta σ H fun x H1 => ∃ n, x = .int n ∧ R 0 n H1) : tRg1 ta σ H R := k
theorem w_rg2 {ta tb : TE} {R : Int → Int → Hp → Prop} (k : ta σ H fun x H1 => tb σ H1 fun y H2 => ∃ i j, x = .int i ∧ y = .int j ∧ R i j H2) : tRg2 ta tb σ H R := k
theorem iteD {c A B : Prop} [Decidable c] (h1 : c → A) (h2 : ¬ c → B) : if decide c = true then A else B := by
  by_cases h : c
  · rw [decide_eq_true h, if_pos rfl]
    exact h1 h
  · rw [decide_eq_false h, if_neg Bool.false_ne_true]
    exact h2 h
theorem iteB {b : Bool} {A B : Prop} (h1 : b = true → A) (h2 : b = false → B) : if b = true then A else B := by
  cases b with
  | true => exact iteT (h1 rfl)
  | false => exact iteF (h2 rfl)
theorem upd_get {p b : Addr} {o u : HO} (n : H p = none) (h : H b = some o) : upd H p u b = some o := by
  rw [upd_ne (ne_of_none h n)]
  exact h
theorem upd_get2 {p b : Addr} {o u : HO} (n : b ≠ p) (h : H b = some o) : upd H p u b = some o := by
  rw [upd_ne n]
  exact h
end

/-! ## displays of data, as a whole -/
theorem Same.sqT {K : PySem.W.Frag} {a : Addr} {H H' : Hp} {xs : List V} (h : Same H H') (s : SqT K H a xs) : SqT K H' a xs := by
  rcases s with (s | ⟨o, s⟩) | s
  · exact .inl (.inl (h _ _ s))
  · exact .inl (.inr ⟨o, h _ _ s⟩)
  · exact .inr s
mutual
theorem Dq.same {K : PySem.W.Frag} {q : Addr} {H H' : Hp} (h : Same H H') : ∀ {v : V} {d : PyData}, Dq K q H v d → Dq K q H' v d
  | _, _, .non => .non
  | _, _, .bl b => .bl b
  | _, _, .int i => .int i
  | _, _, .str x => .str x
  | _, _, .lst e n n2 r => .lst (h _ _ e) n n2 (DqA.same h r)
  | _, _, .tup e r => .tup (Same.sqT h e) (DqA.same h r)
  | _, _, .dic e r1 r2 => .dic (h _ _ e) (DqA.same h r1) (DqA.same h r2)
theorem DqA.same {K : PySem.W.Frag} {q : Addr} {H H' : Hp} (h : Same H H') : ∀ {vs : List V} {ds : List PyData}, DqA K q H vs ds → DqA K q H' vs ds
  | _, _, .nil => .nil
  | _, _, .cons r t => .cons (Dq.same h r) (DqA.same h t)
end
theorem DqA.mem {K : PySem.W.Frag} {q : Addr} {H : Hp} : ∀ {vs : List V} {ds : List PyData} {v : V}, DqA K q H vs ds → v ∈ vs → ∃ d, d ∈ ds ∧ Dq K q H v d
  | _, _, v, .nil, h => by simp at h
  | _, _, v, .cons r t, h => by
    rcases List.mem_cons.mp h with e | h
    · subst e
      exact ⟨_, List.mem_cons_self, r⟩
    · obtain ⟨d, h1, h2⟩ := DqA.mem t h
      exact ⟨d, List.mem_cons_of_mem _ h1, h2⟩
theorem same_upd {H H' : Hp} {p : Addr} {o : HO} (h : Same H H') (n : H' p = none) : Same H (upd H' p o) := fun b u e => upd_get n (h b u e)

def DE (K : PySem.W.Frag) (q : Addr) (te : TE) (d : PyData) : Prop := ∀ (σ : L2.St) (H : Hp) (Q : VK), (∃ o, H q = some o) → (∀ v H', Same H H' → Dq K q H' v d → Q v H') → te σ H Q
def DA (K : PySem.W.Frag) (q : Addr) (ta : TA) (ds : List PyData) : Prop := ∀ (σ : L2.St) (H : Hp) (R : List V → Hp → Prop), (∃ o, H q = some o) → (∀ vs H', Same H H' → DqA K q H' vs ds → R vs H') → ta σ H R
section
variable {K : PySem.W.Frag} {q : Addr}
theorem de_non : DE K q (tC .non) .none := fun _ H _ _ k => k _ H (Same.refl H) .non
theorem de_bl (b : Bool) : DE K q (tC (.bl b)) (.bool b) := fun _ H _ _ k => k _ H (Same.refl H) (.bl b)
theorem de_int (i : Int) : DE K q (tC (.int i)) (.int i) := fun _ H _ _ k => k _ H (Same.refl H) (.int i)
theorem de_str (x : Str) : DE K q (tC (.str x)) (.str x) := fun _ H _ _ k => k _ H (Same.refl H) (.str x)
theorem da_nil : DA K q tNil [] := fun _ H _ _ k => k [] H (Same.refl H) .nil
theorem da_cons {te : TE} {ta : TA} {d : PyData} {ds : List PyData} (h : DE K q te d) (t : DA K q ta ds) : DA K q (tCons te ta) (d :: ds) := by
  intro σ H R hq k
  refine h σ H _ hq fun v H1 s1 d1 => ?_
  obtain ⟨o, ho⟩ := hq
  refine t σ H1 _ ⟨o, s1 _ _ ho⟩ fun vs H2 s2 d2 => ?_
  exact k (v :: vs) H2 (s1.trans s2) (.cons (d1.same s2) d2)
theorem de_tup {ta : TA} {ds : List PyData} (h : DA K q ta ds) (hz : ds.length ≤ 1000) : DE K q (tTup ta) (.tuple ds) := by
  intro σ H Q hq k
  refine h σ H _ hq fun vs H1 s1 d1 => ⟨by rw [d1.length, sizeLine_eq]; omega, fun p hp => ?_⟩
  exact k _ _ (same_upd s1 hp) (.tup (.of upd_same) (d1.same (same_upd (Same.refl _) hp)))
theorem de_lst {ta : TA} {ds : List PyData} (h : DA K q ta ds) (hz : ds.length ≤ 1000) : DE K q (tLstN ta) (.list ds) := by
  intro σ H Q hq k
  refine h σ H _ hq fun vs H1 s1 d1 => ⟨by rw [d1.length, sizeLine_eq]; omega, fun p hp hm => ?_⟩
  obtain ⟨o, ho⟩ := hq
  exact k _ _ (same_upd s1 hp) (.lst upd_same (Ne.symm (ne_of_none (s1 _ _ ho) hp)) hm (d1.same (same_upd (Same.refl _) hp)))
theorem de_opI {C : Int → Int → Prop} {f : Int → Int → Int} {a b c : Int} (h : C a b) (e : f a b = c) : DE K q (tOp (rI C fun i j => V.int (f i j)) (tC (.int a)) (tC (.int b))) (.int c) := by
  intro σ H Q _ k
  refine ⟨a, b, rfl, rfl, h, ?_⟩
  show Q (V.int (f a b)) H
  rw [e]
  exact k _ H (Same.refl H) (.int c)
theorem de_unI {f : Int → Int} {a c : Int} (e : f a = c) : DE K q (tUn (rU fun i => V.int (f i)) (tC (.int a))) (.int c) := by
  intro σ H Q _ k
  refine ⟨a, rfl, ?_⟩
  show Q (V.int (f a)) H
  rw [e]
  exact k _ H (Same.refl H) (.int c)
theorem de_dnew : DE K q tDNewK (.dict []) := by
  intro σ H Q hq k p hp
  exact k _ _ (same_upd (Same.refl H) hp) (.dic upd_same .nil .nil)
theorem de_disp1 {x : Str} {i : Int} : DE K q (tDisp [(tC (.str x), tC (.int i))]) (.dict [(.str x, .int i)]) := by
  intro σ H Q hq k p hp
  refine ⟨upd_same, [(.inr x, .int i)], rfl, (by show 1 ≤ 15; decide), ?_⟩
  rw [upd_upd]
  exact k _ _ (same_upd (Same.refl H) hp) (.dic upd_same (.cons (.str x) .nil) (.cons (.int i) .nil))
theorem w_cat {H : Hp} {Q : VK} {l b : Addr} {xs zs : List V} (h1 : H l = some (.lst xs)) (h2 : H b = some (.lst zs)) (hz : xs.length + zs.length ≤ 1000) (k : ∀ p, H p = none → Q (.ref p) (upd H p (.lst (xs ++ zs)))) : rCat (.ref l) (.ref b) H Q :=
  ⟨l, b, xs, zs, rfl, rfl, h1, h2, by rw [sizeLine_eq]; omega, k⟩
end

/-! ## t != (), t == () -/
section
variable {X : Cx}
def rNeE (K : PySem.W.Frag) : R2 := fun x y H Q => ∃ a b xs, x = .ref a ∧ y = .ref b ∧ SqT K H a xs ∧ SqT K H b [] ∧ Q (.bl (!xs.isEmpty)) H
def rEqE (K : PySem.W.Frag) : R2 := fun x y H Q => ∃ a b xs, x = .ref a ∧ y = .ref b ∧ SqT K H a xs ∧ SqT K H b [] ∧ Q (.bl xs.isEmpty) H
theorem op_neE (hu : X.A.units + 1 < cLine) : OpR X (compareOp .NotEq) (rNeE X.K) := by
  intro pins s σ H x y v u Q I rx ry h
  obtain ⟨a, b, xs, rfl, rfl, ha, hb, q⟩ := h
  obtain rfl : v = Value.ref a := rx
  obtain rfl : u = Value.ref b := ry
  obtain ⟨its, r1, ⟨o1, e1, c1, n1, d1⟩, _⟩ := I.tuple ha
  obtain ⟨its2, r2, ⟨o2, e2, c2, n2, d2⟩, _⟩ := I.tuple hb
  cases r2
  have hl := r1.length
  refine SeqAt.RcNeAt.tuples (e := fun _ => true) (hl := ⟨o1, e1, c1, n1, d1⟩) (hb := ⟨o2, e2, c2, n2, d2⟩) (by omega) (fun j h1 h2 => absurd h2 (by simp)) _ _ _ _ ?_
  refine ⟨.bl _, H, I, rfl, ?_⟩
  have e : (!((List.range (min its.toArray.size ([] : List Value).toArray.size)).all (fun _ => true) && its.toArray.size == ([] : List Value).toArray.size)) = !xs.isEmpty := by
    cases xs with
    | nil =>
      cases r1
      rfl
    | cons x xs =>
      cases r1
      simp
  rw [e]
  exact q
theorem op_eqE (hu : X.A.units + 1 < cLine) : OpR X (compareOp .Eq) (rEqE X.K) := by
  intro pins s σ H x y v u Q I rx ry h
  obtain ⟨a, b, xs, rfl, rfl, ha, hb, q⟩ := h
  obtain rfl : v = Value.ref a := rx
  obtain rfl : u = Value.ref b := ry
  obtain ⟨its, r1, ⟨o1, e1, c1, n1, d1⟩, _⟩ := I.tuple ha
  obtain ⟨its2, r2, ⟨o2, e2, c2, n2, d2⟩, _⟩ := I.tuple hb
  cases r2
  have hl := r1.length
  refine SeqAt.RcAt.tuples (e := fun _ => true) (hl := ⟨o1, e1, c1, n1, d1⟩) (hb := ⟨o2, e2, c2, n2, d2⟩) (by omega) (fun j h1 h2 => absurd h2 (by simp)) _ _ _ _ ?_
  refine ⟨.bl _, H, I, rfl, ?_⟩
  have e : ((List.range (min its.toArray.size ([] : List Value).toArray.size)).all (fun _ => true) && its.toArray.size == ([] : List Value).toArray.size) = xs.isEmpty := by
    cases xs with
    | nil =>
      cases r1
      rfl
    | cons x xs =>
      cases r1
      simp
  rw [e]
  exact q
end
theorem w_neE {K : PySem.W.Frag} {H : Hp} {Q : VK} {a b : Addr} {xs : List V} (h1 : SqT K H a xs) (h2 : SqT K H b []) (k : Q (.bl (!xs.isEmpty)) H) : rNeE K (.ref a) (.ref b) H Q := ⟨a, b, xs, rfl, rfl, h1, h2, k⟩
theorem w_eqE {K : PySem.W.Frag} {H : Hp} {Q : VK} {a b : Addr} {xs : List V} (h1 : SqT K H a xs) (h2 : SqT K H b []) (k : Q (.bl xs.isEmpty) H) : rEqE K (.ref a) (.ref b) H Q := ⟨a, b, xs, rfl, rfl, h1, h2, k⟩

/-! ## of what built-in type data are -/
def tyD : PyData → String
  | .none => "NoneType"
  | .bool _ => "bool"
  | .int _ => "int"
  | .str _ => "str"
  | .list _ => "list"
  | .tuple _ => "tuple"
  | .dict _ => "dict"
theorem sqT_tyX {K : PySem.W.Frag} {H : Hp} {a : Addr} {xs : List V} (h : SqT K H a xs) : TyX K H (.ref a) (.type "tuple") := by
  rcases h with (h | ⟨o, h⟩) | ⟨o, its, n, hk, hc, _⟩
  · exact .base (.tup h)
  · exact .fTuple h
  · exact .kTuple hk hc
theorem Dq.tyX {K : PySem.W.Frag} {q : Addr} {H : Hp} : ∀ {v : V} {d : PyData}, Dq K q H v d → TyX K H v (.type (tyD d))
  | _, _, .non => .base .non
  | _, _, .bl b => .base (.bl b)
  | _, _, .int i => .base (.int i)
  | _, _, .str x => .base (.str x)
  | _, _, .lst e _ _ _ => .base (.lst e)
  | _, _, .tup e _ => sqT_tyX e
  | _, _, .dic e _ _ => .base (.dK e)
/-- isinstance(data, built-in type) -/
theorem w_isT {K : PySem.W.Frag} {q : Addr} {H : Hp} {Q : VK} {v : V} {d : PyData} {T : String} (b : Bool) (hd : Dq K q H v d) (e : kitB (tyD d) T = some b) (k : Q (.bl b) H) : rIsi K [v, .ty T] H Q :=
  ⟨v, .ty T, .type (tyD d), .type T, b, rfl, .ty T, hd.tyX, kit_ty e, k⟩

/-! ## expressions over data that is there -/
def DV (K : PySem.W.Frag) (q : Addr) (σ : L2.St) (H : Hp) (te : TE) (d : PyData) : Prop := ∀ (H1 : Hp) (Q : VK), Same H H1 → (∀ v H', Same H1 H' → Dq K q H' v d → Q v H') → te σ H1 Q
def DP (K : PySem.W.Frag) (q : Addr) (σ : L2.St) (H : Hp) (te : TE) (Φ : PyData → Prop) : Prop := ∀ (H1 : Hp) (Q : VK), Same H H1 → (∀ v H' d, Same H1 H' → Dq K q H' v d → Φ d → Q v H') → te σ H1 Q
def DPA (K : PySem.W.Frag) (q : Addr) (σ : L2.St) (H : Hp) (ta : TA) (Φ : PyData → Prop) (n : Nat) : Prop := ∀ (H1 : Hp) (R : List V → Hp → Prop), Same H H1 →
  (∀ vs H' ds, Same H1 H' → DqA K q H' vs ds → (∀ d ∈ ds, Φ d) → ds.length = n → R vs H') → ta σ H1 R
def cutD (ds : List PyData) (lo hi : Option Int) : List PyData := (ds.drop (HT.sIx ds.length 0 lo)).take (HT.sIx ds.length ds.length hi - HT.sIx ds.length 0 lo)
theorem cutD_szA (ds : List PyData) (lo hi : Option Int) : szA (cutD ds lo hi) ≤ szA ds := Nat.le_trans (szA_take _ _) (szA_drop _ _)
theorem cutD_to {ds : List PyData} {i : Int} (h0 : 0 ≤ i) (h1 : i < (ds.length : Int)) : cutD ds none (some i) = ds.take i.toNat := by
  unfold cutD
  have e1 : HT.sIx ds.length 0 none = 0 := rfl
  have e2 : HT.sIx ds.length ds.length (some i) = i.toNat := by
    show (if i < 0 then (i + (ds.length : Int)).toNat else min i.toNat ds.length) = i.toNat
    rw [if_neg (by omega)]
    omega
  rw [e1, e2, List.drop_zero, Nat.sub_zero]
theorem cutD_from {ds : List PyData} {i : Int} (h0 : 0 ≤ i) (h1 : i ≤ (ds.length : Int)) : cutD ds (some i) none = ds.drop i.toNat := by
  unfold cutD
  have e1 : HT.sIx ds.length ds.length none = ds.length := rfl
  have e2 : HT.sIx ds.length 0 (some i) = i.toNat := by
    show (if i < 0 then (i + (ds.length : Int)).toNat else min i.toNat ds.length) = i.toNat
    rw [if_neg (by omega)]
    omega
  rw [e1, e2]
  exact List.take_of_length_le (by rw [List.length_drop]; omega)
theorem cutD_mem {ds : List PyData} {lo hi : Option Int} {d : PyData} (h : d ∈ cutD ds lo hi) : d ∈ ds := List.mem_of_mem_drop (List.mem_of_mem_take h)
section
variable {K : PySem.W.Frag} {q : Addr} {σ : L2.St} {H : Hp}
theorem DV.dp {te : TE} {d : PyData} {Φ : PyData → Prop} (h : DV K q σ H te d) (f : Φ d) : DP K q σ H te Φ := fun H1 Q s k => h H1 Q s fun v H' s' dq => k v H' d s' dq f
theorem dpa_nil {Φ : PyData → Prop} : DPA K q σ H tNil Φ 0 := fun H1 R _ k => k [] H1 [] (Same.refl _) .nil (fun d h => absurd h (by simp)) rfl
theorem dpa_cons {te : TE} {ta : TA} {Φ : PyData → Prop} {n : Nat} (h : DP K q σ H te Φ) (t : DPA K q σ H ta Φ n) : DPA K q σ H (tCons te ta) Φ (n + 1) := by
  intro H1 R s k
  refine h H1 _ s fun v H2 d s2 dq f => ?_
  refine t H2 _ (s.trans s2) fun vs H3 ds s3 dqs fs hn => ?_
  refine k (v :: vs) H3 (d :: ds) (s2.trans s3) (.cons (dq.same s3) dqs) (fun d' hd => ?_) (by rw [List.length_cons, hn])
  rcases List.mem_cons.mp hd with e | hd
  · rw [e]
    exact f
  · exact fs d' hd
theorem dv_var {i : Nat} {v : V} {d : PyData} (h : σ[i]? = some (some v)) (hd : Dq K q H v d) : DV K q σ H (tVar i) d := fun H1 Q s k => ⟨v, h, k v H1 (Same.refl _) (hd.same s)⟩
theorem dv_non : DV K q σ H (tC .non) .none := fun H1 Q s k => k _ H1 (Same.refl _) .non
theorem dv_bl (b : Bool) : DV K q σ H (tC (.bl b)) (.bool b) := fun H1 Q s k => k _ H1 (Same.refl _) (.bl b)
theorem dv_int (i : Int) : DV K q σ H (tC (.int i)) (.int i) := fun H1 Q s k => k _ H1 (Same.refl _) (.int i)
theorem dv_str (x : Str) : DV K q σ H (tC (.str x)) (.str x) := fun H1 Q s k => k _ H1 (Same.refl _) (.str x)
theorem dv_tup0 : DV K q σ H (tTup tNil) (.tuple []) := fun H1 Q s k => ⟨Nat.zero_le _, fun p hp => k _ _ (same_upd (Same.refl _) hp) (.tup (.of upd_same) .nil)⟩
theorem dv_tup1 {te : TE} {d : PyData} (h : DV K q σ H te d) : DV K q σ H (tTup (tCons te tNil)) (.tuple [d]) := by
  intro H1 Q s k
  refine h H1 _ s fun v H2 s2 dq => ⟨by show 1 ≤ sizeLine; decide, fun p hp => ?_⟩
  exact k _ _ (same_upd s2 hp) (.tup (.of upd_same) (.cons (dq.same (same_upd (Same.refl _) hp)) .nil))
theorem dv_lst1 {te : TE} {d : PyData} (hq : ∃ o, H q = some o) (h : DV K q σ H te d) : DV K q σ H (tLstN (tCons te tNil)) (.list [d]) := by
  intro H1 Q s k
  refine h H1 _ s fun v H2 s2 dq => ⟨by show 1 ≤ sizeLine; decide, fun p hp hm => ?_⟩
  obtain ⟨o, ho⟩ := hq
  exact k _ _ (same_upd s2 hp) (.lst upd_same (Ne.symm (ne_of_none ((s.trans s2) _ _ ho) hp)) hm (.cons (dq.same (same_upd (Same.refl _) hp)) .nil))
theorem dv_list {te : TE} {ds : List PyData} (hq : ∃ o, H q = some o) (h : DV K q σ H te (.tuple ds)) :
    DV K q σ H (tCB (fun xs H Q => ∃ p ys, xs = [.ref p] ∧ (SqL K H p ys ∨ SqT K H p ys) ∧ ∀ l, H l = none → l ≠ sysModules → Q (.ref l) (upd H l (.lst ys))) (tCons te tNil)) (.list ds) := by
  intro H1 Q s k
  refine h H1 _ s fun v H2 s2 dq => ?_
  cases dq with
  | tup e r =>
    refine ⟨_, _, rfl, .inr e, fun l hl hm => ?_⟩
    obtain ⟨o, ho⟩ := hq
    exact k _ _ (same_upd s2 hl) (.lst upd_same (Ne.symm (ne_of_none ((s.trans s2) _ _ ho) hl)) hm (r.same (same_upd (Same.refl _) hl)))
theorem dv_back {te : TE} {ds : List PyData} (h : DV K q σ H te (.tuple ds)) : DV K q σ H (tBackT K te) (.tuple ds.reverse) := by
  intro H1 Q s k
  refine h H1 _ s fun v H2 s2 dq => ?_
  cases dq with
  | tup e r => exact ⟨_, _, rfl, e, fun p hp => k _ _ (same_upd s2 hp) (.tup (.of upd_same) (r.rev.same (same_upd (Same.refl _) hp)))⟩
theorem dv_cat {ta tb : TE} {ds es : List PyData} (ha : DV K q σ H ta (.tuple ds)) (hb : DV K q σ H tb (.tuple es)) (hz : ds.length + es.length ≤ 1000000) : DV K q σ H (tOp (rCatA K) ta tb) (.tuple (ds ++ es)) := by
  intro H1 Q s k
  refine ha H1 _ s fun v H2 s2 dq => ?_
  refine hb H2 _ (s.trans s2) fun u H3 s3 dq2 => ?_
  cases dq with
  | tup e r =>
    cases dq2 with
    | tup e2 r2 =>
      have e' := Same.sqT s3 e
      have r' := r.same s3
      refine ⟨_, _, _, _, rfl, rfl, e', e2, ?_, fun z => ?_, fun z1 z2 => ?_, fun z1 z2 p hp => ?_⟩
      · rw [r'.length, r2.length, sizeLine_eq]
        omega
      · subst z
        cases r'
        exact k _ _ (s2.trans s3) (.tup e2 r2)
      · subst z2
        cases r2
        rw [List.append_nil] at k
        exact k _ _ (s2.trans s3) (.tup e' r')
      · exact k _ _ (same_upd (s2.trans s3) hp) (.tup (.of upd_same) ((r'.append r2).same (same_upd (Same.refl _) hp)))
theorem dv_slice {te : TE} {tl th : TO} {lo hi : Option Int} {ds : List PyData} (h : DV K q σ H te (.tuple ds)) (hl : ∀ (H1 : Hp) (R : Option Int → Hp → Prop), R lo H1 → tl σ H1 R) (hh : ∀ (H1 : Hp) (R : Option Int → Hp → Prop), R hi H1 → th σ H1 R) :
    DV K q σ H (tSl (rSlA K) te tl th) (.tuple (cutD ds lo hi)) := by
  intro H1 Q s k
  refine h H1 _ s fun v H2 s2 dq => hl _ _ (hh _ _ ?_)
  cases dq with
  | @tup a xs _ e r =>
    have hn := r.length
    refine ⟨a, xs, rfl, e, fun z => ?_, fun z p hp => ?_⟩
    · have : cutD ds lo hi = ds := by
        unfold cutD
        rw [← hn, z.1, z.2, List.drop_zero, Nat.sub_zero, List.take_of_length_le (by omega)]
      rw [this] at k
      exact k _ _ s2 (.tup e r)
    · refine k _ _ (same_upd s2 hp) (.tup (.of upd_same) ?_)
      have := ((r.drop (HT.sIx xs.length 0 lo)).take (HT.sIx xs.length xs.length hi - HT.sIx xs.length 0 lo)).same (same_upd (Same.refl H2) hp (o := .tup (cutV xs lo hi)))
      unfold cutD
      rw [← hn]
      exact this
theorem r_cat {H1 : Hp} {Q : VK} {v u : V} {ds es : List PyData} (dq : Dq K q H1 v (.tuple ds)) (dq2 : Dq K q H1 u (.tuple es)) (hz : ds.length + es.length ≤ 1000000)
    (k : ∀ v H', Same H1 H' → Dq K q H' v (.tuple (ds ++ es)) → Q v H') : rCatA K v u H1 Q := by
  have ha : DV K q [some v, some u] H1 (tVar 0) (.tuple ds) := dv_var rfl dq
  have hb : DV K q [some v, some u] H1 (tVar 1) (.tuple es) := dv_var rfl dq2
  obtain ⟨v', e1, u', e2, z⟩ := dv_cat ha hb hz H1 Q (Same.refl _) k
  cases e1
  cases e2
  exact z
theorem r_slice {H1 : Hp} {Q : VK} {v : V} {lo hi : Option Int} {ds : List PyData} (dq : Dq K q H1 v (.tuple ds)) (k : ∀ v H', Same H1 H' → Dq K q H' v (.tuple (cutD ds lo hi)) → Q v H') : rSlA K v lo hi H1 Q := by
  have ha : DV K q [some v] H1 (tVar 0) (.tuple ds) := dv_var rfl dq
  obtain ⟨v', e1, z⟩ := dv_slice (lo := lo) (hi := hi) (tl := fun _ H R => R lo H) (th := fun _ H R => R hi H) ha (fun _ _ h => h) (fun _ _ h => h) H1 Q (Same.refl _) k
  cases e1
  exact z
theorem lo_var {i : Nat} {j : Int} (h : σ[i]? = some (some (.int j))) (H1 : Hp) (R : Option Int → Hp → Prop) (k : R (some j) H1) : tPart (tVar i) σ H1 R := ⟨.int j, h, j, rfl, k⟩
theorem lo_var1 {i : Nat} {j c : Int} (h : σ[i]? = some (some (.int j))) (H1 : Hp) (R : Option Int → Hp → Prop) (k : R (some (j + c)) H1) : tPart (tOp (rI0 fun i j => .int (i + j)) (tVar i) (tC (.int c))) σ H1 R := ⟨.int j, h, j, c, rfl, rfl, _, rfl, k⟩
theorem lo_non (H1 : Hp) (R : Option Int → Hp → Prop) (k : R none H1) : tNoPart σ H1 R := k
theorem lo_int (i : Int) (H1 : Hp) (R : Option Int → Hp → Prop) (k : R (some i) H1) : tPart (tC (.int i)) σ H1 R := ⟨i, rfl, k⟩
theorem lo_neg (i : Int) (H1 : Hp) (R : Option Int → Hp → Prop) (k : R (some (-i)) H1) : tPart (tUn (rU fun i => .int (-i)) (tC (.int i))) σ H1 R := ⟨i, rfl, -i, rfl, k⟩
theorem dv_I0 {f : Int → Int → Int} {ta tb : TE} {a b : Int} (ha : DV K q σ H ta (.int a)) (hb : DV K q σ H tb (.int b)) : DV K q σ H (tOp (rI0 fun i j => .int (f i j)) ta tb) (.int (f a b)) := by
  intro H1 Q s k
  refine ha H1 _ s fun v H2 s2 dq => ?_
  refine hb H2 _ (s.trans s2) fun u H3 s3 dq2 => ?_
  cases dq
  cases dq2
  exact ⟨a, b, rfl, rfl, k _ _ (s2.trans s3) (.int _)⟩
theorem dv_U {f : Int → Int} {ta : TE} {a : Int} (ha : DV K q σ H ta (.int a)) : DV K q σ H (tUn (rU fun i => .int (f i)) ta) (.int (f a)) := by
  intro H1 Q s k
  refine ha H1 _ s fun v H2 s2 dq => ?_
  cases dq
  exact ⟨a, rfl, k _ _ s2 (.int _)⟩
theorem dv_eqI {ta tb : TE} {a b : Int} (ha : DV K q σ H ta (.int a)) (hb : DV K q σ H tb (.int b)) : DV K q σ H (tOp rEq ta tb) (.bool (decide (V.int a = V.int b))) := by
  intro H1 Q s k
  refine ha H1 _ s fun v H2 s2 dq => ?_
  refine hb H2 _ (s.trans s2) fun u H3 s3 dq2 => ?_
  cases dq
  cases dq2
  exact ⟨rfl, k _ _ (s2.trans s3) (.bl _)⟩
theorem dv_strI {ta : TE} {a : Int} (ha : DV K q σ H ta (.int a)) (hz : a.natAbs.log2 < 1920) :
    DV K q σ H (tCB (fun xs H Q => ∃ i, xs = [.int i] ∧ i.natAbs.log2 < 1920 ∧ Q (.str (toString i)) H) (tCons ta tNil)) (.str (toString a)) := by
  intro H1 Q s k
  refine ha H1 _ s fun v H2 s2 dq => ?_
  cases dq
  exact ⟨a, rfl, hz, k _ _ s2 (.str _)⟩
theorem dv_not {ta : TE} {b : Bool} (ha : DV K q σ H ta (.bool b)) : DV K q σ H (tNotV ta) (.bool (!b)) := by
  intro H1 Q s k
  refine ha H1 _ s fun v H2 s2 dq => ?_
  cases dq
  exact ⟨b, rfl, k _ _ s2 (.bl _)⟩
theorem dv_intB {ta : TE} {b : Bool} (ha : DV K q σ H ta (.bool b)) :
    DV K q σ H (tCB (fun xs H Q => (∃ i, xs = [V.int i] ∧ Q (V.int i) H) ∨ ∃ k, xs = [V.bl k] ∧ Q (V.int (if k = true then 1 else 0)) H) (tCons ta tNil)) (.int (if b = true then 1 else 0)) := by
  intro H1 Q s k
  refine ha H1 _ s fun v H2 s2 dq => ?_
  cases dq
  exact .inr ⟨b, rfl, k _ _ s2 (.int _)⟩
theorem dv_catS {ta tb : TE} {x y : Str} (ha : DV K q σ H ta (.str x)) (hb : DV K q σ H tb (.str y)) (hz : x.length + y.length ≤ 1000000) :
    DV K q σ H (tOp (fun x y H Q => ∃ i j, x = .str i ∧ y = .str j ∧ i.length + j.length ≤ sizeLine ∧ Q (.str (i ++ j)) H) ta tb) (.str (x ++ y)) := by
  intro H1 Q s k
  refine ha H1 _ s fun v H2 s2 dq => ?_
  refine hb H2 _ (s.trans s2) fun u H3 s3 dq2 => ?_
  cases dq
  cases dq2
  exact ⟨x, y, rfl, rfl, by rw [sizeLine_eq]; omega, k _ _ (s2.trans s3) (.str _)⟩
theorem dv_cutS {te : TE} {tl th : TO} {lo hi : Option Int} {x : Str} (h : DV K q σ H te (.str x)) (hz : x.length ≤ 1000000) (hl : ∀ (H1 : Hp) (R : Option Int → Hp → Prop), R lo H1 → tl σ H1 R) (hh : ∀ (H1 : Hp) (R : Option Int → Hp → Prop), R hi H1 → th σ H1 R) :
    DV K q σ H (tSl rSlS te tl th) (.str (cutS x lo hi)) := by
  intro H1 Q s k
  refine h H1 _ s fun v H2 s2 dq => hl _ _ (hh _ _ ?_)
  cases dq
  exact ⟨x, rfl, by rw [sizeLine_eq]; omega, k _ _ s2 (.str _)⟩
theorem dv_upper {te : TE} {x : Str} (h : DV K q σ H te (.str x)) (hz : x.length ≤ 1000000) :
    DV K q σ H (tM0 (fun x xs H Q => ∃ a, x = .str a ∧ xs = [] ∧ a.length ≤ 5592405 ∧ Q (.str (Txt.upper a)) H) te) (.str (Txt.upper x)) := by
  intro H1 Q s k
  refine h H1 _ s fun v H2 s2 dq => ?_
  cases dq
  exact ⟨⟨x, rfl⟩, x, rfl, rfl, by omega, k _ _ s2 (.str _)⟩
theorem dp_backS {te : TE} {x : Str} {Φ : PyData → Prop} (h : DV K q σ H te (.str x)) (hz : x.length ≤ 1000000) (f : ∀ z : Str, z.length ≤ x.length → (∀ c ∈ z.cps.toList, c ∈ x.cps.toList) → Φ (.str z)) : DP K q σ H (tBackS te) Φ := by
  intro H1 Q s k
  refine h H1 _ s fun v H2 s2 dq => ?_
  cases dq
  exact ⟨x, rfl, by rw [sizeLine_eq]; omega, fun z h1 h2 => k _ _ _ s2 (.str z) (f z h1 h2)⟩
end

/-! ## the errors' classes, looked at once -/
def oexB (K : PySem.W.Frag) (C : Addr) : Bool := match K.lookup C with
  | some ⟨.type "type", _, .cls cd, sl⟩ => (match cd.mro, sl.toList with
    | .ref C' :: bm, [_, _, _, _, some (.builtin n), _] => C' == C && (n == "ValueError.__new__" && (!cd.hasDel && (cd.hasDict && PySem.HandSPX.refsVE bm)))
    | _, _ => false)
  | _ => false
theorem oexB_ok {K : PySem.W.Frag} {C : Addr} (q : oexB K C = true) : ∃ nm q N bs bm sn sub ab col dd k0 k1 k2 k3 k5, K.lookup C = some (excClassObj nm q C N bs bm true sn sub ab col dd k0 k1 k2 k3 k5 "ValueError.__new__") ∧ PySem.HandSPX.refsVE bm = true := by
  unfold oexB at q
  split at q
  · rename_i dd cd sl ho
    split at q
    · rename_i C' bm k0 k1 k2 k3 n k5 hm hs
      simp only [Bool.and_eq_true, beq_iff_eq, Bool.not_eq_true'] at q
      obtain ⟨rfl, rfl, hdel, hdict, hve⟩ := q
      obtain ⟨nm, bs, mro, ns, qn, hd, sn, sub, ab, col, del⟩ := cd
      dsimp only at hm hdel hdict
      subst hm hdel hdict
      have hsl : sl = #[k0, k1, k2, k3, some (.builtin "ValueError.__new__"), k5] := by
        obtain ⟨l⟩ := sl
        simp only at hs
        rw [hs]
      subst hsl
      exact ⟨nm, qn, ns, bs, bm, sn, sub, ab, col, dd, k0, k1, k2, k3, k5, ho, hve⟩
    · cases q
  · cases q
def errB (K : PySem.W.Frag) (D fI : Addr) : Bool := oexB K D && (decide (PySem.W.findIn K (.ref D) "__setattr__" = some (some (.builtin "object.__setattr__"))) && (decide (PySem.W.subIn K (.ref D) (.type "BaseException") = some true) &&
  (decide (PySem.W.typeIn K (.ref D) = some (.type "type")) && (PySem.W.keepIn K (.ref D) && (xfB K D && (decide (PySem.W.findIn K (.ref D) "__init__" = some (some (.ref fI))) && (decide (PySem.W.findIn K (.ref D) "value" = some none) &&
  (decide (PySem.W.findIn K (.ref D) "__class__" = some (some (.builtin "object.__class__"))) && (decide (PySem.W.specialIn K (.builtin "object.__class__") "__get__" = some (some (.builtin "getset_descriptor.__get__"))) &&
  (decide (PySem.W.takesIn K (.builtin "object.__class__") = some true) && decide (PySem.W.mroIn K D (.type "object") = some true)))))))))))
theorem errB_ok {K : PySem.W.Frag} {D fI : Addr} (h : errB K D fI = true) : ErrC K D fI := by
  unfold errB at h
  simp only [Bool.and_eq_true, decide_eq_true_eq] at h
  obtain ⟨h1, h2, h3, h4, h5, h6, h7, h8, h9, h10, h11, h12⟩ := h
  exact ⟨⟨oexB_ok h1, h2, h3, h4, h5⟩, xfB_ok h6, h7, h8, h9, h10, h11, h12⟩

theorem ErrAt.same {H H' : Hp} {a D : Addr} {v : V} (h : ErrAt H a D v) (s : Same H H') : ErrAt H' a D v := by
  obtain ⟨d, h1, h2⟩ := h
  exact ⟨d, s _ _ h1, s _ _ h2⟩
def ErrsAt (H : Hp) (v : V) (es Ds : List Addr) : Prop := Paired (fun a D => ErrAt H a D v) es Ds
theorem ErrsAt.same {H H' : Hp} {v : V} {es Ds : List Addr} (h : ErrsAt H v es Ds) (s : Same H H') : ErrsAt H' v es Ds := Paired.mapP h fun _ _ e => e.same s
theorem Paired.app {α β : Type} {F : α → β → Prop} : ∀ {l₁ m₁ : List α} {l₂ m₂ : List β}, Paired F l₁ l₂ → Paired F m₁ m₂ → Paired F (l₁ ++ m₁) (l₂ ++ m₂)
  | _, _, _, _, .nil, s => s
  | _, _, _, _, .cons r t, s => .cons r (Paired.app t s)
theorem Paired.at {α β : Type} {F : α → β → Prop} : ∀ {l₁ : List α} {l₂ : List β} {i : Nat} {a : α}, Paired F l₁ l₂ → l₁[i]? = some a → ∃ b, l₂[i]? = some b ∧ F a b
  | _, _, _, _, .nil, e => by simp at e
  | _, _, 0, _, .cons r _, e => by
    simp at e
    subst e
    exact ⟨_, rfl, r⟩
  | _, _, i + 1, a, .cons _ t, e => by
    obtain ⟨b, h1, h2⟩ := Paired.at (i := i) (a := a) t (by simpa using e)
    exact ⟨b, by simpa using h1, h2⟩

/-! ## __init__ of the errors -/
def spInit (K : PySem.W.Frag) : Sp := fun vs H Q _ => ∃ (a D : Addr) (v : V), vs = [.ref a, v] ∧ OexC K D ∧ PySem.W.findIn K (.ref D) "value" = some none ∧ H a = some (exo a D none) ∧
  ∀ dx, H dx = none → dx ≠ a → Q .non (upd (upd H dx (exd dx [(("value" : Str), v)])) a (exo a D (some dx)))
section
variable {K : PySem.W.Frag} {σ : L2.St} {H : Hp}
theorem r_err {j : Nat} {D fI : Addr} {v : V} {Q : VK} (T : ErrC K D fI) (h0 : σ[j]? = some (some v)) (k : ∀ (a : Addr) (H' : Hp), H a = none → Same H H' → ErrAt H' a D v → Q (.ref a) H') : tErr D (spInit K) (tCons (tVar j) tNil) σ H Q := by
  refine ⟨v, h0, by show 1 ≤ 1000; decide, fun a ha => ⟨a, D, v, rfl, T.o, T.inv, upd_same, fun dx hd hne => ⟨rfl, k a _ ha (fun b o e => ?_) ⟨dx, upd_same, ?_⟩⟩⟩⟩
  · have h1 : b ≠ a := ne_of_none e ha
    have h2 : H dx = none := by
      rw [upd_ne hne] at hd
      exact hd
    have h3 : b ≠ dx := ne_of_none e h2
    rw [upd_ne h1, upd_ne h3, upd_ne h1]
    exact e
  · rw [upd_ne hne, upd_same]
def EAs (σ : L2.St) (H : Hp) (v : V) (ta : TA) (Ds : List Addr) : Prop := ∀ (H1 : Hp) (R : List V → Hp → Prop), Same H H1 → (∀ es H', Same H1 H' → ErrsAt H' v es Ds → R (es.map V.ref) H') → ta σ H1 R
theorem ea_nil {v : V} : EAs σ H v tNil [] := fun H1 R _ k => k [] H1 (Same.refl _) .nil
theorem ea_cons {D fI : Addr} {v : V} {ta : TA} {Ds : List Addr} (T : ErrC K D fI) (h0 : σ[0]? = some (some v)) (t : EAs σ H v ta Ds) : EAs σ H v (tCons (tErr D (spInit K) (tCons (tVar 0) tNil)) ta) (D :: Ds) := by
  intro H1 R s k
  refine r_err T h0 fun a H2 _ s2 e2 => ?_
  refine t H2 _ (s.trans s2) fun es H3 s3 e3 => ?_
  exact k (a :: es) H3 (s2.trans s3) (.cons (e2.same s3) e3)
theorem el_lst {v : V} {ta : TA} {Ds : List Addr} {H1 : Hp} {Q : VK} (A : EAs σ H v ta Ds) (hz : Ds.length ≤ 1000) (s : Same H H1)
    (k : ∀ (p : Addr) (H' : Hp) (es : List Addr), Same H1 H' → H1 p = none → H' p = some (.lst (es.map V.ref)) → ErrsAt H' v es Ds → es.length = Ds.length → Q (.ref p) H') : tLstN ta σ H1 Q := by
  refine A H1 _ s fun es H2 s2 d2 => ?_
  have hl : es.length = Ds.length := Paired.length d2
  refine ⟨by rw [List.length_map, hl, sizeLine_eq]; omega, fun p hp _ => ?_⟩
  exact k p _ es (same_upd s2 hp) (s2.free hp) upd_same (d2.same (same_upd (Same.refl _) hp)) hl
/-- exact lists of data -/
def DVA (K : PySem.W.Frag) (q : Addr) (σ : L2.St) (H : Hp) (ta : TA) (ds : List PyData) : Prop := ∀ (H1 : Hp) (R : List V → Hp → Prop), Same H H1 → (∀ vs H', Same H1 H' → DqA K q H' vs ds → R vs H') → ta σ H1 R
theorem dva_nil {q : Addr} : DVA K q σ H tNil [] := fun H1 R _ k => k [] H1 (Same.refl _) .nil
theorem dva_cons {q : Addr} {te : TE} {ta : TA} {d : PyData} {ds : List PyData} (h : DV K q σ H te d) (t : DVA K q σ H ta ds) : DVA K q σ H (tCons te ta) (d :: ds) := by
  intro H1 R s k
  refine h H1 _ s fun v H2 s2 d2 => ?_
  refine t H2 _ (s.trans s2) fun vs H3 s3 d3 => ?_
  exact k (v :: vs) H3 (s2.trans s3) (.cons (d2.same s3) d3)
theorem DqA.bools {q : Addr} : ∀ {vs : List V} {bs : List Bool}, DqA K q H vs (bs.map PyData.bool) → vs = bs.map V.bl
  | _, [], h => by
    cases h
    rfl
  | _, b :: bs, h => by
    rw [List.map_cons] at h
    cases h with
    | cons h1 h2 =>
      cases h1
      rw [DqA.bools h2, List.map_cons]
theorem bl_lst {q : Addr} {ta : TA} {bs : List Bool} {H1 : Hp} {Q : VK} (A : DVA K q σ H ta (bs.map PyData.bool)) (hz : bs.length ≤ 1000) (s : Same H H1)
    (k : ∀ (p : Addr) (H' : Hp), Same H1 H' → H1 p = none → H' p = some (.lst (bs.map V.bl)) → Q (.ref p) H') : tLstN ta σ H1 Q := by
  refine A H1 _ s fun vs H2 s2 d2 => ?_
  obtain rfl := DqA.bools d2
  refine ⟨by rw [List.length_map, sizeLine_eq]; omega, fun p hp _ => ?_⟩
  exact k p _ (same_upd s2 hp) (s2.free hp) upd_same
theorem dv_isErr {q a D fI C : Addr} {v : V} {b : Bool} (T : ErrC K D fI) (h0 : σ[0]? = some (some (.ref a))) (e : ErrAt H a D v) (kit : PySem.W.kitOne K (.ref D) (.ref C) = some b) :
    DV K q σ H (tCB (rIsErr K) (tCons (tVar 0) (tCons (tC (.ref C)) tNil))) (.bool b) := by
  intro H1 Q s k
  exact ⟨_, h0, a, D, fI, v, .ref C, .ref C, b, rfl, T, e.same s, .own C, kit, k _ _ (Same.refl _) (.bl b)⟩
end

/-! ## loops and comprehensions -/
section
variable {K : PySem.W.Frag} {σ : L2.St} {H : Hp}
theorem w_forL {te : TE} {g : TG} {tb : TS} {D : Ends} {l : Addr} {xs : List V} (Pv : Nat → L2.St → Hp → Prop) (ht : te σ H fun x H1 => x = .ref l ∧ SqL K H1 l xs ∧ Pv 0 σ H1) (hl : ∀ i σ H, i ≤ xs.length → Pv i σ H → SqL K H l xs)
    (hs : ∀ i x σ H, xs[i]? = some x → Pv i σ H → g x σ H fun σ2 H2 => tb { D with nx := Pv (i + 1), ct := Pv (i + 1), bk := D.nx } σ2 H2) (hd : ∀ σ H, Pv xs.length σ H → D.nx σ H)
    (mono : ∀ (Q Q' : VK), (∀ v H, Q v H → Q' v H) → te σ H Q → te σ H Q') : tFor (iList K te) g tb D σ H := by
  refine mono _ _ ?_ ht
  rintro v H1 ⟨rfl, h1, h2⟩
  exact ⟨l, rfl, ⟨_, h1⟩, for_list Pv h2 hl hs hd⟩
theorem var_mono {i : Nat} (Q Q' : VK) (h : ∀ v H, Q v H → Q' v H) (k : tVar i σ H Q) : tVar i σ H Q' := by
  obtain ⟨v, e, k⟩ := k
  exact ⟨v, e, h _ _ k⟩
theorem for_enum {l : Addr} {xs : List V} {g : TG} {tb : TS} {D : Ends} (Pv : Nat → L2.St → Hp → Prop) (h0 : Pv 0 σ H) (hl : ∀ i σ H, i ≤ xs.length → Pv i σ H → SqL K H l xs)
    (hs : ∀ i x σ H T, xs[i]? = some x → Pv i σ H → H T = none → g (.ref T) σ (upd H T (.tup [.int (i : Nat), x])) fun σ2 H2 => tb { D with nx := Pv (i + 1), ct := Pv (i + 1), bk := D.nx } σ2 H2)
    (hd : ∀ σ H, Pv xs.length σ H → D.nx σ H) :
    ∃ W : Nat → Nat → L2.St → Hp → Prop, (∃ m, W 0 m σ H) ∧ ∀ i m σ H, W i m σ H →
      ((Ite K l).stop i H ∧ D.nx σ H) ∨ ((Ite K l).go i H ∧ ∃ N : L2.St → Hp → Prop, (∀ σ' H', N σ' H' → ∃ m', m' < m ∧ W (i + 1) m' σ' H') ∧
        ∀ x H', (Ite K l).yld i H x H' → g x σ H' fun σ2 H2 => tb { D with nx := N, ct := N, bk := D.nx } σ2 H2) := by
  refine ⟨fun i m σ H => m = xs.length - i ∧ i ≤ xs.length ∧ Pv i σ H, ⟨xs.length, by simp, Nat.zero_le _, h0⟩, ?_⟩
  rintro i m σ H ⟨rfl, hi, p⟩
  have q := hl i σ H hi p
  by_cases hlt : i < xs.length
  · refine .inr ⟨⟨xs, xs[i], q, by simp [hlt]⟩, Pv (i + 1), fun σ' H' p' => ⟨xs.length - (i + 1), by omega, rfl, hlt, p'⟩, ?_⟩
    rintro v H' ⟨T, x, rfl, hT, rfl, hx⟩
    exact hs i x σ H T (hx xs q) p hT
  · obtain rfl : i = xs.length := by omega
    exact .inl ⟨⟨xs, q, Nat.le_refl _⟩, hd σ H p⟩
theorem w_forE {ta : TA} {g : TG} {tb : TS} {D : Ends} (k : ta σ H fun vs H1 => ∃ a xs, vs = [.ref a] ∧ SqL K H1 a xs ∧ ∃ W : Nat → Nat → L2.St → Hp → Prop, (∃ m, W 0 m σ H1) ∧ ∀ i m σ H, W i m σ H →
      ((Ite K a).stop i H ∧ D.nx σ H) ∨ ((Ite K a).go i H ∧ ∃ N : L2.St → Hp → Prop, (∀ σ' H', N σ' H' → ∃ m', m' < m ∧ W (i + 1) m' σ' H') ∧
        ∀ x H', (Ite K a).yld i H x H' → g x σ H' fun σ2 H2 => tb { D with nx := N, ct := N, bk := D.nx } σ2 H2)) : tFor (iEnum K ta) g tb D σ H := k
theorem w_forS {te : TE} {g : TG} {tb : TS} {D : Ends} (k : te σ H fun x H1 => ∃ a, x = .ref a ∧ (∃ xs, SqL K H1 a xs) ∧ ∃ W : Nat → Nat → L2.St → Hp → Prop, (∃ m, W 0 m σ H1) ∧ ∀ i m σ H, W i m σ H →
      ((Itl K a).stop i H ∧ D.nx σ H) ∨ ((Itl K a).go i H ∧ ∃ N : L2.St → Hp → Prop, (∀ σ' H', N σ' H' → ∃ m', m' < m ∧ W (i + 1) m' σ' H') ∧
        ∀ x H', (Itl K a).yld i H x H' → g x σ H' fun σ2 H2 => tb { D with nx := N, ct := N, bk := D.nx } σ2 H2)) : tFor (iList K te) g tb D σ H := k
theorem w_value {te : TE} {Q : VK} (k : te σ H fun x H1 => ∃ (a D fI : Addr) (v : V), x = .ref a ∧ ErrC K D fI ∧ ErrAt H1 a D v ∧ Q v H1) : tValue K te σ H Q := k
theorem w_isErr {a D fI : Addr} {v c : V} {cv : Value} {Q : VK} (b : Bool) (T : ErrC K D fI) (e : ErrAt H a D v) (kc : ClsV c cv) (kit : PySem.W.kitOne K (.ref D) cv = some b) (k : Q (.bl b) H) : rIsErr K [.ref a, c] H Q :=
  ⟨a, D, fI, v, c, cv, b, rfl, T, e, kc, kit, k⟩
theorem w_repr {q : Addr} {x : V} {d : PyData} {Q : VK} (hd : Dq K q H x d) (ok : okD d = true) (hz : szD d ≤ 1000000) (hp : d.depth ≤ 60) (k : Q (.str d.shown) H) : rRepr K [x] H Q := ⟨q, x, d, rfl, hd, ok, hz, hp, k⟩
theorem w_neSame {x : V} {Q : VK} (h : scal x x = true) (k : Q (.bl false) H) : rNe x x H Q := ⟨h, by rw [decide_eq_true rfl]; exact k⟩
theorem w_eqSame {x : V} {Q : VK} (h : scal x x = true) (k : Q (.bl true) H) : rEq x x H Q := ⟨h, by rw [decide_eq_true rfl]; exact k⟩
theorem dp_bools : ∀ (bs : List Bool), DpAll K H (bs.map V.bl) (bs.map PyData.bool)
  | [] => .nil
  | b :: bs => .cons (.bl b) (dp_bools bs)
theorem w_gtup2 {i j T : Nat} {x y : V} {R : L2.St → Hp → Prop} (h : SqT K H T [x, y]) (k : R ((σ.set i (some x)).set j (some y)) H) : gTup K 2 (gCons (gName i) (gCons (gName j) gNil)) (.ref T) σ H R :=
  ⟨T, [x, y], rfl, h, rfl, x, [y], rfl, y, [], rfl, rfl, k⟩
/-- [e for i in range(n)], e of scalars of the slots -/
theorem w_lcR {lo : Int} {n : Nat} {i : Nat} {te : TE} {f : Nat → V} {Q : VK} (he : ∀ (k : Nat) (H1 : Hp) (R : VK), k < n → R (f k) H1 → te ((wipe σ [i]).set i (some (.int (lo + (k : Nat))))) H1 R) (hn : n ≤ 1000)
    (hw : ∀ k : Nat, wipe ((wipe σ [i]).set i (some (.int (lo + (k : Nat))))) [i] = wipe σ [i]) (k : ∀ D, H D = none → Q (.ref D) (upd H D (.lst ((List.range n).map f)))) :
    ∀ D, H D = none → ∃ W : Nat → Nat → Hp → Prop, (∃ m, W 0 m (upd H D (.lst []))) ∧ ∀ j m H', W j m H' →
      ((Itr lo n).stop j H' ∧ Q (.ref D) H') ∨ ((Itr lo n).go j H' ∧ ∃ Nx : Hp → Prop, (∀ H2, Nx H2 → ∃ m', m' < m ∧ W (j + 1) m' H2) ∧ ∀ x H2, (Itr lo n).yld j H' x H2 → gName i x (wipe σ [i]) H2 fun σ2 H3 => wipe σ2 [i] = wipe σ [i] ∧
        tYes σ2 H3 fun b H4 => if b = true then te σ2 H4 fun y H5 => ∃ acc, H5 D = some (.lst acc) ∧ acc.length < sizeLine ∧ Nx (upd H5 D (.lst (acc ++ [y]))) else Nx H4) := by
  intro D hD
  refine lc_range (Pv := fun j H' => H' = upd H D (.lst ((List.range j).map f))) rfl ?_ ?_
  · rintro j H' hj rfl
    refine ⟨hw j, iteT (B := upd H D (.lst ((List.range j).map f)) = upd H D (.lst ((List.range (j + 1)).map f))) (he j _ _ hj ⟨_, upd_same, ?_, ?_⟩)⟩
    · rw [List.length_map, List.length_range, sizeLine_eq]
      omega
    · rw [upd_upd, List.range_succ, List.map_append]
      rfl
  · rintro H' rfl
    exact k D hD
end

/-! ## sorted, of lists of tuples of texts -/
/-- one list of texts ahead of another -/
def lexS : List Str → List Str → Bool
  | [], [] => false
  | [], _ :: _ => true
  | _ :: _, [] => false
  | x :: xs, y :: ys => if (x == y) = true then lexS xs ys else decide (x.cps.toList < y.cps.toList)
/-- the same, where the end says z -/
def lexZ (z : Bool) : List Str → List Str → Bool
  | x :: xs, y :: ys => if (x == y) = true then lexZ z xs ys else decide (x.cps.toList < y.cps.toList)
  | _, _ => z
theorem lexZ_S : ∀ xs ys : List Str, lexZ (decide (xs.length < ys.length)) xs ys = lexS xs ys
  | [], [] => rfl
  | [], _ :: _ => by simp [lexZ, lexS]
  | _ :: _, [] => by simp [lexZ, lexS]
  | x :: xs, y :: ys => by
    have h := lexZ_S xs ys
    simp only [lexZ, lexS, List.length_cons]
    rw [← h]
    congr 2
    exact decide_eq_decide.mpr (by omega)
/-- a tuple of these texts -/
def IsTS (h : Heap) (v : Value) (xs : List Str) : Prop := ∃ b o us n, v = .ref b ∧ h.get? b = some o ∧ o.cls = .type "tuple" ∧ o.data = .seq us n ∧ Vals (xs.map V.str) us.toList
theorem IsTS.keeps {h h' : Heap} {v : Value} {xs : List Str} (p : IsTS h v xs) (k : ∀ b o, h.get? b = some o → o.cls = .type "tuple" → h'.get? b = some o) : IsTS h' v xs := by
  obtain ⟨b, o, us, n, e, ho, hc, hd, hv⟩ := p
  exact ⟨b, o, us, n, e, k _ _ ho hc, hc, hd, hv⟩
section
variable {prog : Program} {w : World} {A : Around} {s : Shared}
theorem kat_strs {b z : Bool} {Q : Bool → Shared → Prop} : ∀ {xs ys : List Str} {us vs : List Value} {i : Nat}, Vals (xs.map V.str) us → Vals (ys.map V.str) vs → Q (lexZ z xs ys) s → PySem.W.KatLex prog w A b z Q (us.zip vs) i s
  | [], _, _, _, _, h1, _, hq => by
    cases h1
    exact PySem.W.kat_nil hq
  | _ :: _, [], _, _, _, _, h2, hq => by
    cases h2
    rw [List.zip_nil_right]
    exact PySem.W.kat_nil hq
  | x :: xs, y :: ys, _, _, i, h1, h2, hq => by
    cases h1 with
    | cons r1 t1 =>
    cases h2 with
    | cons r2 t2 =>
    obtain ⟨t, rfl⟩ := r1
    obtain ⟨u, rfl⟩ := r2
    rw [List.zip_cons_cons]
    refine PySem.W.kat_cons (SeqAt.EqAt.str_str x t y u prog w _ _ ?_)
    refine PySem.W.kat_go (fun e => ?_) (fun e => ?_)
    · refine PySem.W.kat_yes (kat_strs t1 t2 ?_)
      have e' : lexZ z (x :: xs) (y :: ys) = lexZ z xs ys := by
        show (if (x == y) = true then _ else _) = _
        rw [e, if_pos rfl]
      rw [← e']
      exact hq
    · have e' : lexZ z (x :: xs) (y :: ys) = decide (x.cps.toList < y.cps.toList) := by
        show (if (x == y) = true then _ else _) = _
        rw [e, if_neg Bool.false_ne_true]
      rw [e'] at hq
      refine PySem.W.kat_no ?_
      cases hb : (b && i == 0) with
      | true => exact oneLt_str hq
      | false => exact PySem.W.kat_one _ _ (PyProof.Rows.lt_str hq)
theorem lexAt_strs {xs ys : List Str} {us vs : Array Value} (z : Bool) : ∀ (m i : Nat), i + m = min xs.length ys.length →
    Ob.lexAt (fun j => (xs.getD j default) == (ys.getD j default)) (fun j => decide ((xs.getD j default).cps.toList < (ys.getD j default).cps.toList)) z i m = lexZ z (xs.drop i) (ys.drop i)
  | 0, i, h => by
    rw [Ob.lexAt_zero]
    rcases Nat.lt_or_ge i xs.length with hx | hx
    · have hy : ys.length ≤ i := by omega
      rw [List.drop_of_length_le hy]
      cases xs.drop i <;> rfl
    · rw [List.drop_of_length_le hx]
      rfl
  | m + 1, i, h => by
    have hx : i < xs.length := by omega
    have hy : i < ys.length := by omega
    rw [Ob.lexAt_succ, lexAt_strs (us := us) (vs := vs) z m (i + 1) (by omega), List.drop_eq_getElem_cons hx, List.drop_eq_getElem_cons hy, List.getD_eq_getElem?_getD, List.getD_eq_getElem?_getD, List.getElem?_eq_getElem hx, List.getElem?_eq_getElem hy]
    rfl
theorem vals_size {xs : List Str} {us : Array Value} (h : Vals (xs.map V.str) us.toList) : xs.length = us.size := by
  have := h.length
  rw [List.length_map] at this
  exact this
theorem vals_at {xs : List Str} {us : Array Value} {j : Nat} (h : Vals (xs.map V.str) us.toList) (hj : j < us.size) : ∃ t, us[j] = .str (xs.getD j default) t := by
  have hl : xs.length = us.size := vals_size h
  have hx : j < xs.length := by omega
  have e : (xs.map V.str)[j]? = some (.str xs[j]) := by rw [List.getElem?_map, List.getElem?_eq_getElem hx]; rfl
  obtain ⟨u, h1, t, h2⟩ := h.get e
  rw [Array.getElem?_toList, Array.getElem?_eq_getElem hj] at h1
  refine ⟨t, ?_⟩
  rw [Option.some.inj h1, h2, List.getD_eq_getElem?_getD, List.getElem?_eq_getElem hx]
  rfl
theorem tups_rc {v u : Value} {xs ys : List Str} (h1 : IsTS s.heap v xs) (h2 : IsTS s.heap u ys) (hu : A.units < cLine) : Ob.RcOp .Lt A s v u (lexS xs ys) := by
  obtain ⟨b, o, us, n, rfl, ho, hc, hd, hv⟩ := h1
  obtain ⟨b', o', us', n', rfl, ho', hc', hd', hv'⟩ := h2
  have l1 : _ = us.size := vals_size hv
  have l2 : _ = us'.size := vals_size hv'
  have := Ob.RcOp.tuples_lt (e := fun j => (xs.getD j default) == (ys.getD j default)) (r := fun j => decide ((xs.getD j default).cps.toList < (ys.getD j default).cps.toList)) ⟨o, ho, hc, n, hd⟩ ⟨o', ho', hc', n', hd'⟩ hu (fun j hj hj' => ?_) (fun j hj hj' _ => ?_)
  · rw [lexAt_strs (us := us) (vs := us') _ _ 0 (by omega), List.drop_zero, List.drop_zero, ← l1, ← l2, lexZ_S] at this
    exact this
  · obtain ⟨t, e⟩ := vals_at hv hj
    obtain ⟨t', e'⟩ := vals_at hv' hj'
    rw [e, e']
    exact SeqAt.EqAt.str_str _ _ _ _
  · obtain ⟨t, e⟩ := vals_at hv hj
    obtain ⟨t', e'⟩ := vals_at hv' hj'
    rw [e, e']
    exact fun _ _ _ _ h => PyProof.Rows.lt_str h
theorem tups_tuples {b : Bool} {vs : List Value} {k : Value → List Str} (hp : ∀ v ∈ vs, IsTS s.heap v (k v)) : SrtO.Cmp prog w A s (tuples' b) (fun p => p.1 ∈ vs) (SrtO.lt2 fun v u => lexS (k v) (k u)) := by
  intro p q hm hm'
  obtain ⟨c, o, us, n, e, ho, hc, hd, hv⟩ := hp _ hm
  obtain ⟨c', o', us', n', e', ho', hc', hd', hv'⟩ := hp _ hm'
  show wpAny (model prog w) A (keyLt' (tuples' b) p.1 q.1) (fun r s' => s' = s ∧ r = lexS (k p.1) (k q.1)) (fun _ _ => False) s
  have l1 : _ = us.size := vals_size hv
  have l2 : _ = us'.size := vals_size hv'
  generalize k p.1 = xs at *
  generalize k q.1 = ys at *
  rw [e, e']
  refine PySem.W.kat_lt ho hd ho' hd' (kat_strs hv hv' ⟨rfl, ?_⟩)
  rw [← l1, ← l2, lexZ_S]
theorem tups_general {vs : List Value} {k : Value → List Str} (hu : A.units < cLine) (hp : ∀ v ∈ vs, IsTS s.heap v (k v)) : SrtO.Cmp prog w A s general' (fun p => p.1 ∈ vs) (SrtO.lt2 fun v u => lexS (k v) (k u)) := by
  intro p q hm hm'
  show wpAny (model prog w) A (oneLt' false p.1 q.1) (fun r s' => s' = s ∧ r = lexS (k p.1) (k q.1)) (fun _ _ => False) s
  refine PySem.W.kat_one _ _ (tups_rc (hp _ hm) (hp _ hm') hu prog w _ _ ?_)
  exact ⟨rfl, rfl⟩
theorem tups_one {vs : List Value} {k : Value → List Str} (hu : A.units < cLine) (hp : ∀ v ∈ vs, IsTS s.heap v (k v)) : SrtO.Cmp prog w A s oneType' (fun p => p.1 ∈ vs) (SrtO.lt2 fun v u => lexS (k v) (k u)) := by
  intro p q hm hm'
  obtain ⟨b, o, us, n, e, ho, hc, hd, hv⟩ := hp _ hm
  obtain ⟨b', o', us', n', e', ho', hc', hd', hv'⟩ := hp _ hm'
  show wpAny (model prog w) A (keyLt' oneType' p.1 q.1) (fun r s' => s' = s ∧ r = lexS (k p.1) (k q.1)) (fun _ _ => False) s
  generalize k p.1 = xs at *
  generalize k q.1 = ys at *
  rw [e, e', keyLt'_oneType, oneLt'_eq]
  simp only [if_true]
  have l1 : xs.length = us.size := vals_size hv
  have l2 : ys.length = us'.size := vals_size hv'
  have fin : lexS xs ys = Ob.lexAt (fun j => (xs.getD j default) == (ys.getD j default)) (fun j => decide ((xs.getD j default).cps.toList < (ys.getD j default).cps.toList)) (decide (us.size < us'.size)) 0 (min us.size us'.size) := by
    rw [lexAt_strs (us := us) (vs := us') _ _ 0 (by omega), List.drop_zero, List.drop_zero, ← l1, ← l2, lexZ_S]
  obtain ⟨cls, dd, data, sl⟩ := o
  obtain ⟨cls2, dd2, data2, sl2⟩ := o'
  simp only at hc hd hc' hd'
  subst hc hd hc' hd'
  refine wpAny_bind (wpAny_cRoomFor hu ?_)
  refine wpAny_bind (wpAny_callSpecialIfBound?_slot (T := "tuple") ⟨_, ho, rfl⟩ F.slot_tuple_lt (call_meets F.slot_tuple_lt ⟨_, ho, rfl⟩ F.entry_tuple_lt (F.args_tuple_lt_2 _ _) (Ob.tuple_ltAt b b' us us' n n' dd dd2 sl sl2 (fun j => (xs.getD j default) == (ys.getD j default)) (fun j => decide ((xs.getD j default).cps.toList < (ys.getD j default).cps.toList))) ⟨ho, ho', fun j hj hj' => ?_, fun j hj hj' _ => ?_, ?_⟩))
  · obtain ⟨t, e⟩ := vals_at hv hj
    obtain ⟨t', e'⟩ := vals_at hv' hj'
    rw [e, e']
    exact SeqAt.EqAt.str_str _ _ _ _
  · obtain ⟨t, e⟩ := vals_at hv hj
    obtain ⟨t', e'⟩ := vals_at hv' hj'
    rw [e, e']
    exact fun _ _ _ _ h => PyProof.Rows.lt_str h
  · rw [← fin]
    show wpAny _ _ _ _ _ _
    exact wpAny_truthy_bool ⟨rfl, rfl⟩
theorem firsts_any {M : Model} {E : Value → Shared → Prop} {g : Value → Option Value} : ∀ (vs : List Value) {Q : List (Option Value) → Shared → Prop}, (∀ v ∈ vs, ∃ b o xs n, v = .ref b ∧ s.heap.get? b = some o ∧ o.cls = .type "tuple" ∧ o.data = .seq xs n ∧ xs[0]? = g v) →
    Q (vs.map g) s → wpAny M A (vs.mapM firstOfTuple') Q E s
  | [], Q, _, h => by
    rw [List.mapM_nil]
    exact wpAny_pure h
  | v :: vs, Q, t, h => by
    obtain ⟨a, o, xs, n, rfl, ho, hc, hd, hf⟩ := t v (.head _)
    rw [List.mapM_cons]
    refine wpAny_bind ?_
    rw [PySem.W.kas_first_eq]
    refine wpAny_bind (PySem.W.Looks.here (show PySem.W.Looks M s.heap (typeOf (.ref a)) o.cls from (PySem.W.Looks.ld ho).andThen .now) ?_)
    rw [hc, if_neg (by first | decide | simp)]
    refine wpAny_bind (listItems_at ho hd (wpAny_pure ?_))
    rw [hf]
    exact wpAny_bind (firsts_any vs (Q := fun bs s' => wpAny M A (pure (g (.ref a) :: bs)) Q E s') (fun v hv => t v (.tail _ hv)) (wpAny_pure h))
def firstOf (h : Heap) : Value → Option Value
  | .ref b => (match h.get? b with
    | some o => (match o.data with
      | .seq xs _ => xs[0]?
      | _ => none)
    | none => none)
  | _ => none
theorem firstOf_at {b : Addr} {o : Obj} {xs : Array Value} {n : Nat} {h : Heap} (ho : h.get? b = some o) (hd : o.data = .seq xs n) : firstOf h (.ref b) = xs[0]? := by
  simp only [firstOf, ho, hd]
theorem tups_kind {vs : List Value} {k : Value → List Str} (h0 : 2 ≤ vs.length) (hp : ∀ v ∈ vs, IsTS s.heap v (k v)) : ∃ κ : SortKind, (κ = tuples' true ∨ κ = general' ∨ κ = oneType') ∧
    ∀ (M : Model) (Q : SortKind → Shared → Prop) (E : Value → Shared → Prop), Q κ s → wpAny M A (keyKind' vs.toArray) Q E s := by
  have hg : ∀ v ∈ vs, ∃ b o xs n, v = .ref b ∧ s.heap.get? b = some o ∧ o.cls = .type "tuple" ∧ o.data = .seq xs n ∧ xs[0]? = firstOf s.heap v := fun v hv => by
    obtain ⟨b, o, us, n, rfl, ho, hc, hd, _⟩ := hp v hv
    exact ⟨b, o, us, n, rfl, ho, hc, hd, (firstOf_at ho hd).symm⟩
  have hstr : ∀ v ∈ vs, ∀ f, firstOf s.heap v = some f → ∃ x t, f = .str x t := fun v hv f hf => by
    obtain ⟨b, o, us, n, rfl, ho, hc, hd, hv⟩ := hp v hv
    rw [firstOf_at ho hd] at hf
    have hlt : 0 < us.size := by
      rcases Nat.eq_zero_or_pos us.size with z | z
      · rw [Array.getElem?_eq_none (by omega)] at hf
        cases hf
      · exact z
    obtain ⟨t, e⟩ := vals_at hv hlt
    rw [Array.getElem?_eq_getElem hlt, e] at hf
    exact ⟨_, t, (Option.some.inj hf).symm⟩
  obtain ⟨v₁, rest, rfl⟩ : ∃ v₁ rest, vs = v₁ :: rest := by
    match vs, h0 with
    | v₁ :: rest, _ => exact ⟨v₁, rest, rfl⟩
  by_cases hall : (((v₁ :: rest).map (firstOf s.heap)).toArray.all fun x => x.isSome) = true
  · refine ⟨tuples' true, .inl rfl, fun M Q E h => ?_⟩
    rw [kat_kind_eq, List.mapM_toArray, map_eq_pure_bind]
    refine wpAny_bind (wpAny_bind (firsts_any _ hg (wpAny_pure ?_)))
    rw [if_pos hall]
    refine wpAny_bind (wpAny_rule ?_)
    obtain ⟨fs, hfs, hs⟩ : ∃ fs : List Value, ((v₁ :: rest).map (firstOf s.heap)) = fs.map some ∧ ∀ f ∈ fs, ∃ x t, f = .str x t := by
      have key : ∀ l : List Value, (∀ v ∈ l, v ∈ v₁ :: rest) → (∀ v ∈ l, (firstOf s.heap v).isSome = true) → ∃ fs : List Value, (l.map (firstOf s.heap)) = fs.map some ∧ ∀ f ∈ fs, ∃ x t, f = .str x t := by
        intro l
        induction l with
        | nil => exact fun _ _ => ⟨[], rfl, fun _ h => absurd h (by simp)⟩
        | cons v l ih =>
          intro hm hs
          obtain ⟨fs, e, h1⟩ := ih (fun v h => hm v (.tail _ h)) (fun v h => hs v (.tail _ h))
          obtain ⟨f, hf⟩ := Option.isSome_iff_exists.mp (hs v (.head _))
          refine ⟨f :: fs, by rw [List.map_cons, hf, e, List.map_cons], fun g hgm => ?_⟩
          rcases List.mem_cons.mp hgm with rfl | hgm
          · exact hstr v (hm v (.head _)) _ hf
          · exact h1 g hgm
      refine key _ (fun _ h => h) (fun v hv => ?_)
      simp only [List.all_toArray, List.all_map, List.all_eq_true] at hall
      exact hall v hv
    rw [hfs]
    obtain ⟨f₁, fr, rfl⟩ : ∃ f₁ fr, fs = f₁ :: fr := by
      match fs, hfs with
      | f₁ :: fr, _ => exact ⟨f₁, fr, rfl⟩
      | [], hfs => cases hfs
    have hfm : (((f₁ :: fr).map some).toArray.filterMap id) = (f₁ :: fr).toArray := by simp
    rw [hfm, oneTypeOnly'_eq, List.mapM_toArray, map_eq_pure_bind]
    refine wpAny_bind (wpAny_bind (wpAny_bind (PySem.W.kas_mapM (r := .type "str") _ (fun v hv Q' hq => ?_) (wpAny_pure ?_))))
    · obtain ⟨x, t, rfl⟩ := hs v hv
      exact (PySem.W.Looks.now).here hq
    · have hall2 : ((List.map (fun _ => Value.type "str") (f₁ :: fr)).toArray.all fun x => x == Value.type "str") = true := by
        simp only [List.all_toArray, List.all_map, List.all_eq_true]
        intro _ _
        rfl
      have h0 : (List.map (fun _ => Value.type "str") (f₁ :: fr)).toArray[0]? = some (Value.type "str") := by simp
      rw [h0]
      simp only [hall2, if_true]
      exact wpAny_pure (wpAny_pure h)
  · by_cases h1 : (((v₁ :: rest).map (firstOf s.heap)).toArray[0]?.bind id).isSome = true
    · refine ⟨general', .inr (.inl rfl), fun M Q E h => ?_⟩
      rw [kat_kind_eq, List.mapM_toArray, map_eq_pure_bind]
      refine wpAny_bind (wpAny_bind (firsts_any _ hg (wpAny_pure ?_)))
      rw [if_neg hall, if_pos h1]
      exact wpAny_pure h
    · refine ⟨oneType', .inr (.inr rfl), fun M Q E h => ?_⟩
      rw [kat_kind_eq, List.mapM_toArray, map_eq_pure_bind]
      refine wpAny_bind (wpAny_bind (firsts_any _ hg (wpAny_pure ?_)))
      rw [if_neg hall, if_neg h1]
      rw [oneTypeOnly'_eq, List.mapM_toArray, map_eq_pure_bind]
      refine wpAny_bind (wpAny_bind (wpAny_bind (PySem.W.kas_mapM (r := .type "tuple") _ (fun v hv Q' hq => ?_) (wpAny_pure ?_))))
      · obtain ⟨b, o, us, n, rfl, ho, hc, hd, _⟩ := hp v hv
        refine PySem.W.Looks.here (show PySem.W.Looks M s.heap (typeOf (.ref b)) o.cls from (PySem.W.Looks.ld ho).andThen .now) ?_
        rw [hc]
        exact hq
      · have hall2 : ((List.map (fun _ => Value.type "tuple") (v₁ :: rest)).toArray.all fun x => x == Value.type "tuple") = true := by
          simp only [List.all_toArray, List.all_map, List.all_eq_true]
          intro _ _
          rfl
        have h0 : (List.map (fun _ => Value.type "tuple") (v₁ :: rest)).toArray[0]? = some (Value.type "tuple") := by simp
        rw [h0]
        simp only [hall2, if_true]
        exact wpAny_pure (wpAny_pure h)
end
/-! ### the order -/
theorem str_ext {x y : Str} (h : x.cps.toList = y.cps.toList) : x = y := by
  cases x
  cases y
  simp at h
  rw [h]
theorem lexS_irr : ∀ xs : List Str, lexS xs xs = false
  | [] => rfl
  | x :: xs => by
    have e : (x == x) = true := beq_self_eq_true x
    simp only [lexS, e, if_true]
    exact lexS_irr xs
theorem lexS_cons {x y : Str} {xs ys : List Str} : lexS (x :: xs) (y :: ys) = true ↔ (x = y ∧ lexS xs ys = true) ∨ (x.cps.toList < y.cps.toList) := by
  simp only [lexS]
  by_cases e : x = y
  · subst e
    rw [if_pos (beq_self_eq_true x)]
    exact ⟨fun h => .inl ⟨rfl, h⟩, fun h => h.elim (fun h => h.2) fun h => absurd h (List.lt_irrefl _)⟩
  · rw [if_neg (by simpa using e), decide_eq_true_eq]
    exact ⟨.inr, fun h => h.elim (fun h => absurd h.1 e) id⟩
theorem lexS_tr : ∀ {xs ys zs : List Str}, lexS xs ys = true → lexS ys zs = true → lexS xs zs = true
  | [], [], _, h, _ => nomatch h
  | [], _ :: _, [], _, h => nomatch h
  | [], _ :: _, _ :: _, _, _ => rfl
  | _ :: _, [], _, h, _ => nomatch h
  | _ :: _, _ :: _, [], _, h => nomatch h
  | x :: xs, y :: ys, z :: zs, h1, h2 => by
    rw [lexS_cons] at h1 h2 ⊢
    rcases h1 with ⟨rfl, h1⟩ | h1
    · rcases h2 with ⟨rfl, h2⟩ | h2
      · exact .inl ⟨rfl, lexS_tr h1 h2⟩
      · exact .inr h2
    · rcases h2 with ⟨rfl, h2⟩ | h2
      · exact .inr h1
      · exact .inr (List.lt_trans h1 h2)
theorem lexS_tri : ∀ {xs ys : List Str}, lexS xs ys = false → lexS ys xs = false → xs = ys
  | [], [], _, _ => rfl
  | [], _ :: _, h, _ => nomatch h
  | _ :: _, [], _, h => nomatch h
  | x :: xs, y :: ys, h1, h2 => by
    have n1 : ¬ lexS (x :: xs) (y :: ys) = true := by rw [h1]; exact Bool.false_ne_true
    have n2 : ¬ lexS (y :: ys) (x :: xs) = true := by rw [h2]; exact Bool.false_ne_true
    rw [lexS_cons] at n1 n2
    have e : x = y := str_ext (List.le_antisymm (List.not_lt.mp fun h => n2 (.inr h)) (List.not_lt.mp fun h => n1 (.inr h)))
    subst e
    have q1 : lexS xs ys = false := Bool.eq_false_iff.mpr fun h => n1 (.inl ⟨rfl, h⟩)
    have q2 : lexS ys xs = false := Bool.eq_false_iff.mpr fun h => n2 (.inl ⟨rfl, h⟩)
    rw [lexS_tri q1 q2]
theorem lexS_swo {α : Type} (k : α → List Str) : SrtO.Swo fun v u => lexS (k v) (k u) := by
  refine ⟨fun x y h => ?_, fun x y z h1 h2 => ?_⟩
  · cases e : lexS (k y) (k x) with
    | false => rfl
    | true =>
      have := lexS_tr h e
      rw [lexS_irr] at this
      cases this
  · cases e : lexS (k z) (k x) with
    | false => rfl
    | true =>
      cases e2 : lexS (k x) (k y) with
      | true =>
        have := lexS_tr e e2
        rw [h2] at this
        cases this
      | false =>
        have := lexS_tri e2 h1
        rw [this, h2] at e
        cases e
/-- lists of texts, sorted -/
def sortTS (l : List (List Str)) : List (List Str) := l.mergeSort fun a b => !lexS b a
theorem sortTS_perm (l : List (List Str)) : (sortTS l).Perm l := List.mergeSort_perm _ _
theorem sortTS_up (l : List (List Str)) : (sortTS l).Pairwise fun a b => lexS b a = false := by
  have h := List.pairwise_mergeSort (le := fun a b => !lexS b a) (fun a b c h1 h2 => ?_) (fun a b => ?_) l
  · exact h.imp fun h => by simpa using h
  · simp only [Bool.not_eq_true'] at h1 h2 ⊢
    exact (lexS_swo id).tr a b c h1 h2
  · simp only [Bool.or_eq_true, Bool.not_eq_true']
    cases e : lexS b a with
    | false => exact .inl rfl
    | true => exact .inr ((lexS_swo id).asym b a e)
theorem sortTS_uniq {l m : List (List Str)} (h : m.Pairwise fun a b => lexS b a = false) (p : m.Perm l) : m = sortTS l :=
  (p.trans (sortTS_perm l).symm).eq_of_pairwise (fun a b _ _ h1 h2 => lexS_tri h2 h1) h (sortTS_up l)
theorem sortTS_congr {l m : List (List Str)} (p : l.Perm m) : sortTS l = sortTS m := sortTS_uniq (sortTS_up l) ((sortTS_perm l).trans p)
theorem sortTS_filter (l : List (List Str)) (f : List Str → Bool) : (sortTS l).filter f = sortTS (l.filter f) := sortTS_uniq ((sortTS_up l).filter f) ((sortTS_perm l).filter f)
/-! ### as a rule of the layer -/
/-- sorted(xs), xs a list of tuples of texts (k says which) -/
def rSortedTS (K : PySem.W.Frag) : List V → Hp → VK → Prop := fun vs H Q => ∃ (a : Addr) (xs : List V) (k : V → List Str), vs = [V.ref a] ∧ SqL K H a xs ∧ (∀ x ∈ xs, ∃ t, x = V.ref t ∧ SqT K H t ((k x).map V.str)) ∧
  ∀ ys p, ys.Perm xs → ys.map k = sortTS (xs.map k) → H p = none → Q (.ref p) (upd H p (.lst ys))
section
variable {prog : Program} {w : World} {A : Around} {E : Value → Shared → Prop} {s : Shared}
theorem tups_sortable {a : Addr} {vs : List Value} {k : Value → List Str} (h0 : 2 ≤ vs.length) (hu : A.units < cLine) (hp : ∀ v ∈ vs, IsTS s.heap v (k v)) (ha : ∀ o, s.heap.get? a = some o → o.cls ≠ .type "tuple") :
    SrtO.SortableO prog w A s a vs fun v u => lexS (k v) (k u) := by
  intro h' keep
  have hp' : ∀ v ∈ vs, IsTS h' v (k v) := fun v hm => (hp v hm).keeps fun b o e c => keep b o (fun z => by subst z; exact ha o e c) e
  obtain ⟨κ, hκ, hk⟩ := tups_kind (s := { s with heap := h' }) (A := A) h0 hp'
  refine ⟨κ, fun Q E hq => hk _ _ _ hq, ?_⟩
  rcases hκ with rfl | rfl | rfl
  · exact tups_tuples hp'
  · exact tups_general hu hp'
  · exact tups_one hu hp'
end
section
variable {X : Cx}
theorem cr_sortedTS (hu : X.A.units + 64 < cLine) : CallR X (.builtin "sorted") (rSortedTS X.K) := by
  intro pins s σ H vs us Q I r h
  obtain ⟨a, xs, k, rfl, hs, hx, q⟩ := h
  obtain ⟨its, rv, hl, hz⟩ := I.list hs
  obtain ⟨u, rfl, ru⟩ := vals1 r
  obtain rfl : u = Value.ref a := ru
  obtain ⟨e1, e2⟩ := refs_back rv fun x m => by
    obtain ⟨t, e, _⟩ := hx x m
    exact ⟨t, e⟩
  have hp : ∀ v ∈ its, IsTS s.heap v (k (backV v)) := fun v hv => by
    obtain ⟨t, rfl⟩ := e2 v hv
    have hm : V.ref t ∈ xs := by rw [e1]; exact List.mem_map.mpr ⟨_, hv, rfl⟩
    obtain ⟨t', e, ht⟩ := hx _ hm
    cases e
    obtain ⟨us, rv2, ⟨o, ho, hc, n, hd⟩, _⟩ := I.tuple ht
    exact ⟨t, o, _, n, rfl, ho, hc, hd, rv2⟩
  refine SrtO.sorted_ord (lexS_swo fun u => k (backV u)) hl.isList (by rw [← rv.length]; exact hz) (fun h2 h₁ a₁ ha kk => ?_) fun out h1 h2 => ?_
  · refine tups_sortable (s := { s with heap := h₁ }) h2 (by show X.A.in1.in1.units < cLine; rw [Around.in1_units, Around.in1_units]; omega) (fun v hm => (hp v hm).keeps fun b o e _ => (kk b o e).2) fun o e => ?_
    have e' : some o = some (seqObj "list" its.toArray 0) := e.symm.trans ha
    cases e'
    intro c
    exact absurd (Value.type.inj c) (by decide)
  · have h3 : ∀ u ∈ out, ∃ a, u = Value.ref a := fun u hu => e2 u (h2.perm.mem_iff.mp hu)
    have hpm : (out.map backV).Perm xs := by
      rw [e1]
      exact h2.perm.map backV
    have hd := Nat.le_succ s.heap.objs.size
    obtain ⟨n, hn⟩ := sortedAll_at s.heap its out.toArray
    refine ⟨.ref _, upd H _ (.lst (out.map backV)), I.laid (t' := s.toks) (fun b o e => sortedAll_old e) hd ⟨?_, out, n, vals_back h3, hn⟩, rfl, q _ _ hpm ?_ (I.hok.fresh hd)⟩
    · rw [hpm.length_eq]
      exact hz
    · refine sortTS_uniq ?_ (hpm.map k)
      rw [List.map_map]
      exact List.pairwise_map.mpr h1
end
/-- a tuple of these texts stands at x -/
def LotAt (K : PySem.W.Frag) (H : Hp) (x : V) (l : List Str) : Prop := ∃ a, x = .ref a ∧ SqT K H a (l.map V.str)
theorem strs_inj {l m : List Str} (h : l.map V.str = m.map V.str) : l = m := by
  induction l generalizing m with
  | nil =>
    cases m with
    | nil => rfl
    | cons _ _ => cases h
  | cons a l ih =>
    cases m with
    | nil => cases h
    | cons b m =>
      rw [List.map_cons, List.map_cons] at h
      injection h with h1 h2
      injection h1 with h1
      rw [h1, ih h2]
open Classical in
/-- the texts of the tuple at x -/
noncomputable def textsAt (K : PySem.W.Frag) (H : Hp) (x : V) : List Str := if h : ∃ l, LotAt K H x l then h.choose else []
theorem paired_of {α β : Type} {R : α → β → Prop} {k : α → β} : ∀ {l : List α}, (∀ x ∈ l, R x (k x)) → Paired R l (l.map k)
  | [], _ => .nil
  | x :: l, h => .cons (h x (.head _)) (paired_of fun y hy => h y (.tail _ hy))
/-- sorted(xs), xs a list of tuples of texts, by what they are -/
def rSortedTL (K : PySem.W.Frag) : List V → Hp → VK → Prop := fun vs H Q => ∃ (a : Addr) (xs : List V) (ls : List (List Str)), vs = [V.ref a] ∧ SqL K H a xs ∧ Paired (LotAt K H) xs ls ∧
  ∀ ys p, Paired (LotAt K H) ys (sortTS ls) → H p = none → Q (.ref p) (upd H p (.lst ys))
section
variable {X : Cx}
theorem cr_sortedTL (hu : X.A.units + 64 < cLine) : CallR X (.builtin "sorted") (rSortedTL X.K) := by
  intro pins s σ H vs us Q I r h
  obtain ⟨a, xs, ls, rfl, hs, hp, q⟩ := h
  have key : ∀ x l, LotAt X.K H x l → textsAt X.K H x = l := fun x l hl => by
    have h : ∃ l, LotAt X.K H x l := ⟨l, hl⟩
    unfold textsAt
    rw [dif_pos h]
    obtain ⟨b, e, h1⟩ := h.choose_spec
    obtain ⟨b', e', h2⟩ := hl
    rw [e] at e'
    cases e'
    exact strs_inj (I.tuple_inj h1 h2)
  have em : ∀ {xs : List V} {ls : List (List Str)}, Paired (LotAt X.K H) xs ls → xs.map (textsAt X.K H) = ls := fun {xs ls} hp => by
    induction hp with
    | nil => rfl
    | cons h1 h2 ih => rw [List.map_cons, key _ _ h1, ih]
  have mem : ∀ {xs : List V} {ls : List (List Str)}, Paired (LotAt X.K H) xs ls → ∀ x ∈ xs, LotAt X.K H x (textsAt X.K H x) := fun {xs ls} hp => by
    induction hp with
    | nil => exact fun _ h => absurd h (by simp)
    | cons h1 h2 ih =>
      intro x hx
      rcases List.mem_cons.mp hx with rfl | hx
      · rw [key _ _ h1]
        exact h1
      · exact ih x hx
  refine cr_sortedTS hu pins s σ H _ us Q I r ⟨a, xs, textsAt X.K H, rfl, hs, fun x hx => mem hp x hx, fun ys p hpm he hf => q ys p ?_ hf⟩
  rw [em hp] at he
  rw [← he]
  exact paired_of fun y hy => mem hp y (hpm.mem_iff.mp hy)
end

/-! ## lots as the bits of a number -/
def maskOf : List Str → List Str → Nat
  | [], _ => 0
  | d :: ds, lot => (if d ∈ lot then 1 else 0) + 2 * maskOf ds lot
def lotOf : List Str → Nat → List Str
  | [], _ => []
  | d :: ds, m => if m.testBit 0 = true then d :: lotOf ds (m / 2) else lotOf ds (m / 2)
theorem bit0 (c : Prop) [Decidable c] (x : Nat) : ((if c then 1 else 0) + 2 * x).testBit 0 = decide c := by
  by_cases h : c <;> simp [h, Nat.testBit_zero]
theorem bitS (c : Prop) [Decidable c] (x : Nat) : ((if c then 1 else 0) + 2 * x) / 2 = x := by
  by_cases h : c <;> simp only [h, if_true, if_false] <;> omega
theorem lot_mask (lot : List Str) : ∀ ds : List Str, lotOf ds (maskOf ds lot) = ds.filter (fun d => decide (d ∈ lot))
  | [] => rfl
  | d :: ds => by
    simp only [lotOf, maskOf, bit0, bitS, lot_mask lot ds, List.filter_cons]
theorem mask_lt (lot : List Str) : ∀ ds : List Str, maskOf ds lot < 2 ^ ds.length
  | [] => by simp [maskOf]
  | d :: ds => by
    have := mask_lt lot ds
    simp only [maskOf, List.length_cons, Nat.pow_succ]
    split <;> omega
theorem lot_sub (m : Nat) : ∀ (ds : List Str), ∀ x ∈ lotOf ds m, x ∈ ds := by
  intro ds
  induction ds generalizing m with
  | nil => exact fun _ h => h
  | cons d ds ih =>
    intro x hx
    simp only [lotOf] at hx
    split at hx
    · rcases List.mem_cons.mp hx with rfl | hx
      · exact .head _
      · exact .tail _ (ih _ x hx)
    · exact .tail _ (ih _ x hx)
theorem mask_congr {l l' : List Str} : ∀ {ds : List Str}, (∀ d ∈ ds, d ∈ l ↔ d ∈ l') → maskOf ds l = maskOf ds l'
  | [], _ => rfl
  | d :: ds, h => by
    simp only [maskOf]
    rw [mask_congr fun x hx => h x (.tail _ hx)]
    congr 1
    by_cases e : d ∈ l
    · rw [if_pos e, if_pos ((h d (.head _)).mp e)]
    · rw [if_neg e, if_neg fun z => e ((h d (.head _)).mpr z)]
theorem mask_lot : ∀ {ds : List Str} {m : Nat}, ds.Nodup → m < 2 ^ ds.length → maskOf ds (lotOf ds m) = m
  | [], m, _, h => by
    simp at h
    simp [maskOf, h]
  | d :: ds, m, hn, h => by
    obtain ⟨hd, hn⟩ := List.nodup_cons.mp hn
    simp only [List.length_cons, Nat.pow_succ] at h
    have ih := mask_lot (m := m / 2) hn (by omega)
    have nd : d ∉ lotOf ds (m / 2) := fun z => hd (lot_sub _ _ _ z)
    simp only [maskOf, lotOf]
    have e1 : ∀ l, maskOf ds (if m.testBit 0 = true then d :: l else l) = maskOf ds l := fun l => by
      split
      · refine mask_congr fun x hx => ?_
        have : x ≠ d := fun z => hd (z ▸ hx)
        simp [this]
      · rfl
    rw [e1, ih]
    by_cases b : m.testBit 0 = true
    · simp only [b, if_true, List.mem_cons, true_or]
      have : m % 2 = 1 := by simpa [Nat.testBit_zero] using b
      omega
    · simp only [b, if_false]
      rw [if_neg (by simpa [b] using nd)]
      have : m % 2 = 0 := by
        have : ¬ m % 2 = 1 := by simpa [Nat.testBit_zero] using b
        omega
      omega
theorem mask_bit {lot : List Str} : ∀ {ds : List Str} {i : Nat}, (maskOf ds lot).testBit i = true ↔ ∃ d, ds[i]? = some d ∧ d ∈ lot
  | [], i => by simp [maskOf]
  | d :: ds, 0 => by
    simp only [maskOf, bit0]
    simp
  | d :: ds, i + 1 => by
    simp only [maskOf, Nat.testBit_succ, bitS]
    rw [mask_bit]
    simp
theorem lot_mem {ds : List Str} {m : Nat} : ∀ {x : Str}, x ∈ lotOf ds m ↔ ∃ i, ds[i]? = some x ∧ m.testBit i = true := by
  induction ds generalizing m with
  | nil => simp [lotOf]
  | cons d ds ih =>
    intro x
    simp only [lotOf]
    constructor
    · intro h
      split at h
      · rename_i b
        rcases List.mem_cons.mp h with rfl | h
        · exact ⟨0, rfl, b⟩
        · obtain ⟨i, h1, h2⟩ := ih.mp h
          exact ⟨i + 1, by simpa using h1, by rw [Nat.testBit_succ]; exact h2⟩
      · obtain ⟨i, h1, h2⟩ := ih.mp h
        exact ⟨i + 1, by simpa using h1, by rw [Nat.testBit_succ]; exact h2⟩
    · rintro ⟨i, h1, h2⟩
      match i, h1, h2 with
      | 0, h1, h2 =>
        rw [if_pos h2]
        simp at h1
        rw [h1]
        exact .head _
      | i + 1, h1, h2 =>
        have : x ∈ lotOf ds (m / 2) := ih.mpr ⟨i, by simpa using h1, by rw [Nat.testBit_succ] at h2; exact h2⟩
        split
        · exact .tail _ this
        · exact this
/-- a within b, bit by bit -/
def Sub (a b : Nat) : Prop := a &&& b = a
theorem sub_iff {a b : Nat} : Sub a b ↔ ∀ i, a.testBit i = true → b.testBit i = true := by
  unfold Sub
  constructor
  · intro h i hi
    have := congrArg (fun z => z.testBit i) h
    simp only [Nat.testBit_and, hi, Bool.true_and] at this
    exact this
  · intro h
    refine Nat.eq_of_testBit_eq fun i => ?_
    rw [Nat.testBit_and]
    cases e : a.testBit i with
    | false => rfl
    | true => rw [h i e]; rfl
theorem Sub.refl (a : Nat) : Sub a a := Nat.and_self a
theorem Sub.trans {a b c : Nat} (h : Sub a b) (k : Sub b c) : Sub a c := sub_iff.mpr fun i hi => sub_iff.mp k i (sub_iff.mp h i hi)
theorem Sub.anti {a b : Nat} (h : Sub a b) (k : Sub b a) : a = b := by
  refine Nat.eq_of_testBit_eq fun i => ?_
  cases e : a.testBit i with
  | true => exact (sub_iff.mp h i e).symm
  | false =>
    cases e2 : b.testBit i with
    | false => rfl
    | true =>
      rw [sub_iff.mp k i e2] at e
      cases e
theorem Sub.le {a b : Nat} (h : Sub a b) : a ≤ b := by
  rw [← h]
  exact Nat.and_le_right
theorem Sub.or {a b c : Nat} (h : Sub a c) (k : Sub b c) : Sub (a ||| b) c := sub_iff.mpr fun i hi => by
  rw [Nat.testBit_or, Bool.or_eq_true] at hi
  exact hi.elim (sub_iff.mp h i) (sub_iff.mp k i)
theorem Sub.orl (a b : Nat) : Sub a (a ||| b) := sub_iff.mpr fun i hi => by rw [Nat.testBit_or, hi]; rfl
theorem Sub.orr (a b : Nat) : Sub b (a ||| b) := sub_iff.mpr fun i hi => by rw [Nat.testBit_or, hi, Bool.or_true]
/-- no step leads out of m -/
def Closed (st : List (Nat × Nat)) (m : Nat) : Prop := ∀ p ∈ st, Sub p.1 m → Sub p.2 m
/-- e is what m comes to -/
structure IsEnd (st : List (Nat × Nat)) (m e : Nat) : Prop where
  up : Sub m e
  cl : Closed st e
  least : ∀ c, Sub m c → Closed st c → Sub e c
theorem IsEnd.uniq {st : List (Nat × Nat)} {m e e' : Nat} (h : IsEnd st m e) (k : IsEnd st m e') : e = e' := (h.least _ k.up k.cl).anti (k.least _ h.up h.cl)

/-! ## enumerate of a tuple -/
abbrev enumObj (it : Addr) : Obj := { cls := .type "enumerate", data := .fields #[.none, .bool false, .ref it, rawInt 0, .none, .none] }
theorem en_meets {v : Value} {ob : Obj} {Ho : Heap → Prop} (B : Begins v ob Ho) : Meets (Builtin.«enumerate.__new__» ⟨[.type "enumerate", v], []⟩) (fun _ R s => Ho s.heap ∧
    R (.ok (.ret (.ref (s.heap.push ob).objs.size))) { s with heap := (s.heap.push ob).push (enumObj s.heap.objs.size) }) :=
  .of_wp fun P w A R s ⟨hb, hr⟩ => by
    obtain ⟨h0, g0, d0, k0, o0⟩ := s
    have hs := sub_enumerate
    have qi : ∀ {A' : Around} {E : Value → Shared → Prop} {Q : Value → Shared → Prop}, Q (.ref h0.objs.size) ⟨h0.push ob, g0, d0, k0, o0⟩ → wpAny (model P w) A' (pyIter v) Q E ⟨h0, g0, d0, k0, o0⟩ :=
      fun z => B.iter P w _ _ ⟨h0, g0, d0, k0, o0⟩ _ hb z
    wp_walk using qi
    refine wpAny_stack_any fun _ => wpAny_pure ?_
    split
    case h_1 c _ _ _ _ _ =>
      cases (c == Value.type "enumerate") <;> (wp_walk using qi; exact ⟨_, rfl, hr⟩)
    case h_2 => wp_walk using qi; exact ⟨_, rfl, hr⟩
theorem en_call {P : Program} {w : World} {A : Around} {E : Value → Shared → Prop} {s : Shared} {v : Value} {ob : Obj} {Ho : Heap → Prop} {Q : Value → Shared → Prop} (B : Begins v ob Ho) (hb : Ho s.heap)
    (k : ∀ h', IsEnum h' (s.heap.objs.size + 1) s.heap.objs.size 0 .none → h'.get? s.heap.objs.size = some ob → (∀ b o, s.heap.get? b = some o → h'.get? b = some o) → Q (.ref (s.heap.objs.size + 1)) { s with heap := h' }) :
    wpAny (model P w) A (call (.type "enumerate") [v]) Q E s := by
  refine callType_new F.called_enumerate (by decide) (F.typeCall_enumerate_1 _) (F.newCall_enumerate_1 _) (fun z => F.args_object_init_2 z _) F.entry_enumerate_new (en_meets B) ⟨hb, ?_⟩
  have sz : (s.heap.push ob).objs.size = s.heap.objs.size + 1 := Heap.size_push ..
  show _ ∧ _
  rw [sz]
  have he : ((s.heap.push ob).push (enumObj s.heap.objs.size)).get? (s.heap.objs.size + 1) = some (enumObj s.heap.objs.size) := by
    have := Heap.get?_push_size (s.heap.push ob) (o := enumObj s.heap.objs.size) rfl
    rw [sz] at this
    exact this
  exact ⟨⟨_, he, rfl⟩, k _ he (Heap.get?_push_of_some _ (Heap.get?_push_size _ B.free)) fun b o x => Heap.get?_push_of_some _ (Heap.get?_push_of_some _ x)⟩
/-- the tuple at a as it stands at each turn, each item in a new pair -/
def IteT (K : PySem.W.Frag) (a : Addr) : It :=
  ⟨fun i H => ∃ (xs : List V) (x : V), SqT K H a xs ∧ xs[i]? = some x, fun i H v H' => ∃ T x, v = .ref T ∧ H T = none ∧ H' = upd H T (.tup [.int (i : Nat), x]) ∧ ∀ xs, SqT K H a xs → xs[i]? = some x, fun i H => ∃ xs : List V, SqT K H a xs ∧ xs.length = i⟩
theorem turn_enT {P : Program} {w : World} {K : PySem.W.Frag} {elts : List Expr} {kk : Nat} {tpos : Pos} (a e it : Addr) (hea : e ≠ a) (hia : it ≠ a) :
    Turn P w K (.Tuple elts kk tpos) (IteT K a) [e, it] e (fun i h => (∃ old, IsEnum h e it ((i : Nat) : Int) old) ∧ h.IsTupleIter it a i ∧ e ≠ it) where
  mem := List.mem_cons_self
  obj := by
    rintro i h ⟨⟨old, he⟩, ⟨o, ho, hc, hd⟩, _⟩ b hb
    rcases List.mem_cons.mp hb with rfl | hb
    · exact ⟨_, he, fun _ q => nomatch q⟩
    · rw [List.mem_singleton.mp hb]
      exact ⟨o, ho, fun _ q => by rw [hd] at q; cases q⟩
  keep := by
    rintro i h h' ⟨⟨old, he⟩, hi, hne⟩ k
    exact ⟨⟨old, k e (.head _) _ he⟩, hi.at fun o q => k it (.tail _ (.head _)) o q, hne⟩
  item := by
    intro X hP hw hK hc i pins s σ H E I hf st hg
    subst hP hw hK
    obtain ⟨⟨old, he⟩, hit, hne⟩ := st
    obtain ⟨xs, x, hq, hx⟩ := hg
    obtain ⟨its, rv, p, _⟩ := I.tuple hq
    have p' : s.heap.IsTuple a its.toArray := p
    obtain ⟨u, hu, ru⟩ := rv.get hx
    have hel : e < s.heap.objs.size := Heap.lt_size he
    have hil : it < s.heap.objs.size := by obtain ⟨_, q, _⟩ := hit; exact Heap.lt_size q
    have hlt : i < its.toArray.size := (Array.getElem?_eq_some_iff.mp (show its.toArray[i]? = some u by simpa using hu)).1
    have hef : e ∉ [it, a] := fun m => by
      rcases List.mem_cons.mp m with m | m
      · exact hne m
      · exact hea (List.mem_singleton.mp m)
    refine wpAny_pyNext_enum_itemD (Draws.tuple (A := X.A.in1) (I.ok.hd hc) it a (Ne.symm hia) its.toArray) he ⟨hit, p'⟩ hlt hne hef fun x' h' tk hx' ho hst' hT hsz hk => ?_
    obtain ⟨hit', _⟩ := hst'
    have ex : x' = u := by
      have : its.toArray[i]? = some u := by simpa using hu
      rw [this] at hx'
      exact (Option.some.inj hx').symm
    subst ex
    refine ⟨_, rfl, wpAny_letOwnedTupleGo_enum (s := { s with heap := h', toks := tk + 1 }) ho fun h2 he2 sb => ?_⟩
    have hT2 := (sb.2 _ (Nat.ne_of_gt hel)).trans hT
    have new : ObjOk X.prog X.w (upd H s.heap.objs.size (.tup [.int (i : Nat), x])) h2 s.heap.objs.size (.tup [.int (i : Nat), x]) :=
      ⟨by show 2 ≤ sizeLine; decide, _, .cons ⟨_, rfl⟩ (.cons ru .nil), ⟨_, hT2, rfl, _, rfl⟩⟩
    have ne2 : ∀ {b : Addr}, b ∉ [e, it] → b ≠ e ∧ b ≠ it := fun hb => ⟨fun z => hb (by simp [z]), fun z => hb (by simp [z])⟩
    have I1 : Inv X pins σ (upd H s.heap.objs.size (.tup [.int (i : Nat), x])) { s with heap := h2, toks := tk + 1 } :=
      I.turnedNew (ch := [e, it]) (fun b ob hb q => (sb.2 b (ne2 hb).1).trans (hk b ob (ne2 hb).1 (ne2 hb).2 q)) hf (Nat.le_refl _) new
    refine ⟨.ref s.heap.objs.size, _, I1, rfl, ⟨_, x, rfl, I.hok.fresh (Nat.le_refl _), rfl, fun ys hy => by rw [I.tuple_inj hy hq]; exact hx⟩, ⟨⟨x', ?_⟩, hit'.at fun o q => (sb.2 it (Ne.symm hne)).trans q, hne⟩, fun b hb => ?_⟩
    · rw [show ((i + 1 : Nat) : Int) = (i : Int) + 1 by omega]
      exact he2
    · have hb' : b < s.heap.objs.size := by
        rcases List.mem_cons.mp hb with rfl | hb
        · exact hel
        · rw [List.mem_singleton.mp hb]
          exact hil
      rw [upd_ne (Nat.ne_of_lt hb')]
      exact (hf b hb).1
  done := by
    intro X hP hw hK hc i pins s σ H E I hf st hg
    subst hP hw hK
    obtain ⟨⟨old, he⟩, hit, hne⟩ := st
    obtain ⟨xs, hq, hx⟩ := hg
    obtain ⟨its, rv, p, _⟩ := I.tuple hq
    have p' : s.heap.IsTuple a its.toArray := p
    obtain ⟨f0, f1, f2, f3, f4, f5⟩ := hf it (.tail _ (.head _))
    have hl := rv.length
    have D := Draws.tuple (prog := X.prog) (w := X.w) (A := X.A.in1) (I.ok.hd hc) it a (Ne.symm hia) its.toArray
    have en : its.toArray.size = i := by
      rw [List.size_toArray, ← hl]
      exact hx
    rw [en] at D
    exact wpAny_pyNext_enum_endD D he ⟨hit, p'⟩ fun h' eb => ⟨rfl, I.turned (t' := s.toks) (fun b o hb q => eb b o hb q) f0 f1 f3 f4 f5⟩
  self := fun _ _ _ _ _ st h => wpAny_pyIter_enum st.1.choose_spec h
/-- enumerate(x), x a tuple -/
def iEnumT (K : PySem.W.Frag) (ta : TA) : TI := fun σ H R => ta σ H fun vs H1 => ∃ a xs, vs = [.ref a] ∧ SqT K H1 a xs ∧ R (IteT K a) H1
theorem pi_enumT {X : Cx} {e : Expr} {ta : TA} {p pos tpos : Pos} {elts : List Expr} {kk : Nat} (hg : Gl X "enumerate") (hm : X.mg "enumerate" = none) (ha : PA X [e] ta) (hs : starEach [e] X.env = [(false, eval e X.env)] := by rfl) :
    PI X (.Tuple elts kk tpos) (.Call (.Name "enumerate" p) [e] [] pos) (iEnumT X.K ta) := by
  refine ⟨fun pins s σ H R I h => ?_⟩
  refine Call_ (ld_blt I hg hm boot_enumerate (PyProof.Rows.callWith_type1 (thn (ha.run pos pins s σ H _ I h) fun us s1 ⟨vs, H1, I1, r1, a, xs, ex, hq, q⟩ => ?_) hs rfl))
  subst ex
  cases r1 with
  | cons r rr =>
  cases rr
  cases r
  obtain ⟨its, rv, p', _⟩ := I1.tuple hq
  have pt : s1.heap.IsTuple a its.toArray := p'
  have hal : a < s1.heap.objs.size := by obtain ⟨_, z, _⟩ := pt; exact Heap.lt_size z
  refine en_call (begins_tuple a its.toArray) pt fun h' he hit hk => wpAny_pyIter_enum he ?_
  have I2 : Inv X pins σ H1 { s1 with heap := h' } := I1.kept (t' := s1.toks) hk
  refine ⟨s1.heap.objs.size + 1, [s1.heap.objs.size + 1, s1.heap.objs.size], _, _, H1, rfl, I2, turn_enT a (s1.heap.objs.size + 1) s1.heap.objs.size (Nat.ne_of_gt (Nat.lt_succ_of_lt hal)) (Nat.ne_of_gt hal), ⟨⟨.none, he⟩, ⟨_, hit, rfl, rfl⟩, Nat.succ_ne_self _⟩, fun b hb => ?_, q⟩
  have hle : s1.heap.objs.size ≤ b := by
    rcases List.mem_cons.mp hb with rfl | hb
    · exact Nat.le_add_right _ _
    · rw [List.mem_singleton.mp hb]
      exact Nat.le_refl _
  exact I1.fpOk hle (I1.hok.fresh hle)

/-! ## comprehensions over tuples, pairs with their places too -/
theorem Same.upd2 {H H' : Hp} {D : Addr} {o : HO} (s : Same H H') (h : H D = none) : Same H (upd H' D o) := fun b u e => by
  rw [upd_ne (ne_of_none e h)]
  exact s b u e
section
variable {K : PySem.W.Frag} {σ : L2.St} {H1 : Hp}
theorem lc_enT {a : Addr} {xs : List V} {g : TG} {tt : TT} {te : TE} {vs : List Nat} {D : Addr} {Qd : Hp → Prop} (Pv : Nat → Hp → Prop) (h0 : Pv 0 (upd H1 D (.lst []))) (hl : ∀ i H, Pv i H → SqT K H a xs)
    (hs : ∀ i x H T, xs[i]? = some x → Pv i H → H T = none → g (.ref T) (wipe σ vs) (upd H T (.tup [.int (i : Nat), x])) fun σ2 H2 => wipe σ2 vs = wipe σ vs ∧ tt σ2 H2 fun b H3 =>
      if b = true then te σ2 H3 fun y H4 => ∃ acc, H4 D = some (.lst acc) ∧ acc.length < sizeLine ∧ Pv (i + 1) (upd H4 D (.lst (acc ++ [y]))) else Pv (i + 1) H3) (hd : ∀ H, Pv xs.length H → Qd H) :
    ∃ W : Nat → Nat → Hp → Prop, (∃ m, W 0 m (upd H1 D (.lst []))) ∧ ∀ i m H, W i m H →
      ((IteT K a).stop i H ∧ Qd H) ∨ ((IteT K a).go i H ∧ ∃ Nx : Hp → Prop, (∀ H', Nx H' → ∃ m', m' < m ∧ W (i + 1) m' H') ∧ ∀ x H', (IteT K a).yld i H x H' → g x (wipe σ vs) H' fun σ2 H2 => wipe σ2 vs = wipe σ vs ∧ tt σ2 H2 fun b H3 =>
        if b = true then te σ2 H3 fun y H4 => ∃ acc, H4 D = some (.lst acc) ∧ acc.length < sizeLine ∧ Nx (upd H4 D (.lst (acc ++ [y]))) else Nx H3) := by
  refine ⟨fun i m H => m = xs.length - i ∧ i ≤ xs.length ∧ Pv i H, ⟨xs.length, by simp, Nat.zero_le _, h0⟩, ?_⟩
  rintro i m H ⟨rfl, hi, p⟩
  have q := hl i H p
  rcases Nat.lt_or_ge i xs.length with hlt | hge
  · refine .inr ⟨⟨xs, xs[i], q, List.getElem?_eq_getElem hlt⟩, Pv (i + 1), fun H' p' => ⟨xs.length - (i + 1), by omega, rfl, hlt, p'⟩, ?_⟩
    rintro v H' ⟨T, x, rfl, hT, rfl, hx⟩
    exact hs i x H T (hx xs q) p hT
  · obtain rfl : i = xs.length := Nat.le_antisymm hi hge
    exact .inl ⟨⟨xs, q, rfl⟩, hd H p⟩
/-- what [f(n, x) for n, x in enumerate(xs) if c(n, x)] tells -/
def lcE (c : Nat → V → Bool) (f : Nat → V → V) : List V → Nat → List V
  | [], _ => []
  | x :: xs, n => if c n x = true then f n x :: lcE c f xs (n + 1) else lcE c f xs (n + 1)
theorem lcE_snoc {c : Nat → V → Bool} {f : Nat → V → V} {x : V} : ∀ {xs : List V} {n : Nat}, lcE c f (xs ++ [x]) n = lcE c f xs n ++ (if c (n + xs.length) x = true then [f (n + xs.length) x] else [])
  | [], n => by
    simp only [List.nil_append, lcE, List.length_nil, Nat.add_zero]
  | y :: xs, n => by
    have ih := lcE_snoc (c := c) (f := f) (x := x) (xs := xs) (n := n + 1)
    have e : n + 1 + xs.length = n + (y :: xs).length := by simp only [List.length_cons]; omega
    simp only [List.cons_append, lcE]
    rw [ih, e]
    split <;> rfl
theorem lcE_len {c : Nat → V → Bool} {f : Nat → V → V} : ∀ {xs : List V} {n : Nat}, (lcE c f xs n).length ≤ xs.length
  | [], _ => Nat.le_refl _
  | x :: xs, n => by
    have := lcE_len (c := c) (f := f) (xs := xs) (n := n + 1)
    simp only [lcE]
    split
    · simp only [List.length_cons]; omega
    · simp only [List.length_cons]; omega
theorem w_lcE {k i j : Nat} {a : Addr} {xs : List V} {tt : TT} {te : TE} {vs : List Nat} {Q : VK} (c : Nat → V → Bool) (f : Nat → V → V) (hk : σ[k]? = some (some (.ref a))) (hq : SqT K H1 a xs) (hn : xs.length ≤ 1000)
    (hw : ∀ n x, wipe (((wipe σ vs).set i (some (.int (n : Nat)))).set j (some x)) vs = wipe σ vs)
    (ht : ∀ (n : Nat) x H' R, xs[n]? = some x → Same H1 H' → R (c n x) H' → tt (((wipe σ vs).set i (some (.int (n : Nat)))).set j (some x)) H' R)
    (he : ∀ (n : Nat) x H' (R : VK), xs[n]? = some x → c n x = true → Same H1 H' → R (f n x) H' → te (((wipe σ vs).set i (some (.int (n : Nat)))).set j (some x)) H' R)
    (go : ∀ D H', H1 D = none → Same H1 H' → H' D = some (.lst (lcE c f xs 0)) → Q (.ref D) H') :
    tLc (iEnumT K (tCons (tVar k) tNil)) (gTup K 2 (gCons (gName i) (gCons (gName j) gNil))) tt te vs σ H1 Q := by
  refine ⟨_, hk, a, xs, rfl, hq, fun D hD => ?_⟩
  refine lc_enT (xs := xs) (fun n H' => Same H1 H' ∧ H' D = some (.lst (lcE c f (xs.take n) 0))) ⟨Same.upd2 (Same.refl _) hD, upd_same⟩ (fun _ _ p => Same.sqT p.1 hq) ?_ ?_
  · rintro n x H' T hx ⟨s, e⟩ hT
    have hlt := (List.getElem?_eq_some_iff.mp hx).1
    have et : xs.take (n + 1) = xs.take n ++ [x] := by rw [List.take_succ, hx]; rfl
    have el : (xs.take n).length = n := by rw [List.length_take]; omega
    refine w_gtup2 (SqT.of upd_same) ⟨hw n x, ?_⟩
    have s2 : Same H1 (upd H' T (.tup [.int (n : Nat), x])) := same_upd s hT
    have e2 : (upd H' T (.tup [.int (n : Nat), x])) D = some (.lst (lcE c f (xs.take n) 0)) := upd_get hT e
    refine ht n x _ _ hx s2 ?_
    refine iteB (fun hc => ?_) (fun hc => ?_)
    · refine he n x _ _ hx hc s2 ⟨_, e2, ?_, Same.upd2 s2 hD, ?_⟩
      · have := lcE_len (c := c) (f := f) (xs := xs.take n) (n := 0)
        rw [sizeLine_eq]
        omega
      · rw [upd_same, et, lcE_snoc, Nat.zero_add, el, if_pos hc]
    · refine ⟨s2, ?_⟩
      rw [e2, et, lcE_snoc, Nat.zero_add, el, if_neg (by rw [hc]; exact Bool.false_ne_true), List.append_nil]
  · rintro H' ⟨s, e⟩
    rw [List.take_length] at e
    exact go D H' hD s e
end
/-! ## small readings -/
theorem int_and (a b : Nat) : Builtin.bitAnd (a : Int) (b : Int) = ((a &&& b : Nat) : Int) := by
  rw [PyProof.Rows.bitAnd_pp (Int.natCast_nonneg a) (Int.natCast_nonneg b), Int.toNat_natCast, Int.toNat_natCast]
theorem int_or (a b : Nat) : Builtin.bitOr (a : Int) (b : Int) = ((a ||| b : Nat) : Int) := by
  rw [Bits.bitOr_pp (Int.natCast_nonneg a) (Int.natCast_nonneg b), Int.toNat_natCast, Int.toNat_natCast]
theorem int_pow (n : Nat) : (1 : Int) * 2 ^ ((n : Int)).toNat = ((2 ^ n : Nat) : Int) := by
  rw [Int.one_mul, Int.toNat_natCast]
  exact (Int.natCast_pow 2 n).symm

/-! ## comprehensions whose items are made by calls -/
section
variable {K : PySem.W.Frag} {σ : L2.St} {H1 : Hp}
/-- what is known of the n-th item stays known -/
def Keeps (F : Nat → V → Hp → Prop) : Prop := ∀ n y H H', F n y H → Same H H' → F n y H'
theorem keep_acc {F : Nat → V → Hp → Prop} (kp : Keeps F) {ys : List V} {y : V} {H H' : Hp} {m : Nat} (h : ys.length = m ∧ ∀ n y, ys[n]? = some y → F n y H) (s : ∀ n y, F n y H → F n y H') (hy : F m y H') : (ys ++ [y]).length = m + 1 ∧ ∀ n z, (ys ++ [y])[n]? = some z → F n z H' := by
  refine ⟨by rw [List.length_append, h.1]; rfl, fun n z hz => ?_⟩
  rcases Nat.lt_or_ge n ys.length with hlt | hge
  · rw [List.getElem?_append_left hlt] at hz
    exact s n z (h.2 n z hz)
  · rw [List.getElem?_append_right hge] at hz
    match e : n - ys.length, hz with
    | 0, hz =>
      have en : n = m := by omega
      rw [en]
      simp at hz
      rw [← hz]
      exact hy
    | k + 1, hz => simp at hz
theorem gpair_mono {i j : Nat} {x : V} {H : Hp} {R R' : L2.St → Hp → Prop} (h : ∀ σ2 H2, R σ2 H2 → R' σ2 H2) (k : gTup K 2 (gCons (gName i) (gCons (gName j) gNil)) x σ H R) : gTup K 2 (gCons (gName i) (gCons (gName j) gNil)) x σ H R' := by
  obtain ⟨T, xs, rfl, hs, hl, y, r, rfl, z, r', rfl, rfl, k⟩ := k
  exact ⟨T, _, rfl, hs, hl, y, _, rfl, z, _, rfl, rfl, h _ _ k⟩
theorem w_lcTup {ti : TE} {g : TG} {te : TE} {vs : List Nat} {Q : VK} {a : Addr} {xs : List V} (F : Nat → V → Hp → Prop) (kp : Keeps F) (gmono : ∀ {x H} {R R' : L2.St → Hp → Prop}, (∀ σ2 H2, R σ2 H2 → R' σ2 H2) → g x (wipe σ vs) H R → g x (wipe σ vs) H R') (hq : SqT K H1 a xs) (hn : xs.length ≤ 100000)
    (hi : ∀ R : VK, R (.ref a) H1 → ti σ H1 R)
    (kd : ∀ n y H D ys zs, F n y H → H1 D = none → H D = some (.lst ys) → F n y (upd H D (.lst zs)))
    (he : ∀ (n : Nat) x H' (R : VK), xs[n]? = some x → Same H1 H' → (∀ y H'', Same H' H'' → F n y H'' → R y H'') → g x (wipe σ vs) H' fun σ2 H2 => wipe σ2 vs = wipe σ vs ∧ te σ2 H2 R)
    (go : ∀ D H' ys, H1 D = none → Same H1 H' → H' D = some (.lst ys) → ys.length = xs.length → (∀ n y, ys[n]? = some y → F n y H') → Q (.ref D) H') :
    tLc (iTup K ti) g tYes te vs σ H1 Q := by
  refine hi _ ⟨a, rfl, ⟨_, hq⟩, fun D hD => ?_⟩
  refine lc_tup (xs := xs) (fun n H' => Same H1 H' ∧ ∃ ys, H' D = some (.lst ys) ∧ ys.length = n ∧ ∀ m y, ys[m]? = some y → F m y H') ⟨Same.upd2 (Same.refl _) hD, [], upd_same, rfl, fun m y h => by simp at h⟩ (fun _ _ _ p => Same.sqT p.1 hq) ?_ ?_
  · rintro n x H' hx ⟨s, ys, e, hl, hF⟩
    have hlt := (List.getElem?_eq_some_iff.mp hx).1
    have q := he n x H' (fun y H5 => ∃ acc, H5 D = some (.lst acc) ∧ acc.length < sizeLine ∧ Same H1 (upd H5 D (.lst (acc ++ [y]))) ∧ ∃ ys, (upd H5 D (.lst (acc ++ [y]))) D = some (.lst ys) ∧ ys.length = n + 1 ∧ ∀ m z, ys[m]? = some z → F m z (upd H5 D (.lst (acc ++ [y])))) hx s fun y H'' s2 hy => by
      have e2 := s2 _ _ e
      refine ⟨ys, e2, by rw [sizeLine_eq, hl]; omega, Same.upd2 (s.trans s2) hD, ys ++ [y], upd_same, ?_⟩
      exact keep_acc kp ⟨hl, hF⟩ (fun m z h => kd m z H'' D ys _ (kp _ _ _ _ h s2) hD e2) (kd _ _ _ _ ys _ hy hD e2)
    exact gmono (fun σ2 H2 h => ⟨h.1, iteT (B := Same H1 H2 ∧ ∃ ys, H2 D = some (.lst ys) ∧ ys.length = n + 1 ∧ ∀ m y, ys[m]? = some y → F m y H2) h.2⟩) q
  · rintro H' ⟨s, ys, e, hl, hF⟩
    exact go D H' ys hD s e hl hF
/-- over range(z) -/
theorem w_lcRgT {ti : TA} {i : Nat} {te : TE} {vs : List Nat} {Q : VK} {z : Int} (F : Nat → V → Hp → Prop) (kp : Keeps F) (h1 : 0 ≤ z) (h2 : z ≤ 100000)
    (hi : ∀ R : List V → Hp → Prop, R [.int z] H1 → ti σ H1 R)
    (kd : ∀ n y H D ys zs, F n y H → H1 D = none → H D = some (.lst ys) → F n y (upd H D (.lst zs)))
    (hw : ∀ n : Nat, wipe ((wipe σ vs).set i (some (.int (n : Nat)))) vs = wipe σ vs)
    (he : ∀ (n : Nat) H' (R : VK), (n : Int) < z → Same H1 H' → (∀ y H'', Same H' H'' → F n y H'' → R y H'') → te ((wipe σ vs).set i (some (.int (n : Nat)))) H' R)
    (go : ∀ D H' ys, H1 D = none → Same H1 H' → H' D = some (.lst ys) → (ys.length : Int) = z → (∀ n y, ys[n]? = some y → F n y H') → Q (.ref D) H') :
    tLc (iRng1 ti) (gName i) tYes te vs σ H1 Q := by
  refine hi _ ⟨z, rfl, by omega, by omega, fun D hD => ?_⟩
  refine lc_range (lo := 0) (n := z.toNat) (Pv := fun n H' => Same H1 H' ∧ ∃ ys, H' D = some (.lst ys) ∧ ys.length = n ∧ ∀ m y, ys[m]? = some y → F m y H') ⟨Same.upd2 (Same.refl _) hD, [], upd_same, rfl, fun m y h => by simp at h⟩ ?_ ?_
  · rintro n H' hlt ⟨s, ys, e, hl, hF⟩
    have e0 : (0 : Int) + (n : Nat) = (n : Nat) := by omega
    rw [e0]
    refine ⟨hw n, iteT (B := Same H1 H' ∧ ∃ ys, H' D = some (.lst ys) ∧ ys.length = n + 1 ∧ ∀ m y, ys[m]? = some y → F m y H') (he n H' _ (by omega) s fun y H'' s2 hy => ⟨ys, s2 _ _ e, ?_, Same.upd2 (s.trans s2) hD, ys ++ [y], upd_same, ?_⟩)⟩
    · rw [sizeLine_eq, hl]
      omega
    · have e2 := s2 _ _ e
      exact keep_acc kp ⟨hl, hF⟩ (fun m z h => kd m z H'' D ys _ (kp _ _ _ _ h s2) hD e2) (kd _ _ _ _ ys _ hy hD e2)
  · rintro H' ⟨s, ys, e, hl, hF⟩
    exact go D H' ys hD s e (by omega) hF
/-- what [f(n, x) for n, x in enumerate(xs) if c(n, x)] tells, of any kind -/
def lcG {β : Type} (c : Nat → V → Bool) (f : Nat → V → β) : List V → Nat → List β
  | [], _ => []
  | x :: xs, n => if c n x = true then f n x :: lcG c f xs (n + 1) else lcG c f xs (n + 1)
theorem lcG_snoc {β : Type} {c : Nat → V → Bool} {f : Nat → V → β} {x : V} : ∀ {xs : List V} {n : Nat}, lcG c f (xs ++ [x]) n = lcG c f xs n ++ (if c (n + xs.length) x = true then [f (n + xs.length) x] else [])
  | [], n => by
    simp only [List.nil_append, lcG, List.length_nil, Nat.add_zero]
  | y :: xs, n => by
    have ih := lcG_snoc (c := c) (f := f) (x := x) (xs := xs) (n := n + 1)
    have e : n + 1 + xs.length = n + (y :: xs).length := by simp only [List.length_cons]; omega
    simp only [List.cons_append, lcG]
    rw [ih, e]
    split <;> rfl
theorem lcG_len {β : Type} {c : Nat → V → Bool} {f : Nat → V → β} : ∀ {xs : List V} {n : Nat}, (lcG c f xs n).length ≤ xs.length
  | [], _ => Nat.le_refl _
  | x :: xs, n => by
    have := lcG_len (c := c) (f := f) (xs := xs) (n := n + 1)
    simp only [lcG]
    split
    · simp only [List.length_cons]; omega
    · simp only [List.length_cons]; omega
theorem w_lcEF {β : Type} {k i j : Nat} {a : Addr} {xs : List V} {tt : TT} {te : TE} {vs : List Nat} {Q : VK} (c : Nat → V → Bool) (f : Nat → V → β) (F : V → β → Hp → Prop) (kp : ∀ y b H H', F y b H → Same H H' → F y b H')
    (kd : ∀ y b H D ys zs, F y b H → H1 D = none → H D = some (.lst ys) → F y b (upd H D (.lst zs)))
    (hk : σ[k]? = some (some (.ref a))) (hq : SqT K H1 a xs) (hn : xs.length ≤ 100000)
    (hw : ∀ n x, wipe (((wipe σ vs).set i (some (.int (n : Nat)))).set j (some x)) vs = wipe σ vs)
    (ht : ∀ (n : Nat) x H' R, xs[n]? = some x → Same H1 H' → R (c n x) H' → tt (((wipe σ vs).set i (some (.int (n : Nat)))).set j (some x)) H' R)
    (he : ∀ (n : Nat) x H' (R : VK), xs[n]? = some x → c n x = true → Same H1 H' → (∀ y H'', Same H' H'' → F y (f n x) H'' → R y H'') → te (((wipe σ vs).set i (some (.int (n : Nat)))).set j (some x)) H' R)
    (go : ∀ D H' ys, H1 D = none → Same H1 H' → H' D = some (.lst ys) → Paired (fun y b => F y b H') ys (lcG c f xs 0) → Q (.ref D) H') :
    tLc (iEnumT K (tCons (tVar k) tNil)) (gTup K 2 (gCons (gName i) (gCons (gName j) gNil))) tt te vs σ H1 Q := by
  refine ⟨_, hk, a, xs, rfl, hq, fun D hD => ?_⟩
  refine lc_enT (xs := xs) (fun n H' => Same H1 H' ∧ ∃ ys, H' D = some (.lst ys) ∧ Paired (fun y b => F y b H') ys (lcG c f (xs.take n) 0)) ⟨Same.upd2 (Same.refl _) hD, [], upd_same, .nil⟩ (fun _ _ p => Same.sqT p.1 hq) ?_ ?_
  · rintro n x H' T hx ⟨s, ys, e, hp⟩ hT
    have hlt := (List.getElem?_eq_some_iff.mp hx).1
    have et : xs.take (n + 1) = xs.take n ++ [x] := by rw [List.take_succ, hx]; rfl
    have el : (xs.take n).length = n := by rw [List.length_take]; omega
    refine w_gtup2 (SqT.of upd_same) ⟨hw n x, ?_⟩
    have s0 : Same H' (upd H' T (.tup [.int (n : Nat), x])) := same_upd (Same.refl _) hT
    have s2 := s.trans s0
    have e2 := s0 _ _ e
    refine ht n x _ _ hx s2 ?_
    refine iteB (fun hc => ?_) (fun hc => ?_)
    · refine he n x _ _ hx hc s2 fun y H'' s3 hy => ⟨ys, s3 _ _ e2, ?_, Same.upd2 (s2.trans s3) hD, ys ++ [y], upd_same, ?_⟩
      · have := lcG_len (c := c) (f := f) (xs := xs.take n) (n := 0)
        have := Paired.length hp
        rw [sizeLine_eq]
        omega
      · rw [et, lcG_snoc, Nat.zero_add, el, if_pos hc]
        have e3 := s3 _ _ e2
        exact Wk.Paired.app (Paired.mapP hp fun y b h => kd _ _ _ D ys _ (kp _ _ _ _ h (s0.trans s3)) hD e3) (.cons (kd _ _ _ D ys _ hy hD e3) .nil)
    · refine ⟨s2, ys, e2, ?_⟩
      rw [et, lcG_snoc, Nat.zero_add, el, if_neg (by rw [hc]; exact Bool.false_ne_true), List.append_nil]
      exact Paired.mapP hp fun y b h => kp _ _ _ _ h s0
  · rintro H' ⟨s, ys, e, hp⟩
    rw [List.take_length] at hp
    exact go D H' ys hD s e hp
end

/-! ## dict(pairs) whose keys are tuples of texts; walked by items() -/
def mergeT (kvs more : List (List Key × V)) : List (List Key × V) := more.foldl (fun acc kv => putK acc kv.1 kv.2) kvs
theorem mergeT_len : ∀ (more kvs : List (List Key × V)), (mergeT kvs more).length ≤ kvs.length + more.length
  | [], kvs => Nat.le_refl _
  | p :: r, kvs => by
    have h1 := mergeT_len r (putK kvs p.1 p.2)
    have h2 := length_putK kvs p.1 p.2
    show (mergeT (putK kvs p.1 p.2) r).length ≤ _
    rw [List.length_cons]; omega
theorem KT_merge {H : Hp} : ∀ {more : List (List Key × V)} {rs : List (List Key × Addr × Value)}, KT H more rs → ∀ {kvs : List (List Key × V)} {xs : List (List Key × Addr × Value)}, KT H kvs xs → KT H (mergeT kvs more) (storedAllH xs rs)
  | _, _, .nil, _, _, r => r
  | _, _, .cons (a := p) (b := q) h t, kvs, xs, r => by
    obtain ⟨h1, h2, h3⟩ := h
    have := KT.put r p.1 h2 h3
    show KT H (mergeT (putK kvs p.1 p.2) _) (storedAllH (storedH xs q.1 q.2.1 q.2.2) _)
    rw [← h1]
    exact KT_merge t this
section
variable {X : Cx}
theorem pairsT_of {pins : List (Addr × Obj)} {σ : L2.St} {H : Hp} {s : Shared} (I : Inv X pins σ H s) : ∀ {ps : List Addr} {kvs : List (List Key × V)}, Paired (fun p kv => ∃ b, H b = some (.tup (kv.1.map kV)) ∧ SqT X.K H p [.ref b, kv.2]) ps kvs →
    ∃ prs : List (List Key × Addr × Value), KT H kvs prs ∧ prs.length = ps.length ∧ ∀ (j : Nat) (q : List Key × Addr × Value), prs[j]? = some q → ∃ b, ps[j]? = some b ∧ s.heap.IsTuple b #[.ref q.2.1, q.2.2]
  | _, _, .nil => ⟨[], .nil, rfl, fun j q e => by simp at e⟩
  | _, _, .cons (a := p) (b := kv) h t => by
    obtain ⟨prs, r, hl, hp⟩ := pairsT_of I t
    obtain ⟨b, hb, h⟩ := h
    obtain ⟨its, rv, ht, _⟩ := I.tuple h
    have ht' : s.heap.IsTuple p its.toArray := ht
    obtain ⟨u, y, ei, ru, ry⟩ := vals2 rv
    subst ei
    obtain rfl : u = .ref b := ru
    refine ⟨(kv.1, b, y) :: prs, .cons ⟨rfl, hb, ry⟩ r, by rw [List.length_cons, List.length_cons, hl], fun j q e => ?_⟩
    cases j with
    | zero =>
      have e' : (kv.1, b, y) = q := Option.some.inj e
      subst e'
      exact ⟨p, rfl, ht'⟩
    | succ j =>
      obtain ⟨b, e1, e2⟩ := hp j q (by simpa using e)
      exact ⟨b, by simpa using e1, e2⟩
/-- dict(xs) of a list of pairs (key, value), the keys tuples of ints and texts -/
theorem call_dictT (hcalm : X.calm = true) (hu : X.A.units + 64 < cLine) : CallR X (.type "dict") (fun xs H Q => ∃ (a : Addr) (ps : List Addr) (kvs : List (List Key × V)), xs = [.ref a] ∧ SqL X.K H a (ps.map V.ref) ∧ Paired (fun p kv => ∃ b, H b = some (.tup (kv.1.map kV)) ∧ SqT X.K H p [.ref b, kv.2]) ps kvs ∧
    ∀ p, H p = none → Q (.ref p) (upd H p (.dT (mergeT [] kvs)))) := by
  intro pins s σ H xs us Q I r q
  obtain ⟨a, ps, kvs, ex, hq, hp, q⟩ := q
  subst ex
  obtain ⟨u, eu, rx⟩ := vals1 r
  subst eu
  cases rx
  obtain ⟨its, rv, pl, hz⟩ := I.list hq
  have ei := refs_at rv
  subst ei
  rw [List.length_map] at hz
  obtain ⟨prs, rel, hl, hpr⟩ := pairsT_of I hp
  obtain ⟨o, n, ho, hc, hd, hdat⟩ := pl
  have hkeys : ∀ x ∈ prs, (tupleKind (mixKind X.prog X.w)).is s.heap x.1 x.2.1 := by
    intro x hx
    have all : ∀ {l : List (List Key × V)} {m : List (List Key × Addr × Value)}, KT H l m → ∀ x ∈ m, H x.2.1 = some (.tup (x.1.map kV)) := by
      intro l m q
      induction q with
      | nil => exact fun x h => nomatch h
      | @cons p' q' ps qs h t ih =>
        intro x hx
        rcases List.mem_cons.mp hx with rfl | hx
        · rw [← h.1]
          exact h.2.1
        · exact ih x hx
    exact key_of I.hok (all rel x hx)
  refine call_dict_pairsH (knd := tupleKind (mixKind X.prog X.w)) (ps := prs) (PairArg.list a (ps.map Value.ref).toArray (fun j => ps.getD j 0) (prs.map fun q => (Value.ref q.2.1, q.2.2))) (I.ok.hd hcalm) (by show X.A.units + 1 + 1 < cLine; omega) ⟨⟨o, n, ho, hc, hd, hdat⟩, ?_, ?_⟩ ⟨by rw [List.length_map], ?_⟩ ?_ (by rw [List.length_map, hl]; exact hz) fun h' tk hd' k => ?_
  · simp [hl]
  · intro j k v e
    rw [List.getElem?_map] at e
    cases e' : prs[j]? with
    | none =>
      rw [e'] at e
      cases e
    | some q =>
      rw [e'] at e
      obtain ⟨b, e1, e2⟩ := hpr j q e'
      have e3 := Option.some.inj e
      injection e3 with e3 e4
      subst e3 e4
      have eb : ps.getD j 0 = b := by rw [List.getD_eq_getElem?_getD, e1]; rfl
      show (List.map Value.ref ps).toArray[j]? = some (Value.ref (ps.getD j 0)) ∧ PairAt s.heap (ps.getD j 0) _ _
      rw [eb]
      exact ⟨by simp [e1], .inl e2⟩
  · intro j key v e
    have e : (prs.map fun q => (Value.ref q.2.1, q.2.2))[j]? = some (key, v) := e
    rw [List.getElem?_map] at e
    cases e' : prs[j]? with
    | none =>
      rw [e'] at e
      cases e
    | some q =>
      rw [e'] at e
      have e3 := Option.some.inj e
      injection e3 with e3 e4
      subst e3 e4
      exact ⟨q.1, q.2.1, rfl, rfl⟩
  · intro h' hk x hx
    obtain ⟨o', its', n', h1, h2, h3⟩ := hkeys x hx
    exact ⟨o', its', n', hk _ _ (Nat.ne_of_lt (Heap.lt_size h1)) (by simp) h1, h2, h3⟩
  · have hm : (s.heap.objs.size == sysModules) = false := beq_eq_false_iff_ne.mpr (Nat.ne_of_gt I.big)
    have hfr : H s.heap.objs.size = none := I.hok.fresh (Nat.le_refl _)
    have hlen : (mergeT [] kvs).length ≤ sizeLine := by
      refine Nat.le_trans (mergeT_len kvs []) ?_
      rw [List.length_nil, Nat.zero_add, Paired.length rel, hl]
      exact hz
    obtain ⟨o', es, ep, g1, g2, g3, g4, _, g6⟩ := hd'
    exact ⟨.ref s.heap.objs.size, upd H s.heap.objs.size (.dT (mergeT [] kvs)), I.laid (t' := tk) (fun b o e => k b o (by simp) e) (Nat.le_refl _)
      (show ObjOk X.prog X.w _ _ _ (.dT (mergeT [] kvs)) from ⟨hlen, hm, storedAllH [] prs, KT.keeps (KT_merge rel .nil) fun b ys e => by rw [upd_ne (ne_of_none e hfr)]; exact e, o', es, ep, g1, g2, g3, g4, g6⟩), rfl, q _ hfr⟩
end

/-! ### for k, v in d.items(), the keys of the locked d tuples -/
theorem frzT2 {X : Cx} {pins : List (Addr × Obj)} {σ : L2.St} {H : Hp} {s : Shared} {d : Addr} {o : Obj} {kvs : List (List Key × V)} (I : Inv X pins σ H s) (h : H d = some (.frz o (.dT kvs))) :
    (d == sysModules) = false ∧ ∃ (es : Array DictEntry) (ep : Nat), s.heap.DictRaw d es ep ∧ o.data = .dict es ep ∧ es.size = kvs.length ∧
      ∀ (i : Nat) (k : List Key) (v : V), kvs[i]? = some (k, v) → ∃ (en : DictEntry) (q : Addr), es[i]? = some en ∧ en.key = .ref q ∧ H q = some (.tup (k.map kV)) ∧ RelV v en.val := by
  obtain ⟨hd, z, hs, xs, pr, o', es, ep, ho, hx, hdt, he, _⟩ := I.hok d _ h
  rw [hd] at ho
  cases ho
  refine ⟨hs, es, ep, ⟨o, hd, hx, hdt⟩, hdt, ?_, fun i k v e => ?_⟩
  · have l1 : es.size = xs.length := size_of_entries he
    have l2 : kvs.length = xs.length := Paired.length pr
    omega
  · have pair : ∀ {l : List (List Key × V)} {m : List (List Key × Addr × Value)}, KT H l m → ∀ (i : Nat) p, l[i]? = some p → ∃ q, m[i]? = some q ∧ H q.2.1 = some (.tup (p.1.map kV)) ∧ RelV p.2 q.2.2 := by
      intro l m q
      induction q with
      | nil => exact fun i p e => by simp at e
      | @cons p' q' ps qs h t ih =>
        intro i p e
        cases i with
        | zero =>
          obtain rfl := Option.some.inj e
          exact ⟨q', rfl, h.2.1, h.2.2⟩
        | succ i =>
          obtain ⟨q, e1, e2⟩ := ih i p (by simpa using e)
          exact ⟨q, by simpa using e1, e2⟩
    obtain ⟨b, hb, e2, e3⟩ := pair pr i _ e
    have q := entry_at he i
    rw [hb] at q
    exact ⟨_, b.2.1, q, rfl, e2, e3⟩
/-- the pairs, each a new tuple -/
def ItiT (d : Addr) (o : Obj) (kvs : List (List Key × V)) : It :=
  ⟨fun i H => H d = some (.frz o (.dT kvs)) ∧ i < kvs.length, fun i H x H' => ∃ T k v q, kvs[i]? = some (k, v) ∧ x = .ref T ∧ H T = none ∧ H q = some (.tup (k.map kV)) ∧ H' = upd H T (.tup [.ref q, v]), fun i H => H d = some (.frz o (.dT kvs)) ∧ kvs.length ≤ i⟩
section
variable {P : Program} {w : World} {K : PySem.W.Frag} {d : Addr} {o : Obj} {es : Array DictEntry} {ep : Nat}
theorem turn_itemsT {kvs : List (List Key × V)} {elts : List Expr} {kk : Nat} {tpos : Pos} (it : Addr) (hod : o.data = .dict es ep) :
    Turn P w K (.Tuple elts kk tpos) (ItiT d o kvs) [it] it (fun i h => ∃ ok ov, IsItemIter h it d i kvs.length ep ok ov) where
  mem := by simp
  obj := fun i h st b hb => by
    have e : b = it := by simpa using hb
    subst e
    obtain ⟨ok, ov, e⟩ := st
    exact ⟨_, e, fun v z => nomatch z⟩
  keep := fun i h h' st k => let ⟨ok, ov, e⟩ := st; ⟨ok, ov, k it (by simp) _ e⟩
  item := by
    intro X hP hw hK hc i pins s σ H E I hf st hg
    subst hP hw hK
    obtain ⟨hd, hi⟩ := hg
    obtain ⟨hs, es', ep', hraw, hdt, hsz, ent⟩ := frzT2 I hd
    obtain ⟨rfl, rfl⟩ := dict_ep hod hdt
    obtain ⟨⟨k, v⟩, hkv⟩ : ∃ p, kvs[i]? = some p := ⟨kvs[i], List.getElem?_eq_getElem hi⟩
    obtain ⟨en, q, hen, hkey, hq, rv⟩ := ent i k v hkv
    obtain ⟨ok, ov, he⟩ := st
    rw [← hsz] at he
    have hlt : it < s.heap.objs.size := Heap.lt_size he
    have hi' : i < es'.size := by omega
    have een : es'[i] = en := by
      rw [Array.getElem?_eq_getElem hi'] at hen
      exact Option.some.inj hen
    refine wpAny_pyNext_items_item_raw he hraw hi' fun h' ho hT hz hk => ?_
    rw [een, hkey] at hT
    refine ⟨_, rfl, wpAny_letOwnedTupleGo_items (s := { s with heap := h' }) ho fun h'' he' sb => ?_⟩
    have hT2 := (sb.2 _ (Nat.ne_of_gt hlt)).trans hT
    have new : ObjOk X.prog X.w (upd H s.heap.objs.size (.tup [.ref q, v])) h'' s.heap.objs.size (.tup [.ref q, v]) :=
      ⟨by show 2 ≤ sizeLine; decide, [.ref q, en.val], .cons rfl (.cons rv .nil), ⟨_, hT2, rfl, _, rfl⟩⟩
    have I1 : Inv X pins σ (upd H s.heap.objs.size (.tup [.ref q, v])) { s with heap := h'' } :=
      I.turnedNew (t' := s.toks) (ch := [it]) (fun b ob hb e => (sb.2 b (by simpa using hb)).trans (hk b ob (by simpa using hb) e)) hf (Nat.le_refl _) new
    refine ⟨.ref s.heap.objs.size, _, I1, rfl, ⟨_, k, v, q, hkv, rfl, I.hok.fresh (Nat.le_refl _), hq, rfl⟩, ⟨es'[i].key, es'[i].val, ?_⟩, fun b hb => ?_⟩
    · rw [← hsz]; exact he'
    · have e : b = it := by simpa using hb
      rw [e, upd_ne (Nat.ne_of_lt hlt)]
      exact (hf it (by simp)).1
  done := by
    intro X hP hw hK hc i pins s σ H E I hf st hg
    subst hP hw hK
    obtain ⟨hd, hi⟩ := hg
    obtain ⟨f0, f1, f2, f3, f4, f5⟩ := hf it (by simp)
    obtain ⟨hs, es', ep', hraw, hdt, hsz, ent⟩ := frzT2 I hd
    obtain ⟨rfl, rfl⟩ := dict_ep hod hdt
    obtain ⟨ok, ov, he⟩ := st
    rw [← hsz] at he
    exact wpAny_pyNext_items_end_raw (I.ok.hd hc) he hraw (by omega) fun h' eb => ⟨rfl, I.turned (t' := s.toks) (fun b ob hb e => eb b ob hb e) f0 f1 f3 f4 f5⟩
  self := fun A i s Q E st h => let ⟨_, _, e⟩ := st; PySem.W.kcp_self e h
end
def iItemsT (td : TE) : TI := fun σ H R => td σ H fun x H1 => ∃ d o kvs, x = .ref d ∧ H1 d = some (.frz o (.dT kvs)) ∧ R (ItiT d o kvs) H1
section
variable {X : Cx} {tg e : Expr} {td : TE} {apos cpos : Pos}
theorem pi_itemsT {elts : List Expr} {kk : Nat} {tpos : Pos} (he : PE X e td) (hbase : attributeBase e "items" X.env (eval e X.env) = eval e X.env := by rfl) (hline : (apos.endLine == cpos.line) = true := by rfl) :
    PI X (.Tuple elts kk tpos) (.Call (.Attribute e "items" apos) [] [] cpos) (iItemsT td) := by
  refine ⟨fun pins s σ H R I h => ?_⟩
  refine wpAny_Call_method (T := "dict") (id := "dict.items") hbase rfl hline F.plainAttrs_dict F.slot_dict_items F.type_dict_items (thn (he.run pins s σ H _ I h) fun u s1 ⟨x, H1, I1, rx, d, o, kvs, ex, hd, q⟩ => ?_)
  subst ex
  obtain rfl : u = Value.ref d := rx
  obtain ⟨hs, es, ep, hraw, hdt, hsz, ent⟩ := frzT2 I1 hd
  have hnd : ∃ o, s1.heap.get? d = some o ∧ o.dict = none := let ⟨o, ho, hx, _⟩ := hraw; ⟨o, ho, hx.2.1⟩
  refine ⟨hraw.typeIs, ?_, ?_⟩
  · obtain ⟨o', ho', hx⟩ := hnd
    intro b eb
    injection eb with eb
    exact ⟨o', eb ▸ ho', hx⟩
  have I2 : Inv X pins σ H1 { s1 with heap := s1.heap.push { cls := .type "dict_items", data := .fields #[.ref d] } } := I1.kept (t' := s1.toks) fun b ob q => Heap.get?_push_of_some _ q
  have fin : wpAny (model X.prog X.w) X.A (pyIter (.ref s1.heap.objs.size)) (PIE X pins σ (.Tuple elts kk tpos) R) X.xe { s1 with heap := s1.heap.push { cls := .type "dict_items", data := .fields #[.ref d] } } := by
    refine wpAny_pyIter_items_raw (d := d) (es := es) (ep := ep) ⟨_, Heap.get?_push_size _ rfl, rfl, rfl⟩ (hraw.at fun o e => Heap.get?_push_of_some _ e) (pi_one (tk := s1.toks) I2 _ (turn_itemsT _ hdt) ⟨.none, .none, ?_⟩ q)
    rw [← hsz]
    exact Heap.get?_push_size _ rfl
  show wpAny _ _ (callWith cpos (.builtin "dict.items") [.ref d] [] []) _ X.xe s1
  exact method_meetsIn F.slot_dict_items F.entry_dict_items rfl (PySem.evalArgs_none ⟨rfl, hraw.typeIs, F.args_dict_items_1 _, _, meets_dict_items_raw d hs, ⟨⟨es, ep, hraw⟩, fin⟩⟩)
end
theorem walk_itemsT {d : Addr} {o : Obj} {kvs : List (List Key × V)} : Walk (ItiT d o kvs) kvs.length (fun H => H d = some (.frz o (.dT kvs)))
    (fun i H x H' => ∃ T k v q, kvs[i]? = some (k, v) ∧ x = .ref T ∧ H T = none ∧ H q = some (.tup (k.map kV)) ∧ H' = upd H T (.tup [.ref q, v])) :=
  ⟨fun i H hi hG => ⟨hG, hi⟩, fun H hG => ⟨hG, Nat.le_refl _⟩, fun i H x H' hi hG h => h⟩

/-! ## len(set(t)), t a tuple of texts -/
/-- how many different ones stand among the first i -/
def dct {κ : Type} [DecidableEq κ] (xs : List κ) : Nat → Nat
  | 0 => 0
  | i + 1 => match xs[i]? with
    | none => dct xs i
    | some k => if decide (k ∈ xs.take i) = true then dct xs i else dct xs i + 1
section
variable {κ : Type} [DecidableEq κ]
theorem dct_succ {xs : List κ} {i : Nat} {k : κ} (h : xs[i]? = some k) : dct xs (i + 1) = if decide (k ∈ xs.take i) = true then dct xs i else dct xs i + 1 := by
  rw [dct, h]
theorem dct_le (xs : List κ) : ∀ i, dct xs i ≤ i
  | 0 => Nat.le_refl _
  | i + 1 => by
    have := dct_le xs i
    unfold dct
    split
    · omega
    · split <;> omega
theorem take_succ_at {xs : List κ} {i : Nat} {k : κ} (h : xs[i]? = some k) : xs.take (i + 1) = xs.take i ++ [k] := by
  rw [List.take_succ, h]
  rfl
theorem dct_full {xs : List κ} : ∀ {i : Nat}, i ≤ xs.length → (dct xs i = i ↔ (xs.take i).Nodup)
  | 0, _ => by simp [dct]
  | i + 1, h => by
    have ih := dct_full (xs := xs) (i := i) (by omega)
    have hl := dct_le xs i
    have hk : xs[i]? = some xs[i] := List.getElem?_eq_getElem h
    rw [take_succ_at hk, List.nodup_append, dct_succ hk]
    by_cases hm : xs[i] ∈ xs.take i
    · rw [if_pos (decide_eq_true hm)]
      constructor
      · intro e
        omega
      · intro ⟨_, _, k⟩
        exact absurd rfl (k _ hm _ (List.mem_singleton.mpr rfl))
    · rw [if_neg (by simpa using hm)]
      constructor
      · intro e
        refine ⟨ih.mp (by omega), by simp, fun a ha b hb e2 => ?_⟩
        rw [List.mem_singleton.mp hb] at e2
        exact hm (e2 ▸ ha)
      · intro k
        have := ih.mpr k.1
        omega
end
section
variable {prog : Program} {w : World} {A : Around} {R : Result → Shared → Prop} {I : Addr} {fp wr : List Addr} {n : Nat} {Pv : Nat → Value → Prop} {St : Nat → Heap → Prop} {κ : Type} [DecidableEq κ]
theorem fill_keys (knd : KeyKind prog w κ) (W : Walks prog w A.in1 I fp wr n Pv St) (D : Addr) (hD : D ∉ fp) (xs : List κ) (hx : xs.length = n) (hb : n + 1 < scanBound) (hv : ∀ (i : Nat) (v : Value), Pv i v → ∃ k, xs[i]? = some k ∧ knd.is k v = true ∧ v.scannable = true) {g : Heap} {s : Shared}
    (fin : ∀ h tk, h.SetOf knd D (fun z => decide (z ∈ xs)) (dct xs n) → (∀ b o, b ≠ D → b ∉ wr → g.get? b = some o → h.get? b = some o) → R (.ok (.ret .none)) { s with heap := h, toks := tk }) :
    ∀ (m i : Nat) (h : Heap) (tk : Tok), n - i = m → i ≤ n → St i h → h.SetOf knd D (fun z => decide (z ∈ xs.take i)) (dct xs i) → (∀ b o, b ≠ D → b ∉ wr → g.get? b = some o → h.get? b = some o) →
      codeAny (model prog w) A (.builtin "set.update.loop" ⟨[.ref D, .ref I], []⟩) R { s with heap := h, toks := tk } := by
  have hDw : D ∉ wr := fun z => hD (W.sub _ z)
  intro m
  induction m with
  | zero =>
    intro i h tk hm hi st sd hk
    obtain rfl : i = n := by omega
    refine codeAny_builtin PyProof.Rows.F.entry_set_update_loop (by
      rw [Around.under_plainId PyProof.Rows.F.plain_set_update_loop _]
      show wpAny _ A.in1 (pyNext (.ref I) >>= _) _ _ _
      refine wpAny_bind (W.done { s with heap := h, toks := tk } _ _ st fun h2 tk2 k2 => wpAny_pure (fin h2 tk2 ?_ fun b o h1 h3 e => k2 b o h3 (hk b o h1 h3 e)))
      obtain ⟨o, es, ep, t, ho, rest⟩ := sd
      rw [← hx, List.take_length] at rest
      rw [← hx]
      exact ⟨o, es, ep, t, k2 _ _ hDw ho, rest⟩)
  | succ m ih =>
    intro i h tk hm hi st sd hk
    have hlt : i < n := by omega
    refine codeAny_builtin PyProof.Rows.F.entry_set_update_loop (by
      rw [Around.under_plainId PyProof.Rows.F.plain_set_update_loop _]
      show wpAny _ A.in1 (pyNext (.ref I) >>= _) _ _ _
      refine wpAny_bind (W.item i { s with heap := h, toks := tk } _ _ hlt st fun v h2 tk2 pv st2 k2 => ?_)
      obtain ⟨z, hz, hkv, hsc⟩ := hv i v pv
      have sd2 : h2.SetOf knd D (fun y => decide (y ∈ xs.take i)) (dct xs i) := by
        obtain ⟨o, es, ep, t', ho, rest⟩ := sd
        exact ⟨o, es, ep, t', k2 _ _ hDw ho, rest⟩
      show wpAny _ A.in1 (holding [v] (setAdd D v) >>= _) _ _ _
      refine wpAny_bind (wpAny_holding (by
        unfold setAdd
        refine wpAny_holding (wpAny_bind (knd.pyHash (k := z) hkv ?_))
        have hc := dct_le xs i
        refine wpAny_setAddHashed_of (knd := knd) (s := { s with heap := h2, toks := tk2 + 1 }) hkv hsc sd2 (by omega) fun h3 sb sd3 => ?_
        have sd4 : h3.SetOf knd D (fun y => decide (y ∈ xs.take (i + 1))) (dct xs (i + 1)) := by
          refine SetOf_congr sd3 (fun y => ?_) (dct_succ hz).symm
          rw [take_succ_at hz]
          by_cases e1 : y ∈ xs.take i <;> by_cases e2 : y = z <;> simp [e1, e2]
        refine wpAny_pure ⟨plainId_quiet PyProof.Rows.F.plain_set_update_loop _, ih (i + 1) h3 (tk2 + 1) (by omega) hlt (W.frame _ h2 h3 st2 fun b hb' o e => ?_) sd4 fun b o h1 h4 e => ?_⟩
        · rw [sb.2 b (fun e' : b = D => hD (e' ▸ hb'))]
          exact e
        · rw [sb.2 b h1]
          exact k2 b o h4 (hk b o h1 h4 e))))
end
def freshSet (led : Bool) : Obj := { cls := .type "set", dict := none, data := .set #[] 0 (.fresh 0 0 led) }
section
variable {prog : Program} {w : World} {A : Around} {E : Value → Shared → Prop} {s : Shared} {κ : Type} [DecidableEq κ]
theorem call_set_keys (knd : KeyKind prog w κ) {l : Addr} {items : Array Value} {xs : List κ} {Q : Value → Shared → Prop} (hh : A.handled = none) (hl : s.heap.IsTuple l items) (hsz : items.size = xs.length) (hi : ∀ (i : Nat) (v : Value), items[i]? = some v → ∃ k, xs[i]? = some k ∧ knd.is k v = true ∧ v.scannable = true) (hb : xs.length + 1 < scanBound)
    (go : ∀ (h : Heap) (tk : Nat), h.SetOf knd s.heap.objs.size (fun z => decide (z ∈ xs)) (dct xs xs.length) → (∀ b o, s.heap.get? b = some o → h.get? b = some o) → Q (.ref s.heap.objs.size) { s with heap := h, toks := tk }) :
    wpAny (model prog w) A (call (.type "set") [.ref l]) Q E s := by
  have hll : l < s.heap.objs.size := by obtain ⟨o, ho, _⟩ := id hl; exact Heap.lt_size ho
  have ft := PySem.F.called_set
  obtain ⟨c0, c1, hmro⟩ := ft.mro
  have hm := ft.made
  have hs := ft.sub
  refine wpAny_call (codeAny_of_tree (show wpAny _ _ (callAny (.type "set") _) _ _ _ from wpAny_pure ⟨Code.quiet_builtin _ (by decide +kernel), codeAny_builtin PySem.F.entry_type_call ?_⟩))
  rw [Around.under_plain (weight_type_call_type "set" [.ref l] []) rfl]
  have n1 := ft.notType
  have n2 := ft.canCreate
  have n3 := PySem.F.typeCall_set_1 (.ref l)
  repeat (any_goals (first | assumption | wp_step))
  refine codeAny_mono (code_set_new_1 (.ref l) (E := E) (Q₁ := fun v t => ∃ led : Bool, v = .ref s.heap.objs.size ∧ t = { s with heap := s.heap.push (freshSet led) }) fun led => ⟨led, rfl, rfl⟩) fun r t hr => ?_
  match r, hr with
  | .error e, hr => exact hr
  | .ok .next, hr => exact hr.elim
  | .ok .brk, hr => exact hr.elim
  | .ok .cont, hr => exact hr.elim
  | .ok (.ret v), hr =>
    obtain ⟨led, rfl, rfl⟩ := hr
    have hS : (s.heap.push (freshSet led)).get? s.heap.objs.size = some (freshSet led) := Heap.get?_push_size _ rfl
    have hT : Shared.TypeIs { s with heap := s.heap.push (freshSet led) } (.ref s.heap.objs.size) "set" := ⟨_, hS, rfl⟩
    have i1 := ft.init.lookup
    have i2 := ft.init.bind (.ref s.heap.objs.size)
    repeat (any_goals (first | assumption | wp_step))
    refine codeAny_mono (codeAny_call_builtin (R := wants (fun v t => v = .none ∧ ∃ h tk, t = { s with heap := h, toks := tk } ∧ h.SetOf knd s.heap.objs.size (fun z => decide (z ∈ xs)) (dct xs xs.length) ∧ ∀ b o, s.heap.get? b = some o → h.get? b = some o) E) ft.init.plain PySem.F.entry_set_init (check_set_init_1 hT ?_)) fun r t hr => ?_
    · have hl1 : (s.heap.push (freshSet led)).IsTuple l items := hl.push _
      obtain ⟨⟨oc, od, oa, os⟩, ho, hc, n, hd⟩ := hl1
      simp only at hc hd
      subst hc
      subst hd
      have q1 := PySem.F.sub_tuple_set
      have q2 := PySem.F.sub_tuple_frozenset
      have q3 : (Value.type "tuple" == Value.type "dict") = false := by decide
      unfold freshSet at hS hT ho
      unfold Builtin.«set.__init__» noKeywords Builtin.Frozenset.updateFrom freshSet
      generalize hp : pyIter = p0
      wp_walk
      subst hp
      refine wpAny_pyIter_tuple ⟨_, ho, rfl, n, rfl⟩ (wpAny_bind (wpAny_runValue ?_))
      have zz : (s.heap.push (freshSet led)).objs.size = s.heap.objs.size + 1 := Heap.size_push ..
      unfold freshSet at zz
      refine fill_keys knd (g := s.heap) (s := s) (Walks.tuple (by simp [hh]) _ l (by rw [zz]; exact Nat.ne_of_lt (Nat.lt_succ_of_lt hll)) items) s.heap.objs.size (by rw [zz]; simp only [List.mem_cons, List.not_mem_nil, or_false, not_or]; exact ⟨Nat.ne_of_lt (Nat.lt_succ_self _), Nat.ne_of_gt hll⟩) xs hsz.symm (by omega) (fun i v hv => ?_) (fun h tk sd hk => ?_) (items.size - 0) 0 _ _ rfl (Nat.zero_le _) ⟨⟨_, Heap.get?_push_size _ rfl, rfl, rfl⟩, ⟨_, Heap.get?_push_of_some _ ho, rfl, n, rfl⟩⟩ ?_ ?_
      · exact hi i v hv
      · rw [hsz] at sd
        refine wpAny_pure (show wpAny _ _ (ret Value.none) _ _ _ from wpAny_pure ⟨rfl, h, tk, rfl, sd, fun b o e => hk b o (Nat.ne_of_lt (Heap.lt_size e)) (by rw [zz, List.mem_singleton]; exact Nat.ne_of_lt (Nat.lt_succ_of_lt (Heap.lt_size e))) e⟩)
      · exact SetOf_congr ((setObjOf_fresh (knd := knd) led).setOf (Heap.get?_push_of_some _ hS) (by decide)) (fun z => by simp) rfl
      · exact fun b o _ _ e => Heap.get?_push_of_some _ (Heap.get?_push_of_some _ e)
    · match r, hr with
      | .error e, hr => exact hr
      | .ok .next, hr => exact hr.elim
      | .ok .brk, hr => exact hr.elim
      | .ok .cont, hr => exact hr.elim
      | .ok (.ret v), hr =>
        obtain ⟨rfl, h, tk, rfl, g1, g2⟩ := hr
        repeat (any_goals (first | assumption | wp_step))
        exact go _ _ g1 g2
end

/-- len(set(t)), t a tuple of texts -/
def tLenTx (K : PySem.W.Frag) (ta : TE) : TE := fun σ H Q => ta σ H fun x H1 => ∃ (l : Addr) (xs : List Str), x = .ref l ∧ SqT K H1 l (xs.map V.str) ∧ xs.length ≤ 4000 ∧ Q (.int (dct xs xs.length : Nat)) H1
theorem w_lenTx {K : PySem.W.Frag} {ta : TE} {σ : L2.St} {H : Hp} {Q : VK} (k : ta σ H fun x H1 => ∃ (l : Addr) (xs : List Str), x = .ref l ∧ SqT K H1 l (xs.map V.str) ∧ xs.length ≤ 4000 ∧ Q (.int (dct xs xs.length : Nat)) H1) : tLenTx K ta σ H Q := k
/-- .. of whole numbers -/
def tLenIs (K : PySem.W.Frag) (ta : TE) : TE := fun σ H Q => ta σ H fun x H1 => ∃ (l : Addr) (xs : List Int), x = .ref l ∧ SqT K H1 l (xs.map V.int) ∧ xs.length ≤ 4000 ∧ Q (.int (dct xs xs.length : Nat)) H1
theorem w_lenIs {K : PySem.W.Frag} {ta : TE} {σ : L2.St} {H : Hp} {Q : VK} (k : ta σ H fun x H1 => ∃ (l : Addr) (xs : List Int), x = .ref l ∧ SqT K H1 l (xs.map V.int) ∧ xs.length ≤ 4000 ∧ Q (.int (dct xs xs.length : Nat)) H1) : tLenIs K ta σ H Q := k
section
variable {X : Cx}
theorem vals_get {α : Type} {f : α → V} : ∀ {xs : List α} {its : List Value}, Vals (xs.map f) its → ∀ (i : Nat) (v : Value), its[i]? = some v → ∃ k, xs[i]? = some k ∧ RelV (f k) v
  | [], _, .nil, i, v, h => by simp at h
  | x :: xs, _, .cons r t, 0, v, h => ⟨x, rfl, by simp at h; exact h ▸ r⟩
  | x :: xs, _, .cons r t, i + 1, v, h => by
    obtain ⟨k, e, r'⟩ := vals_get t i v (by simpa using h)
    exact ⟨k, by simpa using e, r'⟩
theorem lenSet_run {κ : Type} [DecidableEq κ] {f : κ → V} (knd : KeyKind X.prog X.w κ) (hk : ∀ k v, RelV (f k) v → knd.is k v = true ∧ v.scannable = true) {pins : List (Addr × Obj)} {σ : L2.St} {H : Hp} {s : Shared} {Q : VK} {l : Addr} {xs : List κ}
    (hc : X.calm = true) (I : Inv X pins σ H s) (hq : SqT X.K H l (xs.map f)) (hl : xs.length ≤ 4000) (q : Q (.int (dct xs xs.length : Nat)) H) :
    wpAny (model X.prog X.w) X.A (call (.type "set") [.ref l]) (fun v s1 => wpAny (model X.prog X.w) X.A (call (.builtin "len") [v]) (EP X pins σ Q) X.xe s1) X.xe s := by
  obtain ⟨its, r, pl, _⟩ := I.tuple hq
  have hlen := r.length
  rw [List.length_map] at hlen
  refine call_set_keys knd (I.ok.hd hc) pl (by rw [List.size_toArray]; exact hlen.symm) (fun i v hv => ?_) (by have : scanBound = 4096 := rfl; omega) fun h tk sd hk => ?_
  · obtain ⟨k, e, rv⟩ := vals_get r i v (by simpa using hv)
    exact ⟨k, e, hk k v rv⟩
  · obtain ⟨o, es, ep, t, ho, hx, hd, _, _, _, hf, hn⟩ := sd
    have hle := dct_le xs xs.length
    have I2 : Inv X pins σ H { s with heap := h, toks := tk } := I.kept hk
    exact call_len_set ho hx hd hf (by rw [hn]; omega) ⟨.int _, H, I2.tok _, ⟨_, by rw [hn]⟩, q⟩
theorem pe_lenTx {a : Expr} {ta : TE} {p p2 q pos : Pos} (hc : X.calm = true) (hg : Gl X "len") (hm : X.mg "len" = none) (hg2 : Gl X "set") (hm2 : X.mg "set" = none) (ha : PE X a ta)
    (na : starEach [a] X.env = (false, eval a X.env) :: starEach [] X.env := by rfl) : PE X (.Call (.Name "len" p) [.Call (.Name "set" p2) [a] [] q] [] pos) (tLenTx X.K ta) := by
  refine ⟨fun pins s σ H Q I h => Call_ (ld_blt I hg hm boot_len (callWith_builtin1 (args_cons (Call_ (ld_blt I hg2 hm2 boot_set (callWith_type1 (args_cons (thn (ha.run pins s σ H _ I h) fun v s1 ⟨x, H1, I1, r1, q1⟩ => args_nil ?_) na) na rfl))) rfl) rfl rfl))⟩
  obtain ⟨l, xs, rfl, hq, hl, q1⟩ := q1
  cases r1
  exact thn (lenSet_run (f := V.str) (PySem.strKind X.prog X.w) (fun k v ⟨t, e⟩ => by rw [e]; exact ⟨strKind_is _ _ _ _, rfl⟩) hc I1 hq hl q1) fun v s2 h2 => args_nil h2
theorem pe_lenIs {a : Expr} {ta : TE} {p p2 q pos : Pos} (hc : X.calm = true) (hg : Gl X "len") (hm : X.mg "len" = none) (hg2 : Gl X "set") (hm2 : X.mg "set" = none) (ha : PE X a ta)
    (na : starEach [a] X.env = (false, eval a X.env) :: starEach [] X.env := by rfl) : PE X (.Call (.Name "len" p) [.Call (.Name "set" p2) [a] [] q] [] pos) (tLenIs X.K ta) := by
  refine ⟨fun pins s σ H Q I h => Call_ (ld_blt I hg hm boot_len (callWith_builtin1 (args_cons (Call_ (ld_blt I hg2 hm2 boot_set (callWith_type1 (args_cons (thn (ha.run pins s σ H _ I h) fun v s1 ⟨x, H1, I1, r1, q1⟩ => args_nil ?_) na) na rfl))) rfl) rfl rfl))⟩
  obtain ⟨l, xs, rfl, hq, hl, q1⟩ := q1
  cases r1
  exact thn (lenSet_run (f := V.int) (PySem.intKind X.prog X.w) (fun k v ⟨t, e⟩ => by rw [e]; exact ⟨intKind_is _ _ _ _, rfl⟩) hc I1 hq hl q1) fun v s2 h2 => args_nil h2
end

/-! ## len(o), o with a __len__ of its own -/
def rLenOwn (C : Addr) (sp : Sp) (E : XK) : List V → Hp → VK → Prop := fun xs H Q => ∃ (a dx : Addr) (fs : List (Str × V)), xs = [.ref a] ∧ H a = some (.ins C dx fs) ∧ sp [.ref a] H (fun v H' => ∃ n : Nat, v = .int (n : Nat) ∧ n ≤ 1000000 ∧ Q (.int (n : Nat)) H') E
theorem room_in1 {k : Nat} {A : Around} (r : Room (k + 1) A) : Room k A.in1 := ⟨r.hd, by have := r.dp; show A.depth + 3 * k + 5 < _; omega, by have := r.un; show A.units + 1 + 16 * k + 200 < _; omega⟩
section
variable {X : Cx} {CX : CXT} {k : Nat} {f C : Addr} {fd : FuncData} {ps : List Str} {sp : Sp} {E : XK}
theorem cr_lenOwn (F : FnOk X.prog X.w X.K X.mg X.base CX k f fd ps sp) (hr : Room (k + 1) X.A) (hs : PySem.W.findIn X.K (.ref C) "__len__" = some (some (.ref f))) (hf : PySem.W.typeIn X.K (.ref f) = some (.type "function")) (hb : Binds X.K fd ps []) (hx : Passes CX X E) :
    CallR X (.builtin "len") (rLenOwn C sp E) := by
  intro pins s σ H xs us Q I r h
  obtain ⟨a, dx, fs, rfl, ha, h⟩ := h
  obtain ⟨u, rfl, rx⟩ := vals1 r
  obtain rfl : u = .ref a := rx
  obtain ⟨mA, J, _⟩ := ins_get I.hok ha
  obtain ⟨od, J, _⟩ := J.look
  have sp1 : PySem.W.Looks (model X.prog X.w) s.heap (PySem.specialOf (.ref a) "__len__") (some (.ref f)) := J.type.andThen (PySem.W.looks_findIn I.kIn hs)
  refine Calls.call_function_entry kind_len plain_len entry_len (args_len1 _) ?_
  unfold Builtin.«len»
  refine wpAny_bind (m := oneArg "len" _) (wpAny_pure (wpAny_bind (m := PySem.callSpecial? (.ref a) (PySem.Str.ofString "__len__")) ?_))
  simp only [PySem.callSpecial?]
  refine wpAny_bind (sp1.here (wpAny_holding (wpAny_bind ((PySem.W.bind_fn (M := model X.prog X.w) I.kIn (.ref a) hf).here (wpAny_bind ?_)))))
  have hl := F.len _ _ _ _ h
  have e0 : Env0 X.prog X.w X.K X.mg X.base X.A.in1 X.stack s H := by
    have e := I.env0
    exact ⟨e.frames, e.mod, e.bs, e.bsz, e.funs, e.frf, e.hok, e.bare⟩
  refine wpAny_call (codeAny_mono (F.run X.A.in1 X.stack s H ⟨[.ref a], []⟩ [.ref a] [.ref a] _ E (room_in1 hr) e0 (by
    have := hb s [.ref a] I.kIn (by simpa using hl)
    simpa using this) (.cons rfl .nil) h) fun r s' hq => ?_)
  match r, hq with
  | .error e, hq => exact hx pins σ H s e s' I hq
  | .ok .next, hq => exact hq.elim
  | .ok .brk, hq => exact hq.elim
  | .ok .cont, hq => exact hq.elim
  | .ok (.ret v), hq =>
    obtain ⟨z, H', I', rz, n, rfl, hn, q⟩ := I.after hq
    obtain ⟨tk, rfl⟩ : ∃ tk, v = Value.int (n : Nat) tk := rz
    refine wpAny_pure (wpAny_bind (wpAny_holding (wpAny_pure (wpAny_bind (wpAny_letGo ?_)))))
    have n1 : ¬ ((n : Nat) : Int) < 0 := by omega
    have n2 : ¬ ((n : Nat) : Int) ≥ 2 ^ 63 := by omega
    show wpAny _ _ (if ((n : Nat) : Int) < 0 then _ else _) _ _ _
    rw [if_neg n1]
    show wpAny _ _ (if ((n : Nat) : Int) ≥ 2 ^ 63 then _ else _) _ _ _
    rw [if_neg n2]
    exact wpAny_bind (wpAny_mkInt (wpAny_pure ⟨_, rfl, .int (n : Nat), H', I'.tok _, ⟨_, rfl⟩, q⟩))
end

/-! ## methods, objects made: defs that keep their promises, in short -/
/-- the class at C has a method m that keeps the promise sp -/
def DefM (P : Program) (w : World) (K : PySem.W.Frag) (mg : Str → Option Value) (base : Heap) (k : Nat) (C : Addr) (m : Str) (ps : List Str) (sp : Sp) : Prop :=
  ∃ f fd, FnOk P w K mg base CX0 k f fd ps sp ∧ Meth K C m f ∧ PySem.W.typeIn K (.ref f) = some (.type "function") ∧ Binds K fd ps []
/-- x is the class at C; made by an __init__ that keeps the promise sp -/
def DefC (P : Program) (w : World) (K : PySem.W.Frag) (mg : Str → Option Value) (base : Heap) (k : Nat) (C : Addr) (x : Str) (ps : List Str) (dvs : List V) (sp : Sp) : Prop :=
  ∃ f fd ds, FnOk P w K mg base CX0 k f fd ps sp ∧ mg x = some (.ref C) ∧ Mk K C f ∧ Binds K fd ps [] ∧ Vals dvs ds ∧ Binds K fd ps ds
section
variable {P : Program} {w : World} {K : PySem.W.Frag} {mg : Str → Option Value} {base : Heap}
theorem DefM.mono {j k : Nat} {C : Addr} {m : Str} {ps : List Str} {sp : Sp} (D : DefM P w K mg base j C m ps sp) (h : j ≤ k) : DefM P w K mg base k C m ps sp := by
  obtain ⟨f, fd, F, r⟩ := D
  exact ⟨f, fd, F.mono h, r⟩
end
section
variable {X : Cx} {k : Nat} {C : Addr} {ps : List Str} {sp : Sp} {dvs : List V} {x m : Str} {p pos apos : Pos} {o e : Expr} {es : List Expr} {t : TA} {ta : TE}
theorem pe_dm {pl : Sem Bool} (D : DefM X.prog X.w X.K X.mg X.base k C m ps sp) (c : Cls X.K C) (hr : Room k X.A) (he : PE X o ta) (ha : PA X (e :: es) t)
    (hst : starEach (e :: es) X.env = (false, eval e X.env) :: starEach es X.env := by rfl) (hpl : (backTo pos (starEach es X.env)).any (·.1) = false := by rfl)
    (ht : eval (.Call (.Attribute o m apos) (e :: es) [] pos) X.env = (do
      let ov ← eval o X.env
      standAt apos.atName
      let (f, first) ← holding [ov] (getMethod ov m pl)
      callWith pos f first (backTo pos (starEach (e :: es) X.env)) (backToKw pos (keywordEach [] X.env))) := by rfl) :
    PE X (.Call (.Attribute o m apos) (e :: es) [] pos) (tMeth C m sp [] E0 ta t) := by
  obtain ⟨f, fd, F, hm, _, hb⟩ := D
  exact pe_meth he c hm F hr hb .nil pass0 ha hst hpl ht
theorem pe_dc (D : DefC X.prog X.w X.K X.mg X.base k C x ps dvs sp) (hr : Room (k + 1) X.A) (ha : PA X (e :: es) t) (hg : Gl X x := by rfl) (hdb : (x == ("__debug__" : Str)) = false := by decide)
    (he : starEach (e :: es) X.env = (false, eval e X.env) :: starEach es X.env := by rfl) (hpl : (backTo pos (starEach es X.env)).any (·.1) = false := by rfl) :
    PE X (.Call (.Name x p) (e :: es) [] pos) (tMake C sp [] E0 t) := by
  obtain ⟨f, fd, ds, F, hm, M, hb, _, _⟩ := D
  exact pe_make M F hr hg hm hb .nil pass0 ha hdb he hpl
/-- the same, the defaults fill up -/
theorem pe_dcD (D : DefC X.prog X.w X.K X.mg X.base k C x ps dvs sp) (hr : Room (k + 1) X.A) (ha : PA X (e :: es) t) (hg : Gl X x := by rfl) (hdb : (x == ("__debug__" : Str)) = false := by decide)
    (he : starEach (e :: es) X.env = (false, eval e X.env) :: starEach es X.env := by rfl) (hpl : (backTo pos (starEach es X.env)).any (·.1) = false := by rfl) :
    PE X (.Call (.Name x p) (e :: es) [] pos) (tMake C sp dvs E0 t) := by
  obtain ⟨f, fd, ds, F, hm, M, _, hv, hb⟩ := D
  exact pe_make M F hr hg hm hb hv pass0 ha hdb he hpl
theorem cr_lenM {sp : Sp} (D : DefM X.prog X.w X.K X.mg X.base k C "__len__" ps sp) (hr : Room (k + 1) X.A) : CallR X (.builtin "len") (rLenOwn C sp E0) := by
  obtain ⟨f, fd, F, hm, ht, hb⟩ := D
  exact cr_lenOwn F hr hm.at_ ht hb pass0
end
section
variable {K : PySem.W.Frag} {σ : L2.St} {H : Hp} {Q : VK} {D : Ends}
theorem w_fld {ta : TE} {f : Str} (k : ta σ H fun x H1 => ∃ a C dx fs v, x = .ref a ∧ H1 a = some (.ins C dx fs) ∧ Cls K C ∧ NoAttr K C f ∧ fs.lookup f = some v ∧ Q v H1) : tFld K ta f σ H Q := k
theorem w_sfld {ta tv : TE} {f : Str} (k : tv σ H fun y H1 => ta σ H1 fun x H2 => ∃ a C dx fs, x = .ref a ∧ H2 a = some (.ins C dx fs) ∧ Cls K C ∧ NoAttr K C f ∧ fs.length < 1000 ∧ D.nx σ (upd H2 a (.ins C dx (putF f y fs)))) : sFld K ta tv f D σ H := k
theorem w_meth {C : Addr} {m : Str} {sp : Sp} {dvs : List V} {E : XK} {ta : TE} {t : TA} (k : ta σ H fun x H1 => ∃ a dx fs, x = .ref a ∧ H1 a = some (.ins C dx fs) ∧ fs.lookup m = none ∧ t σ H1 fun vs H2 => sp (x :: (vs ++ dvs)) H2 Q E) : tMeth C m sp dvs E ta t σ H Q := k
theorem w_make {C : Addr} {sp : Sp} {dvs : List V} {E : XK} {t : TA} (k : t σ H fun vs H1 => ∀ x dx, H1 x = none → H1 dx = none → dx ≠ x → sp (.ref x :: (vs ++ dvs)) (upd (upd H1 dx (.own x)) x (.ins C dx [])) (fun v H2 => v = .non ∧ Q (.ref x) H2) E) : tMake C sp dvs E t σ H Q := k
end

/-! ## tuples of texts that are tracked, so that they may be keys -/
def LotH (H : Hp) (x : V) (l : List Str) : Prop := ∃ a, x = .ref a ∧ H a = some (.tup (l.map V.str))
theorem LotH.at {K : PySem.W.Frag} {H : Hp} {x : V} {l : List Str} (h : LotH H x l) : LotAt K H x l := by
  obtain ⟨a, e, h⟩ := h
  exact ⟨a, e, SqT.of h⟩
theorem LotH.same {H H' : Hp} {x : V} {l : List Str} (h : LotH H x l) (s : Same H H') : LotH H' x l := by
  obtain ⟨a, e, h⟩ := h
  exact ⟨a, e, s _ _ h⟩
theorem LotH.upd {H : Hp} {y : V} {b : List Str} {D : Addr} {ys zs : List V} (h : LotH H y b) (e : H D = some (.lst ys)) : LotH (upd H D (.lst zs)) y b := by
  obtain ⟨t, e', h⟩ := h
  refine ⟨t, e', ?_⟩
  rw [upd_ne fun z => by rw [z, e] at h; cases h]
  exact h
/-- sorted(xs), xs a list of tracked tuples of texts -/
def rSortedTH (K : PySem.W.Frag) : List V → Hp → VK → Prop := fun vs H Q => ∃ (a : Addr) (xs : List V) (ls : List (List Str)), vs = [V.ref a] ∧ SqL K H a xs ∧ Paired (LotH H) xs ls ∧
  ∀ ys p, Paired (LotH H) ys (sortTS ls) → H p = none → Q (.ref p) (upd H p (.lst ys))
section
variable {X : Cx}
theorem cr_sortedTH (hu : X.A.units + 64 < cLine) : CallR X (.builtin "sorted") (rSortedTH X.K) := by
  intro pins s σ H vs us Q I r h
  obtain ⟨a, xs, ls, rfl, hs, hp, q⟩ := h
  have inj : ∀ x l m, LotH H x l → LotH H x m → l = m := fun x l m ⟨b, e, h1⟩ ⟨c, e', h2⟩ => by
    rw [e] at e'
    cases e'
    rw [h1] at h2
    injection h2 with h2
    injection h2 with h2
    exact strs_inj h2
  classical
  let k : V → List Str := fun x => if h : ∃ l, LotH H x l then h.choose else []
  have key : ∀ x l, LotH H x l → k x = l := fun x l hl => by
    have h : ∃ l, LotH H x l := ⟨l, hl⟩
    show (if h : ∃ l, LotH H x l then h.choose else []) = l
    rw [dif_pos h]
    exact inj x _ _ h.choose_spec hl
  have em : ∀ {xs : List V} {ls : List (List Str)}, Paired (LotH H) xs ls → xs.map k = ls := fun {xs ls} hp => by
    induction hp with
    | nil => rfl
    | cons h1 h2 ih => rw [List.map_cons, key _ _ h1, ih]
  have mem : ∀ {xs : List V} {ls : List (List Str)}, Paired (LotH H) xs ls → ∀ x ∈ xs, LotH H x (k x) := fun {xs ls} hp => by
    induction hp with
    | nil => exact fun _ h => absurd h (by simp)
    | cons h1 h2 ih =>
      intro x hx
      rcases List.mem_cons.mp hx with rfl | hx
      · rw [key _ _ h1]
        exact h1
      · exact ih x hx
  refine cr_sortedTS hu pins s σ H _ us Q I r ⟨a, xs, k, rfl, hs, fun x hx => (mem hp x hx).at, fun ys p hpm he hf => q ys p ?_ hf⟩
  rw [em hp] at he
  rw [← he]
  exact paired_of fun y hy => mem hp y (hpm.mem_iff.mp hy)
end

/-! ## xs.extend(t), t a tuple -/

theorem extend_tup (l b : Addr) (us ws : Array Value) (n k : Nat) (dd : Option Addr) (sl : Array (Option Value)) (h0 : ¬(!us.isEmpty && Builtin.List.listTooLong (us.size + ws.size)) = true) (h1 : us.size ≤ sizeLine) (h2 : us.size + ws.size ≤ sizeLine + 1) :
    Meets (Builtin.«list.extend» ⟨[.ref l, .ref b], []⟩) (fun _ R s => s.heap.get? l = some { cls := .type "list", dict := none, data := .seq us n, slots := #[] } ∧ s.heap.get? b = some { cls := .type "tuple", dict := dd, data := .seq ws k, slots := sl } ∧ R (.ok (.ret Value.none)) { s with heap := s.heap.update l (Obj.mapSeq fun x => x ++ ws), toks := s.toks }) :=
  .of_wp fun P w A R s hs => by
    obtain ⟨g0, g1, g2, g3, g4⟩ := s
    obtain ⟨q1, q2, q3⟩ := hs
    have e1 := AutoSeq1.sub_tuple_list
    have e2 := AutoSeq1.sub_list_tuple
    have e3 := AutoSeq1.sub_list_list
    have e4 := AutoSeq1.sub_tuple_tuple
    have hz : (us ++ ws).size ≤ sizeLine + 1 := by rw [Array.size_append]; exact h2
    wp_walk using (wpAny_updateSeq q1 rfl (hz := h1) (_hz' := hz)), AutoSeq1.wpAny_loadPart' q1, AutoSeq1.wpAny_loadPart' q2
    exact ⟨_, rfl, q3⟩
def rExtendT (K : PySem.W.Frag) : V → List V → Hp → VK → Prop := fun x vs H Q => ∃ l b xs zs, x = .ref l ∧ vs = [.ref b] ∧ H l = some (.lst xs) ∧ SqT K H b zs ∧ xs.length + zs.length ≤ sizeLine ∧ Q .non (upd H l (.lst (xs ++ zs)))
theorem mt_extendT {X : Cx} : MtM X "list.extend" (rExtendT X.K) := by
  intro pins s σ H x vs v us Q I rx rv h
  obtain ⟨l, b, xs, zs, rfl, rfl, hH, hB, hz, q⟩ := h
  cases rx
  obtain ⟨u, rfl, ru⟩ := rv.one
  cases ru
  obtain ⟨_, its, n, r, hl, e⟩ := I.lstM hH
  obtain ⟨its2, r2, ⟨⟨oc, od, oa, os⟩, e2, hc, n2, hd⟩, _⟩ := I.tuple hB
  simp only at hc hd
  subst hc
  subst hd
  have l2 := r2.length
  have hsz : its.toArray.size + its2.toArray.size ≤ sizeLine := by rw [List.size_toArray, List.size_toArray]; omega
  have hlong : ¬ (!its.toArray.isEmpty && Builtin.List.listTooLong (its.toArray.size + its2.toArray.size)) = true := by rw [notLongL hsz, Bool.and_false]; exact Bool.false_ne_true
  exact call_meets F.slot_list_extend ⟨_, e, rfl⟩ F.entry_list_extend (F.args_list_extend_2 _ _) (extend_tup l b its.toArray its2.toArray n n2 od os hlong (by rw [List.size_toArray]; omega) (by omega))
    ⟨e, e2, .non, _, I.lset (its' := its ++ its2) hH e (by simp) (r.append r2) (by rw [List.length_append]; omega), rfl, q⟩
/-! ## comprehensions over enumerate, the target of any form -/
section
variable {K : PySem.W.Frag} {σ : L2.St} {H1 : Hp}
theorem w_lcEG {β : Type} {ta : TA} {g : TG} {a : Addr} {xs : List V} {tt : TT} {te : TE} {vs : List Nat} {Q : VK} (S : Nat → Hp → L2.St → Prop) (c : Nat → Bool) (f : Nat → β) (F : V → β → Hp → Prop) (kp : ∀ y b H H', F y b H → Same H H' → F y b H')
    (kd : ∀ y b H D ys zs, F y b H → H1 D = none → H D = some (.lst ys) → F y b (upd H D (.lst zs)))
    (ha : ∀ R : List V → Hp → Prop, R [.ref a] H1 → ta σ H1 R) (hq : SqT K H1 a xs) (hn : xs.length ≤ 100000)
    (hg : ∀ (n : Nat) x T H' (R : L2.St → Hp → Prop), xs[n]? = some x → Same H1 H' → SqT K H' T [.int (n : Nat), x] → (∀ σ2, S n H' σ2 → wipe σ2 vs = wipe σ vs → R σ2 H') → g (.ref T) (wipe σ vs) H' R)
    (ht : ∀ (n : Nat) σ2 H' R, n < xs.length → S n H' σ2 → Same H1 H' → (∀ H'', Same H' H'' → R (c n) H'') → tt σ2 H' R)
    (he : ∀ (n : Nat) σ2 H' H'' (R : VK), n < xs.length → S n H' σ2 → c n = true → Same H1 H' → Same H' H'' → (∀ y H3, Same H'' H3 → F y (f n) H3 → R y H3) → te σ2 H'' R)
    (go : ∀ D H' ys, H1 D = none → Same H1 H' → H' D = some (.lst ys) → Paired (fun y b => F y b H') ys (((List.range xs.length).filter c).map f) → Q (.ref D) H') :
    tLc (iEnumT K ta) g tt te vs σ H1 Q := by
  refine ha _ ⟨a, xs, rfl, hq, fun D hD => ?_⟩
  refine lc_enT (xs := xs) (fun n H' => Same H1 H' ∧ ∃ ys, H' D = some (.lst ys) ∧ Paired (fun y b => F y b H') ys (((List.range n).filter c).map f)) ⟨Same.upd2 (Same.refl _) hD, [], upd_same, .nil⟩ (fun _ _ p => Same.sqT p.1 hq) ?_ ?_
  · rintro n x H' T hx ⟨s, ys, e, hp⟩ hT
    have hlt := (List.getElem?_eq_some_iff.mp hx).1
    have s0 : Same H' (upd H' T (.tup [.int (n : Nat), x])) := same_upd (Same.refl _) hT
    have s2 := s.trans s0
    have e2 := s0 _ _ e
    refine hg n x T _ _ hx s2 (SqT.of upd_same) fun σ2 hS hw => ⟨hw, ht n σ2 _ _ hlt hS s2 fun H3 s3 => ?_⟩
    refine iteB (fun hc => ?_) (fun hc => ?_)
    · refine he n σ2 _ H3 _ hlt hS hc s2 s3 fun y H4 s4 hy => ⟨ys, s4 _ _ (s3 _ _ e2), ?_, Same.upd2 ((s2.trans s3).trans s4) hD, ys ++ [y], upd_same, ?_⟩
      · have h1 := Paired.length hp
        have h2 := List.length_filter_le c (List.range n)
        rw [List.length_range] at h2
        rw [List.length_map] at h1
        rw [sizeLine_eq]
        omega
      · rw [List.range_succ, List.filter_append, List.filter_cons_of_pos hc, List.filter_nil, List.map_append]
        have e4 := s4 _ _ (s3 _ _ e2)
        exact Wk.Paired.app (Paired.mapP hp fun y b h => kd _ _ _ D ys _ (kp _ _ _ _ h ((s0.trans s3).trans s4)) hD e4) (.cons (kd _ _ _ D ys _ hy hD e4) .nil)
    · refine ⟨s2.trans s3, ys, s3 _ _ e2, ?_⟩
      rw [List.range_succ, List.filter_append, List.filter_cons_of_neg (by rw [hc]; exact Bool.false_ne_true), List.filter_nil, List.append_nil]
      exact Paired.mapP hp fun y b h => kp _ _ _ _ h (s0.trans s3)
  · rintro H' ⟨s, ys, e, hp⟩
    exact go D H' ys hD s e hp
end
/-! ## for n, x in enumerate(t), t a tuple -/
section
variable {K : PySem.W.Frag} {σ : L2.St} {H : Hp}
theorem for_enT {a : Addr} {xs : List V} {g : TG} {tb : TS} {D : Ends} (Pv : Nat → L2.St → Hp → Prop) (h0 : Pv 0 σ H) (hl : ∀ i σ H, i ≤ xs.length → Pv i σ H → SqT K H a xs)
    (hs : ∀ i x σ H T, xs[i]? = some x → Pv i σ H → H T = none → g (.ref T) σ (upd H T (.tup [.int (i : Nat), x])) fun σ2 H2 => tb { D with nx := Pv (i + 1), ct := Pv (i + 1), bk := D.nx } σ2 H2)
    (hd : ∀ σ H, Pv xs.length σ H → D.nx σ H) :
    ∃ W : Nat → Nat → L2.St → Hp → Prop, (∃ m, W 0 m σ H) ∧ ∀ i m σ H, W i m σ H →
      ((IteT K a).stop i H ∧ D.nx σ H) ∨ ((IteT K a).go i H ∧ ∃ N : L2.St → Hp → Prop, (∀ σ' H', N σ' H' → ∃ m', m' < m ∧ W (i + 1) m' σ' H') ∧
        ∀ x H', (IteT K a).yld i H x H' → g x σ H' fun σ2 H2 => tb { D with nx := N, ct := N, bk := D.nx } σ2 H2) := by
  refine ⟨fun i m σ H => m = xs.length - i ∧ i ≤ xs.length ∧ Pv i σ H, ⟨xs.length, by simp, Nat.zero_le _, h0⟩, ?_⟩
  rintro i m σ H ⟨rfl, hi, p⟩
  have q := hl i σ H hi p
  rcases Nat.lt_or_ge i xs.length with hlt | hge
  · refine .inr ⟨⟨xs, xs[i], q, List.getElem?_eq_getElem hlt⟩, Pv (i + 1), fun σ' H' p' => ⟨xs.length - (i + 1), by omega, rfl, hlt, p'⟩, ?_⟩
    rintro v H' ⟨T, x, rfl, hT, rfl, hx⟩
    exact hs i x σ H T (hx xs q) p hT
  · obtain rfl : i = xs.length := Nat.le_antisymm hi hge
    exact .inl ⟨⟨xs, q, rfl⟩, hd σ H p⟩
theorem w_forET {ta : TA} {g : TG} {tb : TS} {D : Ends} (k : ta σ H fun vs H1 => ∃ a xs, vs = [.ref a] ∧ SqT K H1 a xs ∧ ∃ W : Nat → Nat → L2.St → Hp → Prop, (∃ m, W 0 m σ H1) ∧ ∀ i m σ H, W i m σ H →
      ((IteT K a).stop i H ∧ D.nx σ H) ∨ ((IteT K a).go i H ∧ ∃ N : L2.St → Hp → Prop, (∀ σ' H', N σ' H' → ∃ m', m' < m ∧ W (i + 1) m' σ' H') ∧
        ∀ x H', (IteT K a).yld i H x H' → g x σ H' fun σ2 H2 => tb { D with nx := N, ct := N, bk := D.nx } σ2 H2)) : tFor (iEnumT K ta) g tb D σ H := k
end
/-! ## rules within a block -/
theorem call_lenK {X : Cx} {K : PySem.W.Frag} (h : X.K = K) : CallR X (.builtin "len") (fun xs H Q => ∃ x n, xs = [x] ∧ LenV K x H n ∧ Q (.int n) H) := by
  subst h
  exact call_len
theorem call_isiK {X : Cx} {K : PySem.W.Frag} (h : X.K = K) : CallR X (.builtin "isinstance") (rIsi K) := by
  subst h
  exact call_isi

/-! ## sorted, of lists of data that are alike -/
def rSortedD (K : PySem.W.Frag) : List V → Hp → VK → Prop := fun vs H Q => ∃ (a : Addr) (β : Type) (bs : List β) (val : β → V) (enc : β → PyData), vs = [V.ref a] ∧ SqL K H a (bs.map val) ∧ (∀ b ∈ bs, Dq K a H (val b) (enc b)) ∧ PySem.W.AllAlike (bs.map enc) ∧ PySem.W.Sortable (bs.map enc) ∧ (∀ b ∈ bs, (enc b).depth ≤ 60) ∧
  ∀ p, H p = none → Q (.ref p) (upd H p (.lst ((bs.mergeSort (PySem.W.dataLe false enc)).map val)))
section
variable {X : Cx}
theorem each_vals {β : Type} {val : β → V} : ∀ {bs : List β} {us : List Value}, Vals (bs.map val) us → PySem.W.EachIs (fun u b => RelV (val b) u) us bs
  | [], _, h => by cases h; exact .nil
  | b :: bs, _, h => by
    cases h with
    | cons h1 h2 => exact .cons h1 (each_vals h2)
theorem vals_each {β : Type} {val : β → V} : ∀ {bs : List β} {us : List Value}, PySem.W.EachIs (fun u b => RelV (val b) u) us bs → Vals (bs.map val) us
  | _, _, .nil => .nil
  | _, _, .cons h1 h2 => .cons h1 (vals_each h2)
theorem each_reads {β : Type} {val : β → V} {enc : β → PyData} {q : Addr} {pins : List (Addr × Obj)} {σ : L2.St} {H : Hp} {s : Shared} (I : Inv X pins σ H s) : ∀ {bs : List β} {us : List Value}, (∀ b ∈ bs, Dq X.K q H (val b) (enc b)) → PySem.W.EachIs (fun u b => RelV (val b) u) us bs → PySem.W.EachIs (fun v b => ∃ as, Reads s.heap v (enc b) as) us bs
  | _, _, _, .nil => .nil
  | _, _, h, .cons h1 h2 => .cons ((Dq.reads I (h _ (.head _)) h1).imp fun _ x => x.1) (each_reads I (fun b hb => h b (.tail _ hb)) h2)
theorem cr_sortedD (hu : X.A.units + 64 < cLine) : CallR X (.builtin "sorted") (rSortedD X.K) := by
  intro pins s σ H vs us Q I r h
  obtain ⟨a, β, bs, val, enc, rfl, hs, hd0, hal, hk, hdep, q⟩ := h
  obtain ⟨its, rv, hl, hz⟩ := I.list hs
  obtain ⟨u, rfl, ru⟩ := vals1 r
  obtain rfl : u = Value.ref a := ru
  have e := each_vals rv
  have er := each_reads I hd0 e
  rw [List.length_map] at hz
  refine PySem.W.sorted_data hl.isList e er hal hk hz (fun b hb => ?_) fun out h1 h2 => ?_
  · have := hdep b hb
    omega
  · have hd := Nat.le_succ s.heap.objs.size
    obtain ⟨n, hn⟩ := sortedAll_at s.heap its out.toArray
    refine ⟨.ref _, upd H _ (.lst ((bs.mergeSort (PySem.W.dataLe false enc)).map val)), I.laid (t' := s.toks) (fun b o e => sortedAll_old e) hd ⟨?_, out, n, vals_each h2, hn⟩, rfl, q _ (I.hok.fresh hd)⟩
    rw [List.length_map, List.length_mergeSort]
    exact hz
end
/-! ### what the order of data says of lots -/
theorem eqv_strsD : ∀ l m : List Str, PyData.eqv (.tuple (l.map PyData.str)) (.tuple (m.map PyData.str)) = decide (l = m) := fun l m => by
  rw [PyData.eqv]
  induction l generalizing m with
  | nil => cases m <;> simp [PyData.eqvAll]
  | cons a l ih =>
    cases m with
    | nil => simp [PyData.eqvAll]
    | cons b m =>
      rw [List.map_cons, List.map_cons, PyData.eqvAll, ih]
      by_cases e : a = b <;> by_cases e2 : l = m <;> simp [PyData.eqv, e, e2]
theorem alike_strs : ∀ l m : List Str, PySem.W.alikeAll (l.map PyData.str) (m.map PyData.str) = true
  | [], m => by cases m <;> simp [PySem.W.alikeAll]
  | a :: l, [] => by simp [PySem.W.alikeAll]
  | a :: l, b :: m => by simp [PySem.W.alikeAll, PySem.W.alike, alike_strs l m]
theorem lt_strs : ∀ l m : List Str, PySem.W.dataLt (.tuple (l.map PyData.str)) (.tuple (m.map PyData.str)) = lexS l m
  | [], [] => by rw [PySem.W.dataLt_tuple]; rfl
  | [], b :: m => by rw [PySem.W.dataLt_tuple]; rfl
  | a :: l, [] => by rw [PySem.W.dataLt_tuple]; rfl
  | a :: l, b :: m => by
    have ih := lt_strs l m
    rw [PySem.W.dataLt_tuple] at ih ⊢
    rw [List.map_cons, List.map_cons, PySem.W.dataLt_cons (by simp [PySem.W.alike]), ih, PySem.W.dataLt_str]
    simp only [PyData.eqv, lexS]
    rfl

/-! ## == and != of objects with an == of their own -/
section
variable {M : Model} {A : Around} {E : Value → Shared → Prop} {s : Shared} {K : PySem.W.Frag} {x C : Addr} {ox : Obj} {od : Option Obj}
theorem ifBound_B {name : Str} {id B : String} {args : List Value} {Q : Option Value → Shared → Prop} (X : K.In s.heap) (I : PySem.W.InstAt s.heap x ox C od) (hs : PySem.W.findIn K (.ref C) name = some (some (.builtin id))) (S : Slot B name id)
    (h : wpAny M A (call (.builtin id) (.ref x :: args)) (fun v => Q (some v)) E s) : wpAny M A (callSpecialIfBound? (.ref x) name args) Q E s := by
  simp only [callSpecialIfBound?, bindSpecialIfBound?]
  refine wpAny_holding (wpAny_bind (wpAny_bind (wpAny_bind (I.type.here ((PySem.W.looks_findIn X hs).here ?_)))))
  simp only [S.bind]
  refine wpAny_bind (wpAny_askSetting (wpAny_ite ?_))
  have fin : wpAny M A (call (.builtin id) ([.ref x] ++ args) >>= fun v => pure (some v)) Q E s := wpAny_bind (wpAny_mono h (fun v s' h' => wpAny_pure h') fun _ _ h' => h')
  split
  · exact wpAny_bind (wpAny_pure (wpAny_pure fin))
  · exact wpAny_tryCatch (wpAny_bind (wpAny_pure (wpAny_pure fin)))
theorem check_slot_K {id owner n : String} {rest : List Value} {Q : Unit → Shared → Prop} (X : K.In s.heap) (I : PySem.W.InstAt s.heap x ox C od) (hk : builtinKind id = some .slot) (hs : splitId id = some (owner, n))
    (ha : argsOk id ⟨.ref x :: rest, []⟩) (hm : PySem.W.mroIn K C (.type owner) = some true) (hq : Q () s) : wpAny M A (checkBuiltinCall id ⟨.ref x :: rest, []⟩) Q E s := by
  simp only [checkBuiltinCall, hk, hs]
  refine wpAny_bind ?_
  unfold isInstance
  refine wpAny_bind (I.type.here ((PySem.W.looks_mroIn X hm).here ?_))
  cases hsig : Manifest.signature? id with
  | none => exact wpAny_pure hq
  | some sig =>
    simp only [argsOk, hsig] at ha
    have h2 : Bind.checkArgs id sig ⟨.ref x :: rest, []⟩ = pure () := ha
    show wpAny M A (Bind.checkArgs id sig ⟨.ref x :: rest, []⟩) Q E _
    rw [h2]
    exact wpAny_pure hq
end
section
variable {prog : Program} {w : World} {A : Around} {E : Value → Shared → Prop} {s : Shared} {K : PySem.W.Frag} {x y C f : Addr} {ox oy : Obj} {od od2 : Option Obj}
theorem objNe_K (X : K.In s.heap) (I : PySem.W.InstAt s.heap x ox C od) (he : PySem.W.findIn K (.ref C) "__eq__" = some (some (.ref f))) (hf : PySem.W.isFn K (.ref f) = true) (hu : A.units < cLine) {Q : PySem.Fin → Shared → Prop}
    (hcall : wpAny (model prog w) A (call (.ref f) [.ref x, .ref y]) (fun v s' => ∃ b, v = .bool b ∧ Q (.done (.ret (.bool (!b)))) s') E s) :
    wpAny (model prog w) A (Builtin.«object.__ne__» ⟨[.ref x, .ref y], []⟩) Q E s := by
  unfold Builtin.«object.__ne__»
  repeat (first
    | with_reducible refine wpAny_cRoomFor hu ?_
    | (refine wpAny_bind (m := callSpecialIfBound? (.ref x) (Str.ofString "__eq__") [.ref y])
        (PySem.W.ifBound_K X I he hf (wpAny_mono hcall (fun r s' hr => by
          obtain ⟨b, rfl, hq⟩ := hr
          repeat (first | exact hq | exact wpAny_pure hq | exact wpAny_truthy_bool hq | (refine wpAny_bind (m := truthy (.bool _)) (wpAny_truthy_bool ?_)) | wp_step)) fun _ _ e => e)))
    | wp_step)
theorem ne_K {Q : Value → Shared → Prop} (hu : A.units + 1 < cLine) (X : K.In s.heap) (I : PySem.W.InstAt s.heap x ox C od) (I2 : PySem.W.InstAt s.heap y oy C od2) (hn : PySem.W.findIn K (.ref C) "__ne__" = some (some (.builtin "object.__ne__"))) (he : PySem.W.findIn K (.ref C) "__eq__" = some (some (.ref f)))
    (hf : PySem.W.isFn K (.ref f) = true) (hm : PySem.W.mroIn K C (.type "object") = some true)
    (h : wpAny (model prog w) A.in1 (call (.ref f) [.ref x, .ref y]) (fun v s' => ∃ b, v = .bool b ∧ Q (.bool (!b)) s') E s) : wpAny (model prog w) A (richCompare .NotEq (.ref x) (.ref y)) Q E s := by
  unfold richCompare
  simp only [oneThing_ref]
  refine wpAny_holding ?_
  refine wpAny_bind (wpAny_cRoomFor (Nat.lt_of_succ_lt hu) ?_)
  rw [cmpInfo_NotEq]
  dsimp only
  refine wpAny_bind (I.type.here (wpAny_bind (I2.type.here ?_)))
  rw [show (Value.ref C != Value.ref C) = false from by simp]
  simp only [Bool.false_eq_true, if_false]
  refine wpAny_bind (wpAny_pure ?_)
  simp only [Bool.false_eq_true, if_false]
  have one : wpAny (model prog w) A (tryCompare (.ref x) "__ne__" (.ref y)) (fun r s' => ∃ b, r = some (.bool b) ∧ Q (.bool b) s') E s := by
    simp only [tryCompare]
    refine wpAny_bind (ifBound_B X I hn F.cmp_object.ne (wpAny_call (codeAny_call_builtin F.cmp_object.ne.plain F.cmpEntry_ne
      (check_slot_K X I F.cmpKind_ne F.cmpSplit_ne (F.cmpArgs_ne _ _) hm
        (objNe_K (A := A.in1) X I he hf hu (wpAny_mono h (fun v s' hv => ?_) fun _ _ e => e))))))
    obtain ⟨b, rfl, hq⟩ := hv
    exact ⟨b, rfl, wpAny_pure ⟨!b, rfl, hq⟩⟩
  refine wpAny_bind (wpAny_mono one (fun r s' hv => ?_) fun _ _ e => e)
  obtain ⟨b, rfl, hq⟩ := hv
  first | exact wpAny_pure hq | exact wpAny_pure (wpAny_pure hq)
end
/-- x == y (neg: x != y), objects of the class at C -/
def rCmpOwn (neg : Bool) (C : Addr) (sp : Sp) : R2 := fun x y H Q => ∃ a b dx dy fs gs, x = .ref a ∧ y = .ref b ∧ H a = some (.ins C dx fs) ∧ H b = some (.ins C dy gs) ∧ sp [.ref a, .ref b] H (fun v H' => ∃ r, v = .bl r ∧ Q (.bl (r != neg)) H') E0
section
variable {X : Cx} {k : Nat} {C : Addr} {ps : List Str} {sp : Sp}
theorem op_eqM (D : DefM X.prog X.w X.K X.mg X.base k C "__eq__" ps sp) (hr : Room k X.A) : OpR X (compareOp .Eq) (rCmpOwn false C sp) := by
  obtain ⟨f, fd, F, hm, ht, hb⟩ := D
  intro pins s σ H x y u v Q I rx ry h
  obtain ⟨a, b, dx, dy, fs, gs, rfl, rfl, ha, hb', h⟩ := h
  cases rx
  cases ry
  obtain ⟨mA, J, _⟩ := ins_get I.hok ha
  obtain ⟨mB, J', _⟩ := ins_get I.hok hb'
  obtain ⟨od, J, _⟩ := J.look
  obtain ⟨od', J', _⟩ := J'.look
  obtain ⟨m, hF⟩ := I.fr
  show wpAny (model X.prog X.w) X.A (richCompare .Eq _ _) (EP X pins σ Q) X.xe s
  refine PySem.W.cmp_K (op := .Eq) (tb := .ref C) hr.units0 hF I.ok.mod.kin J J'.type (by simp [PySem.W.notFirst]) hm.at_ hm.fn ?_
  have hl := F.len _ _ _ _ h
  refine wpAny_call (codeAny_mono (F.run X.A X.stack s H ⟨[.ref a, .ref b], []⟩ [.ref a, .ref b] [.ref a, .ref b] _ E0 hr I.env0 (by
    have := hb s [.ref a, .ref b] I.kIn (by simpa using hl)
    simpa using this) (.cons rfl (.cons rfl .nil)) h) fun r s' hq => ?_)
  match r, hq with
  | .error e, hq => exact pass0 pins σ H s e s' I hq
  | .ok .next, hq => exact hq.elim
  | .ok .brk, hq => exact hq.elim
  | .ok .cont, hq => exact hq.elim
  | .ok (.ret v), hq =>
    obtain ⟨z, H', I', rz, r, rfl, q⟩ := I.after hq
    cases rz
    exact ⟨.bl r, H', I', rfl, by cases r <;> exact q⟩
theorem op_neM (D : DefM X.prog X.w X.K X.mg X.base k C "__eq__" ps sp) (hn : PySem.W.findIn X.K (.ref C) "__ne__" = some (some (.builtin "object.__ne__"))) (ho : PySem.W.mroIn X.K C (.type "object") = some true) (hr : Room (k + 1) X.A) : OpR X (compareOp .NotEq) (rCmpOwn true C sp) := by
  obtain ⟨f, fd, F, hm, ht, hb⟩ := D
  intro pins s σ H x y u v Q I rx ry h
  obtain ⟨a, b, dx, dy, fs, gs, rfl, rfl, ha, hb', h⟩ := h
  cases rx
  cases ry
  obtain ⟨mA, J, _⟩ := ins_get I.hok ha
  obtain ⟨mB, J', _⟩ := ins_get I.hok hb'
  obtain ⟨od, J, _⟩ := J.look
  obtain ⟨od', J', _⟩ := J'.look
  show wpAny (model X.prog X.w) X.A (richCompare .NotEq _ _) (EP X pins σ Q) X.xe s
  refine ne_K (by have := hr.units; omega) I.kIn J J' hn hm.at_ hm.fn ho ?_
  have hl := F.len _ _ _ _ h
  have e0 : Env0 X.prog X.w X.K X.mg X.base X.A.in1 X.stack s H := by
    have e := I.env0
    exact ⟨e.frames, e.mod, e.bs, e.bsz, e.funs, e.frf, e.hok, e.bare⟩
  refine wpAny_call (codeAny_mono (F.run X.A.in1 X.stack s H ⟨[.ref a, .ref b], []⟩ [.ref a, .ref b] [.ref a, .ref b] _ E0 (room_in1 hr) e0 (by
    have := hb s [.ref a, .ref b] I.kIn (by simpa using hl)
    simpa using this) (.cons rfl (.cons rfl .nil)) h) fun r s' hq => ?_)
  match r, hq with
  | .error e, hq => exact pass0 pins σ H s e s' I hq
  | .ok .next, hq => exact hq.elim
  | .ok .brk, hq => exact hq.elim
  | .ok .cont, hq => exact hq.elim
  | .ok (.ret v), hq =>
    obtain ⟨z, H', I', rz, r, rfl, q⟩ := I.after hq
    cases rz
    exact ⟨r, rfl, .bl (!r), H', I', rfl, by cases r <;> exact q⟩
end
/-! ## rules within a block -/
theorem ix_tupK {X : Cx} {K : PySem.W.Frag} (h : X.K = K) : IxR X (rIxT K) := by
  subst h
  exact ix_tup
theorem call_tuple_ofK {X : Cx} {K : PySem.W.Frag} (h : X.K = K) : CallR X (.type "tuple") (fun xs H Q => ∃ p ys, xs = [.ref p] ∧ ((SqL K H p ys ∧ ∀ l, H l = none → Q (.ref l) (upd H l (.tup ys))) ∨ (SqT K H p ys ∧ Q (.ref p) H))) := by
  subst h
  exact call_tuple_of
theorem pi_tupK {X : Cx} {K : PySem.W.Frag} {tg l : Expr} {tl : TE} (h : X.K = K) (hl : PE X l tl) : PI X tg l (iTup K tl) := by
  subst h
  exact pi_tup hl

/-! ## all lots, as the bits of all numbers -/
theorem lotOf_snoc (d : Str) : ∀ (ds : List Str) (m : Nat), lotOf (ds ++ [d]) m = lotOf ds m ++ (if m.testBit ds.length = true then [d] else [])
  | [], m => by
    simp only [List.nil_append, lotOf, List.length_nil]
  | c :: ds, m => by
    have ih := lotOf_snoc d ds (m / 2)
    simp only [List.cons_append, lotOf, List.length_cons, Nat.testBit_succ]
    rw [ih]
    split <;> rfl
theorem lotOf_congr : ∀ {ds : List Str} {m k : Nat}, (∀ i, i < ds.length → m.testBit i = k.testBit i) → lotOf ds m = lotOf ds k
  | [], _, _, _ => rfl
  | d :: ds, m, k, h => by
    simp only [lotOf]
    rw [h 0 (by simp), lotOf_congr (ds := ds) (m := m / 2) (k := k / 2) fun i hi => by
      have := h (i + 1) (by simp only [List.length_cons]; omega)
      rw [Nat.testBit_succ, Nat.testBit_succ] at this
      exact this]
theorem lot_zero : ∀ ds : List Str, lotOf ds 0 = []
  | [] => rfl
  | d :: ds => by
    simp only [lotOf, Nat.zero_testBit]
    exact lot_zero ds
/-- all lots, each device one behind the other -/
def lotsAll (ds : List Str) : List (List Str) := ds.foldl (fun acc d => acc ++ acc.map (· ++ [d])) [[]]
theorem lotsAll_snoc (ds : List Str) (d : Str) : lotsAll (ds ++ [d]) = lotsAll ds ++ (lotsAll ds).map (· ++ [d]) := by
  rw [lotsAll, lotsAll, List.foldl_append]
  rfl
theorem range_double (n : Nat) : List.range (n + n) = List.range n ++ (List.range n).map (n + ·) := List.range_add
theorem lotsAll_range (ds : List Str) : lotsAll ds = (List.range (2 ^ ds.length)).map (lotOf ds) := by
  have key : ∀ (n : Nat) (ds : List Str), ds.length = n → lotsAll ds = (List.range (2 ^ n)).map (lotOf ds) := by
    intro n
    induction n with
    | zero =>
      intro ds h
      rw [List.length_eq_zero_iff.mp h]
      rfl
    | succ n ih =>
      intro ds h
      have hne : ds ≠ [] := fun e => by rw [e] at h; simp at h
      obtain ⟨ds', d, rfl⟩ : ∃ ds' d, ds = ds' ++ [d] := ⟨ds.dropLast, ds.getLast hne, (List.dropLast_concat_getLast hne).symm⟩
      have hl : ds'.length = n := by simpa using h
      rw [lotsAll_snoc, ih ds' hl, show 2 ^ (n + 1) = 2 ^ n + 2 ^ n by rw [Nat.pow_succ]; omega, range_double, List.map_append, List.map_map, List.map_map]
      congr 1
      · refine List.map_congr_left fun m hm => ?_
        have hm := List.mem_range.mp hm
        rw [lotOf_snoc, hl, Nat.testBit_lt_two_pow hm, if_neg Bool.false_ne_true, List.append_nil]
      · refine List.map_congr_left fun m hm => ?_
        have hm := List.mem_range.mp hm
        simp only [Function.comp]
        rw [lotOf_snoc, hl, Nat.testBit_two_pow_add_eq, Nat.testBit_lt_two_pow hm]
        rw [if_pos (by rfl)]
        congr 1
        refine lotOf_congr fun i hi => ?_
        rw [Nat.testBit_two_pow_add_gt (by omega)]
  exact key _ ds rfl
theorem lotOf_inj {ds : List Str} (hn : ds.Nodup) {m k : Nat} (hm : m < 2 ^ ds.length) (hk : k < 2 ^ ds.length) (h : lotOf ds m = lotOf ds k) : m = k := by
  rw [← mask_lot hn hm, h, mask_lot hn hk]
theorem lotsAll_nodup {ds : List Str} (hn : ds.Nodup) : (lotsAll ds).Nodup := by
  rw [lotsAll_range]
  refine List.pairwise_map.mpr ?_
  refine List.Pairwise.imp_of_mem (fun {a b} ha hb hab e => hab (lotOf_inj hn (List.mem_range.mp ha) (List.mem_range.mp hb) e)) List.nodup_range
theorem lotOf_sublist : ∀ (ds : List Str) (m : Nat), (lotOf ds m).Sublist ds
  | [], _ => .slnil
  | d :: ds, m => by
    simp only [lotOf]
    split
    · exact (lotOf_sublist ds _).cons_cons d
    · exact (lotOf_sublist ds _).cons d
theorem lotsAll_mem {ds l : List Str} (h : l ∈ lotsAll ds) : ∃ m, m < 2 ^ ds.length ∧ l = lotOf ds m := by
  rw [lotsAll_range] at h
  obtain ⟨m, hm, rfl⟩ := List.mem_map.mp h
  exact ⟨m, List.mem_range.mp hm, rfl⟩
theorem sub_full {a n : Nat} (h : a < 2 ^ n) : Sub a (2 ^ n - 1) := sub_iff.mpr fun i hi => by
  rw [Nat.testBit_two_pow_sub_one]
  rcases Nat.lt_or_ge i n with hlt | hge
  · exact decide_eq_true hlt
  · rw [Nat.testBit_lt_two_pow (Nat.lt_of_lt_of_le h (Nat.pow_le_pow_right (by decide) hge))] at hi
    cases hi
theorem end_lt {st : List (Nat × Nat)} {m e n : Nat} (h : IsEnd st m e) (hm : m < 2 ^ n) (hs : ∀ p ∈ st, p.2 < 2 ^ n) : e < 2 ^ n := by
  have := (h.least (2 ^ n - 1) (sub_full hm) fun p hp _ => sub_full (hs p hp)).le
  have := Nat.two_pow_pos n
  omega

/-! ## needing lots, as bits; the least base -/
instance decSub (a b : Nat) : Decidable (Sub a b) := inferInstanceAs (Decidable (a &&& b = a))
theorem minus_bit {f g i : Nat} (h : Sub f g) : (g - f).testBit i = (g.testBit i && !f.testBit i) := by
  have h1 := Bits.nat_xor_add_and g f
  have h2 : g &&& f = f := by rw [Nat.and_comm]; exact h
  rw [h2] at h1
  have h3 : g - f = g ^^^ f := by omega
  rw [h3, Nat.testBit_xor]
  cases e : f.testBit i with
  | false => simp
  | true => rw [sub_iff.mp h i e]; rfl
theorem minus_sub {f g : Nat} (h : Sub f g) : Sub (g - f) g := sub_iff.mpr fun i hi => by
  rw [minus_bit h, Bool.and_eq_true] at hi
  exact hi.1
theorem minus_back {f g k : Nat} (h : Sub f g) (h1 : Sub f k) (h2 : Sub (g - f) k) : Sub g k := sub_iff.mpr fun i hi => by
  cases e : f.testBit i with
  | true => exact sub_iff.mp h1 i e
  | false => exact sub_iff.mp h2 i (by rw [minus_bit h, hi, e]; rfl)
section
variable (e : Nat → Nat)
def need : Nat → List Nat
  | 0 => []
  | k + 1 => if e k ≠ k ∧ ∀ f ∈ need k, Sub f k → Sub (e f) k then need k ++ [k] else need k
def isNeed (k : Nat) : Prop := e k ≠ k ∧ ∀ f ∈ need e k, Sub f k → Sub (e f) k
instance decNeed (k : Nat) : Decidable (isNeed e k) := inferInstanceAs (Decidable (e k ≠ k ∧ ∀ f ∈ need e k, Sub f k → Sub (e f) k))
theorem need_succ (k : Nat) : need e (k + 1) = if isNeed e k then need e k ++ [k] else need e k := rfl
theorem need_eq : ∀ k, need e k = (List.range k).filter fun m => decide (isNeed e m)
  | 0 => rfl
  | k + 1 => by
    rw [need_succ, List.range_succ, List.filter_append, need_eq k]
    by_cases h : isNeed e k
    · rw [if_pos h, List.filter_cons_of_pos (by simpa using h)]
      rfl
    · rw [if_neg h, List.filter_cons_of_neg (by simpa using h), List.filter_nil, List.append_nil]
theorem need_mem {f k : Nat} : f ∈ need e k ↔ f < k ∧ isNeed e f := by
  rw [need_eq, List.mem_filter, List.mem_range, decide_eq_true_eq]
theorem isNeed_iff {k : Nat} : isNeed e k ↔ e k ≠ k ∧ ∀ f, isNeed e f → Sub f k → f ≠ k → Sub (e f) k := by
  unfold isNeed
  refine and_congr_right fun _ => ⟨fun h f hf hs hn => ?_, fun h f hf hs => ?_⟩
  · exact h f ((need_mem e).mpr ⟨by have := hs.le; omega, hf⟩) hs
  · obtain ⟨h1, h2⟩ := (need_mem e).mp hf
    exact h f h2 hs (by omega)
/-- what each of the masks below 2 ^ n comes to -/
structure Cl (n : Nat) : Prop where
  up : ∀ m, m < 2 ^ n → Sub m (e m)
  lt : ∀ m, m < 2 ^ n → e m < 2 ^ n
  idem : ∀ m, m < 2 ^ n → e (e m) = e m
  least : ∀ m k, m < 2 ^ n → k < 2 ^ n → Sub m k → e k = k → Sub (e m) k
def stB (n : Nat) : List (Nat × Nat) := (need e (2 ^ n)).map fun m => (m, e m - m)
end
theorem cl_of {st : List (Nat × Nat)} {n : Nat} {e : Nat → Nat} (h : ∀ i, i < 2 ^ n → IsEnd st i (e i) ∧ e i < 2 ^ n) : Cl e n := by
  refine ⟨fun m hm => (h m hm).1.up, fun m hm => (h m hm).2, fun m hm => ?_, fun m k hm hk hs hf => ?_⟩
  · have h1 := (h m hm).1
    have h2 := (h _ (h m hm).2).1
    exact (h2.least _ (Sub.refl _) h1.cl).anti h2.up
  · have h2 := (h k hk).1.cl
    rw [hf] at h2
    exact (h m hm).1.least k hs h2
theorem base_isEnd {e : Nat → Nat} {n m : Nat} (h : Cl e n) (hm : m < 2 ^ n) : IsEnd (stB e n) m (e m) := by
  refine ⟨h.up m hm, ?_, ?_⟩
  · intro p hp hs
    obtain ⟨f, hf, rfl⟩ := List.mem_map.mp hp
    obtain ⟨hlt, _⟩ := (need_mem e).mp hf
    exact (minus_sub (h.up f hlt)).trans (h.least f (e m) hlt (h.lt m hm) hs (h.idem m hm))
  · have key : ∀ k, k < 2 ^ n → Closed (stB e n) k → e k = k := by
      intro k hk hc
      by_cases hn : e k = k
      · exact hn
      have hN : isNeed e k := ⟨hn, fun f hf hs => by
        obtain ⟨hlt, hN⟩ := (need_mem e).mp hf
        have := hc (f, e f - f) (List.mem_map.mpr ⟨f, (need_mem e).mpr ⟨by omega, hN⟩, rfl⟩) hs
        exact minus_back (h.up f (by omega)) hs this⟩
      have := hc (k, e k - k) (List.mem_map.mpr ⟨k, (need_mem e).mpr ⟨hk, hN⟩, rfl⟩) (Sub.refl _)
      exact (minus_back (h.up k hk) (Sub.refl _) this).anti (h.up k hk)
    intro c hs hc
    have hc' : Closed (stB e n) (c &&& (2 ^ n - 1)) := by
      intro p hp hsp
      obtain ⟨f, hf, rfl⟩ := List.mem_map.mp hp
      obtain ⟨hlt, _⟩ := (need_mem e).mp hf
      have h1 : Sub (e f - f) c := hc _ hp (hsp.trans (sub_iff.mpr fun i hi => by
        rw [Nat.testBit_and, Bool.and_eq_true] at hi
        exact hi.1))
      have h2 : Sub (e f - f) (2 ^ n - 1) := sub_full (by have := h.lt f hlt; omega)
      exact sub_iff.mpr fun i hi => by
        rw [Nat.testBit_and, sub_iff.mp h1 i hi, sub_iff.mp h2 i hi]
        rfl
    have hk : c &&& (2 ^ n - 1) < 2 ^ n := by
      have := Nat.and_le_right (n := c) (m := 2 ^ n - 1)
      have := Nat.two_pow_pos n
      omega
    have hmk : Sub m (c &&& (2 ^ n - 1)) := sub_iff.mpr fun i hi => by
      rw [Nat.testBit_and, sub_iff.mp hs i hi, sub_iff.mp (sub_full hm) i hi]
      rfl
    exact (h.least m _ hm hk hmk (key _ hk hc')).trans (sub_iff.mpr fun i hi => by
      rw [Nat.testBit_and, Bool.and_eq_true] at hi
      exact hi.1)
theorem steps_isEnd {e : Nat → Nat} {n m : Nat} {st : List (Nat × Nat)} (h : Cl e n) (h1 : ∀ p ∈ st, ∃ f, f < 2 ^ n ∧ p = (f, e f - f)) (h2 : ∀ k, k < 2 ^ n → e k ≠ k → (k, e k - k) ∈ st) (hm : m < 2 ^ n) : IsEnd st m (e m) := by
  refine ⟨h.up m hm, ?_, ?_⟩
  · intro p hp hs
    obtain ⟨f, hlt, rfl⟩ := h1 p hp
    exact (minus_sub (h.up f hlt)).trans (h.least f (e m) hlt (h.lt m hm) hs (h.idem m hm))
  · have key : ∀ k, k < 2 ^ n → Closed st k → e k = k := by
      intro k hk hc
      by_cases hn : e k = k
      · exact hn
      exact (minus_back (h.up k hk) (Sub.refl _) (hc _ (h2 k hk hn) (Sub.refl _))).anti (h.up k hk)
    intro c hs hc
    have hc' : Closed st (c &&& (2 ^ n - 1)) := by
      intro p hp hsp
      obtain ⟨f, hlt, rfl⟩ := h1 p hp
      have g1 : Sub (e f - f) c := hc _ hp (hsp.trans (sub_iff.mpr fun i hi => by
        rw [Nat.testBit_and, Bool.and_eq_true] at hi
        exact hi.1))
      have g2 : Sub (e f - f) (2 ^ n - 1) := sub_full (by have := h.lt f hlt; omega)
      exact sub_iff.mpr fun i hi => by
        rw [Nat.testBit_and, sub_iff.mp g1 i hi, sub_iff.mp g2 i hi]
        rfl
    have hk : c &&& (2 ^ n - 1) < 2 ^ n := by
      have := Nat.and_le_right (n := c) (m := 2 ^ n - 1)
      have := Nat.two_pow_pos n
      omega
    have hmk : Sub m (c &&& (2 ^ n - 1)) := sub_iff.mpr fun i hi => by
      rw [Nat.testBit_and, sub_iff.mp hs i hi, sub_iff.mp (sub_full hm) i hi]
      rfl
    exact (h.least m _ hm hk hmk (key _ hk hc')).trans (sub_iff.mpr fun i hi => by
      rw [Nat.testBit_and, Bool.and_eq_true] at hi
      exact hi.1)
/-! ### the same of lots -/
theorem subl_filter {l ds : List Str} (h : l.Sublist ds) (n : ds.Nodup) : ds.filter (fun d => decide (d ∈ l)) = l := by
  induction h with
  | slnil => rfl
  | @cons l ds a h ih =>
    obtain ⟨n1, n2⟩ := List.nodup_cons.mp n
    rw [List.filter_cons_of_neg (by simpa using fun z => n1 (h.subset z))]
    exact ih n2
  | @cons_cons l ds a h ih =>
    obtain ⟨n1, n2⟩ := List.nodup_cons.mp n
    rw [List.filter_cons_of_pos (by simp)]
    congr 1
    conv => rhs; rw [← ih n2]
    refine List.filter_congr fun x hx => ?_
    refine decide_eq_decide.mpr ?_
    rw [List.mem_cons]
    exact ⟨fun z => z.elim (fun z => absurd hx (by rw [z]; exact n1)) id, .inr⟩
theorem subl_ext {l m ds : List Str} (n : ds.Nodup) (hl : l.Sublist ds) (hm : m.Sublist ds) (h : ∀ d ∈ ds, d ∈ l ↔ d ∈ m) : l = m := by
  rw [← subl_filter hl n, ← subl_filter hm n]
  exact List.filter_congr fun d hd => decide_eq_decide.mpr (h d hd)
theorem lot_bit {ds : List Str} {m i : Nat} {x : Str} (n : ds.Nodup) (h : ds[i]? = some x) : x ∈ lotOf ds m ↔ m.testBit i = true := by
  rw [lot_mem]
  refine ⟨fun ⟨j, h1, h2⟩ => ?_, fun hb => ⟨i, h, hb⟩⟩
  obtain ⟨hi, _⟩ := List.getElem?_eq_some_iff.mp h
  rw [(List.getElem?_inj hi n).mp (h.trans h1.symm)]
  exact h2
theorem lot_minus {ds : List Str} {f g : Nat} (n : ds.Nodup) (h : Sub f g) : lotOf ds (g - f) = (lotOf ds g).filter fun d => !decide (d ∈ lotOf ds f) := by
  refine subl_ext n (lotOf_sublist _ _) (List.filter_sublist.trans (lotOf_sublist _ _)) fun d hd => ?_
  obtain ⟨i, hi⟩ := List.mem_iff_getElem?.mp hd
  rw [List.mem_filter, lot_bit n hi, lot_bit n hi, minus_bit h, Bool.and_eq_true]
  refine and_congr_right fun _ => ?_
  have := lot_bit (m := f) n hi
  cases e : f.testBit i with
  | true => simp [this, e]
  | false => simp [this, e]
theorem lot_subset {ds : List Str} {f g : Nat} (n : ds.Nodup) (hf : f < 2 ^ ds.length) : (∀ d ∈ lotOf ds f, d ∈ lotOf ds g) ↔ Sub f g := by
  rw [sub_iff]
  refine ⟨fun h i hi => ?_, fun h d hd => ?_⟩
  · have hlt : i < ds.length := by
      rcases Nat.lt_or_ge i ds.length with z | z
      · exact z
      · rw [Nat.testBit_lt_two_pow (Nat.lt_of_lt_of_le hf (Nat.pow_le_pow_right (by decide) z))] at hi
        cases hi
    have hx := List.getElem?_eq_getElem hlt
    exact (lot_bit n hx).mp (h _ ((lot_bit n hx).mpr hi))
  · obtain ⟨i, h1, h2⟩ := lot_mem.mp hd
    exact lot_mem.mpr ⟨i, h1, h i h2⟩
def bunB (ds : List Str) (e : Nat → Nat) (l : List Str) : List Str × List Str := (l, lotOf ds (e (maskOf ds l) - maskOf ds l))
def baseB (ds : List Str) (e : Nat → Nat) : List (List Str × List Str) := (sortTS ((need e (2 ^ ds.length)).map (lotOf ds))).map (bunB ds e)
section
variable {ds : List Str} {e : Nat → Nat}
theorem baseB_mem (n : ds.Nodup) {b : List Str × List Str} : b ∈ baseB ds e ↔ ∃ m, m < 2 ^ ds.length ∧ isNeed e m ∧ b = (lotOf ds m, lotOf ds (e m - m)) := by
  unfold baseB
  rw [List.mem_map]
  constructor
  · rintro ⟨l, hl, rfl⟩
    obtain ⟨m, hm, rfl⟩ := List.mem_map.mp ((sortTS_perm _).mem_iff.mp hl)
    obtain ⟨h1, h2⟩ := (need_mem e).mp hm
    refine ⟨m, h1, h2, ?_⟩
    unfold bunB
    rw [mask_lot n h1]
  · rintro ⟨m, h1, h2, rfl⟩
    refine ⟨lotOf ds m, (sortTS_perm _).mem_iff.mpr (List.mem_map.mpr ⟨m, (need_mem e).mpr ⟨h1, h2⟩, rfl⟩), ?_⟩
    unfold bunB
    rw [mask_lot n h1]
theorem baseB_rows (n : ds.Nodup) (h : Cl e ds.length) : ∀ b ∈ baseB ds e, b.1.Sublist ds ∧ b.2.Sublist ds ∧ b.2 ≠ [] ∧ ∀ d ∈ b.2, d ∉ b.1 := by
  intro b hb
  obtain ⟨m, h1, h2, rfl⟩ := (baseB_mem n).mp hb
  have hl := h.lt m h1
  have hu := h.up m h1
  refine ⟨lotOf_sublist _ _, lotOf_sublist _ _, fun z => ?_, fun d hd => ?_⟩
  · have z' : lotOf ds (e m - m) = lotOf ds 0 := by rw [lot_zero]; exact z
    have := lotOf_inj n (by omega) (Nat.two_pow_pos _) z'
    have := hu.le
    exact h2.1 (by omega)
  · dsimp only at hd
    rw [lot_minus n hu, List.mem_filter] at hd
    simpa using hd.2
theorem baseB_len : (baseB ds e).length ≤ 2 ^ ds.length := by
  unfold baseB
  rw [List.length_map, (sortTS_perm _).length_eq, List.length_map, need_eq]
  exact Nat.le_trans (List.length_filter_le _ _) (by rw [List.length_range]; exact Nat.le_refl _)
theorem baseB_steps (n : ds.Nodup) (h : Cl e ds.length) (p : Nat × Nat) : p ∈ (baseB ds e).map (fun b => (maskOf ds b.1, maskOf ds b.2)) ↔ p ∈ stB e ds.length := by
  unfold stB
  rw [List.mem_map, List.mem_map]
  constructor
  · rintro ⟨b, hb, rfl⟩
    obtain ⟨m, h1, h2, rfl⟩ := (baseB_mem n).mp hb
    have hl := h.lt m h1
    refine ⟨m, (need_mem e).mpr ⟨h1, h2⟩, ?_⟩
    dsimp only
    rw [mask_lot n h1, mask_lot n (by omega)]
  · rintro ⟨m, hm, rfl⟩
    obtain ⟨h1, h2⟩ := (need_mem e).mp hm
    have hl := h.lt m h1
    refine ⟨_, (baseB_mem n).mpr ⟨m, h1, h2, rfl⟩, ?_⟩
    dsimp only
    rw [mask_lot n h1, mask_lot n (by omega)]
theorem baseB_isEnd (n : ds.Nodup) (h : Cl e ds.length) {m : Nat} (hm : m < 2 ^ ds.length) : IsEnd ((baseB ds e).map (fun b => (maskOf ds b.1, maskOf ds b.2))) m (e m) := by
  have k := base_isEnd h hm
  exact ⟨k.up, fun p hp => k.cl p ((baseB_steps n h p).mp hp), fun c hc hcl => k.least c hc fun p hp => hcl p ((baseB_steps n h p).mpr hp)⟩
/-- the law's needing lots -/
theorem need_lots (n : ds.Nodup) : (need e (2 ^ ds.length)).map (lotOf ds) = (lotsAll ds).filter fun l => decide (isNeed e (maskOf ds l)) := by
  rw [lotsAll_range, List.filter_map, need_eq]
  congr 1
  refine List.filter_congr fun m hm => ?_
  dsimp only [Function.comp]
  rw [mask_lot n (List.mem_range.mp hm)]
theorem baseB_law (n : ds.Nodup) (h : Cl e ds.length) : baseB ds e = (sortTS ((lotsAll ds).filter fun l => decide (isNeed e (maskOf ds l)))).map fun l => (l, (lotOf ds (e (maskOf ds l))).filter fun d => !decide (d ∈ l)) := by
  unfold baseB
  rw [need_lots n]
  refine List.map_congr_left fun l hl => ?_
  have hm := (sortTS_perm _).mem_iff.mp hl
  obtain ⟨m, h1, rfl⟩ := lotsAll_mem (List.mem_filter.mp hm).1
  unfold bunB
  rw [mask_lot n h1, lot_minus n (h.up m h1)]
/-- the bundles of a whole table -/
def tabB (ds : List Str) (e : Nat → Nat) : List (List Str × List Str) := ((sortTS (lotsAll ds)).filter fun l => !decide (lotOf ds (e (maskOf ds l)) = l)).map fun l => (l, (lotOf ds (e (maskOf ds l))).filter fun d => !decide (d ∈ l))
theorem tabB_mem (n : ds.Nodup) (h : Cl e ds.length) {b : List Str × List Str} : b ∈ tabB ds e ↔ ∃ m, m < 2 ^ ds.length ∧ e m ≠ m ∧ b = (lotOf ds m, lotOf ds (e m - m)) := by
  unfold tabB
  rw [List.mem_map]
  constructor
  · rintro ⟨l, hl, rfl⟩
    obtain ⟨h1, h2⟩ := List.mem_filter.mp hl
    obtain ⟨m, hm, rfl⟩ := lotsAll_mem ((sortTS_perm _).mem_iff.mp h1)
    rw [mask_lot n hm] at h2
    refine ⟨m, hm, fun z => ?_, ?_⟩
    · rw [z] at h2
      simp at h2
    · rw [mask_lot n hm, lot_minus n (h.up m hm)]
  · rintro ⟨m, hm, hne, rfl⟩
    refine ⟨lotOf ds m, List.mem_filter.mpr ⟨(sortTS_perm _).mem_iff.mpr (by rw [lotsAll_range]; exact List.mem_map.mpr ⟨m, List.mem_range.mpr hm, rfl⟩), ?_⟩, ?_⟩
    · rw [mask_lot n hm]
      have : ¬ lotOf ds (e m) = lotOf ds m := fun z => hne (lotOf_inj n (h.lt m hm) hm z)
      simpa using this
    · rw [mask_lot n hm, lot_minus n (h.up m hm)]
theorem tabB_rows (n : ds.Nodup) (h : Cl e ds.length) : ∀ b ∈ tabB ds e, b.1.Sublist ds ∧ b.2.Sublist ds ∧ b.2 ≠ [] ∧ ∀ d ∈ b.2, d ∉ b.1 := by
  intro b hb
  obtain ⟨m, h1, h2, rfl⟩ := (tabB_mem n h).mp hb
  have hl := h.lt m h1
  have hu := h.up m h1
  refine ⟨lotOf_sublist _ _, lotOf_sublist _ _, fun z => ?_, fun d hd => ?_⟩
  · have z' : lotOf ds (e m - m) = lotOf ds 0 := by rw [lot_zero]; exact z
    have := lotOf_inj n (by omega) (Nat.two_pow_pos _) z'
    have := hu.le
    exact h2 (by omega)
  · dsimp only at hd
    rw [lot_minus n hu, List.mem_filter] at hd
    simpa using hd.2
theorem tabB_isEnd (n : ds.Nodup) (h : Cl e ds.length) {m : Nat} (hm : m < 2 ^ ds.length) {bs : List (List Str × List Str)} (hb : ∀ b, b ∈ bs ↔ b ∈ tabB ds e) : IsEnd (bs.map (fun b => (maskOf ds b.1, maskOf ds b.2))) m (e m) := by
  refine steps_isEnd h (fun p hp => ?_) (fun k hk hne => ?_) hm
  · obtain ⟨b, hb', rfl⟩ := List.mem_map.mp hp
    obtain ⟨f, h1, h2, rfl⟩ := (tabB_mem n h).mp ((hb b).mp hb')
    have hl := h.lt f h1
    refine ⟨f, h1, ?_⟩
    dsimp only
    rw [mask_lot n h1, mask_lot n (by omega)]
  · have hl := h.lt k hk
    refine List.mem_map.mpr ⟨_, (hb _).mpr ((tabB_mem n h).mpr ⟨k, hk, hne, rfl⟩), ?_⟩
    dsimp only
    rw [mask_lot n hk, mask_lot n (by omega)]
theorem tabB_len : (tabB ds e).length ≤ 2 ^ ds.length := by
  unfold tabB
  rw [List.length_map]
  refine Nat.le_trans (List.length_filter_le _ _) ?_
  rw [(sortTS_perm _).length_eq, lotsAll_range, List.length_map, List.length_range]
  exact Nat.le_refl _
theorem base_le_tab (n : ds.Nodup) (h : Cl e ds.length) : (baseB ds e).length ≤ (tabB ds e).length := by
  unfold baseB tabB
  rw [List.length_map, List.length_map, (sortTS_perm _).length_eq, need_lots n, ((sortTS_perm (lotsAll ds)).filter _).length_eq]
  have : ((lotsAll ds).filter fun l => decide (isNeed e (maskOf ds l))) = ((lotsAll ds).filter fun l => !decide (lotOf ds (e (maskOf ds l)) = l)).filter fun l => decide (isNeed e (maskOf ds l)) := by
    rw [List.filter_filter]
    refine List.filter_congr fun l hl => ?_
    obtain ⟨m, hm, rfl⟩ := lotsAll_mem hl
    rw [mask_lot n hm]
    by_cases q : isNeed e m
    · have : ¬ lotOf ds (e m) = lotOf ds m := fun z => q.1 (lotOf_inj n (h.lt m hm) hm z)
      simp [q, this]
    · simp [q]
  rw [this]
  exact List.length_filter_le _ _
/-- one turn of the law's walk over the lots by length -/
theorem need_turn (n : ds.Nodup) (h : Cl e ds.length) {zs : List (List Str)} (hz : zs.Perm (lotsAll ds)) (hs : zs.Pairwise fun a b => a.length ≤ b.length) {i : Nat} {l : List Str} (hl : zs[i]? = some l) :
    (lotOf ds (e (maskOf ds l)) ≠ l ∧ ∀ o ∈ (zs.take i).filter (fun l => decide (isNeed e (maskOf ds l))), o.length < l.length → (∀ d ∈ o, d ∈ l) → ∀ d ∈ lotOf ds (e (maskOf ds o)), d ∈ l) ↔ isNeed e (maskOf ds l) := by
  have hm := hz.mem_iff.mp (List.mem_of_getElem? hl)
  obtain ⟨m, h1, rfl⟩ := lotsAll_mem hm
  rw [isNeed_iff, mask_lot n h1]
  refine and_congr ⟨fun k z => k (by rw [z]), fun k z => k (lotOf_inj n (h.lt m h1) h1 z)⟩ ⟨fun k f hf hsf hne => ?_, fun k o ho hlo hso d hd => ?_⟩
  · have hlt : f < 2 ^ ds.length := Nat.lt_of_le_of_lt hsf.le h1
    refine (lot_subset n (h.lt f hlt)).mp ?_
    have hsub := (lot_subset n hlt).mpr hsf
    have hlen : (lotOf ds f).length < (lotOf ds m).length := by
      have hsl : (lotOf ds f).Sublist (lotOf ds m) := by
        have e1 := subl_filter (lotOf_sublist ds f) n
        have e2 := subl_filter (lotOf_sublist ds m) n
        rw [← e1, ← e2]
        have : (ds.filter fun d => decide (d ∈ lotOf ds f)) = (ds.filter fun d => decide (d ∈ lotOf ds m)).filter fun d => decide (d ∈ lotOf ds f) := by
          rw [List.filter_filter]
          refine List.filter_congr fun d _ => ?_
          by_cases q : d ∈ lotOf ds f
          · simp [q, hsub d q]
          · simp [q]
        rw [this]
        exact List.filter_sublist
      rcases Nat.lt_or_ge (lotOf ds f).length (lotOf ds m).length with z | z
      · exact z
      · exact absurd (lotOf_inj n hlt h1 (hsl.eq_of_length_le z)) hne
    have hin : lotOf ds f ∈ zs := hz.mem_iff.mpr (by rw [lotsAll_range]; exact List.mem_map.mpr ⟨f, List.mem_range.mpr hlt, rfl⟩)
    obtain ⟨j, hj⟩ := List.mem_iff_getElem?.mp hin
    have hji : j < i := by
      rcases Nat.lt_or_ge j i with z | z
      · exact z
      obtain ⟨hjl, ej⟩ := List.getElem?_eq_some_iff.mp hj
      obtain ⟨hil, ei⟩ := List.getElem?_eq_some_iff.mp hl
      rcases Nat.eq_or_lt_of_le z with z | z
      · subst z
        rw [ei] at ej
        rw [ej] at hlen
        omega
      · have := List.pairwise_iff_getElem.mp hs i j hil hjl z
        rw [ei, ej] at this
        omega
    have hmem : lotOf ds f ∈ (zs.take i).filter (fun l => decide (isNeed e (maskOf ds l))) := by
      refine List.mem_filter.mpr ⟨List.mem_of_getElem? (i := j) (by rw [List.getElem?_take_of_lt hji]; exact hj), ?_⟩
      rw [mask_lot n hlt]
      exact decide_eq_true hf
    have := k _ hmem hlen hsub
    rw [mask_lot n hlt] at this
    exact this
  · obtain ⟨ho1, ho2⟩ := List.mem_filter.mp ho
    have hoz := hz.mem_iff.mp (List.mem_of_mem_take ho1)
    obtain ⟨f, hf, rfl⟩ := lotsAll_mem hoz
    rw [mask_lot n hf] at ho2 hd
    exact (lot_subset n (h.lt f hf)).mpr (k f (of_decide_eq_true ho2) ((lot_subset n hf).mp hso) (fun z => by rw [z] at hlo; omega)) d hd
end

/-! ## comprehensions, all in one place -/
theorem Same.sqL {K : PySem.W.Frag} {l : Addr} {H H' : Hp} {xs : List V} (sa : Same H H') (s : SqL K H l xs) : SqL K H' l xs := by
  rcases s with (s | ⟨o, s⟩) | s
  · exact .inl (.inl (sa _ _ s))
  · exact .inl (.inr ⟨o, sa _ _ s⟩)
  · exact .inr s
section
variable {K : PySem.W.Frag} {σ : L2.St} {H1 : Hp}
/-- [f(x) for x in xs if c(x)], xs a tuple -/
theorem w_lcTF {i : Nat} {ti : TE} {a : Addr} {xs : List V} {tt : TT} {te : TE} {vs : List Nat} {Q : VK} (c : V → Bool) (f : V → V) (hi : ∀ R : VK, R (.ref a) H1 → ti σ H1 R) (hq : SqT K H1 a xs) (hn : xs.length ≤ 1000)
    (hw : ∀ x, wipe ((wipe σ vs).set i (some x)) vs = wipe σ vs)
    (ht : ∀ x H' R, x ∈ xs → Same H1 H' → R (c x) H' → tt ((wipe σ vs).set i (some x)) H' R)
    (he : ∀ x H' (R : VK), x ∈ xs → Same H1 H' → R (f x) H' → te ((wipe σ vs).set i (some x)) H' R)
    (go : ∀ D H', H1 D = none → Same H1 H' → H' D = some (.lst ((xs.filter c).map f)) → Q (.ref D) H') :
    tLc (iTup K ti) (gName i) tt te vs σ H1 Q := by
  refine hi _ ⟨a, rfl, ⟨_, hq⟩, fun D hD => ?_⟩
  refine lc_tup (xs := xs) (fun n H' => Same H1 H' ∧ H' D = some (.lst (((xs.take n).filter c).map f))) ⟨Same.upd2 (Same.refl _) hD, upd_same⟩ (fun _ _ _ p => Same.sqT p.1 hq) ?_ ?_
  · rintro n x H' hx ⟨s, e⟩
    have hlt := (List.getElem?_eq_some_iff.mp hx).1
    have hm : x ∈ xs := List.mem_of_getElem? hx
    have et : xs.take (n + 1) = xs.take n ++ [x] := by rw [List.take_succ, hx]; rfl
    refine ⟨hw x, ht x _ _ hm s (iteB (fun hc => he x _ _ hm s ⟨_, e, ?_, Same.upd2 s hD, ?_⟩) fun hc => ⟨s, ?_⟩)⟩
    · have h1 := List.length_filter_le c (xs.take n)
      rw [List.length_map, sizeLine_eq]
      have h2 : (xs.take n).length ≤ n := by rw [List.length_take]; exact Nat.min_le_left _ _
      omega
    · rw [upd_same, et, List.filter_append, List.map_append, List.filter_cons_of_pos hc]
      rfl
    · rw [e, et, List.filter_append, List.filter_cons_of_neg (by rw [hc]; exact Bool.false_ne_true), List.filter_nil, List.append_nil]
  · rintro H' ⟨s, e⟩
    rw [List.take_length] at e
    exact go D H' hD s e
end
section
variable {K : PySem.W.Frag} {σ : L2.St} {H1 : Hp}
/-- [f(x) for x in xs], xs a list, the items made by calls -/
theorem w_lcLG {β : Type} {i : Nat} {ti : TE} {a : Addr} {xs : List V} {te : TE} {vs : List Nat} {Q : VK} {bs : List β} (F : V → β → Hp → Prop) (kp : ∀ y b H H', F y b H → Same H H' → F y b H')
    (kd : ∀ y b H D ys zs, F y b H → H1 D = none → H D = some (.lst ys) → F y b (upd H D (.lst zs)))
    (hi : ∀ R : VK, R (.ref a) H1 → ti σ H1 R) (hq : SqL K H1 a xs) (hn : xs.length ≤ 100000) (hl : xs.length = bs.length)
    (hw : ∀ x, wipe ((wipe σ vs).set i (some x)) vs = wipe σ vs)
    (he : ∀ (n : Nat) x b H' (R : VK), xs[n]? = some x → bs[n]? = some b → Same H1 H' → (∀ y H'', Same H' H'' → F y b H'' → R y H'') → te ((wipe σ vs).set i (some x)) H' R)
    (go : ∀ D H' ys, H1 D = none → Same H1 H' → H' D = some (.lst ys) → Paired (fun y b => F y b H') ys bs → Q (.ref D) H') :
    tLc (iList K ti) (gName i) tYes te vs σ H1 Q := by
  refine hi _ ⟨a, rfl, ⟨_, hq⟩, fun D hD => ?_⟩
  refine lc_list (xs := xs) (fun n H' => Same H1 H' ∧ ∃ ys, H' D = some (.lst ys) ∧ Paired (fun y b => F y b H') ys (bs.take n)) ⟨Same.upd2 (Same.refl _) hD, [], upd_same, .nil⟩ (fun _ _ _ p => Same.sqL p.1 hq) ?_ ?_
  · rintro n x H' hx ⟨s, ys, e, hp⟩
    have hlt := (List.getElem?_eq_some_iff.mp hx).1
    have hb : bs[n]? = some (bs[n]'(by omega)) := List.getElem?_eq_getElem _
    generalize bs[n]'(by omega) = b at hb
    have et : bs.take (n + 1) = bs.take n ++ [b] := by rw [List.take_succ, hb]; rfl
    refine ⟨hw x, iteT (B := Same H1 H' ∧ ∃ ys, H' D = some (.lst ys) ∧ Paired (fun y b => F y b H') ys (bs.take (n + 1))) (he n x b H' _ hx hb s fun y H'' s2 hy => ⟨ys, s2 _ _ e, ?_, Same.upd2 (s.trans s2) hD, ys ++ [y], upd_same, ?_⟩)⟩
    · have := Paired.length hp
      rw [List.length_take] at this
      rw [sizeLine_eq]
      omega
    · rw [et]
      have e2 := s2 _ _ e
      exact Wk.Paired.app (Paired.mapP hp fun y b h => kd _ _ _ D ys _ (kp _ _ _ _ h s2) hD e2) (.cons (kd _ _ _ D ys _ hy hD e2) .nil)
  · rintro H' ⟨s, ys, e, hp⟩
    rw [hl, List.take_length] at hp
    exact go D H' ys hD s e hp
end
/-! ## comprehensions over lists, with a test -/
section
variable {K : PySem.W.Frag} {σ : L2.St} {H1 : Hp}
theorem w_lcLP {β : Type} {i : Nat} {ti : TE} {a : Addr} {xs : List V} {tt : TT} {te : TE} {vs : List Nat} {Q : VK} {bs : List β} (F : V → β → Hp → Prop) (f : β → Bool) (kp : ∀ y b H H', F y b H → Same H H' → F y b H')
    (kd : ∀ y b H D ys zs, F y b H → H1 D = none → H D = some (.lst ys) → F y b (upd H D (.lst zs)))
    (hi : ∀ R : VK, R (.ref a) H1 → ti σ H1 R) (hq : SqL K H1 a xs) (hn : xs.length ≤ 100000) (hl : xs.length = bs.length)
    (hw : ∀ x, wipe ((wipe σ vs).set i (some x)) vs = wipe σ vs)
    (ht : ∀ (n : Nat) x b H' R, xs[n]? = some x → bs[n]? = some b → Same H1 H' → R (f b) H' → tt ((wipe σ vs).set i (some x)) H' R)
    (he : ∀ (n : Nat) x b H' (R : VK), xs[n]? = some x → bs[n]? = some b → f b = true → Same H1 H' → (∀ y H'', Same H' H'' → F y b H'' → R y H'') → te ((wipe σ vs).set i (some x)) H' R)
    (go : ∀ D H' ys, H1 D = none → Same H1 H' → H' D = some (.lst ys) → Paired (fun y b => F y b H') ys (bs.filter f) → Q (.ref D) H') :
    tLc (iList K ti) (gName i) tt te vs σ H1 Q := by
  refine hi _ ⟨a, rfl, ⟨_, hq⟩, fun D hD => ?_⟩
  refine lc_list (xs := xs) (fun n H' => Same H1 H' ∧ ∃ ys, H' D = some (.lst ys) ∧ Paired (fun y b => F y b H') ys ((bs.take n).filter f)) ⟨Same.upd2 (Same.refl _) hD, [], upd_same, .nil⟩ (fun _ _ _ p => Same.sqL p.1 hq) ?_ ?_
  · rintro n x H' hx ⟨s, ys, e, hp⟩
    have hlt := (List.getElem?_eq_some_iff.mp hx).1
    have hb : bs[n]? = some (bs[n]'(by omega)) := List.getElem?_eq_getElem _
    generalize bs[n]'(by omega) = b at hb
    have et : bs.take (n + 1) = bs.take n ++ [b] := by rw [List.take_succ, hb]; rfl
    refine ⟨hw x, ht n x b H' _ hx hb s ?_⟩
    refine iteB (fun hc => he n x b H' _ hx hb hc s fun y H'' s2 hy => ⟨ys, s2 _ _ e, ?_, Same.upd2 (s.trans s2) hD, ys ++ [y], upd_same, ?_⟩) fun hc => ⟨s, ys, e, ?_⟩
    · have h1 := Paired.length hp
      have h2 := List.length_filter_le f (bs.take n)
      rw [List.length_take] at h2
      rw [sizeLine_eq]
      omega
    · rw [et, List.filter_append, List.filter_cons_of_pos hc, List.filter_nil]
      have e2 := s2 _ _ e
      exact Wk.Paired.app (Paired.mapP hp fun y b h => kd _ _ _ D ys _ (kp _ _ _ _ h s2) hD e2) (.cons (kd _ _ _ D ys _ hy hD e2) .nil)
    · rw [et, List.filter_append, List.filter_cons_of_neg (by rw [hc]; exact Bool.false_ne_true), List.filter_nil, List.append_nil]
      exact hp
  · rintro H' ⟨s, ys, e, hp⟩
    rw [hl, List.take_length] at hp
    exact go D H' ys hD s e hp
end
theorem w_lcHd {K : PySem.W.Frag} {σ : L2.St} {H1 : Hp} {ti : TE} {g : TG} {tt : TT} {te : TE} {vs : List Nat} {Q : VK} (k : ti σ H1 fun v H2 => tLc (iList K (tC v)) g tt te vs σ H2 Q) : tLc (iList K ti) g tt te vs σ H1 Q := k
theorem w_lcHdT {K : PySem.W.Frag} {σ : L2.St} {H1 : Hp} {ti : TE} {g : TG} {tt : TT} {te : TE} {vs : List Nat} {Q : VK} (k : ti σ H1 fun v H2 => tLc (iTup K (tC v)) g tt te vs σ H2 Q) : tLc (iTup K ti) g tt te vs σ H1 Q := k
theorem iteT' {c : Bool} {A B : Prop} (h : c = true) (k : A) : if c = true then A else B := by rw [if_pos h]; exact k
theorem iteF' {c : Bool} {A B : Prop} (h : c = false) (k : B) : if c = true then A else B := by rw [if_neg (by rw [h]; exact Bool.false_ne_true)]; exact k
theorem paired_mapR {α β γ : Type} {R : α → γ → Prop} {g : β → γ} : ∀ {ys : List α} {bs : List β}, Paired (fun y b => R y (g b)) ys bs → Paired R ys (bs.map g)
  | _, _, .nil => .nil
  | _, _, .cons h t => .cons h (paired_mapR t)
theorem paired_maps {α β γ : Type} {R : β → γ → Prop} {f : α → β} {g : α → γ} : ∀ {l : List α}, (∀ a ∈ l, R (f a) (g a)) → Paired R (l.map f) (l.map g)
  | [], _ => .nil
  | a :: l, h => .cons (h a (.head _)) (paired_maps fun b hb => h b (.tail _ hb))
theorem paired_zip {α β : Type} {R : α → β → Prop} : ∀ {xs : List α} {ys : List β}, Paired R xs ys → (xs.zip ys).map Prod.fst = xs ∧ (xs.zip ys).map Prod.snd = ys ∧ ∀ p ∈ xs.zip ys, R p.1 p.2
  | _, _, .nil => ⟨rfl, rfl, fun _ h => absurd h (by simp)⟩
  | _, _, .cons h t => by
    obtain ⟨h1, h2, h3⟩ := paired_zip t
    refine ⟨by rw [List.zip_cons_cons, List.map_cons, h1], by rw [List.zip_cons_cons, List.map_cons, h2], fun p hp => ?_⟩
    rcases List.mem_cons.mp hp with rfl | hp
    · exact h
    · exact h3 p hp
/-- [e for x in xs if t], where the test may make objects -/
theorem w_lcLQ {K : PySem.W.Frag} {σ : L2.St} {H1 : Hp} {β : Type} {i : Nat} {ti : TE} {a : Addr} {xs : List V} {tt : TT} {te : TE} {vs : List Nat} {Q : VK} {bs : List β} (F : V → β → Hp → Prop) (f : β → Bool) (kp : ∀ y b H H', F y b H → Same H H' → F y b H')
    (kd : ∀ y b H D ys zs, F y b H → H1 D = none → H D = some (.lst ys) → F y b (upd H D (.lst zs)))
    (hi : ∀ R : VK, R (.ref a) H1 → ti σ H1 R) (hq : SqL K H1 a xs) (hn : xs.length ≤ 100000) (hl : xs.length = bs.length)
    (hw : ∀ x, wipe ((wipe σ vs).set i (some x)) vs = wipe σ vs)
    (ht : ∀ (n : Nat) x b H' R, xs[n]? = some x → bs[n]? = some b → Same H1 H' → (∀ H'', Same H' H'' → R (f b) H'') → tt ((wipe σ vs).set i (some x)) H' R)
    (he : ∀ (n : Nat) x b H' (R : VK), xs[n]? = some x → bs[n]? = some b → f b = true → Same H1 H' → (∀ y H'', Same H' H'' → F y b H'' → R y H'') → te ((wipe σ vs).set i (some x)) H' R)
    (go : ∀ D H' ys, H1 D = none → Same H1 H' → H' D = some (.lst ys) → Paired (fun y b => F y b H') ys (bs.filter f) → Q (.ref D) H') :
    tLc (iList K ti) (gName i) tt te vs σ H1 Q := by
  refine hi _ ⟨a, rfl, ⟨_, hq⟩, fun D hD => ?_⟩
  refine lc_list (xs := xs) (fun n H' => Same H1 H' ∧ ∃ ys, H' D = some (.lst ys) ∧ Paired (fun y b => F y b H') ys ((bs.take n).filter f)) ⟨Same.upd2 (Same.refl _) hD, [], upd_same, .nil⟩ (fun _ _ _ p => Same.sqL p.1 hq) ?_ ?_
  · rintro n x H' hx ⟨s, ys, e, hp⟩
    have hlt := (List.getElem?_eq_some_iff.mp hx).1
    have hb : bs[n]? = some (bs[n]'(by omega)) := List.getElem?_eq_getElem _
    generalize bs[n]'(by omega) = b at hb
    have et : bs.take (n + 1) = bs.take n ++ [b] := by rw [List.take_succ, hb]; rfl
    refine ⟨hw x, ht n x b H' _ hx hb s fun H0 s0 => ?_⟩
    have sS := s.trans s0
    have hp0 := Paired.mapP hp fun y b h => kp y b H' H0 h s0
    have e0 := s0 _ _ e
    refine iteB (fun hc => he n x b H0 _ hx hb hc sS fun y H'' s2 hy => ⟨ys, s2 _ _ e0, ?_, Same.upd2 (sS.trans s2) hD, ys ++ [y], upd_same, ?_⟩) fun hc => ⟨sS, ys, e0, ?_⟩
    · have h1 := Paired.length hp
      have h2 := List.length_filter_le f (bs.take n)
      rw [List.length_take] at h2
      rw [sizeLine_eq]
      omega
    · rw [et, List.filter_append, List.filter_cons_of_pos hc, List.filter_nil]
      have e2 := s2 _ _ e0
      exact Wk.Paired.app (Paired.mapP hp0 fun y b h => kd _ _ _ D ys _ (kp _ _ _ _ h s2) hD e2) (.cons (kd _ _ _ D ys _ hy hD e2) .nil)
    · rw [et, List.filter_append, List.filter_cons_of_neg (by rw [hc]; exact Bool.false_ne_true), List.filter_nil, List.append_nil]
      exact hp0
  · rintro H' ⟨s, ys, e, hp⟩
    rw [hl, List.take_length] at hp
    exact go D H' ys hD s e hp
/-- the same over a tuple -/
theorem w_lcTQ {K : PySem.W.Frag} {σ : L2.St} {H1 : Hp} {β : Type} {i : Nat} {ti : TE} {a : Addr} {xs : List V} {tt : TT} {te : TE} {vs : List Nat} {Q : VK} {bs : List β} (F : V → β → Hp → Prop) (f : β → Bool) (kp : ∀ y b H H', F y b H → Same H H' → F y b H')
    (kd : ∀ y b H D ys zs, F y b H → H1 D = none → H D = some (.lst ys) → F y b (upd H D (.lst zs)))
    (hi : ∀ R : VK, R (.ref a) H1 → ti σ H1 R) (hq : SqT K H1 a xs) (hn : xs.length ≤ 100000) (hl : xs.length = bs.length)
    (hw : ∀ x, wipe ((wipe σ vs).set i (some x)) vs = wipe σ vs)
    (ht : ∀ (n : Nat) x b H' R, xs[n]? = some x → bs[n]? = some b → Same H1 H' → (∀ H'', Same H' H'' → R (f b) H'') → tt ((wipe σ vs).set i (some x)) H' R)
    (he : ∀ (n : Nat) x b H' (R : VK), xs[n]? = some x → bs[n]? = some b → f b = true → Same H1 H' → (∀ y H'', Same H' H'' → F y b H'' → R y H'') → te ((wipe σ vs).set i (some x)) H' R)
    (go : ∀ D H' ys, H1 D = none → Same H1 H' → H' D = some (.lst ys) → Paired (fun y b => F y b H') ys (bs.filter f) → Q (.ref D) H') :
    tLc (iTup K ti) (gName i) tt te vs σ H1 Q := by
  refine hi _ ⟨a, rfl, ⟨_, hq⟩, fun D hD => ?_⟩
  refine lc_tup (xs := xs) (fun n H' => Same H1 H' ∧ ∃ ys, H' D = some (.lst ys) ∧ Paired (fun y b => F y b H') ys ((bs.take n).filter f)) ⟨Same.upd2 (Same.refl _) hD, [], upd_same, .nil⟩ (fun _ _ _ p => Same.sqT p.1 hq) ?_ ?_
  · rintro n x H' hx ⟨s, ys, e, hp⟩
    have hlt := (List.getElem?_eq_some_iff.mp hx).1
    have hb : bs[n]? = some (bs[n]'(by omega)) := List.getElem?_eq_getElem _
    generalize bs[n]'(by omega) = b at hb
    have et : bs.take (n + 1) = bs.take n ++ [b] := by rw [List.take_succ, hb]; rfl
    refine ⟨hw x, ht n x b H' _ hx hb s fun H0 s0 => ?_⟩
    have sS := s.trans s0
    have hp0 := Paired.mapP hp fun y b h => kp y b H' H0 h s0
    have e0 := s0 _ _ e
    refine iteB (fun hc => he n x b H0 _ hx hb hc sS fun y H'' s2 hy => ⟨ys, s2 _ _ e0, ?_, Same.upd2 (sS.trans s2) hD, ys ++ [y], upd_same, ?_⟩) fun hc => ⟨sS, ys, e0, ?_⟩
    · have h1 := Paired.length hp
      have h2 := List.length_filter_le f (bs.take n)
      rw [List.length_take] at h2
      rw [sizeLine_eq]
      omega
    · rw [et, List.filter_append, List.filter_cons_of_pos hc, List.filter_nil]
      have e2 := s2 _ _ e0
      exact Wk.Paired.app (Paired.mapP hp0 fun y b h => kd _ _ _ D ys _ (kp _ _ _ _ h s2) hD e2) (.cons (kd _ _ _ D ys _ hy hD e2) .nil)
    · rw [et, List.filter_append, List.filter_cons_of_neg (by rw [hc]; exact Bool.false_ne_true), List.filter_nil, List.append_nil]
      exact hp0
  · rintro H' ⟨s, ys, e, hp⟩
    rw [hl, List.take_length] at hp
    exact go D H' ys hD s e hp

local macro_rules | `(tactic| walk_at "hp") => `(tactic| first
  | assumption
  | exact upd_same
  | exact upd_get (by assumption) (by walk_at "hp")
  | exact upd_get2 (by first | assumption | exact Ne.symm (by assumption)) (by walk_at "hp"))
local macro_rules | `(tactic| walk_at "sq") => `(tactic| first
  | assumption
  | exact SqL.of (by walk_at "hp")
  | exact SqT.of (by walk_at "hp"))
local macro_rules | `(tactic| walk_at "sz") => `(tactic| exact Nat.le_of_ble_eq_true (by kernel_rfl))
local macro_rules | `(tactic| walk_at "c") => `(tactic| first
  | ((with_unfolding_all show (_ : Int) ≠ 0); first | omega | decide | decide +kernel)
  | exact c_mul1 (by omega) (by omega) | exact c_mul2 (by omega) (by omega) | exact c_div (by omega) (by omega)
  | exact c_pow (by omega) (by omega) (by omega) | exact c_powW (by decide +kernel))
local macro_rules | `(tactic| walk_at "w1") => `(tactic| (with_reducible first
  | refine w_C ?_ | (refine' w_var ?h ?_; (case h => with_unfolding_all rfl)) | refine w_op ?_ | refine w_un ?_ | refine w_seq ?_ | refine w_asg ?_ | refine w_ret ?_ | refine w_retN ?_ | refine w_drop ?_ | refine w_next ?_
  | refine w_ifS ?_ | refine iteF ?_ | refine iteT ?_ | refine w_test ?_ | refine w_B ?_ | refine w_bl ?_ | refine w_and ?_ | refine w_or ?_ | refine w_not ?_ | refine w_if ?_ | refine w_andV ?_ | refine w_orV ?_ | refine w_notV ?_
  | refine w_cb ?_ | refine w_nil ?_ | refine w_cons ?_ | refine w_tup ?_ | refine w_lst ?_ | refine w_lstN ?_ | refine w_call ?_ | refine w_sl ?_ | refine w_nopart ?_ | refine w_part ?_ | refine w_isint ?_
  | refine w_gname ?_ | refine w_gsub ?_ | refine w_I0 ?_ | (refine' w_I ?c ?_; (case c => walk_at "c")) | refine w_U ?_ | refine w_lt ?_ | refine w_ij ?_ | refine w_int ?_ | refine w_intb ?_ | refine w_abs ?_ | refine w_lstRg ?_ | refine w_rg1 ?_ | refine w_rg2 ?_ | refine w_max ?_
  | (refine' w_newN ?z (fun p hp hm => ?_); (case z => walk_at "sz")) | (refine' w_new ?z (fun p hp => ?_); (case z => walk_at "sz"))
  | (refine' w_ixL ?h ?v ?_; (case h => walk_at "sq"); (case v => with_unfolding_all rfl))
  | (refine' w_ixT ?h ?v ?_; (case h => walk_at "sq"); (case v => with_unfolding_all rfl))
  | (refine' w_setL ?h ?v ?_; (case h => walk_at "hp"); (case v => with_unfolding_all rfl))
  | (refine' w_lenL ?h ?_; (case h => walk_at "sq")) | (refine' w_lenT ?h ?_; (case h => walk_at "sq"))))
local macro_rules | `(tactic| walk_at "w") => `(tactic| repeat (walk_at "w1"))
local macro_rules | `(tactic| walk_at "v1") => `(tactic| (with_reducible first
  | refine w_C ?_ | (refine' w_var ?h ?_; (case h => with_unfolding_all rfl)) | refine w_op ?_ | refine w_un ?_ | refine w_seq ?_ | refine w_asg ?_ | refine w_ret ?_ | refine w_retN ?_ | refine w_drop ?_ | refine w_next ?_
  | refine w_ifS ?_ | refine iteF ?_ | refine iteT ?_ | refine w_test ?_ | refine w_B ?_ | refine w_bl ?_ | refine w_and ?_ | refine w_or ?_ | refine w_not ?_ | refine w_if ?_ | refine w_andV ?_ | refine w_orV ?_ | refine w_notV ?_
  | refine w_cb ?_ | refine w_nil ?_ | refine w_cons ?_ | refine w_call ?_ | refine w_sl ?_ | refine w_nopart ?_ | refine w_part ?_ | refine w_isint ?_
  | refine w_gname ?_ | refine w_gsub ?_ | refine w_I0 ?_ | (refine' w_I ?c ?_; (case c => walk_at "c")) | refine w_U ?_ | refine w_lt ?_ | refine w_ij ?_ | refine w_int ?_ | refine w_intb ?_ | refine w_abs ?_ | refine w_lstRg ?_ | refine w_rg1 ?_ | refine w_rg2 ?_ | refine w_max ?_
  | (refine' w_newN ?z (fun p hp hm => ?_); (case z => walk_at "sz")) | (refine' w_new ?z (fun p hp => ?_); (case z => walk_at "sz"))
  | (refine' w_ixL ?h ?v ?_; (case h => walk_at "sq"); (case v => with_unfolding_all rfl))
  | (refine' w_ixT ?h ?v ?_; (case h => walk_at "sq"); (case v => with_unfolding_all rfl))
  | (refine' w_setL ?h ?v ?_; (case h => walk_at "hp"); (case v => with_unfolding_all rfl))
  | (refine' w_lenL ?h ?_; (case h => walk_at "sq")) | (refine' w_lenT ?h ?_; (case h => walk_at "sq"))))
local macro_rules | `(tactic| walk_at "v") => `(tactic| repeat (walk_at "v1"))

def top (i : Nat) : Stmt := PySem.Challenge.pw_wakesothers_k09_how_rules_differ.main.body.getD i (.Pass ⟨0, 0, 0, 0⟩)
abbrev sis_name : Stmt := top 13
abbrev Nis_name : List Str := ["value", "letter"]
abbrev Pis_name : List Str := ["value"]
theorem scis_name : FnScope Nis_name Pis_name (defScope sis_name) := ⟨rfl, rfl, rfl, by decide +kernel, rfl, by decide +kernel, by decide +kernel⟩
theorem bsis_name : BindsSt "is_name" sis_name Pis_name := fun _ _ _ _ _ _ us hl => match us, hl with | [_], _ => rfl
abbrev sare_devices : Stmt := top 14
abbrev Nare_devices : List Str := ["value", "name"]
abbrev Pare_devices : List Str := ["value"]
theorem scare_devices : FnScope Nare_devices Pare_devices (defScope sare_devices) := ⟨rfl, rfl, rfl, by decide +kernel, rfl, by decide +kernel, by decide +kernel⟩
theorem bsare_devices : BindsSt "are_devices" sare_devices Pare_devices := fun _ _ _ _ _ _ us hl => match us, hl with | [_], _ => rfl
abbrev sis_lot : Stmt := top 15
abbrev Nis_lot : List Str := ["devices", "value", "name"]
abbrev Pis_lot : List Str := ["devices", "value"]
theorem scis_lot : FnScope Nis_lot Pis_lot (defScope sis_lot) := ⟨rfl, rfl, rfl, by decide +kernel, rfl, by decide +kernel, by decide +kernel⟩
theorem bsis_lot : BindsSt "is_lot" sis_lot Pis_lot := fun _ _ _ _ _ _ us hl => match us, hl with | [_, _], _ => rfl
abbrev sis_bundle : Stmt := top 16
abbrev Nis_bundle : List Str := ["devices", "value", "lot", "others", "name"]
abbrev Pis_bundle : List Str := ["devices", "value"]
theorem scis_bundle : FnScope Nis_bundle Pis_bundle (defScope sis_bundle) := ⟨rfl, rfl, rfl, by decide +kernel, rfl, by decide +kernel, by decide +kernel⟩
theorem bsis_bundle : BindsSt "is_bundle" sis_bundle Pis_bundle := fun _ _ _ _ _ _ us hl => match us, hl with | [_, _], _ => rfl
abbrev sare_bundles : Stmt := top 17
abbrev Nare_bundles : List Str := ["devices", "value", "bundle"]
abbrev Pare_bundles : List Str := ["devices", "value"]
theorem scare_bundles : FnScope Nare_bundles Pare_bundles (defScope sare_bundles) := ⟨rfl, rfl, rfl, by decide +kernel, rfl, by decide +kernel, by decide +kernel⟩
theorem bsare_bundles : BindsSt "are_bundles" sare_bundles Pare_bundles := fun _ _ _ _ _ _ us hl => match us, hl with | [_, _], _ => rfl
abbrev sneed_lot : Stmt := top 18
abbrev Nneed_lot : List Str := ["devices", "value"]
abbrev Pneed_lot : List Str := ["devices", "value"]
theorem scneed_lot : FnScope Nneed_lot Pneed_lot (defScope sneed_lot) := ⟨rfl, rfl, rfl, by decide +kernel, rfl, by decide +kernel, by decide +kernel⟩
theorem bsneed_lot : BindsSt "need_lot" sneed_lot Pneed_lot := fun _ _ _ _ _ _ us hl => match us, hl with | [_, _], _ => rfl
abbrev smask_of : Stmt := top 25
abbrev Nmask_of : List Str := ["devices", "lot", "at", "name"]
abbrev Pmask_of : List Str := ["devices", "lot"]
theorem scmask_of : FnScope Nmask_of Pmask_of (defScope smask_of) := ⟨rfl, rfl, rfl, by decide +kernel, rfl, by decide +kernel, by decide +kernel⟩
theorem bsmask_of : BindsSt "mask_of" smask_of Pmask_of := fun _ _ _ _ _ _ us hl => match us, hl with | [_, _], _ => rfl
abbrev slot_of : Stmt := top 26
abbrev Nlot_of : List Str := ["devices", "mask", "at", "name"]
abbrev Plot_of : List Str := ["devices", "mask"]
theorem sclot_of : FnScope Nlot_of Plot_of (defScope slot_of) := ⟨rfl, rfl, rfl, by decide +kernel, rfl, by decide +kernel, by decide +kernel⟩
theorem bslot_of : BindsSt "lot_of" slot_of Plot_of := fun _ _ _ _ _ _ us hl => match us, hl with | [_, _], _ => rfl
abbrev send_of : Stmt := top 28
abbrev Nend_of : List Str := ["steps", "mask", "before", "first", "others"]
abbrev Pend_of : List Str := ["steps", "mask"]
theorem scend_of : FnScope Nend_of Pend_of (defScope send_of) := ⟨rfl, rfl, rfl, by decide +kernel, rfl, by decide +kernel, by decide +kernel⟩
theorem bsend_of : BindsSt "end_of" send_of Pend_of := fun _ _ _ _ _ _ us hl => match us, hl with | [_, _], _ => rfl
abbrev sends_of : Stmt := top 29
abbrev Nends_of : List Str := ["devices", "bundles", "lot", "others"]
abbrev Pends_of : List Str := ["devices", "bundles"]
theorem scends_of : FnScope Nends_of Pends_of (defScope sends_of) := ⟨rfl, rfl, rfl, by decide +kernel, rfl, by decide +kernel, by decide +kernel⟩
theorem bsends_of : BindsSt "ends_of" sends_of Pends_of := fun _ _ _ _ _ _ us hl => match us, hl with | [_, _], _ => rfl
abbrev sends_by : Stmt := top 30
abbrev Nends_by : List Str := ["devices", "steps", "mask"]
abbrev Pends_by : List Str := ["devices", "steps"]
theorem scends_by : FnScope Nends_by Pends_by (defScope sends_by) := ⟨rfl, rfl, rfl, by decide +kernel, rfl, by decide +kernel, by decide +kernel⟩
theorem bsends_by : BindsSt "ends_by" sends_by Pends_by := fun _ _ _ _ _ _ us hl => match us, hl with | [_, _], _ => rfl
abbrev slots_of : Stmt := top 27
abbrev Nlots_of : List Str := ["devices", "masks", "mask"]
abbrev Plots_of : List Str := ["devices", "masks"]
theorem sclots_of : FnScope Nlots_of Plots_of (defScope slots_of) := ⟨rfl, rfl, rfl, by decide +kernel, rfl, by decide +kernel, by decide +kernel⟩
theorem bslots_of : BindsSt "lots_of" slots_of Plots_of := fun _ _ _ _ _ _ us hl => match us, hl with | [_, _], _ => rfl
abbrev srests_of : Stmt := top 32
abbrev Nrests_of : List Str := ["devices", "ends", "mask", "end"]
abbrev Prests_of : List Str := ["devices", "ends"]
theorem scrests_of : FnScope Nrests_of Prests_of (defScope srests_of) := ⟨rfl, rfl, rfl, by decide +kernel, rfl, by decide +kernel, by decide +kernel⟩
theorem bsrests_of : BindsSt "rests_of" srests_of Prests_of := fun _ _ _ _ _ _ us hl => match us, hl with | [_, _], _ => rfl
/-- the names that the built-ins have -/
structure Txt (mg : Str → Option Value) : Prop where
  n_len : mg "len" = none
  n_int : mg "int" = none
  n_abs : mg "abs" = none
  n_list : mg "list" = none
  n_range : mg "range" = none
  n_max : mg "max" = none
  n_min : mg "min" = none
  n_isinstance : mg "isinstance" = none
  n_tuple : mg "tuple" = none
  n_str : mg "str" = none
  n_all : mg "all" = none
  n_any : mg "any" = none
  n_sum : mg "sum" = none
  n_set : mg "set" = none
  n_sorted : mg "sorted" = none
  n_dict : mg "dict" = none
  n_repr : mg "repr" = none
  n_enumerate : mg "enumerate" = none
  n_zip : mg "zip" = none
  n_bool : mg "bool" = none
section
variable {X : Cx} {K : PySem.W.Frag}
theorem op_inK (h : X.K = K) : OpR X (compareOp .In) (rIn K false) := by
  subst h
  exact op_in_seq
theorem op_notinK (h : X.K = K) : OpR X (compareOp .NotIn) (rIn K true) := by
  subst h
  exact op_notIn_seq
theorem pt_truthK {a : Expr} {ta : TE} (h : X.K = K) (ha : PE X a ta) (he : ∀ whole, isTrue a X.env whole = (do let v ← whole; standAt a.pos; holding [v] (truthy v))) : PT X a (tTru K ta) := by
  subst h
  exact pt_truth ha he
theorem op_eqDK (h : X.K = K) (hu : X.A.units + 64 < cLine) : OpR X (compareOp .Eq) (rEqD K) := by
  subst h
  exact op_eqD hu
theorem op_neDK (h : X.K = K) (hu : X.A.units + 64 < cLine) : OpR X (compareOp .NotEq) (rNeD K) := by
  subst h
  exact op_neD hu
end
theorem LotAt.same {K : PySem.W.Frag} {H H' : Hp} {x : V} {l : List Str} (h : LotAt K H x l) (s : Same H H') : LotAt K H' x l := by
  obtain ⟨a, e, h⟩ := h
  exact ⟨a, e, Same.sqT s h⟩
theorem inV_str {d : Str} {l : List Str} : inV (.str d) (l.map V.str) = decide (d ∈ l) := by
  unfold inV
  rw [List.any_map]
  by_cases h : d ∈ l
  · rw [decide_eq_true h, List.any_eq_true]
    exact ⟨d, h, by simp [eqV]⟩
  · rw [decide_eq_false h, List.any_eq_false]
    intro y hy
    simp only [Function.comp, eqV]
    intro z
    exact h (by simpa using (by simpa using z : y = d) ▸ hy)
def maskInts (l : List Str) : List Str → Nat → List Int
  | [], _ => []
  | d :: ds, n => if d ∈ l then ((2 ^ n : Nat) : Int) :: maskInts l ds (n + 1) else maskInts l ds (n + 1)
theorem lcE_mask {l : List Str} : ∀ {ds : List Str} {n : Nat}, lcE (fun _ x => inV x (l.map V.str)) (fun n _ => .int (1 * 2 ^ ((n : Nat) : Int).toNat)) (ds.map V.str) n = (maskInts l ds n).map V.int
  | [], _ => rfl
  | d :: ds, n => by
    have ih := lcE_mask (l := l) (ds := ds) (n := n + 1)
    simp only [List.map_cons, lcE, maskInts]
    rw [ih, inV_str, int_pow]
    by_cases h : d ∈ l
    · rw [if_pos (decide_eq_true h), if_pos h]
      rfl
    · rw [if_neg (by rw [decide_eq_false h]; exact Bool.false_ne_true), if_neg h]
theorem get_str {ds : List Str} {n : Nat} {x : V} (h : (ds.map V.str)[n]? = some x) : ∃ d, ds[n]? = some d ∧ x = .str d := by
  rw [List.getElem?_map] at h
  cases e : ds[n]? with
  | none =>
    rw [e] at h
    cases h
  | some d =>
    rw [e] at h
    exact ⟨d, rfl, (Option.some.inj h).symm⟩
theorem flat_strs (l : List Str) : (l.map V.str).all flatV = true := by
  rw [List.all_map]
  exact List.all_eq_true.mpr fun _ _ => rfl
theorem sum_mask {l : List Str} : ∀ {ds : List Str} {n : Nat}, (maskInts l ds n).sum = ((2 ^ n * maskOf ds l : Nat) : Int)
  | [], n => by simp [maskInts, maskOf]
  | d :: ds, n => by
    simp only [maskInts, maskOf]
    split
    · rw [List.sum_cons, sum_mask, Nat.pow_succ, Nat.mul_add, Nat.mul_one, Nat.mul_assoc]
      exact (Int.natCast_add _ _).symm
    · rw [sum_mask, Nat.zero_add, Nat.pow_succ, Nat.mul_assoc]
def spMaskOf (K : PySem.W.Frag) : Sp := fun vs H Q _ => ∃ (x y : V) (ds l : List Str), vs = [x, y] ∧ LotAt K H x ds ∧ LotAt K H y l ∧ ds.length ≤ 60 ∧ ∀ H', Same H H' → Q (.int (maskOf ds l : Nat)) H'
section
variable {P : Program} {w : World} {K : PySem.W.Frag} {mg : Str → Option Value} {base : Heap}
theorem ok_mask_of (F : FunAt K mg "mask_of" smask_of) (T : Txt mg) : Def P w K mg base 1 "mask_of" Pmask_of (spMaskOf K) := by
  refine def_of F scmask_of bsmask_of (fun vs H Q E h => ?_) fun f cdv A outer s H vs Q E hr h => ?_
  · obtain ⟨x, y, ds, l, rfl, _⟩ := h
    rfl
  · refine ⟨_, (pss_one (ps_ret (pe_callB (cr_sum rfl) (by rfl) T.n_sum (by decide +kernel) (pa_cons (pe_lc (own := [("at", 2), ("name", 3)]) (g := (gTup _ 2 (gCons (gName 2) (gCons (gName 3) gNil)))) rfl scmask_of.nd (pi_enumT (by rfl) T.n_enumerate (pa_cons (pv 0) pa_nil)) (blkOk_by (N := Nmask_of) (sc := defScope smask_of) (by decide +kernel)) (fun _ _ _ _ _ => (pg_tup (by rfl) (pgs_cons (pg_name (i := 2) scmask_of.nd rfl (by first | exact Or.inl rfl | exact Or.inr rfl)) (pgs_cons (pg_name (i := 3) scmask_of.nd rfl (by first | exact Or.inl rfl | exact Or.inr rfl)) pgs_nil)))) (fun _ _ _ _ _ => (pts_one (pt_cmpR (op_inK (K := K) rfl) (pv 3) (pv 1) (by rfl)))) (fun _ _ _ _ _ => (pe_op op_shl pe_int (pv 2)))) pa_nil)))), ?_⟩
    obtain ⟨x, y, ds, l, rfl, hx, hy, hn, go⟩ := h
    obtain ⟨a, rfl, ha⟩ := hx
    obtain ⟨b, rfl, hb⟩ := hy
    walk_at "v"
    refine w_lcE (fun _ x => inV x (l.map V.str)) (fun n _ => .int (1 * 2 ^ ((n : Nat) : Int).toNat)) rfl ha (by rw [List.length_map]; omega) (fun _ _ => rfl) ?_ ?_ ?_
    · intro n x H' R hx s k
      walk_at "v"
      obtain ⟨d, hd, rfl⟩ := get_str hx
      exact ⟨b, l.map V.str, rfl, .inr (Same.sqT s hb), rfl, flat_strs l, _, rfl, k⟩
    · intro n x H' R hx hc s k
      walk_at "v"
      have hlt := (List.getElem?_eq_some_iff.mp hx).1
      rw [List.length_map] at hlt
      exact w_I (c_pow (by omega) (by omega) (by decide)) k
    · intro D H' hD s e
      walk_at "v"
      rw [lcE_mask] at e
      refine ⟨D, _, rfl, SqL.of e, ?_⟩
      rw [sum_mask, Nat.pow_zero, Nat.one_mul]
      exact go H' s
end

theorem w_tru {K : PySem.W.Frag} {σ : L2.St} {H : Hp} {te : TE} {R : Bool → Hp → Prop} (k : te σ H fun x H' => ∃ b, TruV K x H' b ∧ R b H') : tTru K te σ H R := k
theorem bit_int (m n : Nat) : m.testBit n = (Builtin.bitAnd (m : Int) (1 * 2 ^ ((n : Nat) : Int).toNat) != 0) := by
  have h2 : m &&& 2 ^ n = if m.testBit n = true then 2 ^ n else 0 := by
    refine Nat.eq_of_testBit_eq fun i => ?_
    rw [Nat.testBit_and, Nat.testBit_two_pow]
    by_cases e : n = i
    · subst e
      cases h : m.testBit n with
      | true =>
        rw [if_pos rfl, Nat.testBit_two_pow]
        simp
      | false =>
        rw [if_neg Bool.false_ne_true]
        simp
    · rw [decide_eq_false e, Bool.and_false]
      split
      · rw [Nat.testBit_two_pow, decide_eq_false e]
      · simp
  rw [int_pow, int_and, h2]
  cases e : m.testBit n with
  | false =>
    rw [if_neg Bool.false_ne_true]
    rfl
  | true =>
    have : 0 < 2 ^ n := Nat.two_pow_pos n
    rw [if_pos rfl]
    exact (bne_iff_ne.mpr (by omega)).symm
theorem lcE_lot {m : Nat} : ∀ {ds : List Str} {k : Nat}, lcE (fun n _ => m.testBit n) (fun _ x => x) (ds.map V.str) k = (lotOf ds (m / 2 ^ k)).map V.str
  | [], _ => rfl
  | d :: ds, k => by
    have ih := lcE_lot (m := m) (ds := ds) (k := k + 1)
    have e : (m / 2 ^ k).testBit 0 = m.testBit k := by
      rw [Nat.testBit_div_two_pow, Nat.zero_add]
    have e2 : m / 2 ^ k / 2 = m / 2 ^ (k + 1) := by
      rw [Nat.div_div_eq_div_mul, Nat.pow_succ]
    simp only [List.map_cons, lcE, lotOf]
    rw [ih, e, e2]
    by_cases h : m.testBit k = true
    · rw [if_pos h, if_pos h]
      rfl
    · rw [if_neg h, if_neg h]
def spLotOf (K : PySem.W.Frag) : Sp := fun vs H Q _ => ∃ (x : V) (ds : List Str) (m : Nat), vs = [x, .int (m : Nat)] ∧ LotAt K H x ds ∧ ds.length ≤ 60 ∧ ∀ H' y, Same H H' → LotAt K H' y (lotOf ds m) → Q y H'
section
variable {P : Program} {w : World} {K : PySem.W.Frag} {mg : Str → Option Value} {base : Heap}
theorem ok_lot_of (F : FunAt K mg "lot_of" slot_of) (T : Txt mg) : Def P w K mg base 1 "lot_of" Plot_of (spLotOf K) := by
  refine def_of F sclot_of bslot_of (fun vs H Q E h => ?_) fun f cdv A outer s H vs Q E hr h => ?_
  · obtain ⟨x, ds, m, rfl, _⟩ := h
    rfl
  · refine ⟨_, (pss_one (ps_ret (pe_callTy call_tuple_of (by rfl) T.n_tuple (by decide +kernel) (pa_cons (pe_lc (own := [("at", 2), ("name", 3)]) (g := (gTup _ 2 (gCons (gName 2) (gCons (gName 3) gNil)))) rfl sclot_of.nd (pi_enumT (by rfl) T.n_enumerate (pa_cons (pv 0) pa_nil)) (blkOk_by (N := Nlot_of) (sc := defScope slot_of) (by decide +kernel)) (fun _ _ _ _ _ => (pg_tup (by rfl) (pgs_cons (pg_name (i := 2) sclot_of.nd rfl (by first | exact Or.inl rfl | exact Or.inr rfl)) (pgs_cons (pg_name (i := 3) sclot_of.nd rfl (by first | exact Or.inl rfl | exact Or.inr rfl)) pgs_nil)))) (fun _ _ _ _ _ => (pts_one (pt_truthK (K := K) rfl (pe_op op_and (pv 1) (pe_op op_shl pe_int (pv 2))) (by intro _; rfl)))) (fun _ _ _ _ _ => (pv 3))) pa_nil)))), ?_⟩
    obtain ⟨x, ds, m, rfl, ⟨a, rfl, ha⟩, hn, go⟩ := h
    walk_at "v"
    refine w_lcE (fun n _ => m.testBit n) (fun _ x => x) rfl ha (by rw [List.length_map]; omega) (fun _ _ => rfl) ?_ ?_ ?_
    · intro n x H' R hx s k
      have hlt := (List.getElem?_eq_some_iff.mp hx).1
      rw [List.length_map] at hlt
      walk_at "v"
      refine w_tru ?_
      walk_at "v"
      exact ⟨_, bit_int m n, k⟩
    · intro n x H' R hx hc s k
      walk_at "v"
      exact k
    · intro D H' hD s e
      walk_at "v"
      rw [lcE_lot, Nat.pow_zero, Nat.div_one] at e
      exact ⟨D, _, rfl, .inl ⟨SqL.of e, fun l hl => go _ _ (same_upd s hl) ⟨l, rfl, SqT.of upd_same⟩⟩⟩
def StepsAt (K : PySem.W.Frag) (H : Hp) (x : V) (st : List (Nat × Nat)) : Prop := ∃ (a : Addr) (xs : List V), x = .ref a ∧ SqL K H a xs ∧ Paired (fun v p => ∃ b, v = .ref b ∧ SqT K H b [.int (p.1 : Nat), .int (p.2 : Nat)]) xs st
def spEndOf (K : PySem.W.Frag) : Sp := fun vs H Q _ => ∃ (x : V) (st : List (Nat × Nat)) (m n : Nat), vs = [x, .int (m : Nat)] ∧ StepsAt K H x st ∧ st.length ≤ 1000 ∧ m < 2 ^ n ∧ (∀ p ∈ st, p.2 < 2 ^ n) ∧ n ≤ 60 ∧ ∀ e, IsEnd st m e → e < 2 ^ n → Q (.int (e : Nat)) H
theorem ok_end_of (F : FunAt K mg "end_of" send_of) (T : Txt mg) : Def P w K mg base 1 "end_of" Pend_of (spEndOf K) := by
  refine def_of F scend_of bsend_of (fun vs H Q E h => ?_) fun f cdv A outer s H vs Q E hr h => ?_
  · obtain ⟨x, st, m, n, rfl, _⟩ := h
    rfl
  · refine ⟨_, (pss_cons (ps_set (i := 2) scend_of.nd rfl (by first | exact Or.inl rfl | exact Or.inr rfl) (pe_un un_neg pe_int))
  (pss_cons (ps_while PassesOwn.never (pt_cmpR op_ne (pv 2) (pv 1) (nomark _)) (pss_cons (ps_set (i := 2) scend_of.nd rfl (by first | exact Or.inl rfl | exact Or.inr rfl) (pv 1))
  (pss_one (ps_for PassesOwn.never rfl (pi_list (pv 0)) (pg_tup (by rfl) (pgs_cons (pg_name (i := 3) scend_of.nd rfl (by first | exact Or.inl rfl | exact Or.inr rfl)) (pgs_cons (pg_name (i := 4) scend_of.nd rfl (by first | exact Or.inl rfl | exact Or.inr rfl)) pgs_nil))) (pss_one (ps_if (pt_cmpR op_eq (pe_op op_and (pv 1) (pv 3)) (pv 3) (nomark _)) (pss_one (ps_set (i := 1) scend_of.nd rfl (by first | exact Or.inl rfl | exact Or.inr rfl) (pe_op op_or (pv 1) (pv 4)))) pss_nil))))))
  (pss_one (ps_ret (pv 1))))), ?_⟩
    obtain ⟨x, st, m, n, rfl, ⟨a, xs, rfl, ha, hp⟩, hz, hm, hst, hn, go⟩ := h
    walk_at "v"
    refine ⟨fun μ σ' H' => H' = H ∧ ∃ (cur : Nat) (b : Int) (x3 x4 : Option V), σ' = [some (.ref a), some (.int (cur : Nat)), some (.int b), x3, x4] ∧ Sub m cur ∧ (∀ c, Sub m c → Closed st c → Sub cur c) ∧ cur < 2 ^ n ∧ -1 ≤ b ∧ b ≤ (cur : Nat) ∧ (b = (cur : Nat) → Closed st cur) ∧ μ = ((2 ^ n : Nat) - b).toNat,
      ⟨_, rfl, m, -1, none, none, rfl, Sub.refl m, fun _ h _ => h, hm, by decide, by omega, fun h => by omega, rfl⟩, ?_⟩
    rintro μ σ' H' ⟨rfl, cur, b, x3, x4, rfl, h1, h2, h3, h4, h5, h6, rfl⟩
    walk_at "v"
    refine ⟨rfl, ?_⟩
    refine ⟨_, rfl, ?_⟩
    by_cases hb : b = (cur : Nat)
    · rw [if_neg (by rw [hb]; simp)]
      walk_at "v"
      exact go cur ⟨h1, h6 hb, h2⟩ h3
    · rw [if_pos (by simpa using hb)]
      refine ⟨fun σ2 H2 => H2 = H' ∧ ∃ (c : Nat) (x3 x4 : Option V), σ2 = [some (.ref a), some (.int (c : Nat)), some (.int (cur : Nat)), x3, x4] ∧ Sub cur c ∧ (∀ c', Sub m c' → Closed st c' → Sub c c') ∧ c < 2 ^ n ∧ (c = cur → Closed st cur), ?_, ?_⟩
      · rintro σ2 H2 ⟨rfl, c, y3, y4, rfl, g1, g2, g3, g4⟩
        have := g1.le
        exact ⟨_, by omega, rfl, c, cur, y3, y4, rfl, h1.trans g1, g2, g3, by omega, by omega, fun e => by
          have e' : c = cur := by omega
          rw [e']
          exact g4 e', rfl⟩
      · walk_at "v"
        refine w_forL (K := K) (l := a) (xs := xs) (Pv := fun i σ2 H2 => H2 = H' ∧ ∃ (c : Nat) (x3 x4 : Option V), σ2 = [some (.ref a), some (.int (c : Nat)), some (.int (cur : Nat)), x3, x4] ∧ Sub cur c ∧ (∀ c', Sub m c' → Closed st c' → Sub c c') ∧ c < 2 ^ n ∧ (c = cur → ∀ p ∈ st.take i, Sub p.1 cur → Sub p.2 cur))
          ⟨_, rfl, rfl, ha, rfl, cur, x3, x4, rfl, Sub.refl cur, h2, h3, fun _ p hp => by simp at hp⟩ (fun i σ2 H2 _ h => h.1 ▸ ha) ?_ ?_ var_mono
        · rintro i x σ2 H2 hx ⟨rfl, c, y3, y4, rfl, g1, g2, g3, g4⟩
          obtain ⟨p, hpi, bb, rfl, hbb⟩ := Paired.at hp hx
          have hmem : p ∈ st := List.mem_of_getElem? hpi
          have htake : st.take (i + 1) = st.take i ++ [p] := by rw [List.take_succ, hpi]; rfl
          refine w_gtup2 hbb ?_
          walk_at "v"
          refine ⟨rfl, ?_⟩
          refine ⟨_, rfl, ?_⟩
          rw [int_and]
          by_cases hs : Sub p.1 c
          · have hs' : c &&& p.1 = p.1 := by rw [Nat.and_comm]; exact hs
            rw [if_pos (by rw [hs']; exact decide_eq_true rfl)]
            walk_at "v"
            refine ⟨rfl, c ||| p.2, some (.int (p.1 : Nat)), some (.int (p.2 : Nat)), ?_, g1.trans (Sub.orl c p.2), fun c' k1 k2 => (g2 c' k1 k2).or (k2 p hmem (hs.trans (g2 c' k1 k2))), Nat.or_lt_two_pow g3 (hst p hmem), fun e q hq => ?_⟩
            · rw [int_or]
              rfl
            · have ec : c = cur := (e ▸ Sub.orl c p.2 : Sub c cur).anti g1
              rw [htake] at hq
              rcases List.mem_append.mp hq with hq | hq
              · exact g4 ec q hq
              · rw [List.mem_singleton.mp hq]
                intro _
                exact e ▸ Sub.orr c p.2
          · rw [if_neg (fun z => hs (by
              have z' := of_decide_eq_true z
              injection z' with z'
              have z2 : c &&& p.1 = p.1 := by omega
              rw [Nat.and_comm] at z2
              exact z2))]
            walk_at "v"
            refine ⟨rfl, c, _, _, rfl, g1, g2, g3, fun e q hq => ?_⟩
            rw [htake] at hq
            rcases List.mem_append.mp hq with hq | hq
            · exact g4 e q hq
            · rw [List.mem_singleton.mp hq]
              intro z
              exact absurd (e ▸ z) hs
        · rintro σ2 H2 ⟨rfl, c, y3, y4, rfl, g1, g2, g3, g4⟩
          refine ⟨rfl, c, y3, y4, rfl, g1, g2, g3, fun e p hpm => g4 e p ?_⟩
          rw [Paired.length hp, List.take_length]
          exact hpm
end

abbrev Bun := List Str × List Str
def BunAt (K : PySem.W.Frag) (H : Hp) (x : V) (b : Bun) : Prop := ∃ a y z, x = .ref a ∧ SqT K H a [y, z] ∧ LotAt K H y b.1 ∧ LotAt K H z b.2
theorem BunAt.same {K : PySem.W.Frag} {H H' : Hp} {x : V} {b : Bun} (h : BunAt K H x b) (s : Same H H') : BunAt K H' x b := by
  obtain ⟨a, y, z, e, h1, h2, h3⟩ := h
  exact ⟨a, y, z, e, Same.sqT s h1, h2.same s, h3.same s⟩
def BunsAt (K : PySem.W.Frag) (H : Hp) (x : V) (bs : List Bun) : Prop := ∃ a xs, x = .ref a ∧ SqT K H a xs ∧ Paired (BunAt K H) xs bs
theorem BunsAt.same {K : PySem.W.Frag} {H H' : Hp} {x : V} {bs : List Bun} (h : BunsAt K H x bs) (s : Same H H') : BunsAt K H' x bs := by
  obtain ⟨a, xs, e, h1, h2⟩ := h
  exact ⟨a, xs, e, Same.sqT s h1, Paired.mapP h2 fun _ _ e => e.same s⟩
def IntsT (K : PySem.W.Frag) (H : Hp) (x : V) (es : List Nat) : Prop := ∃ a, x = .ref a ∧ SqT K H a (es.map fun e => V.int (e : Nat))
def stepsOf (ds : List Str) (bs : List Bun) : List (Nat × Nat) := bs.map fun b => (maskOf ds b.1, maskOf ds b.2)
/-- what each mask comes to -/
def EndsOf (n : Nat) (st : List (Nat × Nat)) (es : List Nat) : Prop := es.length = 2 ^ n ∧ ∀ i e, es[i]? = some e → IsEnd st i e ∧ e < 2 ^ n
def spEndsOf (K : PySem.W.Frag) : Sp := fun vs H Q _ => ∃ (x y : V) (ds : List Str) (bs : List Bun), vs = [x, y] ∧ LotAt K H x ds ∧ BunsAt K H y bs ∧ ds.length ≤ 6 ∧ bs.length ≤ 1000 ∧
  ∀ H' z es, Same H H' → IntsT K H' z es → EndsOf ds.length (stepsOf ds bs) es → Q z H'
theorem paired_get {α β : Type} {R : α → β → Prop} : ∀ {l : List α} {m : List β}, l.length = m.length → (∀ (n : Nat) a b, l[n]? = some a → m[n]? = some b → R a b) → Paired R l m
  | [], [], _, _ => .nil
  | [], _ :: _, h, _ => nomatch h
  | _ :: _, [], h, _ => nomatch h
  | a :: l, b :: m, h, k => .cons (k 0 a b rfl rfl) (paired_get (Nat.succ.inj h) fun n x y hx hy => k (n + 1) x y hx hy)
theorem ints_of {P : Nat → Nat → Prop} : ∀ {zs : List V}, (∀ n y, zs[n]? = some y → ∃ e : Nat, y = .int (e : Nat) ∧ P n e) → ∃ es : List Nat, zs = es.map (fun e => V.int (e : Nat)) ∧ ∀ n e, es[n]? = some e → P n e := by
  intro zs
  induction zs generalizing P with
  | nil => exact fun _ => ⟨[], rfl, fun n e h => by simp at h⟩
  | cons z zs ih =>
    intro h
    obtain ⟨e, rfl, pe⟩ := h 0 z rfl
    obtain ⟨es, rfl, hes⟩ := ih (P := fun n e => P (n + 1) e) fun n y hy => h (n + 1) y hy
    refine ⟨e :: es, rfl, fun n x hx => ?_⟩
    match n, hx with
    | 0, hx =>
      rw [← Option.some.inj hx]
      exact pe
    | n + 1, hx => exact hes n x hx
theorem sqT_upd {K : PySem.W.Frag} {H : Hp} {a D : Addr} {xs ys zs : List V} (h : SqT K H a xs) (e : H D = some (.lst ys)) : SqT K (upd H D (.lst zs)) a xs := (HS.updq (HS.refl D H)).sqT e h
section
variable {P : Program} {w : World} {K : PySem.W.Frag} {mg : Str → Option Value} {base : Heap}
def spEndsBy (K : PySem.W.Frag) : Sp := fun vs H Q _ => ∃ (x y : V) (ds : List Str) (st : List (Nat × Nat)), vs = [x, y] ∧ LotAt K H x ds ∧ StepsAt K H y st ∧ ds.length ≤ 6 ∧ st.length ≤ 1000 ∧ (∀ p ∈ st, p.2 < 2 ^ ds.length) ∧
  ∀ H' z es, Same H H' → IntsT K H' z es → EndsOf ds.length st es → Q z H'
theorem StepsAt.same {K : PySem.W.Frag} {H H' : Hp} {x : V} {st : List (Nat × Nat)} (h : StepsAt K H x st) (s : Same H H') : StepsAt K H' x st := by
  obtain ⟨a, xs, e, h1, h2⟩ := h
  refine ⟨a, xs, e, ?_, Paired.mapP h2 fun v p ⟨b, e, h⟩ => ⟨b, e, Same.sqT s h⟩⟩
  rcases h1 with (h1 | ⟨o, h1⟩) | h1
  · exact .inl (.inl (s _ _ h1))
  · exact .inl (.inr ⟨o, s _ _ h1⟩)
  · exact .inr h1
theorem ok_ends_by (F : FunAt K mg "ends_by" sends_by) (T : Txt mg) (Dend_of : Def P w K mg base 1 "end_of" Pend_of (spEndOf K)) : Def P w K mg base 2 "ends_by" Pends_by (spEndsBy K) := by
  refine def_of F scends_by bsends_by (fun vs H Q E h => ?_) fun f cdv A outer s H vs Q E hr h => ?_
  · obtain ⟨x, y, ds, st, rfl, _⟩ := h
    rfl
  · refine ⟨_, (pss_one (ps_ret (pe_callTy call_tuple_of (by rfl) T.n_tuple (by decide +kernel) (pa_cons (pe_lc (own := [("mask", 2)]) (g := (gName 2)) (tt := tYes) rfl scends_by.nd (pi_range1 (by rfl) T.n_range (pa_cons (pe_op op_shl pe_int (pe_callB call_len (by rfl) T.n_len PySem.boot_len (pa_cons (pv 0) pa_nil))) pa_nil)) (blkOk_by (N := Nends_by) (sc := defScope sends_by) (by decide +kernel)) (fun _ _ _ _ _ => (pg_name (i := 2) scends_by.nd rfl (by first | exact Or.inl rfl | exact Or.inr rfl))) (fun _ _ _ _ _ => pts_nil) (fun _ _ _ _ _ => (pe_d Dend_of (hr.mono (by omega)) (pa_cons (pv 1) (pa_cons (pv 2) pa_nil))))) pa_nil)))), ?_⟩
    obtain ⟨x, y, ds, st, rfl, hx, hy, hn, hz, hst, go⟩ := h
    obtain ⟨d, rfl, hd⟩ := id hx
    walk_at "v"
    refine w_lcRgT (z := ((2 ^ ds.length : Nat) : Int)) (fun n y _ => ∃ e : Nat, y = .int (e : Nat) ∧ IsEnd st n e ∧ e < 2 ^ ds.length) (fun _ _ _ _ h _ => h) (Int.natCast_nonneg _) ?_ (fun R k => ?_) (fun _ _ _ _ _ _ h _ _ => h) ?_ ?_ ?_
    · have := Nat.pow_le_pow_right (show 0 < 2 by decide) hn
      omega
    · have hz : ∀ {R : V → Hp → Prop}, R (.int ((2 ^ ds.length : Nat) : Int)) H → rI CPow (fun i j => V.int (i * 2 ^ j.toNat)) (V.int 1) (V.int ((ds.map V.str).length : Nat)) H R := fun {R} k => by
        rw [List.length_map]
        refine w_I (c_pow (by omega) (by omega) (by decide)) ?_
        rw [int_pow]
        exact k
      generalize ((2 ^ ds.length : Nat) : Int) = z at k hz
      refine w_cons ?_
      refine w_op ?_
      refine w_C ?_
      refine w_cb ?_
      refine w_cons ?_
      refine w_var rfl ?_
      refine w_nil ?_
      exact ⟨_, _, rfl, .inr ⟨_, hd, rfl⟩, hz k⟩
    · intro _
      rfl
    · intro n H'' R hlt s2 k
      walk_at "v"
      exact ⟨y, st, n, ds.length, rfl, hy.same s2, hz, by omega, hst, by omega, fun e2 he2 hlt2 => k _ _ (Same.refl _) ⟨e2, rfl, he2, hlt2⟩⟩
    · intro D2 H'' zs hD2 s2 e2 hl2 hF2
      obtain ⟨es, rfl, hes⟩ := ints_of hF2
      walk_at "v"
      rw [List.length_map] at hl2
      exact ⟨D2, _, rfl, .inl ⟨SqL.of e2, fun l hl3 => go _ _ es (same_upd s2 hl3) ⟨l, rfl, SqT.of upd_same⟩ ⟨by omega, hes⟩⟩⟩
theorem ok_ends_of (F : FunAt K mg "ends_of" sends_of) (T : Txt mg) (Dmask_of : Def P w K mg base 1 "mask_of" Pmask_of (spMaskOf K)) (Dends_by : Def P w K mg base 2 "ends_by" Pends_by (spEndsBy K)) : Def P w K mg base 3 "ends_of" Pends_of (spEndsOf K) := by
  refine def_of F scends_of bsends_of (fun vs H Q E h => ?_) fun f cdv A outer s H vs Q E hr h => ?_
  · obtain ⟨x, y, ds, bs, rfl, _⟩ := h
    rfl
  · refine ⟨_, (pss_one (ps_ret (pe_d Dends_by (hr.mono (by omega)) (pa_cons (pv 0) (pa_cons (pe_lc (own := [("lot", 2), ("others", 3)]) (g := (gTup _ 2 (gCons (gName 2) (gCons (gName 3) gNil)))) (tt := tYes) rfl scends_of.nd (pi_tup (pv 1)) (blkOk_by (N := Nends_of) (sc := defScope sends_of) (by decide +kernel)) (fun _ _ _ _ _ => (pg_tup (by rfl) (pgs_cons (pg_name (i := 2) scends_of.nd rfl (by first | exact Or.inl rfl | exact Or.inr rfl)) (pgs_cons (pg_name (i := 3) scends_of.nd rfl (by first | exact Or.inl rfl | exact Or.inr rfl)) pgs_nil)))) (fun _ _ _ _ _ => pts_nil) (fun _ _ _ _ _ => (pe_tup (pa_cons (pe_d Dmask_of (hr.mono (by omega)) (pa_cons (pv 0) (pa_cons (pv 2) pa_nil))) (pa_cons (pe_d Dmask_of (hr.mono (by omega)) (pa_cons (pv 0) (pa_cons (pv 3) pa_nil))) pa_nil))))) pa_nil))))), ?_⟩
    obtain ⟨x, y, ds, bs, rfl, hx, ⟨a, xs, rfl, ha, hp⟩, hn, hz, go⟩ := h
    have hxs := Paired.length hp
    walk_at "v"
    refine w_lcTup (K := K) (a := a) (xs := xs) (fun n y H' => ∀ b, bs[n]? = some b → ∃ t, y = .ref t ∧ SqT K H' t [.int (maskOf ds b.1 : Nat), .int (maskOf ds b.2 : Nat)]) (fun n y H H' h s b hb => ?_) gpair_mono ha (by omega) (fun R k => ⟨_, rfl, k⟩) (fun n y H D ys zs h h1 e b hb => ?_) ?_ ?_
    · obtain ⟨t, e, h⟩ := h b hb
      exact ⟨t, e, Same.sqT s h⟩
    · obtain ⟨t, e', h⟩ := h b hb
      exact ⟨t, e', sqT_upd h e⟩
    · intro n v H' R hv s k
      obtain ⟨b, hb, hbun⟩ := Paired.at hp hv
      obtain ⟨t, y, z, rfl, h1, h2, h3⟩ := hbun.same s
      refine w_gtup2 h1 ⟨rfl, ?_⟩
      refine w_tup ?_
      walk_at "v"
      refine ⟨x, y, ds, b.1, rfl, hx.same s, h2, by omega, fun H2 s2 => ?_⟩
      walk_at "v"
      refine ⟨x, z, ds, b.2, rfl, hx.same (s.trans s2), h3.same s2, by omega, fun H3 s3 => ?_⟩
      walk_at "v"
      rename_i p hp'
      refine k _ _ (same_upd (s2.trans s3) hp') fun b' hb' => ?_
      rw [hb] at hb'
      obtain rfl := Option.some.inj hb'
      exact ⟨p, rfl, SqT.of upd_same⟩
    · intro D H' ys hD s e hl hF
      have hstep : StepsAt K H' (.ref D) (stepsOf ds bs) := by
        refine ⟨D, ys, rfl, SqL.of e, paired_get (by unfold stepsOf; rw [List.length_map]; omega) fun n v p hv hpn => ?_⟩
        unfold stepsOf at hpn
        rw [List.getElem?_map] at hpn
        cases hb : bs[n]? with
        | none =>
          rw [hb] at hpn
          cases hpn
        | some b =>
          rw [hb] at hpn
          obtain ⟨t, e', ht⟩ := hF n v hv b hb
          rw [← Option.some.inj hpn]
          exact ⟨t, e', ht⟩
      walk_at "v"
      refine ⟨x, .ref D, ds, stepsOf ds bs, rfl, hx.same s, hstep, hn, by unfold stepsOf; rw [List.length_map]; omega, fun p hpm => ?_, fun H2 z es s2 hz2 he => go H2 z es (s.trans s2) hz2 he⟩
      unfold stepsOf at hpm
      obtain ⟨b, _, rfl⟩ := List.mem_map.mp hpm
      exact mask_lt _ _
end

/-- a tuple of lots -/
def LotsT (K : PySem.W.Frag) (H : Hp) (z : V) (ls : List (List Str)) : Prop := ∃ a xs, z = .ref a ∧ SqT K H a xs ∧ Paired (LotAt K H) xs ls
theorem LotsT.same {K : PySem.W.Frag} {H H' : Hp} {x : V} {ls : List (List Str)} (h : LotsT K H x ls) (s : Same H H') : LotsT K H' x ls := by
  obtain ⟨a, xs, e, h1, h2⟩ := h
  exact ⟨a, xs, e, Same.sqT s h1, Paired.mapP h2 fun _ _ e => e.same s⟩
/-- the lots that stay, by the table es, from place n on -/
def restsN (ds : List Str) : List Nat → Nat → List (List Str)
  | [], _ => []
  | e :: es, n => if n = e then lotOf ds n :: restsN ds es (n + 1) else restsN ds es (n + 1)
def intsV (ns : List Nat) : List V := ns.map fun n => V.int (n : Nat)
theorem ints_paired : ∀ {ys : List V} {ns : List Nat}, Paired (fun (y : V) (n : Nat) => y = V.int (n : Nat)) ys ns → ys = intsV ns
  | _, _, .nil => rfl
  | _, _, .cons h t => by
    rw [h, ints_paired t]
    rfl
theorem lcG_rests {ds : List Str} : ∀ {es : List Nat} {n : Nat}, (lcG (fun n x => decide (V.int (n : Nat) = x)) (fun n _ => n) (es.map fun e => V.int (e : Nat)) n).map (lotOf ds) = restsN ds es n
  | [], _ => rfl
  | e :: es, n => by
    have ih := lcG_rests (ds := ds) (es := es) (n := n + 1)
    simp only [List.map_cons, lcG, restsN]
    by_cases h : n = e
    · rw [if_pos (decide_eq_true (by rw [h])), if_pos h, List.map_cons, ih]
    · rw [if_neg (fun z => h (by
        have := of_decide_eq_true z
        injection this with this
        omega)), if_neg h, ih]
def spLotsOf (K : PySem.W.Frag) : Sp := fun vs H Q _ => ∃ (x : V) (a : Addr) (ds : List Str) (ms : List Nat), vs = [x, .ref a] ∧ LotAt K H x ds ∧ SqL K H a (intsV ms) ∧ ds.length ≤ 60 ∧ ms.length ≤ 100000 ∧
  ∀ H' z, Same H H' → LotsT K H' z (sortTS (ms.map (lotOf ds))) → Q z H'
def spRestsOf (K : PySem.W.Frag) : Sp := fun vs H Q _ => ∃ (x y : V) (ds : List Str) (es : List Nat), vs = [x, y] ∧ LotAt K H x ds ∧ IntsT K H y es ∧ ds.length ≤ 60 ∧ es.length ≤ 100000 ∧
  ∀ H' z, Same H H' → LotsT K H' z (sortTS (restsN ds es 0)) → Q z H'
section
variable {P : Program} {w : World} {K : PySem.W.Frag} {mg : Str → Option Value} {base : Heap}
theorem ok_lots_of (F : FunAt K mg "lots_of" slots_of) (T : Txt mg) (Dlot_of : Def P w K mg base 1 "lot_of" Plot_of (spLotOf K)) : Def P w K mg base 2 "lots_of" Plots_of (spLotsOf K) := by
  refine def_of F sclots_of bslots_of (fun vs H Q E h => ?_) fun f cdv A outer s H vs Q E hr h => ?_
  · obtain ⟨x, a, ds, ms, rfl, _⟩ := h
    rfl
  · refine ⟨_, (pss_one (ps_ret (pe_callTy call_tuple_of (by rfl) T.n_tuple (by decide +kernel) (pa_cons (pe_callB (cr_sortedTL hr.units) (by rfl) T.n_sorted (by decide +kernel) (pa_cons (pe_lc (own := [("mask", 2)]) (g := (gName 2)) (tt := tYes) rfl sclots_of.nd (pi_list (pv 1)) (blkOk_by (N := Nlots_of) (sc := defScope slots_of) (by decide +kernel)) (fun _ _ _ _ _ => (pg_name (i := 2) sclots_of.nd rfl (by first | exact Or.inl rfl | exact Or.inr rfl))) (fun _ _ _ _ _ => pts_nil) (fun _ _ _ _ _ => (pe_d Dlot_of (hr.mono (by omega)) (pa_cons (pv 0) (pa_cons (pv 2) pa_nil))))) pa_nil)) pa_nil)))), ?_⟩
    obtain ⟨x, a, ds, ms, rfl, hx, ha, hn, hz, go⟩ := h
    have hml : (intsV ms).length = ms.length := by
      unfold intsV
      rw [List.length_map]
    walk_at "v"
    refine w_lcLG (bs := ms) (fun y m H' => LotAt K H' y (lotOf ds m)) (fun y b H H' h s => h.same s) (fun y b H D ys zs h h1 e => ?_) (fun R k => w_var rfl k) ha (by omega) hml (fun _ => rfl) ?_ ?_
    · obtain ⟨t, e', h⟩ := h
      exact ⟨t, e', sqT_upd h e⟩
    · intro n v m H' R hv hm s k
      unfold intsV at hv
      rw [List.getElem?_map, hm] at hv
      obtain rfl := Option.some.inj hv
      walk_at "v"
      exact ⟨x, ds, m, rfl, hx.same s, hn, fun H2 y s2 hy => k y H2 s2 hy⟩
    · intro D H' ys hD s e hp
      walk_at "v"
      refine ⟨D, ys, ms.map (lotOf ds), rfl, SqL.of e, paired_mapR hp, fun zs p hzs hp' => ?_⟩
      walk_at "v"
      have s2 : Same H' (upd H' p (.lst zs)) := same_upd (Same.refl _) hp'
      refine ⟨p, zs, rfl, .inl ⟨SqL.of upd_same, fun l hl => go _ (.ref l) (same_upd (s.trans s2) hl) ⟨l, zs, rfl, SqT.of upd_same, Paired.mapP hzs fun y b h => ?_⟩⟩⟩
      exact (h.same s2).same (same_upd (Same.refl _) hl)
theorem ok_rests_of (F : FunAt K mg "rests_of" srests_of) (T : Txt mg) (Dlots_of : Def P w K mg base 2 "lots_of" Plots_of (spLotsOf K)) : Def P w K mg base 3 "rests_of" Prests_of (spRestsOf K) := by
  refine def_of F scrests_of bsrests_of (fun vs H Q E h => ?_) fun f cdv A outer s H vs Q E hr h => ?_
  · obtain ⟨x, y, ds, es, rfl, _⟩ := h
    rfl
  · refine ⟨_, (pss_one (ps_ret (pe_d Dlots_of (hr.mono (by omega)) (pa_cons (pv 0) (pa_cons (pe_lc (own := [("mask", 2), ("end", 3)]) (g := (gTup _ 2 (gCons (gName 2) (gCons (gName 3) gNil)))) rfl scrests_of.nd (pi_enumT (by rfl) T.n_enumerate (pa_cons (pv 1) pa_nil)) (blkOk_by (N := Nrests_of) (sc := defScope srests_of) (by decide +kernel)) (fun _ _ _ _ _ => (pg_tup (by rfl) (pgs_cons (pg_name (i := 2) scrests_of.nd rfl (by first | exact Or.inl rfl | exact Or.inr rfl)) (pgs_cons (pg_name (i := 3) scrests_of.nd rfl (by first | exact Or.inl rfl | exact Or.inr rfl)) pgs_nil)))) (fun _ _ _ _ _ => (pts_one (pt_cmpR op_eq (pv 2) (pv 3) (nomark _)))) (fun _ _ _ _ _ => (pv 2))) pa_nil))))), ?_⟩
    obtain ⟨x, y, ds, es, rfl, hx, ⟨a, rfl, ha⟩, hn, hz, go⟩ := h
    refine w_ret ?_
    refine w_call ?_
    refine w_cons ?_
    refine w_var rfl ?_
    refine w_cons ?_
    refine w_lcEF (β := Nat) (fun n x => decide (V.int (n : Nat) = x)) (fun n _ => n) (fun y b H' => y = V.int (b : Nat)) (fun y b H H' h s => h) (fun y b H D ys zs h h1 e => h) rfl ha (by rw [List.length_map]; omega) (fun _ _ => rfl) ?_ ?_ ?_
    · intro n v H' R hv s k
      walk_at "v"
      rw [List.getElem?_map] at hv
      cases he : es[n]? with
      | none =>
        rw [he] at hv
        cases hv
      | some e =>
        rw [he] at hv
        obtain rfl := Option.some.inj hv
        exact ⟨rfl, _, rfl, k⟩
    · intro n v H' R hv hc s k
      refine w_var rfl ?_
      exact k _ _ (Same.refl _) rfl
    · intro D H' ys hD s e hp
      have hlen := lcG_len (c := fun n x => decide (V.int (n : Nat) = x)) (f := fun n _ => n) (xs := es.map fun e => V.int (e : Nat)) (n := 0)
      rw [List.length_map] at hlen
      have hys := ints_paired hp
      refine w_nil ?_
      refine ⟨x, D, ds, _, rfl, hx.same s, SqL.of (by rw [e, hys]), hn, by omega, fun H2 z s2 hz2 => ?_⟩
      rw [lcG_rests] at hz2
      exact go H2 z (s.trans s2) hz2
end

abbrev s_law_pot : Stmt := top 39
abbrev N_law_pot : List Str := ["_law_script", "_law_place", "_law_cell", "_law_own", "_law_small"]
abbrev P_law_pot : List Str := ["_law_script", "_law_place"]
theorem sc_law_pot : FnScope N_law_pot P_law_pot (defScope s_law_pot) := ⟨rfl, rfl, rfl, by decide +kernel, rfl, by decide +kernel, by decide +kernel⟩
theorem bs_law_pot : BindsSt "_law_pot" s_law_pot P_law_pot := fun _ _ _ _ _ _ us hl => match us, hl with | [_, _], _ => rfl
abbrev s_law_take : Stmt := top 40
abbrev N_law_take : List Str := ["_law_pot_here", "_law_upto", "_law_digit", "_law_prime", "_law_blend"]
abbrev P_law_take : List Str := ["_law_pot_here", "_law_upto"]
theorem sc_law_take : FnScope N_law_take P_law_take (defScope s_law_take) := ⟨rfl, rfl, rfl, by decide +kernel, rfl, by decide +kernel, by decide +kernel⟩
theorem bs_law_take : BindsSt "_law_take" s_law_take P_law_take := fun _ _ _ _ _ _ us hl => match us, hl with | [_, _], _ => rfl
abbrev s_law_of : Stmt := top 41
abbrev N_law_of : List Str := ["_law_pot_here", "_law_some_here"]
abbrev P_law_of : List Str := ["_law_pot_here", "_law_some_here"]
theorem sc_law_of : FnScope N_law_of P_law_of (defScope s_law_of) := ⟨rfl, rfl, rfl, by decide +kernel, rfl, by decide +kernel, by decide +kernel⟩
theorem bs_law_of : BindsSt "_law_of" s_law_of P_law_of := fun _ _ _ _ _ _ us hl => match us, hl with | [_, _], _ => rfl
abbrev s_law_cells : Stmt := top 43
abbrev N_law_cells : List Str := ["_law_script", "_law_most"]
abbrev P_law_cells : List Str := ["_law_script", "_law_most"]
theorem sc_law_cells : FnScope N_law_cells P_law_cells (defScope s_law_cells) := ⟨rfl, rfl, rfl, by decide +kernel, rfl, by decide +kernel, by decide +kernel⟩
theorem bs_law_cells : BindsSt "_law_cells" s_law_cells P_law_cells := fun _ _ _ _ _ _ us hl => match us, hl with | [_, _], _ => rfl
abbrev s_law_some : Stmt := top 42
abbrev N_law_some : List Str := ["_law_pot_here", "_law_pool", "_law_many", "_law_rest_here", "_law_found", "_law_lap"]
abbrev P_law_some : List Str := ["_law_pot_here", "_law_pool", "_law_many"]
theorem sc_law_some : FnScope N_law_some P_law_some (defScope s_law_some) := ⟨rfl, rfl, rfl, by decide +kernel, rfl, by decide +kernel, by decide +kernel⟩
theorem bs_law_some : BindsSt "_law_some" s_law_some P_law_some := fun _ _ _ _ _ _ us hl => match us, hl with | [_, _, _], _ => rfl
abbrev s_law_names : Stmt := top 47
abbrev N_law_names : List Str := ["_law_pot_here", "_law_many", "_law_pool"]
abbrev P_law_names : List Str := ["_law_pot_here", "_law_many"]
theorem sc_law_names : FnScope N_law_names P_law_names (defScope s_law_names) := ⟨rfl, rfl, rfl, by decide +kernel, rfl, by decide +kernel, by decide +kernel⟩
theorem bs_law_names : BindsSt "_law_names" s_law_names P_law_names := fun _ _ _ _ _ _ us hl => match us, hl with | [_, _], _ => rfl
abbrev s_law_devices : Stmt := top 48
abbrev N_law_devices : List Str := ["_law_pot_here", "_law_most"]
abbrev P_law_devices : List Str := ["_law_pot_here", "_law_most"]
theorem sc_law_devices : FnScope N_law_devices P_law_devices (defScope s_law_devices) := ⟨rfl, rfl, rfl, by decide +kernel, rfl, by decide +kernel, by decide +kernel⟩
theorem bs_law_devices : BindsSt "_law_devices" s_law_devices P_law_devices := fun _ _ _ _ _ _ us hl => match us, hl with | [_, _], _ => rfl
abbrev s_law_lots : Stmt := top 49
abbrev N_law_lots : List Str := ["_law_devices_here", "_law_found", "_law_name", "_law_lot_here"]
abbrev P_law_lots : List Str := ["_law_devices_here"]
theorem sc_law_lots : FnScope N_law_lots P_law_lots (defScope s_law_lots) := ⟨rfl, rfl, rfl, by decide +kernel, rfl, by decide +kernel, by decide +kernel⟩
theorem bs_law_lots : BindsSt "_law_lots" s_law_lots P_law_lots := fun _ _ _ _ _ _ us hl => match us, hl with | [_], _ => rfl
abbrev s_law_in_sequence : Stmt := top 50
abbrev N_law_in_sequence : List Str := ["_law_devices_here", "_law_names_here", "_law_name"]
abbrev P_law_in_sequence : List Str := ["_law_devices_here", "_law_names_here"]
theorem sc_law_in_sequence : FnScope N_law_in_sequence P_law_in_sequence (defScope s_law_in_sequence) := ⟨rfl, rfl, rfl, by decide +kernel, rfl, by decide +kernel, by decide +kernel⟩
theorem bs_law_in_sequence : BindsSt "_law_in_sequence" s_law_in_sequence P_law_in_sequence := fun _ _ _ _ _ _ us hl => match us, hl with | [_, _], _ => rfl
abbrev s_law_is_within : Stmt := top 51
abbrev N_law_is_within : List Str := ["_law_one", "_law_other", "_law_name"]
abbrev P_law_is_within : List Str := ["_law_one", "_law_other"]
theorem sc_law_is_within : FnScope N_law_is_within P_law_is_within (defScope s_law_is_within) := ⟨rfl, rfl, rfl, by decide +kernel, rfl, by decide +kernel, by decide +kernel⟩
theorem bs_law_is_within : BindsSt "_law_is_within" s_law_is_within P_law_is_within := fun _ _ _ _ _ _ us hl => match us, hl with | [_, _], _ => rfl
abbrev s_law_outside : Stmt := top 52
abbrev N_law_outside : List Str := ["_law_devices_here", "_law_lot_here", "_law_name"]
abbrev P_law_outside : List Str := ["_law_devices_here", "_law_lot_here"]
theorem sc_law_outside : FnScope N_law_outside P_law_outside (defScope s_law_outside) := ⟨rfl, rfl, rfl, by decide +kernel, rfl, by decide +kernel, by decide +kernel⟩
theorem bs_law_outside : BindsSt "_law_outside" s_law_outside P_law_outside := fun _ _ _ _ _ _ us hl => match us, hl with | [_, _], _ => rfl
abbrev s_law_lot : Stmt := top 53
abbrev N_law_lot : List Str := ["_law_pot_here", "_law_devices_here", "_law_many"]
abbrev P_law_lot : List Str := ["_law_pot_here", "_law_devices_here"]
theorem sc_law_lot : FnScope N_law_lot P_law_lot (defScope s_law_lot) := ⟨rfl, rfl, rfl, by decide +kernel, rfl, by decide +kernel, by decide +kernel⟩
theorem bs_law_lot : BindsSt "_law_lot" s_law_lot P_law_lot := fun _ _ _ _ _ _ us hl => match us, hl with | [_, _], _ => rfl
abbrev s_law_rest : Stmt := top 54
abbrev N_law_rest : List Str := ["_law_devices_here", "_law_rows_here", "_law_lot_here", "_law_on", "_law_stirs", "_law_first", "_law_others", "_law_name"]
abbrev P_law_rest : List Str := ["_law_devices_here", "_law_rows_here", "_law_lot_here"]
theorem sc_law_rest : FnScope N_law_rest P_law_rest (defScope s_law_rest) := ⟨rfl, rfl, rfl, by decide +kernel, rfl, by decide +kernel, by decide +kernel⟩
theorem bs_law_rest : BindsSt "_law_rest" s_law_rest P_law_rest := fun _ _ _ _ _ _ us hl => match us, hl with | [_, _, _], _ => rfl
abbrev s_law_table : Stmt := top 55
abbrev N_law_table : List Str := ["_law_devices_here", "_law_rows_here", "_law_lot_here"]
abbrev P_law_table : List Str := ["_law_devices_here", "_law_rows_here"]
theorem sc_law_table : FnScope N_law_table P_law_table (defScope s_law_table) := ⟨rfl, rfl, rfl, by decide +kernel, rfl, by decide +kernel, by decide +kernel⟩
theorem bs_law_table : BindsSt "_law_table" s_law_table P_law_table := fun _ _ _ _ _ _ us hl => match us, hl with | [_, _], _ => rfl
abbrev s_law_rows : Stmt := top 56
abbrev N_law_rows : List Str := ["_law_pot_here", "_law_devices_here", "_law_most", "_law_found", "_law_lap", "_law_lot_here", "_law_rest_here", "_law_others"]
abbrev P_law_rows : List Str := ["_law_pot_here", "_law_devices_here", "_law_most"]
theorem sc_law_rows : FnScope N_law_rows P_law_rows (defScope s_law_rows) := ⟨rfl, rfl, rfl, by decide +kernel, rfl, by decide +kernel, by decide +kernel⟩
theorem bs_law_rows : BindsSt "_law_rows" s_law_rows P_law_rows := fun _ _ _ _ _ _ us hl => match us, hl with | [_, _, _], _ => rfl
abbrev s_law_right : Stmt := top 60
abbrev N_law_right : List Str := ["_law_pot_here", "_law_devices_here", "_law_rows_here", "_law_others", "_law_mine", "_law_like", "_law_its", "_law_one", "_law_other", "_law_told_here", "_law_far", "_law_some_here", "_law_lap", "_law_value", "_law_fars", "_law_looks", "_law_caught", "_law_look", "_law_error"]
abbrev P_law_right : List Str := ["_law_pot_here"]
theorem sc_law_right : FnScope N_law_right P_law_right (defScope s_law_right) := ⟨rfl, rfl, rfl, by decide +kernel, rfl, by decide +kernel, by decide +kernel⟩
theorem bs_law_right : BindsSt "_law_right" s_law_right P_law_right := fun _ _ _ _ _ _ us hl => match us, hl with | [_], _ => rfl
abbrev slaw : Stmt := top 61
abbrev Nlaw : List Str := ["_law_script", "_law_place", "_law_pot_here", "_law_lap"]
abbrev Plaw : List Str := ["_law_script"]
theorem sclaw : FnScope Nlaw Plaw (defScope slaw) := ⟨rfl, rfl, rfl, by decide +kernel, rfl, by decide +kernel, by decide +kernel⟩
theorem bslaw : BindsSt "law" slaw Plaw := fun _ _ _ _ _ _ us hl => match us, hl with | [_], _ => rfl
/-! ## the pot that is drawn from -/
def PotAt (H : Hp) (q : Addr) (n : Nat) : Prop := ∃ own b k : Int, H q = some (.lst [.int own, .int b, .int k]) ∧ 0 ≤ own ∧ own < 10 ^ 300 ∧ 0 ≤ b ∧ b < 2305843009213693921 ∧ 0 ≤ k ∧ k ≤ n
theorem PotAt.mono {H : Hp} {q : Addr} {n m : Nat} (h : PotAt H q n) (l : n ≤ m) : PotAt H q m := by
  obtain ⟨own, b, k, e, h1, h2, h3, h4, h5, h6⟩ := h
  exact ⟨own, b, k, e, h1, h2, h3, h4, h5, by omega⟩
theorem PotAt.upd {H : Hp} {q p : Addr} {n : Nat} {o : HO} (h : PotAt H q n) (hp : H p = none) : PotAt (L2.upd H p o) q n := by
  obtain ⟨own, b, k, e, r⟩ := h
  exact ⟨own, b, k, by rw [upd_ne (ne_of_none e hp)]; exact e, r⟩
def spTake : Sp := fun vs H Q _ => ∃ (q : Addr) (up : Int) (n : Nat), vs = [.ref q, .int up] ∧ 1 ≤ up ∧ up < 2 ^ 30 ∧ PotAt H q n ∧ n ≤ 1000000 ∧
  ∀ (H' : Hp) (r : Int), HS q H H' → PotAt H' q (n + 1) → 0 ≤ r → r < up → Q (.int r) H'
def spPot (K : PySem.W.Frag) : Sp := fun vs H Q _ => ∃ (a : Addr) (ns : List Int) (p : Nat), vs = [.ref a, .int (p : Int)] ∧ SqL K H a (ns.map V.int) ∧ p ≤ 1000 ∧
  ∀ (H' : Hp) (q : Addr), H q = none → Same H H' → PotAt H' q 0 → Q (.ref q) H'
section
variable {P : Program} {w : World} {K : PySem.W.Frag} {mg : Str → Option Value} {base : Heap}
theorem ok_take (F : FunAt K mg "_law_take" s_law_take) (T : Txt mg) : Def P w K mg base 1 "_law_take" P_law_take spTake := by
  refine def_of F sc_law_take bs_law_take (fun vs H Q E h => ?_) fun f cdv A outer s H vs Q E hr h => ?_
  · obtain ⟨q, up, n, rfl, _⟩ := h
    rfl
  · refine ⟨_, (pss_cons (ps_if (pt_cmpR op_gt (pe_ix ix_list (pv 0) pe_int (fun _ _ => rfl)) pe_int (nomark _)) (pss_cons (ps_set (i := 2) sc_law_take.nd rfl (by first | exact Or.inl rfl | exact Or.inr rfl) (pe_op op_modN (pe_callTy call_int1 (by rfl) T.n_int (by decide +kernel) (pa_cons (pe_ix ix_list (pv 0) pe_int (fun _ _ => rfl)) pa_nil)) (pv 1)))
  (pss_cons (ps_asg (pe_op op_fdiv (pe_ix ix_list (pv 0) pe_int (fun _ _ => rfl)) (pv 1)) (pg_sub (pv 0) pe_int set_list))
  (pss_one (ps_ret (pv 2))))) pss_nil)
  (pss_cons (ps_asg (pe_op op_add (pe_ix ix_list (pv 0) pe_int (fun _ _ => rfl)) pe_int) (pg_sub (pv 0) pe_int set_list))
  (pss_cons (ps_set (i := 3) sc_law_take.nd rfl (by first | exact Or.inl rfl | exact Or.inr rfl) (pe_ix ix_list (pe_lstN (pa_cons pe_int (pa_cons pe_int (pa_cons pe_int (pa_cons pe_int (pa_cons pe_int pa_nil)))))) (pe_op op_modN (pe_callTy call_int1 (by rfl) T.n_int (by decide +kernel) (pa_cons (pe_ix ix_list (pv 0) pe_int (fun _ _ => rfl)) pa_nil)) pe_int) (fun _ _ => rfl)))
  (pss_cons (ps_set (i := 4) sc_law_take.nd rfl (by first | exact Or.inl rfl | exact Or.inr rfl) (pe_op op_modN (pe_callTy call_int1 (by rfl) T.n_int (by decide +kernel) (pa_cons (pe_op op_pow (pe_callTy call_int1 (by rfl) T.n_int (by decide +kernel) (pa_cons (pe_op op_add (pe_op op_add (pe_ix ix_list (pv 0) pe_int (fun _ _ => rfl)) (pe_op op_mul (pe_op op_mul pe_int (pe_ix ix_list (pv 0) pe_int (fun _ _ => rfl))) (pe_ix ix_list (pv 0) pe_int (fun _ _ => rfl)))) pe_int) pa_nil)) pe_int) pa_nil)) (pv 3)))
  (pss_cons (ps_set (i := 4) sc_law_take.nd rfl (by first | exact Or.inl rfl | exact Or.inr rfl) (pe_op op_modN (pe_callTy call_int1 (by rfl) T.n_int (by decide +kernel) (pa_cons (pe_op op_mul (pv 4) (pe_op op_add (pe_op op_modN (pe_callTy call_int1 (by rfl) T.n_int (by decide +kernel) (pa_cons (pv 4) pa_nil)) pe_int) (pe_op op_mul pe_int (pe_ix ix_list (pv 0) pe_int (fun _ _ => rfl))))) pa_nil)) pe_int))
  (pss_one (ps_ret (pe_op op_modN (pe_callTy call_int1 (by rfl) T.n_int (by decide +kernel) (pa_cons (pe_op op_fdiv (pv 4) pe_int) pa_nil)) (pv 1))))))))), ?_⟩
    obtain ⟨q, up, n, rfl, h1, h2, ⟨own, b, k, e, p1, p2, p3, p4, p5, p6⟩, hn, go⟩ := h
    walk_at "w"
    refine iteD (fun c => ?_) (fun c => ?_)
    · walk_at "w"
      refine go _ _ (HS.updq (HS.refl q H)) ⟨_, _, _, upd_same, ?_, ?_, p3, p4, p5, by omega⟩ (Int.fmod_nonneg_of_pos own (by omega)) (Int.fmod_lt_of_pos own (by omega))
      · exact Int.ediv_nonneg p1 (by omega)
      · exact Int.lt_of_le_of_lt (Int.ediv_le_self up p1) p2
    · walk_at "w"
      refine w_ixLany (by walk_at "sq") (Int.fmod_nonneg_of_pos _ (by decide)) (Int.fmod_lt_of_pos _ (show (0 : Int) < 5 by decide)) fun v hv => ?_
      obtain ⟨pr, rfl, q1, q2⟩ : ∃ pr : Int, v = .int pr ∧ 0 < pr ∧ pr < 2147483648 := by
        simp only [List.mem_cons, List.not_mem_nil, or_false] at hv
        rcases hv with rfl | rfl | rfl | rfl | rfl <;> exact ⟨_, rfl, by decide, by decide⟩
      walk_at "w"
      have sq : 0 ≤ 120065 * (k + 1) * (k + 1) ∧ 120065 * (k + 1) * (k + 1) ≤ 120065 * 1000001 * 1000001 :=
        ⟨Int.mul_nonneg (by omega) (by omega), Int.mul_le_mul (by omega) (by omega) (by omega) (by decide)⟩
      refine w_I ⟨by decide, by decide, by omega⟩ ?_
      walk_at "w"
      have bl1 := Int.fmod_nonneg_of_pos ((b + 120065 * (k + 1) * (k + 1) + 227) ^ Int.toNat 3) q1
      have bl2 := Int.fmod_lt_of_pos ((b + 120065 * (k + 1) * (k + 1) + 227) ^ Int.toNat 3) q1
      generalize ((b + 120065 * (k + 1) * (k + 1) + 227) ^ Int.toNat 3).fmod pr = bl at bl1 bl2 ⊢
      walk_at "w"
      refine go _ _ ((HS.updq (HS.refl q H)).upd (by assumption)) ⟨own, b, k + 1, upd_get (by assumption) upd_same, p1, p2, p3, p4, by omega, by omega⟩
        (Int.fmod_nonneg_of_pos _ (by omega)) (Int.fmod_lt_of_pos _ (by omega))
end

section
variable {P : Program} {w : World} {K : PySem.W.Frag} {mg : Str → Option Value} {base : Heap}
theorem pow300 : ((10 : Int) ^ Int.toNat 60) ^ Int.toNat 5 = 10 ^ 300 := by decide +kernel
theorem ok_pot (F : FunAt K mg "_law_pot" s_law_pot) (T : Txt mg) : Def P w K mg base 1 "_law_pot" P_law_pot (spPot K) := by
  refine def_of F sc_law_pot bs_law_pot (fun vs H Q E h => ?_) fun f cdv A outer s H vs Q E hr h => ?_
  · obtain ⟨a, ns, p, rfl, _⟩ := h
    rfl
  · refine ⟨_, (pss_cons (ps_set (i := 2) sc_law_pot.nd rfl (by first | exact Or.inl rfl | exact Or.inr rfl) (pe_ifExp (pt_cmpR op_lt (pv 1) (pe_callB call_len (by rfl) T.n_len PySem.boot_len (pa_cons (pv 0) pa_nil)) (nomark _)) (pe_ix ix_list (pv 0) (pv 1) (fun _ _ => rfl)) (pe_op op_add (pe_op op_mul pe_int (pv 1)) pe_int)))
  (pss_cons (ps_set (i := 3) sc_law_pot.nd rfl (by first | exact Or.inl rfl | exact Or.inr rfl) (pe_op op_mulW (pe_op op_modN (pe_callTy call_int1 (by rfl) T.n_int (by decide +kernel) (pa_cons (pe_callB call_abs (by rfl) T.n_abs (by decide +kernel) (pa_cons (pv 2) pa_nil)) pa_nil)) (pe_op op_powW (pe_op op_powW pe_int pe_int) pe_int)) (pe_callTy call_int1 (by rfl) T.n_int (by decide +kernel) (pa_cons (pe_cmpR op_ge (pe_callB call_abs (by rfl) T.n_abs (by decide +kernel) (pa_cons (pv 2) pa_nil)) (pe_op op_powW pe_int pe_int) (nomark _)) pa_nil))))
  (pss_cons (ps_set (i := 4) sc_law_pot.nd rfl (by first | exact Or.inl rfl | exact Or.inr rfl) (pe_op op_modN (pe_callTy call_int1 (by rfl) T.n_int (by decide +kernel) (pa_cons (pv 2) pa_nil)) pe_int))
  (pss_one (ps_ret (pe_lstN (pa_cons (pv 3) (pa_cons (pe_op op_modN (pe_callTy call_int1 (by rfl) T.n_int (by decide +kernel) (pa_cons (pe_op op_add (pe_op op_add (pe_op op_mul (pv 4) pe_int) (pe_op op_mul (pe_op op_mul pe_int (pv 1)) (pv 1))) pe_int) pa_nil)) pe_int) (pa_cons pe_int pa_nil))))))))), ?_⟩
    obtain ⟨a, ns, p, rfl, hs, hp, go⟩ := h
    have hs' : SqL (cxOf CX0 P w K mg base N_law_pot "_law_pot" (defScope s_law_pot) f cdv A outer s H E).nox.K H a (ns.map V.int) := hs
    walk_at "w"
    rw [List.length_map]
    have cont : ∀ x : Int, CMulW (x.fmod ((10 ^ Int.toNat 60) ^ Int.toNat 5)) (if decide (10 ^ Int.toNat 18 ≤ x) = true then 1 else 0) := by
      intro x
      rw [pow300]
      have h1 := Int.fmod_nonneg_of_pos x (show (0 : Int) < 10 ^ 300 by decide)
      have h2 := Int.fmod_lt_of_pos x (show (0 : Int) < 10 ^ 300 by decide)
      refine wide_mul (a := 1000) (b := 1) ?_ ?_ (by decide) (by decide) (by decide)
      · have h3 : (10 : Int) ^ 300 < 2 ^ 1000 := by decide
        omega
      · split <;> decide
    have bnd : ∀ x : Int, 0 ≤ x.fmod ((10 ^ Int.toNat 60) ^ Int.toNat 5) * (if decide (10 ^ Int.toNat 18 ≤ x) = true then 1 else 0) ∧
        x.fmod ((10 ^ Int.toNat 60) ^ Int.toNat 5) * (if decide (10 ^ Int.toNat 18 ≤ x) = true then 1 else 0) < 10 ^ 300 := by
      intro x
      rw [pow300]
      have h1 := Int.fmod_nonneg_of_pos x (show (0 : Int) < 10 ^ 300 by decide)
      have h2 := Int.fmod_lt_of_pos x (show (0 : Int) < 10 ^ 300 by decide)
      split <;> omega
    have fin : ∀ (x y : Int) (p : Addr), H p = none → 0 ≤ x ∧ x < 10 ^ 300 → 0 ≤ y ∧ y < 2305843009213693921 → Q (V.ref p) (upd H p (HO.lst [V.int x, V.int y, V.int 0])) := by
      intro x y p hp hx hy
      exact go _ p hp (fun b o e => upd_get hp e) ⟨_, _, _, upd_same, hx.1, hx.2, hy.1, hy.2, by decide, by decide⟩
    have bnd2 : ∀ x : Int, 0 ≤ x.fmod 2305843009213693921 ∧ x.fmod 2305843009213693921 < 2305843009213693921 := fun x => ⟨Int.fmod_nonneg_of_pos _ (by decide), Int.fmod_lt_of_pos _ (by decide)⟩
    refine iteD (fun c => ?_) (fun c => ?_)
    · walk_at "w"
      refine w_ixLany (i := (p : Int)) hs' (by omega) (by rw [List.length_map]; exact c) fun v hv => ?_
      obtain ⟨z, _, rfl⟩ := List.mem_map.mp hv
      walk_at "w"
      refine w_Ib (fun r => 0 ≤ r ∧ r < 10 ^ 300) (cont _) (bnd _) fun own o => ?_
      walk_at "w"
      exact fin _ _ _ (by assumption) o (bnd2 _)
    · walk_at "w"
      generalize (367 * (p : Int) + 178) = z
      refine w_Ib (fun r => 0 ≤ r ∧ r < 10 ^ 300) (cont _) (bnd _) fun own o => ?_
      walk_at "w"
      exact fin _ _ _ (by assumption) o (bnd2 _)
end

theorem HS.sqL {K : PySem.W.Frag} {q l : Addr} {H H' : Hp} {xs : List V} (h : HS q H H') (n : l ≠ q) (s : SqL K H l xs) : SqL K H' l xs := by
  rcases s with (s | ⟨o, s⟩) | s
  · exact .inl (.inl (h l _ n s))
  · exact .inl (.inr ⟨o, h l _ n s⟩)
  · exact .inr s
theorem w_ixS {K : PySem.W.Frag} {H : Hp} {Q : VK} {p : Addr} {xs : List V} {i : Int} (h : SqL K H p xs ∨ SqT K H p xs) (h0 : 0 ≤ i) (h1 : i < (xs.length : Int)) (k : ∀ v, v ∈ xs → Q v H) : rIx K (.ref p) (.int i) H Q := by
  rcases h with h | h
  · exact .inl (w_ixLany h h0 h1 k)
  · exact .inr (.inl (w_ixTany h h0 h1 k))
def SqA (K : PySem.W.Frag) (q : Addr) (H : Hp) (l : Addr) (xs : List V) : Prop := (SqL K H l xs ∧ l ≠ q) ∨ SqT K H l xs
def spOf (K : PySem.W.Frag) : Sp := fun vs H Q _ => ∃ (q l : Addr) (xs : List V) (n : Nat), vs = [.ref q, .ref l] ∧ SqA K q H l xs ∧ xs ≠ [] ∧ xs.length < 2 ^ 30 ∧ PotAt H q n ∧ n ≤ 1000000 ∧
  ∀ (H' : Hp) (v : V), v ∈ xs → HS q H H' → PotAt H' q (n + 1) → Q v H'
def spCells (K : PySem.W.Frag) : Sp := fun vs H Q _ => ∃ (a : Addr) (ns : List Int) (m : Nat), vs = [.ref a, .int (m : Int)] ∧ SqL K H a (ns.map V.int) ∧ 1 ≤ m ∧ m ≤ 60 ∧
  ∀ (p : Addr) (k : Nat), H p = none → 1 ≤ k → k ≤ m → Q (.ref p) (upd H p (.lst (rgV 0 (k : Int))))
section
variable {P : Program} {w : World} {K : PySem.W.Frag} {mg : Str → Option Value} {base : Heap}
theorem ok_of (F : FunAt K mg "_law_of" s_law_of) (T : Txt mg) (D_law_take : Def P w K mg base 1 "_law_take" P_law_take spTake) : Def P w K mg base 2 "_law_of" P_law_of (spOf K) := by
  refine def_of F sc_law_of bs_law_of (fun vs H Q E h => ?_) fun f cdv A outer s H vs Q E hr h => ?_
  · obtain ⟨q, l, xs, n, rfl, _⟩ := h
    rfl
  · refine ⟨_, (pss_one (ps_ret (pe_ix ix_seq (pv 1) (pe_d D_law_take (hr.mono (by omega)) (pa_cons (pv 0) (pa_cons (pe_callB call_len (by rfl) T.n_len PySem.boot_len (pa_cons (pv 1) pa_nil)) pa_nil))) (fun _ _ => rfl)))), ?_⟩
    obtain ⟨q, l, xs, n, rfl, hs, hne, hlt, hp, hn, go⟩ := h
    have hpos := List.length_pos_iff.mpr hne
    walk_at "w"
    refine ⟨_, xs.length, rfl, hs.elim (fun z => .inl ⟨_, z.1, rfl⟩) (fun z => .inr ⟨_, z, rfl⟩), ?_⟩
    walk_at "w"
    refine ⟨q, _, n, rfl, by omega, by omega, hp, hn, fun H' r hH hp' r0 r1 => ?_⟩
    obtain ⟨own, b, k, e, _⟩ := hp
    refine w_ixS (hs.elim (fun z => .inl (hH.sqL z.2 z.1)) fun z => .inr (hH.sqT e z)) r0 r1 fun v hv => ?_
    exact go H' v hv hH hp'
theorem ok_cells (F : FunAt K mg "_law_cells" s_law_cells) (T : Txt mg) : Def P w K mg base 1 "_law_cells" P_law_cells (spCells K) := by
  refine def_of F sc_law_cells bs_law_cells (fun vs H Q E h => ?_) fun f cdv A outer s H vs Q E hr h => ?_
  · obtain ⟨q, l, xs, rfl, _⟩ := h
    rfl
  · refine ⟨_, (pss_one (ps_ret (pe_listRg rfl (by rfl) T.n_list (prg_1 (by rfl) T.n_range (pe_callB (call_max2 rfl) (by rfl) T.n_max (by decide +kernel) (pa_cons pe_int (pa_cons (pe_callB (call_min2 rfl) (by rfl) T.n_min (by decide +kernel) (pa_cons (pv 1) (pa_cons (pe_callB call_len (by rfl) T.n_len PySem.boot_len (pa_cons (pv 0) pa_nil)) pa_nil))) pa_nil))))))), ?_⟩
    obtain ⟨a, ns, m, rfl, hs, h1, h2, go⟩ := h
    walk_at "w"
    refine ⟨_, ns.length, rfl, .inl ⟨_, hs, by rw [List.length_map]⟩, ?_⟩
    walk_at "w"
    have hz : ∀ x y : Int, 1 ≤ y → y ≤ 60 → 1 ≤ (if (if x < y then x else y) > 1 then (if x < y then x else y) else 1) ∧ (if (if x < y then x else y) > 1 then (if x < y then x else y) else 1) ≤ y := by
      intro x y h1 h2
      split <;> split <;> constructor <;> omega
    have hz' := hz (ns.length : Int) (m : Int) (by omega) (by omega)
    generalize (if (if (ns.length : Int) < (m : Int) then (ns.length : Int) else (m : Int)) > 1 then (if (ns.length : Int) < (m : Int) then (ns.length : Int) else (m : Int)) else 1) = z at hz' ⊢
    obtain ⟨k, rfl⟩ : ∃ k : Nat, z = (k : Int) := ⟨z.toNat, by omega⟩
    exact ⟨RgOk.of_le (by decide) (by omega) (by decide) (by omega), fun p hp => go p k hp (by omega) (by omega)⟩
end

/-- many of the pool, each once -/
def spSome (K : PySem.W.Frag) : Sp := fun vs H Q _ => ∃ (q l : Addr) (xs : List V) (m n : Nat), vs = [.ref q, .ref l, .int (m : Nat)] ∧ SqA K q H l xs ∧ m ≤ xs.length ∧ xs.length ≤ 1000 ∧ PotAt H q n ∧ n + m ≤ 1000000 ∧
  ∀ (H' : Hp) (p : Addr) (ys zs : List V), HS q H H' → p ≠ q → H p = none → p ≠ sysModules → H' p = some (.lst ys) → ys.length = m → (ys ++ zs).Perm xs → PotAt H' q (n + m) → Q (.ref p) H'
theorem PotAt.same {H H' : Hp} {q : Addr} {n : Nat} (h : PotAt H q n) (s : Same H H') : PotAt H' q n := by
  obtain ⟨own, b, k, e, r⟩ := h
  exact ⟨own, b, k, s _ _ e, r⟩
theorem w_bm {K : PySem.W.Frag} {T : String} {r : V → List V → Hp → VK → Prop} {to : TE} {t : TA} {σ : L2.St} {H : Hp} {Q : VK} (k : to σ H fun x H1 => tyV K T x H1 ∧ t σ H1 fun xs H2 => r x xs H2 Q) : tBM K T r to t σ H Q := k
theorem seq_ix {k : Int} {n : Nat} (h0 : 0 ≤ k) (h1 : k < (n : Int)) : seqIndex? k n = some k.toNat := by
  have h : ¬ k < 0 := by omega
  simp only [seqIndex?, if_neg h]
  rw [if_pos (by simp only [Bool.and_eq_true, decide_eq_true_eq]; exact ⟨h0, h1⟩)]
theorem erase_perm {α : Type} : ∀ (l : List α) (k : Nat) (h : k < l.length), (l[k] :: l.eraseIdx k).Perm l
  | [], _, h => absurd h (Nat.not_lt_zero _)
  | a :: l, 0, _ => .refl _
  | a :: l, k + 1, h => by
    have ih := erase_perm l k (Nat.lt_of_succ_lt_succ h)
    exact (List.Perm.swap _ _ _).trans (ih.cons a)
theorem w_par {i j : Nat} {ta : TA} {D : Ends} {σ : L2.St} {H : Hp} (k : ta σ H fun xs H1 => ∃ x y, xs = [x, y] ∧ D.nx ((σ.set i (some x)).set j (some y)) H1) : tPar i j ta D σ H := k
section
variable {P : Program} {w : World} {K : PySem.W.Frag} {mg : Str → Option Value} {base : Heap}
theorem ok_some (F : FunAt K mg "_law_some" s_law_some) (T : Txt mg) (D_law_take : Def P w K mg base 1 "_law_take" P_law_take spTake) : Def P w K mg base 2 "_law_some" P_law_some (spSome K) := by
  refine def_of F sc_law_some bs_law_some (fun vs H Q E h => ?_) fun f cdv A outer s H vs Q E hr h => ?_
  · obtain ⟨q, l, xs, m, n, rfl, _⟩ := h
    rfl
  · refine ⟨_, (pss_cons (ps_par (i := 3) (j := 4) (by rfl) sc_law_some.nd rfl rfl (by decide) rfl rfl (pa_cons (pe_callTy call_listN (by rfl) T.n_list (by decide +kernel) (pa_cons (pv 1) pa_nil)) (pa_cons (pe_lstN pa_nil) pa_nil)) (by rfl))
  (pss_cons (ps_for PassesOwn.never rfl (pi_range1 (by rfl) T.n_range (pa_cons (pv 2) pa_nil)) (pg_name (i := 5) sc_law_some.nd rfl (by first | exact Or.inl rfl | exact Or.inr rfl)) (pss_one (ps_expr (pe_bm PySem.F.plainAttrs_list PySem.F.slot_list_append PySem.F.type_list_append mt_append (pv 4) (pa_cons (pe_bm PySem.F.plainAttrs_list PySem.F.slot_list_pop PySem.F.type_list_pop mt_popAt (pv 3) (pa_cons (pe_d D_law_take (hr.mono (by omega)) (pa_cons (pv 0) (pa_cons (pe_callB call_len (by rfl) T.n_len PySem.boot_len (pa_cons (pv 3) pa_nil)) pa_nil))) pa_nil)) pa_nil)))))
  (pss_one (ps_ret (pv 4))))), ?_⟩
    obtain ⟨q, l, xs, m, n, rfl, hs, hm, hz, hp, hn, go⟩ := h
    have hq : ∃ o, H q = some o := by
      obtain ⟨own, b, c, e, _⟩ := id hp
      exact ⟨_, e⟩
    obtain ⟨oq, eq⟩ := hq
    walk_at "v"
    refine w_par ?_
    walk_at "v"
    refine ⟨l, xs, rfl, hs.elim (fun z => .inl z.1) .inr, fun r hr0 hm0 => ?_⟩
    walk_at "v"
    refine w_lstN ?_
    walk_at "v"
    rename_i fd hfd hfm
    refine ⟨_, _, rfl, ?_⟩
    walk_at "v"
    have rq : r ≠ q := Ne.symm (ne_of_none eq hr0)
    have s1 : Same H (upd H r (.lst xs)) := same_upd (Same.refl _) hr0
    have fq : fd ≠ q := Ne.symm (ne_of_none (s1 _ _ eq) hfd)
    have fr : fd ≠ r := Ne.symm (ne_of_none (upd_same (H := H) (a := r) (o := .lst xs)) hfd)
    have s2 : Same H (upd (upd H r (.lst xs)) fd (.lst [])) := same_upd s1 hfd
    have hf0 : H fd = none := by
      rw [upd_ne fr] at hfd
      exact hfd
    refine ⟨_, rfl, (m : Int), rfl, by omega, by omega, ?_⟩
    have em : ((m : Nat) : Int).toNat = m := Int.toNat_natCast m
    rw [em]
    refine for_range (lo := 0) (n := m) (Pv := fun i σ' H' => ∃ (x5 : Option V) (ys zs : List V), σ' = [some (.ref q), some (.ref l), some (.int (m : Nat)), some (.ref r), some (.ref fd), x5] ∧ HS q H H' ∧ H' r = some (.lst zs) ∧ H' fd = some (.lst ys) ∧ ys.length = i ∧ (ys ++ zs).Perm xs ∧ PotAt H' q (n + i))
      ⟨none, [], xs, rfl, HS.same s2, (upd_ne (Ne.symm fr)).trans upd_same, upd_same, rfl, .refl _, hp.same s2⟩ ?_ ?_
    · rintro i σ' H' hi ⟨x5, ys, zs, rfl, hS, hzs, hys, hlen, hpm, hpot⟩
      have hl := hpm.length_eq
      rw [List.length_append] at hl
      walk_at "v"
      refine w_bm ?_
      walk_at "v"
      refine ⟨.inl ⟨rfl, _, SqL.of hys⟩, ?_⟩
      walk_at "v"
      refine w_bm ?_
      walk_at "v"
      refine ⟨.inl ⟨rfl, _, SqL.of hzs⟩, ?_⟩
      walk_at "v"
      refine ⟨q, (zs.length : Nat), n + i, rfl, by omega, by omega, hpot, by omega, fun H2 k hS2 hp2 k0 k1 => ?_⟩
      have ez : H2 r = some (.lst zs) := hS2 _ _ rq hzs
      have ey : H2 fd = some (.lst ys) := hS2 _ _ fq hys
      have hk : k.toNat < zs.length := by omega
      have hget : zs[k.toNat]? = some zs[k.toNat] := List.getElem?_eq_getElem hk
      walk_at "v"
      refine ⟨r, zs, k, k.toNat, zs[k.toNat], rfl, rfl, ez, by omega, by omega, ?_, hget, ?_⟩
      · exact seq_ix k0 k1
      walk_at "v"
      have ey2 : (upd H2 r (.lst (zs.eraseIdx k.toNat))) fd = some (.lst ys) := (upd_ne fr).trans ey
      refine ⟨fd, ys, zs[k.toNat], rfl, rfl, ey2, by rw [sizeLine_eq]; omega, ?_⟩
      refine ⟨_, ys ++ [zs[k.toNat]], zs.eraseIdx k.toNat, rfl, ?_, (upd_ne (Ne.symm fr)).trans upd_same, upd_same, by rw [List.length_append, hlen]; rfl, ?_, ?_⟩
      · intro b o nb e
        have e' := hS2 _ _ nb (hS _ _ nb e)
        rw [upd_ne (ne_of_none e hf0), upd_ne (ne_of_none e hr0)]
        exact e'
      · refine (List.Perm.trans ?_ hpm)
        rw [List.append_assoc]
        refine List.Perm.append_left ys ?_
        exact erase_perm zs k.toNat hk
      · obtain ⟨own, b, c, e, rest⟩ := hp2
        exact ⟨own, b, c, by rw [upd_ne (Ne.symm fq), upd_ne (Ne.symm rq)]; exact e, rest⟩
    · rintro σ' H' ⟨x5, ys, zs, rfl, hS, hzs, hys, hlen, hpm, hpot⟩
      walk_at "v"
      exact go H' fd ys zs hS fq hf0 hfm hys hlen hpm hpot
end

theorem filter_strs {ds : List Str} {c : V → Bool} {p : Str → Bool} (h : ∀ d, c (.str d) = p d) : ((ds.map V.str).filter c).map id = (ds.filter p).map V.str := by
  rw [List.map_id, List.filter_map]
  congr 1
  exact List.filter_congr fun d _ => h d
def StrsAt (K : PySem.W.Frag) (H : Hp) (b : Addr) (ns : List Str) : Prop := SqL K H b (ns.map V.str) ∨ SqT K H b (ns.map V.str)
theorem StrsAt.same {K : PySem.W.Frag} {H H' : Hp} {b : Addr} {ns : List Str} (h : StrsAt K H b ns) (s : Same H H') : StrsAt K H' b ns := h.elim (fun h => .inl (Same.sqL s h)) fun h => .inr (Same.sqT s h)
def spSeq (K : PySem.W.Frag) : Sp := fun vs H Q _ => ∃ (x : V) (b : Addr) (ds ns : List Str), vs = [x, .ref b] ∧ LotAt K H x ds ∧ StrsAt K H b ns ∧ ds.length ≤ 1000 ∧ ∀ H' y, Same H H' → LotH H' y (ds.filter fun d => decide (d ∈ ns)) → Q y H'
def spWithin (K : PySem.W.Frag) : Sp := fun vs H Q _ => ∃ (x : V) (b : Addr) (ds ns : List Str), vs = [x, .ref b] ∧ LotAt K H x ds ∧ StrsAt K H b ns ∧ ds.length ≤ 1000 ∧ ∀ H', Same H H' → Q (.bl (ds.all fun d => decide (d ∈ ns))) H'
def spOutside (K : PySem.W.Frag) : Sp := fun vs H Q _ => ∃ (x : V) (b : Addr) (ds ns : List Str), vs = [x, .ref b] ∧ LotAt K H x ds ∧ StrsAt K H b ns ∧ ds.length ≤ 1000 ∧
  ∀ H' D, H D = none → Same H H' → H' D = some (.lst ((ds.filter fun d => !decide (d ∈ ns)).map V.str)) → Q (.ref D) H'
section
variable {P : Program} {w : World} {K : PySem.W.Frag} {mg : Str → Option Value} {base : Heap}
theorem ok_seq (F : FunAt K mg "_law_in_sequence" s_law_in_sequence) (T : Txt mg) : Def P w K mg base 1 "_law_in_sequence" P_law_in_sequence (spSeq K) := by
  refine def_of F sc_law_in_sequence bs_law_in_sequence (fun vs H Q E h => ?_) fun f cdv A outer s H vs Q E hr h => ?_
  · obtain ⟨x, b, ds, ns, rfl, _⟩ := h
    rfl
  · refine ⟨_, (pss_one (ps_ret (pe_callTy call_tuple_of (by rfl) T.n_tuple (by decide +kernel) (pa_cons (pe_lc (own := [("_law_name", 2)]) (g := (gName 2)) rfl sc_law_in_sequence.nd (pi_tup (pv 0)) (blkOk_by (N := N_law_in_sequence) (sc := defScope s_law_in_sequence) (by decide +kernel)) (fun _ _ _ _ _ => (pg_name (i := 2) sc_law_in_sequence.nd rfl (by first | exact Or.inl rfl | exact Or.inr rfl))) (fun _ _ _ _ _ => (pts_one (pt_cmpR (op_inK (K := K) rfl) (pv 2) (pv 1) (by rfl)))) (fun _ _ _ _ _ => (pv 2))) pa_nil)))), ?_⟩
    obtain ⟨x, b, ds, ns, rfl, ⟨a, rfl, ha⟩, hb, hn, go⟩ := h
    walk_at "v"
    refine w_lcTF (fun x => inV x (ns.map V.str)) id (fun R k => ⟨_, rfl, k⟩) ha (by rw [List.length_map]; exact hn) (fun _ => rfl) ?_ ?_ ?_
    · intro x H' R hx s k
      obtain ⟨d, _, rfl⟩ := List.mem_map.mp hx
      walk_at "v"
      exact ⟨b, ns.map V.str, rfl, hb.same s, rfl, flat_strs ns, _, rfl, k⟩
    · intro x H' R hx s k
      walk_at "v"
      exact k
    · intro D H' hD s e
      rw [filter_strs (p := fun d => decide (d ∈ ns)) fun d => inV_str] at e
      walk_at "v"
      exact ⟨D, _, rfl, .inl ⟨SqL.of e, fun l hl => go _ _ (same_upd s hl) ⟨l, rfl, upd_same⟩⟩⟩
theorem ok_within (F : FunAt K mg "_law_is_within" s_law_is_within) (T : Txt mg) : Def P w K mg base 1 "_law_is_within" P_law_is_within (spWithin K) := by
  refine def_of F sc_law_is_within bs_law_is_within (fun vs H Q E h => ?_) fun f cdv A outer s H vs Q E hr h => ?_
  · obtain ⟨x, b, ds, ns, rfl, _⟩ := h
    rfl
  · refine ⟨_, (pss_one (ps_ret (pe_callB (cr_all rfl) (by rfl) T.n_all (by decide +kernel) (pa_cons (pe_lc (own := [("_law_name", 2)]) (g := (gName 2)) (tt := tYes) rfl sc_law_is_within.nd (pi_tup (pv 0)) (blkOk_by (N := N_law_is_within) (sc := defScope s_law_is_within) (by decide +kernel)) (fun _ _ _ _ _ => (pg_name (i := 2) sc_law_is_within.nd rfl (by first | exact Or.inl rfl | exact Or.inr rfl))) (fun _ _ _ _ _ => pts_nil) (fun _ _ _ _ _ => (pe_cmpR (op_inK (K := K) rfl) (pv 2) (pv 1) (by rfl)))) pa_nil)))), ?_⟩
    obtain ⟨x, b, ds, ns, rfl, ⟨a, rfl, ha⟩, hb, hn, go⟩ := h
    walk_at "v"
    refine w_lcTF (fun _ => true) (fun x => .bl (inV x (ns.map V.str))) (fun R k => ⟨_, rfl, k⟩) ha (by rw [List.length_map]; exact hn) (fun _ => rfl) (fun x H' R hx s k => k) ?_ ?_
    · intro x H' R hx s k
      obtain ⟨d, _, rfl⟩ := List.mem_map.mp hx
      walk_at "v"
      exact ⟨b, ns.map V.str, rfl, hb.same s, rfl, flat_strs ns, k⟩
    · intro D H' hD s e
      walk_at "v"
      refine ⟨D, ds.map fun d => decide (d ∈ ns), rfl, SqL.of (e.trans ?_), ?_⟩
      · rw [List.filter_eq_self.mpr fun _ _ => rfl, List.map_map, List.map_map]
        exact congrArg (fun z => some (HO.lst z)) (List.map_congr_left fun d _ => congrArg V.bl inV_str)
      · rw [List.all_map]
        exact go H' s
theorem ok_outside (F : FunAt K mg "_law_outside" s_law_outside) (T : Txt mg) : Def P w K mg base 1 "_law_outside" P_law_outside (spOutside K) := by
  refine def_of F sc_law_outside bs_law_outside (fun vs H Q E h => ?_) fun f cdv A outer s H vs Q E hr h => ?_
  · obtain ⟨x, b, ds, ns, rfl, _⟩ := h
    rfl
  · refine ⟨_, (pss_one (ps_ret (pe_lc (own := [("_law_name", 2)]) (g := (gName 2)) rfl sc_law_outside.nd (pi_tup (pv 0)) (blkOk_by (N := N_law_outside) (sc := defScope s_law_outside) (by decide +kernel)) (fun _ _ _ _ _ => (pg_name (i := 2) sc_law_outside.nd rfl (by first | exact Or.inl rfl | exact Or.inr rfl))) (fun _ _ _ _ _ => (pts_one (pt_cmpR (op_notinK (K := K) rfl) (pv 2) (pv 1) (by rfl)))) (fun _ _ _ _ _ => (pv 2))))), ?_⟩
    obtain ⟨x, b, ds, ns, rfl, ⟨a, rfl, ha⟩, hb, hn, go⟩ := h
    walk_at "v"
    refine w_lcTF (fun x => !inV x (ns.map V.str)) id (fun R k => ⟨_, rfl, k⟩) ha (by rw [List.length_map]; exact hn) (fun _ => rfl) ?_ ?_ ?_
    · intro x H' R hx s k
      obtain ⟨d, _, rfl⟩ := List.mem_map.mp hx
      walk_at "v"
      exact ⟨b, ns.map V.str, rfl, hb.same s, rfl, flat_strs ns, _, rfl, k⟩
    · intro x H' R hx s k
      walk_at "v"
      exact k
    · intro D H' hD s e
      rw [filter_strs (p := fun d => !decide (d ∈ ns)) fun d => congrArg (!·) inV_str] at e
      walk_at "v"
      exact go H' D hD s e
end

theorem sub_mask {ds l ws : List Str} (h : ∀ d ∈ l, d ∈ ds) : Sub (maskOf ds l) (maskOf ds ws) ↔ ∀ d ∈ l, d ∈ ws := by
  rw [sub_iff]
  constructor
  · intro k d hd
    obtain ⟨i, hi⟩ := List.getElem?_of_mem (h d hd)
    obtain ⟨d', e, hm⟩ := mask_bit.mp (k i (mask_bit.mpr ⟨d, hi, hd⟩))
    rw [hi] at e
    rw [Option.some.inj e]
    exact hm
  · intro k i hi
    obtain ⟨d, e, hm⟩ := mask_bit.mp hi
    exact mask_bit.mpr ⟨d, e, k d hm⟩
theorem mask_app {ds ws os : List Str} : maskOf ds (ws ++ os.filter fun d => !decide (d ∈ ws)) = maskOf ds ws ||| maskOf ds os := by
  refine Nat.eq_of_testBit_eq fun i => ?_
  rw [Bool.eq_iff_iff, Nat.testBit_or, Bool.or_eq_true, mask_bit, mask_bit, mask_bit]
  constructor
  · rintro ⟨d, e, h⟩
    rcases List.mem_append.mp h with h | h
    · exact .inl ⟨d, e, h⟩
    · exact .inr ⟨d, e, (List.mem_filter.mp h).1⟩
  · rintro (⟨d, e, h⟩ | ⟨d, e, h⟩)
    · exact ⟨d, e, List.mem_append_left _ h⟩
    · by_cases hw : d ∈ ws
      · exact ⟨d, e, List.mem_append_left _ hw⟩
      · exact ⟨d, e, List.mem_append_right _ (List.mem_filter.mpr ⟨h, by simp [hw]⟩)⟩
theorem nodup_app {ws os : List Str} (h : ws.Nodup) (k : os.Nodup) : (ws ++ os.filter fun d => !decide (d ∈ ws)).Nodup := by
  refine List.nodup_append.mpr ⟨h, k.filter _, fun a ha b hb e => ?_⟩
  have := (List.mem_filter.mp hb).2
  rw [← e] at this
  simp [ha] at this
theorem nodup_len {ws ds : List Str} (h : ws.Nodup) (k : ∀ d ∈ ws, d ∈ ds) : ws.length ≤ ds.length := by
  induction ws generalizing ds with
  | nil => exact Nat.zero_le _
  | cons a ws ih =>
    obtain ⟨h1, h2⟩ := List.nodup_cons.mp h
    have ha := k a (.head _)
    have := ih (ds := ds.erase a) h2 fun d hd => (List.mem_erase_of_ne (fun e : d = a => h1 (by rw [← e]; exact hd))).mpr (k d (.tail _ hd))
    rw [List.length_erase_of_mem ha] at this
    have := List.length_pos_of_mem ha
    simp only [List.length_cons]
    omega
def RowsAt (K : PySem.W.Frag) (H : Hp) (r : Addr) (bs : List Bun) : Prop := ∃ xs, SqL K H r xs ∧ Paired (BunAt K H) xs bs
/-- rows of lots of these devices -/
def BunsOf (ds : List Str) (bs : List Bun) : Prop := ∀ b ∈ bs, b.1.Nodup ∧ b.2.Nodup ∧ (∀ d ∈ b.1, d ∈ ds) ∧ ∀ d ∈ b.2, d ∈ ds
def spRest (K : PySem.W.Frag) : Sp := fun vs H Q _ => ∃ (x y : V) (r : Addr) (ds l : List Str) (bs : List Bun), vs = [x, .ref r, y] ∧ LotAt K H x ds ∧ LotAt K H y l ∧ RowsAt K H r bs ∧ BunsOf ds bs ∧ l.Nodup ∧ (∀ d ∈ l, d ∈ ds) ∧ ds.length ≤ 60 ∧ bs.length ≤ 1000 ∧
  ∀ H' z e, Same H H' → IsEnd (stepsOf ds bs) (maskOf ds l) e → LotAt K H' z (lotOf ds e) → Q z H'
section
variable {P : Program} {w : World} {K : PySem.W.Frag} {mg : Str → Option Value} {base : Heap}
theorem ok_rest (F : FunAt K mg "_law_rest" s_law_rest) (T : Txt mg) (D_law_in_sequence : Def P w K mg base 1 "_law_in_sequence" P_law_in_sequence (spSeq K)) (D_law_is_within : Def P w K mg base 1 "_law_is_within" P_law_is_within (spWithin K)) : Def P w K mg base 2 "_law_rest" P_law_rest (spRest K) := by
  refine def_of F sc_law_rest bs_law_rest (fun vs H Q E h => ?_) fun f cdv A outer s H vs Q E hr h => ?_
  · obtain ⟨x, y, r, ds, l, bs, rfl, _⟩ := h
    rfl
  · refine ⟨_, (pss_cons (ps_asg (pe_tup (pa_cons (pe_callTy call_listN (by rfl) T.n_list (by decide +kernel) (pa_cons (pv 2) pa_nil)) (pa_cons pe_bl pa_nil))) (pg_tup (by rfl) (pgs_cons (pg_name (i := 3) sc_law_rest.nd rfl (by first | exact Or.inl rfl | exact Or.inr rfl)) (pgs_cons (pg_name (i := 4) sc_law_rest.nd rfl (by first | exact Or.inl rfl | exact Or.inr rfl)) pgs_nil))))
  (pss_cons (ps_while PassesOwn.never (pt_val (pv 4)) (pss_cons (ps_set (i := 4) sc_law_rest.nd rfl (by first | exact Or.inl rfl | exact Or.inr rfl) pe_bl)
  (pss_one (ps_for PassesOwn.never rfl (pi_list (pv 1)) (pg_tup (by rfl) (pgs_cons (pg_name (i := 5) sc_law_rest.nd rfl (by first | exact Or.inl rfl | exact Or.inr rfl)) (pgs_cons (pg_name (i := 6) sc_law_rest.nd rfl (by first | exact Or.inl rfl | exact Or.inr rfl)) pgs_nil))) (pss_one (ps_if (PW.pt (pw_and (pt_val (pe_d D_law_is_within (hr.mono (by omega)) (pa_cons (pv 5) (pa_cons (pv 3) pa_nil)))) (pw_and1 (pt_not (pt_val (pe_d D_law_is_within (hr.mono (by omega)) (pa_cons (pv 6) (pa_cons (pv 3) pa_nil)))))))) (pss_cons (ps_expr (pe_bm PySem.F.plainAttrs_list PySem.F.slot_list_extend PySem.F.type_list_extend mt_extend (pv 3) (pa_cons (pe_lc (own := [("_law_name", 7)]) (g := (gName 7)) rfl sc_law_rest.nd (pi_tup (pv 6)) (blkOk_by (N := N_law_rest) (sc := defScope s_law_rest) (by decide +kernel)) (fun _ _ _ _ _ => (pg_name (i := 7) sc_law_rest.nd rfl (by first | exact Or.inl rfl | exact Or.inr rfl))) (fun _ _ _ _ _ => (pts_one (pt_cmpR (op_notinK (K := K) rfl) (pv 7) (pv 3) (by rfl)))) (fun _ _ _ _ _ => (pv 7))) pa_nil)))
  (pss_one (ps_set (i := 4) sc_law_rest.nd rfl (by first | exact Or.inl rfl | exact Or.inr rfl) pe_bl))) pss_nil))))))
  (pss_one (ps_ret (pe_d D_law_in_sequence (hr.mono (by omega)) (pa_cons (pv 0) (pa_cons (pv 3) pa_nil))))))), ?_⟩
    obtain ⟨x, y, r, ds, l, bs, rfl, hx, ⟨a, rfl, ha⟩, ⟨xs, hxs, hp⟩, hbs, hl, hld, hn, hz, go⟩ := h
    have hlen := Paired.length hp
    walk_at "v"
    refine w_tup ?_
    walk_at "v"
    refine ⟨a, l.map V.str, rfl, .inr ha, fun p hp0 _ => ?_⟩
    walk_at "v"
    rename_i tt htt
    have s1 : Same H (upd H p (.lst (l.map V.str))) := same_upd (Same.refl _) hp0
    refine w_gtup2 (SqT.of upd_same) ?_
    have s2 : Same H (upd (upd H p (.lst (l.map V.str))) tt (.tup [.ref p, .bl true])) := same_upd s1 htt
    have e2 : (upd (upd H p (.lst (l.map V.str))) tt (.tup [.ref p, .bl true])) p = some (.lst (l.map V.str)) := upd_get htt upd_same
    generalize hH2 : upd (upd H p (.lst (l.map V.str))) tt (.tup [.ref p, .bl true]) = H2 at s2 e2
    clear hH2 htt s1
    have hn1 : ∀ ws : List Str, maskOf ds ws < 2 ^ ds.length := fun ws => mask_lt ws ds
    walk_at "v"
    refine ⟨fun μ σ' H' => ∃ (ws : List Str) (st : Bool) (x5 x6 x7 : Option V), σ' = [some x, some (.ref r), some (.ref a), some (.ref p), some (.bl st), x5, x6, x7] ∧ Same H H' ∧ H' p = some (.lst (ws.map V.str)) ∧ ws.Nodup ∧ (∀ d ∈ ws, d ∈ ds) ∧ Sub (maskOf ds l) (maskOf ds ws) ∧
        (∀ c, Sub (maskOf ds l) c → Closed (stepsOf ds bs) c → Sub (maskOf ds ws) c) ∧ (st = false → Closed (stepsOf ds bs) (maskOf ds ws)) ∧ μ = if st = true then 2 ^ ds.length - maskOf ds ws + 1 else 0,
      ⟨_, l, true, none, none, none, rfl, s2, e2, hl, hld, Sub.refl _, fun _ h _ => h, (fun h => nomatch h), rfl⟩, ?_⟩
    rintro μ σ' H' ⟨ws, st, x5, x6, x7, rfl, sH, ep, hnd, hsub, h1, h2, h3, rfl⟩
    walk_at "v"
    cases st with
    | false =>
      refine iteF ?_
      walk_at "v"
      refine ⟨x, p, ds, ws, rfl, hx.same sH, .inl (SqL.of ep), by omega, fun H3 z s3 hz3 => ?_⟩
      refine go H3 z (maskOf ds ws) (sH.trans s3) ⟨h1, h3 rfl, h2⟩ ?_
      rw [lot_mask]
      exact hz3.at
    | true =>
      refine iteT ?_
      refine ⟨fun σ2 H3 => ∃ (us : List Str) (st : Bool) (x5 x6 x7 : Option V), σ2 = [some x, some (.ref r), some (.ref a), some (.ref p), some (.bl st), x5, x6, x7] ∧ Same H H3 ∧ H3 p = some (.lst (us.map V.str)) ∧ us.Nodup ∧ (∀ d ∈ us, d ∈ ds) ∧ Sub (maskOf ds ws) (maskOf ds us) ∧
        (∀ c, Sub (maskOf ds l) c → Closed (stepsOf ds bs) c → Sub (maskOf ds us) c) ∧ (st = true → maskOf ds ws < maskOf ds us) ∧ (st = false → Closed (stepsOf ds bs) (maskOf ds us)), ?_, ?_⟩
      · rintro σ2 H3 ⟨us, st, y5, y6, y7, rfl, k1, k2, k3, k4, k5, k6, k7, k8⟩
        refine ⟨_, ?_, us, st, y5, y6, y7, rfl, k1, k2, k3, k4, h1.trans k5, k6, k8, rfl⟩
        rw [if_pos rfl]
        have := hn1 us
        cases st with
        | false =>
          rw [if_neg Bool.false_ne_true]
          omega
        | true =>
          rw [if_pos rfl]
          have := k7 rfl
          omega
      · walk_at "v"
        refine w_forL (K := K) (l := r) (xs := xs) (Pv := fun i σ2 H3 => ∃ (us : List Str) (st : Bool) (x5 x6 x7 : Option V), σ2 = [some x, some (.ref r), some (.ref a), some (.ref p), some (.bl st), x5, x6, x7] ∧ Same H H3 ∧ H3 p = some (.lst (us.map V.str)) ∧ us.Nodup ∧ (∀ d ∈ us, d ∈ ds) ∧ Sub (maskOf ds ws) (maskOf ds us) ∧
          (∀ c, Sub (maskOf ds l) c → Closed (stepsOf ds bs) c → Sub (maskOf ds us) c) ∧ (st = true → maskOf ds ws < maskOf ds us) ∧ (st = false → us = ws ∧ ∀ b ∈ bs.take i, Sub (maskOf ds b.1) (maskOf ds us) → Sub (maskOf ds b.2) (maskOf ds us)))
          ⟨_, rfl, rfl, Same.sqL sH hxs, ws, false, x5, x6, x7, rfl, sH, ep, hnd, hsub, Sub.refl _, h2, (fun h => nomatch h), fun _ => ⟨rfl, fun b hb => by simp at hb⟩⟩ (fun i σ2 H3 _ h => by
            obtain ⟨us, st, y5, y6, y7, _, k1, _⟩ := h
            exact Same.sqL k1 hxs) ?_ ?_ var_mono
        · rintro i v σ2 H3 hv ⟨us, st, y5, y6, y7, rfl, k1, k2, k3, k4, k5, k6, k7, k8⟩
          obtain ⟨b, hb, hbun⟩ := Paired.at hp hv
          have hmem : b ∈ bs := List.mem_of_getElem? hb
          obtain ⟨nb1, nb2, sb1, sb2⟩ := hbs b hmem
          have htake : bs.take (i + 1) = bs.take i ++ [b] := by rw [List.take_succ, hb]; rfl
          obtain ⟨t, y, z, rfl, q1, q2, q3⟩ := hbun.same k1
          have lus := nodup_len k3 k4
          have lb1 := nodup_len nb1 sb1
          have lb2 := nodup_len nb2 sb2
          refine w_gtup2 q1 ?_
          walk_at "v"
          refine ⟨y, p, b.1, us, rfl, q2, .inl (SqL.of k2), by omega, fun H4 s4 => ?_⟩
          walk_at "v"
          have k24 := s4 _ _ k2
          have skip : ∀ {H5 : Hp}, Same H3 H5 → (Sub (maskOf ds b.1) (maskOf ds us) → Sub (maskOf ds b.2) (maskOf ds us)) → ∃ (us' : List Str) (st' : Bool) (x5 x6 x7 : Option V), [some x, some (.ref r), some (.ref a), some (.ref p), some (V.bl st), some y, some z, y7] = [some x, some (.ref r), some (.ref a), some (.ref p), some (.bl st'), x5, x6, x7] ∧ Same H H5 ∧ H5 p = some (.lst (us'.map V.str)) ∧ us'.Nodup ∧ (∀ d ∈ us', d ∈ ds) ∧ Sub (maskOf ds ws) (maskOf ds us') ∧
              (∀ c, Sub (maskOf ds l) c → Closed (stepsOf ds bs) c → Sub (maskOf ds us') c) ∧ (st' = true → maskOf ds ws < maskOf ds us') ∧ (st' = false → us' = ws ∧ ∀ b ∈ bs.take (i + 1), Sub (maskOf ds b.1) (maskOf ds us') → Sub (maskOf ds b.2) (maskOf ds us')) := fun {H5} s5 hc =>
            ⟨us, st, _, _, _, rfl, k1.trans s5, s5 _ _ k2, k3, k4, k5, k6, k7, fun hf => ⟨(k8 hf).1, fun c hcm => by
              rw [htake] at hcm
              rcases List.mem_append.mp hcm with hcm | hcm
              · exact (k8 hf).2 c hcm
              · rw [List.mem_singleton.mp hcm]
                exact hc⟩⟩
          refine iteB (fun c1 => ?_) (fun c1 => ?_)
          · have hs1 : Sub (maskOf ds b.1) (maskOf ds us) := (sub_mask sb1).mpr fun d hd => of_decide_eq_true (List.all_eq_true.mp c1 d hd)
            walk_at "v"
            refine ⟨z, p, b.2, us, rfl, q3.same s4, .inl (SqL.of k24), by omega, fun H5 s5 => ?_⟩
            have k25 := s5 _ _ k24
            walk_at "v"
            cases hc2 : (b.2.all fun d => decide (d ∈ us)) with
            | true =>
              refine iteF ?_
              walk_at "v"
              exact skip (s4.trans s5) fun _ => (sub_mask sb2).mpr fun d hd => of_decide_eq_true (List.all_eq_true.mp hc2 d hd)
            | false =>
              refine iteT ?_
              walk_at "v"
              refine w_bm ?_
              walk_at "v"
              refine ⟨.inl ⟨rfl, _, SqL.of k25⟩, ?_⟩
              walk_at "v"
              obtain ⟨tz, rfl, hzt⟩ := (q3.same s4).same s5
              refine w_lcTF (fun x => !inV x (us.map V.str)) id (fun R k => ⟨_, rfl, k⟩) hzt (by rw [List.length_map]; omega) (fun _ => rfl) ?_ ?_ ?_
              · intro v H' R hv s k
                obtain ⟨d, _, rfl⟩ := List.mem_map.mp hv
                walk_at "v"
                exact ⟨p, us.map V.str, rfl, .inl (SqL.of (s _ _ k25)), rfl, flat_strs us, _, rfl, k⟩
              · intro v H' R hv s k
                walk_at "v"
                exact k
              · intro D H6 hD s6 e6
                rw [filter_strs (p := fun d => !decide (d ∈ us)) fun d => congrArg (!·) inV_str] at e6
                walk_at "v"
                have lf := List.length_filter_le (fun d => !decide (d ∈ us)) b.2
                refine ⟨p, D, _, _, rfl, rfl, s6 _ _ k25, e6, ?_, ?_⟩
                · rw [List.length_map, List.length_map, sizeLine_eq]
                  omega
                walk_at "v"
                rw [← List.map_append]
                refine ⟨us ++ b.2.filter (fun d => !decide (d ∈ us)), true, _, _, _, rfl, Same.upd2 (((k1.trans s4).trans s5).trans s6) hp0, upd_same, nodup_app k3 nb2, ?_, ?_, ?_, fun _ => ?_, fun h => nomatch h⟩
                · intro d hd
                  rcases List.mem_append.mp hd with hd | hd
                  · exact k4 d hd
                  · exact sb2 d (List.mem_filter.mp hd).1
                · rw [mask_app]
                  exact k5.trans (Sub.orl _ _)
                · intro c g1 g2
                  rw [mask_app]
                  exact (k6 c g1 g2).or (g2 _ (List.mem_map.mpr ⟨b, hmem, rfl⟩) (hs1.trans (k6 c g1 g2)))
                · rw [mask_app]
                  have hle := k5.le
                  have hlt : maskOf ds us < maskOf ds us ||| maskOf ds b.2 := by
                    refine Nat.lt_of_le_of_ne (Sub.orl _ _).le fun e => ?_
                    have : Sub (maskOf ds b.2) (maskOf ds us) := e ▸ Sub.orr _ _
                    have := (sub_mask sb2).mp this
                    have hall : (b.2.all fun d => decide (d ∈ us)) = true := List.all_eq_true.mpr fun d hd => decide_eq_true (this d hd)
                    rw [hc2] at hall
                    cases hall
                  omega
          · walk_at "v"
            refine skip s4 fun hs => ?_
            have := (sub_mask sb1).mp hs
            have hall : (b.1.all fun d => decide (d ∈ us)) = true := List.all_eq_true.mpr fun d hd => decide_eq_true (this d hd)
            rw [c1] at hall
            cases hall
        · rintro σ2 H3 ⟨us, st, y5, y6, y7, rfl, k1, k2, k3, k4, k5, k6, k7, k8⟩
          refine ⟨us, st, y5, y6, y7, rfl, k1, k2, k3, k4, k5, k6, k7, fun hf q hq hs => ?_⟩
          obtain ⟨b, hb, rfl⟩ := List.mem_map.mp hq
          exact (k8 hf).2 b (by rw [hlen, List.take_length]; exact hb) hs
end

theorem op_catAK {X : Cx} {K : PySem.W.Frag} (h : X.K = K) : OpR X (binaryOp .Add) (rCatA K) := by
  subst h
  exact op_catA
/-- all lots of these devices, as the law makes them -/
def lots (ds : List Str) : List (List Str) := ds.foldl (fun acc d => acc ++ acc.map (· ++ [d])) [[]]
theorem lots_len (ds : List Str) : (lots ds).length = 2 ^ ds.length := by
  have : ∀ (ds : List Str) (acc : List (List Str)), (ds.foldl (fun acc d => acc ++ acc.map (· ++ [d])) acc).length = acc.length * 2 ^ ds.length := by
    intro ds
    induction ds with
    | nil => exact fun acc => (Nat.mul_one _).symm
    | cons d ds ih =>
      intro acc
      rw [List.foldl_cons, ih, List.length_append, List.length_map, List.length_cons, Nat.pow_succ, Nat.mul_comm (2 ^ ds.length) 2, ← Nat.mul_assoc]
      congr 1
      omega
  rw [lots, this]
  exact Nat.one_mul _
theorem lots_snoc (ds : List Str) (d : Str) : lots (ds ++ [d]) = lots ds ++ (lots ds).map (· ++ [d]) := by
  rw [lots, lots, List.foldl_append]
  rfl
theorem lots_mem_len {ds : List Str} {l : List Str} (h : l ∈ lots ds) : l.length ≤ ds.length := by
  have : ∀ (ds : List Str) (acc : List (List Str)) (k : Nat), (∀ l ∈ acc, l.length ≤ k) → ∀ l ∈ ds.foldl (fun acc d => acc ++ acc.map (· ++ [d])) acc, l.length ≤ k + ds.length := by
    intro ds
    induction ds with
    | nil => exact fun acc k h => h
    | cons d ds ih =>
      intro acc k h l hl
      rw [List.foldl_cons] at hl
      have := ih _ (k + 1) (fun m hm => ?_) l hl
      · simp only [List.length_cons]
        omega
      · rcases List.mem_append.mp hm with hm | hm
        · have := h m hm
          omega
        · obtain ⟨z, hz, rfl⟩ := List.mem_map.mp hm
          have := h z hz
          rw [List.length_append]
          simp only [List.length_cons, List.length_nil]
          omega
  have := this ds [[]] 0 (fun m hm => by rw [List.mem_singleton.mp hm]; exact Nat.le_refl _) l h
  omega
def spLots (K : PySem.W.Frag) : Sp := fun vs H Q _ => ∃ (x : V) (ds : List Str), vs = [x] ∧ LotAt K H x ds ∧ ds.length ≤ 6 ∧
  ∀ H' D ys, H D = none → Same H H' → H' D = some (.lst ys) → Paired (LotH H') ys (sortTS (lots ds)) → Q (.ref D) H'
theorem lotAt_upd {K : PySem.W.Frag} {H : Hp} {y : V} {b : List Str} {D : Addr} {ys zs : List V} (h : LotAt K H y b) (e : H D = some (.lst ys)) : LotAt K (upd H D (.lst zs)) y b := by
  obtain ⟨t, e', h⟩ := h
  exact ⟨t, e', sqT_upd h e⟩
section
variable {P : Program} {w : World} {K : PySem.W.Frag} {mg : Str → Option Value} {base : Heap}
theorem ok_lots (F : FunAt K mg "_law_lots" s_law_lots) (T : Txt mg) : Def P w K mg base 1 "_law_lots" P_law_lots (spLots K) := by
  refine def_of F sc_law_lots bs_law_lots (fun vs H Q E h => ?_) fun f cdv A outer s H vs Q E hr h => ?_
  · obtain ⟨x, ds, rfl, _⟩ := h
    rfl
  · refine ⟨_, (pss_cons (ps_set (i := 1) sc_law_lots.nd rfl (by first | exact Or.inl rfl | exact Or.inr rfl) (pe_lstN (pa_cons (pe_tup pa_nil) pa_nil)))
  (pss_cons (ps_for PassesOwn.never rfl (pi_tup (pv 0)) (pg_name (i := 2) sc_law_lots.nd rfl (by first | exact Or.inl rfl | exact Or.inr rfl)) (pss_one (ps_set (i := 1) sc_law_lots.nd rfl (by first | exact Or.inl rfl | exact Or.inr rfl) (pe_op op_cat (pv 1) (pe_lc (own := [("_law_lot_here", 3)]) (g := (gName 3)) (tt := tYes) rfl sc_law_lots.nd (pi_list (pv 1)) (blkOk_by (N := N_law_lots) (sc := defScope s_law_lots) (by decide +kernel)) (fun _ _ _ _ _ => (pg_name (i := 3) sc_law_lots.nd rfl (by first | exact Or.inl rfl | exact Or.inr rfl))) (fun _ _ _ _ _ => pts_nil) (fun _ _ _ _ _ => (pe_op (op_catAK (K := K) rfl) (pv 3) (pe_tup (pa_cons (pv 2) pa_nil)))))))))
  (pss_one (ps_ret (pe_callB (cr_sortedTH hr.units) (by rfl) T.n_sorted (by decide +kernel) (pa_cons (pv 1) pa_nil)))))), ?_⟩
    obtain ⟨x, ds, rfl, ⟨a, rfl, ha⟩, hn, go⟩ := h
    walk_at "v"
    refine w_lstN ?_
    walk_at "v"
    refine w_tup ?_
    walk_at "v"
    rename_i t0 ht0 p0 hp0 hm0
    have s1 : Same H (upd H t0 (.tup [])) := same_upd (Same.refl _) ht0
    have s2 : Same H (upd (upd H t0 (.tup [])) p0 (.lst [.ref t0])) := same_upd s1 hp0
    have l0 : LotH (upd (upd H t0 (.tup [])) p0 (.lst [.ref t0])) (.ref t0) [] := ⟨t0, rfl, upd_get hp0 upd_same⟩
    have hp00 : H p0 = none := s1.free hp0
    refine ⟨_, rfl, a, rfl, ⟨_, Same.sqT s2 ha⟩, for_tup (xs := ds.map V.str) (Pv := fun i σ' H' => ∃ (p : Addr) (ys : List V) (x2 x3 : Option V), σ' = [some (.ref a), some (.ref p), x2, x3] ∧ Same H H' ∧ H p = none ∧ H' p = some (.lst ys) ∧ Paired (LotH H') ys (lots (ds.take i)))
      ⟨p0, _, none, none, rfl, s2, hp00, upd_same, .cons l0 .nil⟩ (fun i σ' H' _ h => ?_) ?_ ?_⟩
    · obtain ⟨_, _, _, _, _, k, _⟩ := h
      exact Same.sqT k ha
    · rintro i v σ' H' hv ⟨p, ys, x2, x3, rfl, k1, k2, k3, k4⟩
      obtain ⟨d, hd, rfl⟩ := get_str hv
      have et : ds.take (i + 1) = ds.take i ++ [d] := by rw [List.take_succ, hd]; rfl
      have hlen := Paired.length k4
      rw [lots_len, List.length_take] at hlen
      have hle : 2 ^ min i ds.length ≤ 2 ^ 6 := Nat.pow_le_pow_right (by decide) (by omega)
      walk_at "v"
      refine w_lcLG (F := fun y b H' => LotH H' y b) (bs := (lots (ds.take i)).map (· ++ [d])) (fun y b H H' h s => h.same s) (fun y b H D ys zs h h1 e => h.upd e) (fun R k => ⟨_, rfl, k⟩) (SqL.of k3) (by omega) (by rw [List.length_map]; exact Paired.length k4) (fun _ => rfl) ?_ ?_
      · intro n x b H2 R hx hb s k
        obtain ⟨l, hl, t, rfl, ht⟩ := Paired.at k4 hx
        have eb : b = l ++ [d] := by
          rw [List.getElem?_map, hl] at hb
          exact (Option.some.inj hb).symm
        have hll := lots_mem_len (List.mem_of_getElem? hl)
        rw [List.length_take] at hll
        walk_at "v"
        refine w_tup ?_
        walk_at "v"
        rename_i q hq
        have s3 : Same H2 (upd H2 q (.tup [.str d])) := same_upd (Same.refl _) hq
        refine ⟨t, q, l.map V.str, [.str d], rfl, rfl, SqT.of ((s.trans s3) _ _ ht), SqT.of upd_same, ?_, fun e => ?_, (fun _ e => nomatch e), fun _ _ r hr => ?_⟩
        · rw [List.length_map, sizeLine_eq]
          simp only [List.length_cons, List.length_nil]
          omega
        · refine k _ _ s3 ⟨q, rfl, ?_⟩
          rw [eb, List.map_append, e]
          exact upd_same
        · refine k _ _ (same_upd s3 hr) ⟨r, rfl, ?_⟩
          rw [eb, List.map_append]
          exact upd_same
      · intro D H2 zs hD s e hz
        have hzl := Paired.length hz
        rw [List.length_map, lots_len, List.length_take] at hzl
        refine w_cat (s _ _ k3) e (by omega) fun r hr => ?_
        walk_at "v"
        have s4 : Same H2 (upd H2 r (.lst (ys ++ zs))) := same_upd (Same.refl _) hr
        refine ⟨r, ys ++ zs, _, _, rfl, (k1.trans s).trans s4, (k1.trans s).free hr, upd_same, ?_⟩
        rw [et, lots_snoc]
        exact Wk.Paired.app (Paired.mapP k4 fun y b h => h.same (s.trans s4)) (Paired.mapP hz fun y b h => h.same s4)
    · rintro σ' H' ⟨p, ys, x2, x3, rfl, k1, k2, k3, k4⟩
      rw [List.length_map, List.take_length] at k4
      walk_at "v"
      refine ⟨p, ys, _, rfl, SqL.of k3, k4, fun zs r hzs hr => ?_⟩
      have s4 : Same H' (upd H' r (.lst zs)) := same_upd (Same.refl _) hr
      exact go _ r zs (k1.free hr) (k1.trans s4) upd_same (Paired.mapP hzs fun y b h => h.same s4)
end

def pool0 : List Str := ["a", "b", "c", "fan", "lamp", "pump", "devices", "stays", "stirs", "wakes", "sleeps", "seen", "on", "off", "put", "is", "zzzzzzzz"]
def pool17 : List Str := pool0 ++ [("far" : Str)]
theorem pool_nodup : pool0.Nodup := by decide +kernel
theorem pool_more : ∀ d ∈ pool0, d ∈ pool17 := fun _ h => List.mem_append_left _ h
def spNames (K : PySem.W.Frag) : Sp := fun vs H Q _ => ∃ (q : Addr) (m n : Nat), vs = [.ref q, .int (m : Nat)] ∧ m ≤ 17 ∧ PotAt H q n ∧ n ≤ 900000 ∧
  ∀ (H' : Hp) (p : Addr) (ns : List Str), HS q H H' → p ≠ q → H p = none → H' p = some (.lst (ns.map V.str)) → ns.length = m → ns.Nodup → (∀ d ∈ ns, d ∈ pool0) → PotAt H' q (n + m) → Q (.ref p) H'
/-- names that may be a tuple's of devices -/
def Devs (ds : List Str) : Prop := 1 ≤ ds.length ∧ ds.length ≤ 6 ∧ ds.Nodup ∧ ∀ d ∈ ds, d ∈ pool17
def spDevices (K : PySem.W.Frag) : Sp := fun vs H Q _ => ∃ (q : Addr) (m : Int) (n : Nat), vs = [.ref q, .int m] ∧ 1 ≤ m ∧ m ≤ 6 ∧ PotAt H q n ∧ n ≤ 800000 ∧
  ∀ (H' : Hp) (y : V) (ds : List Str), HS q H H' → LotAt K H' y ds → Devs ds → (∀ d ∈ ds, d ∈ pool0) → PotAt H' q (n + 7) → Q y H'
def spLot (K : PySem.W.Frag) : Sp := fun vs H Q _ => ∃ (q : Addr) (x : V) (ds : List Str) (n : Nat), vs = [.ref q, x] ∧ LotAt K H x ds ∧ ds.length ≤ 6 ∧ 1 ≤ ds.length ∧ PotAt H q n ∧ n ≤ 800000 ∧
  ∀ (H' : Hp) (y : V) (l : List Str), HS q H H' → LotH H' y l → l.Sublist ds → PotAt H' q (n + 7) → Q y H'
/-- texts out of texts -/
theorem strs_of {ys zs : List V} {l : List Str} (h : (ys ++ zs).Perm (l.map V.str)) : ∃ ns : List Str, ys = ns.map V.str ∧ (l.Nodup → ns.Nodup) ∧ ∀ d ∈ ns, d ∈ l := by
  have h1 : ∀ y ∈ ys ++ zs, ∃ d, d ∈ l ∧ y = .str d := fun y hy => by
    obtain ⟨d, hd, e⟩ := List.mem_map.mp (h.mem_iff.mp hy)
    exact ⟨d, hd, e.symm⟩
  have key : ∀ ys : List V, (∀ y ∈ ys, ∃ d, d ∈ l ∧ y = .str d) → ∃ ns : List Str, ys = ns.map V.str ∧ ∀ d ∈ ns, d ∈ l := by
    intro ys
    induction ys with
    | nil => exact fun _ => ⟨[], rfl, fun _ h => absurd h (by simp)⟩
    | cons y ys ih =>
      intro k
      obtain ⟨d, hd, rfl⟩ := k y (.head _)
      obtain ⟨ns, rfl, hns⟩ := ih fun y hy => k y (.tail _ hy)
      refine ⟨d :: ns, rfl, fun c hc => ?_⟩
      rcases List.mem_cons.mp hc with rfl | hc
      · exact hd
      · exact hns c hc
  obtain ⟨ns, rfl, hns⟩ := key ys fun y hy => h1 y (List.mem_append_left _ hy)
  obtain ⟨ms, rfl, hms⟩ := key zs fun y hy => h1 y (List.mem_append_right _ hy)
  refine ⟨ns, rfl, fun hn => ?_, hns⟩
  rw [← List.map_append] at h
  have inj : ∀ a b : Str, V.str a = V.str b → a = b := fun a b e => by injection e
  have nd : ((ns ++ ms).map V.str).Nodup := h.nodup_iff.mpr (List.pairwise_map.mpr (hn.imp fun {a b} e z => e (inj a b z)))
  have nd2 : (ns ++ ms).Nodup := by
    refine List.Pairwise.imp (fun {a b} hab e => ?_) (List.pairwise_map.mp nd)
    exact hab (congrArg V.str e)
  exact (List.nodup_append.mp nd2).1
section
variable {P : Program} {w : World} {K : PySem.W.Frag} {mg : Str → Option Value} {base : Heap}
theorem ok_names (F : FunAt K mg "_law_names" s_law_names) (T : Txt mg) (D_law_some : Def P w K mg base 2 "_law_some" P_law_some (spSome K)) : Def P w K mg base 3 "_law_names" P_law_names (spNames K) := by
  refine def_of F sc_law_names bs_law_names (fun vs H Q E h => ?_) fun f cdv A outer s H vs Q E hr h => ?_
  · obtain ⟨q, m, n, rfl, _⟩ := h
    rfl
  · refine ⟨_, (pss_cons (ps_set (i := 2) sc_law_names.nd rfl (by first | exact Or.inl rfl | exact Or.inr rfl) (pe_lstN (pa_cons pe_str (pa_cons pe_str (pa_cons pe_str (pa_cons pe_str (pa_cons pe_str (pa_cons pe_str (pa_cons pe_str (pa_cons pe_str (pa_cons pe_str (pa_cons pe_str (pa_cons pe_str (pa_cons pe_str (pa_cons pe_str (pa_cons pe_str pa_nil))))))))))))))))
  (pss_one (ps_ret (pe_d D_law_some (hr.mono (by omega)) (pa_cons (pv 0) (pa_cons (pe_op op_cat (pv 2) (pe_lstN (pa_cons pe_str (pa_cons pe_str (pa_cons pe_str pa_nil))))) (pa_cons (pv 1) pa_nil))))))), ?_⟩
    obtain ⟨q, m, n, rfl, hm, hp, hn, go⟩ := h
    obtain ⟨own, b, k, eq, _⟩ := id hp
    walk_at "w"
    rename_i p1 hp1 _ p2 hp2 _
    have s1 : Same H (upd H p1 (.lst ((pool0.take 14).map V.str))) := same_upd (Same.refl _) hp1
    have s2 : Same H (upd (upd H p1 (.lst ((pool0.take 14).map V.str))) p2 (.lst ((pool0.drop 14).map V.str))) := same_upd s1 hp2
    refine w_cat (xs := (pool0.take 14).map V.str) (zs := (pool0.drop 14).map V.str) (upd_get hp2 upd_same) upd_same (by decide) fun r hr0 => ?_
    have s3 : Same H (upd (upd (upd H p1 (.lst ((pool0.take 14).map V.str))) p2 (.lst ((pool0.drop 14).map V.str))) r (.lst ((pool0.take 14).map V.str ++ (pool0.drop 14).map V.str))) := same_upd s2 hr0
    walk_at "w"
    refine ⟨q, r, pool0.map V.str, m, n, rfl, .inl ⟨SqL.of upd_same, Ne.symm (ne_of_none (s2 _ _ eq) hr0)⟩, hm, by decide, hp.same s3, by omega, fun H' p ys zs hS hpq hp0 _ he hlen hpm hpot => ?_⟩
    obtain ⟨ns, rfl, hnd, hin⟩ := strs_of hpm
    rw [List.length_map] at hlen
    exact go H' p ns ((HS.same s3).trans hS) hpq (s3.free hp0) he hlen (hnd pool_nodup) hin hpot
theorem ok_devices (F : FunAt K mg "_law_devices" s_law_devices) (T : Txt mg) (D_law_take : Def P w K mg base 1 "_law_take" P_law_take spTake) (D_law_names : Def P w K mg base 3 "_law_names" P_law_names (spNames K)) : Def P w K mg base 4 "_law_devices" P_law_devices (spDevices K) := by
  refine def_of F sc_law_devices bs_law_devices (fun vs H Q E h => ?_) fun f cdv A outer s H vs Q E hr h => ?_
  · obtain ⟨q, m, n, rfl, _⟩ := h
    rfl
  · refine ⟨_, (pss_one (ps_ret (pe_callTy call_tuple_of (by rfl) T.n_tuple (by decide +kernel) (pa_cons (pe_d D_law_names (hr.mono (by omega)) (pa_cons (pv 0) (pa_cons (pe_op op_add pe_int (pe_d D_law_take (hr.mono (by omega)) (pa_cons (pv 0) (pa_cons (pv 1) pa_nil)))) pa_nil))) pa_nil)))), ?_⟩
    obtain ⟨q, m, n, rfl, hm1, hm6, hp, hn, go⟩ := h
    walk_at "w"
    refine ⟨q, m, n, rfl, hm1, by omega, hp, by omega, fun H1 r hH1 hp1 r0 r1 => ?_⟩
    walk_at "w"
    refine ⟨q, (1 + r).toNat, n + 1, ?_, by omega, hp1, by omega, fun H2 p ns hH2 hpq hp0 he hl hnd hin hp2 => ?_⟩
    · have : ((1 + r).toNat : Int) = 1 + r := by omega
      rw [this]
      rfl
    · walk_at "w"
      refine ⟨p, _, rfl, .inl ⟨SqL.of he, fun l hl0 => ?_⟩⟩
      have s3 : Same H2 (upd H2 l (.tup (ns.map V.str))) := same_upd (Same.refl _) hl0
      exact go _ (.ref l) ns ((hH1.trans hH2).trans (HS.same s3)) ⟨l, rfl, SqT.of upd_same⟩ ⟨by omega, by omega, hnd, fun d h => pool_more d (hin d h)⟩ hin ((hp2.same s3).mono (by omega))
theorem ok_lot (F : FunAt K mg "_law_lot" s_law_lot) (T : Txt mg) (D_law_some : Def P w K mg base 2 "_law_some" P_law_some (spSome K)) (D_law_of : Def P w K mg base 2 "_law_of" P_law_of (spOf K)) (D_law_in_sequence : Def P w K mg base 1 "_law_in_sequence" P_law_in_sequence (spSeq K)) :
    Def P w K mg base 3 "_law_lot" P_law_lot (spLot K) := by
  refine def_of F sc_law_lot bs_law_lot (fun vs H Q E h => ?_) fun f cdv A outer s H vs Q E hr h => ?_
  · obtain ⟨q, x, ds, n, rfl, _⟩ := h
    rfl
  · refine ⟨_, (pss_cons (ps_set (i := 2) sc_law_lot.nd rfl (by first | exact Or.inl rfl | exact Or.inr rfl) (pe_d D_law_of (hr.mono (by omega)) (pa_cons (pv 0) (pa_cons (pe_lstN (pa_cons pe_int (pa_cons pe_int (pa_cons pe_int (pa_cons pe_int (pa_cons pe_int (pa_cons pe_int pa_nil))))))) pa_nil))))
  (pss_one (ps_ret (pe_d D_law_in_sequence (hr.mono (by omega)) (pa_cons (pv 1) (pa_cons (pe_d D_law_some (hr.mono (by omega)) (pa_cons (pv 0) (pa_cons (pv 1) (pa_cons (pe_callB (call_min2 rfl) (by rfl) T.n_min (by decide +kernel) (pa_cons (pv 2) (pa_cons (pe_callB call_len (by rfl) T.n_len PySem.boot_len (pa_cons (pv 1) pa_nil)) pa_nil))) pa_nil)))) pa_nil)))))), ?_⟩
    obtain ⟨q, x, ds, n, rfl, ⟨a, rfl, ha⟩, hn, hn1, hp, hm, go⟩ := h
    obtain ⟨own, b, k, eq, _⟩ := id hp
    walk_at "w"
    rename_i p hp0 _
    have s1 : Same H (upd H p (.lst [.int 1, .int 1, .int 2, .int 2, .int 0, .int 3])) := same_upd (Same.refl _) hp0
    refine ⟨q, p, _, n, rfl, .inl ⟨SqL.of upd_same, Ne.symm (ne_of_none eq hp0)⟩, by simp, by decide, hp.same s1, by omega, fun H1 v hv hH1 hp1 => ?_⟩
    obtain ⟨j, rfl, j0, j1⟩ : ∃ j : Int, v = .int j ∧ 0 ≤ j ∧ j ≤ 3 := by
      simp only [List.mem_cons, List.not_mem_nil, or_false] at hv
      rcases hv with rfl | rfl | rfl | rfl | rfl | rfl <;> exact ⟨_, rfl, by decide, by decide⟩
    have hS1 : HS q H H1 := (HS.same s1).trans hH1
    have ha1 := hS1.sqT eq ha
    obtain ⟨own1, b1, k1, eq1, _⟩ := id hp1
    refine w_gname ?_
    dsimp only
    refine w_ret ?_
    refine w_call ?_
    refine w_cons ?_
    refine w_var rfl ?_
    refine w_cons ?_
    refine w_call ?_
    refine w_cons ?_
    refine w_var rfl ?_
    refine w_cons ?_
    refine w_var rfl ?_
    refine w_cons ?_
    refine w_cb ?_
    refine w_cons ?_
    refine w_var rfl ?_
    refine w_cons ?_
    refine w_cb ?_
    refine w_cons ?_
    refine w_var rfl ?_
    refine w_nil ?_
    refine ⟨_, ds.length, rfl, .inr ⟨_, ha1, by rw [List.length_map]⟩, ?_⟩
    refine w_nil ?_
    refine w_max ?_
    refine w_nil ?_
    have hz : ∀ x : Int, 0 ≤ x → 0 ≤ (if x < j then x else j) ∧ (if x < j then x else j) ≤ 3 ∧ (if x < j then x else j) ≤ x := fun x hx => by
      split <;> omega
    have hz' := hz (ds.length : Nat) (by omega)
    generalize (if ((ds.length : Nat) : Int) < j then ((ds.length : Nat) : Int) else j) = z at hz' ⊢
    obtain ⟨m, rfl⟩ : ∃ m : Nat, z = (m : Nat) := ⟨z.toNat, by omega⟩
    refine ⟨q, a, ds.map V.str, m, n + 1, rfl, .inr ha1, by rw [List.length_map]; omega, by rw [List.length_map]; omega, hp1, by omega, fun H2 p2 ys zs hS2 hpq hp20 _ he hlen hpm hpot => ?_⟩
    obtain ⟨ns, rfl, _, hin⟩ := strs_of hpm
    walk_at "w"
    refine ⟨.ref a, p2, ds, ns, rfl, ⟨a, rfl, hS2.sqT eq1 ha1⟩, .inl (SqL.of he), by omega, fun H3 y s3 hy => ?_⟩
    exact go H3 y _ ((hS1.trans hS2).trans (HS.same s3)) hy List.filter_sublist ((hpot.same s3).mono (by omega))
end

/-- what the law's rows are -/
def RowsOf (ds : List Str) (bs : List Bun) : Prop := ∀ b ∈ bs, b.1.Sublist ds ∧ b.2.Sublist ds ∧ b.2 ≠ [] ∧ ∀ d ∈ b.2, d ∉ b.1
theorem lotAt_hs {K : PySem.W.Frag} {q : Addr} {H H' : Hp} {y : V} {l : List Str} {ws : List V} (h : LotAt K H y l) (s : HS q H H') (e : H q = some (.lst ws)) : LotAt K H' y l := by
  obtain ⟨a, e', h⟩ := h
  exact ⟨a, e', s.sqT e h⟩
theorem bunAt_hs {K : PySem.W.Frag} {q : Addr} {H H' : Hp} {y : V} {b : Bun} {ws : List V} (h : BunAt K H y b) (s : HS q H H') (e : H q = some (.lst ws)) : BunAt K H' y b := by
  obtain ⟨a, y, z, e', h1, h2, h3⟩ := h
  exact ⟨a, y, z, e', s.sqT e h1, lotAt_hs h2 s e, lotAt_hs h3 s e⟩
def spRows (K : PySem.W.Frag) : Sp := fun vs H Q _ => ∃ (q : Addr) (x : V) (ds : List Str) (m n : Nat), vs = [.ref q, x, .int (m : Nat)] ∧ m ≤ 30 ∧ LotAt K H x ds ∧ Devs ds ∧ PotAt H q n ∧ n ≤ 700000 ∧
  ∀ (H' : Hp) (p : Addr) (xs : List V) (bs : List Bun), HS q H H' → p ≠ q → H p = none → H' p = some (.lst xs) → Paired (BunAt K H') xs bs → RowsOf ds bs → bs.length ≤ m → PotAt H' q (n + 1 + 11 * m) → Q (.ref p) H'
theorem dp_strs {K : PySem.W.Frag} {H : Hp} : ∀ (l : List Str), DpAll K H (l.map V.str) (l.map PyData.str)
  | [] => .nil
  | b :: bs => .cons (.str b) (dp_strs bs)
theorem strs_lay : ∀ l : List Str, (∀ d ∈ l, PyData.strOk d = true) → PyData.canLayAll0 (l.map PyData.str) = true
  | [], _ => by simp [PyData.canLayAll0]
  | b :: bs, h => by simp [PyData.canLayAll0, PyData.canLay0, h b (.head _), strs_lay bs fun d hd => h d (.tail _ hd)]
theorem pool_ok : ∀ d ∈ pool17, PyData.strOk d = true := by decide +kernel
theorem strs_depth : ∀ l : List Str, PyData.depthAll (l.map PyData.str) = 0
  | [] => by simp [PyData.depthAll]
  | b :: bs => by simp [PyData.depthAll, PyData.depth, strs_depth bs]
theorem strs_shaped (l : List Str) (h : ∀ d ∈ l, PyData.strOk d = true) : SeqAt.shaped (.list (l.map PyData.str)) = true := by
  show (PyData.canLay0 (.list (l.map PyData.str)) && decide (PyData.depth (.list (l.map PyData.str)) ≤ 64)) = true
  rw [Bool.and_eq_true]
  refine ⟨by simp only [PyData.canLay0]; exact strs_lay l h, decide_eq_true ?_⟩
  simp only [PyData.depth, strs_depth]
  decide
theorem w_neNil {K : PySem.W.Frag} {H : Hp} {a b : Addr} {l : List Str} {Q : VK} (hl : ∀ d ∈ l, PyData.strOk d = true) (ha : SqL K H a (l.map V.str)) (hb : SqL K H b []) (k : Q (.bl (!l.isEmpty)) H) : rNeD K (.ref a) (.ref b) H Q := by
  refine ⟨_, _, .lst ha (dp_strs l), .lst hb .nil, strs_shaped l hl, strs_shaped [] (fun _ h => absurd h (by simp)), ?_⟩
  cases l with
  | nil => exact k
  | cons x l => exact k
theorem w_forR {K : PySem.W.Frag} {σ : L2.St} {H : Hp} {ta : TA} {g : TG} {tb : TS} {D : Ends} (k : ta σ H fun vs H1 => ∃ j : Int, vs = [.int j] ∧ -(2 ^ 62) ≤ j ∧ j < 2 ^ 62 ∧ ∃ W : Nat → Nat → L2.St → Hp → Prop, (∃ m, W 0 m σ H1) ∧ ∀ i m σ H, W i m σ H →
      ((Itr 0 j.toNat).stop i H ∧ D.nx σ H) ∨ ((Itr 0 j.toNat).go i H ∧ ∃ N : L2.St → Hp → Prop, (∀ σ' H', N σ' H' → ∃ m', m' < m ∧ W (i + 1) m' σ' H') ∧ ∀ x H', (Itr 0 j.toNat).yld i H x H' → g x σ H' fun σ2 H2 => tb { D with nx := N, ct := N, bk := D.nx } σ2 H2)) : tFor (iRng1 ta) g tb D σ H := k
section
variable {P : Program} {w : World} {K : PySem.W.Frag} {mg : Str → Option Value} {base : Heap}
theorem ok_rows (F : FunAt K mg "_law_rows" s_law_rows) (T : Txt mg) (D_law_take : Def P w K mg base 1 "_law_take" P_law_take spTake) (D_law_of : Def P w K mg base 2 "_law_of" P_law_of (spOf K)) (D_law_some : Def P w K mg base 2 "_law_some" P_law_some (spSome K))
    (D_law_in_sequence : Def P w K mg base 1 "_law_in_sequence" P_law_in_sequence (spSeq K)) (D_law_outside : Def P w K mg base 1 "_law_outside" P_law_outside (spOutside K)) (D_law_lot : Def P w K mg base 3 "_law_lot" P_law_lot (spLot K)) :
    Def P w K mg base 4 "_law_rows" P_law_rows (spRows K) := by
  refine def_of F sc_law_rows bs_law_rows (fun vs H Q E h => ?_) fun f cdv A outer s H vs Q E hr h => ?_
  · obtain ⟨q, x, ds, m, n, rfl, _⟩ := h
    rfl
  · refine ⟨_, (pss_cons (ps_set (i := 3) sc_law_rows.nd rfl (by first | exact Or.inl rfl | exact Or.inr rfl) (pe_lstN pa_nil))
  (pss_cons (ps_for PassesOwn.never rfl (pi_range1 (by rfl) T.n_range (pa_cons (pe_d D_law_take (hr.mono (by omega)) (pa_cons (pv 0) (pa_cons (pe_op op_add (pv 2) pe_int) pa_nil))) pa_nil)) (pg_name (i := 4) sc_law_rows.nd rfl (by first | exact Or.inl rfl | exact Or.inr rfl)) (pss_cons (ps_set (i := 5) sc_law_rows.nd rfl (by first | exact Or.inl rfl | exact Or.inr rfl) (pe_d D_law_lot (hr.mono (by omega)) (pa_cons (pv 0) (pa_cons (pv 1) pa_nil))))
  (pss_cons (ps_set (i := 6) sc_law_rows.nd rfl (by first | exact Or.inl rfl | exact Or.inr rfl) (pe_d D_law_outside (hr.mono (by omega)) (pa_cons (pv 1) (pa_cons (pv 5) pa_nil))))
  (pss_one (ps_if (pt_cmpR (op_neD hr.units) (pv 6) (pe_lstN pa_nil) (nomark _)) (pss_cons (ps_set (i := 7) sc_law_rows.nd rfl (by first | exact Or.inl rfl | exact Or.inr rfl) (pe_d D_law_some (hr.mono (by omega)) (pa_cons (pv 0) (pa_cons (pv 6) (pa_cons (pe_callB (call_min2 rfl) (by rfl) T.n_min (by decide +kernel) (pa_cons (pe_callB call_len (by rfl) T.n_len PySem.boot_len (pa_cons (pv 6) pa_nil)) (pa_cons (pe_d D_law_of (hr.mono (by omega)) (pa_cons (pv 0) (pa_cons (pe_lstN (pa_cons pe_int (pa_cons pe_int (pa_cons pe_int (pa_cons pe_int pa_nil))))) pa_nil))) pa_nil))) pa_nil)))))
  (pss_one (ps_expr (pe_bm PySem.F.plainAttrs_list PySem.F.slot_list_append PySem.F.type_list_append mt_append (pv 3) (pa_cons (pe_tup (pa_cons (pv 5) (pa_cons (pe_d D_law_in_sequence (hr.mono (by omega)) (pa_cons (pv 1) (pa_cons (pv 7) pa_nil))) pa_nil))) pa_nil))))) pss_nil)))))
  (pss_one (ps_ret (pv 3))))), ?_⟩
    obtain ⟨q, x, ds, m, n, rfl, hm, hx, hd, hp, hn, go⟩ := h
    obtain ⟨own, b, k, eq, _⟩ := id hp
    walk_at "v"
    refine w_lstN ?_
    walk_at "v"
    rename_i p hp0 _
    have s1 : Same H (upd H p (.lst [])) := same_upd (Same.refl _) hp0
    have pq : p ≠ q := Ne.symm (ne_of_none eq hp0)
    refine w_forR (K := K) ?_
    refine w_cons ?_
    walk_at "v"
    refine ⟨q, (m : Int) + 1, n, rfl, by omega, by omega, hp.same s1, by omega, fun H1 r hS1 hp1 r0 r1 => ?_⟩
    refine w_nil ?_
    refine ⟨r, rfl, by omega, by omega, ?_⟩
    obtain ⟨hd1, hd2, hd3, hd4⟩ := id hd
    refine for_range (lo := 0) (n := r.toNat) (Pv := fun i σ' H' => ∃ (x4 x5 x6 x7 : Option V) (xs : List V) (bs : List Bun), σ' = [some (.ref q), some x, some (.int (m : Nat)), some (.ref p), x4, x5, x6, x7] ∧ HS q H H' ∧ H' p = some (.lst xs) ∧ Paired (BunAt K H') xs bs ∧ RowsOf ds bs ∧ bs.length ≤ i ∧ PotAt H' q (n + 1 + 11 * i))
      ⟨none, none, none, none, [], [], rfl, (HS.same s1).trans hS1, hS1 _ _ pq upd_same, .nil, fun b hb => absurd hb (by simp), Nat.le_refl _, hp1⟩ ?_ ?_
    · rintro i σ' H' hi ⟨x4, x5, x6, x7, xs, bs, rfl, hS, hxs, hbs, hrow, hlen, hpot⟩
      have hx' : LotAt K H' x ds := lotAt_hs hx hS eq
      obtain ⟨own1, b1, k1, eq1, _⟩ := id hpot
      walk_at "v"
      refine ⟨q, x, ds, n + 1 + 11 * i, rfl, hx', hd2, hd1, hpot, by omega, fun H2 y l hS2 hy hsub hp2 => ?_⟩
      replace hy : LotAt K H2 y l := hy.at
      obtain ⟨own2, b2, k2, eq2, _⟩ := id hp2
      obtain ⟨yb, rfl, hyb⟩ := id hy
      walk_at "v"
      refine ⟨x, yb, ds, l, rfl, lotAt_hs hx' hS2 eq1, .inr hyb, by omega, fun H3 D hD s3 e3 => ?_⟩
      walk_at "v"
      refine w_lstN ?_
      walk_at "v"
      rename_i p4 hp4 _
      have s4 : Same H3 (upd H3 p4 (.lst [])) := same_upd (Same.refl _) hp4
      refine w_neNil (fun d hd => pool_ok d (hd4 d (List.mem_filter.mp hd).1)) (SqL.of (s4 _ _ e3)) (SqL.of upd_same) ?_
      walk_at "v"
      generalize hH4 : upd H3 p4 (.lst []) = H4 at s4
      have e4 := s4 _ _ e3
      have hS4 : HS q H' H4 := hS2.trans (HS.same (s3.trans s4))
      have eq4 := (s3.trans s4) _ _ eq2
      have hp4' : PotAt H4 q (n + 1 + 11 * i + 7) := hp2.same (s3.trans s4)
      cases hr : (ds.filter fun d => !decide (d ∈ l)) with
      | nil =>
        refine iteF ?_
        walk_at "v"
        exact ⟨_, _, _, _, xs, bs, rfl, hS.trans hS4, hS4 _ _ pq hxs, Paired.mapP hbs fun y b h => bunAt_hs h hS4 eq1, hrow, by omega, hp4'.mono (by omega)⟩
      | cons d0 rs =>
        refine iteT ?_
        have hlr : (ds.filter fun d => !decide (d ∈ l)).length = rs.length + 1 := by rw [hr]; rfl
        have hle := List.length_filter_le (fun d => !decide (d ∈ l)) ds
        have Dq0 : D ≠ q := Ne.symm (ne_of_none eq2 hD)
        refine w_seq ?_
        refine w_asg ?_
        refine w_call ?_
        refine w_cons ?_
        refine w_var rfl ?_
        refine w_cons ?_
        refine w_var rfl ?_
        refine w_cons ?_
        refine w_cb ?_
        refine w_cons ?_
        refine w_cb ?_
        refine w_cons ?_
        refine w_var rfl ?_
        refine w_nil ?_
        refine ⟨_, (ds.filter fun d => !decide (d ∈ l)).length, rfl, .inl ⟨_, SqL.of e4, by rw [List.length_map]⟩, ?_⟩
        refine w_cons ?_
        refine w_call ?_
        refine w_cons ?_
        refine w_var rfl ?_
        refine w_cons ?_
        refine w_lstN ?_
        walk_at "v"
        rename_i p5 hp5 _
        have s5 : Same H4 (upd H4 p5 (.lst [.int 1, .int 1, .int 1, .int 2])) := same_upd (Same.refl _) hp5
        refine ⟨q, p5, [.int 1, .int 1, .int 1, .int 2], n + 1 + 11 * i + 7, rfl, .inl ⟨SqL.of upd_same, Ne.symm (ne_of_none eq4 hp5)⟩, by simp, by decide, hp4'.same s5, by omega, fun H5 v hv hS5 hp5' => ?_⟩
        obtain ⟨j, rfl, j0, j1⟩ : ∃ j : Int, v = .int j ∧ 1 ≤ j ∧ j ≤ 2 := by
          simp only [List.mem_cons, List.not_mem_nil, or_false] at hv
          rcases hv with rfl | rfl | rfl | rfl <;> exact ⟨_, rfl, by decide, by decide⟩
        have hS45 : HS q H4 H5 := (HS.same s5).trans hS5
        have e5 := hS45 _ _ Dq0 e4
        obtain ⟨own5, b5, k5, eq5, _⟩ := id hp5'
        refine w_nil ?_
        refine w_max ?_
        have hz' : ∀ x : Int, 1 ≤ x → 1 ≤ (if j < x then j else x) ∧ (if j < x then j else x) ≤ 2 ∧ (if j < x then j else x) ≤ x := fun x hx => by
          split <;> omega
        have hz'' := hz' ((ds.filter fun d => !decide (d ∈ l)).length : Nat) (by omega)
        generalize (if j < (((ds.filter fun d => !decide (d ∈ l)).length : Nat) : Int) then j else (((ds.filter fun d => !decide (d ∈ l)).length : Nat) : Int)) = z at hz'' ⊢
        obtain ⟨mm, rfl⟩ : ∃ mm : Nat, z = (mm : Nat) := ⟨z.toNat, by omega⟩
        refine w_nil ?_
        refine ⟨q, D, (ds.filter fun d => !decide (d ∈ l)).map V.str, mm, n + 1 + 11 * i + 7 + 1, rfl, .inl ⟨SqL.of e5, Dq0⟩, by rw [List.length_map]; omega, by rw [List.length_map]; omega, hp5', by omega, fun H6 p6 ys zs hS6 hpq6 hp60 _ he6 hlen6 hpm6 hpot6 => ?_⟩
        obtain ⟨ns, rfl, _, hin⟩ := strs_of hpm6
        rw [List.length_map] at hlen6
        have hS46 : HS q H4 H6 := hS45.trans hS6
        have hS06 : HS q H' H6 := hS4.trans hS46
        refine w_gname ?_
        dsimp only
        refine w_drop ?_
        refine w_bm ?_
        refine w_var rfl ?_
        have ep6 := hS06 _ _ pq hxs
        refine ⟨.inl ⟨rfl, _, SqL.of ep6⟩, ?_⟩
        refine w_cons ?_
        refine w_tup ?_
        refine w_cons ?_
        refine w_var rfl ?_
        refine w_cons ?_
        refine w_call ?_
        refine w_cons ?_
        refine w_var rfl ?_
        refine w_cons ?_
        refine w_var rfl ?_
        refine w_nil ?_
        refine ⟨x, p6, ds, ns, rfl, lotAt_hs hx' hS06 eq1, .inl (SqL.of he6), by omega, fun H7 y7 s7 hy7 => ?_⟩
        replace hy7 : LotAt K H7 y7 _ := hy7.at
        refine w_nil ?_
        refine ⟨by show 2 ≤ sizeLine; decide, fun t ht => ?_⟩
        refine w_nil ?_
        have s8 : Same H7 (upd H7 t (.tup [.ref yb, y7])) := same_upd (Same.refl _) ht
        have ep8 := (s7.trans s8) _ _ ep6
        have hbl := Paired.length hbs
        refine ⟨p, xs, .ref t, rfl, rfl, ep8, by rw [sizeLine_eq]; omega, ?_⟩
        have hS08 : HS q H' (upd H7 t (.tup [.ref yb, y7])) := hS06.trans (HS.same (s7.trans s8))
        have hy8 : LotAt K (upd H7 t (.tup [.ref yb, y7])) (.ref yb) l := (lotAt_hs (hy.same (s3.trans s4)) (hS46.trans (HS.same (s7.trans s8))) eq4)
        refine ⟨_, _, _, _, xs ++ [.ref t], bs ++ [(l, ds.filter fun d => decide (d ∈ ns))], rfl, ?_, upd_same, ?_, ?_, by rw [List.length_append]; exact Nat.succ_le_succ hlen, ?_⟩
        · intro b o nb e
          have e' := hS _ _ nb e
          have e'' := hS08 _ _ nb e'
          rw [upd_ne (ne_of_none e hp0)]
          exact e''
        · refine Wk.Paired.app (Paired.mapP hbs fun y b h => ?_) (.cons ?_ .nil)
          · obtain ⟨a1, y1, z1, e1, g1, g2, g3⟩ := bunAt_hs h hS08 eq1
            exact ⟨a1, y1, z1, e1, sqT_upd g1 ep8, lotAt_upd g2 ep8, lotAt_upd g3 ep8⟩
          · exact ⟨t, .ref yb, y7, rfl, sqT_upd (SqT.of upd_same) ep8, lotAt_upd hy8 ep8, lotAt_upd (hy7.same s8) ep8⟩
        · intro b hb
          rcases List.mem_append.mp hb with hb | hb
          · exact hrow b hb
          · rw [List.mem_singleton.mp hb]
            refine ⟨hsub, List.filter_sublist, fun e => ?_, fun d hd hdl => ?_⟩
            · cases ns with
              | nil => simp at hlen6; omega
              | cons c cs =>
                have hc := hin c (.head _)
                have : c ∈ ds.filter fun d => decide (d ∈ c :: cs) := List.mem_filter.mpr ⟨(List.mem_filter.mp hc).1, decide_eq_true (.head _)⟩
                have e' : (ds.filter fun d => decide (d ∈ c :: cs)) = [] := e
                rw [e'] at this
                cases this
            · have h1 := of_decide_eq_true (List.mem_filter.mp hd).2
              have h2 := (List.mem_filter.mp (hin d h1)).2
              simp [hdl] at h2
        · obtain ⟨own9, b9, k9, eq9, r9⟩ := (hpot6.same (s7.trans s8)).mono (show n + 1 + 11 * i + 7 + 1 + mm ≤ n + 1 + 11 * (i + 1) by omega)
          exact ⟨own9, b9, k9, by rw [upd_ne (Ne.symm pq)]; exact eq9, r9⟩
    · rintro σ' H' ⟨x4, x5, x6, x7, xs, bs, rfl, hS, hxs, hbs, hrow, hlen, hpot⟩
      walk_at "v"
      exact go H' p xs bs hS pq hp0 hxs hbs hrow (by omega) (hpot.mono (by omega))
end

theorem RowsOf.buns {ds : List Str} {bs : List Bun} (h : RowsOf ds bs) (n : ds.Nodup) : BunsOf ds bs := fun b hb => by
  obtain ⟨h1, h2, _, _⟩ := h b hb
  exact ⟨h1.nodup n, h2.nodup n, fun d hd => h1.subset hd, fun d hd => h2.subset hd⟩
/-- the tuple's texts as a key -/
def keyOf (l : List Str) : List Key := l.map Sum.inr
theorem keyOf_v (l : List Str) : (keyOf l).map kV = l.map V.str := by
  unfold keyOf
  rw [List.map_map]
  rfl
theorem keyOf_inj {l m : List Str} (h : keyOf l = keyOf m) : l = m := by
  have := congrArg (List.map kV) h
  rw [keyOf_v, keyOf_v] at this
  exact strs_inj this
/-- an entry of the table: where the lot l comes to -/
def Entry (K : PySem.W.Frag) (H : Hp) (ds : List Str) (bs : List Bun) (kv : List Key × V) (l : List Str) : Prop := kv.1 = keyOf l ∧ ∃ e, IsEnd (stepsOf ds bs) (maskOf ds l) e ∧ e < 2 ^ ds.length ∧ LotAt K H kv.2 (lotOf ds e)
def TableAt (K : PySem.W.Frag) (H : Hp) (D : Addr) (ds : List Str) (bs : List Bun) : Prop := ∃ kvs, H D = some (.dT kvs) ∧ Paired (Entry K H ds bs) kvs (sortTS (lots ds))
theorem Entry.same {K : PySem.W.Frag} {H H' : Hp} {ds : List Str} {bs : List Bun} {kv : List Key × V} {l : List Str} (h : Entry K H ds bs kv l) (s : Same H H') : Entry K H' ds bs kv l := by
  obtain ⟨h1, e, h2, h3, h4⟩ := h
  exact ⟨h1, e, h2, h3, h4.same s⟩
theorem TableAt.same {K : PySem.W.Frag} {H H' : Hp} {D : Addr} {ds : List Str} {bs : List Bun} (h : TableAt K H D ds bs) (s : Same H H') : TableAt K H' D ds bs := by
  obtain ⟨kvs, h1, h2⟩ := h
  exact ⟨kvs, s _ _ h1, Paired.mapP h2 fun _ _ h => h.same s⟩
theorem mergeT_new : ∀ {more acc : List (List Key × V)}, (acc.map (·.1) ++ more.map (·.1)).Nodup → mergeT acc more = acc ++ more
  | [], acc, _ => (List.append_nil acc).symm
  | p :: more, acc, h => by
    have hn : valV acc p.1 = none := by
      cases e : valV acc p.1 with
      | none => rfl
      | some v =>
        have h0 := valV_any p.1 acc
        rw [e] at h0
        obtain ⟨q, hq, hk⟩ := List.any_eq_true.mp h0
        have hk := of_decide_eq_true hk
        have := (List.nodup_append.mp h).2.2 q.1 (List.mem_map.mpr ⟨q, hq, rfl⟩) p.1 (by simp)
        exact absurd hk this
    show mergeT (putK acc p.1 p.2) more = _
    rw [putK_new _ hn]
    rw [mergeT_new (by simpa using h)]
    simp
/-- a pair of a lot and where it comes to -/
def PairE (K : PySem.W.Frag) (ds : List Str) (bs : List Bun) (y : V) (l : List Str) (H : Hp) : Prop := ∃ (T t : Addr) (z : V) (e : Nat), y = .ref T ∧ SqT K H T [.ref t, z] ∧ H t = some (.tup (l.map V.str)) ∧ IsEnd (stepsOf ds bs) (maskOf ds l) e ∧ e < 2 ^ ds.length ∧ LotAt K H z (lotOf ds e)
theorem PairE.same {K : PySem.W.Frag} {ds : List Str} {bs : List Bun} {y : V} {l : List Str} {H H' : Hp} (h : PairE K ds bs y l H) (s : Same H H') : PairE K ds bs y l H' := by
  obtain ⟨T, t, z, e, h1, h2, h3, h4, h5, h6⟩ := h
  exact ⟨T, t, z, e, h1, Same.sqT s h2, s _ _ h3, h4, h5, h6.same s⟩
theorem PairE.upd {K : PySem.W.Frag} {ds : List Str} {bs : List Bun} {y : V} {l : List Str} {H : Hp} {D : Addr} {ys zs : List V} (h : PairE K ds bs y l H) (e : H D = some (.lst ys)) : PairE K ds bs y l (upd H D (.lst zs)) := by
  obtain ⟨T, t, z, e', h1, h2, h3, h4, h5, h6⟩ := h
  exact ⟨T, t, z, e', h1, sqT_upd h2 e, by rw [upd_ne fun q => by rw [q, e] at h3; cases h3]; exact h3, h4, h5, lotAt_upd h6 e⟩
theorem pairE_split {K : PySem.W.Frag} {ds : List Str} {bs : List Bun} {H : Hp} : ∀ {ps : List V} {ls : List (List Str)}, Paired (fun y l => PairE K ds bs y l H) ps ls →
    ∃ (as : List Addr) (kvs : List (List Key × V)), ps = as.map V.ref ∧ Paired (fun p kv => ∃ b, H b = some (.tup (kv.1.map kV)) ∧ SqT K H p [.ref b, kv.2]) as kvs ∧ Paired (Entry K H ds bs) kvs ls
  | _, _, .nil => ⟨[], [], rfl, .nil, .nil⟩
  | _, _, .cons (b := l) h t => by
    obtain ⟨as, kvs, e, h1, h2⟩ := pairE_split t
    obtain ⟨T, t', z, e', rfl, g2, g3, g4, g5, g6⟩ := h
    exact ⟨T :: as, (keyOf l, z) :: kvs, by rw [e]; rfl, .cons ⟨t', by rw [keyOf_v]; exact g3, g2⟩ h1, .cons ⟨rfl, e', g4, g5, g6⟩ h2⟩
def spTable (K : PySem.W.Frag) : Sp := fun vs H Q _ => ∃ (x : V) (r : Addr) (ds : List Str) (bs : List Bun), vs = [x, .ref r] ∧ LotAt K H x ds ∧ RowsAt K H r bs ∧ Devs ds ∧ RowsOf ds bs ∧ bs.length ≤ 1000 ∧
  ∀ H' D, H D = none → Same H H' → TableAt K H' D ds bs → Q (.ref D) H'
section
variable {P : Program} {w : World} {K : PySem.W.Frag} {mg : Str → Option Value} {base : Heap}
theorem ok_table (F : FunAt K mg "_law_table" s_law_table) (T : Txt mg) (D_law_lots : Def P w K mg base 1 "_law_lots" P_law_lots (spLots K)) (D_law_rest : Def P w K mg base 2 "_law_rest" P_law_rest (spRest K)) : Def P w K mg base 3 "_law_table" P_law_table (spTable K) := by
  refine def_of F sc_law_table bs_law_table (fun vs H Q E h => ?_) fun f cdv A outer s H vs Q E hr h => ?_
  · obtain ⟨x, r, ds, bs, rfl, _⟩ := h
    rfl
  · refine ⟨_, (pss_one (ps_ret (pe_callTy (call_dictT rfl hr.units) (by rfl) T.n_dict (by decide +kernel) (pa_cons (pe_lc (own := [("_law_lot_here", 2)]) (g := (gName 2)) (tt := tYes) rfl sc_law_table.nd (pi_list (pe_d D_law_lots (hr.mono (by omega)) (pa_cons (pv 0) pa_nil))) (blkOk_by (N := N_law_table) (sc := defScope s_law_table) (by decide +kernel)) (fun _ _ _ _ _ => (pg_name (i := 2) sc_law_table.nd rfl (by first | exact Or.inl rfl | exact Or.inr rfl))) (fun _ _ _ _ _ => pts_nil) (fun _ _ _ _ _ => (pe_tup (pa_cons (pv 2) (pa_cons (pe_d D_law_rest (hr.mono (by omega)) (pa_cons (pv 0) (pa_cons (pv 1) (pa_cons (pv 2) pa_nil)))) pa_nil))))) pa_nil)))), ?_⟩
    obtain ⟨x, r, ds, bs, rfl, hx, hr', hd, hb, hz, go⟩ := h
    obtain ⟨hd1, hd2, hd3, hd4⟩ := id hd
    walk_at "v"
    refine w_lcHd ?_
    walk_at "v"
    refine ⟨x, ds, rfl, hx, hd2, fun H1 D0 ys hD0 s1 e1 hys => ?_⟩
    have hl1 : (sortTS (lots ds)).length = 2 ^ ds.length := by rw [(sortTS_perm _).length_eq, lots_len]
    have hle : 2 ^ ds.length ≤ 2 ^ 6 := Nat.pow_le_pow_right (by decide) hd2
    have hyl := Paired.length hys
    refine w_lcLG (bs := sortTS (lots ds)) (PairE K ds bs) (fun y b H H' h s => h.same s) (fun y b H D ys zs h h1 e => h.upd e) (fun R k => k) (SqL.of e1) (by omega) hyl (fun _ => rfl) ?_ ?_
    · intro n v l H2 R hv hl s2 k
      have hml : l ∈ lots ds := (sortTS_perm _).mem_iff.mp (List.mem_of_getElem? hl)
      obtain ⟨l', hl', hv'⟩ := Paired.at hys hv
      rw [hl] at hl'
      obtain rfl := Option.some.inj hl'
      obtain ⟨m, hm, rfl⟩ := lotsAll_mem hml
      obtain ⟨t, rfl, ht⟩ := hv'
      have hsub := lotOf_sublist ds m
      refine w_tup ?_
      walk_at "v"
      obtain ⟨rxs, hrx, hrp⟩ := id hr'
      have s12 := s1.trans s2
      refine ⟨x, .ref t, r, ds, lotOf ds m, bs, rfl, hx.same s12, ⟨t, rfl, SqT.of (s2 _ _ ht)⟩, ⟨rxs, Same.sqL s12 hrx, Paired.mapP hrp fun _ _ h => h.same s12⟩, hb.buns hd3, hsub.nodup hd3, fun d hd => hsub.subset hd, by omega, hz, fun H3 z e s3 hE hz3 => ?_⟩
      walk_at "v"
      rename_i T hT
      have s4 : Same H3 (upd H3 T (.tup [.ref t, z])) := same_upd (Same.refl _) hT
      refine k _ _ (s3.trans s4) ⟨T, t, z, e, rfl, SqT.of upd_same, s4 _ _ (s3 _ _ (s2 _ _ ht)), hE, ?_, hz3.same s4⟩
      exact end_lt hE (mask_lt _ _) fun p hp => by
        unfold stepsOf at hp
        obtain ⟨b, _, rfl⟩ := List.mem_map.mp hp
        exact mask_lt _ _
    · intro D H2 ps hD s2 e2 hps
      walk_at "v"
      obtain ⟨as, kvs, rfl, h1, h2⟩ := pairE_split hps
      have hk : kvs.map (·.1) = (sortTS (lots ds)).map keyOf := by
        clear h1
        generalize sortTS (lots ds) = ls at h2
        induction h2 with
        | nil => rfl
        | cons h t ih => rw [List.map_cons, List.map_cons, ih, h.1]
      have hnd : (kvs.map (·.1)).Nodup := by
        rw [hk]
        exact List.pairwise_map.mpr (((sortTS_perm _).nodup_iff.mpr (lotsAll_nodup hd3)).imp fun h e => h (keyOf_inj e))
      refine ⟨D, as, kvs, rfl, SqL.of e2, h1, fun p hp => ?_⟩
      rw [mergeT_new (acc := []) (by simpa using hnd), List.nil_append]
      have s3 : Same H2 (upd H2 p (.dT kvs)) := same_upd (Same.refl _) hp
      exact go _ p ((s1.trans s2).free hp) ((s1.trans s2).trans s3) ⟨kvs, upd_same, Paired.mapP h2 fun _ _ h => h.same s3⟩
end

theorem sub_filter {l ds : List Str} (h : l.Sublist ds) (n : ds.Nodup) : ds.filter (fun d => decide (d ∈ l)) = l := by
  induction h with
  | slnil => rfl
  | @cons l ds a h ih =>
    obtain ⟨n1, n2⟩ := List.nodup_cons.mp n
    rw [List.filter_cons_of_neg (by simpa using fun z => n1 (h.subset z))]
    exact ih n2
  | @cons_cons l ds a h ih =>
    obtain ⟨n1, n2⟩ := List.nodup_cons.mp n
    rw [List.filter_cons_of_pos (by simp)]
    congr 1
    rw [← ih n2]
    refine List.filter_congr fun d hd => ?_
    have : d ≠ a := fun e => n1 (e ▸ hd)
    rw [ih n2]
    simp [this]
theorem dqa_strs {K : PySem.W.Frag} {q : Addr} {H : Hp} : ∀ (l : List Str), DqA K q H (l.map V.str) (l.map PyData.str)
  | [] => .nil
  | b :: bs => .cons (.str b) (dqa_strs bs)
theorem lot_dq {K : PySem.W.Frag} {H : Hp} {y : V} {l : List Str} (q : Addr) (h : LotAt K H y l) : Dq K q H y (.tuple (l.map PyData.str)) := by
  obtain ⟨a, rfl, h⟩ := h
  exact .tup h (dqa_strs l)
theorem tup_shaped (l : List Str) (h : ∀ d ∈ l, PyData.strOk d = true) : SeqAt.shaped (.tuple (l.map PyData.str)) = true := by
  show (PyData.canLay0 (.tuple (l.map PyData.str)) && decide (PyData.depth (.tuple (l.map PyData.str)) ≤ 64)) = true
  rw [Bool.and_eq_true]
  refine ⟨by simp only [PyData.canLay0]; exact strs_lay l h, decide_eq_true ?_⟩
  simp only [PyData.depth, strs_depth]
  decide
theorem w_eqLot {K : PySem.W.Frag} {H : Hp} {x y : V} {l : List Str} {Q : VK} (hl : ∀ d ∈ l, PyData.strOk d = true) (hx : LotAt K H x l) (hy : LotAt K H y l) (k : Q (.bl true) H) : rEqD K x y H Q := by
  obtain ⟨a, rfl, ha⟩ := hx
  obtain ⟨b, rfl, hb⟩ := hy
  have h := tup_shaped l hl
  refine ⟨_, _, .tup ha (dp_strs l), .tup hb (dp_strs l), h, h, ?_⟩
  rw [PySem.SeqAt.eqv_refl _ (SeqAt.canLay_of_shaped h)]
  exact k
/-- where the value is a lot -/
def spIsLot (K : PySem.W.Frag) : Sp := fun vs H Q _ => ∃ (x y : V) (ds l : List Str), vs = [x, y] ∧ LotAt K H x ds ∧ LotAt K H y l ∧ l.Sublist ds ∧ Devs ds ∧ ∀ H', Same H H' → Q (.bl true) H'
section
variable {P : Program} {w : World} {K : PySem.W.Frag} {mg : Str → Option Value} {base : Heap}
theorem ok_is_lot (F : FunAt K mg "is_lot" sis_lot) (T : Txt mg) : Def P w K mg base 1 "is_lot" Pis_lot (spIsLot K) := by
  refine def_of F scis_lot bsis_lot (fun vs H Q E h => ?_) fun f cdv A outer s H vs Q E hr h => ?_
  · obtain ⟨x, y, ds, l, rfl, _⟩ := h
    rfl
  · refine ⟨_, (pss_one (ps_ret (pe_and (pe_callB call_isi (by rfl) T.n_isinstance (by decide +kernel) (pa_cons (pv 1) (pa_cons (pe_bltn (v := .ty "tuple") (by rfl) T.n_tuple (by decide +kernel) rfl) pa_nil))) (pe_one (pe_cmpR (op_eqD hr.units) (pv 1) (pe_callTy call_tuple_of (by rfl) T.n_tuple (by decide +kernel) (pa_cons (pe_lc (own := [("name", 2)]) (g := (gName 2)) rfl scis_lot.nd (pi_tup (pv 0)) (blkOk_by (N := Nis_lot) (sc := defScope sis_lot) (by decide +kernel)) (fun _ _ _ _ _ => (pg_name (i := 2) scis_lot.nd rfl (by first | exact Or.inl rfl | exact Or.inr rfl))) (fun _ _ _ _ _ => (pts_one (pt_cmpR (op_inK (K := K) rfl) (pv 2) (pv 1) (by rfl)))) (fun _ _ _ _ _ => (pv 2))) pa_nil)) (nomark _)))))), ?_⟩
    obtain ⟨x, y, ds, l, rfl, ⟨a, rfl, ha⟩, ⟨b, rfl, hb⟩, hs, hd, go⟩ := h
    obtain ⟨hd1, hd2, hd3, hd4⟩ := hd
    walk_at "v"
    refine w_isT true (lot_dq 0 ⟨b, rfl, hb⟩) (by kernel_rfl) ?_
    walk_at "v"
    refine w_lcTF (fun x => inV x (l.map V.str)) id (fun R k => ⟨_, rfl, k⟩) ha (by rw [List.length_map]; omega) (fun _ => rfl) ?_ ?_ ?_
    · intro x H' R hx s k
      obtain ⟨d, _, rfl⟩ := List.mem_map.mp hx
      walk_at "v"
      exact ⟨b, l.map V.str, rfl, .inr (Same.sqT s hb), rfl, flat_strs l, _, rfl, k⟩
    · intro x H' R hx s k
      walk_at "v"
      exact k
    · intro D H' hD s e
      rw [filter_strs (p := fun d => decide (d ∈ l)) fun d => inV_str, sub_filter hs hd3] at e
      walk_at "v"
      refine ⟨D, _, rfl, .inl ⟨SqL.of e, fun t ht => ?_⟩⟩
      have s2 : Same H' (upd H' t (.tup (l.map V.str))) := same_upd (Same.refl _) ht
      refine w_eqLot (fun d hd => pool_ok d (hd4 d (hs.subset hd))) ⟨b, rfl, Same.sqT (s.trans s2) hb⟩ ⟨t, rfl, SqT.of upd_same⟩ ?_
      exact go _ (s.trans s2)
end

/-- where the value is a bundle -/
def spIsBundle (K : PySem.W.Frag) : Sp := fun vs H Q _ => ∃ (x y : V) (ds : List Str) (b : Bun), vs = [x, y] ∧ LotAt K H x ds ∧ BunAt K H y b ∧ RowsOf ds [b] ∧ Devs ds ∧ ∀ H', Same H H' → Q (.bl true) H'
section
variable {P : Program} {w : World} {K : PySem.W.Frag} {mg : Str → Option Value} {base : Heap}
theorem ok_is_bundle (F : FunAt K mg "is_bundle" sis_bundle) (T : Txt mg) (Dis_lot : Def P w K mg base 1 "is_lot" Pis_lot (spIsLot K)) : Def P w K mg base 2 "is_bundle" Pis_bundle (spIsBundle K) := by
  refine def_of F scis_bundle bsis_bundle (fun vs H Q E h => ?_) fun f cdv A outer s H vs Q E hr h => ?_
  · obtain ⟨x, y, ds, l, rfl, _⟩ := h
    rfl
  · refine ⟨_, (pss_cons (ps_if (PW.pt (pw_or (pt_not (pt_val (pe_callB call_isi (by rfl) T.n_isinstance (by decide +kernel) (pa_cons (pv 1) (pa_cons (pe_bltn (v := .ty "tuple") (by rfl) T.n_tuple (by decide +kernel) rfl) pa_nil))))) (pw_or1 (pt_cmpR op_ne (pe_callB call_len (by rfl) T.n_len PySem.boot_len (pa_cons (pv 1) pa_nil)) pe_int (nomark _))))) (pss_one (ps_ret pe_bl)) pss_nil)
  (pss_cons (ps_asg (pv 1) (pg_tup (by rfl) (pgs_cons (pg_name (i := 2) scis_bundle.nd rfl (by first | exact Or.inl rfl | exact Or.inr rfl)) (pgs_cons (pg_name (i := 3) scis_bundle.nd rfl (by first | exact Or.inl rfl | exact Or.inr rfl)) pgs_nil))))
  (pss_cons (ps_if (PW.pt (pw_or (pt_not (pt_val (pe_d Dis_lot (hr.mono (by omega)) (pa_cons (pv 0) (pa_cons (pv 2) pa_nil))))) (pw_or1 (pt_not (pt_val (pe_d Dis_lot (hr.mono (by omega)) (pa_cons (pv 0) (pa_cons (pv 3) pa_nil)))))))) (pss_one (ps_ret pe_bl)) pss_nil)
  (pss_one (ps_ret (pe_and (pe_cmpR (op_neE (hu_of hr)) (pv 3) (pe_tup pa_nil) (nomark _)) (pe_one (pe_not (pe_callB (cr_any rfl) (by rfl) T.n_any (by decide +kernel) (pa_cons (pe_lc (own := [("name", 4)]) (g := (gName 4)) (tt := tYes) rfl scis_bundle.nd (pi_tup (pv 3)) (blkOk_by (N := Nis_bundle) (sc := defScope sis_bundle) (by decide +kernel)) (fun _ _ _ _ _ => (pg_name (i := 4) scis_bundle.nd rfl (by first | exact Or.inl rfl | exact Or.inr rfl))) (fun _ _ _ _ _ => pts_nil) (fun _ _ _ _ _ => (pe_cmpR (op_inK (K := K) rfl) (pv 4) (pv 2) (by rfl)))) pa_nil)))))))))), ?_⟩
    obtain ⟨x, y, ds, b, rfl, hx, ⟨a, u, v, rfl, ha, hu, hv⟩, hb, hd, go⟩ := h
    obtain ⟨b1, b2, b3, b4⟩ := hb b (.head _)
    walk_at "v"
    have hdq : Dq K 0 H (.ref a) (.tuple [.tuple (b.1.map PyData.str), .tuple (b.2.map PyData.str)]) := .tup ha (.cons (lot_dq 0 hu) (.cons (lot_dq 0 hv) .nil))
    refine w_isT true hdq (by kernel_rfl) ?_
    walk_at "v"
    refine iteF ?_
    refine w_test ?_
    refine w_op ?_
    refine w_cb ?_
    refine w_cons ?_
    refine w_var rfl ?_
    refine w_nil ?_
    refine ⟨_, 2, rfl, .inr ⟨_, ha, rfl⟩, ?_⟩
    refine w_C ?_
    refine w_neSame rfl ?_
    walk_at "v"
    refine w_gtup2 ha ?_
    walk_at "v"
    refine ⟨x, u, ds, b.1, rfl, hx, hu, b1, hd, fun H1 s1 => ?_⟩
    walk_at "v"
    refine iteF ?_
    walk_at "v"
    refine ⟨x, v, ds, b.2, rfl, hx.same s1, hv.same s1, b2, hd, fun H2 s2 => ?_⟩
    walk_at "v"
    refine iteF ?_
    walk_at "v"
    refine w_tup ?_
    walk_at "v"
    rename_i t ht
    obtain ⟨vb, rfl, hvb⟩ := hv
    obtain ⟨ub, rfl, hub⟩ := hu
    have s3 : Same H2 (upd H2 t (.tup [])) := same_upd (Same.refl _) ht
    refine w_neE (Same.sqT ((s1.trans s2).trans s3) hvb) (SqT.of upd_same) ?_
    have hne : (!(b.2.map V.str).isEmpty) = true := by
      cases hb2 : b.2 with
      | nil => exact absurd hb2 b3
      | cons _ _ => rfl
    rw [hne]
    generalize hH3 : upd H2 t (.tup []) = H3 at s3
    have s13 := (s1.trans s2).trans s3
    have hvb3 := Same.sqT s13 hvb
    have hub3 := Same.sqT s13 hub
    have lb := b2.length_le
    obtain ⟨hd1, hd2, hd3, hd4⟩ := hd
    refine ⟨_, rfl, iteT ?_⟩
    walk_at "v"
    refine w_lcTF (fun _ => true) (fun x => .bl (inV x (b.1.map V.str))) (fun R k => ⟨_, rfl, k⟩) hvb3 (by rw [List.length_map]; omega) (fun _ => rfl) (fun x H' R hx s k => k) ?_ ?_
    · intro x H' R hx s k
      obtain ⟨d, _, rfl⟩ := List.mem_map.mp hx
      walk_at "v"
      exact ⟨ub, b.1.map V.str, rfl, .inr (Same.sqT s hub3), rfl, flat_strs b.1, k⟩
    · intro D H' hD s e
      walk_at "v"
      refine ⟨D, b.2.map fun d => decide (d ∈ b.1), rfl, SqL.of (e.trans ?_), ?_⟩
      · rw [List.filter_eq_self.mpr fun _ _ => rfl, List.map_map, List.map_map]
        exact congrArg (fun z => some (HO.lst z)) (List.map_congr_left fun d _ => congrArg V.bl inV_str)
      · have hno : ((b.2.map fun d => decide (d ∈ b.1)).any id) = false := by
          rw [List.any_map, List.any_eq_false]
          intro d hd
          simpa using b4 d hd
        rw [hno]
        exact ⟨_, rfl, go H' (s13.trans s)⟩
end

/-- where the value is a tuple of bundles -/
def spAreBundles (K : PySem.W.Frag) : Sp := fun vs H Q _ => ∃ (x y : V) (ds : List Str) (bs : List Bun), vs = [x, y] ∧ LotAt K H x ds ∧ BunsAt K H y bs ∧ RowsOf ds bs ∧ Devs ds ∧ bs.length ≤ 64 ∧ ∀ H', Same H H' → Q (.bl true) H'
section
variable {P : Program} {w : World} {K : PySem.W.Frag} {mg : Str → Option Value} {base : Heap}
theorem ok_are_bundles (F : FunAt K mg "are_bundles" sare_bundles) (T : Txt mg) (M : ∃ t, mg "MOST_BUNDLES" = some (.int 64 t)) (Dis_bundle : Def P w K mg base 2 "is_bundle" Pis_bundle (spIsBundle K)) : Def P w K mg base 3 "are_bundles" Pare_bundles (spAreBundles K) := by
  obtain ⟨t64, h64⟩ := M
  refine def_of F scare_bundles bsare_bundles (fun vs H Q E h => ?_) fun f cdv A outer s H vs Q E hr h => ?_
  · obtain ⟨x, y, ds, l, rfl, _⟩ := h
    rfl
  · refine ⟨_, (pss_cons (ps_if (PW.pt (pw_or (pt_not (pt_val (pe_callB call_isi (by rfl) T.n_isinstance (by decide +kernel) (pa_cons (pv 1) (pa_cons (pe_bltn (v := .ty "tuple") (by rfl) T.n_tuple (by decide +kernel) rfl) pa_nil))))) (pw_or1 (pt_cmpR op_gt (pe_callB call_len (by rfl) T.n_len PySem.boot_len (pa_cons (pv 1) pa_nil)) (pe_glob (v := .int 64) (by rfl) h64 ⟨_, rfl⟩) (nomark _))))) (pss_one (ps_ret pe_bl)) pss_nil)
  (pss_one (ps_ret (pe_callB (cr_all rfl) (by rfl) T.n_all (by decide +kernel) (pa_cons (pe_lc (own := [("bundle", 2)]) (g := (gName 2)) (tt := tYes) rfl scare_bundles.nd (pi_tup (pv 1)) (blkOk_by (N := Nare_bundles) (sc := defScope sare_bundles) (by decide +kernel)) (fun _ _ _ _ _ => (pg_name (i := 2) scare_bundles.nd rfl (by first | exact Or.inl rfl | exact Or.inr rfl))) (fun _ _ _ _ _ => pts_nil) (fun _ _ _ _ _ => (pe_d Dis_bundle (hr.mono (by omega)) (pa_cons (pv 0) (pa_cons (pv 2) pa_nil))))) pa_nil))))), ?_⟩
    obtain ⟨x, y, ds, bs, rfl, hx, ⟨a, xs, rfl, ha, hp⟩, hb, hd, hz, go⟩ := h
    have hlen := Paired.length hp
    obtain ⟨dd, hdd⟩ : ∃ dd, Dq K 0 H (.ref a) (.tuple dd) := by
      have key : ∀ {xs : List V} {bs : List Bun}, Paired (BunAt K H) xs bs → ∃ dd, DqA K 0 H xs dd := by
        intro xs bs hp
        induction hp with
        | nil => exact ⟨[], .nil⟩
        | cons h1 h2 ih =>
          obtain ⟨dd, h3⟩ := ih
          obtain ⟨c, u, v, rfl, hc, hu, hv⟩ := h1
          exact ⟨_, .cons (.tup hc (.cons (lot_dq 0 hu) (.cons (lot_dq 0 hv) .nil))) h3⟩
      obtain ⟨dd, h⟩ := key hp
      exact ⟨dd, .tup ha h⟩
    walk_at "v"
    refine w_isT true hdd (by kernel_rfl) ?_
    walk_at "v"
    refine iteF ?_
    refine w_test ?_
    refine w_op ?_
    refine w_cb ?_
    refine w_cons ?_
    refine w_var rfl ?_
    refine w_nil ?_
    refine ⟨_, xs.length, rfl, .inr ⟨_, ha, rfl⟩, ?_⟩
    refine w_C ?_
    refine w_I0 ?_
    rw [decide_eq_false (show ¬ (64 : Int) < (xs.length : Nat) by omega)]
    walk_at "v"
    refine w_lcTup (K := K) (a := a) (xs := xs) (fun _ y _ => y = .bl true) (fun _ _ _ _ h _ => h) (fun h k => h _ _ k) ha (by omega) (fun R k => ⟨_, rfl, k⟩) (fun _ _ _ _ _ _ h _ _ => h) ?_ ?_
    · intro n v H' R hv s k
      obtain ⟨b, hbn, hbun⟩ := Paired.at hp hv
      refine ⟨rfl, ?_⟩
      walk_at "v"
      exact ⟨x, v, ds, b, rfl, hx.same s, hbun.same s, fun c hc => by rw [List.mem_singleton.mp hc]; exact hb b (List.mem_of_getElem? hbn), hd, fun H2 s2 => k _ _ s2 rfl⟩
    · intro D H' ys hD s e hl hF
      have er : ys = (List.replicate ys.length true).map V.bl := by
        rw [List.map_replicate]
        exact List.eq_replicate_iff.mpr ⟨rfl, fun y hy => by
          obtain ⟨n, hn⟩ := List.getElem?_of_mem hy
          exact hF n y hn⟩
      walk_at "v"
      refine ⟨D, List.replicate ys.length true, rfl, SqL.of (by rw [← er]; exact e), ?_⟩
      have et : (List.replicate ys.length true).all id = true := by
        rw [List.all_eq_true]
        intro b hb
        exact List.eq_of_mem_replicate hb
      rw [et]
      exact go H' s
end

def letters26 : Str := "abcdefghijklmnopqrstuvwxyz"
/-- what a name is -/
def nameOk (z : Str) : Bool := decide (1 ≤ z.length) && decide (z.length ≤ 8) && z.cps.toList.all fun c => decide (c ∈ letters26.cps.toList)
theorem pool_names : ∀ d ∈ pool17, nameOk d = true := by decide +kernel
def spIsName : Sp := fun vs H Q _ => ∃ z : Str, vs = [.str z] ∧ z.length ≤ 100000 ∧ ∀ H', Same H H' → Q (.bl (nameOk z)) H'
theorem w_chain {r r' : R2} {ta tb tc : TE} {σ : L2.St} {H : Hp} {Q : VK} (k : ta σ H fun x H1 => tb σ H1 fun y H2 => r x y H2 fun z H3 => ∃ k, z = .bl k ∧ (if k = true then tc σ H3 fun w' H4 => r' y w' H4 Q else Q (.bl false) H3)) : tChain r r' ta tb tc σ H Q := k
section
variable {K : PySem.W.Frag} {σ : L2.St} {H1 : Hp}
/-- [c(x) for x in z], z a text, the items of True and False -/
theorem w_lcStr {i : Nat} {ti : TE} {z : Str} {te : TE} {vs : List Nat} {Q : VK} (c : Nat → Bool) (hi : ∀ R : VK, R (.str z) H1 → ti σ H1 R) (hn : z.cps.size ≤ 100000)
    (hw : ∀ x, wipe ((wipe σ vs).set i (some x)) vs = wipe σ vs)
    (he : ∀ k H' (R : VK), Same H1 H' → R (.bl (c k)) H' → te ((wipe σ vs).set i (some (.str ⟨#[k]⟩))) H' R)
    (go : ∀ D H', H1 D = none → Same H1 H' → H' D = some (.lst ((z.cps.toList.map c).map V.bl)) → Q (.ref D) H') :
    tLc (iStr ti) (gName i) tYes te vs σ H1 Q := by
  refine hi _ ⟨z, rfl, fun D hD => ?_⟩
  refine lc_it walk_str (fun n H' => Same H1 H' ∧ H' D = some (.lst (((z.cps.toList.take n).map c).map V.bl))) ⟨Same.upd2 (Same.refl _) hD, upd_same⟩ (fun _ _ _ _ => trivial) ?_ ?_
  · rintro n x H H' hlt ⟨s, e⟩ ⟨rfl, k, hk, rfl⟩
    have ek : z.cps.toList[n]? = some k := by rw [Array.getElem?_toList]; exact hk
    have et : z.cps.toList.take (n + 1) = z.cps.toList.take n ++ [k] := by rw [List.take_succ, ek]; rfl
    refine ⟨hw _, iteT (B := Same H1 H' ∧ H' D = some (.lst (((z.cps.toList.take (n + 1)).map c).map V.bl))) (he k H' _ s ⟨_, e, ?_, Same.upd2 s hD, ?_⟩)⟩
    · rw [List.length_map, List.length_map, List.length_take, sizeLine_eq]
      omega
    · rw [upd_same, et, List.map_append, List.map_append]
      rfl
  · rintro H' ⟨s, e⟩
    rw [List.take_of_length_le (by simp)] at e
    exact go D H' hD s e
end
section
variable {P : Program} {w : World} {K : PySem.W.Frag} {mg : Str → Option Value} {base : Heap}
theorem ok_is_name (F : FunAt K mg "is_name" sis_name) (T : Txt mg) (M8 : ∃ t, mg "MOST_LETTERS" = some (.int 8 t)) (ML : ∃ t, mg "LETTERS" = some (.str letters26 t)) : Def P w K mg base 1 "is_name" Pis_name spIsName := by
  obtain ⟨t8, h8⟩ := M8
  obtain ⟨tL, hL⟩ := ML
  refine def_of F scis_name bsis_name (fun vs H Q E h => ?_) fun f cdv A outer s H vs Q E hr h => ?_
  · obtain ⟨z, rfl, _⟩ := h
    rfl
  · refine ⟨_, (pss_cons (ps_if (PW.pt (pw_or (pt_not (pt_val (pe_callB call_isi (by rfl) T.n_isinstance (by decide +kernel) (pa_cons (pv 0) (pa_cons (pe_bltn (v := .ty "str") (by rfl) T.n_str (by decide +kernel) rfl) pa_nil))))) (pw_or1 (pt_not (pt_chain op_le op_le pe_int (pe_callB call_len (by rfl) T.n_len PySem.boot_len (pa_cons (pv 0) pa_nil)) (pe_glob (v := .int 8) (by rfl) h8 ⟨_, rfl⟩)))))) (pss_one (ps_ret pe_bl)) pss_nil)
  (pss_one (ps_ret (pe_callB (cr_all rfl) (by rfl) T.n_all (by decide +kernel) (pa_cons (pe_lc (own := [("letter", 1)]) (g := (gName 1)) (tt := tYes) rfl scis_name.nd (pi_str (pv 0)) (blkOk_by (N := Nis_name) (sc := defScope sis_name) (by decide +kernel)) (fun _ _ _ _ _ => (pg_name (i := 1) scis_name.nd rfl (by first | exact Or.inl rfl | exact Or.inr rfl))) (fun _ _ _ _ _ => pts_nil) (fun _ _ _ _ _ => (pe_cmpR op_in_sign (pv 1) (pe_glob (v := .str letters26) (by rfl) hL ⟨_, rfl⟩) (by rfl)))) pa_nil))))), ?_⟩
    obtain ⟨z, rfl, hz, go⟩ := h
    walk_at "v"
    refine w_isT true (Dq.str (q := 0) z) (by kernel_rfl) ?_
    walk_at "v"
    refine iteF ?_
    walk_at "v"
    refine w_chain ?_
    walk_at "v"
    refine ⟨_, z.length, rfl, ⟨by rw [sizeLine_eq]; omega, rfl⟩, ?_⟩
    refine w_I0 ?_
    refine ⟨_, rfl, ?_⟩
    have e1 : decide ((1 : Int) ≤ (z.length : Nat)) = decide (1 ≤ z.length) := by
      by_cases h : 1 ≤ z.length
      · rw [decide_eq_true h, decide_eq_true (by omega)]
      · rw [decide_eq_false h, decide_eq_false (by omega)]
    have e2 : decide (((z.length : Nat) : Int) ≤ 8) = decide (z.length ≤ 8) := by
      by_cases h : z.length ≤ 8
      · rw [decide_eq_true h, decide_eq_true (by omega)]
      · rw [decide_eq_false h, decide_eq_false (by omega)]
    have ret : ∀ {H' : Hp}, Same H H' → Q (.bl (nameOk z)) H' := fun {H'} s => go H' s
    unfold nameOk at ret
    rw [e1]
    cases h1 : decide (1 ≤ z.length) with
    | false =>
      refine iteF ⟨_, rfl, iteT ?_⟩
      walk_at "v"
      rw [h1] at ret
      exact ret (Same.refl _)
    | true =>
      refine iteT ?_
      walk_at "v"
      rw [e2]
      cases h2 : decide (z.length ≤ 8) with
      | false =>
        refine iteT ?_
        walk_at "v"
        rw [h1, h2] at ret
        exact ret (Same.refl _)
      | true =>
        rw [h1, h2] at ret
        refine iteF ?_
        walk_at "v"
        refine w_lcStr (fun c => decide (c ∈ letters26.cps.toList)) (fun R k => ⟨_, rfl, k⟩) (by have := hz; exact this) (fun _ => rfl) ?_ ?_
        · intro k H' R s h
          walk_at "v"
          exact ⟨k, letters26, rfl, rfl, h⟩
        · intro D H' hD s e
          walk_at "v"
          refine ⟨D, _, rfl, SqL.of e, ?_⟩
          rw [List.all_map]
          exact ret s
end

def spAreDevices (K : PySem.W.Frag) : Sp := fun vs H Q _ => ∃ (x : V) (ds : List Str), vs = [x] ∧ LotAt K H x ds ∧ Devs ds ∧ ∀ H', Same H H' → Q (.bl true) H'
def spNeedLot (K : PySem.W.Frag) : Sp := fun vs H Q _ => ∃ (x y : V) (ds l : List Str), vs = [x, y] ∧ LotAt K H x ds ∧ LotAt K H y l ∧ l.Sublist ds ∧ Devs ds ∧ ∀ H', Same H H' → Q .non H'
theorem nameOk_len {z : Str} (h : nameOk z = true) : z.length ≤ 8 := by
  unfold nameOk at h
  simp only [Bool.and_eq_true, decide_eq_true_eq] at h
  exact h.1.2
section
variable {P : Program} {w : World} {K : PySem.W.Frag} {mg : Str → Option Value} {base : Heap}
theorem ok_are_devices (F : FunAt K mg "are_devices" sare_devices) (T : Txt mg) (M6 : ∃ t, mg "MOST_DEVICES" = some (.int 6 t)) (Dis_name : Def P w K mg base 1 "is_name" Pis_name spIsName) : Def P w K mg base 2 "are_devices" Pare_devices (spAreDevices K) := by
  obtain ⟨t6, h6⟩ := M6
  refine def_of F scare_devices bsare_devices (fun vs H Q E h => ?_) fun f cdv A outer s H vs Q E hr h => ?_
  · obtain ⟨z, ds, rfl, _⟩ := h
    rfl
  · refine ⟨_, (pss_cons (ps_if (PW.pt (pw_or (pt_not (pt_val (pe_callB call_isi (by rfl) T.n_isinstance (by decide +kernel) (pa_cons (pv 0) (pa_cons (pe_bltn (v := .ty "tuple") (by rfl) T.n_tuple (by decide +kernel) rfl) pa_nil))))) (pw_or1 (pt_not (pt_chain op_le op_le pe_int (pe_callB call_len (by rfl) T.n_len PySem.boot_len (pa_cons (pv 0) pa_nil)) (pe_glob (v := .int 6) (by rfl) h6 ⟨_, rfl⟩)))))) (pss_one (ps_ret pe_bl)) pss_nil)
  (pss_one (ps_ret (pe_and (pe_callB (cr_all rfl) (by rfl) T.n_all (by decide +kernel) (pa_cons (pe_lc (own := [("name", 1)]) (g := (gName 1)) (tt := tYes) rfl scare_devices.nd (pi_tup (pv 0)) (blkOk_by (N := Nare_devices) (sc := defScope sare_devices) (by decide +kernel)) (fun _ _ _ _ _ => (pg_name (i := 1) scare_devices.nd rfl (by first | exact Or.inl rfl | exact Or.inr rfl))) (fun _ _ _ _ _ => pts_nil) (fun _ _ _ _ _ => (pe_d Dis_name (hr.mono (by omega)) (pa_cons (pv 1) pa_nil)))) pa_nil)) (pe_one (pe_cmpR op_eq (pe_lenTx rfl (by rfl) T.n_len (by rfl) T.n_set (pv 0)) (pe_callB call_len (by rfl) T.n_len PySem.boot_len (pa_cons (pv 0) pa_nil)) (nomark _))))))), ?_⟩
    obtain ⟨x, ds, rfl, hx, hd, go⟩ := h
    obtain ⟨a, rfl, ha⟩ := id hx
    obtain ⟨hd1, hd2, hd3, hd4⟩ := id hd
    walk_at "v"
    refine w_isT true (lot_dq 0 hx) (by kernel_rfl) ?_
    walk_at "v"
    refine iteF ?_
    walk_at "v"
    refine w_chain ?_
    walk_at "v"
    refine ⟨_, _, rfl, .inr ⟨_, ha, rfl⟩, ?_⟩
    have e1 : decide ((1 : Int) ≤ ((ds.map V.str).length : Nat)) = true := by rw [List.length_map]; exact decide_eq_true (by omega)
    have e2 : decide ((((ds.map V.str).length : Nat) : Int) ≤ 6) = true := by rw [List.length_map]; exact decide_eq_true (by omega)
    refine w_I0 ⟨_, rfl, ?_⟩
    rw [e1]
    refine iteT ?_
    refine w_C ?_
    refine w_I0 ⟨_, rfl, ?_⟩
    rw [e2]
    refine iteF ?_
    walk_at "v"
    refine w_lcTup (K := K) (a := a) (xs := ds.map V.str) (fun _ y _ => y = .bl true) (fun _ _ _ _ h _ => h) (fun h k => h _ _ k) ha (by rw [List.length_map]; omega) (fun R k => ⟨_, rfl, k⟩) (fun _ _ _ _ _ _ h _ _ => h) ?_ ?_
    · intro n v H' R hv s k
      obtain ⟨d, hdn, rfl⟩ := get_str hv
      have hok := pool_names d (hd4 d (List.mem_of_getElem? hdn))
      refine ⟨rfl, ?_⟩
      walk_at "v"
      refine ⟨d, rfl, by have := nameOk_len hok; omega, fun H2 s2 => ?_⟩
      rw [hok]
      exact k _ _ s2 rfl
    · intro D H' ys hD s e hl hF
      have er : ys = (List.replicate ys.length true).map V.bl := by
        rw [List.map_replicate]
        exact List.eq_replicate_iff.mpr ⟨rfl, fun y hy => by
          obtain ⟨n, hn⟩ := List.getElem?_of_mem hy
          exact hF n y hn⟩
      walk_at "v"
      refine ⟨D, List.replicate ys.length true, rfl, SqL.of (by rw [← er]; exact e), ?_⟩
      have et : (List.replicate ys.length true).all id = true := by
        rw [List.all_eq_true]
        intro b hb
        exact List.eq_of_mem_replicate hb
      rw [et]
      have ha' := Same.sqT s ha
      refine ⟨_, rfl, iteT ?_⟩
      refine w_op ?_
      refine w_lenTx ?_
      walk_at "v"
      refine ⟨a, ds, rfl, ha', by omega, ?_⟩
      refine w_cb ?_
      refine w_cons ?_
      refine w_var rfl ?_
      refine w_nil ?_
      refine ⟨_, _, rfl, .inr ⟨_, ha', rfl⟩, ?_⟩
      have ed : dct ds ds.length = ds.length := (dct_full (Nat.le_refl _)).mpr (by rw [List.take_length]; exact hd3)
      rw [List.length_map, ed]
      refine w_eqSame rfl ?_
      exact go H' s
theorem ok_need_lot (F : FunAt K mg "need_lot" sneed_lot) (T : Txt mg) (Dis_lot : Def P w K mg base 1 "is_lot" Pis_lot (spIsLot K)) : Def P w K mg base 2 "need_lot" Pneed_lot (spNeedLot K) := by
  refine def_of F scneed_lot bsneed_lot (fun vs H Q E h => ?_) fun f cdv A outer s H vs Q E hr h => ?_
  · obtain ⟨x, y, ds, l, rfl, _⟩ := h
    rfl
  · refine ⟨_, (pss_one (ps_if (pt_not (pt_val (pe_d Dis_lot (hr.mono (by omega)) (pa_cons (pv 0) (pa_cons (pv 1) pa_nil))))) (pss_one ps_never) pss_nil)), ?_⟩
    obtain ⟨x, y, ds, l, rfl, hx, hy, hs, hd, go⟩ := h
    walk_at "v"
    refine ⟨x, y, ds, l, rfl, hx, hy, hs, hd, fun H1 s1 => ?_⟩
    walk_at "v"
    refine iteF ?_
    walk_at "v"
    exact go H1 s1
end

abbrev sRules_init : Stmt := inClass (top 36) 0
abbrev NRules_init : List Str := ["self", "devices", "bundles"]
abbrev PRules_init : List Str := ["self", "devices", "bundles"]
theorem scRules_init : FnScope NRules_init PRules_init (defScope sRules_init) := ⟨rfl, rfl, rfl, by decide +kernel, rfl, by decide +kernel, by decide +kernel⟩
abbrev sRules_rest : Stmt := inClass (top 36) 1
abbrev NRules_rest : List Str := ["self", "lot"]
abbrev PRules_rest : List Str := ["self", "lot"]
theorem scRules_rest : FnScope NRules_rest PRules_rest (defScope sRules_rest) := ⟨rfl, rfl, rfl, by decide +kernel, rfl, by decide +kernel, by decide +kernel⟩
abbrev sRules_stays : Stmt := inClass (top 36) 2
abbrev NRules_stays : List Str := ["self", "lot"]
abbrev PRules_stays : List Str := ["self", "lot"]
theorem scRules_stays : FnScope NRules_stays PRules_stays (defScope sRules_stays) := ⟨rfl, rfl, rfl, by decide +kernel, rfl, by decide +kernel, by decide +kernel⟩
abbrev sRules_len : Stmt := inClass (top 36) 4
abbrev NRules_len : List Str := ["self"]
abbrev PRules_len : List Str := ["self"]
theorem scRules_len : FnScope NRules_len PRules_len (defScope sRules_len) := ⟨rfl, rfl, rfl, by decide +kernel, rfl, by decide +kernel, by decide +kernel⟩
/-- the attributes of Rules, in the order in which they are stored -/
def rflds (x y z r : V) : List (Str × V) := putF "rests" r (putF "_ends" z (putF "bundles" y (putF "devices" x [])))
theorem rf_d (x y z r : V) : (rflds x y z r).lookup ("devices" : Str) = some x := by
  simp only [rflds, lookup_putF]
  rw [if_neg (by decide +kernel), if_neg (by decide +kernel), if_neg (by decide +kernel), if_pos True.intro]
theorem rf_b (x y z r : V) : (rflds x y z r).lookup ("bundles" : Str) = some y := by
  simp only [rflds, lookup_putF]
  rw [if_neg (by decide +kernel), if_neg (by decide +kernel), if_pos True.intro]
theorem rf_e (x y z r : V) : (rflds x y z r).lookup ("_ends" : Str) = some z := by
  simp only [rflds, lookup_putF]
  rw [if_neg (by decide +kernel), if_pos True.intro]
theorem rf_r (x y z r : V) : (rflds x y z r).lookup ("rests" : Str) = some r := by
  simp only [rflds, lookup_putF]
  rw [if_pos True.intro]
theorem rf_no (x y z r : V) {m : Str} (h1 : ¬ m = "devices") (h2 : ¬ m = "bundles") (h3 : ¬ m = "_ends") (h4 : ¬ m = "rests") : (rflds x y z r).lookup m = none := by
  simp only [rflds, lookup_putF]
  rw [if_neg h4, if_neg h3, if_neg h2, if_neg h1]
  rfl
/-- what the class Rules is, as the top has made it -/
structure RCls (K : PySem.W.Frag) (C : Addr) : Prop where
  cl : Cls K C
  nD : NoAttr K C "devices"
  nB : NoAttr K C "bundles"
  nE : NoAttr K C "_ends"
  nR : NoAttr K C "rests"
/-- Rules of these devices and bundles stand at p -/
def RulesAt (K : PySem.W.Frag) (C : Addr) (H : Hp) (p : Addr) (ds : List Str) (bs : List Bun) : Prop := ∃ dx x y z r es, H p = some (.ins C dx (rflds x y z r)) ∧ LotAt K H x ds ∧ BunsAt K H y bs ∧ IntsT K H z es ∧ EndsOf ds.length (stepsOf ds bs) es ∧ LotsT K H r (sortTS (restsN ds es 0))
theorem IntsT.same {K : PySem.W.Frag} {H H' : Hp} {x : V} {es : List Nat} (h : IntsT K H x es) (s : Same H H') : IntsT K H' x es := by
  obtain ⟨a, e, h⟩ := h
  exact ⟨a, e, Same.sqT s h⟩
theorem RulesAt.same {K : PySem.W.Frag} {C : Addr} {H H' : Hp} {p : Addr} {ds : List Str} {bs : List Bun} (h : RulesAt K C H p ds bs) (s : Same H H') : RulesAt K C H' p ds bs := by
  obtain ⟨dx, x, y, z, r, es, h1, h2, h3, h4, h5, h6⟩ := h
  exact ⟨dx, x, y, z, r, es, s _ _ h1, h2.same s, h3.same s, h4.same s, h5, h6.same s⟩
def spRInit (K : PySem.W.Frag) (C : Addr) : Sp := fun vs H Q _ => ∃ (p dx : Addr) (x y : V) (ds : List Str) (bs : List Bun), vs = [.ref p, x, y] ∧ H p = some (.ins C dx []) ∧ LotAt K H x ds ∧ BunsAt K H y bs ∧ Devs ds ∧ RowsOf ds bs ∧ bs.length ≤ 64 ∧
  ∀ H', (∀ b o, H b = some o → b ≠ p → H' b = some o) → RulesAt K C H' p ds bs → Q .non H'
theorem sqT_ne {K : PySem.W.Frag} {H H' : Hp} {p a : Addr} {C dx : Addr} {fs : List (Str × V)} {xs : List V} (hp : H p = some (.ins C dx fs)) (k : ∀ b o, H b = some o → b ≠ p → H' b = some o) (h : SqT K H a xs) : SqT K H' a xs := by
  rcases h with (h | ⟨o, h⟩) | h
  · exact .inl (.inl (k _ _ h fun e => by rw [e, hp] at h; cases h))
  · exact .inl (.inr ⟨o, k _ _ h fun e => by rw [e, hp] at h; cases h⟩)
  · exact .inr h
theorem lotAt_ne {K : PySem.W.Frag} {H H' : Hp} {p : Addr} {C dx : Addr} {fs : List (Str × V)} {x : V} {l : List Str} (hp : H p = some (.ins C dx fs)) (k : ∀ b o, H b = some o → b ≠ p → H' b = some o) (h : LotAt K H x l) : LotAt K H' x l := by
  obtain ⟨a, e, h⟩ := h
  exact ⟨a, e, sqT_ne hp k h⟩
theorem bunsAt_ne {K : PySem.W.Frag} {H H' : Hp} {p : Addr} {C dx : Addr} {fs : List (Str × V)} {x : V} {l : List Bun} (hp : H p = some (.ins C dx fs)) (k : ∀ b o, H b = some o → b ≠ p → H' b = some o) (h : BunsAt K H x l) : BunsAt K H' x l := by
  obtain ⟨a, xs, e, h1, h2⟩ := h
  exact ⟨a, xs, e, sqT_ne hp k h1, Paired.mapP h2 fun v b ⟨t, y, z, e, h1, h2, h3⟩ => ⟨t, y, z, e, sqT_ne hp k h1, lotAt_ne hp k h2, lotAt_ne hp k h3⟩⟩
section
variable {P : Program} {w : World} {K : PySem.W.Frag} {mg : Str → Option Value} {base : Heap}
theorem ok_Rules_init {f C a0 : Addr} {fd : FuncData} (F : FunD K "__init__" "Rules.__init__" (defArgs sRules_init) (defBody sRules_init) (defScope sRules_init) [.ref a0] [] f fd) (R : RCls K C) (Dare_devices : Def P w K mg base 2 "are_devices" Pare_devices (spAreDevices K)) (Dare_bundles : Def P w K mg base 3 "are_bundles" Pare_bundles (spAreBundles K))
    (Dends_of : Def P w K mg base 3 "ends_of" Pends_of (spEndsOf K)) (Drests_of : Def P w K mg base 3 "rests_of" Prests_of (spRestsOf K)) : FnOk P w K mg base CX0 4 f fd PRules_init (spRInit K C) := by
  refine F.ok scRules_init (fun vs H Q E h => ?_) fun cdv A outer s H vs Q E hr h => ?_
  · obtain ⟨p, dx, x, y, ds, bs, rfl, _⟩ := h
    rfl
  · refine ⟨_, (pss_cons (ps_if (pt_not (pt_val (pe_d Dare_devices (hr.mono (by omega)) (pa_cons (pv 1) pa_nil)))) (pss_one ps_never) pss_nil)
  (pss_cons (ps_if (pt_not (pt_val (pe_d Dare_bundles (hr.mono (by omega)) (pa_cons (pv 1) (pa_cons (pv 2) pa_nil))))) (pss_one ps_never) pss_nil)
  (pss_cons (ps_fld (pv 0) (pv 1) rfl)
  (pss_cons (ps_fld (pv 0) (pv 2) rfl)
  (pss_cons (ps_fld (pv 0) (pe_d Dends_of (hr.mono (by omega)) (pa_cons (pv 1) (pa_cons (pv 2) pa_nil))) rfl)
  (pss_one (ps_fld (pv 0) (pe_d Drests_of (hr.mono (by omega)) (pa_cons (pv 1) (pa_cons (pe_fld (pv 0) rfl) pa_nil))) rfl))))))), ?_⟩
    obtain ⟨p, dx, x, y, ds, bs, rfl, hp, hx, hy, hd, hb, hz, go⟩ := h
    walk_at "v"
    refine ⟨x, ds, rfl, hx, hd, fun H1 s1 => ?_⟩
    walk_at "v"
    refine iteF ?_
    walk_at "v"
    refine ⟨x, y, ds, bs, rfl, hx.same s1, hy.same s1, hb, hd, hz, fun H2 s2 => ?_⟩
    walk_at "v"
    refine iteF ?_
    have s12 := s1.trans s2
    have hp2 := s12 _ _ hp
    have hx2 := hx.same s12
    have hy2 := hy.same s12
    walk_at "v"
    refine w_sfld ?_
    walk_at "v"
    refine ⟨p, C, dx, [], rfl, hp2, R.cl, R.nD, by decide, ?_⟩
    have k3 : ∀ b o, H2 b = some o → b ≠ p → (upd H2 p (.ins C dx (putF "devices" x []))) b = some o := fun b o e hb => by rw [upd_ne hb]; exact e
    have hx3 := lotAt_ne hp2 k3 hx2
    have hy3 := bunsAt_ne hp2 k3 hy2
    have hp3 : (upd H2 p (.ins C dx (putF "devices" x []))) p = some (.ins C dx (putF "devices" x [])) := upd_same
    generalize upd H2 p (.ins C dx (putF "devices" x [])) = H3 at k3 hx3 hy3 hp3 ⊢
    walk_at "v"
    refine w_sfld ?_
    walk_at "v"
    refine ⟨p, C, dx, _, rfl, hp3, R.cl, R.nB, by show 1 < 1000; decide, ?_⟩
    have k4 : ∀ b o, H3 b = some o → b ≠ p → (upd H3 p (.ins C dx (putF "bundles" y (putF "devices" x [])))) b = some o := fun b o e hb => by rw [upd_ne hb]; exact e
    have hx4 := lotAt_ne hp3 k4 hx3
    have hy4 := bunsAt_ne hp3 k4 hy3
    have hp4 : (upd H3 p (.ins C dx (putF "bundles" y (putF "devices" x [])))) p = some (.ins C dx (putF "bundles" y (putF "devices" x []))) := upd_same
    generalize upd H3 p (.ins C dx (putF "bundles" y (putF "devices" x []))) = H4 at k4 hx4 hy4 hp4 ⊢
    obtain ⟨hd1, hd2, hd3, hd4⟩ := id hd
    walk_at "v"
    refine w_sfld ?_
    walk_at "v"
    refine ⟨x, y, ds, bs, rfl, hx4, hy4, hd2, by omega, fun H5 z es s5 hz5 hes => ?_⟩
    walk_at "v"
    have hp5 := s5 _ _ hp4
    have hx5 := hx4.same s5
    have hy5 := hy4.same s5
    refine ⟨p, C, dx, _, rfl, hp5, R.cl, R.nE, by show 2 < 1000; decide, ?_⟩
    have k6 : ∀ b o, H5 b = some o → b ≠ p → (upd H5 p (.ins C dx (putF "_ends" z (putF "bundles" y (putF "devices" x []))))) b = some o := fun b o e hb => by rw [upd_ne hb]; exact e
    have hx6 := lotAt_ne hp5 k6 hx5
    have hy6 := bunsAt_ne hp5 k6 hy5
    have hz6 : IntsT K (upd H5 p (.ins C dx (putF "_ends" z (putF "bundles" y (putF "devices" x []))))) z es := by
      obtain ⟨a, e, h⟩ := hz5
      exact ⟨a, e, sqT_ne hp5 k6 h⟩
    have hp6 : (upd H5 p (.ins C dx (putF "_ends" z (putF "bundles" y (putF "devices" x []))))) p = some (.ins C dx (putF "_ends" z (putF "bundles" y (putF "devices" x [])))) := upd_same
    generalize upd H5 p (.ins C dx (putF "_ends" z (putF "bundles" y (putF "devices" x [])))) = H6 at k6 hx6 hy6 hz6 hp6 ⊢
    dsimp only
    walk_at "v"
    refine w_sfld ?_
    walk_at "v"
    refine w_fld ?_
    walk_at "v"
    refine ⟨p, C, dx, _, z, rfl, hp6, R.cl, R.nE, by rw [lookup_putF, if_pos rfl], ?_⟩
    walk_at "v"
    have hle : es.length ≤ 100000 := by
      rw [hes.1]
      exact Nat.le_trans (Nat.pow_le_pow_right (by decide) hd2) (by decide)
    refine ⟨x, z, ds, es, rfl, hx6, hz6, by omega, hle, fun H7 r s7 hr7 => ?_⟩
    walk_at "v"
    have hp7 := s7 _ _ hp6
    have hx7 := hx6.same s7
    have hy7 := hy6.same s7
    have hz7 := hz6.same s7
    refine ⟨p, C, dx, _, rfl, hp7, R.cl, R.nR, by show 3 < 1000; decide, ?_⟩
    have k8 : ∀ b o, H7 b = some o → b ≠ p → (upd H7 p (.ins C dx (rflds x y z r))) b = some o := fun b o e hb => by rw [upd_ne hb]; exact e
    refine go _ (fun b o e hb => k8 b o (s7 _ _ (k6 b o (s5 _ _ (k4 b o (k3 b o (s12 _ _ e) hb) hb)) hb)) hb) ⟨dx, x, y, z, r, es, upd_same, lotAt_ne hp7 k8 hx7, bunsAt_ne hp7 k8 hy7, ?_, hes, ?_⟩
    · obtain ⟨a, e, h⟩ := hz7
      exact ⟨a, e, sqT_ne hp7 k8 h⟩
    · obtain ⟨a, xs, e, h1, h2⟩ := hr7
      exact ⟨a, xs, e, sqT_ne hp7 k8 h1, Paired.mapP h2 fun v b h => lotAt_ne hp7 k8 h⟩
end

theorem eqv_strs : ∀ l m : List Str, PyData.eqvAll (l.map PyData.str) (m.map PyData.str) = decide (l = m)
  | [], [] => by simp [PyData.eqvAll]
  | [], b :: m => by simp [PyData.eqvAll]
  | a :: l, [] => by simp [PyData.eqvAll]
  | a :: l, b :: m => by
    simp only [List.map_cons, PyData.eqvAll, PyData.eqv, eqv_strs l m]
    by_cases h1 : a = b <;> by_cases h2 : l = m <;> simp [h1, h2]
theorem w_eqLots {K : PySem.W.Frag} {H : Hp} {x y : V} {l m : List Str} {Q : VK} (hl : ∀ d ∈ l, PyData.strOk d = true) (hm : ∀ d ∈ m, PyData.strOk d = true) (hx : LotAt K H x l) (hy : LotAt K H y m) (k : Q (.bl (decide (l = m))) H) : rEqD K x y H Q := by
  obtain ⟨a, rfl, ha⟩ := hx
  obtain ⟨b, rfl, hb⟩ := hy
  refine ⟨_, _, .tup ha (dp_strs l), .tup hb (dp_strs m), tup_shaped l hl, tup_shaped m hm, ?_⟩
  rw [PyData.eqv, eqv_strs]
  exact k
def spRRest (K : PySem.W.Frag) (C : Addr) : Sp := fun vs H Q _ => ∃ (p : Addr) (y : V) (ds l : List Str) (bs : List Bun), vs = [.ref p, y] ∧ RulesAt K C H p ds bs ∧ LotAt K H y l ∧ l.Sublist ds ∧ Devs ds ∧
  ∀ H' z e, Same H H' → IsEnd (stepsOf ds bs) (maskOf ds l) e → e < 2 ^ ds.length → LotAt K H' z (lotOf ds e) → Q z H'
def spRStays (K : PySem.W.Frag) (C : Addr) : Sp := fun vs H Q _ => ∃ (p : Addr) (y : V) (ds l : List Str) (bs : List Bun), vs = [.ref p, y] ∧ RulesAt K C H p ds bs ∧ LotAt K H y l ∧ l.Sublist ds ∧ Devs ds ∧
  ∀ H' e, Same H H' → IsEnd (stepsOf ds bs) (maskOf ds l) e → e < 2 ^ ds.length → Q (.bl (decide (lotOf ds e = l))) H'
def spRLen (K : PySem.W.Frag) (C : Addr) : Sp := fun vs H Q _ => ∃ (p : Addr) (ds : List Str) (bs : List Bun), vs = [.ref p] ∧ RulesAt K C H p ds bs ∧ bs.length ≤ 1000 ∧ Q (.int (bs.length : Nat)) H
section
variable {P : Program} {w : World} {K : PySem.W.Frag} {mg : Str → Option Value} {base : Heap}
theorem ok_Rules_rest {f C : Addr} {fd : FuncData} (F : Fun K "rest" "Rules.rest" sRules_rest f fd) (R : RCls K C) (Dneed_lot : Def P w K mg base 2 "need_lot" Pneed_lot (spNeedLot K)) (Dlot_of : Def P w K mg base 1 "lot_of" Plot_of (spLotOf K)) (Dmask_of : Def P w K mg base 1 "mask_of" Pmask_of (spMaskOf K)) : FnOk P w K mg base CX0 3 f fd PRules_rest (spRRest K C) := by
  refine F.ok scRules_rest (fun vs H Q E h => ?_) fun cdv A outer s H vs Q E hr h => ?_
  · obtain ⟨p, y, ds, l, bs, rfl, _⟩ := h
    rfl
  · refine ⟨_, (pss_cons (ps_expr (pe_d Dneed_lot (hr.mono (by omega)) (pa_cons (pe_fld (pv 0) rfl) (pa_cons (pv 1) pa_nil))))
  (pss_one (ps_ret (pe_d Dlot_of (hr.mono (by omega)) (pa_cons (pe_fld (pv 0) rfl) (pa_cons (pe_ix ix_tup (pe_fld (pv 0) rfl) (pe_d Dmask_of (hr.mono (by omega)) (pa_cons (pe_fld (pv 0) rfl) (pa_cons (pv 1) pa_nil))) (fun _ _ => rfl)) pa_nil)))))), ?_⟩
    obtain ⟨p, y, ds, l, bs, rfl, hR, hy, hs, hd, go⟩ := h
    obtain ⟨dx, x, z, e, r, es, hp, hx, hz, he, hes, hrs⟩ := hR
    obtain ⟨hd1, hd2, hd3, hd4⟩ := id hd
    walk_at "v"
    refine w_fld ?_
    walk_at "v"
    refine ⟨p, C, dx, _, x, rfl, hp, R.cl, R.nD, rf_d _ _ _ _, ?_⟩
    walk_at "v"
    refine ⟨x, y, ds, l, rfl, hx, hy, hs, hd, fun H1 s1 => ?_⟩
    have hp1 := s1 _ _ hp
    walk_at "v"
    refine w_fld ?_
    walk_at "v"
    refine ⟨p, C, dx, _, x, rfl, hp1, R.cl, R.nD, rf_d _ _ _ _, ?_⟩
    walk_at "v"
    refine w_fld ?_
    walk_at "v"
    refine ⟨p, C, dx, _, e, rfl, hp1, R.cl, R.nE, rf_e _ _ _ _, ?_⟩
    walk_at "v"
    refine w_fld ?_
    walk_at "v"
    refine ⟨p, C, dx, _, x, rfl, hp1, R.cl, R.nD, rf_d _ _ _ _, ?_⟩
    walk_at "v"
    refine ⟨x, y, ds, l, rfl, hx.same s1, hy.same s1, by omega, fun H2 s2 => ?_⟩
    have hlt := mask_lt l ds
    obtain ⟨ea, rfl, hea⟩ := he.same (s1.trans s2)
    obtain ⟨hlen, hall⟩ := hes
    have hget : es[maskOf ds l]? = some (es[maskOf ds l]'(by omega)) := List.getElem?_eq_getElem _
    generalize es[maskOf ds l]'(by omega) = e at hget
    obtain ⟨h1, h2⟩ := hall _ _ hget
    refine w_ixT hea (atI_nat (by rw [List.getElem?_map, hget]; rfl)) ?_
    walk_at "v"
    refine ⟨x, ds, e, rfl, hx.same (s1.trans s2), by omega, fun H3 y3 s3 hy3 => ?_⟩
    exact go H3 y3 e ((s1.trans s2).trans s3) h1 h2 hy3
theorem ok_Rules_stays {f C : Addr} {fd : FuncData} (F : Fun K "stays" "Rules.stays" sRules_stays f fd) (R : RCls K C) (Dm_rest : DefM P w K mg base 3 C "rest" PRules_rest (spRRest K C)) : FnOk P w K mg base CX0 4 f fd PRules_stays (spRStays K C) := by
  refine F.ok scRules_stays (fun vs H Q E h => ?_) fun cdv A outer s H vs Q E hr h => ?_
  · obtain ⟨p, y, ds, l, bs, rfl, _⟩ := h
    rfl
  · refine ⟨_, (pss_one (ps_ret (pe_cmpR (op_eqD hr.units) (pe_dm Dm_rest R.cl (hr.mono (by omega)) (pv 0) (pa_cons (pv 1) pa_nil)) (pv 1) (nomark _)))), ?_⟩
    obtain ⟨p, y, ds, l, bs, rfl, hR, hy, hs, hd, go⟩ := h
    obtain ⟨dx, x, z, e, r, es, hp, _⟩ := id hR
    obtain ⟨hd1, hd2, hd3, hd4⟩ := id hd
    walk_at "v"
    refine w_meth ?_
    walk_at "v"
    refine ⟨p, dx, _, rfl, hp, rf_no _ _ _ _ (by decide +kernel) (by decide +kernel) (by decide +kernel) (by decide +kernel), ?_⟩
    walk_at "v"
    refine ⟨p, y, ds, l, bs, rfl, hR, hy, hs, hd, fun H1 z1 e1 s1 hE hlt hz1 => ?_⟩
    walk_at "v"
    refine w_eqLots (fun d hd => pool_ok d (hd4 d (lot_sub _ _ _ hd))) (fun d hd => pool_ok d (hd4 d (hs.subset hd))) hz1 (hy.same s1) ?_
    exact go H1 e1 s1 hE hlt
theorem ok_Rules_len {f C : Addr} {fd : FuncData} (F : Fun K "__len__" "Rules.__len__" sRules_len f fd) (R : RCls K C) (T : Txt mg) : FnOk P w K mg base CX0 1 f fd PRules_len (spRLen K C) := by
  refine F.ok scRules_len (fun vs H Q E h => ?_) fun cdv A outer s H vs Q E hr h => ?_
  · obtain ⟨p, ds, bs, rfl, _⟩ := h
    rfl
  · refine ⟨_, (pss_one (ps_ret (pe_callB call_len (by rfl) T.n_len PySem.boot_len (pa_cons (pe_fld (pv 0) rfl) pa_nil)))), ?_⟩
    obtain ⟨p, ds, bs, rfl, hR, hn, go⟩ := h
    obtain ⟨dx, x, z, e, r, es, hp, hx, ⟨b, xs, rfl, hb, hbp⟩, _⟩ := hR
    refine w_ret ?_
    refine w_cb ?_
    refine w_cons ?_
    refine w_fld ?_
    refine w_var rfl ?_
    refine ⟨p, C, dx, _, .ref b, rfl, hp, R.cl, R.nB, rf_b _ _ _ _, ?_⟩
    refine w_nil ?_
    refine ⟨_, _, rfl, .inr ⟨_, hb, rfl⟩, ?_⟩
    rw [Paired.length hbp]
    exact go
end

/-! ## lots and bundles as data -/
def lotD (l : List Str) : PyData := .tuple (l.map PyData.str)
def lotsD (ls : List (List Str)) : PyData := .tuple (ls.map lotD)
def bunD (b : Bun) : PyData := .tuple [lotD b.1, lotD b.2]
def bunsD (bs : List Bun) : PyData := .tuple (bs.map bunD)
theorem dqa_of {K : PySem.W.Frag} {q : Addr} {H : Hp} {α : Type} {R : V → α → Prop} {f : α → PyData} (hf : ∀ v a, R v a → Dq K q H v (f a)) : ∀ {vs : List V} {as : List α}, Paired R vs as → DqA K q H vs (as.map f)
  | _, _, .nil => .nil
  | _, _, .cons h t => .cons (hf _ _ h) (dqa_of hf t)
theorem lots_dq {K : PySem.W.Frag} {H : Hp} {z : V} {ls : List (List Str)} (q : Addr) (h : LotsT K H z ls) : Dq K q H z (lotsD ls) := by
  obtain ⟨a, xs, rfl, h1, h2⟩ := h
  exact .tup h1 (dqa_of (f := lotD) (fun v l h => lot_dq q h) h2)
theorem bun_dq {K : PySem.W.Frag} {H : Hp} {z : V} {b : Bun} (q : Addr) (h : BunAt K H z b) : Dq K q H z (bunD b) := by
  obtain ⟨a, x, y, rfl, h1, h2, h3⟩ := h
  exact .tup h1 (.cons (lot_dq q h2) (.cons (lot_dq q h3) .nil))
theorem buns_dq {K : PySem.W.Frag} {H : Hp} {z : V} {bs : List Bun} (q : Addr) (h : BunsAt K H z bs) : Dq K q H z (bunsD bs) := by
  obtain ⟨a, xs, rfl, h1, h2⟩ := h
  exact .tup h1 (dqa_of (f := bunD) (fun v l h => bun_dq q h) h2)
theorem ok_map {α : Type} {f : α → PyData} {l : List α} (h : ∀ a ∈ l, okD (f a) = true) : okA (l.map f) = true := okA_iff.mpr fun d hd => by
  obtain ⟨a, ha, rfl⟩ := List.mem_map.mp hd
  exact h a ha
theorem sz_map {α : Type} {f : α → PyData} {k : Nat} : ∀ {l : List α}, (∀ a ∈ l, szD (f a) ≤ k) → szA (l.map f) ≤ l.length * (k + 2)
  | [], _ => by simp [szA]
  | a :: l, h => by
    have h1 := sz_map (l := l) fun b hb => h b (.tail _ hb)
    have h2 := h a (.head _)
    simp only [List.map_cons, szA, List.length_cons, Nat.add_mul]
    omega
theorem dep_map {α : Type} {f : α → PyData} {k : Nat} : ∀ {l : List α}, (∀ a ∈ l, (f a).depth ≤ k) → PyData.depthAll (l.map f) ≤ k
  | [], _ => by simp [PyData.depthAll]
  | a :: l, h => by
    have h1 := dep_map (l := l) fun b hb => h b (.tail _ hb)
    have h2 := h a (.head _)
    simp only [List.map_cons, PyData.depthAll]
    omega
theorem pool_okD : ∀ d ∈ pool17, okD (.str d) = true := by decide +kernel
theorem pool_szD : ∀ d ∈ pool17, szD (.str d) ≤ 100 := by decide +kernel
/-- lots of the pool's names, few and short -/
def Short (l : List Str) : Prop := l.length ≤ 6 ∧ ∀ d ∈ l, d ∈ pool17
theorem Short.of {l ds : List Str} (h : l.Sublist ds) (hd : Devs ds) : Short l := ⟨Nat.le_trans h.length_le hd.2.1, fun d hm => hd.2.2.2 d (h.subset hm)⟩
theorem lotD_ok {l : List Str} (h : Short l) : okD (lotD l) = true := ok_map fun d hd => pool_okD d (h.2 d hd)
theorem lotD_sz {l : List Str} (h : Short l) : szD (lotD l) ≤ 700 := by
  have h1 := sz_map (f := PyData.str) (k := 100) fun d hd => pool_szD d (h.2 d hd)
  have h2 : l.length * (100 + 2) ≤ 6 * 102 := Nat.mul_le_mul_right _ h.1
  simp only [lotD, szD]
  omega
theorem lotD_dep (l : List Str) : (lotD l).depth ≤ 1 := by
  have := dep_map (f := PyData.str) (k := 0) (l := l) fun d _ => by simp [PyData.depth]
  simp only [lotD, PyData.depth]
  omega
theorem lotsD_ok {ls : List (List Str)} (h : ∀ l ∈ ls, Short l) : okD (lotsD ls) = true := ok_map fun l hl => lotD_ok (h l hl)
theorem lotsD_sz {ls : List (List Str)} (h : ∀ l ∈ ls, Short l) (hn : ls.length ≤ 100) : szD (lotsD ls) ≤ 80000 := by
  have h1 := sz_map (f := lotD) (k := 700) fun l hl => lotD_sz (h l hl)
  have h2 : ls.length * (700 + 2) ≤ 100 * 702 := Nat.mul_le_mul_right _ hn
  simp only [lotsD, szD]
  omega
theorem lotsD_dep (ls : List (List Str)) : (lotsD ls).depth ≤ 2 := by
  have := dep_map (f := lotD) (k := 1) (l := ls) fun l _ => lotD_dep l
  simp only [lotsD, PyData.depth]
  omega
theorem bunD_ok {b : Bun} (h1 : Short b.1) (h2 : Short b.2) : okD (bunD b) = true := by
  simp only [bunD, okD, okA, lotD_ok h1, lotD_ok h2, Bool.and_true]
theorem bunD_sz {b : Bun} (h1 : Short b.1) (h2 : Short b.2) : szD (bunD b) ≤ 1500 := by
  have := lotD_sz h1
  have := lotD_sz h2
  simp only [bunD, szD, szA]
  omega
theorem bunD_dep (b : Bun) : (bunD b).depth ≤ 2 := by
  have := lotD_dep b.1
  have := lotD_dep b.2
  simp only [bunD, PyData.depth, PyData.depthAll]
  omega
theorem bunsD_ok {ds : List Str} {bs : List Bun} (h : RowsOf ds bs) (hd : Devs ds) : okD (bunsD bs) = true := ok_map fun b hb => bunD_ok (.of (h b hb).1 hd) (.of (h b hb).2.1 hd)
theorem bunsD_sz {ds : List Str} {bs : List Bun} (h : RowsOf ds bs) (hd : Devs ds) (hn : bs.length ≤ 100) : szD (bunsD bs) ≤ 160000 := by
  have h1 := sz_map (f := bunD) (k := 1500) (l := bs) fun b hb => bunD_sz (.of (h b hb).1 hd) (.of (h b hb).2.1 hd)
  have h2 : bs.length * (1500 + 2) ≤ 100 * 1502 := Nat.mul_le_mul_right _ hn
  simp only [bunsD, szD]
  omega
theorem bunsD_dep (bs : List Bun) : (bunsD bs).depth ≤ 3 := by
  have := dep_map (f := bunD) (k := 2) (l := bs) fun l _ => bunD_dep l
  simp only [bunsD, PyData.depth]
  omega
/-! ## what stays -/
theorem restsN_range (ds : List Str) : ∀ (es : List Nat) (n : Nat), restsN ds es n = ((List.range' n es.length).filter fun m => decide (es[m - n]? = some m)).map (lotOf ds)
  | [], n => rfl
  | e :: es, n => by
    have ih := restsN_range ds es (n + 1)
    simp only [restsN, List.length_cons, List.range'_succ]
    rw [ih]
    have hc : ((List.range' (n + 1) es.length).filter fun m => decide ((e :: es)[m - n]? = some m)) = (List.range' (n + 1) es.length).filter fun m => decide (es[m - (n + 1)]? = some m) := by
      refine List.filter_congr fun m hm => ?_
      have := List.mem_range'_1.mp hm
      have : m - n = (m - (n + 1)) + 1 := by omega
      rw [this, List.getElem?_cons_succ]
    by_cases h : n = e
    · rw [if_pos h, List.filter_cons_of_pos (by simp [h]), List.map_cons, hc]
    · rw [if_neg h, List.filter_cons_of_neg (by simp; exact fun z => h z.symm), hc]
/-- the lots that stay by the table are those that the law's table tells -/
theorem rests_eq {ds : List Str} {st : List (Nat × Nat)} {es : List Nat} (hn : ds.Nodup) (h : EndsOf ds.length st es) {f : List Str → Bool} (hf : ∀ l ∈ lots ds, ∀ e, IsEnd st (maskOf ds l) e → e < 2 ^ ds.length → f l = decide (lotOf ds e = l)) :
    (sortTS (lots ds)).filter f = sortTS (restsN ds es 0) := by
  rw [sortTS_filter, restsN_range]
  congr 1
  show (lotsAll ds).filter f = _
  rw [lotsAll_range, List.filter_map, h.1, ← List.range_eq_range']
  congr 1
  refine List.filter_congr fun m hm => ?_
  have hm := List.mem_range.mp hm
  have hget : es[m]? = some (es[m]'(by rw [h.1]; exact hm)) := List.getElem?_eq_getElem _
  generalize es[m]'(by rw [h.1]; exact hm) = e at hget
  obtain ⟨h1, h2⟩ := h.2 m e hget
  have hmem : lotOf ds m ∈ lots ds := by
    show _ ∈ lotsAll ds
    rw [lotsAll_range]
    exact List.mem_map.mpr ⟨m, List.mem_range.mpr hm, rfl⟩
  simp only [Function.comp, Nat.sub_zero]
  have hmm := mask_lot hn hm
  refine (hf _ hmem e (hmm.symm ▸ h1) h2).trans ?_
  refine decide_eq_decide.mpr ⟨fun z => ?_, fun z => ?_⟩
  · rw [← lotOf_inj hn h2 hm z]
    rw [← lotOf_inj hn h2 hm z] at hget
    exact hget
  · rw [hget] at z
    rw [Option.some.inj z]
/-- what the table tells of a lot -/
theorem entry_get {K : PySem.W.Frag} {H : Hp} {ds : List Str} {bs : List Bun} : ∀ {kvs : List (List Key × V)} {ls : List (List Str)}, Paired (Entry K H ds bs) kvs ls → ∀ l ∈ ls, ∃ v e, valV kvs (keyOf l) = some v ∧ IsEnd (stepsOf ds bs) (maskOf ds l) e ∧ e < 2 ^ ds.length ∧ LotAt K H v (lotOf ds e)
  | _, _, .nil, _, h => absurd h (by simp)
  | _, _, .cons (a := kv) (b := l0) h t, l, hl => by
    obtain ⟨h1, e, h2, h3, h4⟩ := h
    by_cases hk : l = l0
    · subst hk
      exact ⟨kv.2, e, valV_pos h1, h2, h3, h4⟩
    · obtain ⟨v, e', g1, g2⟩ := entry_get t l ((List.mem_cons.mp hl).resolve_left hk)
      exact ⟨v, e', by rw [valV_neg fun z => hk (keyOf_inj (h1.symm.trans z)).symm]; exact g1, g2⟩
theorem rests_short {ds : List Str} {es : List Nat} {n : Nat} (hd : Devs ds) : ∀ l ∈ sortTS (restsN ds es n), Short l := fun l hl => by
  have hl := (sortTS_perm _).mem_iff.mp hl
  rw [restsN_range] at hl
  obtain ⟨m, _, rfl⟩ := List.mem_map.mp hl
  exact .of (lotOf_sublist ds m) hd
theorem rests_few {ds : List Str} {es : List Nat} {n : Nat} : (sortTS (restsN ds es n)).length ≤ es.length := by
  rw [(sortTS_perm _).length_eq, restsN_range, List.length_map]
  refine Nat.le_trans (List.length_filter_le _ _) ?_
  rw [List.length_range']
  exact Nat.le_refl _
theorem end_is {ds : List Str} {st : List (Nat × Nat)} {es : List Nat} {l : List Str} {e : Nat} (h : EndsOf ds.length st es) (hE : IsEnd st (maskOf ds l) e) : es.getD (maskOf ds l) 0 = e := by
  have hlt := mask_lt l ds
  have hget : es[maskOf ds l]? = some (es[maskOf ds l]'(by rw [h.1]; exact hlt)) := List.getElem?_eq_getElem _
  generalize es[maskOf ds l]'(by rw [h.1]; exact hlt) = e' at hget
  rw [List.getD_eq_getElem?_getD, hget]
  exact (h.2 _ _ hget).1.uniq hE
/-- whether the lot stays, by the table -/
def staysB (ds : List Str) (es : List Nat) (l : List Str) : Bool := decide (lotOf ds (es.getD (maskOf ds l) 0) = l)
theorem w_dget {td ty : TE} {σ : L2.St} {H : Hp} {Q : VK} (k : td σ H fun x H1 => ty σ H1 fun y H2 => ∃ a v, x = .ref a ∧ DGet H2 a y (some v) ∧ Q v H2) : tDGet td ty σ H Q := k
theorem w_forHd {K : PySem.W.Frag} {σ : L2.St} {H : Hp} {ti : TE} {g : TG} {tb : TS} {D : Ends} (k : ti σ H fun v H2 => tFor (iList K (tC v)) g tb D σ H2) : tFor (iList K ti) g tb D σ H := k
theorem rests_es {ds : List Str} {st : List (Nat × Nat)} {es : List Nat} (h : EndsOf ds.length st es) (hn : ds.length ≤ 6) : es.length ≤ 64 := by
  rw [h.1]
  exact Nat.le_trans (Nat.pow_le_pow_right (by decide) hn) (by decide)
/-! ## as many rows as there may be -/
def longB {α : Type} (n : Nat) (xs : List α) : List α := (List.replicate n (xs.take 1)).flatten ++ xs
theorem longB_mem {α : Type} {n : Nat} {xs : List α} {x : α} : x ∈ longB n xs ↔ x ∈ xs := by
  unfold longB
  rw [List.mem_append]
  constructor
  · rintro (h | h)
    · obtain ⟨l, hl, hx⟩ := List.mem_flatten.mp h
      rw [List.eq_of_mem_replicate hl] at hx
      exact List.mem_of_mem_take hx
    · exact h
  · exact .inr
theorem longB_len {α : Type} {n : Nat} : ∀ {xs : List α}, (longB n xs).length = if xs = [] then 0 else n + xs.length
  | [] => by simp [longB]
  | x :: xs => by simp [longB]
theorem paired_flat {α β : Type} {R : α → β → Prop} {xs : List α} {ys : List β} (h : Paired R xs ys) : ∀ n, Paired R (List.replicate n xs).flatten (List.replicate n ys).flatten
  | 0 => .nil
  | n + 1 => by
    rw [List.replicate_succ, List.replicate_succ, List.flatten_cons, List.flatten_cons]
    exact Wk.Paired.app h (paired_flat h n)
theorem paired_take1 {α β : Type} {R : α → β → Prop} {xs : List α} {ys : List β} (h : Paired R xs ys) : Paired R (xs.take 1) (ys.take 1) := by
  cases h with
  | nil => exact .nil
  | cons h t => exact .cons h .nil
theorem paired_long {α β : Type} {R : α → β → Prop} {xs : List α} {ys : List β} (h : Paired R xs ys) (n : Nat) : Paired R (longB n xs) (longB n ys) := Wk.Paired.app (paired_flat (paired_take1 h) n) h
theorem isEnd_congr {st st' : List (Nat × Nat)} (h : ∀ p, p ∈ st ↔ p ∈ st') {m e : Nat} (k : IsEnd st m e) : IsEnd st' m e :=
  ⟨k.up, fun p hp => k.cl p ((h p).mpr hp), fun c hc hcl => k.least c hc fun p hp => hcl p ((h p).mp hp)⟩
theorem steps_long (ds : List Str) (n : Nat) (bs : List Bun) : ∀ p, p ∈ stepsOf ds (longB n bs) ↔ p ∈ stepsOf ds bs := fun p => by
  unfold stepsOf
  rw [List.mem_map, List.mem_map]
  exact ⟨fun ⟨b, hb, e⟩ => ⟨b, longB_mem.mp hb, e⟩, fun ⟨b, hb, e⟩ => ⟨b, longB_mem.mpr hb, e⟩⟩
theorem rows_long {ds : List Str} {n : Nat} {bs : List Bun} (h : RowsOf ds bs) : RowsOf ds (longB n bs) := fun b hb => h b (longB_mem.mp hb)
theorem cut_one (xs : List V) : cutV xs none (some 1) = xs.take 1 := by
  cases xs with
  | nil => rfl
  | cons x xs => rfl
/-! ## data that may be compared -/
theorem lotD_lay {l : List Str} (h : Short l) : PyData.canLay0 (lotD l) = true := by
  simp only [lotD, PyData.canLay0]
  exact strs_lay l fun d hd => pool_ok d (h.2 d hd)
theorem lay_map {α : Type} {f : α → PyData} : ∀ {l : List α}, (∀ a ∈ l, PyData.canLay0 (f a) = true) → PyData.canLayAll0 (l.map f) = true
  | [], _ => by simp [PyData.canLayAll0]
  | a :: l, h => by simp [PyData.canLayAll0, h a (.head _), lay_map fun b hb => h b (.tail _ hb)]
theorem bunD_lay {b : Bun} (h1 : Short b.1) (h2 : Short b.2) : PyData.canLay0 (bunD b) = true := by
  simp [bunD, PyData.canLay0, PyData.canLayAll0, lotD_lay h1, lotD_lay h2]
theorem shaped_of {d : PyData} (h : PyData.canLay0 d = true) (k : d.depth ≤ 64) : SeqAt.shaped d = true := by
  show (PyData.canLay0 d && decide (PyData.depth d ≤ 64)) = true
  rw [h, decide_eq_true k]
  rfl
theorem lot_dp {K : PySem.W.Frag} {H : Hp} {v : V} {l : List Str} (h : LotAt K H v l) : Dp K H v (lotD l) := by
  obtain ⟨a, rfl, ha⟩ := h
  exact .tup ha (dp_strs l)
theorem bun_dp {K : PySem.W.Frag} {H : Hp} {v : V} {b : Bun} (h : BunAt K H v b) : Dp K H v (bunD b) := by
  obtain ⟨a, x, y, rfl, h1, h2, h3⟩ := h
  exact .tup h1 (.cons (lot_dp h2) (.cons (lot_dp h3) .nil))
theorem dpa_of {K : PySem.W.Frag} {H : Hp} {α : Type} {R : V → α → Prop} {f : α → PyData} (hf : ∀ v a, R v a → Dp K H v (f a)) : ∀ {vs : List V} {as : List α}, Paired R vs as → DpAll K H vs (as.map f)
  | _, _, .nil => .nil
  | _, _, .cons h t => .cons (hf _ _ h) (dpa_of hf t)
theorem w_neNilB {K : PySem.W.Frag} {H : Hp} {a b : Addr} {xs : List V} {ds : List Str} {bs : List Bun} {Q : VK} (hrow : RowsOf ds bs) (hd : Devs ds) (ha : SqL K H a xs) (hp : Paired (BunAt K H) xs bs) (hb : SqL K H b []) (k : Q (.bl (!bs.isEmpty)) H) : rNeD K (.ref a) (.ref b) H Q := by
  refine ⟨.list (bs.map bunD), .list [], .lst ha (dpa_of (fun v b h => bun_dp h) hp), .lst hb .nil, shaped_of ?_ ?_, by decide, ?_⟩
  · simp only [PyData.canLay0]
    exact lay_map fun b hb => bunD_lay (.of (hrow b hb).1 hd) (.of (hrow b hb).2.1 hd)
  · have := dep_map (f := bunD) (k := 2) (l := bs) fun l _ => bunD_dep l
    simp only [PyData.depth]
    omega
  · cases bs with
    | nil => exact k
    | cons b bs => exact k
theorem eqv_lots : ∀ l m : List (List Str), PyData.eqvAll (l.map lotD) (m.map lotD) = decide (l = m)
  | [], [] => by simp [PyData.eqvAll]
  | [], b :: m => by simp [PyData.eqvAll]
  | a :: l, [] => by simp [PyData.eqvAll]
  | a :: l, b :: m => by
    simp only [List.map_cons, PyData.eqvAll, lotD, PyData.eqv, eqv_strs]
    rw [show PyData.eqvAll (l.map lotD) (m.map lotD) = decide (l = m) from eqv_lots l m]
    by_cases h1 : a = b <;> by_cases h2 : l = m <;> simp [h1, h2]
/-- == of two lists of lots -/
theorem w_eqLotLists {K : PySem.W.Frag} {H : Hp} {a b : Addr} {xs ys : List V} {l m : List (List Str)} {Q : VK} (hl : ∀ z ∈ l, Short z) (hm : ∀ z ∈ m, Short z) (ha : SqL K H a xs) (hb : SqL K H b ys) (hx : Paired (LotAt K H) xs l) (hy : Paired (LotAt K H) ys m) (k : Q (.bl (decide (l = m))) H) : rEqD K (.ref a) (.ref b) H Q := by
  have dep : ∀ l : List (List Str), (PyData.list (l.map lotD)).depth ≤ 64 := fun l => by
    have := dep_map (f := lotD) (k := 1) (l := l) fun l _ => lotD_dep l
    simp only [PyData.depth]
    omega
  refine ⟨.list (l.map lotD), .list (m.map lotD), .lst ha (dpa_of (fun v b h => lot_dp h) hx), .lst hb (dpa_of (fun v b h => lot_dp h) hy), shaped_of ?_ (dep l), shaped_of ?_ (dep m), ?_⟩
  · simp only [PyData.canLay0]
    exact lay_map fun b hb => lotD_lay (hl b hb)
  · simp only [PyData.canLay0]
    exact lay_map fun b hb => lotD_lay (hm b hb)
  · rw [PyData.eqv, eqv_lots]
    exact k
/-! ## while a dict is locked -/
/-- all but dicts stands -/
def Lk (H H' : Hp) : Prop := ∀ b o, H b = some o → (∀ kvs, o ≠ .dT kvs) → H' b = some o
theorem Lk.lock {H : Hp} {D : Addr} {kvs : List (List Key × V)} {u : HO} (h : H D = some (.dT kvs)) : Lk H (upd H D u) := fun b o e n => by
  rw [upd_ne fun z => by rw [z, h] at e; exact n kvs (Option.some.inj e).symm]
  exact e
theorem Lk.sqT {K : PySem.W.Frag} {H H' : Hp} {a : Addr} {xs : List V} (k : Lk H H') (h : SqT K H a xs) : SqT K H' a xs := by
  rcases h with (h | ⟨o, h⟩) | h
  · exact .inl (.inl (k _ _ h fun _ e => nomatch e))
  · exact .inl (.inr ⟨o, k _ _ h fun _ e => nomatch e⟩)
  · exact .inr h
theorem Lk.lot {K : PySem.W.Frag} {H H' : Hp} {x : V} {l : List Str} (k : Lk H H') (h : LotAt K H x l) : LotAt K H' x l := by
  obtain ⟨a, e, h⟩ := h
  exact ⟨a, e, k.sqT h⟩
theorem Lk.rules {K : PySem.W.Frag} {C : Addr} {H H' : Hp} {p : Addr} {ds : List Str} {bs : List Bun} (k : Lk H H') (h : RulesAt K C H p ds bs) : RulesAt K C H' p ds bs := by
  obtain ⟨dx, x, y, z, r, es, h1, h2, ⟨a, xs, e3, h3, h3'⟩, ⟨b, e4, h4⟩, h5, ⟨c, zs, e6, h6, h6'⟩⟩ := h
  exact ⟨dx, x, y, z, r, es, k _ _ h1 (fun _ e => nomatch e), k.lot h2, ⟨a, xs, e3, k.sqT h3, Paired.mapP h3' fun v b ⟨t, y, z, e, g1, g2, g3⟩ => ⟨t, y, z, e, k.sqT g1, k.lot g2, k.lot g3⟩⟩, ⟨b, e4, k.sqT h4⟩, h5, ⟨c, zs, e6, k.sqT h6, Paired.mapP h6' fun _ _ h => k.lot h⟩⟩
theorem Lk.entry {K : PySem.W.Frag} {H H' : Hp} {ds : List Str} {bs : List Bun} {kv : List Key × V} {l : List Str} (k : Lk H H') (h : Entry K H ds bs kv l) : Entry K H' ds bs kv l := by
  obtain ⟨h1, e, h2, h3, h4⟩ := h
  exact ⟨h1, e, h2, h3, k.lot h4⟩
theorem same_unlock {H H' : Hp} {D : Addr} {o : Obj} {kvs : List (List Key × V)} (h : H D = some (.dT kvs)) (s : Same (upd H D (.frz o (.dT kvs))) H') : Same H (upd H' D (.dT kvs)) := fun b u e => by
  by_cases hb : b = D
  · rw [hb] at e ⊢
    rw [h] at e
    rw [← e]
    exact upd_same
  · rw [upd_ne hb]
    exact s b u (by rw [upd_ne hb]; exact e)
theorem w_lock {t : TE} {σ : L2.St} {H : Hp} {Q : VK} (k : ∃ d u, H d = some u ∧ Mut (some u) ∧ ∀ od, t σ (upd H d (.frz od u)) fun v H' => H' d = some (.frz od u) ∧ Q v (upd H' d u)) : tLockE t σ H Q := k

abbrev sneeding_masks : Stmt := top 33
abbrev Nneeding_masks : List Str := ["ends", "needing", "mask", "end", "within", "fewer", "told"]
abbrev Pneeding_masks : List Str := ["ends"]
theorem scneeding_masks : FnScope Nneeding_masks Pneeding_masks (defScope sneeding_masks) := ⟨rfl, rfl, rfl, by decide +kernel, rfl, by decide +kernel, by decide +kernel⟩
theorem bsneeding_masks : BindsSt "needing_masks" sneeding_masks Pneeding_masks := fun _ _ _ _ _ _ us hl => match us, hl with | [_], _ => rfl
abbrev sbase_bundles : Stmt := top 34
abbrev Nbase_bundles : List Str := ["devices", "ends", "needing", "mask"]
abbrev Pbase_bundles : List Str := ["devices", "ends"]
theorem scbase_bundles : FnScope Nbase_bundles Pbase_bundles (defScope sbase_bundles) := ⟨rfl, rfl, rfl, by decide +kernel, rfl, by decide +kernel, by decide +kernel⟩
theorem bsbase_bundles : BindsSt "base_bundles" sbase_bundles Pbase_bundles := fun _ _ _ _ _ _ us hl => match us, hl with | [_, _], _ => rfl
abbrev srules_by : Stmt := top 37
abbrev Nrules_by : List Str := ["devices", "ends"]
abbrev Prules_by : List Str := ["devices", "ends"]
theorem scrules_by : FnScope Nrules_by Prules_by (defScope srules_by) := ⟨rfl, rfl, rfl, by decide +kernel, rfl, by decide +kernel, by decide +kernel⟩
theorem bsrules_by : BindsSt "rules_by" srules_by Prules_by := fun _ _ _ _ _ _ us hl => match us, hl with | [_, _], _ => rfl
def eF (es : List Nat) : Nat → Nat := fun m => es.getD m 0
theorem eF_at {es : List Nat} {m e : Nat} (h : es[m]? = some e) : eF es m = e := by
  unfold eF
  rw [List.getD_eq_getElem?_getD, h]
  rfl
theorem bool_list {β : Type} {f : β → Bool} : ∀ {ys : List V} {ns : List β}, Paired (fun (y : V) (n : β) => y = V.bl (f n)) ys ns → ys = (ns.map f).map V.bl
  | _, _, .nil => rfl
  | _, _, .cons h t => by rw [h, bool_list t]; rfl
def spNeedingMasks (K : PySem.W.Frag) : Sp := fun vs H Q _ => ∃ (y : V) (es : List Nat), vs = [y] ∧ IntsT K H y es ∧ es.length ≤ 64 ∧ (∀ D H', H D = none → Same H H' → H' D = some (.lst (intsV (need (eF es) es.length))) → Q (.ref D) H')
section
variable {P : Program} {w : World} {K : PySem.W.Frag} {mg : Str → Option Value} {base : Heap}
theorem ok_needing_masks (F : FunAt K mg "needing_masks" sneeding_masks) (T : Txt mg) : Def P w K mg base 1 "needing_masks" Pneeding_masks (spNeedingMasks K) := by
  refine def_of F scneeding_masks bsneeding_masks (fun vs H Q E h => ?_) fun f cdv A outer s H vs Q E hr h => ?_
  · obtain ⟨y, es, rfl, _⟩ := h
    rfl
  · refine ⟨_, (pss_cons (ps_set (i := 1) scneeding_masks.nd rfl (by first | exact Or.inl rfl | exact Or.inr rfl) (pe_lstN pa_nil))
  (pss_cons (ps_for PassesOwn.never rfl (pi_enumT (by rfl) T.n_enumerate (pa_cons (pv 0) pa_nil)) (pg_tup (by rfl) (pgs_cons (pg_name (i := 2) scneeding_masks.nd rfl (by first | exact Or.inl rfl | exact Or.inr rfl)) (pgs_cons (pg_name (i := 3) scneeding_masks.nd rfl (by first | exact Or.inl rfl | exact Or.inr rfl)) pgs_nil))) (pss_cons (ps_setLc (i := 4) (own := [("fewer", 5)]) (g := (gName 5)) rfl scneeding_masks.nd rfl rfl (sw_true rfl rfl rfl (by decide +kernel)) (pi_list (pv 1)) (blkOk_by (N := Nneeding_masks) (sc := defScope sneeding_masks) (by decide +kernel)) (fun _ _ _ _ _ => (pg_name (i := 5) scneeding_masks.nd rfl (by first | exact Or.inl rfl | exact Or.inr rfl))) (fun _ _ _ _ _ => (pts_one (pt_cmpR op_eq (pe_op op_and (pv 2) (pv 5)) (pv 5) (nomark _)))) (fun _ _ _ _ _ => (pe_ix (ix_tupK (K := K) rfl) (pv 0) (pv 5) (fun _ _ => rfl))))
  (pss_one (ps_if (PW.pt (pw_and (pt_cmpR op_ne (pv 2) (pv 3) (nomark _)) (pw_and1 (pt_val (pe_callB (cr_all rfl) (by rfl) T.n_all (by decide +kernel) (pa_cons (pe_lc (own := [("told", 6)]) (g := (gName 6)) (tt := tYes) rfl scneeding_masks.nd (pi_list (pv 4)) (blkOk_by (N := Nneeding_masks) (sc := defScope sneeding_masks) (by decide +kernel)) (fun _ _ _ _ _ => (pg_name (i := 6) scneeding_masks.nd rfl (by first | exact Or.inl rfl | exact Or.inr rfl))) (fun _ _ _ _ _ => pts_nil) (fun _ _ _ _ _ => (pe_cmpR op_eq (pe_op op_and (pv 2) (pv 6)) (pv 6) (nomark _)))) pa_nil)))))) (pss_one (ps_expr (pe_bm PySem.F.plainAttrs_list PySem.F.slot_list_append PySem.F.type_list_append mt_append (pv 1) (pa_cons (pv 2) pa_nil)))) pss_nil))))
  (pss_one (ps_ret (pv 1))))), ?_⟩
    obtain ⟨y, es, rfl, ⟨a, rfl, ha⟩, hn, go⟩ := h
    refine w_seq ?_
    refine w_asg ?_
    refine w_lstN ?_
    walk_at "v"
    rename_i N hN _
    have hN0 := hN
    refine w_forET ?_
    refine w_cons ?_
    refine w_var rfl ?_
    refine w_nil ?_
    have s0 : Same H (upd H N (.lst [])) := same_upd (Same.refl _) hN
    refine ⟨a, _, rfl, Same.sqT s0 ha, ?_⟩
    refine for_enT (K := K) (a := a) (xs := es.map fun e => V.int (e : Nat)) (Pv := fun i σ' H' => ∃ x2 x3 x4 x5 x6 : Option V, σ' = [some (.ref a), some (.ref N), x2, x3, x4, x5, x6] ∧ Same H H' ∧ H' N = some (.lst (intsV (need (eF es) i)))) ⟨none, none, none, none, none, rfl, s0, upd_same⟩ (fun i σ H2 _ h => ?_) ?_ ?_
    · obtain ⟨_, _, _, _, _, _, s, _⟩ := h
      exact Same.sqT s ha
    · rintro i x σ' H1 T' hx ⟨x2, x3, x4, x5, x6, rfl, s1, hl⟩ hT
      rw [List.getElem?_map] at hx
      cases he : es[i]? with
      | none =>
        rw [he] at hx
        cases hx
      | some en =>
      rw [he] at hx
      obtain rfl := Option.some.inj hx
      have hlt : i < es.length := (List.getElem?_eq_some_iff.mp he).1
      have s2 : Same H1 (upd H1 T' (.tup [.int (i : Nat), .int (en : Nat)])) := same_upd (Same.refl _) hT
      refine w_gtup2 (SqT.of upd_same) ?_
      generalize hH2 : upd H1 T' (.tup [.int (i : Nat), .int (en : Nat)]) = H2 at s2 ⊢
      clear hH2
      have s02 := s1.trans s2
      have hl2 := s2 _ _ hl
      refine w_seq ?_
      refine w_asg ?_
      have nlt : ∀ n ∈ need (eF es) i, n < i := fun n hn => ((need_mem _).mp hn).1
      have nfew : (need (eF es) i).length ≤ 64 := by
        rw [need_eq]
        have := List.length_filter_le (fun m => decide (isNeed (eF es) m)) (List.range i)
        rw [List.length_range] at this
        omega
      have int_sub : ∀ b : Nat, decide (V.int (Builtin.bitAnd (i : Int) (b : Int)) = V.int (b : Nat)) = decide (Sub b i) := fun b => by
        refine decide_eq_decide.mpr ?_
        rw [int_and]
        unfold Sub
        rw [Nat.and_comm]
        exact ⟨fun z => by injection z with z; omega, fun z => by rw [z]⟩
      refine w_lcLP (K := K) (a := N) (xs := intsV (need (eF es) i)) (bs := need (eF es) i) (fun y b _ => y = V.int (eF es b : Nat)) (fun b => decide (Sub b i)) (fun _ _ _ _ h _ => h) (fun _ _ _ _ _ _ h _ _ => h) (fun R k => w_var rfl k) (SqL.of hl2) (by unfold intsV; rw [List.length_map]; omega) (by unfold intsV; rw [List.length_map]) (fun _ => rfl) ?_ ?_ ?_
      · intro n v b H' R hv hb s k
        unfold intsV at hv
        rw [List.getElem?_map, hb] at hv
        obtain rfl := Option.some.inj hv
        refine w_test ?_
        refine w_op ?_
        refine w_op ?_
        refine w_var rfl ?_
        refine w_var rfl ?_
        refine w_I0 ?_
        refine w_var rfl ?_
        refine ⟨rfl, ?_⟩
        refine ⟨_, rfl, ?_⟩
        rw [int_sub]
        exact k
      · intro n v b H' R hv hb hc s k
        unfold intsV at hv
        rw [List.getElem?_map, hb] at hv
        obtain rfl := Option.some.inj hv
        have hbm := List.mem_of_getElem? hb
        have hblt := nlt b hbm
        obtain ⟨eb, heb⟩ : ∃ eb, es[b]? = some eb := ⟨_, List.getElem?_eq_getElem (by omega)⟩
        refine w_op ?_
        refine w_var rfl ?_
        refine w_var rfl ?_
        refine w_ixT (v := V.int (eb : Nat)) (Same.sqT (s02.trans s) ha) (atI_nat (by rw [List.getElem?_map, heb]; rfl)) ?_
        exact k _ _ (Same.refl _) (by rw [eF_at heb])
      · intro D H3 ys hD s3 e3 hys
        refine w_gname ?_
        dsimp only
        refine w_ifS ?_
        refine w_and ?_
        refine w_test ?_
        refine w_op ?_
        refine w_var rfl ?_
        refine w_var rfl ?_
        refine ⟨rfl, ?_⟩
        refine ⟨_, rfl, ?_⟩
        have hl3 := s3 _ _ hl2
        have s03 := s02.trans s3
        have een : eF es i = en := eF_at he
        have fin0 : ¬ isNeed (eF es) i → need (eF es) (i + 1) = need (eF es) i := fun h => by rw [need_succ, if_neg h]
        refine iteB (fun hne => ?_) fun hne => ?_
        · have hne' : ¬ i = en := fun z => by rw [z] at hne; simp at hne
          refine w_B ?_
          refine w_cb ?_
          refine w_cons ?_
          have hyl := Paired.length hys
          refine w_lcLP (K := K) (a := D) (xs := ys) (bs := (need (eF es) i).filter fun b => decide (Sub b i)) (fun y b _ => y = V.bl (decide (Sub (eF es b) i))) (fun _ => true) (fun _ _ _ _ h _ => h) (fun _ _ _ _ _ _ h _ _ => h) (fun R k => w_var rfl k) (SqL.of e3) (by have := List.length_filter_le (fun b => decide (Sub b i)) (need (eF es) i); omega) hyl (fun _ => rfl) (fun _ _ _ _ _ _ _ _ k => k) ?_ ?_
          · intro n v b H' R hv hb _ s k
            obtain ⟨b', hb', hv'⟩ := Paired.at hys hv
            rw [hb] at hb'
            obtain rfl := Option.some.inj hb'
            subst hv'
            refine w_op ?_
            refine w_op ?_
            refine w_var rfl ?_
            refine w_var rfl ?_
            refine w_I0 ?_
            refine w_var rfl ?_
            refine ⟨rfl, ?_⟩
            rw [int_sub]
            exact k _ _ (Same.refl _) rfl
          · intro D2 H4 zs hD2 s4 e4 hzs
            refine w_nil ?_
            rw [List.filter_eq_self.mpr fun _ _ => rfl] at hzs
            have hzb := bool_list (f := fun b => decide (Sub (eF es b) i)) hzs
            refine ⟨D2, _, rfl, SqL.of (by rw [e4, hzb]), ?_⟩
            have hl4 := s4 _ _ hl3
            have s04 := s03.trans s4
            refine ⟨_, rfl, iteB (fun hall => ?_) fun hall => ?_⟩
            · have hN : isNeed (eF es) i := ⟨by rw [een]; exact fun z => hne' z.symm, fun f hf hsf => by
                rw [List.all_map, List.all_eq_true] at hall
                exact of_decide_eq_true (hall f (List.mem_filter.mpr ⟨hf, decide_eq_true hsf⟩))⟩
              refine w_drop ?_
              refine w_bm ?_
              refine w_var rfl ?_
              refine ⟨.inl ⟨rfl, _, SqL.of hl4⟩, ?_⟩
              refine w_cons ?_
              refine w_var rfl ?_
              refine w_nil ?_
              refine ⟨N, _, _, rfl, rfl, hl4, by unfold intsV; rw [List.length_map, sizeLine_eq]; omega, ?_⟩
              refine ⟨_, _, _, _, _, rfl, ?_, ?_⟩
              · exact fun b o e => by
                  rw [upd_ne (ne_of_none e hN0)]
                  exact s04 _ _ e
              · rw [upd_same, need_succ, if_pos hN]
                unfold intsV
                rw [List.map_append]
                rfl
            · refine w_next ?_
              refine ⟨_, _, _, _, _, rfl, s04, ?_⟩
              rw [fin0 fun hN => ?_]
              · exact hl4
              · have : (((need (eF es) i).filter fun b => decide (Sub b i)).map fun b => decide (Sub (eF es b) i)).all id = true := by
                  rw [List.all_map, List.all_eq_true]
                  intro f hf
                  obtain ⟨h1, h2⟩ := List.mem_filter.mp hf
                  exact decide_eq_true (hN.2 f h1 (of_decide_eq_true h2))
                rw [this] at hall
                cases hall
        · refine iteF ?_
          refine w_next ?_
          refine ⟨_, _, _, _, _, rfl, s03, ?_⟩
          rw [fin0 fun hN => hN.1 (by
            rw [een]
            simp only [Bool.not_eq_false', decide_eq_true_eq] at hne
            injection hne with hne
            omega)]
          exact hl3
    · rintro σ' H' ⟨x2, x3, x4, x5, x6, rfl, s1, hl⟩
      walk_at "v"
      exact go _ _ hN s1 (by rw [List.length_map] at hl; exact hl)
end

theorem bun_lt {a b : Bun} (h : a.1 = b.1 → a.2 = b.2) : PySem.W.dataLt (bunD a) (bunD b) = lexS a.1 b.1 := by
  have l1 : PySem.W.alike (lotD a.1) (lotD b.1) = true := by
    unfold lotD PySem.W.alike
    exact alike_strs _ _
  have l2 : PySem.W.alike (lotD a.2) (lotD b.2) = true := by
    unfold lotD PySem.W.alike
    exact alike_strs _ _
  unfold bunD
  rw [PySem.W.dataLt_pair l1 l2]
  have e1 : PyData.eqv (lotD a.1) (lotD b.1) = decide (a.1 = b.1) := eqv_strsD _ _
  have e2 : PyData.eqv (lotD a.2) (lotD b.2) = decide (a.2 = b.2) := eqv_strsD _ _
  rw [e1, e2]
  by_cases q : a.1 = b.1
  · rw [if_pos (decide_eq_true q), if_pos (decide_eq_true (h q)), q, lexS_irr]
  · rw [if_neg (by simpa using q)]
    exact lt_strs _ _
theorem buns_alike (bs : List Bun) : PySem.W.AllAlike (bs.map bunD) := PySem.W.AllAlike.of fun a b => by
  unfold bunD lotD PySem.W.alike PySem.W.alikeAll PySem.W.alike
  rw [alike_strs]
  unfold PySem.W.alikeAll PySem.W.alike
  rw [alike_strs]
  simp [PySem.W.alikeAll]
def spBaseBundles (K : PySem.W.Frag) : Sp := fun vs H Q _ => ∃ (x y : V) (ds : List Str) (es : List Nat), vs = [x, y] ∧ LotAt K H x ds ∧ Devs ds ∧ IntsT K H y es ∧ es.length = 2 ^ ds.length ∧ Cl (eF es) ds.length ∧
  ∀ H' v, Same H H' → BunsAt K H' v (baseB ds (eF es)) → Q v H'
section
variable {P : Program} {w : World} {K : PySem.W.Frag} {mg : Str → Option Value} {base : Heap}
theorem ok_base_bundles (F : FunAt K mg "base_bundles" sbase_bundles) (T : Txt mg) (Dneeding_masks : Def P w K mg base 1 "needing_masks" Pneeding_masks (spNeedingMasks K)) (Dlot_of : Def P w K mg base 1 "lot_of" Plot_of (spLotOf K)) : Def P w K mg base 2 "base_bundles" Pbase_bundles (spBaseBundles K) := by
  refine def_of F scbase_bundles bsbase_bundles (fun vs H Q E h => ?_) fun f cdv A outer s H vs Q E hr h => ?_
  · obtain ⟨x, y, ds, es, rfl, _⟩ := h
    rfl
  · refine ⟨_, (pss_cons (ps_set (i := 2) scbase_bundles.nd rfl (by first | exact Or.inl rfl | exact Or.inr rfl) (pe_d Dneeding_masks (hr.mono (by omega)) (pa_cons (pv 1) pa_nil)))
  (pss_one (ps_ret (pe_callTy call_tuple_of (by rfl) T.n_tuple (by decide +kernel) (pa_cons (pe_callB (cr_sortedD hr.units) (by rfl) T.n_sorted (by decide +kernel) (pa_cons (pe_lc (own := [("mask", 3)]) (g := (gName 3)) (tt := tYes) rfl scbase_bundles.nd (pi_list (pv 2)) (blkOk_by (N := Nbase_bundles) (sc := defScope sbase_bundles) (by decide +kernel)) (fun _ _ _ _ _ => (pg_name (i := 3) scbase_bundles.nd rfl (by first | exact Or.inl rfl | exact Or.inr rfl))) (fun _ _ _ _ _ => pts_nil) (fun _ _ _ _ _ => (pe_tup (pa_cons (pe_d Dlot_of (hr.mono (by omega)) (pa_cons (pv 0) (pa_cons (pv 3) pa_nil))) (pa_cons (pe_d Dlot_of (hr.mono (by omega)) (pa_cons (pv 0) (pa_cons (pe_op op_sub (pe_ix (ix_tupK (K := K) rfl) (pv 1) (pv 3) (fun _ _ => rfl)) (pv 3)) pa_nil))) pa_nil))))) pa_nil)) pa_nil))))), ?_⟩
    obtain ⟨x, y, ds, es, rfl, hx, hd, hy, hz, hC, go⟩ := h
    obtain ⟨hd1, hd2, hd3, hd4⟩ := id hd
    have h64 : es.length ≤ 64 := by
      rw [hz]
      exact Nat.le_trans (Nat.pow_le_pow_right (by decide) hd2) (by decide)
    obtain ⟨ya, rfl, hya⟩ := id hy
    refine w_seq ?_
    refine w_asg ?_
    refine w_call ?_
    refine w_cons ?_
    refine w_var rfl ?_
    refine w_nil ?_
    refine ⟨.ref ya, es, rfl, hy, h64, fun N H1 hN s1 hl => ?_⟩
    refine w_gname ?_
    dsimp only
    refine w_ret ?_
    refine w_cb ?_
    refine w_cons ?_
    refine w_cb ?_
    refine w_cons ?_
    have nlt : ∀ n ∈ need (eF es) es.length, n < 2 ^ ds.length := fun n hn => by
      have := ((need_mem _).mp hn).1
      omega
    have nfew : (need (eF es) es.length).length ≤ 64 := by
      rw [need_eq]
      have := List.length_filter_le (fun m => decide (isNeed (eF es) m)) (List.range es.length)
      rw [List.length_range] at this
      omega
    refine w_lcLP (K := K) (a := N) (xs := intsV (need (eF es) es.length)) (bs := need (eF es) es.length) (fun y b H' => BunAt K H' y (lotOf ds b, lotOf ds (eF es b - b))) (fun _ => true) (fun _ _ _ _ h s => h.same s) (fun y b H' D ys zs h h1 e => ?_) (fun R k => w_var rfl k) (SqL.of hl) (by unfold intsV; rw [List.length_map]; omega) (by unfold intsV; rw [List.length_map]) (fun _ => rfl) (fun _ _ _ _ _ _ _ _ k => k) ?_ ?_
    · obtain ⟨t, y1, y2, e', g1, g2, g3⟩ := h
      exact ⟨t, y1, y2, e', sqT_upd g1 e, lotAt_upd g2 e, lotAt_upd g3 e⟩
    · intro n v b H' R hv hb _ s k
      unfold intsV at hv
      rw [List.getElem?_map, hb] at hv
      obtain rfl := Option.some.inj hv
      have hblt := nlt b (List.mem_of_getElem? hb)
      have hbl := hC.lt b hblt
      have hbu := (hC.up b hblt).le
      obtain ⟨eb, heb⟩ : ∃ eb, es[b]? = some eb := ⟨_, List.getElem?_eq_getElem (by omega)⟩
      have hee := eF_at heb
      refine w_tup ?_
      refine w_cons ?_
      refine w_call ?_
      refine w_cons ?_
      refine w_var rfl ?_
      refine w_cons ?_
      refine w_var rfl ?_
      refine w_nil ?_
      refine ⟨x, ds, b, rfl, hx.same (s1.trans s), by omega, fun H2 v1 s2 hv1 => ?_⟩
      refine w_cons ?_
      refine w_call ?_
      refine w_cons ?_
      refine w_var rfl ?_
      refine w_cons ?_
      refine w_op ?_
      refine w_op ?_
      refine w_var rfl ?_
      refine w_var rfl ?_
      refine w_ixT (v := V.int (eb : Nat)) (Same.sqT ((s1.trans s).trans s2) hya) (atI_nat (by rw [List.getElem?_map, heb]; rfl)) ?_
      refine w_var rfl ?_
      refine w_I0 ?_
      refine w_nil ?_
      have esub : ((eb : Nat) : Int) - ((b : Nat) : Int) = ((eF es b - b : Nat) : Int) := by omega
      rw [esub]
      refine ⟨x, ds, eF es b - b, rfl, hx.same ((s1.trans s).trans s2), by omega, fun H3 v2 s3 hv2 => ?_⟩
      refine w_nil ?_
      walk_at "v"
      rename_i tp htp
      have s4 : Same H3 (upd H3 tp (.tup [v1, v2])) := same_upd (Same.refl _) htp
      exact k _ _ ((s2.trans s3).trans s4) ⟨tp, v1, v2, rfl, SqT.of upd_same, (hv1.same s3).same s4, hv2.same s4⟩
    · intro D H2 ys hD s2 e2 hys
      rw [List.filter_eq_self.mpr fun _ _ => rfl] at hys
      refine w_nil ?_
      obtain ⟨z1, z2, z3⟩ := paired_zip hys
      have nm : ∀ p ∈ ys.zip (need (eF es) es.length), p.2 < 2 ^ ds.length := fun p hp => nlt p.2 (by rw [← z2]; exact List.mem_map.mpr ⟨p, hp, rfl⟩)
      have hsrt : ((ys.zip (need (eF es) es.length)).mergeSort (PySem.W.dataLe false fun p => bunD (lotOf ds p.2, lotOf ds (eF es p.2 - p.2)))).map (fun p => (lotOf ds p.2, lotOf ds (eF es p.2 - p.2))) = baseB ds (eF es) := by
        have h1 := List.map_mergeSort (r := PySem.W.dataLe false fun p : V × Nat => bunD (lotOf ds p.2, lotOf ds (eF es p.2 - p.2))) (s := fun a b => !lexS b a) (f := fun p : V × Nat => lotOf ds p.2) (l := ys.zip (need (eF es) es.length)) fun p hp q hq => by
          rw [PySem.W.dataLe_eq]
          show (!_) = (!_)
          congr 1
          exact bun_lt fun z => by
            have := lotOf_inj hd3 (nm q hq) (nm p hp) z
            dsimp only at this ⊢
            rw [this]
        have h2 : ∀ p ∈ (ys.zip (need (eF es) es.length)).mergeSort (PySem.W.dataLe false fun p => bunD (lotOf ds p.2, lotOf ds (eF es p.2 - p.2))), (lotOf ds p.2, lotOf ds (eF es p.2 - p.2)) = bunB ds (eF es) (lotOf ds p.2) := fun p hp => by
          unfold bunB
          rw [mask_lot hd3 (nm p (List.mem_mergeSort.mp hp))]
        have h4 : (ys.zip (need (eF es) es.length)).map (fun p : V × Nat => lotOf ds p.2) = (need (eF es) es.length).map (lotOf ds) := by
          conv => rhs; rw [← z2]
          rw [List.map_map]
          rfl
        have h5 : ((ys.zip (need (eF es) es.length)).mergeSort (PySem.W.dataLe false fun p => bunD (lotOf ds p.2, lotOf ds (eF es p.2 - p.2)))).map (fun p : V × Nat => lotOf ds p.2) = sortTS ((need (eF es) (2 ^ ds.length)).map (lotOf ds)) := by
          rw [h1, h4, hz]
          rfl
        rw [List.map_congr_left h2]
        unfold baseB
        rw [← h5, List.map_map]
        rfl
      refine ⟨D, V × Nat, ys.zip (need (eF es) es.length), Prod.fst, fun p => bunD (lotOf ds p.2, lotOf ds (eF es p.2 - p.2)), rfl, SqL.of (by rw [z1]; exact e2), fun p hp => bun_dq D (z3 p hp), ?_, PySem.W.Sortable.tuples fun p => ⟨_, _, rfl⟩, fun p hp => Nat.le_trans (bunD_dep _) (by decide), fun S hS => ?_⟩
      · have := buns_alike ((ys.zip (need (eF es) es.length)).map fun p => (lotOf ds p.2, lotOf ds (eF es p.2 - p.2)))
        rw [List.map_map] at this
        exact this
      · refine w_nil ?_
        have s3 : Same H2 (upd H2 S (.lst (((ys.zip (need (eF es) es.length)).mergeSort (PySem.W.dataLe false fun p => bunD (lotOf ds p.2, lotOf ds (eF es p.2 - p.2)))).map Prod.fst))) := same_upd (Same.refl _) hS
        refine ⟨S, _, rfl, .inl ⟨SqL.of upd_same, fun t ht => ?_⟩⟩
        have s4 := same_upd (o := .tup (((ys.zip (need (eF es) es.length)).mergeSort (PySem.W.dataLe false fun p => bunD (lotOf ds p.2, lotOf ds (eF es p.2 - p.2)))).map Prod.fst)) (Same.refl _) ht
        refine go _ _ (((s1.trans s2).trans s3).trans s4) ⟨t, _, rfl, SqT.of upd_same, ?_⟩
        rw [← hsrt]
        exact paired_maps fun p hp => ((z3 p (List.mem_mergeSort.mp hp)).same s3).same s4
end

abbrev sRules_eq : Stmt := inClass (top 36) 5
abbrev NRules_eq : List Str := ["self", "other"]
abbrev PRules_eq : List Str := ["self", "other"]
theorem scRules_eq : FnScope NRules_eq PRules_eq (defScope sRules_eq) := ⟨rfl, rfl, rfl, by decide +kernel, rfl, by decide +kernel, by decide +kernel⟩
theorem ends_cl {ds : List Str} {st : List (Nat × Nat)} {es : List Nat} (h : EndsOf ds.length st es) : Cl (eF es) ds.length := cl_of (st := st) fun i hi => by
  have hx := List.getElem?_eq_getElem (l := es) (i := i) (by rw [h.1]; exact hi)
  rw [eF_at hx]
  exact h.2 i _ hx
theorem ends_uniq {n : Nat} {st st' : List (Nat × Nat)} {es es' : List Nat} (h : EndsOf n st es) (h' : EndsOf n st' es') (hs : ∀ m e, m < 2 ^ n → IsEnd st m e → IsEnd st' m e) : es = es' := by
  refine List.ext_getElem? fun i => ?_
  rcases Nat.lt_or_ge i (2 ^ n) with hi | hi
  · have h1 := List.getElem?_eq_getElem (l := es) (i := i) (by rw [h.1]; exact hi)
    have h2 := List.getElem?_eq_getElem (l := es') (i := i) (by rw [h'.1]; exact hi)
    rw [h1, h2, (hs _ _ hi (h.2 i _ h1).1).uniq (h'.2 i _ h2).1]
  · rw [List.getElem?_eq_none (by rw [h.1]; exact hi), List.getElem?_eq_none (by rw [h'.1]; exact hi)]
theorem base_ends {ds : List Str} {st : List (Nat × Nat)} {es : List Nat} (hn : ds.Nodup) (h : EndsOf ds.length st es) {m e : Nat} (hm : m < 2 ^ ds.length) : IsEnd st m e ↔ IsEnd (stepsOf ds (baseB ds (eF es))) m e := by
  have hx := List.getElem?_eq_getElem (l := es) (i := m) (by rw [h.1]; exact hm)
  have h1 := (h.2 m _ hx).1
  have h2 : IsEnd (stepsOf ds (baseB ds (eF es))) m (eF es m) := baseB_isEnd hn (ends_cl h) hm
  rw [← eF_at hx] at h1
  exact ⟨fun k => by rw [k.uniq h1]; exact h2, fun k => by rw [k.uniq h2]; exact h1⟩
/-- what isinstance, == and != ask of the class -/
structure REqC (K : PySem.W.Frag) (C : Addr) : Prop where
  ha : PySem.W.findIn K (.ref C) "__class__" = some (some (.builtin "object.__class__"))
  hn : PySem.W.specialIn K (.builtin "object.__class__") "__get__" = some (some (.builtin "getset_descriptor.__get__"))
  ht : PySem.W.takesIn K (.builtin "object.__class__") = some true
  hm : PySem.W.mroIn K C (.type "object") = some true
  ne : PySem.W.findIn K (.ref C) "__ne__" = some (some (.builtin "object.__ne__"))
/-- == of two tuples of lots -/
theorem w_eqLotsT {K : PySem.W.Frag} {H : Hp} {x y : V} {l m : List (List Str)} {Q : VK} (hl : ∀ z ∈ l, Short z) (hm : ∀ z ∈ m, Short z) (hx : LotsT K H x l) (hy : LotsT K H y m) (k : Q (.bl (decide (l = m))) H) : rEqD K x y H Q := by
  obtain ⟨a, xs, rfl, ha, hx⟩ := hx
  obtain ⟨b, ys, rfl, hb, hy⟩ := hy
  have dep : ∀ l : List (List Str), (PyData.tuple (l.map lotD)).depth ≤ 64 := fun l => by
    have := dep_map (f := lotD) (k := 1) (l := l) fun l _ => lotD_dep l
    simp only [PyData.depth]
    omega
  refine ⟨.tuple (l.map lotD), .tuple (m.map lotD), .tup ha (dpa_of (fun v b h => lot_dp h) hx), .tup hb (dpa_of (fun v b h => lot_dp h) hy), shaped_of ?_ (dep l), shaped_of ?_ (dep m), ?_⟩
  · simp only [PyData.canLay0]
    exact lay_map fun b hb => lotD_lay (hl b hb)
  · simp only [PyData.canLay0]
    exact lay_map fun b hb => lotD_lay (hm b hb)
  · rw [PyData.eqv, eqv_lots]
    exact k
def spRulesBy (K : PySem.W.Frag) (C : Addr) : Sp := fun vs H Q _ => ∃ (x z : V) (ds : List Str) (es : List Nat), vs = [x, z] ∧ LotAt K H x ds ∧ Devs ds ∧ IntsT K H z es ∧ es.length = 2 ^ ds.length ∧ Cl (eF es) ds.length ∧
  ∀ H' q, Same H H' → RulesAt K C H' q ds (baseB ds (eF es)) → Q (.ref q) H'
def spBase (K : PySem.W.Frag) (C : Addr) : Sp := fun vs H Q _ => ∃ (p : Addr) (ds : List Str) (bs : List Bun), vs = [.ref p] ∧ RulesAt K C H p ds bs ∧ Devs ds ∧ RowsOf ds bs ∧ bs.length ≤ 64 ∧
  ∀ H' q es, Same H H' → EndsOf ds.length (stepsOf ds bs) es → RulesAt K C H' q ds (baseB ds (eF es)) → Q (.ref q) H'
def spNeeding (K : PySem.W.Frag) (C : Addr) : Sp := fun vs H Q _ => ∃ (p : Addr) (ds : List Str) (bs : List Bun), vs = [.ref p] ∧ RulesAt K C H p ds bs ∧ Devs ds ∧ RowsOf ds bs ∧ bs.length ≤ 64 ∧
  ∀ H' v es, Same H H' → EndsOf ds.length (stepsOf ds bs) es → LotsT K H' v (sortTS ((need (eF es) (2 ^ ds.length)).map (lotOf ds))) → Q v H'
def spREq (K : PySem.W.Frag) (C : Addr) : Sp := fun vs H Q _ => ∃ (p q : Addr) (ds : List Str) (bs bs' : List Bun), vs = [.ref p, .ref q] ∧ RulesAt K C H p ds bs ∧ RulesAt K C H q ds bs' ∧ Devs ds ∧ (∀ m e, m < 2 ^ ds.length → IsEnd (stepsOf ds bs) m e → IsEnd (stepsOf ds bs') m e) ∧
  ∀ H', Same H H' → Q (.bl true) H'
section
variable {P : Program} {w : World} {K : PySem.W.Frag} {mg : Str → Option Value} {base : Heap} {C : Addr}
theorem ok_Rules_eq {f : Addr} {fd : FuncData} (F : Fun K "__eq__" "Rules.__eq__" sRules_eq f fd) (T : Txt mg) (R : RCls K C) (RE : REqC K C) (hC : mg "Rules" = some (.ref C)) : FnOk P w K mg base CX0 1 f fd PRules_eq (spREq K C) := by
  refine F.ok scRules_eq (fun vs H Q E h => ?_) fun cdv A outer s H vs Q E hr h => ?_
  · obtain ⟨p, q, ds, bs, bs', rfl, _⟩ := h
    rfl
  · refine ⟨_, (pss_one (ps_ret (pe_and (pe_callB call_isi (by rfl) T.n_isinstance (by decide +kernel) (pa_cons (pv 1) (pa_cons (pe_glob (v := .ref C) (by rfl) hC rfl) pa_nil))) (pe_and (pe_cmpR (op_eqD hr.units) (pe_fld (pv 0) rfl) (pe_fld (pv 1) rfl) (nomark _)) (pe_one (pe_cmpR (op_eqD hr.units) (pe_fld (pv 0) rfl) (pe_fld (pv 1) rfl) (nomark _))))))), ?_⟩
    obtain ⟨p, q, ds, bs, bs', rfl, hp, hq, hd, hE, go⟩ := h
    obtain ⟨dx, x, y, z, r, es, h1, h2, h3, h4, h5, h6⟩ := id hp
    obtain ⟨dx', x', y', z', r', es', g1, g2, g3, g4, g5, g6⟩ := id hq
    obtain ⟨hd1, hd2, hd3, hd4⟩ := id hd
    obtain rfl := ends_uniq h5 g5 hE
    have dok : ∀ d ∈ ds, PyData.strOk d = true := fun d hd => pool_ok d (hd4 d hd)
    refine w_ret ?_
    refine w_andV ?_
    refine w_cb ?_
    refine w_cons ?_
    refine w_var rfl ?_
    refine w_cons ?_
    refine w_C ?_
    refine w_nil ?_
    refine ⟨.ref q, .ref C, .ref C, .ref C, true, rfl, .own C, .base (.ins g1 R.cl RE.ha RE.hn RE.ht RE.hm), ?_, ?_⟩
    · unfold PySem.W.kitOne
      rw [if_pos (by simp)]
    refine ⟨_, rfl, iteT ?_⟩
    refine w_andV ?_
    refine w_op ?_
    refine w_fld ?_
    refine w_var rfl ?_
    refine ⟨p, C, dx, _, x, rfl, h1, R.cl, R.nD, rf_d _ _ _ _, ?_⟩
    refine w_fld ?_
    refine w_var rfl ?_
    refine ⟨q, C, dx', _, x', rfl, g1, R.cl, R.nD, rf_d _ _ _ _, ?_⟩
    refine w_eqLots dok dok h2 g2 ?_
    refine ⟨_, rfl, iteT' (decide_eq_true rfl) ?_⟩
    refine w_op ?_
    refine w_fld ?_
    refine w_var rfl ?_
    refine ⟨p, C, dx, _, r, rfl, h1, R.cl, R.nR, rf_r _ _ _ _, ?_⟩
    refine w_fld ?_
    refine w_var rfl ?_
    refine ⟨q, C, dx', _, r', rfl, g1, R.cl, R.nR, rf_r _ _ _ _, ?_⟩
    refine w_eqLotsT (rests_short hd) (rests_short hd) h6 g6 ?_
    rw [decide_eq_true rfl]
    exact go H (Same.refl _)
end

section
variable {P : Program} {w : World} {K : PySem.W.Frag} {mg : Str → Option Value} {base : Heap} {C : Addr}
theorem ok_rules_by (F : FunAt K mg "rules_by" srules_by) (R : RCls K C) {a0 : Addr} (DC : DefC P w K mg base 4 C "Rules" PRules_init [.ref a0] (spRInit K C)) (Dbase_bundles : Def P w K mg base 2 "base_bundles" Pbase_bundles (spBaseBundles K)) : Def P w K mg base 6 "rules_by" Prules_by (spRulesBy K C) := by
  refine def_of F scrules_by bsrules_by (fun vs H Q E h => ?_) fun f cdv A outer s H vs Q E hr h => ?_
  · obtain ⟨x, z, ds, es, rfl, _⟩ := h
    rfl
  · refine ⟨_, (pss_one (ps_ret (pe_dc DC (hr.mono (by omega)) (pa_cons (pv 0) (pa_cons (pe_d Dbase_bundles (hr.mono (by omega)) (pa_cons (pv 0) (pa_cons (pv 1) pa_nil))) pa_nil))))), ?_⟩
    obtain ⟨x, z, ds, es, rfl, hx, hd, hz, hes, hC, go⟩ := h
    obtain ⟨hd1, hd2, hd3, hd4⟩ := id hd
    refine w_ret ?_
    refine w_make ?_
    refine w_cons ?_
    refine w_var rfl ?_
    refine w_cons ?_
    refine w_call ?_
    refine w_cons ?_
    refine w_var rfl ?_
    refine w_cons ?_
    refine w_var rfl ?_
    refine w_nil ?_
    refine ⟨x, z, ds, es, rfl, hx, hd, hz, hes, hC, fun H2 v s2 hv => ?_⟩
    refine w_nil ?_
    intro y dx' nx ndx nex
    have sm : Same H2 (upd (upd H2 dx' (.own y)) y (.ins C dx' [])) := fun b o e => by
      rw [upd_ne (ne_of_none e nx), upd_ne (ne_of_none e ndx)]
      exact e
    have hblen : (baseB ds (eF es)).length ≤ 64 := Nat.le_trans baseB_len (Nat.le_trans (Nat.pow_le_pow_right (by decide) hd2) (by decide))
    refine ⟨y, dx', x, v, ds, baseB ds (eF es), rfl, upd_same, (hx.same s2).same sm, hv.same sm, hd, baseB_rows hd3 hC, hblen, fun H4 k4 hR4 => ⟨rfl, ?_⟩⟩
    exact go H4 y (fun b o e => k4 b o (sm b o (s2 b o e)) (ne_of_none (s2 b o e) nx)) hR4
end

/-! ## each needing lot has a bundle of its own -/
theorem Sub.and {a b c : Nat} (h : Sub c a) (k : Sub c b) : Sub c (a &&& b) := sub_iff.mpr fun i hi => by
  rw [Nat.testBit_and, sub_iff.mp h i hi, sub_iff.mp k i hi]
  rfl
theorem Sub.andl (a b : Nat) : Sub (a &&& b) a := sub_iff.mpr fun i hi => by
  rw [Nat.testBit_and, Bool.and_eq_true] at hi
  exact hi.1
theorem Sub.andr (a b : Nat) : Sub (a &&& b) b := sub_iff.mpr fun i hi => by
  rw [Nat.testBit_and, Bool.and_eq_true] at hi
  exact hi.2
theorem Sub.lt {a b n : Nat} (h : Sub a b) (k : b < n) : a < n := Nat.lt_of_le_of_lt h.le k
section
variable {e : Nat → Nat} {n : Nat}
theorem Cl.mono (h : Cl e n) {a b : Nat} (ha : a < 2 ^ n) (hb : b < 2 ^ n) (s : Sub a b) : Sub (e a) (e b) := h.least a (e b) ha (h.lt b hb) (s.trans (h.up b hb)) (h.idem b hb)
theorem Cl.between (h : Cl e n) {a b : Nat} (ha : a < 2 ^ n) (hb : b < 2 ^ n) (s : Sub a b) (t : Sub b (e a)) : e b = e a := (h.least b (e a) hb (h.lt a ha) t (h.idem a ha)).anti (h.mono ha hb s)
/-- what is closed by the needing lots stays -/
theorem closed_need (h : Cl e n) {x : Nat} (hx : x < 2 ^ n) (hc : ∀ f, f < 2 ^ n → isNeed e f → Sub f x → Sub (e f) x) : e x = x := by
  refine ((base_isEnd h hx).least x (Sub.refl _) fun p hp hs => ?_).anti (h.up x hx)
  obtain ⟨f, hf, rfl⟩ := List.mem_map.mp hp
  obtain ⟨hlt, hN⟩ := (need_mem e).mp hf
  exact (minus_sub (h.up f hlt)).trans (hc f hlt hN hs)
theorem quasi (h : Cl e n) {k : Nat} (hk : k < 2 ^ n) (hN : isNeed e k) : ∀ (d x : Nat), k - x = d → Sub x k → Sub (e x) k ∨ e x = e k := by
  intro d
  induction d using Nat.strongRecOn with
  | _ d ih =>
    intro x hd hx
    have hxl := hx.lt hk
    by_cases hex : ∃ f, f < 2 ^ n ∧ isNeed e f ∧ f ≠ k ∧ Sub f x ∧ ¬ Sub (e f) x
    · obtain ⟨f, hf, hfN, hfk, hfx, hne⟩ := hex
      have h1 : Sub (e f) k := ((isNeed_iff e).mp hN).2 f hfN (hfx.trans hx) hfk
      have h2 : Sub (x ||| e f) k := hx.or h1
      have h3 : x < x ||| e f := by
        have := (Sub.orl x (e f)).le
        refine Nat.lt_of_le_of_ne this fun z => hne ?_
        have := Sub.orr x (e f)
        rw [← z] at this
        exact this
      have h4 := h2.le
      have h5 : e (x ||| e f) = e x := h.between hxl (h2.lt hk) (Sub.orl _ _) ((h.up x hxl).or (h.mono hf hxl hfx))
      rw [← h5]
      exact ih (k - (x ||| e f)) (by omega) _ rfl h2
    · by_cases hxk : x = k
      · exact .inr (by rw [hxk])
      · refine .inl ?_
        have : e x = x := closed_need h hxl fun f hf hfN hfx => Classical.byContradiction fun hne => hex ⟨f, hf, hfN, fun z => hxk (hx.anti (z ▸ hfx)), hfx, hne⟩
        rw [this]
        exact hx
theorem mine_ex (h : Cl e n) {st : List (Nat × Nat)} (hst : ∀ m, m < 2 ^ n → IsEnd st m (e m)) {k : Nat} (hk : k < 2 ^ n) (hN : isNeed e k) : ∃ p ∈ st, Sub p.1 k ∧ e p.1 = e k := by
  refine Classical.byContradiction fun hno => hN.1 ?_
  refine (hst k hk).uniq ⟨Sub.refl k, fun p hp hs => Classical.byContradiction fun hne => hno ⟨p, hp, hs, ?_⟩, fun c hc _ => hc⟩
  have hpl := hs.lt hk
  have h1 : Sub p.2 (e p.1) := (hst p.1 hpl).cl p hp (h.up p.1 hpl)
  exact (quasi h hk hN _ p.1 rfl hs).resolve_left fun z => hne (h1.trans z)
theorem mine_apart (h : Cl e n) {a b x : Nat} (ha : a < 2 ^ n) (hb : b < 2 ^ n) (hNa : isNeed e a) (hNb : isNeed e b) (h1 : Sub x a) (h2 : Sub x b) (e1 : e x = e a) (e2 : e x = e b) : a = b := by
  refine Classical.byContradiction fun hab => hNa.1 ?_
  have hX : a &&& b < 2 ^ n := (Sub.andl a b).lt ha
  have hx := h1.lt ha
  have eX : e (a &&& b) = e a := by
    rw [← e1]
    exact h.between hx hX (h1.and h2) ((Sub.andl a b).trans (by rw [e1]; exact h.up a ha))
  have no : ∀ {c d : Nat}, c < 2 ^ n → d < 2 ^ n → isNeed e c → isNeed e d → c ≠ d → e c = e d → ¬ Sub c d := fun {c d} hc hd hNc hNd hne hee hs => hNd.1 (by
    have := ((isNeed_iff e).mp hNd).2 c hNc hs hne
    rw [hee] at this
    exact this.anti (h.up d hd))
  have hcl : e (a &&& b) = a &&& b := closed_need h hX fun f hf hfN hfs => by
    have fa := hfs.trans (Sub.andl a b)
    have fb := hfs.trans (Sub.andr a b)
    have ne1 : f ≠ a := fun z => no ha hb hNa hNb hab (e1.symm.trans e2) (z ▸ fb)
    have ne2 : f ≠ b := fun z => no hb ha hNb hNa (Ne.symm hab) (e2.symm.trans e1) (z ▸ fa)
    exact (((isNeed_iff e).mp hNa).2 f hfN fa ne1).and (((isNeed_iff e).mp hNb).2 f hfN fb ne2)
  have : Sub (e a) a := by
    rw [← eX, hcl]
    exact Sub.andl a b
  exact this.anti (h.up a ha)
end
theorem nodup_lt : ∀ (k : Nat) (is : List Nat), is.Nodup → (∀ i ∈ is, i < k) → is.length ≤ k
  | 0, [], _, _ => Nat.le_refl _
  | 0, i :: is, _, h => absurd (h i (.head _)) (Nat.not_lt_zero _)
  | k + 1, is, hn, h => by
    have h1 := nodup_lt k (is.erase k) (hn.erase k) fun i hi => by
      obtain ⟨a, b⟩ := hn.mem_erase_iff.mp hi
      have := h i b
      omega
    rw [List.length_erase] at h1
    split at h1 <;> omega
/-- lists of indices that are apart, none of them empty: no more than there are indices -/
theorem apart_len : ∀ {us : List (List Nat)} {k : Nat}, (∀ u ∈ us, u ≠ [] ∧ ∀ i ∈ u, i < k) → us.Pairwise (fun u v => ∀ i ∈ u, i ∉ v) → us.length ≤ k := by
  intro us k h hp
  have hp2 : ∃ is : List Nat, is.length = us.length ∧ is.Nodup ∧ (∀ i ∈ is, i < k) ∧ ∀ i ∈ is, ∃ u ∈ us, i ∈ u := by
    induction hp with
    | nil => exact ⟨[], rfl, .nil, fun _ h => absurd h (by simp), fun _ h => absurd h (by simp)⟩
    | @cons u us h1 h2 ih =>
      obtain ⟨is, g1, g2, g3, g4⟩ := ih fun v hv => h v (.tail _ hv)
      obtain ⟨hu, hl⟩ := h u (.head _)
      obtain ⟨i, u', rfl⟩ := List.exists_cons_of_ne_nil hu
      refine ⟨i :: is, by rw [List.length_cons, g1]; rfl, List.nodup_cons.mpr ⟨fun hi => ?_, g2⟩, fun j hj => ?_, fun j hj => ?_⟩
      · obtain ⟨v, hv, hiv⟩ := g4 i hi
        exact h1 v hv i (.head _) hiv
      · rcases List.mem_cons.mp hj with rfl | hj
        · exact hl _ (.head _)
        · exact g3 j hj
      · rcases List.mem_cons.mp hj with rfl | hj
        · exact ⟨_, .head _, .head _⟩
        · obtain ⟨v, hv, hjv⟩ := g4 j hj
          exact ⟨v, .tail _ hv, hjv⟩
  obtain ⟨is, g1, g2, g3, _⟩ := hp2
  rw [← g1]
  exact nodup_lt k is g2 g3

/-! ## lots that stay: common parts -/
theorem fold_glb {x : Nat} : ∀ {ts : List Nat} {a : Nat}, Sub x (ts.foldl (· &&& ·) a) ↔ Sub x a ∧ ∀ t ∈ ts, Sub x t
  | [], a => ⟨fun h => ⟨h, fun _ h => absurd h (by simp)⟩, fun h => h.1⟩
  | t :: ts, a => by
    rw [List.foldl_cons, fold_glb]
    refine ⟨fun ⟨h1, h2⟩ => ⟨h1.trans (Sub.andl _ _), fun u hu => ?_⟩, fun ⟨h1, h2⟩ => ⟨h1.and (h2 t (.head _)), fun u hu => h2 u (.tail _ hu)⟩⟩
    rcases List.mem_cons.mp hu with rfl | hu
    · exact h1.trans (Sub.andr _ _)
    · exact h2 u hu
/-- the common part of masks -/
def cpart : List Nat → Nat
  | [] => 0
  | a :: l => l.foldl (· &&& ·) a
theorem cpart_glb {x : Nat} {ts : List Nat} (h : ts ≠ []) : Sub x (cpart ts) ↔ ∀ t ∈ ts, Sub x t := by
  cases ts with
  | nil => exact absurd rfl h
  | cons a l =>
    refine fold_glb.trans ⟨fun ⟨h1, h2⟩ t ht => ?_, fun h => ⟨h a (.head _), fun t ht => h t (.tail _ ht)⟩⟩
    rcases List.mem_cons.mp ht with rfl | ht
    · exact h1
    · exact h2 t ht
theorem cpart_congr {ts us : List Nat} (h : ∀ t, t ∈ ts ↔ t ∈ us) : cpart ts = cpart us := by
  by_cases h0 : ts = []
  · subst h0
    have : us = [] := List.eq_nil_iff_forall_not_mem.mpr fun t ht => absurd ((h t).mpr ht) (by simp)
    rw [this]
  · have h1 : us ≠ [] := fun z => by
      obtain ⟨t, ht⟩ := List.exists_mem_of_ne_nil ts h0
      have := (h t).mp ht
      rw [z] at this
      cases this
    exact Sub.anti ((cpart_glb h1).mpr fun t ht => (cpart_glb h0).mp (Sub.refl _) t ((h t).mpr ht)) ((cpart_glb h0).mpr fun t ht => (cpart_glb h1).mp (Sub.refl _) t ((h t).mp ht))
def full (n : Nat) : Nat := 2 ^ n - 1
theorem full_lt (n : Nat) : full n < 2 ^ n := by
  have := Nat.two_pow_pos n
  unfold full
  omega
/-- by which just all, and the common parts of the masks, stay -/
def clR (n : Nat) (rs : List Nat) (m : Nat) : Nat := cpart (full n :: rs.filter fun r => decide (Sub m r))
theorem clR_glb {n x m : Nat} {rs : List Nat} : Sub x (clR n rs m) ↔ Sub x (full n) ∧ ∀ r ∈ rs, Sub m r → Sub x r := by
  unfold clR
  rw [cpart_glb (by simp)]
  refine ⟨fun h => ⟨h _ (.head _), fun r hr hs => h r (.tail _ (List.mem_filter.mpr ⟨hr, decide_eq_true hs⟩))⟩, fun ⟨h1, h2⟩ t ht => ?_⟩
  rcases List.mem_cons.mp ht with rfl | ht
  · exact h1
  · obtain ⟨h3, h4⟩ := List.mem_filter.mp ht
    exact h2 t h3 (of_decide_eq_true h4)
theorem clR_lt {n m : Nat} {rs : List Nat} : clR n rs m < 2 ^ n := (clR_glb.mp (Sub.refl (clR n rs m))).1.lt (full_lt n)
theorem clR_cl (n : Nat) (rs : List Nat) : Cl (clR n rs) n := by
  have up : ∀ m, m < 2 ^ n → Sub m (clR n rs m) := fun m hm => clR_glb.mpr ⟨sub_full hm, fun r _ hs => hs⟩
  have to : ∀ {m r : Nat}, r ∈ rs → Sub m r → Sub (clR n rs m) r := fun {m r} hr hs => (clR_glb.mp (Sub.refl _)).2 r hr hs
  refine ⟨up, fun m _ => clR_lt, fun m hm => ?_, fun m k hm hk hs he => ?_⟩
  · exact Sub.anti (clR_glb.mpr ⟨(clR_glb.mp (Sub.refl _)).1, fun r hr hs => to hr (to hr hs)⟩) (up _ clR_lt)
  · rw [← he]
    exact clR_glb.mpr ⟨(clR_glb.mp (Sub.refl _)).1, fun r hr hkr => to hr (hs.trans hkr)⟩
theorem clR_congr {n : Nat} {rs ss : List Nat} (h : ∀ r, r ∈ rs ↔ r ∈ ss) (m : Nat) : clR n rs m = clR n ss m :=
  Sub.anti (clR_glb.mpr ⟨(clR_glb.mp (Sub.refl _)).1, fun r hr hs => (clR_glb.mp (Sub.refl _)).2 r ((h r).mpr hr) hs⟩) (clR_glb.mpr ⟨(clR_glb.mp (Sub.refl _)).1, fun r hr hs => (clR_glb.mp (Sub.refl _)).2 r ((h r).mp hr) hs⟩)
section
variable {f : Nat → Nat} {n : Nat}
/-- the lots that stay above r -/
def overs (f : Nat → Nat) (n r : Nat) : List Nat := (List.range (2 ^ n)).filter fun o => decide (f o = o) && (decide (Sub r o) && !decide (r = o))
theorem overs_mem {r o : Nat} : o ∈ overs f n r ↔ o < 2 ^ n ∧ f o = o ∧ Sub r o ∧ r ≠ o := by
  unfold overs
  simp only [List.mem_filter, List.mem_range, Bool.and_eq_true, decide_eq_true_eq, Bool.not_eq_true', decide_eq_false_iff_not]
def ownB (f : Nat → Nat) (n r : Nat) : Bool := !(overs f n r).isEmpty && !decide (cpart (overs f n r) = r)
theorem ownB_iff {r : Nat} : ownB f n r = true ↔ overs f n r ≠ [] ∧ cpart (overs f n r) ≠ r := by
  unfold ownB
  simp
theorem overs_sub {r : Nat} (h : overs f n r ≠ []) : Sub r (cpart (overs f n r)) := (cpart_glb h).mpr fun o ho => (overs_mem.mp ho).2.2.1
theorem Cl.full (h : Cl f n) : f (full n) = Wk.full n := (sub_full (h.lt _ (full_lt n)) : Sub (f (Wk.full n)) (Wk.full n)).anti (h.up _ (full_lt n))
/-- told just the own ones, or more that stay, these are the Rules again -/
theorem clR_own (h : Cl f n) {S : List Nat} (h1 : ∀ r, r < 2 ^ n → f r = r → ownB f n r = true → r ∈ S) (h2 : ∀ r ∈ S, r < 2 ^ n ∧ f r = r) {m : Nat} (hm : m < 2 ^ n) : clR n S m = f m := by
  have hC := clR_cl n S
  have key : ∀ (d r : Nat), 2 ^ n - r = d → r < 2 ^ n → f r = r → Sub (clR n S r) r := by
    intro d
    induction d using Nat.strongRecOn with
    | _ d ih =>
      intro r hd hr hf
      by_cases ho : ownB f n r = true
      · exact (clR_glb.mp (Sub.refl _)).2 r (h1 r hr hf ho) (Sub.refl r)
      · by_cases he : overs f n r = []
        · have hrf : r = Wk.full n := Classical.byContradiction fun z => by
            have : Wk.full n ∈ overs f n r := overs_mem.mpr ⟨full_lt n, h.full, sub_full hr, z⟩
            rw [he] at this
            cases this
          rw [hrf]
          exact (clR_glb.mp (Sub.refl _)).1
        · have hc : cpart (overs f n r) = r := Classical.byContradiction fun z => ho (ownB_iff.mpr ⟨he, z⟩)
          have : Sub (clR n S r) (cpart (overs f n r)) := (cpart_glb he).mpr fun o hoo => by
            obtain ⟨g1, g2, g3, g4⟩ := overs_mem.mp hoo
            have := g3.le
            exact (hC.mono hr g1 g3).trans (ih (2 ^ n - o) (by omega) o rfl g1 g2)
          rw [hc] at this
          exact this
  refine Sub.anti ?_ ?_
  · exact (hC.mono hm (h.lt m hm) (h.up m hm)).trans (key _ _ rfl (h.lt m hm) (h.idem m hm))
  · exact clR_glb.mpr ⟨sub_full (h.lt m hm), fun r hr hs => h.least m r hm (h2 r hr).1 hs (h2 r hr).2⟩
/-- without one of its own they are others -/
theorem clR_without (h : Cl f n) {S : List Nat} (h2 : ∀ r ∈ S, r < 2 ^ n ∧ f r = r) {r : Nat} (hr : r < 2 ^ n) (ho : ownB f n r = true) (hn : r ∉ S) : clR n S r ≠ r := fun z => by
  obtain ⟨h3, h4⟩ := ownB_iff.mp ho
  have key : Sub (cpart (overs f n r)) (clR n S r) := by
    refine clR_glb.mpr ⟨?_, fun o hos hs => ?_⟩
    · obtain ⟨o, hoo⟩ := List.exists_mem_of_ne_nil _ h3
      exact ((cpart_glb h3).mp (Sub.refl _) o hoo).trans (sub_full (overs_mem.mp hoo).1)
    · exact (cpart_glb h3).mp (Sub.refl _) o (overs_mem.mpr ⟨(h2 o hos).1, (h2 o hos).2, hs, fun e => hn (e ▸ hos)⟩)
  rw [z] at key
  exact h4 (Sub.anti key (overs_sub h3))
end
/-- the same lots stay: the same ends -/
theorem cl_ext {f g : Nat → Nat} {n : Nat} (hf : Cl f n) (hg : Cl g n) (h : ∀ m, m < 2 ^ n → (f m = m ↔ g m = m)) {m : Nat} (hm : m < 2 ^ n) : f m = g m :=
  Sub.anti (hf.least m _ hm (hg.lt m hm) (hg.up m hm) ((h _ (hg.lt m hm)).mpr (hg.idem m hm))) (hg.least m _ hm (hf.lt m hm) (hf.up m hm) ((h _ (hf.lt m hm)).mp (hf.idem m hm)))
theorem need_congr {f g : Nat → Nat} : ∀ {k : Nat}, (∀ m, m < k → f m = g m) → need f k = need g k
  | 0, _ => rfl
  | k + 1, h => by
    have ih := need_congr (f := f) (g := g) (k := k) fun m hm => h m (by omega)
    rw [need_succ, need_succ]
    have e : isNeed f k ↔ isNeed g k := by
      unfold isNeed
      rw [ih, h k (by omega)]
      refine and_congr_right fun _ => ⟨fun q x hx hs => ?_, fun q x hx hs => ?_⟩
      · rw [← h x (by have := ((need_mem g).mp hx).1; omega)]
        exact q x hx hs
      · rw [h x (by have := ((need_mem g).mp hx).1; omega)]
        exact q x hx hs
    by_cases q : isNeed f k
    · rw [if_pos q, if_pos (e.mp q), ih]
    · rw [if_neg q, if_neg fun z => q (e.mpr z), ih]
theorem baseB_congr {ds : List Str} {f g : Nat → Nat} (h : ∀ m, m < 2 ^ ds.length → f m = g m) : baseB ds f = baseB ds g := by
  unfold baseB
  rw [need_congr h]
  refine List.map_congr_left fun l _ => ?_
  unfold bunB
  rw [h _ (mask_lt _ _)]
theorem overs_congr {f g : Nat → Nat} {n r : Nat} (h : ∀ m, m < 2 ^ n → f m = g m) : overs f n r = overs g n r := by
  unfold overs
  refine List.filter_congr fun o ho => ?_
  rw [h o (List.mem_range.mp ho)]
theorem ownB_congr {f g : Nat → Nat} {n r : Nat} (h : ∀ m, m < 2 ^ n → f m = g m) : ownB f n r = ownB g n r := by
  unfold ownB
  rw [overs_congr h]
/-- the own ones, as lots -/
def ownL (ds : List Str) (f : Nat → Nat) : List (List Str) := sortTS (((List.range (2 ^ ds.length)).filter fun r => decide (f r = r) && ownB f ds.length r).map (lotOf ds))
theorem ownL_congr {ds : List Str} {f g : Nat → Nat} (h : ∀ m, m < 2 ^ ds.length → f m = g m) : ownL ds f = ownL ds g := by
  unfold ownL
  congr 2
  refine List.filter_congr fun o ho => ?_
  rw [h o (List.mem_range.mp ho), ownB_congr h]
theorem ownL_mem {ds : List Str} {f : Nat → Nat} {l : List Str} : l ∈ ownL ds f ↔ ∃ r, r < 2 ^ ds.length ∧ f r = r ∧ ownB f ds.length r = true ∧ l = lotOf ds r := by
  unfold ownL
  rw [(sortTS_perm _).mem_iff]
  simp only [List.mem_map, List.mem_filter, List.mem_range, Bool.and_eq_true, decide_eq_true_eq]
  exact ⟨fun ⟨r, ⟨h1, h2, h3⟩, e⟩ => ⟨r, h1, h2, h3, e.symm⟩, fun ⟨r, h1, h2, h3, e⟩ => ⟨r, ⟨h1, h2, h3⟩, e.symm⟩⟩
theorem ownL_nodup {ds : List Str} {f : Nat → Nat} (hn : ds.Nodup) : (ownL ds f).Nodup := by
  unfold ownL
  rw [(sortTS_perm _).nodup_iff]
  refine List.pairwise_map.mpr ?_
  refine List.Pairwise.imp_of_mem ?_ ((List.nodup_range (n := 2 ^ ds.length)).filter fun r => decide (f r = r) && ownB f ds.length r)
  intro a b ha hb hab z
  exact hab (lotOf_inj hn (List.mem_range.mp (List.mem_filter.mp ha).1) (List.mem_range.mp (List.mem_filter.mp hb).1) z)
theorem own_few {f : Nat → Nat} {n : Nat} (hn : n ≤ 6) : ((List.range (2 ^ n)).filter fun r => decide (f r = r) && ownB f n r).length ≤ 62 := by
  have hnd : ((List.range (2 ^ n)).filter fun r => decide (f r = r) && ownB f n r).Nodup := List.nodup_range.filter _
  have hlt : ∀ r ∈ (List.range (2 ^ n)).filter (fun r => decide (f r = r) && ownB f n r), r < 2 ^ n - 1 ∧ f r = r ∧ ownB f n r = true := fun r hr => by
    obtain ⟨h1, h2⟩ := List.mem_filter.mp hr
    rw [Bool.and_eq_true, decide_eq_true_eq] at h2
    have h3 := List.mem_range.mp h1
    refine ⟨?_, h2⟩
    have hne : r ≠ 2 ^ n - 1 := fun z => by
      obtain ⟨h4, _⟩ := ownB_iff.mp h2.2
      obtain ⟨o, ho⟩ := List.exists_mem_of_ne_nil _ h4
      obtain ⟨g1, g2, g3, g4⟩ := overs_mem.mp ho
      have := g3.le
      omega
    omega
  generalize (List.range (2 ^ n)).filter (fun r => decide (f r = r) && ownB f n r) = L at hnd hlt ⊢
  by_cases h6 : n = 6
  · subst h6
    obtain ⟨x, hx, hxL⟩ : ∃ x, x < 63 ∧ x ∉ L := by
      by_cases h1 : 1 ∈ L
      · by_cases h2 : 2 ∈ L
        · refine ⟨0, by decide, fun h0 => ?_⟩
          obtain ⟨_, f1, _⟩ := hlt 1 h1
          obtain ⟨_, f2, _⟩ := hlt 2 h2
          obtain ⟨_, _, o0⟩ := hlt 0 h0
          obtain ⟨g1, g2⟩ := ownB_iff.mp o0
          have m1 := (cpart_glb g1).mp (Sub.refl _) 1 (overs_mem.mpr ⟨by decide, f1, rfl, by decide⟩)
          have m2 := (cpart_glb g1).mp (Sub.refl _) 2 (overs_mem.mpr ⟨by decide, f2, rfl, by decide⟩)
          have l1 := m1.le
          generalize cpart (overs f 6 0) = c at *
          have : c = 0 ∨ c = 1 := by omega
          rcases this with rfl | rfl
          · exact g2 rfl
          · cases m2
        · exact ⟨2, by decide, h2⟩
      · exact ⟨1, by decide, h1⟩
    have := nodup_lt 63 (x :: L) (List.nodup_cons.mpr ⟨hxL, hnd⟩) fun r hr => by
      rcases List.mem_cons.mp hr with rfl | hr
      · exact hx
      · exact (hlt r hr).1
    rw [List.length_cons] at this
    omega
  · have h5 : 2 ^ n ≤ 2 ^ 5 := Nat.pow_le_pow_right (by decide) (by omega)
    have := nodup_lt (2 ^ n) L hnd fun r hr => by
      have := (hlt r hr).1
      omega
    omega
theorem ownL_len {ds : List Str} {f : Nat → Nat} (hn : ds.length ≤ 6) : (ownL ds f).length ≤ 62 := by
  unfold ownL
  rw [(sortTS_perm _).length_eq, List.length_map]
  exact own_few hn

/-! ## of two closures: both together, what they have in common -/
section
variable {f g h : Nat → Nat} {n : Nat}
/-- the common one -/
def mtF (f g : Nat → Nat) (m : Nat) : Nat := f m &&& g m
/-- both together -/
def jnF (n : Nat) (f g : Nat → Nat) : Nat → Nat := clR n ((List.range (2 ^ n)).filter fun r => decide (f r = r) && decide (g r = r))
theorem jn_mem {r : Nat} : r ∈ ((List.range (2 ^ n)).filter fun r => decide (f r = r) && decide (g r = r)) ↔ r < 2 ^ n ∧ f r = r ∧ g r = r := by
  rw [List.mem_filter, List.mem_range, Bool.and_eq_true, decide_eq_true_eq, decide_eq_true_eq]
theorem jn_cl : Cl (jnF n f g) n := clR_cl n _
theorem mt_cl (hf : Cl f n) (hg : Cl g n) : Cl (mtF f g) n := by
  have up : ∀ m, m < 2 ^ n → Sub m (mtF f g m) := fun m hm => (hf.up m hm).and (hg.up m hm)
  have lt : ∀ m, m < 2 ^ n → mtF f g m < 2 ^ n := fun m hm => (Sub.andl _ _).lt (hf.lt m hm)
  have mono : ∀ a b, a < 2 ^ n → b < 2 ^ n → Sub a b → Sub (mtF f g a) (mtF f g b) := fun a b ha hb s => ((Sub.andl _ _).trans (hf.mono ha hb s)).and ((Sub.andr _ _).trans (hg.mono ha hb s))
  refine ⟨up, lt, fun m hm => Sub.anti ?_ (up _ (lt m hm)), fun m k hm hk s e => ?_⟩
  · refine Sub.and ((Sub.andl _ _).trans ?_) ((Sub.andr _ _).trans ?_)
    · have := hf.mono (lt m hm) (hf.lt m hm) (Sub.andl (f m) (g m))
      rw [hf.idem m hm] at this
      exact this
    · have := hg.mono (lt m hm) (hg.lt m hm) (Sub.andr (f m) (g m))
      rw [hg.idem m hm] at this
      exact this
  · have := mono m k hm hk s
    rw [e] at this
    exact this
theorem jn_fix (hf : Cl f n) (hg : Cl g n) {m : Nat} (hm : m < 2 ^ n) : jnF n f g m = m ↔ f m = m ∧ g m = m := by
  have up : Sub m (jnF n f g m) := jn_cl.up m hm
  have low : ∀ h : Nat → Nat, Cl h n → (∀ r, r ∈ ((List.range (2 ^ n)).filter fun r => decide (f r = r) && decide (g r = r)) → h r = r) → Sub (h (jnF n f g m)) (jnF n f g m) := fun h hh k => by
    refine clR_glb.mpr ⟨sub_full (hh.lt _ (jn_cl.lt m hm)), fun r hr hs => ?_⟩
    have h1 : Sub (jnF n f g m) r := (clR_glb.mp (Sub.refl _)).2 r hr hs
    have := hh.mono (jn_cl.lt m hm) (jn_mem.mp hr).1 h1
    rw [k r hr] at this
    exact this
  refine ⟨fun e => ?_, fun ⟨h1, h2⟩ => Sub.anti ?_ up⟩
  · have a := low f hf fun r hr => (jn_mem.mp hr).2.1
    have b := low g hg fun r hr => (jn_mem.mp hr).2.2
    rw [e] at a b
    exact ⟨a.anti (hf.up m hm), b.anti (hg.up m hm)⟩
  · exact (clR_glb.mp (Sub.refl _)).2 m (jn_mem.mpr ⟨hm, h1, h2⟩) (Sub.refl m)
/-- just where the one's lots that stay do so by the other, the one is no more than the other -/
theorem fix_le (hf : Cl f n) (hg : Cl g n) : (∀ m, m < 2 ^ n → g m = m → f m = m) ↔ ∀ m, m < 2 ^ n → Sub (f m) (g m) :=
  ⟨fun k m hm => hf.least m (g m) hm (hg.lt m hm) (hg.up m hm) (k _ (hg.lt m hm) (hg.idem m hm)), fun k m hm e => by
    have := k m hm
    rw [e] at this
    exact this.anti (hf.up m hm)⟩
theorem jn_comm {m : Nat} : jnF n f g m = jnF n g f m := clR_congr (fun r => by rw [jn_mem, jn_mem, and_comm (a := f r = r)]) m
theorem mt_comm {m : Nat} : mtF f g m = mtF g f m := Nat.and_comm _ _
theorem jn_congr {f' g' : Nat → Nat} (h1 : ∀ m, m < 2 ^ n → f m = f' m) (h2 : ∀ m, m < 2 ^ n → g m = g' m) (m : Nat) : jnF n f g m = jnF n f' g' m := clR_congr (fun r => by
  rw [jn_mem, jn_mem]
  constructor
  · rintro ⟨a, b, c⟩
    exact ⟨a, by rw [← h1 r a, b], by rw [← h2 r a, c]⟩
  · rintro ⟨a, b, c⟩
    exact ⟨a, by rw [h1 r a, b], by rw [h2 r a, c]⟩) m
theorem jn_assoc (hf : Cl f n) (hg : Cl g n) (hh : Cl h n) {m : Nat} (hm : m < 2 ^ n) : jnF n (jnF n f g) h m = jnF n f (jnF n g h) m :=
  cl_ext jn_cl jn_cl (fun m hm => by rw [jn_fix jn_cl hh hm, jn_fix hf hg hm, jn_fix hf jn_cl hm, jn_fix hg hh hm, and_assoc]) hm
theorem mt_assoc {m : Nat} : mtF (mtF f g) h m = mtF f (mtF g h) m := Nat.and_assoc _ _ _
theorem mt_le_l (m : Nat) : Sub (mtF f g m) (f m) := Sub.andl _ _
theorem mt_le_r (m : Nat) : Sub (mtF f g m) (g m) := Sub.andr _ _
theorem jn_up_l (hf : Cl f n) (hg : Cl g n) {m : Nat} (hm : m < 2 ^ n) (e : jnF n f g m = m) : f m = m := ((jn_fix hf hg hm).mp e).1
theorem jn_up_r (hf : Cl f n) (hg : Cl g n) {m : Nat} (hm : m < 2 ^ n) (e : jnF n f g m = m) : g m = m := ((jn_fix hf hg hm).mp e).2
/-- a | a & b -/
theorem absorb_j (hf : Cl f n) (hg : Cl g n) {m : Nat} (hm : m < 2 ^ n) : jnF n f (mtF f g) m = f m :=
  cl_ext jn_cl hf (fun m hm => (jn_fix hf (mt_cl hf hg) hm).trans ⟨fun h => h.1, fun h => ⟨h, (fix_le (mt_cl hf hg) hf).mpr (fun m _ => mt_le_l m) m hm h⟩⟩) hm
/-- a & (a | b) -/
theorem absorb_m (hf : Cl f n) (hg : Cl g n) {m : Nat} (hm : m < 2 ^ n) : mtF f (jnF n f g) m = f m := by
  have h1 : Sub (f m) (jnF n f g m) := (fix_le hf jn_cl).mp (fun m hm e => jn_up_l hf hg hm e) m hm
  exact Sub.anti (Sub.andl _ _) ((Sub.refl _).and h1)
/-- a & b within c, or a & b & c is a & b -/
theorem mt_within (hf : Cl f n) (hh : Cl h n) : (∀ m, m < 2 ^ n → h m = m → f m = m) ↔ ∀ m, m < 2 ^ n → mtF f h m = f m := by
  rw [fix_le hf hh]
  exact forall_congr' fun m => forall_congr' fun hm => ⟨fun s => Sub.anti (Sub.andl _ _) ((Sub.refl _).and s), fun e => by rw [← e]; exact Sub.andr _ _⟩
/-- a within b, or a | b is b -/
theorem jn_within (hf : Cl f n) (hg : Cl g n) : (∀ m, m < 2 ^ n → g m = m → f m = m) ↔ ∀ m, m < 2 ^ n → jnF n f g m = g m := by
  refine ⟨fun k m hm => cl_ext jn_cl hg (fun m hm => (jn_fix hf hg hm).trans ⟨fun h => h.2, fun h => ⟨k m hm h, h⟩⟩) hm, fun k m hm e => ?_⟩
  have := k m hm
  rw [e] at this
  exact jn_up_l hf hg hm this
/-- what is on stays on: f (f l or m) is f (l or m) -/
theorem more_on (hf : Cl f n) {a b : Nat} (ha : a < 2 ^ n) (hb : b < 2 ^ n) : f (f a ||| b) = f (a ||| b) := by
  have lab : a ||| b < 2 ^ n := Nat.or_lt_two_pow ha hb
  have lfb : f a ||| b < 2 ^ n := Nat.or_lt_two_pow (hf.lt a ha) hb
  refine Sub.anti (hf.least _ _ lfb (hf.lt _ lab) (Sub.or (hf.mono ha lab (Sub.orl _ _)) ((Sub.orr _ _).trans (hf.up _ lab))) (hf.idem _ lab)) (hf.mono lab lfb (Sub.or ((hf.up a ha).trans (Sub.orl _ _)) (Sub.orr _ _)))
/-- one after the other, until neither leads on -/
theorem step_sub (hf : Cl f n) (hg : Cl g n) {m k : Nat} (hm : m < 2 ^ n) (hk : Sub m k) (hkn : k < 2 ^ n) (s : Sub k (jnF n f g m)) : Sub k (g (f k)) ∧ g (f k) < 2 ^ n ∧ Sub (g (f k)) (jnF n f g m) := by
  have lf := hf.lt k hkn
  have jl := jn_cl (f := f) (g := g).lt m hm
  obtain ⟨e1, e2⟩ := (jn_fix hf hg jl).mp (jn_cl.idem m hm)
  have s1 : Sub (f k) (jnF n f g m) := hf.least k _ hkn jl s e1
  exact ⟨(hf.up k hkn).trans (hg.up _ lf), hg.lt _ lf, hg.least _ _ lf jl s1 e2⟩
theorem step_end (hf : Cl f n) (hg : Cl g n) {m k : Nat} (hm : m < 2 ^ n) (hk : Sub m k) (hkn : k < 2 ^ n) (s : Sub k (jnF n f g m)) (e : g (f k) = k) : k = jnF n f g m := by
  have lf := hf.lt k hkn
  have h1 : f k = k := by
    refine Sub.anti ?_ (hf.up k hkn)
    have := hg.up _ lf
    rw [e] at this
    exact this
  have h2 : g k = k := by
    rw [h1] at e
    exact e
  exact s.anti (jn_cl.least m k hm hkn hk ((jn_fix hf hg hkn).mpr ⟨h1, h2⟩))
end

section
open PySem PySem.W PySem.Calls PyProof.V
/-! ## == of dicts whose keys are tuples -/
section
variable {prog : Program} {w : World} {K : Type} [DecidableEq K] {knd : HeapKind prog w K} {A : Around} {E : Value → Shared → Prop} {s : Shared}
inductive HitsH {K : Type} [DecidableEq K] (prog : Program) (w : World) (A : Around) (s : Shared) (kb : List (K × Addr × Value)) : List (K × Addr × Value) → Bool → Prop
  | nil : HitsH prog w A s kb [] true
  | hit {k : K} {q : Addr} {v : Value} {p : Addr × Value} {r : List (K × Addr × Value)} {e b : Bool} : atKey kb k = some p → SeqAt.EqP prog w A s v p.2 e → HitsH prog w A s kb r b → HitsH prog w A s kb ((k, q, v) :: r) (e && b)
theorem samePairsH {nm : String} {a b : Addr} {ka kb : List (K × Addr × Value)} {r : Bool} {Q : Bool → Shared → Prop} (ha : (a == sysModules) = false) (hb : (b == sysModules) = false)
    (da : s.heap.DictOfH knd a ka) (db : s.heap.DictOfH knd b kb) (hu : knd.room A) (hlen : ka.length = kb.length) (hits : HitsH prog w A s kb ka r) (h : Q r s) :
    wpAny (model prog w) A (Builtin.Dict.samePairs nm a b) Q E s := by
  obtain ⟨oa, es, ep, hoa, _, hda, hea, hia, hna⟩ := da
  obtain ⟨ob, es', ep', hob, _, hdb, heb, hib, hnb⟩ := db
  have hla : es.size = ka.length := size_of_entries hea
  have hlb : es'.size = kb.length := size_of_entries heb
  unfold Builtin.Dict.samePairs Builtin.Dict.showsAll
  rw [if_neg (show ¬ (a == sysModules) = true by rw [ha]; exact Bool.false_ne_true), if_neg (show ¬ (b == sysModules) = true by rw [hb]; exact Bool.false_ne_true)]
  refine wpAny_bind (wpAny_pure (wpAny_bind (wpAny_pure ?_)))
  refine wpAny_bind (wpAny_dictEntries hoa hda ?_)
  dsimp only
  refine wpAny_bind (wpAny_dictEntries hob hdb ?_)
  have hsz : es.size = es'.size := by omega
  rw [if_neg (by rw [hsz]; simp)]
  refine wpAny_bind (wpAny_dictEpoch hoa hda ?_)
  refine wpAny_bind ?_
  rw [Std.Legacy.Range.forIn_eq_forIn_range']
  simp only [Std.Legacy.Range.size, Nat.sub_zero, Nat.add_sub_cancel, Nat.div_one]
  refine wpAny_forIn_list _
    (fun rest q s' => s' = s ∧ q = (none, ()) ∧ ∃ i, rest = List.range' i (es.size - i) ∧ i ≤ es.size ∧ HitsH prog w A s kb (ka.drop i) r)
    _ ?_ ?_ _ _ ⟨rfl, rfl, 0, by simp, Nat.zero_le _, hits⟩
  · rintro x rest q s' ⟨rfl, rfl, i, hr, hi, hpre⟩
    have hlt : i < es.size := by
      rcases Nat.lt_or_ge i es.size with h | h
      · exact h
      · rw [Nat.sub_eq_zero_of_le h] at hr; simp at hr
    obtain ⟨rfl, hrest⟩ : x = i ∧ rest = List.range' (i + 1) (es.size - (i + 1)) := by
      have e : es.size - i = (es.size - (i + 1)) + 1 := by omega
      rw [e, List.range'_succ] at hr
      injection hr with h1 h2
      exact ⟨h1, h2⟩
    refine wpAny_bind (wpAny_dictEntries hoa hda ?_)
    rw [Array.getElem?_eq_getElem hlt]
    have hlt' : x < ka.length := by omega
    obtain ⟨k, q, v, hkv⟩ : ∃ k q v, ka[x] = (k, q, v) := ⟨_, _, _, rfl⟩
    have hdrop : ka.drop x = (k, q, v) :: ka.drop (x + 1) := by rw [← hkv]; exact List.drop_eq_getElem_cons hlt'
    have hent : es[x] = entryOfKey knd (k, q, v) := by
      have := entry_at hea x
      rw [Array.getElem?_eq_getElem hlt, List.getElem?_eq_getElem hlt', hkv] at this
      exact Option.some.inj this
    have hkey : knd.is s'.heap k q := by
      have := hia _ (List.getElem_mem hlt')
      rw [hkv] at this
      exact this
    rw [hdrop] at hpre
    rw [hent]
    dsimp only [entryOfKey]
    refine wpAny_bind (wpAny_holding (wpAny_bind (wpAny_dictFind_heap hu hkey hob hdb heb hib hnb (fun hno => ?_) fun j p hj => ?_)))
    · cases hpre with
      | hit hy he hrr =>
        rw [atKey_none_of_get hno] at hy
        exact nomatch hy
    · have hat := atKey_of_get hnb hj
      have hjlt : j < es'.size := by
        rw [hlb]
        exact (List.getElem?_eq_some_iff.mp hj).1
      have hent' : es'[j] = entryOfKey knd (k, p) := by
        have := entry_at heb j
        rw [Array.getElem?_eq_getElem hjlt, hj] at this
        exact Option.some.inj this
      refine wpAny_bind (wpAny_dictEntries hob hdb ?_)
      rw [Array.getElem?_eq_getElem hjlt, hent']
      cases hpre with
      | hit hy he hrr =>
        rename_i p' e b'
        rw [hat] at hy
        obtain rfl := Option.some.inj hy
        dsimp only
        refine wpAny_holding (he _ _ ?_)
        cases e with
        | false =>
          rw [Bool.false_and] at h
          show wpAny _ _ (if (!false) = true then _ else _) _ _ _
          rw [if_pos (by decide)]
          exact wpAny_pure (wpAny_pure h)
        | true =>
          show wpAny _ _ (if (!true) = true then _ else _) _ _ _
          rw [if_neg (by decide)]
          refine wpAny_bind (wpAny_dictEpoch hoa hda ?_)
          rw [if_neg (by simp)]
          exact wpAny_pure ⟨rfl, rfl, x + 1, hrest, hlt, by rw [Bool.true_and]; exact hrr⟩
  · rintro q s' ⟨rfl, rfl, i, hr, hi, hpre⟩
    have hin : i = es.size := by
      rcases Nat.lt_or_ge i es.size with h | h
      · have e : es.size - i = (es.size - (i + 1)) + 1 := by omega
        rw [e, List.range'_succ] at hr; exact nomatch hr
      · exact Nat.le_antisymm hi h
    refine wpAny_pure ?_
    rw [hin, hla, List.drop_length] at hpre
    cases hpre
    exact h
theorem rcH_dicts {a b : Addr} {ka kb : List (K × Addr × Value)} {r : Bool} (ha : (a == sysModules) = false) (hb : (b == sysModules) = false)
    (da : s.heap.DictOfH knd a ka) (db : s.heap.DictOfH knd b kb) (hu : A.units < cLine) (hr : knd.room A.in1) (hlen : ka.length = kb.length) (hits : HitsH prog w A.in1 s kb ka r) (Q : Value → Shared → Prop) (h : Q (.bool r) s) : wpAny (model prog w) A (compareOp .Eq (.ref a) (.ref b)) Q E s := by
  refine wpAny_richCompare_same_room (op := .Eq) da.typeIs db.typeIs PySem.F.slot_dict_eq (wpAny_call_entry PySem.F.slot_dict_eq da.typeIs PySem.F.entry_dict_eq ?_ (PySem.F.args_dict_eq_2 _ _)) hu
  show wpAny _ _ (Builtin.Dict.dictSlotArgs "__eq__" ⟨[.ref a, .ref b], []⟩ >>= _) _ _ s
  refine wpAny_bind ?_
  unfold Builtin.Dict.dictSlotArgs
  refine wpAny_bind (wpAny_notOrdered_dict da.typeIs ?_)
  show wpAny _ _ (pure (Value.ref a, Value.ref b)) _ _ s
  refine wpAny_pure ?_
  refine wpAny_bind (wpAny_isInstance (T := "dict") db.typeIs PySem.F.sub_dict_dict ?_)
  simp only [Bool.not_true, Bool.false_eq_true, if_false]
  refine wpAny_bind (wpAny_pure (wpAny_bind (wpAny_pure ?_)))
  refine wpAny_bind (samePairsH ha hb da db hr hlen hits ?_)
  refine wpAny_pure ⟨_, rfl, ?_, ?_⟩
  · exact fun x => nomatch x
  · simpa using h
theorem rcH_dictsN {a b : Addr} {ka kb : List (K × Addr × Value)} {r : Bool} (ha : (a == sysModules) = false) (hb : (b == sysModules) = false)
    (da : s.heap.DictOfH knd a ka) (db : s.heap.DictOfH knd b kb) (hu : A.units < cLine) (hr : knd.room A.in1) (hlen : ka.length = kb.length) (hits : HitsH prog w A.in1 s kb ka r) (Q : Value → Shared → Prop) (h : Q (.bool (!r)) s) : wpAny (model prog w) A (compareOp .NotEq (.ref a) (.ref b)) Q E s := by
  refine wpAny_richCompare_same_room (op := .NotEq) da.typeIs db.typeIs PySem.F.slot_dict_ne (wpAny_call_entry PySem.F.slot_dict_ne da.typeIs PySem.F.entry_dict_ne ?_ (PySem.F.args_dict_ne_2 _ _)) hu
  show wpAny _ _ (Builtin.Dict.dictSlotArgs "__ne__" ⟨[.ref a, .ref b], []⟩ >>= _) _ _ s
  refine wpAny_bind ?_
  unfold Builtin.Dict.dictSlotArgs
  refine wpAny_bind (wpAny_notOrdered_dict da.typeIs ?_)
  show wpAny _ _ (pure (Value.ref a, Value.ref b)) _ _ s
  refine wpAny_pure ?_
  refine wpAny_bind (wpAny_isInstance (T := "dict") db.typeIs PySem.F.sub_dict_dict ?_)
  simp only [Bool.not_true, Bool.false_eq_true, if_false]
  refine wpAny_bind (wpAny_pure (wpAny_bind (wpAny_pure ?_)))
  refine wpAny_bind (samePairsH ha hb da db hr hlen hits ?_)
  refine wpAny_pure ⟨_, rfl, ?_, ?_⟩
  · exact fun x => nomatch x
  · simpa using h
end
end
def DataAt (K : PySem.W.Frag) (H : Hp) (kv : List Key × V) (d : PyData) : Prop := Dp K H kv.2 d ∧ SeqAt.shaped d = true
def rEqDT (K : PySem.W.Frag) : R2 := fun x y H Q => ∃ a b kvs kvs' ds es, x = .ref a ∧ y = .ref b ∧ H a = some (.dT kvs) ∧ H b = some (.dT kvs') ∧ kvs.map (·.1) = kvs'.map (·.1) ∧ Paired (DataAt K H) kvs ds ∧ Paired (DataAt K H) kvs' es ∧ Q (.bl (PyData.eqvAll ds es)) H
def rNeDT (K : PySem.W.Frag) : R2 := fun x y H Q => ∃ a b kvs kvs' ds es, x = .ref a ∧ y = .ref b ∧ H a = some (.dT kvs) ∧ H b = some (.dT kvs') ∧ kvs.map (·.1) = kvs'.map (·.1) ∧ Paired (DataAt K H) kvs ds ∧ Paired (DataAt K H) kvs' es ∧ Q (.bl (!PyData.eqvAll ds es)) H
theorem paired_at2 {α β : Type} {R : α → β → Prop} : ∀ {l : List α} {m : List β} {n : Nat} {b : β}, Paired R l m → m[n]? = some b → ∃ a, l[n]? = some a ∧ R a b
  | _, _, _, _, .nil, h => nomatch h
  | _, _, 0, _, .cons r _, h => ⟨_, rfl, by cases h; exact r⟩
  | _, _, n + 1, _, .cons _ t, h => paired_at2 (n := n) t h
section
variable {X : Cx} {pins : List (Addr × Obj)} {σ : L2.St} {H : Hp} {s : Shared}
theorem hitsT (I : Inv X pins σ H s) {A : Around} (hu : A.units + 64 < cLine) {kvs kvs' : List (List Key × V)} {ds es : List PyData} {xs xs' : List (List Key × Addr × Value)} (hk : kvs.map (·.1) = kvs'.map (·.1)) (ha : Paired (DataAt X.K H) kvs ds) (hb : Paired (DataAt X.K H) kvs' es)
    (ra : KT H kvs xs) (rb : KT H kvs' xs') (hn : (xs'.map (·.1)).Nodup) : ∀ (n i : Nat), i + n = kvs.length → HitsH X.prog X.w A s xs' (xs.drop i) (PyData.eqvAll (ds.drop i) (es.drop i))
  | 0, i, h => by
    have h1 := Paired.length ha
    have h2 := Paired.length hb
    have h3 := Paired.length ra
    have h4 : kvs.length = kvs'.length := by simpa using congrArg List.length hk
    rw [List.drop_of_length_le (by omega), List.drop_of_length_le (by omega), List.drop_of_length_le (by omega)]
    exact .nil
  | n + 1, i, h => by
    have h1 := Paired.length ha
    have h2 := Paired.length hb
    have h3 := Paired.length ra
    have h4 : kvs.length = kvs'.length := by simpa using congrArg List.length hk
    have h5 := Paired.length rb
    have gx : xs[i]? = some (xs[i]'(by omega)) := List.getElem?_eq_getElem _
    have gx' : xs'[i]? = some (xs'[i]'(by omega)) := List.getElem?_eq_getElem _
    have gd : ds[i]? = some (ds[i]'(by omega)) := List.getElem?_eq_getElem _
    have ge : es[i]? = some (es[i]'(by omega)) := List.getElem?_eq_getElem _
    rw [List.drop_eq_getElem_cons (show i < xs.length by omega), List.drop_eq_getElem_cons (show i < ds.length by omega), List.drop_eq_getElem_cons (show i < es.length by omega)]
    have ih := hitsT I hu hk ha hb ra rb hn n (i + 1) (by omega)
    obtain ⟨kv, hkv, r1, r2, r3⟩ := paired_at2 ra gx
    obtain ⟨kv', hkv', t1, t2, t3⟩ := paired_at2 rb gx'
    obtain ⟨kv2, hkv2, d1, d2⟩ := paired_at2 ha gd
    obtain ⟨kv3, hkv3, e1, e2⟩ := paired_at2 hb ge
    rw [hkv] at hkv2
    obtain rfl := Option.some.inj hkv2
    rw [hkv'] at hkv3
    obtain rfl := Option.some.inj hkv3
    have hkey : kv.1 = kv'.1 := by
      have := congrArg (fun l => l[i]?) hk
      simp only [List.getElem?_map, hkv, hkv', Option.map_some] at this
      exact Option.some.inj this
    generalize xs[i]'(by omega) = x at *
    generalize xs'[i]'(by omega) = x' at *
    generalize ds[i]'(by omega) = d at *
    generalize es[i]'(by omega) = e at *
    obtain ⟨k, q, v⟩ := x
    obtain ⟨k', p⟩ := x'
    have hkk : k = k' := by
      have z1 : kv.1 = k := r1
      have z2 : kv'.1 = k' := t1
      rw [← z1, ← z2, hkey]
    subst hkk
    obtain ⟨as, q1⟩ := Dp.reads I d _ _ d1 r3
    obtain ⟨bs, q2⟩ := Dp.reads I e _ _ e1 t3
    show HitsH X.prog X.w A s xs' ((k, q, v) :: xs.drop (i + 1)) (PyData.eqv d e && PyData.eqvAll (ds.drop (i + 1)) (es.drop (i + 1)))
    exact .hit (atKey_of_get hn gx') (SeqAt.EqAt.eqP (SeqAt.eqAt_reads d e A s _ _ as bs q1 q2 (SeqAt.canLay_of_shaped d2) (SeqAt.canLay_of_shaped e2) (SeqAt.room_of_shaped d2 hu))) ih
end
theorem units70 {k : Nat} {A : Around} (r : Room k A) : A.units + 70 < cLine := by have := r.un; omega
section
variable {X : Cx}
theorem op_eqDT (hu : X.A.units + 70 < cLine) : OpR X (compareOp .Eq) (rEqDT X.K) := by
  intro pins s σ H x y v u Q I rx ry h
  obtain ⟨a, b, kvs, kvs', ds, es, rfl, rfl, ea, eb, hk, ha, hb, q⟩ := h
  obtain rfl : v = Value.ref a := rx
  obtain rfl : u = Value.ref b := ry
  obtain ⟨_, ya, xs, ra, da⟩ := dt_of I.hok ea
  obtain ⟨_, yb, xs', rb, db⟩ := dt_of I.hok eb
  have hn : (xs'.map (·.1)).Nodup := by
    obtain ⟨_, _, _, _, _, _, _, _, hn⟩ := db
    exact hn
  have h1 : xs.length = xs'.length := by
    rw [← Paired.length ra, ← Paired.length rb]
    simpa using congrArg List.length hk
  have hh := hitsT I (A := X.A.in1) (by show X.A.units + 1 + 64 < cLine; omega) hk ha hb ra rb hn kvs.length 0 (Nat.zero_add _)
  rw [List.drop_zero, List.drop_zero, List.drop_zero] at hh
  exact rcH_dicts ya yb da db (by omega) (by show X.A.units + 1 < cLine; omega) h1 hh _ ⟨.bl _, H, I, rfl, q⟩
theorem op_neDT (hu : X.A.units + 70 < cLine) : OpR X (compareOp .NotEq) (rNeDT X.K) := by
  intro pins s σ H x y v u Q I rx ry h
  obtain ⟨a, b, kvs, kvs', ds, es, rfl, rfl, ea, eb, hk, ha, hb, q⟩ := h
  obtain rfl : v = Value.ref a := rx
  obtain rfl : u = Value.ref b := ry
  obtain ⟨_, ya, xs, ra, da⟩ := dt_of I.hok ea
  obtain ⟨_, yb, xs', rb, db⟩ := dt_of I.hok eb
  have hn : (xs'.map (·.1)).Nodup := by
    obtain ⟨_, _, _, _, _, _, _, _, hn⟩ := db
    exact hn
  have h1 : xs.length = xs'.length := by
    rw [← Paired.length ra, ← Paired.length rb]
    simpa using congrArg List.length hk
  have hh := hitsT I (A := X.A.in1) (by show X.A.units + 1 + 64 < cLine; omega) hk ha hb ra rb hn kvs.length 0 (Nat.zero_add _)
  rw [List.drop_zero, List.drop_zero, List.drop_zero] at hh
  exact rcH_dictsN ya yb da db (by omega) (by show X.A.units + 1 < cLine; omega) h1 hh _ ⟨.bl _, H, I, rfl, q⟩
end

/-! ## d[k], k any tuple of texts, wherever it stands -/
def tDGetS (K : PySem.W.Frag) (td ty : TE) : TE := fun σ H Q => td σ H fun x H1 => ty σ H1 fun y H2 => ∃ (a b : Addr) (kvs : List (List Key × V)) (k : List Key) (v : V), x = .ref a ∧ y = .ref b ∧ H2 a = some (.dT kvs) ∧ SqT K H2 b (k.map kV) ∧ valV kvs k = some v ∧ Q v H2
section
variable {X : Cx} {o i : Expr} {td ty : TE} {pos : Pos}
theorem key_ofS {pins : List (Addr × Obj)} {σ : L2.St} {H : Hp} {s : Shared} {b : Addr} {ks : List Key} (I : Inv X pins σ H s) (e : SqT X.K H b (ks.map kV)) : (tupleKind (mixKind X.prog X.w)).is s.heap ks b := by
  obtain ⟨its, r, ⟨o, h1, h2, n, h3⟩, _⟩ := I.tuple e
  exact ⟨o, its.toArray, n, h1, h2, h3, by simpa using items_are r⟩
theorem pe_dgetS (hu : X.A.units + 1 < cLine) (ho : PE X o td) (hi : PE X i ty) (hs : NoSl i) : PE X (.Subscript o i pos) (tDGetS X.K td ty) := by
  refine ⟨fun pins s σ H Q I h => ?_⟩
  refine subD_of PySem.F.slot_dict_getitem.lookup hs (thn (ho.run pins s σ H _ I h) fun u s1 ⟨x, H1, I1, rx, q1⟩ => thn (hi.run pins s1 σ H1 _ I1 q1) fun iv s2 ⟨y, H2, I2, ry, a, b, kvs, k, v, ex, ey, g, gk, l, q2⟩ => ?_)
  subst ex
  subst ey
  obtain rfl : u = Value.ref a := rx
  obtain rfl : iv = Value.ref b := ry
  obtain ⟨z, hd, xs, rel, dd⟩ := dt_of I2.hok g
  obtain ⟨w', hw, rw'⟩ := RelO.some_of (v := v) (o := (atKey xs k).map (·.2)) (by rw [← l]; exact rel.val k)
  obtain ⟨p, hp, hp2⟩ := Option.map_eq_some_iff.mp hw
  refine ⟨dd.typeIs, wpAny_getItem_heap (tupleKind_room_in1 hu) (key_ofS I2 gk) dd hp ?_⟩
  rw [hp2]
  exact ⟨v, H2, I2.tok _, rw', q2⟩
end
theorem w_dgetS {K : PySem.W.Frag} {σ : L2.St} {H : Hp} {td ty : TE} {Q : VK} (k : td σ H fun x H1 => ty σ H1 fun y H2 => ∃ (a b : Addr) (kvs : List (List Key × V)) (k : List Key) (v : V), x = .ref a ∧ y = .ref b ∧ H2 a = some (.dT kvs) ∧ SqT K H2 b (k.map kV) ∧ valV kvs k = some v ∧ Q v H2) : tDGetS K td ty σ H Q := k
theorem pe_dgetSK {X : Cx} {K : PySem.W.Frag} {o i : Expr} {td ty : TE} {pos : Pos} (h : X.K = K) (hu : X.A.units + 1 < cLine) (ho : PE X o td) (hi : PE X i ty) (hs : NoSl i) : PE X (.Subscript o i pos) (tDGetS K td ty) := by
  subst h
  exact pe_dgetS hu ho hi hs
theorem pi_listK {X : Cx} {K : PySem.W.Frag} {tg l : Expr} {tl : TE} (h : X.K = K) (hl : PE X l tl) : PI X tg l (iList K tl) := by
  subst h
  exact pi_list hl
theorem pe_fldK {X : Cx} {K : PySem.W.Frag} {e : Expr} {ta : TE} {f : Str} {pos : Pos} (h : X.K = K) (ha : PE X e ta) (hb : attributeBase e f X.env (eval e X.env) = eval e X.env) : PE X (.Attribute e f pos) (tFld K ta f) := by
  subst h
  exact pe_fld ha hb
theorem sl_listK {X : Cx} {K : PySem.W.Frag} (h : X.K = K) : SlR X (rSlL K) := by
  subst h
  exact sl_list
theorem pa_starK {X : Cx} {K : PySem.W.Frag} {e : Expr} {es : List Expr} {te : TE} {t : TA} {p : Pos} (h : X.K = K) (he : PE X e te) (hr : PA X es t) (hs : starEach (.Starred e p :: es) X.env = (true, eval e X.env) :: starEach es X.env := by rfl) : PA X (.Starred e p :: es) (StX.tStar K te t) := by
  subst h
  exact StX.pa_star he hr hs
theorem w_star {K : PySem.W.Frag} {σ : L2.St} {H : Hp} {te : TE} {t : TA} {Q : List V → Hp → Prop} (k : te σ H fun x H1 => ∃ p xs, x = V.ref p ∧ (SqT K H1 p xs ∨ SqL K H1 p xs) ∧ t σ H1 fun ys H2 => Q (xs ++ ys) H2) : StX.tStar K te t σ H Q := k
/-- over range(z), the items lists of their own -/
theorem w_lcRgD {σ : L2.St} {H1 : Hp} {ti : TA} {i : Nat} {te : TE} {vs : List Nat} {Q : VK} {z : Int} (F : Addr → Nat → V → Hp → Prop) (kp : ∀ D, Keeps (F D)) (h1 : 0 ≤ z) (h2 : z ≤ 100000)
    (hi : ∀ R : List V → Hp → Prop, R [.int z] H1 → ti σ H1 R)
    (kd : ∀ D n y H ys zs, F D n y H → H1 D = none → H D = some (.lst ys) → F D n y (upd H D (.lst zs)))
    (hw : ∀ n : Nat, wipe ((wipe σ vs).set i (some (.int (n : Nat)))) vs = wipe σ vs)
    (he : ∀ D (n : Nat) H' (R : VK), (n : Int) < z → Same H1 H' → (∃ o, H' D = some o) → (∀ y H'', Same H' H'' → F D n y H'' → R y H'') → te ((wipe σ vs).set i (some (.int (n : Nat)))) H' R)
    (go : ∀ D H' ys, H1 D = none → Same H1 H' → H' D = some (.lst ys) → (ys.length : Int) = z → (∀ n y, ys[n]? = some y → F D n y H') → Q (.ref D) H') :
    tLc (iRng1 ti) (gName i) tYes te vs σ H1 Q := by
  refine hi _ ⟨z, rfl, by omega, by omega, fun D hD => ?_⟩
  refine lc_range (lo := 0) (n := z.toNat) (Pv := fun n H' => Same H1 H' ∧ ∃ ys, H' D = some (.lst ys) ∧ ys.length = n ∧ ∀ m y, ys[m]? = some y → F D m y H') ⟨Same.upd2 (Same.refl _) hD, [], upd_same, rfl, fun m y h => by simp at h⟩ ?_ ?_
  · rintro n H' hlt ⟨s, ys, e, hl, hF⟩
    have e0 : (0 : Int) + (n : Nat) = (n : Nat) := by omega
    rw [e0]
    refine ⟨hw n, iteT (B := Same H1 H' ∧ ∃ ys, H' D = some (.lst ys) ∧ ys.length = n + 1 ∧ ∀ m y, ys[m]? = some y → F D m y H') (he D n H' _ (by omega) s ⟨_, e⟩ fun y H'' s2 hy => ⟨ys, s2 _ _ e, ?_, Same.upd2 (s.trans s2) hD, ys ++ [y], upd_same, ?_⟩)⟩
    · rw [sizeLine_eq, hl]
      omega
    · have e2 := s2 _ _ e
      exact keep_acc (kp D) ⟨hl, hF⟩ (fun m z h => kd D m z H'' ys _ (kp D _ _ _ _ h s2) hD e2) (kd D _ _ _ ys _ hy hD e2)
  · rintro H' ⟨s, ys, e, hl, hF⟩
    exact go D H' ys hD s e (by omega) hF
/-! ## loops whose object is known -/
section
variable {K : PySem.W.Frag} {σ : L2.St} {H : Hp} {g : TG} {tb : TS} {D : Ends}
theorem w_forT {te : TE} {l : Addr} {xs : List V} (Pv : Nat → L2.St → Hp → Prop) (ht : te σ H fun x H1 => x = .ref l ∧ SqT K H1 l xs ∧ Pv 0 σ H1) (hl : ∀ i σ H, i ≤ xs.length → Pv i σ H → SqT K H l xs)
    (hs : ∀ i x σ H, xs[i]? = some x → Pv i σ H → g x σ H fun σ2 H2 => tb { D with nx := Pv (i + 1), ct := Pv (i + 1), bk := D.nx } σ2 H2) (hd : ∀ σ H, Pv xs.length σ H → D.nx σ H)
    (mono : ∀ (Q Q' : VK), (∀ v H, Q v H → Q' v H) → te σ H Q → te σ H Q') : tFor (iTup K te) g tb D σ H := by
  refine mono _ _ ?_ ht
  rintro v H1 ⟨rfl, h1, h2⟩
  exact ⟨l, rfl, ⟨_, h1⟩, for_tup Pv h2 hl hs hd⟩
theorem w_forHdT {ti : TE} (k : ti σ H fun v H2 => tFor (iTup K (tC v)) g tb D σ H2) : tFor (iTup K ti) g tb D σ H := k
theorem w_forC {a : Addr} {xs : List V} (Pv : Nat → L2.St → Hp → Prop) (hq : SqL K H a xs) (h0 : Pv 0 σ H) (hl : ∀ i σ H, Pv i σ H → SqL K H a xs)
    (hs : ∀ i x σ H, xs[i]? = some x → Pv i σ H → g x σ H fun σ2 H2 => tb { D with nx := Pv (i + 1), ct := Pv (i + 1), bk := D.nx } σ2 H2) (hd : ∀ σ H, Pv xs.length σ H → D.nx σ H) : tFor (iList K (tC (.ref a))) g tb D σ H :=
  ⟨a, rfl, ⟨_, hq⟩, for_list Pv h0 (fun i σ H _ => hl i σ H) hs hd⟩
theorem w_forCT {a : Addr} {xs : List V} (Pv : Nat → L2.St → Hp → Prop) (hq : SqT K H a xs) (h0 : Pv 0 σ H) (hl : ∀ i σ H, Pv i σ H → SqT K H a xs)
    (hs : ∀ i x σ H, xs[i]? = some x → Pv i σ H → g x σ H fun σ2 H2 => tb { D with nx := Pv (i + 1), ct := Pv (i + 1), bk := D.nx } σ2 H2) (hd : ∀ σ H, Pv xs.length σ H → D.nx σ H) : tFor (iTup K (tC (.ref a))) g tb D σ H :=
  ⟨a, rfl, ⟨_, hq⟩, for_tup Pv h0 (fun i σ H _ => hl i σ H) hs hd⟩
theorem w_forCE {ta : TA} {a : Addr} {xs : List V} (Pv : Nat → L2.St → Hp → Prop) (ht : ∀ R : List V → Hp → Prop, R [.ref a] H → ta σ H R) (hq : SqL K H a xs) (h0 : Pv 0 σ H) (hl : ∀ i σ H, Pv i σ H → SqL K H a xs)
    (hs : ∀ i x σ H T, xs[i]? = some x → Pv i σ H → H T = none → g (.ref T) σ (upd H T (.tup [.int (i : Nat), x])) fun σ2 H2 => tb { D with nx := Pv (i + 1), ct := Pv (i + 1), bk := D.nx } σ2 H2) (hd : ∀ σ H, Pv xs.length σ H → D.nx σ H) : tFor (iEnum K ta) g tb D σ H :=
  w_forE (ht _ ⟨a, xs, rfl, hq, for_enum Pv h0 (fun i σ H _ => hl i σ H) hs hd⟩)
end
/-! ## a comprehension over enumerate(list) -/
section
variable {K : PySem.W.Frag} {σ : L2.St} {H1 : Hp}
theorem lc_enL {a : Addr} {xs : List V} {g : TG} {tt : TT} {te : TE} {vs : List Nat} {D : Addr} {Qd : Hp → Prop} (Pv : Nat → Hp → Prop) (h0 : Pv 0 (upd H1 D (.lst []))) (hl : ∀ i H, Pv i H → SqL K H a xs)
    (hs : ∀ i x H T, xs[i]? = some x → Pv i H → H T = none → g (.ref T) (wipe σ vs) (upd H T (.tup [.int (i : Nat), x])) fun σ2 H2 => wipe σ2 vs = wipe σ vs ∧ tt σ2 H2 fun b H3 =>
      if b = true then te σ2 H3 fun y H4 => ∃ acc, H4 D = some (.lst acc) ∧ acc.length < sizeLine ∧ Pv (i + 1) (upd H4 D (.lst (acc ++ [y]))) else Pv (i + 1) H3) (hd : ∀ H, Pv xs.length H → Qd H) :
    ∃ W : Nat → Nat → Hp → Prop, (∃ m, W 0 m (upd H1 D (.lst []))) ∧ ∀ i m H, W i m H →
      ((Ite K a).stop i H ∧ Qd H) ∨ ((Ite K a).go i H ∧ ∃ Nx : Hp → Prop, (∀ H', Nx H' → ∃ m', m' < m ∧ W (i + 1) m' H') ∧ ∀ x H', (Ite K a).yld i H x H' → g x (wipe σ vs) H' fun σ2 H2 => wipe σ2 vs = wipe σ vs ∧ tt σ2 H2 fun b H3 =>
        if b = true then te σ2 H3 fun y H4 => ∃ acc, H4 D = some (.lst acc) ∧ acc.length < sizeLine ∧ Nx (upd H4 D (.lst (acc ++ [y]))) else Nx H3) := by
  refine ⟨fun i m H => m = xs.length - i ∧ i ≤ xs.length ∧ Pv i H, ⟨xs.length, by simp, Nat.zero_le _, h0⟩, ?_⟩
  rintro i m H ⟨rfl, hi, p⟩
  have q := hl i H p
  by_cases hlt : i < xs.length
  · refine .inr ⟨⟨xs, xs[i], q, by simp [hlt]⟩, Pv (i + 1), fun H' p' => ⟨xs.length - (i + 1), by omega, rfl, hlt, p'⟩, ?_⟩
    rintro v H' ⟨T, x, rfl, hT, rfl, hx⟩
    exact hs i x H T (hx xs q) p hT
  · obtain rfl : i = xs.length := by omega
    exact .inl ⟨⟨xs, q, Nat.le_refl _⟩, hd H p⟩
/-- [f(n, x) for n, x in enumerate(xs) if c], the test may make objects -/
theorem w_lcEQ {i j : Nat} {ta : TA} {a : Addr} {xs : List V} {tt : TT} {te : TE} {vs : List Nat} {Q : VK} (F : V → Nat → Hp → Prop) (c : Nat → Bool) (kp : ∀ y b H H', F y b H → Same H H' → F y b H')
    (kd : ∀ y b H D ys zs, F y b H → H1 D = none → H D = some (.lst ys) → F y b (upd H D (.lst zs)))
    (hi : ∀ R : List V → Hp → Prop, R [.ref a] H1 → ta σ H1 R) (hq : SqL K H1 a xs) (hn : xs.length ≤ 100000)
    (hw : ∀ n x, wipe (((wipe σ vs).set i (some (.int (n : Nat)))).set j (some x)) vs = wipe σ vs)
    (ht : ∀ (n : Nat) x H' R, xs[n]? = some x → Same H1 H' → (∀ H'', Same H' H'' → R (c n) H'') → tt (((wipe σ vs).set i (some (.int (n : Nat)))).set j (some x)) H' R)
    (he : ∀ (n : Nat) x H' (R : VK), xs[n]? = some x → c n = true → Same H1 H' → (∀ y H'', Same H' H'' → F y n H'' → R y H'') → te (((wipe σ vs).set i (some (.int (n : Nat)))).set j (some x)) H' R)
    (go : ∀ D H' ys, H1 D = none → Same H1 H' → H' D = some (.lst ys) → Paired (fun y b => F y b H') ys ((List.range xs.length).filter c) → Q (.ref D) H') :
    tLc (iEnum K ta) (gTup K 2 (gCons (gName i) (gCons (gName j) gNil))) tt te vs σ H1 Q := by
  refine hi _ ⟨a, xs, rfl, hq, fun D hD => ?_⟩
  refine lc_enL (xs := xs) (fun n H' => Same H1 H' ∧ ∃ ys, H' D = some (.lst ys) ∧ Paired (fun y b => F y b H') ys ((List.range n).filter c)) ⟨Same.upd2 (Same.refl _) hD, [], upd_same, .nil⟩ (fun _ _ p => Same.sqL p.1 hq) ?_ ?_
  · rintro n x H' T hx ⟨s, ys, e, hp⟩ hT
    have hlt := (List.getElem?_eq_some_iff.mp hx).1
    refine w_gtup2 (SqT.of upd_same) ⟨hw n x, ?_⟩
    have s0 : Same H' (upd H' T (.tup [.int (n : Nat), x])) := same_upd (Same.refl _) hT
    generalize upd H' T (.tup [.int (n : Nat), x]) = H2 at s0 ⊢
    have s2 := s.trans s0
    have e2 := s0 _ _ e
    refine ht n x H2 _ hx s2 fun H3 s3 => ?_
    have s03 := s0.trans s3
    have hp3 := Paired.mapP hp fun y b h => kp y b H' H3 h s03
    have e3 := s3 _ _ e2
    refine iteB (fun hc => he n x H3 _ hx hc (s2.trans s3) fun y H4 s4 hy => ⟨ys, s4 _ _ e3, ?_, Same.upd2 ((s2.trans s3).trans s4) hD, ys ++ [y], upd_same, ?_⟩) fun hc => ⟨s2.trans s3, ys, e3, ?_⟩
    · have h1 := Paired.length hp
      have h2 := List.length_filter_le c (List.range n)
      rw [List.length_range] at h2
      rw [sizeLine_eq]
      omega
    · rw [List.range_succ, List.filter_append, List.filter_cons_of_pos hc, List.filter_nil]
      have e4 := s4 _ _ e3
      exact Wk.Paired.app (Paired.mapP hp3 fun y b h => kd _ _ _ D ys _ (kp _ _ _ _ h s4) hD e4) (.cons (kd _ _ _ D ys _ hy hD e4) .nil)
    · rw [List.range_succ, List.filter_append, List.filter_cons_of_neg (by rw [hc]; exact Bool.false_ne_true), List.filter_nil, List.append_nil]
      exact hp3
  · rintro H' ⟨s, ys, e, hp⟩
    exact go D H' ys hD s e hp
end

/-! ## x in t, t a tuple of data -/
def rInDT (K : PySem.W.Frag) : R2 := fun x y H Q => ∃ d ds, Dp K H x d ∧ Dp K H y (.tuple ds) ∧ SeqAt.shaped d = true ∧ SeqAt.shaped (.tuple ds) = true ∧ Q (.bl (ds.any fun z => PyData.eqv z d)) H
theorem op_inDT {X : Cx} {K : PySem.W.Frag} (h : X.K = K) (hu : X.A.units + 70 < cLine) : OpR X (compareOp .In) (rInDT K) := by
  subst h
  intro pins s σ H x y v u Q I rx ry h
  obtain ⟨d, ds, hd, he, sd, se, q⟩ := h
  obtain ⟨as, r1⟩ := Dp.reads I d x v hd rx
  obtain ⟨bs, r2⟩ := Dp.reads I (.tuple ds) y u he ry
  exact SeqAt.in_tuple_reads r2 r1 (SeqAt.canLay_of_shaped se) (SeqAt.canLay_of_shaped sd) (room_in_shaped sd (by omega)) ⟨.bl _, H, I, rfl, q⟩

/-! ## t * k, t a tuple that may be empty -/
theorem tuple_mulE (l : Addr) (items : Array Value) (n : Nat) (dd : Option Addr) (sl : Array (Option Value)) (x : Int) (u : Tok) (c0 : (decide (x < -(2 ^ 63)) || decide (x ≥ 2 ^ 63)) = false) (c1 : (items.isEmpty || x == 1) = true) :
    Meets (Builtin.«tuple.__mul__» ⟨[.ref l, .int x u], []⟩) (fun _ R s => s.heap.get? l = some { cls := .type "tuple", dict := dd, data := .seq items n, slots := sl } ∧
      R (.ok (.ret (Value.ref l))) { s with toks := s.toks }) :=
  .of_wp fun prog w A R s h => by
    obtain ⟨hp, g, d, tk, os⟩ := s
    obtain ⟨hl, h⟩ := h
    have f1 := AutoSeq1.idx_int
    wp_walk using wpAny_loadPart' hl
    repeat (first
      | (refine wpAny_ite_false (decide_eq_false (by rw [c0]; exact Bool.false_ne_true)) ?_; wp_walk using wpAny_loadPart' hl)
      | (refine wpAny_ite_true (decide_eq_true c1) ?_; wp_walk using wpAny_loadPart' hl))
    exact ⟨_, rfl, h⟩
def rRepE (K : PySem.W.Frag) : R2 := fun x y H Q => ∃ l k xs, x = .ref l ∧ y = .int k ∧ SqT K H l xs ∧ 2 ≤ k ∧ k ≤ 1000 ∧ xs.length ≤ 1000 ∧ (xs = [] → Q (.ref l) H) ∧ (xs ≠ [] → ∀ p, H p = none → Q (.ref p) (upd H p (.tup (List.replicate k.toNat xs).flatten)))
theorem op_repE {X : Cx} : OpR X (binaryOp .Mult) (rRepE X.K) := by
  intro pins s σ H x y v u Q I rx ry h
  obtain ⟨l, k, xs, rfl, rfl, hT, h1, h2, hz, q0, q1⟩ := h
  by_cases hne : xs = []
  · subst hne
    cases rx
    obtain ⟨t, rfl⟩ := ry
    obtain ⟨its, r, ⟨⟨cls, dd, data, sl⟩, ho, hc, n, hd⟩, hs⟩ := I.tuple hT
    simp only at hc hd
    subst hc hd
    have hn : its = [] := List.eq_nil_of_length_eq_zero r.length.symm
    have c0 : (decide (k < -(2 ^ 63)) || decide (k ≥ 2 ^ 63)) = false := by
      rw [decide_eq_false (by omega), decide_eq_false (by omega)] <;> rfl
    have c1 : (its.toArray.isEmpty || k == 1) = true := by
      rw [hn]
      rfl
    exact wpAny_binaryOp_repeat_ref (T := "tuple") (U := "int") (by decide) ⟨_, ho, rfl⟩ (fun s' => typeIs_int s' k t) noFill_tuple_mul F.fills_int_mul F.slot_int_rmul repeat_tuple F.slot_int_index.lookup
      (call_meets F.slot_int_rmul (typeIs_int s k t) F.entry_int_rmul (F.args_int_rmul_2 _ _) (int_rmul_tuple k t l its.toArray n dd sl)
        ⟨ho, rfl, ⟨_, ho, rfl⟩, call_meets F.slot_tuple_mul ⟨_, ho, rfl⟩ F.entry_tuple_mul (F.args_tuple_mul_2 _ _) (tuple_mulE l its.toArray n dd sl k t c0 c1) ⟨ho, ⟨.ref l, H, I, rfl, q0 rfl⟩⟩⟩)
  · exact op_repT pins s σ H _ _ v u Q I rx ry ⟨l, k, xs, rfl, rfl, hT, hne, h1, h2, hz, q1 hne⟩

/-! ## a | b, a & b of objects of one class of one's own -/
/-- x op y, objects of the class at C, by its method -/
def rBinOwn (C : Addr) (sp : Sp) : R2 := fun x y H Q => ∃ a b dx dy fs gs, x = .ref a ∧ y = .ref b ∧ H a = some (.ins C dx fs) ∧ H b = some (.ins C dy gs) ∧ sp [.ref a, .ref b] H Q E0
section
variable {X : Cx} {k : Nat} {C : Addr} {ps : List Str} {sp : Sp} {op : Operator}
theorem op_binM (D : DefM X.prog X.w X.K X.mg X.base k C (PySem.dunder op.info.2) ps sp) (hc : PySem.W.selfFirst X.K C = true) (hr : Room k X.A) : OpR X (binaryOp op) (rBinOwn C sp) := by
  obtain ⟨f, fd, F, hm, ht, hb⟩ := D
  intro pins s σ H x y u v Q I rx ry h
  obtain ⟨a, b, dx, dy, fs, gs, rfl, rfl, ha, hb', h⟩ := h
  cases rx
  cases ry
  obtain ⟨mA, J, _⟩ := ins_get I.hok ha
  obtain ⟨mB, J', _⟩ := ins_get I.hok hb'
  obtain ⟨od, J, _⟩ := J.look
  obtain ⟨od', J', _⟩ := J'.look
  obtain ⟨m, hF⟩ := I.fr
  show wpAny (model X.prog X.w) X.A (binaryOp op _ _) (EP X pins σ Q) X.xe s
  refine PySem.W.binop_K hF I.ok.mod.kin J J'.type hc hm.at_ hm.fn ?_
  have hl := F.len _ _ _ _ h
  refine wpAny_call (codeAny_mono (F.run X.A X.stack s H ⟨[.ref a, .ref b], []⟩ [.ref a, .ref b] [.ref a, .ref b] _ E0 hr I.env0 (by
    have := hb s [.ref a, .ref b] I.kIn (by simpa using hl)
    simpa using this) (.cons rfl (.cons rfl .nil)) h) fun r s' hq => ?_)
  match r, hq with
  | .error e, hq => exact pass0 pins σ H s e s' I hq
  | .ok .next, hq => exact hq.elim
  | .ok .brk, hq => exact hq.elim
  | .ok .cont, hq => exact hq.elim
  | .ok (.ret v), hq =>
    obtain ⟨z, H', I', rz, q⟩ := I.after hq
    exact SlX.cmpback rz ⟨z, H', I', rz, q⟩
end

/-! ## [f(x, y) for x, y in zip(t, u)], t and u tuples of one length -/
section
variable {K : PySem.W.Frag} {σ : L2.St} {H1 : Hp}
theorem w_lcZT {i j : Nat} {ta : TA} {a b : Addr} {xs ys : List V} {te : TE} {vs : List Nat} {Q : VK} (f : V → V → V) (ha : ∀ R : List V → Hp → Prop, R [.ref a, .ref b] H1 → ta σ H1 R) (hx : SqT K H1 a xs) (hy : SqT K H1 b ys) (hl : xs.length = ys.length) (hn : xs.length ≤ 1000)
    (hw : ∀ x y, wipe (((wipe σ vs).set i (some x)).set j (some y)) vs = wipe σ vs)
    (he : ∀ (n : Nat) x y H' (R : VK), xs[n]? = some x → ys[n]? = some y → Same H1 H' → R (f x y) H' → te (((wipe σ vs).set i (some x)).set j (some y)) H' R)
    (go : ∀ D H', H1 D = none → Same H1 H' → H' D = some (.lst (List.zipWith f xs ys)) → Q (.ref D) H') :
    tLc (RZ.iZipA K ta) (gTup K 2 (gCons (gName i) (gCons (gName j) gNil))) tYes te vs σ H1 Q := by
  refine ha _ ⟨a, b, xs, ys, rfl, .inr ⟨hx, hy, fun D hD => ?_⟩⟩
  let Pv : Nat → Hp → Prop := fun n H' => Same H1 H' ∧ H' D = some (.lst (List.zipWith f (xs.take n) (ys.take n)))
  refine ⟨fun i m H => m = xs.length - i ∧ i ≤ xs.length ∧ Pv i H, ⟨xs.length, rfl, Nat.zero_le _, Same.upd2 (Same.refl _) hD, upd_same⟩, ?_⟩
  rintro n m H ⟨rfl, hi, s, e⟩
  have qx := Same.sqT s hx
  have qy := Same.sqT s hy
  by_cases hlt : n < xs.length
  · have gx : xs[n]? = some xs[n] := List.getElem?_eq_getElem hlt
    have hlt2 : n < ys.length := by omega
    have gy : ys[n]? = some ys[n] := List.getElem?_eq_getElem hlt2
    refine .inr ⟨⟨xs, ys, _, _, qx, qy, gx, gy⟩, Pv (n + 1), fun H' p' => ⟨xs.length - (n + 1), by omega, rfl, hlt, p'⟩, fun v H' y => ?_⟩
    obtain ⟨T, x', y', rfl, hT, rfl, f1, f2⟩ := y
    have f1 := f1 xs qx
    have f2 := f2 ys qy
    have s2 : Same H1 (upd H T (.tup [x', y'])) := same_upd s hT
    have e2 : (upd H T (.tup [x', y'])) D = some (.lst (List.zipWith f (xs.take n) (ys.take n))) := upd_get hT e
    refine w_gtup2 (SqT.of upd_same) ⟨hw x' y', ?_⟩
    refine iteT (B := Pv (n + 1) (upd H T (.tup [x', y']))) (he n x' y' _ _ f1 f2 s2 ⟨_, e2, ?_, Same.upd2 s2 hD, ?_⟩)
    · rw [List.length_zipWith, List.length_take, List.length_take, sizeLine_eq]
      omega
    · rw [upd_same]
      have t1 : xs.take (n + 1) = xs.take n ++ [x'] := by rw [List.take_succ, f1]; rfl
      have t2 : ys.take (n + 1) = ys.take n ++ [y'] := by rw [List.take_succ, f2]; rfl
      rw [t1, t2, List.zipWith_append (by rw [List.length_take, List.length_take]; omega)]
      rfl
  · have en : n = xs.length := by omega
    subst en
    refine .inl ⟨⟨xs, ys, qx, qy, Or.inl (Nat.le_refl _)⟩, ?_⟩
    have e3 : H D = some (.lst (List.zipWith f xs ys)) := by
      rw [e, List.take_length, List.take_of_length_le (by omega)]
    exact go D H hD s e3
end
/-! ## d[k] where d may be locked; for k in d, d locked, its keys tuples -/
def tDGetR (K : PySem.W.Frag) (td ty : TE) : TE := fun σ H Q => td σ H fun x H1 => ty σ H1 fun y H2 => ∃ (a b : Addr) (kvs : List (List Key × V)) (k : List Key) (v : V), x = .ref a ∧ y = .ref b ∧ Rd H2 a (.dT kvs) ∧ SqT K H2 b (k.map kV) ∧ valV kvs k = some v ∧ Q v H2
section
variable {X : Cx} {o i : Expr} {td ty : TE} {pos : Pos}
theorem pe_dgetR (hu : X.A.units + 1 < cLine) (ho : PE X o td) (hi : PE X i ty) (hs : NoSl i) : PE X (.Subscript o i pos) (tDGetR X.K td ty) := by
  refine ⟨fun pins s σ H Q I h => ?_⟩
  refine subD_of PySem.F.slot_dict_getitem.lookup hs (thn (ho.run pins s σ H _ I h) fun u s1 ⟨x, H1, I1, rx, q1⟩ => thn (hi.run pins s1 σ H1 _ I1 q1) fun iv s2 ⟨y, H2, I2, ry, a, b, kvs, k, v, ex, ey, g, gk, l, q2⟩ => ?_)
  subst ex
  subst ey
  obtain rfl : u = Value.ref a := rx
  obtain rfl : iv = Value.ref b := ry
  obtain ⟨z, hd, xs, rel, dd⟩ := dt_rd I2.hok g
  obtain ⟨w', hw, rw'⟩ := RelO.some_of (v := v) (o := (atKey xs k).map (·.2)) (by rw [← l]; exact rel.val k)
  obtain ⟨p, hp, hp2⟩ := Option.map_eq_some_iff.mp hw
  refine ⟨dd.typeIs, wpAny_getItem_heap (tupleKind_room_in1 hu) (key_ofS I2 gk) dd hp ?_⟩
  rw [hp2]
  exact ⟨v, H2, I2.tok _, rw', q2⟩
end
theorem pe_dgetRK {X : Cx} {K : PySem.W.Frag} {o i : Expr} {td ty : TE} {pos : Pos} (h : X.K = K) (hu : X.A.units + 1 < cLine) (ho : PE X o td) (hi : PE X i ty) (hs : NoSl i) : PE X (.Subscript o i pos) (tDGetR K td ty) := by
  subst h
  exact pe_dgetR hu ho hi hs
theorem Rd.same {H H' : Hp} {a : Addr} {u : HO} (h : Rd H a u) (s : Same H H') : Rd H' a u := h.elim (fun h => .inl (s _ _ h)) fun ⟨o, h⟩ => .inr ⟨o, s _ _ h⟩
theorem rd_lock {H : Hp} {D1 D2 : Addr} {kvs1 kvs2 : List (List Key × V)} {od : Obj} (h1 : H D1 = some (.dT kvs1)) (h2 : H D2 = some (.dT kvs2)) : Rd (upd H D1 (.frz od (.dT kvs1))) D2 (.dT kvs2) := by
  by_cases e : D2 = D1
  · subst e
    rw [h1] at h2
    cases h2
    exact .inr ⟨od, upd_same⟩
  · exact .inl (by rw [upd_ne e]; exact h2)
theorem w_dgetR {K : PySem.W.Frag} {σ : L2.St} {H : Hp} {td ty : TE} {Q : VK} (k : td σ H fun x H1 => ty σ H1 fun y H2 => ∃ (a b : Addr) (kvs : List (List Key × V)) (k : List Key) (v : V), x = .ref a ∧ y = .ref b ∧ Rd H2 a (.dT kvs) ∧ SqT K H2 b (k.map kV) ∧ valV kvs k = some v ∧ Q v H2) : tDGetR K td ty σ H Q := k
section
variable {σ : L2.St} {H : Hp} {g : TG} {tb : TS} {D : Ends}
theorem w_forKeys {d : Addr} {o : Obj} {kvs : List (List Key × V)} (Pv : Nat → L2.St → Hp → Prop) (hd : H d = some (.frz o (.dT kvs))) (h0 : Pv 0 σ H) (hG : ∀ i σ H, Pv i σ H → H d = some (.frz o (.dT kvs)))
    (hs : ∀ i σ H (k : List Key) (v : V) (q : Addr), kvs[i]? = some (k, v) → H q = some (.tup (k.map kV)) → Pv i σ H → g (.ref q) σ H fun σ2 H2 => tb { D with nx := Pv (i + 1), ct := Pv (i + 1), bk := D.nx } σ2 H2)
    (he : ∀ σ H, Pv kvs.length σ H → D.nx σ H) : tFor (iKeys (tC (.ref d))) g tb D σ H :=
  ⟨d, o, rfl, .inr ⟨kvs, hd, for_it walk_keysT Pv h0 (fun i σ H _ => hG i σ H) (fun i x σ H H' _ p y => by
    obtain ⟨rfl, k, v, q, h1, rfl, h2⟩ := y
    exact hs i σ _ k v q h1 h2 p) he⟩⟩
theorem w_forHdK {ti : TE} (k : ti σ H fun v H2 => tFor (iKeys (tC v)) g tb D σ H2) : tFor (iKeys ti) g tb D σ H := k
end

theorem restsN_eq {ds : List Str} : ∀ {es : List Nat} {n : Nat}, restsN ds es n = ((List.range es.length).filter fun i => decide (n + i = es.getD i 0)).map fun i => lotOf ds (n + i)
  | [], _ => rfl
  | e :: es, n => by
    rw [restsN, restsN_eq (es := es) (n := n + 1), List.length_cons, List.range_succ_eq_map]
    have e1 : ((List.range es.length).map Nat.succ).filter (fun i => decide (n + i = (e :: es).getD i 0)) = ((List.range es.length).filter fun i => decide (n + 1 + i = es.getD i 0)).map Nat.succ := by
      rw [List.filter_map]
      congr 1
      refine List.filter_congr fun i _ => ?_
      dsimp only [Function.comp]
      rw [show n + Nat.succ i = n + 1 + i from by omega]
      rfl
    have e2 : (((List.range es.length).filter fun i => decide (n + 1 + i = es.getD i 0)).map Nat.succ).map (fun i => lotOf ds (n + i)) = ((List.range es.length).filter fun i => decide (n + 1 + i = es.getD i 0)).map fun i => lotOf ds (n + 1 + i) := by
      rw [List.map_map]
      refine List.map_congr_left fun i _ => ?_
      dsimp only [Function.comp]
      rw [show n + Nat.succ i = n + 1 + i from by omega]
    by_cases h : n = e
    · rw [if_pos h, List.filter_cons_of_pos (by simp [h]), List.map_cons, e1, e2]
      rfl
    · rw [if_neg h, List.filter_cons_of_neg (by simpa using h), e1, e2]
/-- the masks that stay -/
def stayM (n : Nat) (f : Nat → Nat) : List Nat := (List.range (2 ^ n)).filter fun m => decide (f m = m)
theorem restsN_stay {ds : List Str} {es : List Nat} (h : es.length = 2 ^ ds.length) : restsN ds es 0 = (stayM ds.length (eF es)).map (lotOf ds) := by
  rw [restsN_eq, h]
  unfold stayM
  have e1 : (List.range (2 ^ ds.length)).filter (fun i => decide (0 + i = es.getD i 0)) = (List.range (2 ^ ds.length)).filter fun m => decide (eF es m = m) := List.filter_congr fun i _ => decide_eq_decide.mpr (by unfold eF; rw [Nat.zero_add]; exact eq_comm)
  rw [e1]
  exact List.map_congr_left fun i _ => by rw [Nat.zero_add]
theorem stayM_mem {n m : Nat} {f : Nat → Nat} : m ∈ stayM n f ↔ m < 2 ^ n ∧ f m = m := by
  unfold stayM
  rw [List.mem_filter, List.mem_range, decide_eq_true_eq]
theorem masks_back {ds : List Str} (hn : ds.Nodup) : ∀ {ms : List Nat}, (∀ m ∈ ms, m < 2 ^ ds.length) → (ms.map (lotOf ds)).map (maskOf ds) = ms
  | [], _ => rfl
  | m :: ms, h => by
    rw [List.map_cons, List.map_cons, masks_back hn fun x hx => h x (.tail _ hx), mask_lot hn (h m (.head _))]
theorem rests_masks {ds : List Str} {es : List Nat} (hn : ds.Nodup) (h : es.length = 2 ^ ds.length) : ((sortTS (restsN ds es 0)).map (maskOf ds)).Perm (stayM ds.length (eF es)) := by
  rw [restsN_stay h]
  refine ((sortTS_perm _).map (maskOf ds)).trans ?_
  rw [masks_back hn fun m hm => (stayM_mem.mp hm).1]
theorem own_of {f : Nat → Nat} {n r : Nat} {ts : List Nat} (h : ∀ o, o ∈ ts ↔ o ∈ overs f n r) : (!ts.isEmpty && !decide (cpart ts = r)) = ownB f n r := by
  unfold ownB
  rw [cpart_congr h]
  have : ts.isEmpty = (overs f n r).isEmpty := by
    cases e1 : ts with
    | nil =>
      cases e2 : overs f n r with
      | nil => rfl
      | cons o os => exact absurd ((h o).mpr (by rw [e2]; exact .head _)) (by rw [e1]; simp)
    | cons t ts' =>
      cases e2 : overs f n r with
      | nil => exact absurd ((h t).mp (by rw [e1]; exact .head _)) (by rw [e2]; simp)
      | cons o os => rfl
  rw [this]
theorem rests_ext {ds : List Str} {st st' : List (Nat × Nat)} {es es' : List Nat} (hn : ds.Nodup) (h : EndsOf ds.length st es) (h' : EndsOf ds.length st' es') : sortTS (restsN ds es 0) = sortTS (restsN ds es' 0) ↔ es = es' := by
  refine ⟨fun z => ?_, fun z => by rw [z]⟩
  have hp := (rests_masks hn h.1).symm.trans ((by rw [z]) : ((sortTS (restsN ds es 0)).map (maskOf ds)).Perm ((sortTS (restsN ds es' 0)).map (maskOf ds)))
  have hp2 := hp.trans (rests_masks hn h'.1)
  have hf : ∀ m, m < 2 ^ ds.length → eF es m = eF es' m := fun m hm => cl_ext (ends_cl h) (ends_cl h') (fun m hm => by
    have := hp2.mem_iff (a := m)
    rw [stayM_mem, stayM_mem] at this
    exact ⟨fun q => (this.mp ⟨hm, q⟩).2, fun q => (this.mpr ⟨hm, q⟩).2⟩) hm
  refine List.ext_getElem? fun i => ?_
  rcases Nat.lt_or_ge i (2 ^ ds.length) with hi | hi
  · have h1 := List.getElem?_eq_getElem (l := es) (i := i) (by rw [h.1]; exact hi)
    have h2 := List.getElem?_eq_getElem (l := es') (i := i) (by rw [h'.1]; exact hi)
    have := hf i hi
    rw [eF_at h1, eF_at h2] at this
    rw [h1, h2, this]
  · rw [List.getElem?_eq_none (by rw [h.1]; exact hi), List.getElem?_eq_none (by rw [h'.1]; exact hi)]
theorem eF_map {n m : Nat} {f : Nat → Nat} (h : m < 2 ^ n) : eF ((List.range (2 ^ n)).map f) m = f m := eF_at (by rw [List.getElem?_map, List.getElem?_range h]; rfl)
theorem cl_congr {f g : Nat → Nat} {n : Nat} (h : Cl f n) (k : ∀ m, m < 2 ^ n → g m = f m) : Cl g n := ⟨fun m hm => by rw [k m hm]; exact h.up m hm, fun m hm => by rw [k m hm]; exact h.lt m hm, fun m hm => by rw [k m hm, k _ (h.lt m hm)]; exact h.idem m hm, fun m k' hm hk hs he => by
  rw [k m hm]
  rw [k k' hk] at he
  exact h.least m k' hm hk hs he⟩
def spREqD (K : PySem.W.Frag) (C : Addr) : Sp := fun vs H Q _ => ∃ (p q : Addr) (ds : List Str) (bs bs' : List Bun) (es es' : List Nat), vs = [.ref p, .ref q] ∧ RulesAt K C H p ds bs ∧ RulesAt K C H q ds bs' ∧ Devs ds ∧ EndsOf ds.length (stepsOf ds bs) es ∧ EndsOf ds.length (stepsOf ds bs') es' ∧
  ∀ H', Same H H' → Q (.bl (decide (es = es'))) H'
section
variable {P : Program} {w : World} {K : PySem.W.Frag} {mg : Str → Option Value} {base : Heap} {C : Addr}
theorem ok_Rules_eqD {f : Addr} {fd : FuncData} (F : Fun K "__eq__" "Rules.__eq__" sRules_eq f fd) (T : Txt mg) (R : RCls K C) (RE : REqC K C) (hC : mg "Rules" = some (.ref C)) : FnOk P w K mg base CX0 1 f fd PRules_eq (spREqD K C) := by
  refine F.ok scRules_eq (fun vs H Q E h => ?_) fun cdv A outer s H vs Q E hr h => ?_
  · obtain ⟨p, q, ds, bs, bs', es, es', rfl, _⟩ := h
    rfl
  · refine ⟨_, (pss_one (ps_ret (pe_and (pe_callB call_isi (by rfl) T.n_isinstance (by decide +kernel) (pa_cons (pv 1) (pa_cons (pe_glob (v := .ref C) (by rfl) hC rfl) pa_nil))) (pe_and (pe_cmpR (op_eqD hr.units) (pe_fld (pv 0) rfl) (pe_fld (pv 1) rfl) (nomark _)) (pe_one (pe_cmpR (op_eqD hr.units) (pe_fld (pv 0) rfl) (pe_fld (pv 1) rfl) (nomark _))))))), ?_⟩
    obtain ⟨p, q, ds, bs, bs', es1, es2, rfl, hp, hq, hd, hE1, hE2, go⟩ := h
    obtain ⟨dx, x, y, z, r, es, h1, h2, h3, h4, h5, h6⟩ := id hp
    obtain ⟨dx', x', y', z', r', es', g1, g2, g3, g4, g5, g6⟩ := id hq
    obtain ⟨hd1, hd2, hd3, hd4⟩ := id hd
    obtain rfl := ends_uniq h5 hE1 fun _ _ _ h => h
    obtain rfl := ends_uniq g5 hE2 fun _ _ _ h => h
    have dok : ∀ d ∈ ds, PyData.strOk d = true := fun d hd => pool_ok d (hd4 d hd)
    refine w_ret ?_
    refine w_andV ?_
    refine w_cb ?_
    refine w_cons ?_
    refine w_var rfl ?_
    refine w_cons ?_
    refine w_C ?_
    refine w_nil ?_
    refine ⟨.ref q, .ref C, .ref C, .ref C, true, rfl, .own C, .base (.ins g1 R.cl RE.ha RE.hn RE.ht RE.hm), ?_, ?_⟩
    · unfold PySem.W.kitOne
      rw [if_pos (by simp)]
    refine ⟨_, rfl, iteT ?_⟩
    refine w_andV ?_
    refine w_op ?_
    refine w_fld ?_
    refine w_var rfl ?_
    refine ⟨p, C, dx, _, x, rfl, h1, R.cl, R.nD, rf_d _ _ _ _, ?_⟩
    refine w_fld ?_
    refine w_var rfl ?_
    refine ⟨q, C, dx', _, x', rfl, g1, R.cl, R.nD, rf_d _ _ _ _, ?_⟩
    refine w_eqLots dok dok h2 g2 ?_
    refine ⟨_, rfl, iteT' (decide_eq_true rfl) ?_⟩
    refine w_op ?_
    refine w_fld ?_
    refine w_var rfl ?_
    refine ⟨p, C, dx, _, r, rfl, h1, R.cl, R.nR, rf_r _ _ _ _, ?_⟩
    refine w_fld ?_
    refine w_var rfl ?_
    refine ⟨q, C, dx', _, r', rfl, g1, R.cl, R.nR, rf_r _ _ _ _, ?_⟩
    refine w_eqLotsT (rests_short hd) (rests_short hd) h6 g6 ?_
    rw [show decide (sortTS (restsN ds es 0) = sortTS (restsN ds es' 0)) = decide (es = es') from decide_eq_decide.mpr (rests_ext hd3 h5 g5)]
    exact go H (Same.refl _)
end

abbrev sneed_same_devices : Stmt := top 19
abbrev Nneed_same_devices : List Str := ["one", "other"]
abbrev Pneed_same_devices : List Str := ["one", "other"]
theorem scneed_same_devices : FnScope Nneed_same_devices Pneed_same_devices (defScope sneed_same_devices) := ⟨rfl, rfl, rfl, by decide +kernel, rfl, by decide +kernel, by decide +kernel⟩
theorem bsneed_same_devices : BindsSt "need_same_devices" sneed_same_devices Pneed_same_devices := fun _ _ _ _ _ _ us hl => match us, hl with | [_, _], _ => rfl
abbrev scommon_ends : Stmt := top 31
abbrev Ncommon_ends : List Str := ["ends", "other_ends", "end", "other_end"]
abbrev Pcommon_ends : List Str := ["ends", "other_ends"]
theorem sccommon_ends : FnScope Ncommon_ends Pcommon_ends (defScope scommon_ends) := ⟨rfl, rfl, rfl, by decide +kernel, rfl, by decide +kernel, by decide +kernel⟩
theorem bscommon_ends : BindsSt "common_ends" scommon_ends Pcommon_ends := fun _ _ _ _ _ _ us hl => match us, hl with | [_, _], _ => rfl
abbrev sRules_or : Stmt := inClass (top 36) 6
abbrev NRules_or : List Str := ["self", "other"]
abbrev PRules_or : List Str := ["self", "other"]
theorem scRules_or : FnScope NRules_or PRules_or (defScope sRules_or) := ⟨rfl, rfl, rfl, by decide +kernel, rfl, by decide +kernel, by decide +kernel⟩
abbrev sRules_and : Stmt := inClass (top 36) 7
abbrev NRules_and : List Str := ["self", "other"]
abbrev PRules_and : List Str := ["self", "other"]
theorem scRules_and : FnScope NRules_and PRules_and (defScope sRules_and) := ⟨rfl, rfl, rfl, by decide +kernel, rfl, by decide +kernel, by decide +kernel⟩
/-- the table of ends, as a list -/
def endL (n : Nat) (f : Nat → Nat) : List Nat := (List.range (2 ^ n)).map f
theorem endL_eF {n m : Nat} {f : Nat → Nat} (h : m < 2 ^ n) : eF (endL n f) m = f m := eF_map h
theorem endL_len {n : Nat} {f : Nat → Nat} : (endL n f).length = 2 ^ n := by
  unfold endL
  rw [List.length_map, List.length_range]
theorem endL_congr {n : Nat} {f g : Nat → Nat} (h : ∀ m, m < 2 ^ n → f m = g m) : endL n f = endL n g := List.map_congr_left fun m hm => h m (List.mem_range.mp hm)
theorem endL_inj {n : Nat} {f g : Nat → Nat} : endL n f = endL n g ↔ ∀ m, m < 2 ^ n → f m = g m := ⟨fun z m hm => by rw [← endL_eF (f := f) hm, z, endL_eF hm], endL_congr⟩
theorem es_endL {n : Nat} {es : List Nat} (h : es.length = 2 ^ n) : es = endL n (eF es) := by
  refine List.ext_getElem? fun i => ?_
  unfold endL
  rw [List.getElem?_map]
  rcases Nat.lt_or_ge i (2 ^ n) with hi | hi
  · rw [List.getElem?_range hi, List.getElem?_eq_getElem (by omega)]
    exact congrArg some (eF_at (List.getElem?_eq_getElem (by omega))).symm
  · rw [List.getElem?_eq_none (by omega), List.getElem?_eq_none (by rw [List.length_range]; exact hi)]
    rfl
theorem endsOf_fun {ds : List Str} {f : Nat → Nat} (hn : ds.Nodup) (h : Cl f ds.length) : EndsOf ds.length (stepsOf ds (baseB ds f)) (endL ds.length f) := ⟨endL_len, fun i e he => by
  unfold endL at he
  rw [List.getElem?_map] at he
  have hi : i < 2 ^ ds.length := by
    cases hx : (List.range (2 ^ ds.length))[i]? with
    | none => rw [hx] at he; cases he
    | some j =>
      have := (List.getElem?_eq_some_iff.mp hx).1
      rw [List.length_range] at this
      exact this
  rw [List.getElem?_range hi] at he
  rw [← Option.some.inj he]
  exact ⟨baseB_isEnd hn h hi, h.lt i hi⟩⟩
theorem baseB_few {ds : List Str} {f : Nat → Nat} (h : ds.length ≤ 6) : (baseB ds f).length ≤ 64 := Nat.le_trans baseB_len (Nat.le_trans (Nat.pow_le_pow_right (by decide) h) (by decide))
/-- m stays just where no step leads out of it -/
theorem fix_closed {n m : Nat} {st : List (Nat × Nat)} {es : List Nat} (h : EndsOf n st es) (hm : m < 2 ^ n) : eF es m = m ↔ Closed st m := by
  have hg := List.getElem?_eq_getElem (l := es) (i := m) (by rw [h.1]; exact hm)
  have he := (h.2 m _ hg).1
  rw [← eF_at hg] at he
  refine ⟨fun z => ?_, fun c => ?_⟩
  · rw [z] at he
    exact he.cl
  · exact (he.least m (Sub.refl m) c).anti he.up
theorem ends_join {n : Nat} {st st' : List (Nat × Nat)} {es : List Nat} {f g : Nat → Nat} (h1 : EndsOf n st (endL n f)) (h2 : EndsOf n st' (endL n g)) (hf : Cl f n) (hg : Cl g n) (h3 : EndsOf n (st ++ st') es) {ds : List Str} (hd : ds.length = n) : es = endL n (jnF n f g) := by
  rw [es_endL h3.1]
  subst hd
  refine endL_congr fun m hm => cl_ext (ends_cl h3) jn_cl (fun m hm => ?_) hm
  rw [fix_closed h3 hm, jn_fix hf hg hm]
  have a := fix_closed h1 hm
  have b := fix_closed h2 hm
  rw [endL_eF hm] at a b
  rw [a, b]
  exact ⟨fun c => ⟨fun p hp => c p (List.mem_append_left _ hp), fun p hp => c p (List.mem_append_right _ hp)⟩, fun ⟨c1, c2⟩ p hp => (List.mem_append.mp hp).elim (c1 p) (c2 p)⟩
theorem ends_meet {n : Nat} {f g : Nat → Nat} : List.zipWith (· &&& ·) (endL n f) (endL n g) = endL n (mtF f g) := by
  unfold endL
  rw [List.zipWith_map, List.zipWith_self]
  rfl
/-- the Rules at p: by these devices, lots come to what f says -/
structure RulesF (K : PySem.W.Frag) (C : Addr) (H : Hp) (p : Addr) (ds : List Str) (f : Nat → Nat) (bs : List Bun) : Prop where
  at_ : RulesAt K C H p ds bs
  rows : RowsOf ds bs
  few : bs.length ≤ 64
  ends : EndsOf ds.length (stepsOf ds bs) (endL ds.length f)
  cl : Cl f ds.length
theorem RulesF.same {K : PySem.W.Frag} {C : Addr} {H H' : Hp} {p : Addr} {ds : List Str} {f : Nat → Nat} {bs : List Bun} (h : RulesF K C H p ds f bs) (s : Same H H') : RulesF K C H' p ds f bs := ⟨h.at_.same s, h.rows, h.few, h.ends, h.cl⟩
theorem RulesF.base {K : PySem.W.Frag} {C : Addr} {H : Hp} {p : Addr} {ds : List Str} {f : Nat → Nat} (hd : Devs ds) (hf : Cl f ds.length) (h : RulesAt K C H p ds (baseB ds f)) : RulesF K C H p ds f (baseB ds f) := by
  obtain ⟨hd1, hd2, hd3, hd4⟩ := id hd
  exact ⟨h, baseB_rows hd3 hf, baseB_few hd2, endsOf_fun hd3 hf, hf⟩
theorem RulesF.of {K : PySem.W.Frag} {C : Addr} {H : Hp} {p : Addr} {ds : List Str} {es : List Nat} {bs : List Bun} (h : RulesAt K C H p ds bs) (hr : RowsOf ds bs) (hb : bs.length ≤ 64) (he : EndsOf ds.length (stepsOf ds bs) es) : RulesF K C H p ds (eF es) bs :=
  ⟨h, hr, hb, by rw [← es_endL he.1]; exact he, ends_cl he⟩
theorem w_neLotsP {K : PySem.W.Frag} {H : Hp} {x y : V} {l m : List Str} {Q : VK} (hl : ∀ d ∈ l, PyData.strOk d = true) (hm : ∀ d ∈ m, PyData.strOk d = true) (hx : LotAt K H x l) (hy : LotAt K H y m) (k : Q (.bl (!decide (l = m))) H) : rNeD K x y H Q := by
  obtain ⟨a, rfl, ha⟩ := hx
  obtain ⟨b, rfl, hb⟩ := hy
  refine ⟨_, _, .tup ha (dp_strs l), .tup hb (dp_strs m), tup_shaped l hl, tup_shaped m hm, ?_⟩
  rw [PyData.eqv, eqv_strs]
  exact k
/-! ### by length, then by the texts -/
theorem w_catB {K : PySem.W.Frag} {H : Hp} {x y : V} {bs cs : List Bun} {Q : VK} (hx : BunsAt K H x bs) (hy : BunsAt K H y cs) (hz : bs.length + cs.length ≤ 10000) (k : ∀ H' v', Same H H' → BunsAt K H' v' (bs ++ cs) → Q v' H') : rCatA K x y H Q := by
  obtain ⟨a, xs, rfl, ha, hp⟩ := hx
  obtain ⟨b, ys, rfl, hb, hq⟩ := hy
  have hl := Paired.length hp
  have hm := Paired.length hq
  refine ⟨a, b, xs, ys, rfl, rfl, ha, hb, by rw [sizeLine_eq]; omega, fun z => ?_, fun _ z => ?_, fun _ _ p hp' => ?_⟩
  · subst z
    cases hp
    exact k H _ (Same.refl _) ⟨b, ys, rfl, hb, hq⟩
  · subst z
    cases hq
    exact k H _ (Same.refl _) ⟨a, xs, rfl, ha, by rw [List.append_nil]; exact hp⟩
  · have s := same_upd (o := .tup (xs ++ ys)) (Same.refl _) hp'
    exact k _ _ s ⟨p, _, rfl, SqT.of upd_same, Wk.Paired.app (Paired.mapP hp fun _ _ h => h.same s) (Paired.mapP hq fun _ _ h => h.same s)⟩
def spSame (K : PySem.W.Frag) (C : Addr) : Sp := fun vs H Q _ => ∃ (p q : Addr) (ds : List Str) (f g : Nat → Nat) (bs bs' : List Bun), vs = [.ref p, .ref q] ∧ RulesF K C H p ds f bs ∧ RulesF K C H q ds g bs' ∧ Devs ds ∧ Q .non H
def spCommonEnds (K : PySem.W.Frag) : Sp := fun vs H Q _ => ∃ (x y : V) (es es' : List Nat), vs = [x, y] ∧ IntsT K H x es ∧ IntsT K H y es' ∧ es.length = es'.length ∧ es.length ≤ 1000 ∧
  ∀ H' z, Same H H' → IntsT K H' z (List.zipWith (· &&& ·) es es') → Q z H'
def spRWithin (K : PySem.W.Frag) (C : Addr) : Sp := fun vs H Q _ => ∃ (p q : Addr) (ds : List Str) (f g : Nat → Nat) (bs bs' : List Bun), vs = [.ref p, .ref q] ∧ RulesF K C H p ds f bs ∧ RulesF K C H q ds g bs' ∧ Devs ds ∧
  ∀ H' (b : Bool), Same H H' → (b = true ↔ ∀ m, m < 2 ^ ds.length → g m = m → f m = m) → Q (.bl b) H'
def spROr (K : PySem.W.Frag) (C : Addr) : Sp := fun vs H Q _ => ∃ (p q : Addr) (ds : List Str) (f g : Nat → Nat) (bs bs' : List Bun), vs = [.ref p, .ref q] ∧ RulesF K C H p ds f bs ∧ RulesF K C H q ds g bs' ∧ Devs ds ∧
  ∀ H' r, Same H H' → RulesF K C H' r ds (jnF ds.length f g) (baseB ds (jnF ds.length f g)) → Q (.ref r) H'
def spRAnd (K : PySem.W.Frag) (C : Addr) : Sp := fun vs H Q _ => ∃ (p q : Addr) (ds : List Str) (f g : Nat → Nat) (bs bs' : List Bun), vs = [.ref p, .ref q] ∧ RulesF K C H p ds f bs ∧ RulesF K C H q ds g bs' ∧ Devs ds ∧
  ∀ H' r, Same H H' → RulesF K C H' r ds (mtF f g) (baseB ds (mtF f g)) → Q (.ref r) H'
section
variable {P : Program} {w : World} {K : PySem.W.Frag} {mg : Str → Option Value} {base : Heap} {C : Addr}
theorem ok_need_same (F : FunAt K mg "need_same_devices" sneed_same_devices) (R : RCls K C) : Def P w K mg base 1 "need_same_devices" Pneed_same_devices (spSame K C) := by
  refine def_of F scneed_same_devices bsneed_same_devices (fun vs H Q E h => ?_) fun f cdv A outer s H vs Q E hr h => ?_
  · obtain ⟨p, q, ds, f, g, bs, bs', rfl, _⟩ := h
    rfl
  · refine ⟨_, (pss_one (ps_if (pt_cmpR (op_neD hr.units) (pe_fld (pv 0) rfl) (pe_fld (pv 1) rfl) (nomark _)) (pss_one ps_never) pss_nil)), ?_⟩
    obtain ⟨p, q, ds, f, g, bs, bs', rfl, hp, hq, hd, go⟩ := h
    obtain ⟨dx, x, y, z, r, es, h1, h2, h3, h4, h5, h6⟩ := hp.at_
    obtain ⟨dx', x', y', z', r', es', g1, g2, g3, g4, g5, g6⟩ := hq.at_
    obtain ⟨hd1, hd2, hd3, hd4⟩ := id hd
    have dok : ∀ d ∈ ds, PyData.strOk d = true := fun d hd => pool_ok d (hd4 d hd)
    refine w_ifS ?_
    refine w_test ?_
    refine w_op ?_
    refine w_fld ?_
    refine w_var rfl ?_
    refine ⟨p, C, dx, _, x, rfl, h1, R.cl, R.nD, rf_d _ _ _ _, ?_⟩
    refine w_fld ?_
    refine w_var rfl ?_
    refine ⟨q, C, dx', _, x', rfl, g1, R.cl, R.nD, rf_d _ _ _ _, ?_⟩
    refine w_neLotsP dok dok h2 g2 ?_
    refine ⟨_, rfl, iteF' (by rw [decide_eq_true rfl]; rfl) ?_⟩
    refine w_next ?_
    exact go
theorem ok_common_ends (F : FunAt K mg "common_ends" scommon_ends) (T : Txt mg) : Def P w K mg base 1 "common_ends" Pcommon_ends (spCommonEnds K) := by
  refine def_of F sccommon_ends bscommon_ends (fun vs H Q E h => ?_) fun f cdv A outer s H vs Q E hr h => ?_
  · obtain ⟨x, y, es, es', rfl, _⟩ := h
    rfl
  · refine ⟨_, (pss_one (ps_ret (pe_callTy call_tuple_of (by rfl) T.n_tuple (by decide +kernel) (pa_cons (pe_lc (own := [("end", 2), ("other_end", 3)]) (g := (gTup _ 2 (gCons (gName 2) (gCons (gName 3) gNil)))) (tt := tYes) rfl sccommon_ends.nd (RZ.pi_zipA (by rfl) T.n_zip (pa_cons (pv 0) (pa_cons (pv 1) pa_nil))) (blkOk_by (N := Ncommon_ends) (sc := defScope scommon_ends) (by decide +kernel)) (fun _ _ _ _ _ => (pg_tup (by rfl) (pgs_cons (pg_name (i := 2) sccommon_ends.nd rfl (by first | exact Or.inl rfl | exact Or.inr rfl)) (pgs_cons (pg_name (i := 3) sccommon_ends.nd rfl (by first | exact Or.inl rfl | exact Or.inr rfl)) pgs_nil)))) (fun _ _ _ _ _ => pts_nil) (fun _ _ _ _ _ => (pe_op op_and (pv 2) (pv 3)))) pa_nil)))), ?_⟩
    obtain ⟨x, y, es, es', rfl, ⟨a, rfl, ha⟩, ⟨b, rfl, hb⟩, hl, hn, go⟩ := h
    refine w_ret ?_
    refine w_cb ?_
    refine w_cons ?_
    refine w_lcZT (K := K) (fun u v => match u, v with | .int i, .int j => .int (Builtin.bitAnd i j) | _, _ => .non) (fun R k => w_cons (w_var rfl (w_cons (w_var rfl (w_nil k))))) ha hb (by rw [List.length_map, List.length_map]; exact hl) (by rw [List.length_map]; exact hn) (fun _ _ => rfl) ?_ ?_
    · intro n u v H' R hu hv s k
      rw [List.getElem?_map] at hu hv
      obtain ⟨e, _, rfl⟩ := Option.map_eq_some_iff.mp hu
      obtain ⟨e', _, rfl⟩ := Option.map_eq_some_iff.mp hv
      refine w_op ?_
      refine w_var rfl ?_
      refine w_var rfl ?_
      refine w_I0 ?_
      exact k
    · intro D H' hD s e
      refine w_nil ?_
      refine ⟨D, _, rfl, .inl ⟨SqL.of e, fun t ht => ?_⟩⟩
      have s2 : Same H' (upd H' t (.tup (List.zipWith (fun u v => match u, v with | .int i, .int j => V.int (Builtin.bitAnd i j) | _, _ => .non) (es.map fun e => V.int (e : Nat)) (es'.map fun e => V.int (e : Nat))))) := same_upd (Same.refl _) ht
      refine go _ (.ref t) (s.trans s2) ⟨t, rfl, SqT.of ?_⟩
      rw [upd_same, List.zipWith_map, List.map_zipWith]
      refine congrArg (fun z => some (HO.tup z)) ?_
      congr 1
end

/-- a lot among lots -/
theorem w_inLotsP {K : PySem.W.Frag} {H : Hp} {x y : V} {l : List Str} {ls : List (List Str)} {Q : VK} (hl : Short l) (hm : ∀ z ∈ ls, Short z) (hx : LotAt K H x l) (hy : LotsT K H y ls) (k : Q (.bl (decide (l ∈ ls))) H) : rInDT K x y H Q := by
  obtain ⟨b, ys, rfl, hb, hy⟩ := hy
  refine ⟨lotD l, ls.map lotD, lot_dp hx, .tup hb (dpa_of (fun v b h => lot_dp h) hy), shaped_of (lotD_lay hl) (Nat.le_trans (lotD_dep _) (by decide)), shaped_of ?_ ?_, ?_⟩
  · simp only [PyData.canLay0]
    exact lay_map fun b hb => lotD_lay (hm b hb)
  · have := dep_map (f := lotD) (k := 1) (l := ls) fun l _ => lotD_dep l
    simp only [PyData.depth]
    omega
  · have : ((ls.map lotD).any fun z => PyData.eqv z (lotD l)) = decide (l ∈ ls) := by
      rw [Bool.eq_iff_iff, List.any_eq_true, decide_eq_true_eq]
      refine ⟨fun ⟨z, hz, e⟩ => ?_, fun h => ⟨lotD l, List.mem_map.mpr ⟨l, h, rfl⟩, ?_⟩⟩
      · obtain ⟨m, hm2, rfl⟩ := List.mem_map.mp hz
        have q1 : PyData.eqv (lotD m) (lotD l) = decide (m = l) := eqv_strsD _ _
        rw [q1] at e
        rw [← of_decide_eq_true e]
        exact hm2
      · have q1 : PyData.eqv (lotD l) (lotD l) = decide (l = l) := eqv_strsD _ _
        rw [q1]
        exact decide_eq_true rfl
    rw [this]
    exact k

theorem rests_in {ds l : List Str} {f : Nat → Nat} (hn : ds.Nodup) : l ∈ sortTS (restsN ds (endL ds.length f) 0) ↔ ∃ m, m < 2 ^ ds.length ∧ f m = m ∧ l = lotOf ds m := by
  rw [(sortTS_perm _).mem_iff, restsN_stay endL_len, List.mem_map]
  constructor
  · rintro ⟨m, hm, rfl⟩
    obtain ⟨h1, h2⟩ := stayM_mem.mp hm
    rw [endL_eF h1] at h2
    exact ⟨m, h1, h2, rfl⟩
  · rintro ⟨m, h1, h2, rfl⟩
    exact ⟨m, stayM_mem.mpr ⟨h1, by rw [endL_eF h1]; exact h2⟩, rfl⟩
section
variable {P : Program} {w : World} {K : PySem.W.Frag} {mg : Str → Option Value} {base : Heap} {C : Addr}
theorem ok_Rules_or {f : Addr} {fd : FuncData} (F : Fun K "__or__" "Rules.__or__" sRules_or f fd) (R : RCls K C) (Dneed_same_devices : Def P w K mg base 1 "need_same_devices" Pneed_same_devices (spSame K C)) (Dends_of : Def P w K mg base 3 "ends_of" Pends_of (spEndsOf K)) (Drules_by : Def P w K mg base 6 "rules_by" Prules_by (spRulesBy K C)) : FnOk P w K mg base CX0 7 f fd PRules_or (spROr K C) := by
  refine F.ok scRules_or (fun vs H Q E h => ?_) fun cdv A outer s H vs Q E hr h => ?_
  · obtain ⟨p, q, ds, f, g, bs, bs', rfl, _⟩ := h
    rfl
  · refine ⟨_, (pss_cons (ps_expr (pe_d Dneed_same_devices (hr.mono (by omega)) (pa_cons (pv 0) (pa_cons (pv 1) pa_nil))))
  (pss_one (ps_ret (pe_d Drules_by (hr.mono (by omega)) (pa_cons (pe_fld (pv 0) rfl) (pa_cons (pe_d Dends_of (hr.mono (by omega)) (pa_cons (pe_fld (pv 0) rfl) (pa_cons (pe_op op_catA (pe_fld (pv 0) rfl) (pe_fld (pv 1) rfl)) pa_nil))) pa_nil)))))), ?_⟩
    obtain ⟨p, q, ds, f, g, bs, bs', rfl, hp, hq, hd, go⟩ := h
    obtain ⟨dx, x, y, z, r, es, h1, h2, h3, h4, h5, h6⟩ := hp.at_
    obtain ⟨dx', x', y', z', r', es', g1, g2, g3, g4, g5, g6⟩ := hq.at_
    obtain ⟨hd1, hd2, hd3, hd4⟩ := id hd
    have hbl := hp.few
    have hbl' := hq.few
    refine w_seq ?_
    refine w_drop ?_
    refine w_call ?_
    refine w_cons ?_
    refine w_var rfl ?_
    refine w_cons ?_
    refine w_var rfl ?_
    refine w_nil ?_
    refine ⟨p, q, ds, f, g, bs, bs', rfl, hp, hq, hd, ?_⟩
    dsimp only
    refine w_ret ?_
    refine w_call ?_
    refine w_cons ?_
    refine w_fld ?_
    refine w_var rfl ?_
    refine ⟨p, C, dx, _, x, rfl, h1, R.cl, R.nD, rf_d _ _ _ _, ?_⟩
    refine w_cons ?_
    refine w_call ?_
    refine w_cons ?_
    refine w_fld ?_
    refine w_var rfl ?_
    refine ⟨p, C, dx, _, x, rfl, h1, R.cl, R.nD, rf_d _ _ _ _, ?_⟩
    refine w_cons ?_
    refine w_op ?_
    refine w_fld ?_
    refine w_var rfl ?_
    refine ⟨p, C, dx, _, y, rfl, h1, R.cl, R.nB, rf_b _ _ _ _, ?_⟩
    refine w_fld ?_
    refine w_var rfl ?_
    refine ⟨q, C, dx', _, y', rfl, g1, R.cl, R.nB, rf_b _ _ _ _, ?_⟩
    refine w_catB h3 g3 (by omega) fun H1 v1 s1 hv1 => ?_
    refine w_nil ?_
    refine ⟨x, v1, ds, bs ++ bs', rfl, h2.same s1, hv1, hd2, by rw [List.length_append]; omega, fun H2 z2 es2 s2 hz2 hes2 => ?_⟩
    refine w_nil ?_
    have hst : stepsOf ds (bs ++ bs') = stepsOf ds bs ++ stepsOf ds bs' := List.map_append
    rw [hst] at hes2
    have he2 := ends_join hp.ends hq.ends hp.cl hq.cl hes2 rfl
    refine ⟨x, z2, ds, es2, rfl, (h2.same s1).same s2, hd, hz2, hes2.1, ends_cl hes2, fun H3 r3 s3 hR3 => ?_⟩
    have eB : baseB ds (eF es2) = baseB ds (jnF ds.length f g) := baseB_congr fun m hm => by rw [he2, endL_eF hm]
    rw [eB] at hR3
    exact go H3 r3 ((s1.trans s2).trans s3) (.base hd jn_cl hR3)
theorem ok_Rules_and {f : Addr} {fd : FuncData} (F : Fun K "__and__" "Rules.__and__" sRules_and f fd) (R : RCls K C) (Dneed_same_devices : Def P w K mg base 1 "need_same_devices" Pneed_same_devices (spSame K C)) (Dcommon_ends : Def P w K mg base 1 "common_ends" Pcommon_ends (spCommonEnds K)) (Drules_by : Def P w K mg base 6 "rules_by" Prules_by (spRulesBy K C)) : FnOk P w K mg base CX0 7 f fd PRules_and (spRAnd K C) := by
  refine F.ok scRules_and (fun vs H Q E h => ?_) fun cdv A outer s H vs Q E hr h => ?_
  · obtain ⟨p, q, ds, f, g, bs, bs', rfl, _⟩ := h
    rfl
  · refine ⟨_, (pss_cons (ps_expr (pe_d Dneed_same_devices (hr.mono (by omega)) (pa_cons (pv 0) (pa_cons (pv 1) pa_nil))))
  (pss_one (ps_ret (pe_d Drules_by (hr.mono (by omega)) (pa_cons (pe_fld (pv 0) rfl) (pa_cons (pe_d Dcommon_ends (hr.mono (by omega)) (pa_cons (pe_fld (pv 0) rfl) (pa_cons (pe_fld (pv 1) rfl) pa_nil))) pa_nil)))))), ?_⟩
    obtain ⟨p, q, ds, f, g, bs, bs', rfl, hp, hq, hd, go⟩ := h
    obtain ⟨dx, x, y, z, r, es, h1, h2, h3, h4, h5, h6⟩ := hp.at_
    obtain ⟨dx', x', y', z', r', es', g1, g2, g3, g4, g5, g6⟩ := hq.at_
    obtain rfl := ends_uniq h5 hp.ends fun _ _ _ h => h
    obtain rfl := ends_uniq g5 hq.ends fun _ _ _ h => h
    obtain ⟨hd1, hd2, hd3, hd4⟩ := id hd
    have h64 : 2 ^ ds.length ≤ 64 := Nat.le_trans (Nat.pow_le_pow_right (by decide) hd2) (by decide)
    refine w_seq ?_
    refine w_drop ?_
    refine w_call ?_
    refine w_cons ?_
    refine w_var rfl ?_
    refine w_cons ?_
    refine w_var rfl ?_
    refine w_nil ?_
    refine ⟨p, q, ds, f, g, bs, bs', rfl, hp, hq, hd, ?_⟩
    dsimp only
    refine w_ret ?_
    refine w_call ?_
    refine w_cons ?_
    refine w_fld ?_
    refine w_var rfl ?_
    refine ⟨p, C, dx, _, x, rfl, h1, R.cl, R.nD, rf_d _ _ _ _, ?_⟩
    refine w_cons ?_
    refine w_call ?_
    refine w_cons ?_
    refine w_fld ?_
    refine w_var rfl ?_
    refine ⟨p, C, dx, _, z, rfl, h1, R.cl, R.nE, rf_e _ _ _ _, ?_⟩
    refine w_cons ?_
    refine w_fld ?_
    refine w_var rfl ?_
    refine ⟨q, C, dx', _, z', rfl, g1, R.cl, R.nE, rf_e _ _ _ _, ?_⟩
    refine w_nil ?_
    refine ⟨z, z', _, _, rfl, h4, g4, by rw [endL_len, endL_len], by rw [endL_len]; omega, fun H1 z1 s1 hz1 => ?_⟩
    rw [ends_meet] at hz1
    refine w_nil ?_
    have hC := mt_cl hp.cl hq.cl
    refine ⟨x, z1, ds, _, rfl, h2.same s1, hd, hz1, endL_len, cl_congr hC fun m hm => endL_eF hm, fun H3 r3 s3 hR3 => ?_⟩
    have eB : baseB ds (eF (endL ds.length (mtF f g))) = baseB ds (mtF f g) := baseB_congr fun m hm => endL_eF hm
    rw [eB] at hR3
    exact go H3 r3 (s1.trans s3) (.base hd hC hR3)
end

abbrev s_law_bundles : Stmt := top 58
abbrev N_law_bundles : List Str := ["_law_table_here", "_law_rows_here", "_law_lot_here", "_law_rest_here", "_law_name"]
abbrev P_law_bundles : List Str := ["_law_table_here"]
theorem sc_law_bundles : FnScope N_law_bundles P_law_bundles (defScope s_law_bundles) := ⟨rfl, rfl, rfl, by decide +kernel, rfl, by decide +kernel, by decide +kernel⟩
theorem bs_law_bundles : BindsSt "_law_bundles" s_law_bundles P_law_bundles := fun _ _ _ _ _ _ us hl => match us, hl with | [_], _ => rfl
def Ls (H H' : Hp) : Prop := ∀ b o, H b = some o → (∀ xs, o ≠ .lst xs) → H' b = some o
theorem HS.ls {q : Addr} {H H' : Hp} {ws : List V} (s : HS q H H') (e : H q = some (.lst ws)) : Ls H H' := fun b o h n => s b o (fun z => by rw [z, e] at h; exact n ws (Option.some.inj h).symm) h
theorem Ls.sqT {K : PySem.W.Frag} {H H' : Hp} {a : Addr} {xs : List V} (k : Ls H H') (h : SqT K H a xs) : SqT K H' a xs := by
  rcases h with (h | ⟨o, h⟩) | h
  · exact .inl (.inl (k _ _ h fun _ e => nomatch e))
  · exact .inl (.inr ⟨o, k _ _ h fun _ e => nomatch e⟩)
  · exact .inr h
theorem Ls.lot {K : PySem.W.Frag} {H H' : Hp} {x : V} {l : List Str} (k : Ls H H') (h : LotAt K H x l) : LotAt K H' x l := by
  obtain ⟨a, e, h⟩ := h
  exact ⟨a, e, k.sqT h⟩
theorem Ls.lotH {H H' : Hp} {x : V} {l : List Str} (k : Ls H H') (h : LotH H x l) : LotH H' x l := by
  obtain ⟨a, e, h⟩ := h
  exact ⟨a, e, k _ _ h fun _ e => nomatch e⟩
theorem Ls.table {K : PySem.W.Frag} {H H' : Hp} {D : Addr} {ds : List Str} {bs : List Bun} (k : Ls H H') (h : TableAt K H D ds bs) : TableAt K H' D ds bs := by
  obtain ⟨kvs, h1, h2⟩ := h
  exact ⟨kvs, k _ _ h1 (fun _ e => nomatch e), Paired.mapP h2 fun kv l ⟨g1, e, g2, g3, g4⟩ => ⟨g1, e, g2, g3, k.lot g4⟩⟩
theorem ls_upd {H : Hp} {D : Addr} {ys zs : List V} (e : H D = some (.lst ys)) : Ls H (upd H D (.lst zs)) := fun b o h n => by
  rw [upd_ne fun z => by rw [z, e] at h; exact n ys (Option.some.inj h).symm]
  exact h
theorem ls_same {H H' : Hp} (s : Same H H') : Ls H H' := fun b o h _ => s b o h
theorem lotH_same {H H' : Hp} {x : V} {l : List Str} (h : LotH H x l) (s : Same H H') : LotH H' x l := (ls_same s).lotH h
/-- != of two lots -/
theorem w_neLots {K : PySem.W.Frag} {H : Hp} {x y : V} {l m : List Str} {Q : VK} (hl : ∀ d ∈ l, PyData.strOk d = true) (hm : ∀ d ∈ m, PyData.strOk d = true) (hx : LotAt K H x l) (hy : LotAt K H y m) (k : Q (.bl (!decide (l = m))) H) : rNeD K x y H Q := by
  obtain ⟨a, rfl, ha⟩ := hx
  obtain ⟨b, rfl, hb⟩ := hy
  refine ⟨_, _, .tup ha (dp_strs l), .tup hb (dp_strs m), tup_shaped l hl, tup_shaped m hm, ?_⟩
  rw [PyData.eqv, eqv_strs]
  exact k
/-! ### by length, then by the texts -/
def lenLex (a b : List Str) : Bool := if a.length = b.length then lexS a b else decide (a.length < b.length)
def lenD (l : List Str) : PyData := .tuple [.int (l.length : Nat), lotD l]
theorem len_lt (a b : List Str) : PySem.W.dataLt (lenD a) (lenD b) = lenLex a b := by
  have l1 : PySem.W.alike (.int (a.length : Nat)) (.int (b.length : Nat)) = true := by simp [PySem.W.alike]
  have l2 : PySem.W.alike (lotD a) (lotD b) = true := by
    unfold lotD PySem.W.alike
    exact alike_strs _ _
  unfold lenD
  rw [PySem.W.dataLt_pair l1 l2]
  have e1 : PyData.eqv (.int (a.length : Nat)) (.int (b.length : Nat)) = decide (a.length = b.length) := by
    simp only [PyData.eqv]
    by_cases q : a.length = b.length
    · simp [q]
    · rw [decide_eq_false q]
      simp
      omega
  have e2 : PyData.eqv (lotD a) (lotD b) = decide (a = b) := eqv_strsD _ _
  rw [e1, e2]
  unfold lenLex
  by_cases q : a.length = b.length
  · rw [if_pos (decide_eq_true q), if_pos q]
    by_cases z : a = b
    · rw [if_pos (decide_eq_true z), z, lexS_irr]
    · rw [if_neg (by simpa using z)]
      exact lt_strs _ _
  · rw [if_neg (by simpa using q), if_neg q, PySem.W.dataLt_int]
    exact decide_eq_decide.mpr (by omega)
theorem lenLex_f {a b : List Str} : lenLex b a = false ↔ a.length < b.length ∨ (a.length = b.length ∧ lexS b a = false) := by
  unfold lenLex
  by_cases q : b.length = a.length
  · rw [if_pos q]
    exact ⟨fun h => .inr ⟨q.symm, h⟩, fun h => h.elim (fun h => by omega) fun h => h.2⟩
  · rw [if_neg q, decide_eq_false_iff_not]
    exact ⟨fun h => .inl (by omega), fun h => h.elim (fun h => by omega) fun h => absurd h.1.symm q⟩
def byLen (ls : List (List Str)) : List (List Str) := ls.mergeSort fun a b => !lenLex b a
theorem byLen_up (ls : List (List Str)) : (byLen ls).Pairwise fun a b => a.length ≤ b.length := by
  have h := List.pairwise_mergeSort (le := fun a b => !lenLex b a) (fun a b c h1 h2 => ?_) (fun a b => ?_) ls
  · exact h.imp fun h => by
      have := lenLex_f.mp (by simpa using h)
      omega
  · simp only [Bool.not_eq_true'] at h1 h2 ⊢
    rw [lenLex_f] at h1 h2 ⊢
    rcases h1 with h1 | ⟨h1, h1'⟩
    · rcases h2 with h2 | ⟨h2, h2'⟩
      · exact .inl (by omega)
      · exact .inl (by omega)
    · rcases h2 with h2 | ⟨h2, h2'⟩
      · exact .inl (by omega)
      · exact .inr ⟨by omega, (lexS_swo id).tr a b c h1' h2'⟩
  · simp only [Bool.or_eq_true, Bool.not_eq_true']
    rw [lenLex_f, lenLex_f]
    rcases Nat.lt_trichotomy a.length b.length with q | q | q
    · exact .inl (.inl q)
    · cases e : lexS b a with
      | false => exact .inl (.inr ⟨q, rfl⟩)
      | true => exact .inr (.inr ⟨q.symm, (lexS_swo id).asym b a e⟩)
    · exact .inr (.inl q)
theorem byLen_perm (ls : List (List Str)) : (byLen ls).Perm ls := List.mergeSort_perm _ _
theorem lens_alike (ls : List (List Str)) : PySem.W.AllAlike (ls.map lenD) := PySem.W.AllAlike.of fun a b => by
  unfold lenD lotD PySem.W.alike PySem.W.alikeAll PySem.W.alike
  unfold PySem.W.alikeAll PySem.W.alike
  rw [alike_strs]
  simp [PySem.W.alikeAll]
/-- lots as values of which the tuple stands in the heap -/
def LotsH (H : Hp) (ys : List V) (ls : List (List Str)) : Prop := Paired (LotH H) ys ls
def spLNeeding (K : PySem.W.Frag) : Sp := fun vs H Q _ => ∃ (x : V) (D : Addr) (ds : List Str) (bs : List Bun) (es : List Nat), vs = [x, .ref D] ∧ LotAt K H x ds ∧ Devs ds ∧ TableAt K H D ds bs ∧ EndsOf ds.length (stepsOf ds bs) es ∧
  ∀ H' N ys ls, H N = none → Same H H' → H' N = some (.lst ys) → Paired (LotH H') ys ls → ls.Perm ((lotsAll ds).filter fun l => decide (isNeed (eF es) (maskOf ds l))) → Q (.ref N) H'
section
variable {P : Program} {w : World} {K : PySem.W.Frag} {mg : Str → Option Value} {base : Heap}
end

theorem filter_notin (l m : List Str) : (l.map V.str).filter (fun v => !inV v (m.map V.str)) = (l.filter fun d => !decide (d ∈ m)).map V.str := by
  rw [List.filter_map]
  congr 1
  refine List.filter_congr fun d _ => ?_
  dsimp only [Function.comp]
  rw [inV_str]
def spLBase (K : PySem.W.Frag) : Sp := fun vs H Q _ => ∃ (x : V) (D : Addr) (ds : List Str) (bs : List Bun) (es : List Nat), vs = [x, .ref D] ∧ LotAt K H x ds ∧ Devs ds ∧ TableAt K H D ds bs ∧ EndsOf ds.length (stepsOf ds bs) es ∧
  ∀ H' v, Same H H' → BunsAt K H' v (baseB ds (eF es)) → Q v H'
section
variable {P : Program} {w : World} {K : PySem.W.Frag} {mg : Str → Option Value} {base : Heap}
end

def RowsT (K : PySem.W.Frag) (H : Hp) (r : Addr) (bs : List Bun) : Prop := ∃ xs, SqT K H r xs ∧ Paired (BunAt K H) xs bs
theorem RowsT.same {K : PySem.W.Frag} {H H' : Hp} {r : Addr} {bs : List Bun} (h : RowsT K H r bs) (s : Same H H') : RowsT K H' r bs := by
  obtain ⟨xs, h1, h2⟩ := h
  exact ⟨xs, Same.sqT s h1, Paired.mapP h2 fun _ _ h => h.same s⟩
def spRestT (K : PySem.W.Frag) : Sp := fun vs H Q _ => ∃ (x y : V) (r : Addr) (ds l : List Str) (bs : List Bun), vs = [x, .ref r, y] ∧ LotAt K H x ds ∧ LotAt K H y l ∧ RowsT K H r bs ∧ BunsOf ds bs ∧ l.Nodup ∧ (∀ d ∈ l, d ∈ ds) ∧ ds.length ≤ 60 ∧ bs.length ≤ 1000 ∧
  ∀ H' z e, Same H H' → IsEnd (stepsOf ds bs) (maskOf ds l) e → LotAt K H' z (lotOf ds e) → Q z H'
def spTableT (K : PySem.W.Frag) : Sp := fun vs H Q _ => ∃ (x : V) (r : Addr) (ds : List Str) (bs : List Bun), vs = [x, .ref r] ∧ LotAt K H x ds ∧ RowsT K H r bs ∧ Devs ds ∧ RowsOf ds bs ∧ bs.length ≤ 1000 ∧
  ∀ H' D, H D = none → Same H H' → TableAt K H' D ds bs → Q (.ref D) H'
section
variable {P : Program} {w : World} {K : PySem.W.Frag} {mg : Str → Option Value} {base : Heap}
theorem ok_restT (F : FunAt K mg "_law_rest" s_law_rest) (T : Txt mg) (D_law_in_sequence : Def P w K mg base 1 "_law_in_sequence" P_law_in_sequence (spSeq K)) (D_law_is_within : Def P w K mg base 1 "_law_is_within" P_law_is_within (spWithin K)) : Def P w K mg base 2 "_law_rest" P_law_rest (spRestT K) := by
  refine def_of F sc_law_rest bs_law_rest (fun vs H Q E h => ?_) fun f cdv A outer s H vs Q E hr h => ?_
  · obtain ⟨x, y, r, ds, l, bs, rfl, _⟩ := h
    rfl
  · refine ⟨_, (pss_cons (ps_asg (pe_tup (pa_cons (pe_callTy call_listN (by rfl) T.n_list (by decide +kernel) (pa_cons (pv 2) pa_nil)) (pa_cons pe_bl pa_nil))) (pg_tup (by rfl) (pgs_cons (pg_name (i := 3) sc_law_rest.nd rfl (by first | exact Or.inl rfl | exact Or.inr rfl)) (pgs_cons (pg_name (i := 4) sc_law_rest.nd rfl (by first | exact Or.inl rfl | exact Or.inr rfl)) pgs_nil))))
  (pss_cons (ps_while PassesOwn.never (pt_val (pv 4)) (pss_cons (ps_set (i := 4) sc_law_rest.nd rfl (by first | exact Or.inl rfl | exact Or.inr rfl) pe_bl)
  (pss_one (ps_for PassesOwn.never rfl (pi_tup (pv 1)) (pg_tup (by rfl) (pgs_cons (pg_name (i := 5) sc_law_rest.nd rfl (by first | exact Or.inl rfl | exact Or.inr rfl)) (pgs_cons (pg_name (i := 6) sc_law_rest.nd rfl (by first | exact Or.inl rfl | exact Or.inr rfl)) pgs_nil))) (pss_one (ps_if (PW.pt (pw_and (pt_val (pe_d D_law_is_within (hr.mono (by omega)) (pa_cons (pv 5) (pa_cons (pv 3) pa_nil)))) (pw_and1 (pt_not (pt_val (pe_d D_law_is_within (hr.mono (by omega)) (pa_cons (pv 6) (pa_cons (pv 3) pa_nil)))))))) (pss_cons (ps_expr (pe_bm PySem.F.plainAttrs_list PySem.F.slot_list_extend PySem.F.type_list_extend mt_extend (pv 3) (pa_cons (pe_lc (own := [("_law_name", 7)]) (g := (gName 7)) rfl sc_law_rest.nd (pi_tup (pv 6)) (blkOk_by (N := N_law_rest) (sc := defScope s_law_rest) (by decide +kernel)) (fun _ _ _ _ _ => (pg_name (i := 7) sc_law_rest.nd rfl (by first | exact Or.inl rfl | exact Or.inr rfl))) (fun _ _ _ _ _ => (pts_one (pt_cmpR (op_notinK (K := K) rfl) (pv 7) (pv 3) (by rfl)))) (fun _ _ _ _ _ => (pv 7))) pa_nil)))
  (pss_one (ps_set (i := 4) sc_law_rest.nd rfl (by first | exact Or.inl rfl | exact Or.inr rfl) pe_bl))) pss_nil))))))
  (pss_one (ps_ret (pe_d D_law_in_sequence (hr.mono (by omega)) (pa_cons (pv 0) (pa_cons (pv 3) pa_nil))))))), ?_⟩
    obtain ⟨x, y, r, ds, l, bs, rfl, hx, ⟨a, rfl, ha⟩, ⟨xs, hxs, hp⟩, hbs, hl, hld, hn, hz, go⟩ := h
    have hlen := Paired.length hp
    walk_at "v"
    refine w_tup ?_
    walk_at "v"
    refine ⟨a, l.map V.str, rfl, .inr ha, fun p hp0 _ => ?_⟩
    walk_at "v"
    rename_i tt htt
    have s1 : Same H (upd H p (.lst (l.map V.str))) := same_upd (Same.refl _) hp0
    refine w_gtup2 (SqT.of upd_same) ?_
    have s2 : Same H (upd (upd H p (.lst (l.map V.str))) tt (.tup [.ref p, .bl true])) := same_upd s1 htt
    have e2 : (upd (upd H p (.lst (l.map V.str))) tt (.tup [.ref p, .bl true])) p = some (.lst (l.map V.str)) := upd_get htt upd_same
    generalize hH2 : upd (upd H p (.lst (l.map V.str))) tt (.tup [.ref p, .bl true]) = H2 at s2 e2
    clear hH2 htt s1
    have hn1 : ∀ ws : List Str, maskOf ds ws < 2 ^ ds.length := fun ws => mask_lt ws ds
    walk_at "v"
    refine ⟨fun μ σ' H' => ∃ (ws : List Str) (st : Bool) (x5 x6 x7 : Option V), σ' = [some x, some (.ref r), some (.ref a), some (.ref p), some (.bl st), x5, x6, x7] ∧ Same H H' ∧ H' p = some (.lst (ws.map V.str)) ∧ ws.Nodup ∧ (∀ d ∈ ws, d ∈ ds) ∧ Sub (maskOf ds l) (maskOf ds ws) ∧
        (∀ c, Sub (maskOf ds l) c → Closed (stepsOf ds bs) c → Sub (maskOf ds ws) c) ∧ (st = false → Closed (stepsOf ds bs) (maskOf ds ws)) ∧ μ = if st = true then 2 ^ ds.length - maskOf ds ws + 1 else 0,
      ⟨_, l, true, none, none, none, rfl, s2, e2, hl, hld, Sub.refl _, fun _ h _ => h, (fun h => nomatch h), rfl⟩, ?_⟩
    rintro μ σ' H' ⟨ws, st, x5, x6, x7, rfl, sH, ep, hnd, hsub, h1, h2, h3, rfl⟩
    walk_at "v"
    cases st with
    | false =>
      refine iteF ?_
      walk_at "v"
      refine ⟨x, p, ds, ws, rfl, hx.same sH, .inl (SqL.of ep), by omega, fun H3 z s3 hz3 => ?_⟩
      refine go H3 z (maskOf ds ws) (sH.trans s3) ⟨h1, h3 rfl, h2⟩ ?_
      rw [lot_mask]
      exact hz3.at
    | true =>
      refine iteT ?_
      refine ⟨fun σ2 H3 => ∃ (us : List Str) (st : Bool) (x5 x6 x7 : Option V), σ2 = [some x, some (.ref r), some (.ref a), some (.ref p), some (.bl st), x5, x6, x7] ∧ Same H H3 ∧ H3 p = some (.lst (us.map V.str)) ∧ us.Nodup ∧ (∀ d ∈ us, d ∈ ds) ∧ Sub (maskOf ds ws) (maskOf ds us) ∧
        (∀ c, Sub (maskOf ds l) c → Closed (stepsOf ds bs) c → Sub (maskOf ds us) c) ∧ (st = true → maskOf ds ws < maskOf ds us) ∧ (st = false → Closed (stepsOf ds bs) (maskOf ds us)), ?_, ?_⟩
      · rintro σ2 H3 ⟨us, st, y5, y6, y7, rfl, k1, k2, k3, k4, k5, k6, k7, k8⟩
        refine ⟨_, ?_, us, st, y5, y6, y7, rfl, k1, k2, k3, k4, h1.trans k5, k6, k8, rfl⟩
        rw [if_pos rfl]
        have := hn1 us
        cases st with
        | false =>
          rw [if_neg Bool.false_ne_true]
          omega
        | true =>
          rw [if_pos rfl]
          have := k7 rfl
          omega
      · walk_at "v"
        refine w_forT (K := K) (l := r) (xs := xs) (Pv := fun i σ2 H3 => ∃ (us : List Str) (st : Bool) (x5 x6 x7 : Option V), σ2 = [some x, some (.ref r), some (.ref a), some (.ref p), some (.bl st), x5, x6, x7] ∧ Same H H3 ∧ H3 p = some (.lst (us.map V.str)) ∧ us.Nodup ∧ (∀ d ∈ us, d ∈ ds) ∧ Sub (maskOf ds ws) (maskOf ds us) ∧
          (∀ c, Sub (maskOf ds l) c → Closed (stepsOf ds bs) c → Sub (maskOf ds us) c) ∧ (st = true → maskOf ds ws < maskOf ds us) ∧ (st = false → us = ws ∧ ∀ b ∈ bs.take i, Sub (maskOf ds b.1) (maskOf ds us) → Sub (maskOf ds b.2) (maskOf ds us)))
          ⟨_, rfl, rfl, Same.sqT sH hxs, ws, false, x5, x6, x7, rfl, sH, ep, hnd, hsub, Sub.refl _, h2, (fun h => nomatch h), fun _ => ⟨rfl, fun b hb => by simp at hb⟩⟩ (fun i σ2 H3 _ h => by
            obtain ⟨us, st, y5, y6, y7, _, k1, _⟩ := h
            exact Same.sqT k1 hxs) ?_ ?_ var_mono
        · rintro i v σ2 H3 hv ⟨us, st, y5, y6, y7, rfl, k1, k2, k3, k4, k5, k6, k7, k8⟩
          obtain ⟨b, hb, hbun⟩ := Paired.at hp hv
          have hmem : b ∈ bs := List.mem_of_getElem? hb
          obtain ⟨nb1, nb2, sb1, sb2⟩ := hbs b hmem
          have htake : bs.take (i + 1) = bs.take i ++ [b] := by rw [List.take_succ, hb]; rfl
          obtain ⟨t, y, z, rfl, q1, q2, q3⟩ := hbun.same k1
          have lus := nodup_len k3 k4
          have lb1 := nodup_len nb1 sb1
          have lb2 := nodup_len nb2 sb2
          refine w_gtup2 q1 ?_
          walk_at "v"
          refine ⟨y, p, b.1, us, rfl, q2, .inl (SqL.of k2), by omega, fun H4 s4 => ?_⟩
          walk_at "v"
          have k24 := s4 _ _ k2
          have skip : ∀ {H5 : Hp}, Same H3 H5 → (Sub (maskOf ds b.1) (maskOf ds us) → Sub (maskOf ds b.2) (maskOf ds us)) → ∃ (us' : List Str) (st' : Bool) (x5 x6 x7 : Option V), [some x, some (.ref r), some (.ref a), some (.ref p), some (V.bl st), some y, some z, y7] = [some x, some (.ref r), some (.ref a), some (.ref p), some (.bl st'), x5, x6, x7] ∧ Same H H5 ∧ H5 p = some (.lst (us'.map V.str)) ∧ us'.Nodup ∧ (∀ d ∈ us', d ∈ ds) ∧ Sub (maskOf ds ws) (maskOf ds us') ∧
              (∀ c, Sub (maskOf ds l) c → Closed (stepsOf ds bs) c → Sub (maskOf ds us') c) ∧ (st' = true → maskOf ds ws < maskOf ds us') ∧ (st' = false → us' = ws ∧ ∀ b ∈ bs.take (i + 1), Sub (maskOf ds b.1) (maskOf ds us') → Sub (maskOf ds b.2) (maskOf ds us')) := fun {H5} s5 hc =>
            ⟨us, st, _, _, _, rfl, k1.trans s5, s5 _ _ k2, k3, k4, k5, k6, k7, fun hf => ⟨(k8 hf).1, fun c hcm => by
              rw [htake] at hcm
              rcases List.mem_append.mp hcm with hcm | hcm
              · exact (k8 hf).2 c hcm
              · rw [List.mem_singleton.mp hcm]
                exact hc⟩⟩
          refine iteB (fun c1 => ?_) (fun c1 => ?_)
          · have hs1 : Sub (maskOf ds b.1) (maskOf ds us) := (sub_mask sb1).mpr fun d hd => of_decide_eq_true (List.all_eq_true.mp c1 d hd)
            walk_at "v"
            refine ⟨z, p, b.2, us, rfl, q3.same s4, .inl (SqL.of k24), by omega, fun H5 s5 => ?_⟩
            have k25 := s5 _ _ k24
            walk_at "v"
            cases hc2 : (b.2.all fun d => decide (d ∈ us)) with
            | true =>
              refine iteF ?_
              walk_at "v"
              exact skip (s4.trans s5) fun _ => (sub_mask sb2).mpr fun d hd => of_decide_eq_true (List.all_eq_true.mp hc2 d hd)
            | false =>
              refine iteT ?_
              walk_at "v"
              refine w_bm ?_
              walk_at "v"
              refine ⟨.inl ⟨rfl, _, SqL.of k25⟩, ?_⟩
              walk_at "v"
              obtain ⟨tz, rfl, hzt⟩ := (q3.same s4).same s5
              refine w_lcTF (fun x => !inV x (us.map V.str)) id (fun R k => ⟨_, rfl, k⟩) hzt (by rw [List.length_map]; omega) (fun _ => rfl) ?_ ?_ ?_
              · intro v H' R hv s k
                obtain ⟨d, _, rfl⟩ := List.mem_map.mp hv
                walk_at "v"
                exact ⟨p, us.map V.str, rfl, .inl (SqL.of (s _ _ k25)), rfl, flat_strs us, _, rfl, k⟩
              · intro v H' R hv s k
                walk_at "v"
                exact k
              · intro D H6 hD s6 e6
                rw [filter_strs (p := fun d => !decide (d ∈ us)) fun d => congrArg (!·) inV_str] at e6
                walk_at "v"
                have lf := List.length_filter_le (fun d => !decide (d ∈ us)) b.2
                refine ⟨p, D, _, _, rfl, rfl, s6 _ _ k25, e6, ?_, ?_⟩
                · rw [List.length_map, List.length_map, sizeLine_eq]
                  omega
                walk_at "v"
                rw [← List.map_append]
                refine ⟨us ++ b.2.filter (fun d => !decide (d ∈ us)), true, _, _, _, rfl, Same.upd2 (((k1.trans s4).trans s5).trans s6) hp0, upd_same, nodup_app k3 nb2, ?_, ?_, ?_, fun _ => ?_, fun h => nomatch h⟩
                · intro d hd
                  rcases List.mem_append.mp hd with hd | hd
                  · exact k4 d hd
                  · exact sb2 d (List.mem_filter.mp hd).1
                · rw [mask_app]
                  exact k5.trans (Sub.orl _ _)
                · intro c g1 g2
                  rw [mask_app]
                  exact (k6 c g1 g2).or (g2 _ (List.mem_map.mpr ⟨b, hmem, rfl⟩) (hs1.trans (k6 c g1 g2)))
                · rw [mask_app]
                  have hle := k5.le
                  have hlt : maskOf ds us < maskOf ds us ||| maskOf ds b.2 := by
                    refine Nat.lt_of_le_of_ne (Sub.orl _ _).le fun e => ?_
                    have : Sub (maskOf ds b.2) (maskOf ds us) := e ▸ Sub.orr _ _
                    have := (sub_mask sb2).mp this
                    have hall : (b.2.all fun d => decide (d ∈ us)) = true := List.all_eq_true.mpr fun d hd => decide_eq_true (this d hd)
                    rw [hc2] at hall
                    cases hall
                  omega
          · walk_at "v"
            refine skip s4 fun hs => ?_
            have := (sub_mask sb1).mp hs
            have hall : (b.1.all fun d => decide (d ∈ us)) = true := List.all_eq_true.mpr fun d hd => decide_eq_true (this d hd)
            rw [c1] at hall
            cases hall
        · rintro σ2 H3 ⟨us, st, y5, y6, y7, rfl, k1, k2, k3, k4, k5, k6, k7, k8⟩
          refine ⟨us, st, y5, y6, y7, rfl, k1, k2, k3, k4, k5, k6, k7, fun hf q hq hs => ?_⟩
          obtain ⟨b, hb, rfl⟩ := List.mem_map.mp hq
          exact (k8 hf).2 b (by rw [hlen, List.take_length]; exact hb) hs
theorem ok_tableT (F : FunAt K mg "_law_table" s_law_table) (T : Txt mg) (D_law_lots : Def P w K mg base 1 "_law_lots" P_law_lots (spLots K)) (D_law_rest : Def P w K mg base 2 "_law_rest" P_law_rest (spRestT K)) : Def P w K mg base 3 "_law_table" P_law_table (spTableT K) := by
  refine def_of F sc_law_table bs_law_table (fun vs H Q E h => ?_) fun f cdv A outer s H vs Q E hr h => ?_
  · obtain ⟨x, r, ds, bs, rfl, _⟩ := h
    rfl
  · refine ⟨_, (pss_one (ps_ret (pe_callTy (call_dictT rfl hr.units) (by rfl) T.n_dict (by decide +kernel) (pa_cons (pe_lc (own := [("_law_lot_here", 2)]) (g := (gName 2)) (tt := tYes) rfl sc_law_table.nd (pi_list (pe_d D_law_lots (hr.mono (by omega)) (pa_cons (pv 0) pa_nil))) (blkOk_by (N := N_law_table) (sc := defScope s_law_table) (by decide +kernel)) (fun _ _ _ _ _ => (pg_name (i := 2) sc_law_table.nd rfl (by first | exact Or.inl rfl | exact Or.inr rfl))) (fun _ _ _ _ _ => pts_nil) (fun _ _ _ _ _ => (pe_tup (pa_cons (pv 2) (pa_cons (pe_d D_law_rest (hr.mono (by omega)) (pa_cons (pv 0) (pa_cons (pv 1) (pa_cons (pv 2) pa_nil)))) pa_nil))))) pa_nil)))), ?_⟩
    obtain ⟨x, r, ds, bs, rfl, hx, hr', hd, hb, hz, go⟩ := h
    obtain ⟨hd1, hd2, hd3, hd4⟩ := id hd
    walk_at "v"
    refine w_lcHd ?_
    walk_at "v"
    refine ⟨x, ds, rfl, hx, hd2, fun H1 D0 ys hD0 s1 e1 hys => ?_⟩
    have hl1 : (sortTS (lots ds)).length = 2 ^ ds.length := by rw [(sortTS_perm _).length_eq, lots_len]
    have hle : 2 ^ ds.length ≤ 2 ^ 6 := Nat.pow_le_pow_right (by decide) hd2
    have hyl := Paired.length hys
    refine w_lcLG (bs := sortTS (lots ds)) (PairE K ds bs) (fun y b H H' h s => h.same s) (fun y b H D ys zs h h1 e => h.upd e) (fun R k => k) (SqL.of e1) (by omega) hyl (fun _ => rfl) ?_ ?_
    · intro n v l H2 R hv hl s2 k
      have hml : l ∈ lots ds := (sortTS_perm _).mem_iff.mp (List.mem_of_getElem? hl)
      obtain ⟨l', hl', hv'⟩ := Paired.at hys hv
      rw [hl] at hl'
      obtain rfl := Option.some.inj hl'
      obtain ⟨m, hm, rfl⟩ := lotsAll_mem hml
      obtain ⟨t, rfl, ht⟩ := hv'
      have hsub := lotOf_sublist ds m
      refine w_tup ?_
      walk_at "v"
      obtain ⟨rxs, hrx, hrp⟩ := id hr'
      have s12 := s1.trans s2
      refine ⟨x, .ref t, r, ds, lotOf ds m, bs, rfl, hx.same s12, ⟨t, rfl, SqT.of (s2 _ _ ht)⟩, ⟨rxs, Same.sqT s12 hrx, Paired.mapP hrp fun _ _ h => h.same s12⟩, hb.buns hd3, hsub.nodup hd3, fun d hd => hsub.subset hd, by omega, hz, fun H3 z e s3 hE hz3 => ?_⟩
      walk_at "v"
      rename_i T hT
      have s4 : Same H3 (upd H3 T (.tup [.ref t, z])) := same_upd (Same.refl _) hT
      refine k _ _ (s3.trans s4) ⟨T, t, z, e, rfl, SqT.of upd_same, s4 _ _ (s3 _ _ (s2 _ _ ht)), hE, ?_, hz3.same s4⟩
      exact end_lt hE (mask_lt _ _) fun p hp => by
        unfold stepsOf at hp
        obtain ⟨b, _, rfl⟩ := List.mem_map.mp hp
        exact mask_lt _ _
    · intro D H2 ps hD s2 e2 hps
      walk_at "v"
      obtain ⟨as, kvs, rfl, h1, h2⟩ := pairE_split hps
      have hk : kvs.map (·.1) = (sortTS (lots ds)).map keyOf := by
        clear h1
        generalize sortTS (lots ds) = ls at h2
        induction h2 with
        | nil => rfl
        | cons h t ih => rw [List.map_cons, List.map_cons, ih, h.1]
      have hnd : (kvs.map (·.1)).Nodup := by
        rw [hk]
        exact List.pairwise_map.mpr (((sortTS_perm _).nodup_iff.mpr (lotsAll_nodup hd3)).imp fun h e => h (keyOf_inj e))
      refine ⟨D, as, kvs, rfl, SqL.of e2, h1, fun p hp => ?_⟩
      rw [mergeT_new (acc := []) (by simpa using hnd), List.nil_append]
      have s3 : Same H2 (upd H2 p (.dT kvs)) := same_upd (Same.refl _) hp
      exact go _ p ((s1.trans s2).free hp) ((s1.trans s2).trans s3) ⟨kvs, upd_same, Paired.mapP h2 fun _ _ h => h.same s3⟩
end

theorem HS.lk {q : Addr} {H H' : Hp} {kvs : List (List Key × V)} (s : HS q H H') (e : H q = some (.dT kvs)) : Lk H H' := fun b o h n => s b o (fun z => by rw [z, e] at h; exact n kvs (Option.some.inj h).symm) h
theorem Lk.lotH {H H' : Hp} {x : V} {l : List Str} (k : Lk H H') (h : LotH H x l) : LotH H' x l := by
  obtain ⟨a, e, h⟩ := h
  exact ⟨a, e, k _ _ h fun _ z => nomatch z⟩
theorem lot_and {ds l : List Str} {a : Nat} (hn : ds.Nodup) : ((lotOf ds a).filter fun d => decide (d ∈ l)) = lotOf ds (a &&& maskOf ds l) := subl_ext hn (List.filter_sublist.trans (lotOf_sublist ds a)) (lotOf_sublist ds _) fun d hd => by
  obtain ⟨i, hi⟩ := List.getElem?_of_mem hd
  rw [List.mem_filter, lot_bit hn hi, lot_bit hn hi, Nat.testBit_and, Bool.and_eq_true, decide_eq_true_eq, mask_bit]
  exact and_congr_right fun _ => ⟨fun h => ⟨d, hi, h⟩, fun ⟨d', h1, h2⟩ => by
    rw [hi] at h1
    rw [Option.some.inj h1]
    exact h2⟩
theorem mask_full : ∀ {ds : List Str}, maskOf ds ds = full ds.length := by
  intro ds
  refine Sub.anti (sub_full (mask_lt _ _)) (sub_iff.mpr fun i hi => ?_)
  unfold full at hi
  rw [Nat.testBit_two_pow_sub_one, decide_eq_true_eq] at hi
  exact mask_bit.mpr ⟨ds[i], List.getElem?_eq_getElem hi, List.getElem_mem hi⟩
theorem lot_full {ds : List Str} (hn : ds.Nodup) : lotOf ds (full ds.length) = ds := by
  rw [← mask_full, lot_mask]
  exact sub_filter (List.Sublist.refl ds) hn
theorem lot_of_mask {ds l : List Str} (hn : ds.Nodup) (h : l.Sublist ds) : lotOf ds (maskOf ds l) = l := by
  rw [lot_mask]
  exact sub_filter h hn
theorem mask_inj {ds l l' : List Str} (hn : ds.Nodup) (h : l.Sublist ds) (h' : l'.Sublist ds) : maskOf ds l = maskOf ds l' ↔ l = l' := ⟨fun z => by rw [← lot_of_mask hn h, z, lot_of_mask hn h'], fun z => by rw [z]⟩
theorem lots_sub {ds l : List Str} (h : l ∈ sortTS (lots ds)) : l.Sublist ds := by
  obtain ⟨m, _, e⟩ := lotsAll_mem ((sortTS_perm _).mem_iff.mp h)
  rw [e]
  exact lotOf_sublist _ _
theorem lots_in {ds l : List Str} (hn : ds.Nodup) (h : l.Sublist ds) : l ∈ sortTS (lots ds) := (sortTS_perm _).mem_iff.mpr (by
  show _ ∈ lotsAll ds
  rw [lotsAll_range]
  exact List.mem_map.mpr ⟨maskOf ds l, List.mem_range.mpr (mask_lt _ _), lot_of_mask hn h⟩)
theorem lots_few {ds : List Str} (h : ds.length ≤ 6) : (sortTS (lots ds)).length ≤ 64 := by
  rw [(sortTS_perm _).length_eq, lots_len]
  exact Nat.le_trans (Nat.pow_le_pow_right (by decide) h) (by decide)
theorem valV_new {kvs : List (List Key × V)} {k : List Key} (h : k ∉ kvs.map (·.1)) : valV kvs k = none := by
  cases e : valV kvs k with
  | none => rfl
  | some v =>
    have h0 := valV_any k kvs
    rw [e] at h0
    obtain ⟨q, hq, hk⟩ := List.any_eq_true.mp h0
    exact absurd (List.mem_map.mpr ⟨q, hq, of_decide_eq_true hk⟩) h
theorem entries_keys {K : PySem.W.Frag} {H : Hp} {ds : List Str} {bs : List Bun} : ∀ {kvs : List (List Key × V)} {ls : List (List Str)}, Paired (Entry K H ds bs) kvs ls → kvs.map (·.1) = ls.map keyOf
  | _, _, .nil => rfl
  | _, _, .cons h t => by rw [List.map_cons, List.map_cons, entries_keys t, h.1]
def spTableOf (K : PySem.W.Frag) (C : Addr) : Sp := fun vs H Q _ => ∃ (p : Addr) (ds : List Str) (bs : List Bun), vs = [.ref p] ∧ RulesAt K C H p ds bs ∧ Devs ds ∧ RowsOf ds bs ∧ bs.length ≤ 1000 ∧
  ∀ H' D, H D = none → Same H H' → TableAt K H' D ds bs → Q (.ref D) H'
theorem unlock_sqT {K : PySem.W.Frag} {H : Hp} {D a : Addr} {o : Obj} {kvs : List (List Key × V)} {u : HO} {xs : List V} (e : H D = some (.frz o (.dT kvs))) (h : SqT K H a xs) : SqT K (upd H D u) a xs := by
  rcases h with (h | ⟨o', h⟩) | h
  · exact .inl (.inl (by rw [upd_ne (fun z => by rw [z, e] at h; cases h)]; exact h))
  · exact .inl (.inr ⟨o', by rw [upd_ne (fun z => by rw [z, e] at h; cases h)]; exact h⟩)
  · exact .inr h
theorem w_lockS {t : TS} {D : Ends} {σ : L2.St} {H : Hp} (k : tLock t D σ H) : tLock t D σ H := k
/-! ## tables by what they say -/
def EntF (K : PySem.W.Frag) (H : Hp) (ds : List Str) (f : Nat → Nat) (kv : List Key × V) (l : List Str) : Prop := kv.1 = keyOf l ∧ LotAt K H kv.2 (lotOf ds (f (maskOf ds l)))
def TableF (K : PySem.W.Frag) (H : Hp) (D : Addr) (ds : List Str) (f : Nat → Nat) : Prop := ∃ kvs, H D = some (.dT kvs) ∧ Paired (EntF K H ds f) kvs (sortTS (lots ds))
theorem EntF.same {K : PySem.W.Frag} {H H' : Hp} {ds : List Str} {f : Nat → Nat} {kv : List Key × V} {l : List Str} (h : EntF K H ds f kv l) (s : Same H H') : EntF K H' ds f kv l := ⟨h.1, h.2.same s⟩
theorem TableF.same {K : PySem.W.Frag} {H H' : Hp} {D : Addr} {ds : List Str} {f : Nat → Nat} (h : TableF K H D ds f) (s : Same H H') : TableF K H' D ds f := by
  obtain ⟨kvs, h1, h2⟩ := h
  exact ⟨kvs, s _ _ h1, Paired.mapP h2 fun _ _ h => h.same s⟩
theorem TableF.of {K : PySem.W.Frag} {H : Hp} {D : Addr} {ds : List Str} {bs : List Bun} {f : Nat → Nat} (h : TableAt K H D ds bs) (he : EndsOf ds.length (stepsOf ds bs) (endL ds.length f)) : TableF K H D ds f := by
  obtain ⟨kvs, h1, h2⟩ := h
  refine ⟨kvs, h1, Paired.mapP h2 fun kv l ⟨h3, e, h4, h5, h6⟩ => ⟨h3, ?_⟩⟩
  have hg : (endL ds.length f)[maskOf ds l]? = some (f (maskOf ds l)) := by
    unfold endL
    rw [List.getElem?_map, List.getElem?_range (mask_lt _ _)]
    rfl
  rw [← (he.2 _ _ hg).1.uniq h4] at h6
  exact h6
theorem TableF.at {K : PySem.W.Frag} {H : Hp} {D : Addr} {ds : List Str} {f : Nat → Nat} (hn : ds.Nodup) (hf : Cl f ds.length) (h : TableF K H D ds f) : TableAt K H D ds (baseB ds f) := by
  obtain ⟨kvs, h1, h2⟩ := h
  exact ⟨kvs, h1, Paired.mapP h2 fun kv l ⟨h3, h4⟩ => ⟨h3, f (maskOf ds l), baseB_isEnd hn hf (mask_lt _ _), hf.lt _ (mask_lt _ _), h4⟩⟩
theorem entsF_keys {K : PySem.W.Frag} {H : Hp} {ds : List Str} {f : Nat → Nat} : ∀ {kvs : List (List Key × V)} {ls : List (List Str)}, Paired (EntF K H ds f) kvs ls → kvs.map (·.1) = ls.map keyOf
  | _, _, .nil => rfl
  | _, _, .cons h t => by rw [List.map_cons, List.map_cons, entsF_keys t, h.1]
theorem valV_entF {K : PySem.W.Frag} {H : Hp} {ds : List Str} {f : Nat → Nat} : ∀ {kvs : List (List Key × V)} {ls : List (List Str)} {l : List Str}, Paired (EntF K H ds f) kvs ls → l ∈ ls → ∃ v, valV kvs (keyOf l) = some v ∧ LotAt K H v (lotOf ds (f (maskOf ds l)))
  | _, _, _, .nil, hl => absurd hl (by simp)
  | (k, v) :: kvs, l0 :: ls, l, .cons h t, hl => by
    by_cases e : k = keyOf l
    · have e0 : l0 = l := keyOf_inj (h.1.symm.trans e)
      subst e0
      exact ⟨v, valV_pos e, h.2⟩
    · have : l ∈ ls := by
        rcases List.mem_cons.mp hl with rfl | hl
        · exact absurd h.1 e
        · exact hl
      obtain ⟨u, h1, h2⟩ := valV_entF t this
      exact ⟨u, by rw [valV_neg e]; exact h1, h2⟩
theorem tablesF_same {K : PySem.W.Frag} {H : Hp} {ds : List Str} {f g : Nat → Nat} (hd : Devs ds) : ∀ {ls : List (List Str)} {kvs kvs' : List (List Key × V)}, Paired (EntF K H ds f) kvs ls → Paired (EntF K H ds g) kvs' ls → (∀ m, m < 2 ^ ds.length → f m = g m) →
    kvs.map (·.1) = kvs'.map (·.1) ∧ ∃ ms : List (List Str), Paired (DataAt K H) kvs (ms.map lotD) ∧ Paired (DataAt K H) kvs' (ms.map lotD)
  | _, _, _, .nil, .nil, _ => ⟨rfl, [], .nil, .nil⟩
  | l :: _, _, _, .cons h t, .cons h' t', hfg => by
    obtain ⟨g1, ms, g2, g3⟩ := tablesF_same hd t t' hfg
    obtain ⟨k1, i3⟩ := h
    obtain ⟨k2, j3⟩ := h'
    rw [← hfg _ (mask_lt _ _)] at j3
    have sh : ∀ m, SeqAt.shaped (lotD (lotOf ds m)) = true := fun m => shaped_of (lotD_lay (.of (lotOf_sublist ds m) hd)) (Nat.le_trans (lotD_dep _) (by decide))
    exact ⟨by rw [List.map_cons, List.map_cons, g1, k1, k2], lotOf ds (f (maskOf ds l)) :: ms, .cons ⟨lot_dp i3, sh _⟩ g2, .cons ⟨lot_dp j3, sh _⟩ g3⟩
section
variable {P : Program} {w : World} {K : PySem.W.Frag} {mg : Str → Option Value} {base : Heap} {C : Addr}
end

def RowP (K : PySem.W.Frag) (ds : List Str) (es : List Nat) (y : V) (l : List Str) (H : Hp) : Prop := ∃ T t z, y = .ref T ∧ SqT K H T [.ref t, z] ∧ SqT K H t (l.map V.str) ∧ LotAt K H z (lotOf ds (eF es (maskOf ds l)))
theorem RowP.same {K : PySem.W.Frag} {ds : List Str} {es : List Nat} {y : V} {l : List Str} {H H' : Hp} (h : RowP K ds es y l H) (s : Same H H') : RowP K ds es y l H' := by
  obtain ⟨T, t, z, e, h1, h2, h3⟩ := h
  exact ⟨T, t, z, e, Same.sqT s h1, Same.sqT s h2, h3.same s⟩
theorem RowP.upd {K : PySem.W.Frag} {ds : List Str} {es : List Nat} {y : V} {l : List Str} {H : Hp} {D : Addr} {ys zs : List V} (h : RowP K ds es y l H) (e' : H D = some (.lst ys)) : RowP K ds es y l (L2.upd H D (.lst zs)) := by
  obtain ⟨T, t, z, e, h1, h2, h3⟩ := h
  exact ⟨T, t, z, e, sqT_upd h1 e', sqT_upd h2 e', lotAt_upd h3 e'⟩
theorem RowP.unlock {K : PySem.W.Frag} {ds : List Str} {es : List Nat} {y : V} {l : List Str} {H : Hp} {D : Addr} {o : Obj} {kvs : List (List Key × V)} {u : HO} (h : RowP K ds es y l H) (e' : H D = some (.frz o (.dT kvs))) : RowP K ds es y l (L2.upd H D u) := by
  obtain ⟨T, t, z, e, h1, h2, a, ez, h3⟩ := h
  exact ⟨T, t, z, e, unlock_sqT e' h1, unlock_sqT e' h2, a, ez, unlock_sqT e' h3⟩
def spLBundles (K : PySem.W.Frag) : Sp := fun vs H Q _ => ∃ (D : Addr) (ds : List Str) (bs : List Bun) (es : List Nat), vs = [.ref D] ∧ Devs ds ∧ TableAt K H D ds bs ∧ EndsOf ds.length (stepsOf ds bs) es ∧
  ∀ H' v, Same H H' → BunsAt K H' v (tabB ds (eF es)) → Q v H'
def spTableBy (K : PySem.W.Frag) : Sp := fun vs H Q _ => ∃ (x : V) (r : Addr) (xs : List V) (ds : List Str) (ls : List (List Str)), vs = [x, .ref r] ∧ LotAt K H x ds ∧ Devs ds ∧ SqL K H r xs ∧ Paired (LotAt K H) xs ls ∧ (∀ l ∈ ls, l.Sublist ds) ∧ ls.length ≤ 1000 ∧
  ∀ H' D, H D = none → Same H H' → TableAt K H' D ds (baseB ds (clR ds.length (ls.map (maskOf ds)))) → Q (.ref D) H'
section
variable {P : Program} {w : World} {K : PySem.W.Frag} {mg : Str → Option Value} {base : Heap}
theorem ok_lbundles (F : FunAt K mg "_law_bundles" s_law_bundles) (T : Txt mg) : Def P w K mg base 4 "_law_bundles" P_law_bundles (spLBundles K) := by
  refine def_of F sc_law_bundles bs_law_bundles (fun vs H Q E h => ?_) fun f cdv A outer s H vs Q E hr h => ?_
  · obtain ⟨D, ds, bs, es, rfl, _⟩ := h
    rfl
  · refine ⟨_, (pss_cons (ps_lock (ps_setLc (i := 1) (own := [("_law_lot_here", 2), ("_law_rest_here", 3)]) (g := (gTup _ 2 (gCons (gName 2) (gCons (gName 3) gNil)))) rfl sc_law_bundles.nd rfl rfl (sw_true rfl rfl rfl (by decide +kernel)) (pi_itemsT (pv 0)) (blkOk_by (N := N_law_bundles) (sc := defScope s_law_bundles) (by decide +kernel)) (fun _ _ _ _ _ => (pg_tup (by rfl) (pgs_cons (pg_name (i := 2) sc_law_bundles.nd rfl (by first | exact Or.inl rfl | exact Or.inr rfl)) (pgs_cons (pg_name (i := 3) sc_law_bundles.nd rfl (by first | exact Or.inl rfl | exact Or.inr rfl)) pgs_nil)))) (fun _ _ _ _ _ => (pts_one (pt_cmpR (op_neDK (K := K) rfl hr.units) (pv 3) (pv 2) (nomark _)))) (fun _ _ _ _ _ => (pe_tup (pa_cons (pv 2) (pa_cons (pv 3) pa_nil))))))
  (pss_one (ps_ret (pe_callTy call_tuple_of (by rfl) T.n_tuple (by decide +kernel) (pa_cons (pe_lc (own := [("_law_lot_here", 2), ("_law_rest_here", 3)]) (g := (gTup _ 2 (gCons (gName 2) (gCons (gName 3) gNil)))) (tt := tYes) rfl sc_law_bundles.nd (pi_list (pv 1)) (blkOk_by (N := N_law_bundles) (sc := defScope s_law_bundles) (by decide +kernel)) (fun _ _ _ _ _ => (pg_tup (by rfl) (pgs_cons (pg_name (i := 2) sc_law_bundles.nd rfl (by first | exact Or.inl rfl | exact Or.inr rfl)) (pgs_cons (pg_name (i := 3) sc_law_bundles.nd rfl (by first | exact Or.inl rfl | exact Or.inr rfl)) pgs_nil)))) (fun _ _ _ _ _ => pts_nil) (fun _ _ _ _ _ => (pe_tup (pa_cons (pv 2) (pa_cons (pe_callTy (call_tuple_ofK (K := K) rfl) (by rfl) T.n_tuple (by decide +kernel) (pa_cons (pe_lc (own := [("_law_name", 4)]) (g := (gName 4)) rfl sc_law_bundles.nd (pi_tupK (K := K) rfl (pv 3)) (blkOk_by (N := N_law_bundles) (sc := { kind := .function, names := [(".0", .local), ("_law_lot_here", .cell), ("_law_rest_here", .local), ("tuple", .globalImplicit)], isGenerator := false, isCoroutine := false }) (by decide +kernel)) (fun _ _ _ _ _ => (pg_name (i := 4) sc_law_bundles.nd rfl (by first | exact Or.inl rfl | exact Or.inr rfl))) (fun _ _ _ _ _ => (pts_one (pt_cmpR (op_notinK (K := K) rfl) (pv 4) (pv 2) (by rfl)))) (fun _ _ _ _ _ => (pv 4))) pa_nil)) pa_nil))))) pa_nil))))), ?_⟩
    obtain ⟨D, ds, bs, es, rfl, hd, ⟨kvs, hk1, hkp⟩, hes, go⟩ := h
    obtain ⟨hd1, hd2, hd3, hd4⟩ := id hd
    have pok : ∀ {l : List Str}, l.Sublist ds → ∀ d ∈ l, PyData.strOk d = true := fun h d hd => pool_ok d (hd4 d (h.subset hd))
    have hl1 : (sortTS (lots ds)).length ≤ 64 := by
      rw [(sortTS_perm _).length_eq, lots_len]
      exact Nat.le_trans (Nat.pow_le_pow_right (by decide) hd2) (by decide)
    refine w_seq ?_
    refine w_lockS ⟨D, .dT kvs, hk1, trivial, fun od => ?_⟩
    refine w_asg ?_
    have lk := Lk.lock (u := .frz od (.dT kvs)) hk1
    have hkL : Paired (Entry K (upd H D (.frz od (.dT kvs))) ds bs) kvs (sortTS (lots ds)) := Paired.mapP hkp fun _ _ h => lk.entry h
    have hun : ∀ {H' : Hp}, Same (upd H D (.frz od (.dT kvs))) H' → Same H (upd H' D (.dT kvs)) := fun s => same_unlock hk1 s
    have hDL : (upd H D (.frz od (.dT kvs))) D = some (.frz od (.dT kvs)) := upd_same
    generalize upd H D (.frz od (.dT kvs)) = HL at lk hkL hun hDL ⊢
    have hkn := Paired.length hkL
    refine ⟨_, rfl, D, od, kvs, rfl, hDL, fun D2 hD2 => ?_⟩
    have hD2D : D2 ≠ D := Ne.symm (ne_of_none hDL hD2)
    refine lc_it walk_itemsT (fun i H' => Same HL H' ∧ ∃ ys, H' D2 = some (.lst ys) ∧ Paired (fun y l => RowP K ds es y l H') ys (((sortTS (lots ds)).take i).filter fun l => !decide (lotOf ds (eF es (maskOf ds l)) = l))) ⟨Same.upd2 (Same.refl _) hD2, [], upd_same, .nil⟩ (fun _ _ _ h => h.1 _ _ hDL) ?_ ?_
    · rintro i v H' H'' hi ⟨s, ys, e, hys⟩ ⟨T', k, v', qk, hkv, rfl, hT', hqk, rfl⟩
      obtain ⟨l, hl, hEn⟩ := Paired.at hkL hkv
      obtain ⟨hke, e2, g2, g3, g4⟩ := hEn
      have hke : k = keyOf l := hke
      subst hke
      rw [keyOf_v] at hqk
      have ee : eF es (maskOf ds l) = e2 := end_is hes g2
      have s2 : Same H' (upd H' T' (.tup [.ref qk, v'])) := same_upd (Same.refl _) hT'
      have hqk2 := s2 _ _ hqk
      have eT : (upd H' T' (.tup [.ref qk, v'])) T' = some (.tup [.ref qk, v']) := upd_same
      have s12 := s.trans s2
      have e' := s2 _ _ e
      have hys2 := Paired.mapP hys fun _ _ h => RowP.same h s2
      refine w_gtup2 (SqT.of upd_same) ⟨rfl, ?_⟩
      have g4' : LotAt K (upd H' T' (.tup [.ref qk, v'])) v' (lotOf ds e2) := LotAt.same g4 s12
      generalize upd H' T' (.tup [.ref qk, v']) = H4 at s2 hqk2 eT s12 e' hys2 g4' ⊢
      have hlm := List.mem_of_getElem? hl
      have hsubl : l.Sublist ds := by
        obtain ⟨m, _, e⟩ := lotsAll_mem ((sortTS_perm _).mem_iff.mp hlm)
        rw [e]
        exact lotOf_sublist _ _
      have tk : (sortTS (lots ds)).take (i + 1) = (sortTS (lots ds)).take i ++ [l] := by rw [List.take_succ, hl]; rfl
      refine w_test ?_
      refine w_op ?_
      refine w_var rfl ?_
      refine w_var rfl ?_
      refine w_neLots (pok (lotOf_sublist ds _)) (pok hsubl) g4' ⟨qk, rfl, SqT.of hqk2⟩ ?_
      refine ⟨_, rfl, iteB (fun hc => ?_) fun hc => ?_⟩
      · refine w_tup ?_
        refine w_cons ?_
        refine w_var rfl ?_
        refine w_cons ?_
        refine w_var rfl ?_
        refine w_nil ?_
        refine ⟨Nat.le_of_ble_eq_true (by kernel_rfl), fun t3 ht3 => ?_⟩
        have s5 : Same H4 (upd H4 t3 (.tup [.ref qk, v'])) := same_upd (Same.refl _) ht3
        have e5 := s5 _ _ e'
        have hr : RowP K ds es (.ref t3) l (upd H4 t3 (.tup [.ref qk, v'])) := ⟨t3, qk, v', rfl, SqT.of upd_same, SqT.of (s5 _ _ hqk2), by rw [ee]; exact g4'.same s5⟩
        refine ⟨ys, e5, ?_, Same.upd2 (s12.trans s5) hD2, ys ++ [.ref t3], upd_same, ?_⟩
        · have h1 := Paired.length hys
          have h2 := List.length_filter_le (fun l => !decide (lotOf ds (eF es (maskOf ds l)) = l)) ((sortTS (lots ds)).take i)
          rw [List.length_take] at h2
          rw [sizeLine_eq]
          omega
        · rw [tk, List.filter_append, List.filter_cons_of_pos (by rw [ee]; exact hc), List.filter_nil]
          exact Wk.Paired.app (Paired.mapP hys2 fun _ _ h => (h.same s5).upd e5) (.cons (hr.upd e5) .nil)
      · refine ⟨s12, ys, e', ?_⟩
        rw [tk, List.filter_append, List.filter_cons_of_neg (by rw [ee, hc]; exact Bool.false_ne_true), List.filter_nil, List.append_nil]
        exact hys2
    rintro H1 ⟨s1, ys, e1, hys⟩
    refine w_gname ?_
    dsimp only
    refine ⟨s1 _ _ hDL, ?_⟩
    have hD1 := s1 _ _ hDL
    rw [hkn, List.take_length] at hys
    have sU := hun s1
    have eU : (upd H1 D (.dT kvs)) D2 = some (.lst ys) := by
      rw [upd_ne hD2D]
      exact e1
    have hysU := Paired.mapP hys fun _ _ h => RowP.unlock (u := .dT kvs) h hD1
    generalize upd H1 D (.dT kvs) = H2 at sU eU hysU ⊢
    have hyl := Paired.length hysU
    have hfl := List.length_filter_le (fun l => !decide (lotOf ds (eF es (maskOf ds l)) = l)) (sortTS (lots ds))
    have fsub : ∀ l ∈ (sortTS (lots ds)).filter fun l => !decide (lotOf ds (eF es (maskOf ds l)) = l), l.Sublist ds := fun l hl => by
      obtain ⟨m, _, e⟩ := lotsAll_mem ((sortTS_perm _).mem_iff.mp (List.mem_filter.mp hl).1)
      rw [e]
      exact lotOf_sublist _ _
    generalize hfd : ((sortTS (lots ds)).filter fun l => !decide (lotOf ds (eF es (maskOf ds l)) = l)) = rl at hysU hyl hfl fsub
    refine w_ret ?_
    refine w_cb ?_
    refine w_cons ?_
    refine w_lcHd ?_
    refine w_var rfl ?_
    refine ⟨D2, rfl, ⟨_, SqL.of eU⟩, fun D3 hD3 => ?_⟩
    refine lc_list (xs := ys) (fun n H' => Same H2 H' ∧ ∃ zs, H' D3 = some (.lst zs) ∧ Paired (BunAt K H') zs ((rl.take n).map fun l => (l, (lotOf ds (eF es (maskOf ds l))).filter fun d => !decide (d ∈ l)))) ⟨Same.upd2 (Same.refl _) hD3, [], upd_same, .nil⟩ (fun _ _ _ p => Same.sqL p.1 (SqL.of eU)) ?_ ?_
    · rintro n v H' hv ⟨s, zs, e, hp⟩
      obtain ⟨l, hl, hr⟩ := Paired.at hysU hv
      obtain ⟨T', t, z, rfl, g1, g2, za, rfl, g3⟩ := RowP.same hr s
      have tk : rl.take (n + 1) = rl.take n ++ [l] := by rw [List.take_succ, hl]; rfl
      have hls := fsub l (List.mem_of_getElem? hl)
      refine w_gtup2 g1 ⟨rfl, ?_⟩
      refine iteT (B := Same H2 H' ∧ ∃ zs, H' D3 = some (.lst zs) ∧ Paired (BunAt K H') zs ((rl.take (n + 1)).map fun l => (l, (lotOf ds (eF es (maskOf ds l))).filter fun d => !decide (d ∈ l)))) ?_
      refine iteT (B := Same H2 H' ∧ ∃ zs, H' D3 = some (.lst zs) ∧ Paired (BunAt K H') zs ((rl.take (n + 1)).map fun l => (l, (lotOf ds (eF es (maskOf ds l))).filter fun d => !decide (d ∈ l)))) ?_
      refine w_tup ?_
      refine w_cons ?_
      refine w_var rfl ?_
      refine w_cons ?_
      refine w_cb ?_
      refine w_cons ?_
      refine w_lcTF (fun v => !inV v (l.map V.str)) (fun v => v) (fun R k => w_var rfl k) g3 (by rw [List.length_map]; have := (lotOf_sublist ds (eF es (maskOf ds l))).length_le; omega) (fun _ => rfl) ?_ ?_ ?_
      · intro v H2' R' hv s' k'
        obtain ⟨d, hdm, rfl⟩ := List.mem_map.mp hv
        refine w_test ?_
        refine w_op ?_
        refine w_var rfl ?_
        refine w_var rfl ?_
        refine ⟨t, _, rfl, .inr (Same.sqT s' g2), rfl, flat_strs _, ?_⟩
        exact ⟨_, rfl, k'⟩
      · intro v H2' R' hv s' k'
        exact w_var rfl k'
      · intro D4 H3 hD4 s3 e3
        rw [List.map_id', filter_notin] at e3
        refine w_nil ?_
        refine ⟨D4, _, rfl, .inl ⟨SqL.of e3, fun t2 ht2 => ?_⟩⟩
        refine w_nil ?_
        have s4 := same_upd (o := .tup (((lotOf ds (eF es (maskOf ds l))).filter fun d => !decide (d ∈ l)).map V.str)) (Same.refl _) ht2
        have e4 : (upd H3 t2 (.tup (((lotOf ds (eF es (maskOf ds l))).filter fun d => !decide (d ∈ l)).map V.str))) t2 = some (.tup (((lotOf ds (eF es (maskOf ds l))).filter fun d => !decide (d ∈ l)).map V.str)) := upd_same
        generalize upd H3 t2 (.tup (((lotOf ds (eF es (maskOf ds l))).filter fun d => !decide (d ∈ l)).map V.str)) = H4 at s4 e4 ⊢
        refine ⟨Nat.le_of_ble_eq_true (by kernel_rfl), fun t3 ht3 => ?_⟩
        have s5 := same_upd (o := .tup [.ref t, .ref t2]) (Same.refl _) ht3
        have s35 := (s3.trans s4).trans s5
        have e5 := s35 _ _ e
        have hb : BunAt K (upd H4 t3 (.tup [.ref t, .ref t2])) (.ref t3) (l, (lotOf ds (eF es (maskOf ds l))).filter fun d => !decide (d ∈ l)) := ⟨t3, .ref t, .ref t2, rfl, SqT.of upd_same, ⟨t, rfl, Same.sqT s35 g2⟩, t2, rfl, SqT.of (s5 _ _ e4)⟩
        have hbu : ∀ {y : V} {b : Bun} {H' : Hp} {ys zs : List V}, BunAt K H' y b → H' D3 = some (.lst ys) → BunAt K (upd H' D3 (.lst zs)) y b := fun h e => by
          obtain ⟨t, y1, y2, e', g1, g2, g3⟩ := h
          exact ⟨t, y1, y2, e', sqT_upd g1 e, lotAt_upd g2 e, lotAt_upd g3 e⟩
        refine ⟨zs, e5, ?_, Same.upd2 (s.trans s35) hD3, zs ++ [.ref t3], upd_same, ?_⟩
        · have h1 := Paired.length hp
          rw [List.length_map, List.length_take] at h1
          rw [sizeLine_eq]
          omega
        · rw [tk, List.map_append]
          exact Wk.Paired.app (Paired.mapP hp fun _ _ h => hbu (h.same s35) e5) (.cons (hbu hb e5) .nil)
    · rintro H3 ⟨s3, zs, e3, hp⟩
      rw [hyl, List.take_length] at hp
      refine w_nil ?_
      refine ⟨D3, _, rfl, .inl ⟨SqL.of e3, fun t2 ht2 => ?_⟩⟩
      have s4 := same_upd (o := .tup zs) (Same.refl _) ht2
      refine go _ _ ((sU.trans s3).trans s4) ⟨t2, zs, rfl, SqT.of upd_same, ?_⟩
      unfold tabB
      rw [show sortTS (lotsAll ds) = sortTS (lots ds) from rfl, hfd]
      exact Paired.mapP hp fun _ _ h => h.same s4
end

theorem PairE.unlock {K : PySem.W.Frag} {ds : List Str} {bs : List Bun} {y : V} {l : List Str} {H : Hp} {D : Addr} {o : Obj} {kvs : List (List Key × V)} {u : HO} (h : PairE K ds bs y l H) (e : H D = some (.frz o (.dT kvs))) : PairE K ds bs y l (L2.upd H D u) := by
  obtain ⟨T, t, z, e', h1, h2, h3, h4, h5, a, h6, h7⟩ := h
  exact ⟨T, t, z, e', h1, unlock_sqT e h2, by rw [upd_ne fun q => by rw [q, e] at h3; cases h3]; exact h3, h4, h5, a, h6, unlock_sqT e h7⟩
def spMet (K : PySem.W.Frag) : Sp := fun vs H Q _ => ∃ (D1 D2 : Addr) (ds : List Str) (f g : Nat → Nat), vs = [.ref D1, .ref D2] ∧ Devs ds ∧ TableF K H D1 ds f ∧ TableF K H D2 ds g ∧ Cl f ds.length ∧ Cl g ds.length ∧
  ∀ H' D, H D = none → Same H H' → TableF K H' D ds (mtF f g) → Q (.ref D) H'
section
variable {P : Program} {w : World} {K : PySem.W.Frag} {mg : Str → Option Value} {base : Heap}
end

def spLess (K : PySem.W.Frag) : Sp := fun vs H Q _ => ∃ (D1 D2 : Addr) (ds : List Str) (f g : Nat → Nat), vs = [.ref D1, .ref D2] ∧ Devs ds ∧ TableF K H D1 ds f ∧ TableF K H D2 ds g ∧ Cl f ds.length ∧
  ∀ H' (b : Bool), Same H H' → (b = true ↔ ∀ m, m < 2 ^ ds.length → Sub (f m) (g m)) → Q (.bl b) H'
section
variable {P : Program} {w : World} {K : PySem.W.Frag} {mg : Str → Option Value} {base : Heap}
end

/-! ## families of lots, counted -/
/-- the members whose bits are set in N -/
def pick (ms : List Nat) (N : Nat) : List Nat := ((List.range ms.length).filter fun i => N.testBit i).map fun i => ms.getD i 0
theorem pick_snoc {ms : List Nat} {m N : Nat} : pick (ms ++ [m]) N = pick ms N ++ (if N.testBit ms.length = true then [m] else []) := by
  unfold pick
  rw [List.length_append, List.length_cons, List.length_nil, Nat.zero_add, List.range_succ, List.filter_append, List.map_append]
  congr 1
  · refine List.map_congr_left fun i hi => ?_
    have := List.mem_range.mp (List.mem_filter.mp hi).1
    rw [List.getD_eq_getElem?_getD, List.getD_eq_getElem?_getD, List.getElem?_append_left this]
  · by_cases h : N.testBit ms.length = true
    · rw [if_pos h, List.filter_cons_of_pos h, List.filter_nil, List.map_cons, List.map_nil, List.getD_eq_getElem?_getD, List.getElem?_append_right (Nat.le_refl _), Nat.sub_self]
      rfl
    · rw [if_neg h, List.filter_cons_of_neg h]
      rfl
theorem pick_congr {ms : List Nat} {M N : Nat} (h : ∀ i, i < ms.length → M.testBit i = N.testBit i) : pick ms M = pick ms N := by
  unfold pick
  rw [List.filter_congr fun i hi => h i (List.mem_range.mp hi)]
/-- how many of the families P takes -/
def cntR : List Nat → (List Nat → Bool) → Nat
  | [], P => if P [] = true then 1 else 0
  | m :: l, P => cntR l P + cntR l fun S => P (S ++ [m])
theorem cnt_pick : ∀ (l : List Nat) (P : List Nat → Bool), ((List.range (2 ^ l.length)).filter fun N => P (pick l.reverse N)).length = cntR l P
  | [], P => by
    show (List.filter (fun N => P (pick [] N)) [0]).length = _
    have : pick [] 0 = [] := rfl
    unfold cntR
    by_cases h : P [] = true
    · rw [if_pos h, List.filter_cons_of_pos (by rw [this]; exact h)]
      rfl
    · rw [if_neg h, List.filter_cons_of_neg (by rw [this]; exact h)]
      rfl
  | m :: l, P => by
    have e : 2 ^ (m :: l).length = 2 ^ l.length + 2 ^ l.length := by rw [List.length_cons, Nat.pow_succ]; omega
    rw [e, range_double, List.filter_append, List.length_append, List.filter_map, List.length_map, List.reverse_cons]
    unfold cntR
    rw [← cnt_pick l P, ← cnt_pick l fun S => P (S ++ [m])]
    congr 2
    · refine List.filter_congr fun N hN => ?_
      have hN := List.mem_range.mp hN
      have hb : N.testBit l.reverse.length = false := by
        rw [List.length_reverse]
        exact Nat.testBit_lt_two_pow hN
      rw [pick_snoc, hb, if_neg Bool.false_ne_true, List.append_nil]
    · refine List.filter_congr fun N hN => ?_
      have hN := List.mem_range.mp hN
      dsimp only [Function.comp]
      have hb : (2 ^ l.length + N).testBit l.reverse.length = true := by
        rw [List.length_reverse, Nat.testBit_two_pow_add_eq, Nat.testBit_lt_two_pow hN]
        rfl
      have hc : pick l.reverse (2 ^ l.length + N) = pick l.reverse N := pick_congr fun i hi => by
        rw [List.length_reverse] at hi
        exact Nat.testBit_two_pow_add_gt hi N
      rw [pick_snoc, hb, if_pos rfl, hc]
/-- said of the members alone -/
def Fam (P : List Nat → Bool) : Prop := ∀ S S', (∀ x, x ∈ S ↔ x ∈ S') → P S = P S'
theorem Fam.app {P : List Nat → Bool} (h : Fam P) (m : Nat) : Fam fun S => P (S ++ [m]) := fun S S' k => h _ _ fun x => by rw [List.mem_append, List.mem_append, k x]
theorem cnt_perm {l l' : List Nat} (h : l.Perm l') : ∀ {P : List Nat → Bool}, Fam P → cntR l P = cntR l' P := by
  induction h with
  | nil => exact fun _ => rfl
  | @cons x l1 l2 _ ih =>
      intro P hP
      show cntR l1 P + cntR l1 (fun S => P (S ++ [x])) = cntR l2 P + cntR l2 fun S => P (S ++ [x])
      rw [ih hP, ih (hP.app x)]
  | swap x y l =>
      intro P hP
      show (cntR l P + cntR l fun S => P (S ++ [x])) + (cntR l (fun S => P (S ++ [y])) + cntR l fun S => P (S ++ [x] ++ [y])) = (cntR l P + cntR l fun S => P (S ++ [y])) + (cntR l (fun S => P (S ++ [x])) + cntR l fun S => P (S ++ [y] ++ [x]))
      have : (fun S => P (S ++ [x] ++ [y])) = fun S => P (S ++ [y] ++ [x]) := funext fun S => hP _ _ fun z => by
        simp only [List.mem_append, List.mem_singleton]
        exact ⟨fun h => by rcases h with (h | h) | h <;> simp [h], fun h => by rcases h with (h | h) | h <;> simp [h]⟩
      rw [this]
      omega
  | trans _ _ ih1 ih2 => exact fun {P} hP => (ih1 hP).trans (ih2 hP)
/-- with every two members their common part -/
def metB (n : Nat) (S : List Nat) : Bool := (S ++ [full n]).all fun a => (S ++ [full n]).all fun b => decide (a &&& b ∈ S ++ [full n])
theorem met_fam (n : Nat) : Fam (metB n) := fun S S' k => by
  have k' : ∀ x, x ∈ S ++ [full n] ↔ x ∈ S' ++ [full n] := fun x => by rw [List.mem_append, List.mem_append, k x]
  unfold metB
  rw [Bool.eq_iff_iff, List.all_eq_true, List.all_eq_true]
  refine ⟨fun h a ha => ?_, fun h a ha => ?_⟩
  · rw [List.all_eq_true]
    intro b hb
    have := List.all_eq_true.mp (h a ((k' a).mpr ha)) b ((k' b).mpr hb)
    exact decide_eq_true ((k' _).mp (of_decide_eq_true this))
  · rw [List.all_eq_true]
    intro b hb
    have := List.all_eq_true.mp (h a ((k' a).mp ha)) b ((k' b).mp hb)
    exact decide_eq_true ((k' _).mpr (of_decide_eq_true this))
theorem fams2 : cntR (List.range 3) (metB 2) = 7 := by decide +kernel
theorem fams3 : cntR (List.range 7) (metB 3) = 61 := by decide +kernel
theorem fams_count {ms : List Nat} {n : Nat} (hn : n = 2 ∨ n = 3) (h : ms.Perm (List.range (2 ^ n - 1))) : ((List.range (2 ^ ms.length)).filter fun N => metB n (pick ms N)).length = [0, 0, 7, 61].getD n 0 := by
  have e := cnt_pick ms.reverse (metB n)
  rw [List.reverse_reverse, List.length_reverse] at e
  rw [e, cnt_perm ((List.reverse_perm ms).trans h) (met_fam n)]
  rcases hn with rfl | rfl
  · exact fams2
  · exact fams3

/-! ## x in xs, xs a list of data -/
def rInDL (K : PySem.W.Frag) : R2 := fun x y H Q => ∃ d ds, Dp K H x d ∧ Dp K H y (.list ds) ∧ SeqAt.shaped d = true ∧ SeqAt.shaped (.list ds) = true ∧ Q (.bl (ds.any fun z => PyData.eqv z d)) H
theorem op_inDL {X : Cx} {K : PySem.W.Frag} (h : X.K = K) (hu : X.A.units + 70 < cLine) : OpR X (compareOp .In) (rInDL K) := by
  subst h
  intro pins s σ H x y v u Q I rx ry h
  obtain ⟨d, ds, hd, he, sd, se, q⟩ := h
  obtain ⟨as, r1⟩ := Dp.reads I d x v hd rx
  obtain ⟨bs, r2⟩ := Dp.reads I (.list ds) y u he ry
  exact SeqAt.in_list_reads r2 r1 (SeqAt.canLay_of_shaped se) (SeqAt.canLay_of_shaped sd) (room_in_shaped sd (by omega)) ⟨.bl _, H, I, rfl, q⟩

theorem bit_shr (m n : Nat) : m.testBit n = (Builtin.bitAnd ((m : Int) / 2 ^ ((n : Nat) : Int).toNat) 1 != 0) := by
  have e : ((m : Int) / 2 ^ ((n : Nat) : Int).toNat) = ((m / 2 ^ n : Nat) : Int) := by
    rw [Int.toNat_natCast]
    exact (Int.natCast_ediv m (2 ^ n)).symm ▸ by rw [Int.natCast_pow]; rfl
  rw [e, show (1 : Int) = ((1 : Nat) : Int) from rfl, int_and]
  show (1 &&& (m >>> n) != 0) = _
  rw [Nat.shiftRight_eq_div_pow, Nat.and_comm]
  cases h : (m / 2 ^ n &&& 1) with
  | zero => rfl
  | succ k => rfl
theorem TableF.ls {K : PySem.W.Frag} {H H' : Hp} {D : Addr} {ds : List Str} {f : Nat → Nat} (h : TableF K H D ds f) (k : Ls H H') : TableF K H' D ds f := by
  obtain ⟨kvs, h1, h2⟩ := h
  exact ⟨kvs, k _ _ h1 (fun _ e => nomatch e), Paired.mapP h2 fun _ _ h => ⟨h.1, k.lot h.2⟩⟩
theorem w_inLotsL {K : PySem.W.Frag} {H : Hp} {x : V} {b : Addr} {ys : List V} {l : List Str} {ls : List (List Str)} {Q : VK} (hl : Short l) (hm : ∀ z ∈ ls, Short z) (hx : LotAt K H x l) (hb : SqL K H b ys) (hy : Paired (LotAt K H) ys ls) (k : Q (.bl (decide (l ∈ ls))) H) : rInDL K x (.ref b) H Q := by
  refine ⟨lotD l, ls.map lotD, lot_dp hx, .lst hb (dpa_of (fun v b h => lot_dp h) hy), shaped_of (lotD_lay hl) (Nat.le_trans (lotD_dep _) (by decide)), shaped_of ?_ ?_, ?_⟩
  · simp only [PyData.canLay0]
    exact lay_map fun b hb => lotD_lay (hm b hb)
  · have := dep_map (f := lotD) (k := 1) (l := ls) fun l _ => lotD_dep l
    simp only [PyData.depth]
    omega
  · have : ((ls.map lotD).any fun z => PyData.eqv z (lotD l)) = decide (l ∈ ls) := by
      rw [Bool.eq_iff_iff, List.any_eq_true, decide_eq_true_eq]
      refine ⟨fun ⟨z, hz, e⟩ => ?_, fun h => ⟨lotD l, List.mem_map.mpr ⟨l, h, rfl⟩, ?_⟩⟩
      · obtain ⟨m, hm2, rfl⟩ := List.mem_map.mp hz
        have q1 : PyData.eqv (lotD m) (lotD l) = decide (m = l) := eqv_strsD _ _
        rw [q1] at e
        rw [← of_decide_eq_true e]
        exact hm2
      · have q1 : PyData.eqv (lotD l) (lotD l) = decide (l = l) := eqv_strsD _ _
        rw [q1]
        exact decide_eq_true rfl
    rw [this]
    exact k
theorem paired_idx {α β : Type} {R : α → β → Prop} {d : β} {ls : List β} : ∀ {ys : List α} {is : List Nat}, Paired (fun y i => ∃ l, ls[i]? = some l ∧ R y l) ys is → Paired R ys (is.map fun i => ls.getD i d)
  | _, _, .nil => .nil
  | _, _, .cons ⟨l, h1, h2⟩ t => .cons (by show R _ (ls.getD _ d); rw [List.getD_eq_getElem?_getD, h1]; exact h2) (paired_idx t)
/-- all lots but that of all devices -/
def lessL (ds : List Str) : List (List Str) := (sortTS (lots ds)).filter fun l => !decide (l = ds)
theorem lessL_perm {ds : List Str} (hn : ds.Nodup) : ((lessL ds).map (maskOf ds)).Perm (List.range (2 ^ ds.length - 1)) := by
  have h1 : (lessL ds).Perm ((lots ds).filter fun l => !decide (l = ds)) := (sortTS_perm _).filter _
  refine (h1.map _).trans (List.Perm.of_eq ?_)
  have h2 : lots ds = (List.range (2 ^ ds.length)).map (lotOf ds) := lotsAll_range ds
  rw [h2, List.filter_map, List.map_map]
  have hp : 2 ^ ds.length = (2 ^ ds.length - 1) + 1 := by have := Nat.two_pow_pos ds.length; omega
  have e1 : (List.range (2 ^ ds.length)).filter ((fun l => !decide (l = ds)) ∘ lotOf ds) = List.range (2 ^ ds.length - 1) := by
    conv => lhs; rw [hp]
    rw [List.range_succ, List.filter_append]
    have hf : lotOf ds (2 ^ ds.length - 1) = ds := lot_full hn
    rw [List.filter_eq_self.mpr fun m hm => ?_, List.filter_cons_of_neg (by rw [Function.comp, hf]; simp), List.filter_nil, List.append_nil]
    have hm := List.mem_range.mp hm
    have : lotOf ds m ≠ ds := fun z => by
      have := lotOf_inj hn (by omega) (full_lt ds.length) (z.trans (lot_full hn).symm)
      unfold full at this
      omega
    simp [Function.comp, this]
  rw [e1]
  conv => rhs; rw [← List.map_id (List.range (2 ^ ds.length - 1))]
  refine List.map_congr_left fun m hm => ?_
  have := List.mem_range.mp hm
  exact mask_lot hn (by omega)
theorem pick_masks {ds : List Str} {ls : List (List Str)} {N : Nat} : (((List.range ls.length).filter fun i => N.testBit i).map fun i => ls.getD i []).map (maskOf ds) = pick (ls.map (maskOf ds)) N := by
  unfold pick
  rw [List.map_map, List.length_map]
  refine List.map_congr_left fun i hi => ?_
  have hi := List.mem_range.mp (List.mem_filter.mp hi).1
  dsimp only [Function.comp]
  rw [List.getD_eq_getElem?_getD, List.getD_eq_getElem?_getD, List.getElem?_map, List.getElem?_eq_getElem hi]
  rfl
/-- a table that says f -/
def TabP (K : PySem.W.Frag) (ds : List Str) (H : Hp) (y : V) (f : Nat → Nat) : Prop := ∃ T, y = .ref T ∧ TableF K H T ds f ∧ Cl f ds.length
theorem TabP.same {K : PySem.W.Frag} {ds : List Str} {H H' : Hp} {y : V} {f : Nat → Nat} (h : TabP K ds H y f) (s : Same H H') : TabP K ds H' y f := by
  obtain ⟨T, e, h1, h2⟩ := h
  exact ⟨T, e, h1.same s, h2⟩
theorem TabP.ls {K : PySem.W.Frag} {ds : List Str} {H H' : Hp} {y : V} {f : Nat → Nat} (h : TabP K ds H y f) (s : Ls H H') : TabP K ds H' y f := by
  obtain ⟨T, e, h1, h2⟩ := h
  exact ⟨T, e, h1.ls s, h2⟩
def spAll (K : PySem.W.Frag) : Sp := fun vs H Q _ => ∃ (x : V) (ds : List Str), vs = [x] ∧ LotAt K H x ds ∧ Devs ds ∧ (ds.length = 2 ∨ ds.length = 3) ∧
  ∀ H' D ys fs, H D = none → Same H H' → H' D = some (.lst ys) → Paired (TabP K ds H') ys fs → fs.length = [0, 0, 7, 61].getD ds.length 0 → Q (.ref D) H'
section
variable {P : Program} {w : World} {K : PySem.W.Frag} {mg : Str → Option Value} {base : Heap}
end

abbrev shas_form : Stmt := top 12
abbrev Nhas_form : List Str := ["value", "word", "many"]
abbrev Phas_form : List Str := ["value", "word", "many"]
theorem schas_form : FnScope Nhas_form Phas_form (defScope shas_form) := ⟨rfl, rfl, rfl, by decide +kernel, rfl, by decide +kernel, by decide +kernel⟩
theorem bshas_form : BindsSt "has_form" shas_form Phas_form := fun _ _ _ _ _ _ us hl => match us, hl with | [_, _, _], _ => rfl
def spHasAll (K : PySem.W.Frag) : Sp := fun vs H Q _ => ∃ (b : Addr) (x : V) (ns ds : List Str), vs = [.ref b, x] ∧ StrsAt K H b ns ∧ LotAt K H x ds ∧ ds.length ≤ 1000 ∧ ∀ H', Same H H' → Q (.bl (ds.all fun d => decide (d ∈ ns))) H'
def spNeedDevice (K : PySem.W.Frag) : Sp := fun vs H Q _ => ∃ (x : V) (ds : List Str) (d : Str), vs = [x, .str d] ∧ LotAt K H x ds ∧ d ∈ ds ∧ ∀ H', Same H H' → Q .non H'
def spIsInteger : Sp := fun vs H Q _ => ∃ i : Int, vs = [.int i] ∧ Q (.bl true) H
def spIsNumber : Sp := fun vs H Q _ => ∃ (i n : Int), vs = [.int i, .int n] ∧ Q (.bl (decide (0 ≤ i ∧ i < n))) H
def spHasForm (K : PySem.W.Frag) : Sp := fun vs H Q _ => ∃ (a q : Addr) (w : Str) (z : V) (d : PyData), vs = [.ref a, .str w, .int 2] ∧ SqT K H a [.str w, z] ∧ Dq K q H z d ∧ Q (.bl true) H
section
variable {P : Program} {w : World} {K : PySem.W.Frag} {mg : Str → Option Value} {base : Heap}
theorem ok_has_form (F : FunAt K mg "has_form" shas_form) (T : Txt mg) : Def P w K mg base 1 "has_form" Phas_form (spHasForm K) := by
  refine def_of F schas_form bshas_form (fun vs H Q E h => ?_) fun f cdv A outer s H vs Q E hr h => ?_
  · obtain ⟨a, q, w, z, d, rfl, _⟩ := h
    rfl
  · refine ⟨_, (pss_one (ps_ret (pe_and (pe_callB call_isi (by rfl) T.n_isinstance (by decide +kernel) (pa_cons (pv 0) (pa_cons (pe_bltn (v := .ty "tuple") (by rfl) T.n_tuple (by decide +kernel) rfl) pa_nil))) (pe_and (pe_cmpR op_eq (pe_callB call_len (by rfl) T.n_len PySem.boot_len (pa_cons (pv 0) pa_nil)) (pv 2) (nomark _)) (pe_one (pe_cmpR op_eq (pe_ix ix_tup (pv 0) pe_int (fun _ _ => rfl)) (pv 1) (nomark _))))))), ?_⟩
    obtain ⟨a, q, w, z, d, rfl, ha, hz, go⟩ := h
    walk_at "v"
    refine w_isT true (Dq.tup (q := q) ha (.cons (.str w) (.cons hz .nil))) (by kernel_rfl) ?_
    refine ⟨_, rfl, iteT ?_⟩
    refine w_andV ?_
    refine w_op ?_
    refine w_cb ?_
    refine w_cons ?_
    refine w_var rfl ?_
    refine w_nil ?_
    refine ⟨_, 2, rfl, .inr ⟨_, ha, rfl⟩, ?_⟩
    refine w_var rfl ?_
    refine w_eqSame rfl ?_
    refine ⟨_, rfl, iteT ?_⟩
    walk_at "v"
    refine w_ixT ha (v := .str w) rfl ?_
    walk_at "v"
    refine w_eqSame rfl ?_
    exact go
end

/-! ## walks along bundles -/
def othersAt (bs : List Bun) (n : Nat) : List Str := (bs[n]?.map (·.2)).getD []
def firstAt (bs : List Bun) (n : Nat) : List Str := (bs[n]?.map (·.1)).getD []
def walkOn (bs : List Bun) (on : List Str) (ns : List Nat) : List Str := ns.foldl (fun on n => on ++ othersAt bs n) on
theorem walkOn_snoc (bs : List Bun) (on : List Str) (ns : List Nat) (n : Nat) : walkOn bs on (ns ++ [n]) = walkOn bs on ns ++ othersAt bs n := by
  unfold walkOn
  rw [List.foldl_append]
  rfl
theorem walkOn_up {bs : List Bun} {on : List Str} {d : Str} : ∀ {ns : List Nat}, d ∈ on → d ∈ walkOn bs on ns := by
  intro ns
  induction ns generalizing on with
  | nil => exact id
  | cons n ns ih => exact fun h => ih (List.mem_append_left _ h)
/-- the numbers lead from the lot to the device -/
structure Leads (bs : List Bun) (l : List Str) (ns : List Nat) (d : Str) : Prop where
  nd : ns.Nodup
  lt : ∀ n ∈ ns, n < bs.length
  ok : ∀ k n, ns[k]? = some n → ∀ x ∈ firstAt bs n, x ∈ walkOn bs l (ns.take k)
  on : d ∈ walkOn bs l ns
  few : ns.length ≤ 64
/-- the numbers of the bundles that bring more on -/
def wakesB (bs : List Bun) (us : List Str) (n : Nat) : Bool := ((firstAt bs n).all fun d => decide (d ∈ us)) && !((othersAt bs n).all fun d => decide (d ∈ us))
def wakingN (bs : List Bun) (us : List Str) : List Nat := (List.range bs.length).filter (wakesB bs us)
def spWaking (K : PySem.W.Frag) (C : Addr) : Sp := fun vs H Q _ => ∃ (p b : Addr) (ds us : List Str) (bs : List Bun), vs = [.ref p, .ref b] ∧ RulesAt K C H p ds bs ∧ SqL K H b (us.map V.str) ∧ bs.length ≤ 1000 ∧ (∀ x ∈ bs, x.1.length ≤ 1000 ∧ x.2.length ≤ 1000) ∧
  ∀ H' D, H D = none → Same H H' → H' D = some (.lst ((wakingN bs us).map fun n => V.int (n : Nat))) → Q (.ref D) H'
theorem int_list {H : Hp} : ∀ {ys : List V} {ns : List Nat}, Paired (fun (y : V) (n : Nat) => y = V.int (n : Nat)) ys ns → ys = ns.map fun n => V.int (n : Nat)
  | _, _, .nil => rfl
  | _, _, .cons h t => by rw [h, int_list (H := H) t]; rfl
section
variable {P : Program} {w : World} {K : PySem.W.Frag} {mg : Str → Option Value} {base : Heap}
end

theorem mask_app2 {ds ws os : List Str} : maskOf ds (ws ++ os) = maskOf ds ws ||| maskOf ds os := by
  refine Nat.eq_of_testBit_eq fun i => ?_
  rw [Bool.eq_iff_iff, Nat.testBit_or, Bool.or_eq_true, mask_bit, mask_bit, mask_bit]
  constructor
  · rintro ⟨d, e, h⟩
    rcases List.mem_append.mp h with h | h
    · exact .inl ⟨d, e, h⟩
    · exact .inr ⟨d, e, h⟩
  · rintro (⟨d, e, h⟩ | ⟨d, e, h⟩)
    · exact ⟨d, e, List.mem_append_left _ h⟩
    · exact ⟨d, e, List.mem_append_right _ h⟩
theorem waking_mem {bs : List Bun} {us : List Str} {n : Nat} : n ∈ wakingN bs us ↔ ∃ b, bs[n]? = some b ∧ (∀ d ∈ b.1, d ∈ us) ∧ ¬ ∀ d ∈ b.2, d ∈ us := by
  unfold wakingN
  rw [List.mem_filter, List.mem_range]
  constructor
  · rintro ⟨hlt, h⟩
    have hb : bs[n]? = some bs[n] := List.getElem?_eq_getElem hlt
    refine ⟨_, hb, ?_⟩
    unfold wakesB firstAt othersAt at h
    rw [hb, Bool.and_eq_true] at h
    refine ⟨fun d hd => of_decide_eq_true (List.all_eq_true.mp h.1 d hd), fun z => ?_⟩
    have : (bs[n].2.all fun d => decide (d ∈ us)) = true := List.all_eq_true.mpr fun d hd => decide_eq_true (z d hd)
    have h2 : (!(bs[n].2.all fun d => decide (d ∈ us))) = true := h.2
    rw [this] at h2
    cases h2
  · rintro ⟨b, hb, h1, h2⟩
    refine ⟨(List.getElem?_eq_some_iff.mp hb).1, ?_⟩
    unfold wakesB firstAt othersAt
    rw [hb, Bool.and_eq_true]
    refine ⟨List.all_eq_true.mpr fun d hd => decide_eq_true (h1 d hd), ?_⟩
    show (!(b.2.all fun d => decide (d ∈ us))) = true
    cases hc : (b.2.all fun d => decide (d ∈ us)) with
    | false => rfl
    | true => exact absurd (fun d hd => of_decide_eq_true (List.all_eq_true.mp hc d hd)) h2
theorem waking_some {ds l us : List Str} {bs : List Bun} {e : Nat} {d : Str} (hb : BunsOf ds bs) (hn : ds.Nodup) (hE : IsEnd (stepsOf ds bs) (maskOf ds l) e) (hl : Sub (maskOf ds l) (maskOf ds us)) (hd : d ∈ lotOf ds e) (hu : d ∉ us) : ∃ n r, wakingN bs us = n :: r := by
  cases hw : wakingN bs us with
  | cons n r => exact ⟨n, r, rfl⟩
  | nil =>
    have hcl : Closed (stepsOf ds bs) (maskOf ds us) := by
      intro p hp hs
      obtain ⟨b, hbm, rfl⟩ := List.mem_map.mp hp
      obtain ⟨_, _, sb1, sb2⟩ := hb b hbm
      obtain ⟨n, hn'⟩ := List.getElem?_of_mem hbm
      refine (sub_mask sb2).mpr ?_
      by_cases h2 : ∀ d ∈ b.2, d ∈ us
      · exact h2
      · have : n ∈ wakingN bs us := waking_mem.mpr ⟨b, hn', (sub_mask sb1).mp hs, h2⟩
        rw [hw] at this
        exact absurd this (by simp)
    have hsub := hE.least _ hl hcl
    obtain ⟨i, hi, ht⟩ := lot_mem.mp hd
    obtain ⟨d', hd', hm⟩ := mask_bit.mp (sub_iff.mp hsub i ht)
    rw [hi] at hd'
    exact absurd (Option.some.inj hd' ▸ hm) hu
def spNumbers (K : PySem.W.Frag) (C : Addr) : Sp := fun vs H Q _ => ∃ (p : Addr) (y : V) (d : Str) (ds l : List Str) (bs : List Bun) (e : Nat), vs = [.ref p, y, .str d] ∧ RulesAt K C H p ds bs ∧ LotAt K H y l ∧ l.Sublist ds ∧ Devs ds ∧ RowsOf ds bs ∧ bs.length ≤ 64 ∧ IsEnd (stepsOf ds bs) (maskOf ds l) e ∧ d ∈ lotOf ds e ∧
  ∀ H' t ns, Same H H' → SqT K H' t (ns.map fun n => V.int (n : Nat)) → Leads bs l ns d → Q (.ref t) H'
section
variable {P : Program} {w : World} {K : PySem.W.Frag} {mg : Str → Option Value} {base : Heap}
end

/-- what way tells -/
def WayAt (K : PySem.W.Frag) (H : Hp) (v : V) (ds : List Str) (bs : List Bun) (l : List Str) (d : Str) (e : Nat) : Prop :=
  (d ∈ lotOf ds e ∧ ∃ T t ns, v = .ref T ∧ SqT K H T [.str "wakes", .ref t] ∧ SqT K H t (ns.map fun n => V.int (n : Nat)) ∧ Leads bs l ns d) ∨ (d ∉ lotOf ds e ∧ ∃ T z, v = .ref T ∧ SqT K H T [.str "sleeps", z] ∧ LotAt K H z (lotOf ds e))
theorem WayAt.same {K : PySem.W.Frag} {H H' : Hp} {v : V} {ds : List Str} {bs : List Bun} {l : List Str} {d : Str} {e : Nat} (h : WayAt K H v ds bs l d e) (s : Same H H') : WayAt K H' v ds bs l d e := by
  rcases h with ⟨h, T, t, ns, h1, h2, h3, h4⟩ | ⟨h, T, z, h1, h2, h3⟩
  · exact .inl ⟨h, T, t, ns, h1, Same.sqT s h2, Same.sqT s h3, h4⟩
  · exact .inr ⟨h, T, z, h1, Same.sqT s h2, h3.same s⟩
def spWay (K : PySem.W.Frag) (C : Addr) : Sp := fun vs H Q _ => ∃ (p : Addr) (y : V) (d : Str) (ds l : List Str) (bs : List Bun), vs = [.ref p, y, .str d] ∧ RulesAt K C H p ds bs ∧ LotAt K H y l ∧ l.Sublist ds ∧ Devs ds ∧ RowsOf ds bs ∧ bs.length ≤ 64 ∧ d ∈ ds ∧
  ∀ H' v e, Same H H' → IsEnd (stepsOf ds bs) (maskOf ds l) e → e < 2 ^ ds.length → WayAt K H' v ds bs l d e → Q v H'
def spAreNumbers (K : PySem.W.Frag) (C : Addr) : Sp := fun vs H Q _ => ∃ (p t : Addr) (ds l : List Str) (bs : List Bun) (ns : List Nat) (d : Str), vs = [.ref p, .ref t] ∧ RulesAt K C H p ds bs ∧ bs.length ≤ 64 ∧ SqT K H t (ns.map fun n => V.int (n : Nat)) ∧ Leads bs l ns d ∧ ∀ H', Same H H' → Q (.bl true) H'
def spLeads (K : PySem.W.Frag) (C : Addr) : Sp := fun vs H Q _ => ∃ (p t : Addr) (y : V) (ds l : List Str) (bs : List Bun) (ns : List Nat) (d : Str), vs = [.ref p, y, .str d, .ref t] ∧ RulesAt K C H p ds bs ∧ Devs ds ∧ RowsOf ds bs ∧ bs.length ≤ 64 ∧ LotAt K H y l ∧ l.Sublist ds ∧ SqT K H t (ns.map fun n => V.int (n : Nat)) ∧ Leads bs l ns d ∧ ∀ H', Same H H' → Q (.bl true) H'
def spShowsWay (K : PySem.W.Frag) (C : Addr) : Sp := fun vs H Q _ => ∃ (p : Addr) (y v : V) (d : Str) (ds l : List Str) (bs : List Bun) (e : Nat), vs = [.ref p, y, .str d, v] ∧ RulesAt K C H p ds bs ∧ LotAt K H y l ∧ l.Sublist ds ∧ Devs ds ∧ RowsOf ds bs ∧ bs.length ≤ 64 ∧ d ∈ ds ∧ IsEnd (stepsOf ds bs) (maskOf ds l) e ∧ WayAt K H v ds bs l d e ∧
  ∀ H', Same H H' → Q (.bl true) H'
section
variable {P : Program} {w : World} {K : PySem.W.Frag} {mg : Str → Option Value} {base : Heap}
end

/-! ## what is shown as a tuple of names is one -/
abbrev tl (x : Str) : List Nat := x.cps.toList
theorem tl_app (x y : Str) : tl (x ++ y) = tl x ++ tl y := by
  show (x ++ y).cps.toList = _
  rw [Str.cps_append, Array.toList_append]
/-- small letters -/
def Low (a : Str) : Prop := ∀ c ∈ tl a, 97 ≤ c ∧ c ≤ 122
theorem foldl_tl (q : Nat) : ∀ (l : List Nat) (acc : Array Nat), (l.foldl (fun out c => out ++ (Builtin.Str.reprChar q c).toArray) acc).toList = acc.toList ++ l.flatMap (Builtin.Str.reprChar q)
  | [], acc => by simp
  | c :: l, acc => by
    rw [List.foldl_cons, foldl_tl q l, Array.toList_append, List.flatMap_cons, List.append_assoc]
theorem reprText_tl (x : Str) : tl (reprText x) = reprQuote x :: ((tl x).flatMap (Builtin.Str.reprChar (reprQuote x)) ++ [reprQuote x]) := by
  show ((x.cps.foldl (fun out c => out ++ (Builtin.Str.reprChar (reprQuote x) c).toArray) #[reprQuote x]).push (reprQuote x)).toList = _
  rw [Array.toList_push, ← Array.foldl_toList, foldl_tl]
  rfl
theorem repr_low {c : Nat} (h : 97 ≤ c ∧ c ≤ 122) : Builtin.Str.reprChar 39 c = [c] := by
  have all : (List.range 26).all (fun i => decide (Builtin.Str.reprChar 39 (97 + i) = [97 + i])) = true := by decide +kernel
  have h1 := List.all_eq_true.mp all (c - 97) (List.mem_range.mpr (by omega))
  rw [show 97 + (c - 97) = c by omega] at h1
  exact of_decide_eq_true h1
theorem repr_other {c : Nat} : Builtin.Str.reprChar 39 c = [c] ∧ c ≠ 39 ∨ ∃ r, Builtin.Str.reprChar 39 c = 92 :: r := by
  by_cases h0 : c = 39
  · right
    subst h0
    exact ⟨_, rfl⟩
  · by_cases h1 : ∃ r, Builtin.Str.reprChar 39 c = 92 :: r
    · exact .inr h1
    · left
      refine ⟨?_, h0⟩
      unfold Builtin.Str.reprChar at h1 ⊢
      simp only at h1 ⊢
      split at h1
      · exact absurd ⟨_, rfl⟩ h1
      · split at h1
        · exact absurd ⟨_, rfl⟩ h1
        · split at h1
          · exact absurd ⟨_, rfl⟩ h1
          · split at h1
            · exact absurd ⟨_, rfl⟩ h1
            · split at h1
              · rename_i a1 a2 a3 a4 a5
                rw [if_neg a1, if_neg a2, if_neg a3, if_neg a4, if_pos a5]
              · split at h1
                · exact absurd ⟨_, rfl⟩ h1
                · split at h1
                  · exact absurd ⟨_, rfl⟩ h1
                  · exact absurd ⟨_, rfl⟩ h1
theorem quote_low {a : Str} (h : Low a) : reprQuote a = 39 := by
  unfold reprQuote
  have : a.cps.contains 39 = false := by
    rw [← Array.contains_toList]
    rw [Bool.eq_false_iff]
    intro z
    have := h 39 (by simpa using z)
    omega
  rw [this]
  rfl
theorem flat_low : ∀ {l : List Nat}, (∀ c ∈ l, 97 ≤ c ∧ c ≤ 122) → l.flatMap (Builtin.Str.reprChar 39) = l
  | [], _ => rfl
  | c :: l, h => by rw [List.flatMap_cons, repr_low (h c (.head _)), flat_low fun x hx => h x (.tail _ hx)]; rfl
theorem text_low {a : Str} (h : Low a) : tl (reprText a) = 39 :: (tl a ++ [39]) := by
  rw [reprText_tl, quote_low h, flat_low h]
/-- the first letters of what is shown tell the text -/
theorem same_text : ∀ {l m : List Nat} {u v : List Nat}, (∀ c ∈ m, 97 ≤ c ∧ c ≤ 122) → l.flatMap (Builtin.Str.reprChar 39) ++ 39 :: u = m ++ 39 :: v → l = m ∧ u = v
  | [], [], u, v, _, e => ⟨rfl, (List.cons.inj e).2⟩
  | [], c :: m, u, v, h, e => by
    have := (List.cons.inj e).1
    have := h c (.head _)
    omega
  | x :: l, m, u, v, h, e => by
    rw [List.flatMap_cons, List.append_assoc] at e
    rcases repr_other (c := x) with ⟨e1, hx⟩ | ⟨r, e1⟩
    · rw [e1] at e
      cases m with
      | nil => exact absurd (List.cons.inj e).1 hx
      | cons c m =>
        obtain ⟨e2, e3⟩ := List.cons.inj e
        obtain ⟨e4, e5⟩ := same_text (fun z hz => h z (.tail _ hz)) e3
        have e6 : x = c := e2
        rw [e6, e4]
        exact ⟨rfl, e5⟩
    · rw [e1] at e
      cases m with
      | nil =>
        have := (List.cons.inj e).1
        omega
      | cons c m =>
        have := (List.cons.inj e).1
        have := h c (.head _)
        omega
theorem int_head (i : Int) : ∃ c r, tl (PyData.int i).shown = c :: r := by
  cases e : tl (PyData.int i).shown with
  | cons c r => exact ⟨c, r, rfl⟩
  | nil =>
    exfalso
    rw [show (PyData.int i).shown = Str.ofString (toString i) by simp only [PyData.shown]] at e
    cases i with
    | ofNat m =>
      rw [text_ofNat] at e
      have := tDigits_len_ge 10 m
      have e2 : ((Nat.toDigits 10 m).map Char.toNat) = [] := by simpa using e
      rw [List.map_eq_nil_iff.mp e2] at this
      simp at this
    | negSucc m =>
      have e1 : toString (Int.negSucc m) = "-" ++ Nat.repr (m + 1) := rfl
      have e2 := Str.ofString_eq_toList (toString (Int.negSucc m))
      rw [e2, e1] at e
      simp at e
/-- the first sign -/
theorem head_ne (d : PyData) (k : Nat) (hk : k = 39 ∨ k = 41) (v : List Nat) (h : ∀ s, d ≠ .str s) : tl d.shown ≠ k :: v := by
  intro e
  cases d with
  | none =>
    have e1 : tl PyData.none.shown = [78, 111, 110, 101] := by decide +kernel
    rw [e1] at e
    have := (List.cons.inj e).1
    omega
  | bool b =>
    cases b
    · have e1 : tl (PyData.bool false).shown = [70, 97, 108, 115, 101] := by decide +kernel
      rw [e1] at e
      have := (List.cons.inj e).1
      omega
    · have e1 : tl (PyData.bool true).shown = [84, 114, 117, 101] := by decide +kernel
      rw [e1] at e
      have := (List.cons.inj e).1
      omega
  | int i =>
    have hm : k ∈ tl (PyData.int i).shown := by rw [e]; exact .head _
    exact shown_int_free' (by omega) i hm
  | str s => exact h s rfl
  | list xs =>
    have : (PyData.list xs).shown = listText (PyData.shownAll xs) := by simp only [PyData.shown]
    have h2 : ∃ r, tl (PyData.list xs).shown = 91 :: r := by
      rw [this]
      unfold listText
      have tf : ∀ (ts : List Str) (k : Nat) (acc : Str), (∃ r, tl acc = 91 :: r) → ∃ r, tl (textFrom k acc ts) = 91 :: r := by
        intro ts
        induction ts with
        | nil => exact fun k acc h => h
        | cons t ts ih =>
          intro k acc ⟨r, h⟩
          refine ih (k + 1) _ ⟨r ++ tl ((if k > 0 then ", " else "" : String) : Str) ++ tl t, ?_⟩
          rw [tl_app, tl_app, h]
          simp
      obtain ⟨r, h3⟩ := tf (PyData.shownAll xs) 0 "[" ⟨[], by decide +kernel⟩
      exact ⟨r ++ tl ("]" : Str), by rw [tl_app, h3]; rfl⟩
    obtain ⟨r, h2⟩ := h2
    rw [h2] at e
    have := (List.cons.inj e).1
    omega
  | tuple xs =>
    have : (PyData.tuple xs).shown = tupleText (PyData.shownAll xs) := by simp only [PyData.shown]
    rw [this] at e
    unfold tupleText at e
    rw [tl_app, tl_app, show tl ("(" : Str) = [40] by decide +kernel] at e
    have := (List.cons.inj e).1
    omega
  | dict kvs =>
    have : (PyData.dict kvs).shown = dictText (PyData.shownKv kvs) := by simp only [PyData.shown]
    rw [this] at e
    unfold dictText at e
    rw [tl_app, tl_app, show tl ("{" : Str) = [123] by decide +kernel] at e
    have := (List.cons.inj e).1
    omega
theorem shown_some (d : PyData) : ∃ c r, tl d.shown = c :: r := by
  cases d with
  | none => exact ⟨78, [111, 110, 101], by decide +kernel⟩
  | bool b =>
    cases b
    · exact ⟨70, [97, 108, 115, 101], by decide +kernel⟩
    · exact ⟨84, [114, 117, 101], by decide +kernel⟩
  | int i => exact int_head i
  | str s =>
    have : (PyData.str s).shown = reprText s := by simp only [PyData.shown]
    rw [this, reprText_tl]
    exact ⟨_, _, rfl⟩
  | list xs =>
    have : (PyData.list xs).shown = listText (PyData.shownAll xs) := by simp only [PyData.shown]
    rw [this]
    unfold listText
    rw [tl_app]
    cases e : tl (textFrom 0 "[" (PyData.shownAll xs)) with
    | nil => exact ⟨93, [], by rw [List.nil_append]; decide +kernel⟩
    | cons c r => exact ⟨c, r ++ tl ("]" : Str), rfl⟩
  | tuple xs =>
    have : (PyData.tuple xs).shown = tupleText (PyData.shownAll xs) := by simp only [PyData.shown]
    rw [this]
    unfold tupleText
    rw [tl_app, tl_app, show tl ("(" : Str) = [40] by decide +kernel]
    exact ⟨_, _, rfl⟩
  | dict kvs =>
    have : (PyData.dict kvs).shown = dictText (PyData.shownKv kvs) := by simp only [PyData.shown]
    rw [this]
    unfold dictText
    rw [tl_app, tl_app, show tl ("{" : Str) = [123] by decide +kernel]
    exact ⟨_, _, rfl⟩
/-- one name -/
theorem same_name {d : PyData} {a : Str} {u v : List Nat} (ha : Low a) (e : tl d.shown ++ u = 39 :: (tl a ++ 39 :: v)) : d = .str a ∧ u = v := by
  obtain ⟨c, r, hs⟩ := shown_some d
  rw [hs, List.cons_append] at e
  obtain ⟨e1, e2⟩ := List.cons.inj e
  by_cases h : ∀ s, d ≠ .str s
  · exact absurd (by rw [hs, e1]) (head_ne d 39 (.inl rfl) r h)
  · obtain ⟨s, rfl⟩ : ∃ s, d = .str s := Classical.byContradiction fun z => h fun s hs => z ⟨s, hs⟩
    have h1 : (PyData.str s).shown = reprText s := by simp only [PyData.shown]
    rw [h1, reprText_tl] at hs
    obtain ⟨e3, e4⟩ := List.cons.inj hs
    rw [e1] at e3
    rw [e3] at e4
    rw [← e4, List.append_assoc] at e2
    obtain ⟨e5, e6⟩ := same_text ha e2
    exact ⟨congrArg PyData.str (Str.ext' (Array.toList_inj.mp e5)), e6⟩
/-- what follows a first one -/
def rests : List (List Nat) → List Nat
  | [] => [41]
  | t :: ts => 44 :: 32 :: (t ++ rests ts)
theorem join_tl : ∀ (t : Str) (ts : List Str), tl (Str.join ", " (t :: ts)) ++ [41] = tl t ++ rests (ts.map tl)
  | t, [] => rfl
  | t, u :: ts => by
    have e : Str.join ", " (t :: u :: ts) = t ++ ", " ++ Str.join ", " (u :: ts) := rfl
    rw [e, tl_app, tl_app, List.append_assoc, List.append_assoc, join_tl u ts, List.map_cons, rests, show tl (", " : Str) = [44, 32] by decide +kernel]
    rfl
theorem tuple_tl : ∀ (t : Str) (ts : List Str), tl (tupleText (t :: ts)) = 40 :: (tl t ++ if ts = [] then [44, 41] else rests (ts.map tl))
  | t, [] => by
    unfold tupleText
    rw [tl_app, tl_app]
    rfl
  | t, u :: ts => by
    unfold tupleText
    rw [tl_app, tl_app, show ((if (t :: u :: ts).length == 1 then ",)" else ")" : String) : Str) = (")" : Str) from by simp, show tl (")" : Str) = [41] by decide +kernel, List.append_assoc, join_tl, if_neg (by simp)]
    rfl
theorem same_rests : ∀ {xs : List PyData} {l : List Str}, (∀ a ∈ l, Low a) → rests ((PyData.shownAll xs).map tl) = rests ((PyData.shownAll (l.map PyData.str)).map tl) → xs = l.map PyData.str
  | [], [], _, _ => rfl
  | [], a :: l, _, e => by
    rw [List.map_cons, PyData.shownAll, PyData.shownAll, List.map_cons, rests, List.map_nil, rests] at e
    have := (List.cons.inj e).1
    omega
  | x :: xs, [], _, e => by
    rw [List.map_nil, PyData.shownAll, PyData.shownAll, List.map_cons, rests, List.map_nil, rests] at e
    have := (List.cons.inj e).1
    omega
  | x :: xs, a :: l, h, e => by
    rw [List.map_cons, PyData.shownAll, PyData.shownAll, List.map_cons, rests, List.map_cons, rests] at e
    have e1 := (List.cons.inj (List.cons.inj e).2).2
    have h1 : (PyData.str a).shown = reprText a := by simp only [PyData.shown]
    rw [h1, text_low (h a (.head _)), List.cons_append, List.append_assoc] at e1
    obtain ⟨e2, e3⟩ := same_name (h a (.head _)) e1
    rw [List.map_cons, e2, same_rests (fun z hz => h z (.tail _ hz)) e3]
theorem shown_lot {d : PyData} {l : List Str} (h : ∀ a ∈ l, Low a) (e : d.shown = (PyData.tuple (l.map PyData.str)).shown) : d = .tuple (l.map PyData.str) := by
  have e1 : (PyData.tuple (l.map PyData.str)).shown = tupleText (PyData.shownAll (l.map PyData.str)) := by simp only [PyData.shown]
  have hd : ∃ r, tl d.shown = 40 :: r := by
    rw [e, e1]
    unfold tupleText
    rw [tl_app, tl_app, show tl ("(" : Str) = [40] by decide +kernel]
    exact ⟨_, rfl⟩
  obtain ⟨r, hr⟩ := hd
  obtain ⟨xs, rfl⟩ : ∃ xs, d = .tuple xs := by
    cases d with
    | tuple xs => exact ⟨xs, rfl⟩
    | none =>
      rw [show tl PyData.none.shown = [78, 111, 110, 101] by decide +kernel] at hr
      have := (List.cons.inj hr).1
      omega
    | bool b =>
      cases b
      · rw [show tl (PyData.bool false).shown = [70, 97, 108, 115, 101] by decide +kernel] at hr
        have := (List.cons.inj hr).1
        omega
      · rw [show tl (PyData.bool true).shown = [84, 114, 117, 101] by decide +kernel] at hr
        have := (List.cons.inj hr).1
        omega
    | int i =>
      have hm : 40 ∈ tl (PyData.int i).shown := by rw [hr]; exact .head _
      exact absurd hm (shown_int_free' (by omega) i)
    | str s =>
      have h1 : (PyData.str s).shown = reprText s := by simp only [PyData.shown]
      rw [h1, reprText_tl] at hr
      have := (List.cons.inj hr).1
      unfold reprQuote at this
      split at this <;> omega
    | list xs =>
      exfalso
      have h1 : (PyData.list xs).shown = listText (PyData.shownAll xs) := by simp only [PyData.shown]
      rw [h1] at hr
      unfold listText at hr
      have tf : ∀ (ts : List Str) (k : Nat) (acc : Str), (∃ r, tl acc = 91 :: r) → ∃ r, tl (textFrom k acc ts) = 91 :: r := by
        intro ts
        induction ts with
        | nil => exact fun k acc h => h
        | cons t ts ih =>
          intro k acc ⟨r, h⟩
          refine ih (k + 1) _ ⟨r ++ tl ((if k > 0 then ", " else "" : String) : Str) ++ tl t, ?_⟩
          rw [tl_app, tl_app, h]
          simp
      obtain ⟨r2, h3⟩ := tf (PyData.shownAll xs) 0 "[" ⟨[], by decide +kernel⟩
      rw [tl_app, h3] at hr
      have := (List.cons.inj hr).1
      omega
    | dict kvs =>
      have h1 : (PyData.dict kvs).shown = dictText (PyData.shownKv kvs) := by simp only [PyData.shown]
      rw [h1] at hr
      unfold dictText at hr
      rw [tl_app, tl_app, show tl ("{" : Str) = [123] by decide +kernel] at hr
      have := (List.cons.inj hr).1
      omega
  have e2 : (PyData.tuple xs).shown = tupleText (PyData.shownAll xs) := by simp only [PyData.shown]
  rw [e1, e2] at e
  have e3 := congrArg tl e
  cases l with
  | nil =>
    cases xs with
    | nil => rfl
    | cons x xs =>
      exfalso
      rw [PyData.shownAll, tuple_tl, List.map_nil, PyData.shownAll, show tl (tupleText []) = [40, 41] by decide +kernel] at e3
      have e4 := (List.cons.inj e3).2
      obtain ⟨c, r', hc⟩ := shown_some x
      rw [hc, List.cons_append] at e4
      obtain ⟨e5, e6⟩ := List.cons.inj e4
      have e7 := (List.append_eq_nil_iff.mp e6).2
      split at e7
      · cases e7
      · rename_i hx
        cases hz : (PyData.shownAll xs) with
        | nil => exact hx hz
        | cons t ts =>
          rw [hz, List.map_cons, rests] at e7
          cases e7
  | cons a l =>
    cases xs with
    | nil =>
      exfalso
      rw [List.map_cons, PyData.shownAll, PyData.shownAll, tuple_tl, show tl (tupleText []) = [40, 41] by decide +kernel] at e3
      have e4 := (List.cons.inj e3).2
      have h1 : (PyData.str a).shown = reprText a := by simp only [PyData.shown]
      rw [h1, text_low (h a (.head _))] at e4
      have := (List.cons.inj e4).1
      omega
    | cons x xs =>
      rw [List.map_cons, PyData.shownAll, PyData.shownAll, tuple_tl, tuple_tl] at e3
      have e4 := (List.cons.inj e3).2
      have h1 : (PyData.str a).shown = reprText a := by simp only [PyData.shown]
      rw [h1, text_low (h a (.head _)), List.cons_append, List.append_assoc] at e4
      obtain ⟨e5, e6⟩ := same_name (h a (.head _)) e4
      rw [List.map_cons, e5]
      refine congrArg (fun z => PyData.tuple (PyData.str a :: z)) ?_
      by_cases hx : PyData.shownAll xs = []
      · have x0 : xs = [] := by
          cases xs with
          | nil => rfl
          | cons y ys => rw [PyData.shownAll] at hx; cases hx
        subst x0
        cases l with
        | nil => rfl
        | cons b l =>
          exfalso
          rw [if_pos hx, if_neg (by rw [List.map_cons, PyData.shownAll]; simp), List.map_cons, PyData.shownAll, List.map_cons, rests] at e6
          have := (List.cons.inj (List.cons.inj e6).2).1
          omega
      · rw [if_neg hx] at e6
        cases l with
        | nil =>
          exfalso
          rw [List.map_nil, PyData.shownAll, if_pos rfl] at e6
          cases hz : PyData.shownAll xs with
          | nil => exact hx hz
          | cons t ts =>
            rw [hz, List.map_cons, rests] at e6
            have := (List.cons.inj (List.cons.inj e6).2).1
            omega
        | cons b l =>
          rw [if_neg (by rw [List.map_cons, PyData.shownAll]; simp)] at e6
          exact same_rests (fun z hz => h z (.tail _ hz)) e6

namespace Two
/-! ## data whose lists are none of some that may change -/
mutual
inductive Dq (K : PySem.W.Frag) (q : Addr → Prop) (H : Hp) : V → PyData → Prop
  | non : Dq K q H .non .none
  | bl (b : Bool) : Dq K q H (.bl b) (.bool b)
  | int (i : Int) : Dq K q H (.int i) (.int i)
  | str (x : Str) : Dq K q H (.str x) (.str x)
  | lst {a : Addr} {xs : List V} {ds : List PyData} : H a = some (.lst xs) → ¬ q a → a ≠ sysModules → DqA K q H xs ds → Dq K q H (.ref a) (.list ds)
  | tup {a : Addr} {xs : List V} {ds : List PyData} : SqT K H a xs → DqA K q H xs ds → Dq K q H (.ref a) (.tuple ds)
  | dic {a : Addr} {kvs : List (Key × V)} {ds : List (PyData × PyData)} : H a = some (.dK kvs) → DqA K q H (kvs.map fun p => kV p.1) (ds.map (·.1)) → DqA K q H (kvs.map (·.2)) (ds.map (·.2)) → Dq K q H (.ref a) (.dict ds)
inductive DqA (K : PySem.W.Frag) (q : Addr → Prop) (H : Hp) : List V → List PyData → Prop
  | nil : DqA K q H [] []
  | cons {v : V} {vs : List V} {d : PyData} {ds : List PyData} : Dq K q H v d → DqA K q H vs ds → DqA K q H (v :: vs) (d :: ds)
end
mutual
theorem Dq.mono {K : PySem.W.Frag} {q : Addr → Prop} {H H' : Hp} {l : List V} {p : Addr} (hp : q p) (h : HS p H H') (hq : H p = some (.lst l)) : ∀ {v : V} {d : PyData}, Dq K q H v d → Dq K q H' v d
  | _, _, .non => .non
  | _, _, .bl b => .bl b
  | _, _, .int i => .int i
  | _, _, .str x => .str x
  | _, _, .lst e n n2 r => .lst (h _ _ (fun z => n (z ▸ hp)) e) n n2 (DqA.mono hp h hq r)
  | _, _, .tup e r => .tup (h.sqT hq e) (DqA.mono hp h hq r)
  | _, _, .dic e r1 r2 => .dic (h _ _ (fun z => by rw [z, hq] at e; cases e) e) (DqA.mono hp h hq r1) (DqA.mono hp h hq r2)
theorem DqA.mono {K : PySem.W.Frag} {q : Addr → Prop} {H H' : Hp} {l : List V} {p : Addr} (hp : q p) (h : HS p H H') (hq : H p = some (.lst l)) : ∀ {vs : List V} {ds : List PyData}, DqA K q H vs ds → DqA K q H' vs ds
  | _, _, .nil => .nil
  | _, _, .cons r t => .cons (Dq.mono hp h hq r) (DqA.mono hp h hq t)
end
theorem DqA.length {K : PySem.W.Frag} {q : Addr → Prop} {H : Hp} : ∀ {vs : List V} {ds : List PyData}, DqA K q H vs ds → vs.length = ds.length
  | _, _, .nil => rfl
  | _, _, .cons _ t => congrArg (· + 1) t.length
theorem DqA.get {K : PySem.W.Frag} {q : Addr → Prop} {H : Hp} : ∀ {vs : List V} {ds : List PyData} {i : Nat} {v : V}, DqA K q H vs ds → vs[i]? = some v → ∃ d, ds[i]? = some d ∧ Dq K q H v d
  | _, _, _, _, .nil, e => by simp at e
  | _, _, 0, _, .cons r _, e => by
    simp at e
    subst e
    exact ⟨_, rfl, r⟩
  | _, _, i + 1, v, .cons _ t, e => by
    obtain ⟨d, h1, h2⟩ := DqA.get (i := i) (v := v) t (by simpa using e)
    exact ⟨d, by simpa using h1, h2⟩
theorem DqA.append {K : PySem.W.Frag} {q : Addr → Prop} {H : Hp} : ∀ {vs ws : List V} {ds es : List PyData}, DqA K q H vs ds → DqA K q H ws es → DqA K q H (vs ++ ws) (ds ++ es)
  | _, _, _, _, .nil, s => s
  | _, _, _, _, .cons r t, s => .cons r (DqA.append t s)
theorem DqA.take {K : PySem.W.Frag} {q : Addr → Prop} {H : Hp} : ∀ {vs : List V} {ds : List PyData} (n : Nat), DqA K q H vs ds → DqA K q H (vs.take n) (ds.take n)
  | _, _, 0, _ => .nil
  | _, _, _ + 1, .nil => .nil
  | _, _, n + 1, .cons r t => .cons r (DqA.take n t)
theorem DqA.drop {K : PySem.W.Frag} {q : Addr → Prop} {H : Hp} : ∀ {vs : List V} {ds : List PyData} (n : Nat), DqA K q H vs ds → DqA K q H (vs.drop n) (ds.drop n)
  | _, _, 0, r => r
  | _, _, _ + 1, .nil => .nil
  | _, _, n + 1, .cons _ t => DqA.drop n t
theorem DqA.rev {K : PySem.W.Frag} {q : Addr → Prop} {H : Hp} : ∀ {vs : List V} {ds : List PyData}, DqA K q H vs ds → DqA K q H vs.reverse ds.reverse
  | _, _, .nil => .nil
  | _, _, .cons r t => by
    rw [List.reverse_cons, List.reverse_cons]
    exact (DqA.rev t).append (.cons r .nil)

mutual
theorem Dq.same {K : PySem.W.Frag} {q : Addr → Prop} {H H' : Hp} (h : Same H H') : ∀ {v : V} {d : PyData}, Dq K q H v d → Dq K q H' v d
  | _, _, .non => .non
  | _, _, .bl b => .bl b
  | _, _, .int i => .int i
  | _, _, .str x => .str x
  | _, _, .lst e n n2 r => .lst (h _ _ e) n n2 (DqA.same h r)
  | _, _, .tup e r => .tup (Same.sqT h e) (DqA.same h r)
  | _, _, .dic e r1 r2 => .dic (h _ _ e) (DqA.same h r1) (DqA.same h r2)
theorem DqA.same {K : PySem.W.Frag} {q : Addr → Prop} {H H' : Hp} (h : Same H H') : ∀ {vs : List V} {ds : List PyData}, DqA K q H vs ds → DqA K q H' vs ds
  | _, _, .nil => .nil
  | _, _, .cons r t => .cons (Dq.same h r) (DqA.same h t)
end
theorem DqA.mem {K : PySem.W.Frag} {q : Addr → Prop} {H : Hp} : ∀ {vs : List V} {ds : List PyData} {v : V}, DqA K q H vs ds → v ∈ vs → ∃ d, d ∈ ds ∧ Dq K q H v d
  | _, _, v, .nil, h => by simp at h
  | _, _, v, .cons r t, h => by
    rcases List.mem_cons.mp h with e | h
    · subst e
      exact ⟨_, List.mem_cons_self, r⟩
    · obtain ⟨d, h1, h2⟩ := DqA.mem t h
      exact ⟨d, List.mem_cons_of_mem _ h1, h2⟩
def DE (K : PySem.W.Frag) (q : Addr → Prop) (te : TE) (d : PyData) : Prop := ∀ (σ : L2.St) (H : Hp) (Q : VK), (∀ x, q x → ∃ o, H x = some o) → (∀ v H', Same H H' → Dq K q H' v d → Q v H') → te σ H Q
def DA (K : PySem.W.Frag) (q : Addr → Prop) (ta : TA) (ds : List PyData) : Prop := ∀ (σ : L2.St) (H : Hp) (R : List V → Hp → Prop), (∀ x, q x → ∃ o, H x = some o) → (∀ vs H', Same H H' → DqA K q H' vs ds → R vs H') → ta σ H R
section
variable {K : PySem.W.Frag} {q : Addr → Prop}
theorem de_non : DE K q (tC .non) .none := fun _ H _ _ k => k _ H (Same.refl H) .non
theorem de_bl (b : Bool) : DE K q (tC (.bl b)) (.bool b) := fun _ H _ _ k => k _ H (Same.refl H) (.bl b)
theorem de_int (i : Int) : DE K q (tC (.int i)) (.int i) := fun _ H _ _ k => k _ H (Same.refl H) (.int i)
theorem de_str (x : Str) : DE K q (tC (.str x)) (.str x) := fun _ H _ _ k => k _ H (Same.refl H) (.str x)
theorem da_nil : DA K q tNil [] := fun _ H _ _ k => k [] H (Same.refl H) .nil
theorem da_cons {te : TE} {ta : TA} {d : PyData} {ds : List PyData} (h : DE K q te d) (t : DA K q ta ds) : DA K q (tCons te ta) (d :: ds) := by
  intro σ H R hq k
  refine h σ H _ hq fun v H1 s1 d1 => ?_
  refine t σ H1 _ (fun x hx => by obtain ⟨o, ho⟩ := hq x hx; exact ⟨o, s1 _ _ ho⟩) fun vs H2 s2 d2 => ?_
  exact k (v :: vs) H2 (s1.trans s2) (.cons (d1.same s2) d2)
theorem de_tup {ta : TA} {ds : List PyData} (h : DA K q ta ds) (hz : ds.length ≤ 1000) : DE K q (tTup ta) (.tuple ds) := by
  intro σ H Q hq k
  refine h σ H _ hq fun vs H1 s1 d1 => ⟨by rw [d1.length, sizeLine_eq]; omega, fun p hp => ?_⟩
  exact k _ _ (same_upd s1 hp) (.tup (.of upd_same) (d1.same (same_upd (Same.refl _) hp)))
theorem de_lst {ta : TA} {ds : List PyData} (h : DA K q ta ds) (hz : ds.length ≤ 1000) : DE K q (tLstN ta) (.list ds) := by
  intro σ H Q hq k
  refine h σ H _ hq fun vs H1 s1 d1 => ⟨by rw [d1.length, sizeLine_eq]; omega, fun p hp hm => ?_⟩
  exact k _ _ (same_upd s1 hp) (.lst upd_same (fun z => by
    obtain ⟨o, ho⟩ := hq _ z
    exact ne_of_none (s1 _ _ ho) hp rfl) hm (d1.same (same_upd (Same.refl _) hp)))
theorem de_opI {C : Int → Int → Prop} {f : Int → Int → Int} {a b c : Int} (h : C a b) (e : f a b = c) : DE K q (tOp (rI C fun i j => V.int (f i j)) (tC (.int a)) (tC (.int b))) (.int c) := by
  intro σ H Q _ k
  refine ⟨a, b, rfl, rfl, h, ?_⟩
  show Q (V.int (f a b)) H
  rw [e]
  exact k _ H (Same.refl H) (.int c)
theorem de_unI {f : Int → Int} {a c : Int} (e : f a = c) : DE K q (tUn (rU fun i => V.int (f i)) (tC (.int a))) (.int c) := by
  intro σ H Q _ k
  refine ⟨a, rfl, ?_⟩
  show Q (V.int (f a)) H
  rw [e]
  exact k _ H (Same.refl H) (.int c)
theorem de_dnew : DE K q tDNewK (.dict []) := by
  intro σ H Q hq k p hp
  exact k _ _ (same_upd (Same.refl H) hp) (.dic upd_same .nil .nil)
theorem de_disp1 {x : Str} {i : Int} : DE K q (tDisp [(tC (.str x), tC (.int i))]) (.dict [(.str x, .int i)]) := by
  intro σ H Q hq k p hp
  refine ⟨upd_same, [(.inr x, .int i)], rfl, (by show 1 ≤ 15; decide), ?_⟩
  rw [upd_upd]
  exact k _ _ (same_upd (Same.refl H) hp) (.dic upd_same (.cons (.str x) .nil) (.cons (.int i) .nil))
end
theorem Dq.tyX {K : PySem.W.Frag} {q : Addr → Prop} {H : Hp} : ∀ {v : V} {d : PyData}, Dq K q H v d → TyX K H v (.type (tyD d))
  | _, _, .non => .base .non
  | _, _, .bl b => .base (.bl b)
  | _, _, .int i => .base (.int i)
  | _, _, .str x => .base (.str x)
  | _, _, .lst e _ _ _ => .base (.lst e)
  | _, _, .tup e _ => sqT_tyX e
  | _, _, .dic e _ _ => .base (.dK e)
/-- isinstance(data, built-in type) -/
theorem w_isT {K : PySem.W.Frag} {q : Addr → Prop} {H : Hp} {Q : VK} {v : V} {d : PyData} {T : String} (b : Bool) (hd : Dq K q H v d) (e : kitB (tyD d) T = some b) (k : Q (.bl b) H) : rIsi K [v, .ty T] H Q :=
  ⟨v, .ty T, .type (tyD d), .type T, b, rfl, .ty T, hd.tyX, kit_ty e, k⟩

/-! ## expressions over data that is there -/
def DV (K : PySem.W.Frag) (q : Addr → Prop) (σ : L2.St) (H : Hp) (te : TE) (d : PyData) : Prop := ∀ (H1 : Hp) (Q : VK), Same H H1 → (∀ v H', Same H1 H' → Dq K q H' v d → Q v H') → te σ H1 Q
def DP (K : PySem.W.Frag) (q : Addr → Prop) (σ : L2.St) (H : Hp) (te : TE) (Φ : PyData → Prop) : Prop := ∀ (H1 : Hp) (Q : VK), Same H H1 → (∀ v H' d, Same H1 H' → Dq K q H' v d → Φ d → Q v H') → te σ H1 Q
def DPA (K : PySem.W.Frag) (q : Addr → Prop) (σ : L2.St) (H : Hp) (ta : TA) (Φ : PyData → Prop) (n : Nat) : Prop := ∀ (H1 : Hp) (R : List V → Hp → Prop), Same H H1 →
  (∀ vs H' ds, Same H1 H' → DqA K q H' vs ds → (∀ d ∈ ds, Φ d) → ds.length = n → R vs H') → ta σ H1 R
section
variable {K : PySem.W.Frag} {q : Addr → Prop} {σ : L2.St} {H : Hp}
theorem DV.dp {te : TE} {d : PyData} {Φ : PyData → Prop} (h : DV K q σ H te d) (f : Φ d) : DP K q σ H te Φ := fun H1 Q s k => h H1 Q s fun v H' s' dq => k v H' d s' dq f
theorem dpa_nil {Φ : PyData → Prop} : DPA K q σ H tNil Φ 0 := fun H1 R _ k => k [] H1 [] (Same.refl _) .nil (fun d h => absurd h (by simp)) rfl
theorem dpa_cons {te : TE} {ta : TA} {Φ : PyData → Prop} {n : Nat} (h : DP K q σ H te Φ) (t : DPA K q σ H ta Φ n) : DPA K q σ H (tCons te ta) Φ (n + 1) := by
  intro H1 R s k
  refine h H1 _ s fun v H2 d s2 dq f => ?_
  refine t H2 _ (s.trans s2) fun vs H3 ds s3 dqs fs hn => ?_
  refine k (v :: vs) H3 (d :: ds) (s2.trans s3) (.cons (dq.same s3) dqs) (fun d' hd => ?_) (by rw [List.length_cons, hn])
  rcases List.mem_cons.mp hd with e | hd
  · rw [e]
    exact f
  · exact fs d' hd
theorem dv_var {i : Nat} {v : V} {d : PyData} (h : σ[i]? = some (some v)) (hd : Dq K q H v d) : DV K q σ H (tVar i) d := fun H1 Q s k => ⟨v, h, k v H1 (Same.refl _) (hd.same s)⟩
theorem dv_non : DV K q σ H (tC .non) .none := fun H1 Q s k => k _ H1 (Same.refl _) .non
theorem dv_bl (b : Bool) : DV K q σ H (tC (.bl b)) (.bool b) := fun H1 Q s k => k _ H1 (Same.refl _) (.bl b)
theorem dv_int (i : Int) : DV K q σ H (tC (.int i)) (.int i) := fun H1 Q s k => k _ H1 (Same.refl _) (.int i)
theorem dv_str (x : Str) : DV K q σ H (tC (.str x)) (.str x) := fun H1 Q s k => k _ H1 (Same.refl _) (.str x)
theorem dv_tup0 : DV K q σ H (tTup tNil) (.tuple []) := fun H1 Q s k => ⟨Nat.zero_le _, fun p hp => k _ _ (same_upd (Same.refl _) hp) (.tup (.of upd_same) .nil)⟩
theorem dv_tup1 {te : TE} {d : PyData} (h : DV K q σ H te d) : DV K q σ H (tTup (tCons te tNil)) (.tuple [d]) := by
  intro H1 Q s k
  refine h H1 _ s fun v H2 s2 dq => ⟨by show 1 ≤ sizeLine; decide, fun p hp => ?_⟩
  exact k _ _ (same_upd s2 hp) (.tup (.of upd_same) (.cons (dq.same (same_upd (Same.refl _) hp)) .nil))
theorem dv_lst1 {te : TE} {d : PyData} (hq : ∀ x, q x → ∃ o, H x = some o) (h : DV K q σ H te d) : DV K q σ H (tLstN (tCons te tNil)) (.list [d]) := by
  intro H1 Q s k
  refine h H1 _ s fun v H2 s2 dq => ⟨by show 1 ≤ sizeLine; decide, fun p hp hm => ?_⟩
  exact k _ _ (same_upd s2 hp) (.lst upd_same (fun z => by
    obtain ⟨o, ho⟩ := hq _ z
    exact ne_of_none ((s.trans s2) _ _ ho) hp rfl) hm (.cons (dq.same (same_upd (Same.refl _) hp)) .nil))
theorem dv_list {te : TE} {ds : List PyData} (hq : ∀ x, q x → ∃ o, H x = some o) (h : DV K q σ H te (.tuple ds)) :
    DV K q σ H (tCB (fun xs H Q => ∃ p ys, xs = [.ref p] ∧ (SqL K H p ys ∨ SqT K H p ys) ∧ ∀ l, H l = none → l ≠ sysModules → Q (.ref l) (upd H l (.lst ys))) (tCons te tNil)) (.list ds) := by
  intro H1 Q s k
  refine h H1 _ s fun v H2 s2 dq => ?_
  cases dq with
  | tup e r =>
    refine ⟨_, _, rfl, .inr e, fun l hl hm => ?_⟩
    exact k _ _ (same_upd s2 hl) (.lst upd_same (fun z => by
      obtain ⟨o, ho⟩ := hq _ z
      exact ne_of_none ((s.trans s2) _ _ ho) hl rfl) hm (r.same (same_upd (Same.refl _) hl)))
theorem dv_back {te : TE} {ds : List PyData} (h : DV K q σ H te (.tuple ds)) : DV K q σ H (tBackT K te) (.tuple ds.reverse) := by
  intro H1 Q s k
  refine h H1 _ s fun v H2 s2 dq => ?_
  cases dq with
  | tup e r => exact ⟨_, _, rfl, e, fun p hp => k _ _ (same_upd s2 hp) (.tup (.of upd_same) (r.rev.same (same_upd (Same.refl _) hp)))⟩
theorem dv_cat {ta tb : TE} {ds es : List PyData} (ha : DV K q σ H ta (.tuple ds)) (hb : DV K q σ H tb (.tuple es)) (hz : ds.length + es.length ≤ 1000000) : DV K q σ H (tOp (rCatA K) ta tb) (.tuple (ds ++ es)) := by
  intro H1 Q s k
  refine ha H1 _ s fun v H2 s2 dq => ?_
  refine hb H2 _ (s.trans s2) fun u H3 s3 dq2 => ?_
  cases dq with
  | tup e r =>
    cases dq2 with
    | tup e2 r2 =>
      have e' := Same.sqT s3 e
      have r' := r.same s3
      refine ⟨_, _, _, _, rfl, rfl, e', e2, ?_, fun z => ?_, fun z1 z2 => ?_, fun z1 z2 p hp => ?_⟩
      · rw [r'.length, r2.length, sizeLine_eq]
        omega
      · subst z
        cases r'
        exact k _ _ (s2.trans s3) (.tup e2 r2)
      · subst z2
        cases r2
        rw [List.append_nil] at k
        exact k _ _ (s2.trans s3) (.tup e' r')
      · exact k _ _ (same_upd (s2.trans s3) hp) (.tup (.of upd_same) ((r'.append r2).same (same_upd (Same.refl _) hp)))
theorem dv_slice {te : TE} {tl th : TO} {lo hi : Option Int} {ds : List PyData} (h : DV K q σ H te (.tuple ds)) (hl : ∀ (H1 : Hp) (R : Option Int → Hp → Prop), R lo H1 → tl σ H1 R) (hh : ∀ (H1 : Hp) (R : Option Int → Hp → Prop), R hi H1 → th σ H1 R) :
    DV K q σ H (tSl (rSlA K) te tl th) (.tuple (cutD ds lo hi)) := by
  intro H1 Q s k
  refine h H1 _ s fun v H2 s2 dq => hl _ _ (hh _ _ ?_)
  cases dq with
  | @tup a xs _ e r =>
    have hn := r.length
    refine ⟨a, xs, rfl, e, fun z => ?_, fun z p hp => ?_⟩
    · have : cutD ds lo hi = ds := by
        unfold cutD
        rw [← hn, z.1, z.2, List.drop_zero, Nat.sub_zero, List.take_of_length_le (by omega)]
      rw [this] at k
      exact k _ _ s2 (.tup e r)
    · refine k _ _ (same_upd s2 hp) (.tup (.of upd_same) ?_)
      have := ((r.drop (HT.sIx xs.length 0 lo)).take (HT.sIx xs.length xs.length hi - HT.sIx xs.length 0 lo)).same (same_upd (Same.refl H2) hp (o := .tup (cutV xs lo hi)))
      unfold cutD
      rw [← hn]
      exact this
theorem r_cat {H1 : Hp} {Q : VK} {v u : V} {ds es : List PyData} (dq : Dq K q H1 v (.tuple ds)) (dq2 : Dq K q H1 u (.tuple es)) (hz : ds.length + es.length ≤ 1000000)
    (k : ∀ v H', Same H1 H' → Dq K q H' v (.tuple (ds ++ es)) → Q v H') : rCatA K v u H1 Q := by
  have ha : DV K q [some v, some u] H1 (tVar 0) (.tuple ds) := dv_var rfl dq
  have hb : DV K q [some v, some u] H1 (tVar 1) (.tuple es) := dv_var rfl dq2
  obtain ⟨v', e1, u', e2, z⟩ := dv_cat ha hb hz H1 Q (Same.refl _) k
  cases e1
  cases e2
  exact z
theorem r_slice {H1 : Hp} {Q : VK} {v : V} {lo hi : Option Int} {ds : List PyData} (dq : Dq K q H1 v (.tuple ds)) (k : ∀ v H', Same H1 H' → Dq K q H' v (.tuple (cutD ds lo hi)) → Q v H') : rSlA K v lo hi H1 Q := by
  have ha : DV K q [some v] H1 (tVar 0) (.tuple ds) := dv_var rfl dq
  obtain ⟨v', e1, z⟩ := dv_slice (lo := lo) (hi := hi) (tl := fun _ H R => R lo H) (th := fun _ H R => R hi H) ha (fun _ _ h => h) (fun _ _ h => h) H1 Q (Same.refl _) k
  cases e1
  exact z
theorem dv_I0 {f : Int → Int → Int} {ta tb : TE} {a b : Int} (ha : DV K q σ H ta (.int a)) (hb : DV K q σ H tb (.int b)) : DV K q σ H (tOp (rI0 fun i j => .int (f i j)) ta tb) (.int (f a b)) := by
  intro H1 Q s k
  refine ha H1 _ s fun v H2 s2 dq => ?_
  refine hb H2 _ (s.trans s2) fun u H3 s3 dq2 => ?_
  cases dq
  cases dq2
  exact ⟨a, b, rfl, rfl, k _ _ (s2.trans s3) (.int _)⟩
theorem dv_U {f : Int → Int} {ta : TE} {a : Int} (ha : DV K q σ H ta (.int a)) : DV K q σ H (tUn (rU fun i => .int (f i)) ta) (.int (f a)) := by
  intro H1 Q s k
  refine ha H1 _ s fun v H2 s2 dq => ?_
  cases dq
  exact ⟨a, rfl, k _ _ s2 (.int _)⟩
theorem dv_eqI {ta tb : TE} {a b : Int} (ha : DV K q σ H ta (.int a)) (hb : DV K q σ H tb (.int b)) : DV K q σ H (tOp rEq ta tb) (.bool (decide (V.int a = V.int b))) := by
  intro H1 Q s k
  refine ha H1 _ s fun v H2 s2 dq => ?_
  refine hb H2 _ (s.trans s2) fun u H3 s3 dq2 => ?_
  cases dq
  cases dq2
  exact ⟨rfl, k _ _ (s2.trans s3) (.bl _)⟩
theorem dv_strI {ta : TE} {a : Int} (ha : DV K q σ H ta (.int a)) (hz : a.natAbs.log2 < 1920) :
    DV K q σ H (tCB (fun xs H Q => ∃ i, xs = [.int i] ∧ i.natAbs.log2 < 1920 ∧ Q (.str (toString i)) H) (tCons ta tNil)) (.str (toString a)) := by
  intro H1 Q s k
  refine ha H1 _ s fun v H2 s2 dq => ?_
  cases dq
  exact ⟨a, rfl, hz, k _ _ s2 (.str _)⟩
theorem dv_not {ta : TE} {b : Bool} (ha : DV K q σ H ta (.bool b)) : DV K q σ H (tNotV ta) (.bool (!b)) := by
  intro H1 Q s k
  refine ha H1 _ s fun v H2 s2 dq => ?_
  cases dq
  exact ⟨b, rfl, k _ _ s2 (.bl _)⟩
theorem dv_intB {ta : TE} {b : Bool} (ha : DV K q σ H ta (.bool b)) :
    DV K q σ H (tCB (fun xs H Q => (∃ i, xs = [V.int i] ∧ Q (V.int i) H) ∨ ∃ k, xs = [V.bl k] ∧ Q (V.int (if k = true then 1 else 0)) H) (tCons ta tNil)) (.int (if b = true then 1 else 0)) := by
  intro H1 Q s k
  refine ha H1 _ s fun v H2 s2 dq => ?_
  cases dq
  exact .inr ⟨b, rfl, k _ _ s2 (.int _)⟩
theorem dv_catS {ta tb : TE} {x y : Str} (ha : DV K q σ H ta (.str x)) (hb : DV K q σ H tb (.str y)) (hz : x.length + y.length ≤ 1000000) :
    DV K q σ H (tOp (fun x y H Q => ∃ i j, x = .str i ∧ y = .str j ∧ i.length + j.length ≤ sizeLine ∧ Q (.str (i ++ j)) H) ta tb) (.str (x ++ y)) := by
  intro H1 Q s k
  refine ha H1 _ s fun v H2 s2 dq => ?_
  refine hb H2 _ (s.trans s2) fun u H3 s3 dq2 => ?_
  cases dq
  cases dq2
  exact ⟨x, y, rfl, rfl, by rw [sizeLine_eq]; omega, k _ _ (s2.trans s3) (.str _)⟩
theorem dv_cutS {te : TE} {tl th : TO} {lo hi : Option Int} {x : Str} (h : DV K q σ H te (.str x)) (hz : x.length ≤ 1000000) (hl : ∀ (H1 : Hp) (R : Option Int → Hp → Prop), R lo H1 → tl σ H1 R) (hh : ∀ (H1 : Hp) (R : Option Int → Hp → Prop), R hi H1 → th σ H1 R) :
    DV K q σ H (tSl rSlS te tl th) (.str (cutS x lo hi)) := by
  intro H1 Q s k
  refine h H1 _ s fun v H2 s2 dq => hl _ _ (hh _ _ ?_)
  cases dq
  exact ⟨x, rfl, by rw [sizeLine_eq]; omega, k _ _ s2 (.str _)⟩
theorem dv_upper {te : TE} {x : Str} (h : DV K q σ H te (.str x)) (hz : x.length ≤ 1000000) :
    DV K q σ H (tM0 (fun x xs H Q => ∃ a, x = .str a ∧ xs = [] ∧ a.length ≤ 5592405 ∧ Q (.str (Txt.upper a)) H) te) (.str (Txt.upper x)) := by
  intro H1 Q s k
  refine h H1 _ s fun v H2 s2 dq => ?_
  cases dq
  exact ⟨⟨x, rfl⟩, x, rfl, rfl, by omega, k _ _ s2 (.str _)⟩
theorem dp_backS {te : TE} {x : Str} {Φ : PyData → Prop} (h : DV K q σ H te (.str x)) (hz : x.length ≤ 1000000) (f : ∀ z : Str, z.length ≤ x.length → (∀ c ∈ z.cps.toList, c ∈ x.cps.toList) → Φ (.str z)) : DP K q σ H (tBackS te) Φ := by
  intro H1 Q s k
  refine h H1 _ s fun v H2 s2 dq => ?_
  cases dq
  exact ⟨x, rfl, by rw [sizeLine_eq]; omega, fun z h1 h2 => k _ _ _ s2 (.str z) (f z h1 h2)⟩
end
/-- of one of them alone -/
theorem Dq.one {K : PySem.W.Frag} {q : Addr → Prop} {H : Hp} {p : Addr} (hp : q p) : ∀ {v : V} {d : PyData}, Dq K q H v d → Wk.Dq K p H v d := by
  intro v d h
  exact Dq.rec (motive_1 := fun v d _ => Wk.Dq K p H v d) (motive_2 := fun vs ds _ => Wk.DqA K p H vs ds)
    .non (fun b => .bl b) (fun i => .int i) (fun x => .str x) (fun e n n2 _ r => .lst e (fun z => n (z ▸ hp)) n2 r) (fun e _ r => .tup e r) (fun e _ _ r1 r2 => .dic e r1 r2) .nil (fun _ _ r t => .cons r t) h
/-- one more -/
theorem Dq.more {K : PySem.W.Frag} {q : Addr → Prop} {H : Hp} {p : Addr} (hp : H p = none) {v : V} {d : PyData} (h : Dq K q H v d) : Dq K (fun x => q x ∨ x = p) H v d :=
  Dq.rec (motive_1 := fun v d _ => Dq K (fun x => q x ∨ x = p) H v d) (motive_2 := fun vs ds _ => DqA K (fun x => q x ∨ x = p) H vs ds)
    .non (fun b => .bl b) (fun i => .int i) (fun x => .str x) (fun e n n2 _ r => .lst e (fun z => z.elim n fun z => by rw [z, hp] at e; cases e) n2 r) (fun e _ r => .tup e r) (fun e _ _ r1 r2 => .dic e r1 r2) .nil (fun _ _ r t => .cons r t) h
theorem Dq.less {K : PySem.W.Frag} {q q' : Addr → Prop} {H : Hp} (hq : ∀ x, q' x → q x) {v : V} {d : PyData} (h : Dq K q H v d) : Dq K q' H v d :=
  Dq.rec (motive_1 := fun v d _ => Dq K q' H v d) (motive_2 := fun vs ds _ => DqA K q' H vs ds)
    .non (fun b => .bl b) (fun i => .int i) (fun x => .str x) (fun e n n2 _ r => .lst e (fun z => n (hq _ z)) n2 r) (fun e _ r => .tup e r) (fun e _ _ r1 r2 => .dic e r1 r2) .nil (fun _ _ r t => .cons r t) h
end Two

abbrev s_law_odd : Stmt := top 45
abbrev N_law_odd : List Str := ["_law_pot_here", "_law_some_here"]
abbrev P_law_odd : List Str := ["_law_pot_here"]
theorem sc_law_odd : FnScope N_law_odd P_law_odd (defScope s_law_odd) := ⟨rfl, rfl, rfl, by decide +kernel, rfl, by decide +kernel, by decide +kernel⟩
theorem bs_law_odd : BindsSt "_law_odd" s_law_odd P_law_odd := fun _ _ _ _ _ _ us hl => match us, hl with | [_], _ => rfl
abbrev s_law_bent : Stmt := top 46
abbrev N_law_bent : List Str := ["_law_pot_here", "_law_value", "_law_at", "_law_some_here"]
abbrev P_law_bent : List Str := ["_law_pot_here", "_law_value"]
theorem sc_law_bent : FnScope N_law_bent P_law_bent (defScope s_law_bent) := ⟨rfl, rfl, rfl, by decide +kernel, rfl, by decide +kernel, by decide +kernel⟩
theorem bs_law_bent : BindsSt "_law_bent" s_law_bent P_law_bent := fun _ _ _ _ _ _ us hl => match us, hl with | [_, _], _ => rfl
def odd0 : List PyData := [.none, .bool true, .bool false, .int 0, .int 1, .int (-1), .int 100000000, .str (Str.ofString ""), .str (Str.ofString "a"), .str (Str.ofString "stays"), .tuple [], .list [], .dict [], .tuple [.tuple []], .tuple [.int 0], .tuple [.str (Str.ofString "")], .list [.int 0], .tuple [.str (Str.ofString "a"), .str (Str.ofString "b")]]
def odd1 : List PyData := [.tuple [.none], .tuple [.str (Str.ofString "stays"), .tuple []], .tuple [.tuple [.str (Str.ofString "stays"), .tuple []]], .tuple [.str (Str.ofString "leaf"), .int 0, .tuple []], .tuple [.str (Str.ofString "fork"), .int 0, .tuple []], .str (Str.ofString "never"), .dict [(.str (Str.ofString "a"), .int 1)], .str (Str.ofString "A")]
def odd2 : List PyData := [.tuple [.str (Str.ofString "wakes"), .tuple [], .str (Str.ofString "a")], .tuple [.tuple [.tuple [], .int 1]], .tuple [.tuple [], .tuple [.str (Str.ofString "a")]]]
mutual
/-- as okD, without dicts -/
def okN : PyData → Bool
  | .none | .bool _ => true
  | .int i => decide (i.natAbs < 2 ^ 100)
  | .str x => x.cps.toList.all (fun c => decide (c < 128))
  | .list xs | .tuple xs => okNA xs
  | .dict _ => false
def okNA : List PyData → Bool
  | [] => true
  | x :: xs => okN x && okNA xs
end
theorem okNA_iff : ∀ {xs : List PyData}, okNA xs = true ↔ ∀ d ∈ xs, okN d = true
  | [] => ⟨fun _ d h => absurd h (by simp), fun _ => rfl⟩
  | x :: xs => by
    simp only [okNA, Bool.and_eq_true, List.mem_cons, forall_eq_or_imp]
    rw [okNA_iff]
mutual
theorem okN_ok : ∀ {d : PyData}, okN d = true → okD d = true
  | .none, _ => rfl
  | .bool _, _ => rfl
  | .int _, h => h
  | .str _, h => h
  | .list xs, h => okNA_ok (xs := xs) h
  | .tuple xs, h => okNA_ok (xs := xs) h
  | .dict _, h => by simp [okN] at h
theorem okNA_ok : ∀ {xs : List PyData}, okNA xs = true → okA xs = true
  | [], _ => rfl
  | x :: xs, h => by
    simp only [okNA, Bool.and_eq_true] at h
    simp only [okA, Bool.and_eq_true]
    exact ⟨okN_ok h.1, okNA_ok h.2⟩
end
mutual
theorem okN_lay : ∀ {d : PyData}, okN d = true → d.canLay0 = true
  | .none, _ => by simp [PyData.canLay0]
  | .bool _, _ => by simp [PyData.canLay0]
  | .int _, _ => by simp [PyData.canLay0]
  | .str x, h => by
    simp only [PyData.canLay0]
    unfold PyData.strOk
    rw [← Array.all_toList, List.all_eq_true]
    intro c hc
    have := List.all_eq_true.mp h c hc
    have := of_decide_eq_true this
    exact decide_eq_true (by omega)
  | .list xs, h => by simp only [PyData.canLay0]; exact okNA_lay (xs := xs) h
  | .tuple xs, h => by simp only [PyData.canLay0]; exact okNA_lay (xs := xs) h
  | .dict _, h => by simp [okN] at h
theorem okNA_lay : ∀ {xs : List PyData}, okNA xs = true → PyData.canLayAll0 xs = true
  | [], _ => by simp [PyData.canLayAll0]
  | x :: xs, h => by
    simp only [okNA, Bool.and_eq_true] at h
    simp only [PyData.canLayAll0, Bool.and_eq_true]
    exact ⟨okN_lay h.1, okNA_lay h.2⟩
end
mutual
/-- of tuples, texts, ints and bools -/
def tB : PyData → Bool
  | .tuple xs => tA xs
  | .str _ | .int _ | .bool _ => true
  | .none | .list _ | .dict _ => false
def tA : List PyData → Bool
  | [] => true
  | x :: xs => tB x && tA xs
end
theorem tA_mem : ∀ {xs : List PyData}, tA xs = true → ∀ d ∈ xs, tB d = true
  | [], _, d, h => absurd h (by simp)
  | x :: xs, h, d, hd => by
    simp only [tA, Bool.and_eq_true] at h
    rcases List.mem_cons.mp hd with e | hd
    · rw [e]
      exact h.1
    · exact tA_mem h.2 d hd
/-- without dicts, or one -/
def ndB : PyData → Bool
  | .dict _ => true
  | d => okN d
namespace Two
local macro_rules | `(tactic| walk_at "de1") => `(tactic| first
  | exact de_non | exact de_bl _ | exact de_int _ | exact de_str _ | exact da_nil | exact de_dnew | exact de_disp1
  | exact de_opI ⟨by decide, by decide, by decide⟩ (by decide +kernel) | exact de_unI (by decide)
  | (refine' da_cons ?_ ?_) | (refine' de_tup ?_ (by decide)) | (refine' de_lst ?_ (by decide)))
local macro_rules | `(tactic| walk_at "de") => `(tactic| repeat' (walk_at "de1"))
def OkV (K : PySem.W.Frag) (q : Addr → Prop) (H : Hp) (v : V) (m n : Nat) : Prop := ∃ d, Dq K q H v d ∧ okD d = true ∧ szD d ≤ m ∧ d.depth ≤ n
def OkW (K : PySem.W.Frag) (q : Addr → Prop) (H : Hp) (v : V) (m n : Nat) : Prop := ∃ d, Dq K q H v d ∧ okD d = true ∧ szD d ≤ m ∧ d.depth ≤ n ∧ inB d = true ∧ ndB d = true
def spOdd (K : PySem.W.Frag) : Sp := fun vs H Q _ => ∃ (q : Addr) (n : Nat) (G : Addr → Prop), vs = [.ref q] ∧ PotAt H q n ∧ n ≤ 1000000 ∧ G q ∧ (∀ x, G x → ∃ o, H x = some o) ∧
  ∀ (H' : Hp) (v : V), OkW K G H' v 200 3 → HS q H H' → PotAt H' q (n + 1) → Q v H'
theorem odd_ok : ∀ d ∈ (odd0 ++ odd1) ++ odd2, okD d = true ∧ szD d ≤ 200 ∧ d.depth ≤ 3 ∧ inB d = true ∧ ndB d = true := by
  decide +kernel
section
variable {P : Program} {w : World} {K : PySem.W.Frag} {mg : Str → Option Value} {base : Heap}
theorem ok_odd (F : FunAt K mg "_law_odd" s_law_odd) (T : Txt mg) (D_law_of : Def P w K mg base 2 "_law_of" P_law_of (spOf K)) : Def P w K mg base 3 "_law_odd" P_law_odd (spOdd K) := by
  refine def_of F sc_law_odd bs_law_odd (fun vs H Q E h => ?_) fun f cdv A outer s H vs Q E hr h => ?_
  · obtain ⟨q, n, G, rfl, _⟩ := h
    rfl
  · refine ⟨_, (pss_cons (ps_set (i := 1) sc_law_odd.nd rfl (by first | exact Or.inl rfl | exact Or.inr rfl) (pe_lstN (pa_cons pe_non (pa_cons pe_bl (pa_cons pe_bl (pa_cons pe_int (pa_cons pe_int (pa_cons (pe_un un_neg pe_int) (pa_cons (pe_op op_pow pe_int pe_int) (pa_cons pe_str (pa_cons pe_str (pa_cons pe_str (pa_cons (pe_tup pa_nil) (pa_cons (pe_lstN pa_nil) (pa_cons pe_dnewK (pa_cons (pe_tup (pa_cons (pe_tup pa_nil) pa_nil)) (pa_cons (pe_tup (pa_cons pe_int pa_nil)) (pa_cons (pe_tup (pa_cons pe_str pa_nil)) (pa_cons (pe_lstN (pa_cons pe_int pa_nil)) (pa_cons (pe_tup (pa_cons pe_str (pa_cons pe_str pa_nil))) pa_nil))))))))))))))))))))
  (pss_cons (ps_set (i := 1) sc_law_odd.nd rfl (by first | exact Or.inl rfl | exact Or.inr rfl) (pe_op op_cat (pv 1) (pe_lstN (pa_cons (pe_tup (pa_cons pe_non pa_nil)) (pa_cons (pe_tup (pa_cons pe_str (pa_cons (pe_tup pa_nil) pa_nil))) (pa_cons (pe_tup (pa_cons (pe_tup (pa_cons pe_str (pa_cons (pe_tup pa_nil) pa_nil))) pa_nil)) (pa_cons (pe_tup (pa_cons pe_str (pa_cons pe_int (pa_cons (pe_tup pa_nil) pa_nil)))) (pa_cons (pe_tup (pa_cons pe_str (pa_cons pe_int (pa_cons (pe_tup pa_nil) pa_nil)))) (pa_cons pe_str (pa_cons (pe_disp (pps_cons pe_str pe_int pps_nil) rfl rfl (by simp) (by decide)) (pa_cons pe_str pa_nil)))))))))))
  (pss_one (ps_ret (pe_d D_law_of (hr.mono (by omega)) (pa_cons (pv 0) (pa_cons (pe_op op_cat (pv 1) (pe_lstN (pa_cons (pe_tup (pa_cons pe_str (pa_cons (pe_tup pa_nil) (pa_cons pe_str pa_nil)))) (pa_cons (pe_tup (pa_cons (pe_tup (pa_cons (pe_tup pa_nil) (pa_cons pe_int pa_nil))) pa_nil)) (pa_cons (pe_tup (pa_cons (pe_tup pa_nil) (pa_cons (pe_tup (pa_cons pe_str pa_nil)) pa_nil))) pa_nil))))) pa_nil))))))), ?_⟩
    obtain ⟨q, n, G, rfl, hp, hn, hGq, hG, go⟩ := h
    have occ : ∀ {H' : Hp}, Same H H' → ∀ x, G x → ∃ o, H' x = some o := fun {H'} s x hx => by
      obtain ⟨o, ho⟩ := hG x hx
      exact ⟨o, s _ _ ho⟩
    obtain ⟨own, b, k, e, hp0⟩ := hp
    refine w_seq (w_asg ?_)
    refine' (de_lst (K := K) (q := G) (ds := odd0) ?h (by decide)) _ _ _ hG (fun v H1 s1 d1 => ?_)
    (case h => walk_at "de")
    cases d1 with
    | @lst l1 xs1 _ a1 a2 a3 a4 =>
    walk_at "v"
    refine' (de_lst (K := K) (q := G) (ds := odd1) ?h (by decide)) _ _ _ (occ s1) (fun v H2 s2 d2 => ?_)
    (case h => walk_at "de")
    cases d2 with
    | @lst l2 xs2 _ b1 b2 b3 b4 =>
    refine w_cat (s2 _ _ a1) b1 (by rw [a4.length, b4.length]; decide) fun p hp => ?_
    have c4 := (a4.same s2).append b4
    have s3 : Same H (upd H2 p (.lst (xs1 ++ xs2))) := same_upd (s1.trans s2) hp
    walk_at "v"
    refine' (de_lst (K := K) (q := G) (ds := odd2) ?h (by decide)) _ _ _ (occ s3) (fun v H4 s4 d4 => ?_)
    (case h => walk_at "de")
    cases d4 with
    | @lst l3 xs3 _ e1 e2 e3 e4 =>
    refine w_cat (s4 _ _ upd_same) e1 (by rw [c4.length, e4.length]; decide) fun p2 hp2 => ?_
    have f4 := ((c4.same (same_upd (Same.refl _) hp)).same s4).append e4
    have s5 : Same H (upd H4 p2 (.lst ((xs1 ++ xs2) ++ xs3))) := same_upd (s3.trans s4) hp2
    have hlen := f4.length
    walk_at "w"
    refine ⟨q, p2, _, n, rfl, .inl ⟨SqL.of upd_same, Ne.symm (ne_of_none (s3.trans s4 _ _ e) hp2)⟩, ?_, ?_, ⟨own, b, k, s5 _ _ e, hp0⟩, hn, fun H' v hv hH hp' => ?_⟩
    · intro z
      rw [z] at hlen
      exact absurd hlen (by decide)
    · rw [hlen]
      decide
    · obtain ⟨d, hd, dq⟩ := (f4.same (same_upd (Same.refl _) hp2)).mem hv
      obtain ⟨o1, o2, o3, o4⟩ := odd_ok d hd
      exact go H' v ⟨d, dq.mono hGq hH (s5 _ _ e), o1, o2, o3, o4⟩ ((HS.same s5).trans hH) hp'
end
end Two

namespace Two
def OkVN (K : PySem.W.Frag) (G : Addr → Prop) (H : Hp) (v : V) (m n : Nat) : Prop := ∃ d, Dq K G H v d ∧ okN d = true ∧ szD d ≤ m ∧ d.depth ≤ n
def spBent (K : PySem.W.Frag) : Nat → Sp
  | 0 => fun _ _ _ _ => False
  | k + 1 => fun vs H Q _ => ∃ (q : Addr) (v : V) (d : PyData) (n : Nat) (G : Addr → Prop), vs = [.ref q, v] ∧ G q ∧ (∀ x, G x → ∃ o, H x = some o) ∧ Dq K G H v d ∧ okN d = true ∧ inB d = true ∧ tB d = true ∧ d.depth ≤ k ∧ szD d ≤ 100000 ∧ PotAt H q n ∧ n + 2 * k ≤ 900000 ∧
    ∀ (H' : Hp) (v' : V), OkVN K G H' v' (3 * szD d + 400) (k + 3) → HS q H H' → PotAt H' q (n + 2 * k + 4) → Q v' H'
def Fit (m n : Nat) (d : PyData) : Prop := okN d = true ∧ szD d ≤ m ∧ d.depth ≤ n
theorem of_fin {K : PySem.W.Frag} {q p : Addr} {G : Addr → Prop} (hGq : G q) {H : Hp} {Q : VK} {E : XK} {vs : List V} {ds : List PyData} {m M N : Nat} (hp : H p = some (.lst vs)) (hpq : p ≠ q) (dqs : DqA K G H vs ds) (fs : ∀ d ∈ ds, Fit M N d) (h0 : 0 < ds.length) (h1 : ds.length ≤ 1000)
    (pot : PotAt H q m) (hm : m ≤ 1000000) (k : ∀ (H' : Hp) (v : V), OkVN K G H' v M N → HS q H H' → PotAt H' q (m + 1) → Q v H') : spOf K [.ref q, .ref p] H Q E := by
  have hl := dqs.length
  obtain ⟨own, b, c, e, r⟩ := id pot
  refine ⟨q, p, vs, m, rfl, .inl ⟨.of hp, hpq⟩, fun z => ?_, by omega, pot, hm, fun H' v hv hH hp' => ?_⟩
  · rw [z] at hl
    have : ([] : List V).length = 0 := rfl
    omega
  · obtain ⟨d, hd, dq⟩ := dqs.mem hv
    exact k H' v ⟨d, dq.mono hGq hH e, (fs d hd).1, (fs d hd).2.1, (fs d hd).2.2⟩ hH hp'
theorem opt_fin {K : PySem.W.Frag} {q : Addr} {G : Addr → Prop} {σ σ' : L2.St} {H : Hp} {Q : VK} {E : XK} {ta : TA} {n m M N : Nat} (hGq : G q) (A : DPA K G σ H ta (Fit M N) n) (h0 : 0 < n) (h1 : n ≤ 1000) (pot : PotAt H q m) (hm : m ≤ 1000000)
    (k : ∀ (H' : Hp) (v : V), OkVN K G H' v M N → HS q H H' → PotAt H' q (m + 1) → Q v H') : tLstN ta σ H fun x H1 => tNil σ' H1 fun xs H2 => spOf K (V.ref q :: x :: xs ++ []) H2 Q E := by
  refine A H _ (Same.refl H) fun vs H2 ds s2 dqs fs hn => ⟨by rw [dqs.length, sizeLine_eq]; omega, fun p hp hms => ?_⟩
  obtain ⟨own, b, c, e, r⟩ := id pot
  have s3 : Same H (upd H2 p (.lst vs)) := same_upd s2 hp
  show spOf K [V.ref q, V.ref p] (upd H2 p (.lst vs)) Q E
  refine of_fin hGq (ds := ds) upd_same (Ne.symm (ne_of_none (s2 _ _ e) hp)) (dqs.same (same_upd (Same.refl _) hp)) fs (by omega) (by omega) ⟨own, b, c, s3 _ _ e, r⟩ hm fun H' v hv hH hp' => ?_
  exact k H' v hv ((HS.same s3).trans hH) hp'
theorem upper_low {x : Str} (h : ∀ c ∈ x.cps.toList, c < 128) : ∀ c ∈ (Txt.upper x).cps.toList, c < 128 := by
  have all : (List.range 128).all (fun c => (Unicode.upperOf c).all fun e => decide (e < 128)) = true := by decide +kernel
  intro c hc
  have hc' : c ∈ ((x.cps.mapIdx fun _ c => (Unicode.upperOf c).toArray).flatten).toList := hc
  rw [Array.mem_toList_iff, Array.mem_flatten] at hc'
  obtain ⟨l, hl, hcl⟩ := hc'
  obtain ⟨i, hi, e⟩ := Array.mem_mapIdx.mp hl
  rw [← e] at hcl
  have h1 := h x.cps[i] (Array.mem_toList_iff.mpr (Array.getElem_mem hi))
  have h2 := List.all_eq_true.mp (List.all_eq_true.mp all x.cps[i] (List.mem_range.mpr h1)) c (by simpa using hcl)
  exact of_decide_eq_true h2
theorem fit_non {m n : Nat} (h : 5 ≤ m) : Fit m n .none := ⟨rfl, h, Nat.zero_le _⟩
theorem fit_bool {m n : Nat} (h : 5 ≤ m) (b : Bool) : Fit m n (.bool b) := ⟨rfl, h, Nat.zero_le _⟩
theorem fit_int {m n : Nat} (h : 110 ≤ m) {i : Int} (hi : i.natAbs < 2 ^ 100) : Fit m n (.int i) := ⟨decide_eq_true hi, h, Nat.zero_le _⟩
theorem fit_str {m n : Nat} {x : Str} (h : 10 * x.length + 2 ≤ m) (hx : ∀ c ∈ x.cps.toList, c < 128) : Fit m n (.str x) := ⟨List.all_eq_true.mpr fun c hc => decide_eq_true (hx c hc), h, Nat.zero_le _⟩
theorem fit_seq {es : List PyData} {M N : Nat} (h1 : ∀ d ∈ es, okN d = true) (h2 : szA es + 3 ≤ M) (h3 : ∀ d ∈ es, d.depth + 1 ≤ N) (h4 : 1 ≤ N) : Fit M N (.tuple es) ∧ Fit M N (.list es) := by
  have hA : okNA es = true := okNA_iff.mpr h1
  have hD : PyData.depthAll es ≤ N - 1 := depthAll_le.mpr fun d hd => by
    have := h3 d hd
    omega
  have e1 : (PyData.tuple es).depth = PyData.depthAll es + 1 := by simp only [PyData.depth]
  have e2 : (PyData.list es).depth = PyData.depthAll es + 1 := by simp only [PyData.depth]
  exact ⟨⟨hA, h2, by omega⟩, ⟨hA, h2, by omega⟩⟩
def optsT (K : PySem.W.Frag) : TA :=
  tCons (tCB (fun xs H Q => ∃ p ys, xs = [V.ref p] ∧ (SqL K H p ys ∨ SqT K H p ys) ∧ ∀ l, H l = none → l ≠ sysModules → Q (V.ref l) (upd H l (.lst ys))) (tCons (tVar 1) tNil))
    (tCons (tSl (rSlA K) (tVar 1) (tPart (tC (.int 1))) tNoPart) (tCons (tSl (rSlA K) (tVar 1) tNoPart (tPart (tUn (rU fun i => .int (-i)) (tC (.int 1)))))
    (tCons (tOp (rCatA K) (tVar 1) (tSl (rSlA K) (tVar 1) (tPart (tUn (rU fun i => .int (-i)) (tC (.int 1)))) tNoPart)) (tCons (tBackT K (tVar 1)) (tCons (tTup tNil)
    (tCons (tOp (rCatA K) (tVar 1) (tTup (tCons (tC (.int 0)) tNil))) (tCons (tC .non) tNil)))))))
section
variable {P : Program} {w : World} {K : PySem.W.Frag} {mg : Str → Option Value} {base : Heap}
theorem bent_step (F : FunAt K mg "_law_bent" s_law_bent) (T : Txt mg) (D_law_take : Def P w K mg base 1 "_law_take" P_law_take spTake) (D_law_of : Def P w K mg base 2 "_law_of" P_law_of (spOf K))
    (D_law_odd : Def P w K mg base 3 "_law_odd" P_law_odd (spOdd K)) (k : Nat) (D_law_bent : Def P w K mg base (3 + k) "_law_bent" P_law_bent (spBent K k)) :
    Def P w K mg base (3 + k + 1) "_law_bent" P_law_bent (spBent K (k + 1)) := by
  refine def_of F sc_law_bent bs_law_bent (fun vs H Q E h => ?_) fun f cdv A outer s H vs Q E hr h => ?_
  · obtain ⟨q, v, d, n, G, rfl, _⟩ := h
    rfl
  · refine ⟨_, (pss_cons (ps_if (PW.pt (pw_and (pt_val (pe_callB call_isi (by rfl) T.n_isinstance (by decide +kernel) (pa_cons (pv 1) (pa_cons (pe_bltn (v := .ty "tuple") (by rfl) T.n_tuple (by decide +kernel) rfl) pa_nil)))) (pw_and (pt_cmpR (op_neE (hu_of hr)) (pv 1) (pe_tup pa_nil) (nomark _)) (pw_and1 (pt_cmpR op_gt (pe_d D_law_take (hr.mono (by omega)) (pa_cons (pv 0) (pa_cons pe_int pa_nil))) pe_int (nomark _)))))) (pss_cons (ps_set (i := 2) sc_law_bent.nd rfl (by first | exact Or.inl rfl | exact Or.inr rfl) (pe_d D_law_take (hr.mono (by omega)) (pa_cons (pv 0) (pa_cons (pe_callB call_len (by rfl) T.n_len PySem.boot_len (pa_cons (pv 1) pa_nil)) pa_nil))))
  (pss_one (ps_ret (pe_op op_catA (pe_op op_catA (pe_slice sl_tupA (pv 1) po_none (po_some (pv 2))) (pe_tup (pa_cons (pe_d D_law_bent (hr.mono (by omega)) (pa_cons (pv 0) (pa_cons (pe_ix ix_tup (pv 1) (pv 2) (fun _ _ => rfl)) pa_nil))) pa_nil))) (pe_slice sl_tupA (pv 1) (po_some (pe_op op_add (pv 2) pe_int)) po_none))))) pss_nil)
  (pss_cons (ps_if (pt_val (pe_callB call_isi (by rfl) T.n_isinstance (by decide +kernel) (pa_cons (pv 1) (pa_cons (pe_bltn (v := .ty "tuple") (by rfl) T.n_tuple (by decide +kernel) rfl) pa_nil)))) (pss_cons (ps_set (i := 3) sc_law_bent.nd rfl (by first | exact Or.inl rfl | exact Or.inr rfl) (pe_lstN (pa_cons (pe_callTy call_listN (by rfl) T.n_list (by decide +kernel) (pa_cons (pv 1) pa_nil)) (pa_cons (pe_slice sl_tupA (pv 1) (po_some pe_int) po_none) (pa_cons (pe_slice sl_tupA (pv 1) po_none (po_some (pe_un un_neg pe_int))) (pa_cons (pe_op op_catA (pv 1) (pe_slice sl_tupA (pv 1) (po_some (pe_un un_neg pe_int)) po_none)) (pa_cons (pe_backT (pv 1)) (pa_cons (pe_tup pa_nil) (pa_cons (pe_op op_catA (pv 1) (pe_tup (pa_cons pe_int pa_nil))) (pa_cons pe_non pa_nil))))))))))
  (pss_one (ps_ret (pe_d D_law_of (hr.mono (by omega)) (pa_cons (pv 0) (pa_cons (pv 3) pa_nil)))))) pss_nil)
  (pss_cons (ps_if (pt_val (pe_callB call_isi (by rfl) T.n_isinstance (by decide +kernel) (pa_cons (pv 1) (pa_cons (pe_bltn (v := .ty "bool") (by rfl) T.n_bool (by decide +kernel) rfl) pa_nil)))) (pss_one (ps_ret (pe_d D_law_of (hr.mono (by omega)) (pa_cons (pv 0) (pa_cons (pe_lstN (pa_cons (pe_not (pv 1)) (pa_cons (pe_callTy call_int1 (by rfl) T.n_int (by decide +kernel) (pa_cons (pv 1) pa_nil)) (pa_cons pe_non pa_nil)))) pa_nil))))) pss_nil)
  (pss_cons (ps_if (pt_val (pe_callB call_isi (by rfl) T.n_isinstance (by decide +kernel) (pa_cons (pv 1) (pa_cons (pe_bltn (v := .ty "int") (by rfl) T.n_int (by decide +kernel) rfl) pa_nil)))) (pss_one (ps_ret (pe_d D_law_of (hr.mono (by omega)) (pa_cons (pv 0) (pa_cons (pe_lstN (pa_cons (pe_op op_add (pv 1) pe_int) (pa_cons (pe_op op_sub (pv 1) pe_int) (pa_cons (pe_cmpR op_eq (pv 1) pe_int (nomark _)) (pa_cons (pe_callTy call_str_int (by rfl) T.n_str (by decide +kernel) (pa_cons (pv 1) pa_nil)) (pa_cons pe_non (pa_cons (pe_un un_neg (pv 1)) (pa_cons (pe_op op_add (pv 1) pe_int) (pa_cons (pe_tup (pa_cons (pv 1) pa_nil)) pa_nil))))))))) pa_nil))))) pss_nil)
  (pss_cons (ps_if (pt_val (pe_callB call_isi (by rfl) T.n_isinstance (by decide +kernel) (pa_cons (pv 1) (pa_cons (pe_bltn (v := .ty "str") (by rfl) T.n_str (by decide +kernel) rfl) pa_nil)))) (pss_one (ps_ret (pe_d D_law_of (hr.mono (by omega)) (pa_cons (pv 0) (pa_cons (pe_lstN (pa_cons (pe_op op_add_str (pv 1) pe_str) (pa_cons (pe_slice sl_str (pv 1) po_none (po_some (pe_un un_neg pe_int))) (pa_cons (pe_backS (pv 1)) (pa_cons (pe_upper (pv 1)) (pa_cons (pe_lstN (pa_cons (pv 1) pa_nil)) (pa_cons pe_str (pa_cons pe_str (pa_cons pe_non (pa_cons pe_int pa_nil)))))))))) pa_nil))))) pss_nil)
  (pss_one (ps_ret (pe_d D_law_odd (hr.mono (by omega)) (pa_cons (pv 0) pa_nil))))))))), ?_⟩
    obtain ⟨q, v, d, n, G, rfl, hGq, hG, hd, ok, inb, tb, hdep, hsz, pot, hn, go⟩ := h
    have hd0 := hd
    have occ : ∀ {H' : Hp}, HS q H H' → (∃ o, H' q = some o) → ∀ x, G x → ∃ o, H' x = some o := fun {H'} s hq x hx => by
      by_cases z : x = q
      · rw [z]
        exact hq
      · obtain ⟨o, ho⟩ := hG x hx
        exact ⟨o, s _ _ z ho⟩
    cases hd with
    | non => exact absurd tb (by simp [tB])
    | lst a1 a2 a3 a4 => exact absurd tb (by simp [tB])
    | dic a1 a2 a3 => exact absurd tb (by simp [tB])
    | bl b =>
      walk_at "v"
      refine w_isT false hd0 (by kernel_rfl) ?_
      walk_at "v"
      refine w_isT false hd0 (by kernel_rfl) ?_
      walk_at "v"
      refine w_isT true hd0 (by kernel_rfl) ?_
      walk_at "v"
      have w0 : DV K G (L2.start N_law_bent [V.ref q, V.bl b]) H (tVar 1) (.bool b) := dv_var rfl hd0
      have z0 : szD (.bool b) = 5 := rfl
      refine' opt_fin hGq (n := 3) (m := n) (M := 3 * szD (.bool b) + 400) (N := k + 3) ?A (by decide) (by decide) pot (by omega) (fun H' v hv hH hp' => go H' v hv hH (hp'.mono (by omega)))
      refine' dpa_cons ((dv_not w0).dp ?_) (dpa_cons ((dv_intB w0).dp ?_) (dpa_cons (dv_non.dp ?_) dpa_nil))
      · exact fit_bool (by omega) _
      · exact fit_int (by omega) (by cases b <;> decide)
      · exact fit_non (by omega)
    | int i => 
      walk_at "v"
      refine w_isT false hd0 (by kernel_rfl) ?_
      walk_at "v"
      refine w_isT false hd0 (by kernel_rfl) ?_
      walk_at "v"
      refine w_isT false hd0 (by kernel_rfl) ?_
      walk_at "v"
      refine w_isT true hd0 (by kernel_rfl) ?_
      walk_at "v"
      have w0 : DV K G (L2.start N_law_bent [V.ref q, V.int i]) H (tVar 1) (.int i) := dv_var rfl hd0
      have hi : i.natAbs < 2 ^ 64 := of_decide_eq_true inb
      have hl : i.natAbs.log2 < 1920 := log2_small (by omega)
      have z0 : szD (.int i) = 110 := rfl
      refine' opt_fin hGq (n := 8) (m := n) (M := 3 * szD (.int i) + 400) (N := k + 3) ?B (by decide) (by decide) pot (by omega) (fun H' v hv hH hp' => go H' v hv hH (hp'.mono (by omega)))
      refine' dpa_cons ((dv_I0 w0 (dv_int 1)).dp ?_) (dpa_cons ((dv_I0 w0 (dv_int 1)).dp ?_) (dpa_cons ((dv_eqI w0 (dv_int 1)).dp ?_) (dpa_cons ((dv_strI w0 hl).dp ?_) (dpa_cons (dv_non.dp ?_)
        (dpa_cons ((dv_U w0).dp ?_) (dpa_cons ((dv_I0 w0 (dv_int 7)).dp ?_) (dpa_cons ((dv_tup1 w0).dp ?_) dpa_nil)))))))
      · exact fit_int (by omega) (by omega)
      · exact fit_int (by omega) (by omega)
      · exact fit_bool (by omega) _
      · refine fit_str ?_ (fun c hc => ?_)
        · have := int_text_length_le (a := i) (k := 64) (by decide) (by
            by_cases e : i.natAbs = 0
            · rw [e]
              decide
            · exact (Nat.log2_lt e).mpr hi)
          rw [PySem.ofString_length]
          omega
        · by_cases h : c < 128
          · exact h
          · exact absurd hc (int_text_free' c ⟨by omega, by omega⟩ i)
      · exact fit_non (by omega)
      · exact fit_int (by omega) (by omega)
      · exact fit_int (by omega) (by omega)
      · exact ⟨by simp only [okN, okNA, Bool.and_true]; exact ok, by simp only [szD, szA]; omega, by simp only [PyData.depth, PyData.depthAll]; omega⟩
    | str x =>
      walk_at "v"
      refine w_isT false hd0 (by kernel_rfl) ?_
      walk_at "v"
      refine w_isT false hd0 (by kernel_rfl) ?_
      walk_at "v"
      refine w_isT false hd0 (by kernel_rfl) ?_
      walk_at "v"
      refine w_isT false hd0 (by kernel_rfl) ?_
      walk_at "v"
      refine w_isT true hd0 (by kernel_rfl) ?_
      walk_at "v"
      have w0 : DV K G (L2.start N_law_bent [V.ref q, V.str x]) H (tVar 1) (.str x) := dv_var rfl hd0
      have hx : ∀ c ∈ x.cps.toList, c < 128 := fun c hc => of_decide_eq_true (List.all_eq_true.mp ok c hc)
      have z0 : szD (.str x) = 10 * x.length + 2 := rfl
      have hq : ∃ o, H q = some o := by
        obtain ⟨own, b, c, e, _⟩ := id pot
        exact ⟨_, e⟩
      refine' opt_fin hGq (n := 9) (m := n) (M := 3 * szD (.str x) + 400) (N := k + 3) ?C (by decide) (by decide) pot (by omega) (fun H' v hv hH hp' => go H' v hv hH (hp'.mono (by omega)))
      refine' dpa_cons ((dv_catS w0 (dv_str _) ?_).dp ?_) (dpa_cons ((dv_cutS w0 ?_ lo_non (lo_neg 1)).dp ?_) (dpa_cons (dp_backS w0 ?_ ?_) (dpa_cons ((dv_upper w0 ?_).dp ?_)
        (dpa_cons ((dv_lst1 hG w0).dp ?_) (dpa_cons ((dv_str _).dp ?_) (dpa_cons ((dv_str _).dp ?_) (dpa_cons (dv_non.dp ?_) (dpa_cons ((dv_int 0).dp ?_) dpa_nil))))))))
      · have : (Str.ofString "x").length = 1 := by decide
        omega
      · have : (Str.ofString "x").length = 1 := by decide
        refine fit_str (by rw [strLen_append]; omega) fun c hc => ?_
        have hc' : c ∈ x.cps.toList ++ (Str.ofString "x").cps.toList := by
          rw [← Array.toList_append]
          exact hc
        rcases List.mem_append.mp hc' with h | h
        · exact hx c h
        · exact of_decide_eq_true (List.all_eq_true.mp (show (Str.ofString "x").cps.toList.all (fun c => decide (c < 128)) = true by decide) c h)
      · omega
      · have := cutS_length x none (some (-1))
        refine fit_str (by omega) fun c hc => hx c ?_
        have hc' : c ∈ ((x.cps.toList.drop (HT.sIx x.length 0 none)).take (HT.sIx x.length x.length (some (-1)) - HT.sIx x.length 0 none)).toArray.toList := hc
        rw [List.toList_toArray] at hc'
        exact List.mem_of_mem_drop (List.mem_of_mem_take hc')
      · omega
      · intro z h1 h2
        exact fit_str (by omega) fun c hc => hx c (h2 c hc)
      · omega
      · have := len_upper x
        exact fit_str (by omega) (upper_low hx)
      · exact ⟨by simp only [okN, okNA, Bool.and_true]; exact ok, by simp only [szD, szA]; omega, by simp only [PyData.depth, PyData.depthAll]; omega⟩
      · exact ⟨by decide, Nat.le_trans (by decide) (show 52 ≤ 3 * szD (.str x) + 400 by omega), Nat.zero_le _⟩
      · exact ⟨by decide, Nat.le_trans (by decide) (show 52 ≤ 3 * szD (.str x) + 400 by omega), Nat.zero_le _⟩
      · exact fit_non (by omega)
      · exact fit_int (by omega) (by decide)
    | @tup a xs ds a1 a2 =>
      have hlen := a2.length
      have hq : ∃ l, H q = some (.lst l) := by
        obtain ⟨own, b, c, e, _⟩ := id pot
        exact ⟨_, e⟩
      obtain ⟨lq, eq0⟩ := hq
      have okA' : ∀ d ∈ ds, okN d = true := okNA_iff.mp ok
      have dep' : ∀ d ∈ ds, d.depth + 1 ≤ k := by
        have e : (PyData.tuple ds).depth = PyData.depthAll ds + 1 := by simp only [PyData.depth]
        have h : PyData.depthAll ds ≤ k - 1 := by omega
        intro d hd
        have := depthAll_le.mp h d hd
        omega
      have z0 : szD (.tuple ds) = szA ds + 3 := rfl
      have lsz : ∀ {es : List PyData}, es.length ≤ szA es := fun {es} => by
        induction es with
        | nil => exact Nat.zero_le _
        | cons d es ih =>
          simp only [szA, List.length_cons]
          omega
      have lds := lsz (es := ds)
      have opts : ∀ {HB : Hp}, (∀ x, G x → ∃ o, HB x = some o) → DV K G (L2.start N_law_bent [V.ref q, V.ref a]) HB (tVar 1) (.tuple ds) → DPA K G (L2.start N_law_bent [V.ref q, V.ref a]) HB (optsT K) (Fit (3 * szD (.tuple ds) + 400) (k + 3)) 8 := by
        intro HB hqB w0
        refine dpa_cons ((dv_list hqB w0).dp ?_) (dpa_cons ((dv_slice w0 (lo_int 1) lo_non).dp ?_) (dpa_cons ((dv_slice w0 lo_non (lo_neg 1)).dp ?_) (dpa_cons ((dv_cat w0 (dv_slice w0 (lo_neg 1) lo_non) ?_).dp ?_)
          (dpa_cons ((dv_back w0).dp ?_) (dpa_cons (dv_tup0.dp ?_) (dpa_cons ((dv_cat w0 (dv_tup1 (dv_int 0)) ?_).dp ?_) (dpa_cons (dv_non.dp ?_) dpa_nil)))))))
        · exact (fit_seq okA' (by omega) (fun d hd => by have := dep' d hd; omega) (by omega)).2
        · have := cutD_szA ds (some 1) none
          exact (fit_seq (fun d hd => okA' d (cutD_mem hd)) (by omega) (fun d hd => by have := dep' d (cutD_mem hd); omega) (by omega)).1
        · have := cutD_szA ds none (some (-1))
          exact (fit_seq (fun d hd => okA' d (cutD_mem hd)) (by omega) (fun d hd => by have := dep' d (cutD_mem hd); omega) (by omega)).1
        · have := cutD_szA ds (some (-1)) none
          have := lsz (es := cutD ds (some (-1)) none)
          omega
        · have := cutD_szA ds (some (-1)) none
          refine (fit_seq (fun d hd => ?_) (by rw [szA_append]; omega) (fun d hd => ?_) (by omega)).1
          · rcases List.mem_append.mp hd with h | h
            · exact okA' d h
            · exact okA' d (cutD_mem h)
          · rcases List.mem_append.mp hd with h | h
            · have := dep' d h
              omega
            · have := dep' d (cutD_mem h)
              omega
        · exact (fit_seq (fun d hd => okA' d (List.mem_reverse.mp hd)) (by rw [szA_rev]; omega) (fun d hd => by have := dep' d (List.mem_reverse.mp hd); omega) (by omega)).1
        · exact (fit_seq (fun d hd => absurd hd (by simp)) (by simp only [szA]; omega) (fun d hd => absurd hd (by simp)) (by omega)).1
        · show ds.length + 1 ≤ 1000000
          omega
        · refine (fit_seq (fun d hd => ?_) (by rw [szA_append]; simp only [szA, szD]; omega) (fun d hd => ?_) (by omega)).1
          · rcases List.mem_append.mp hd with h | h
            · exact okA' d h
            · rw [List.mem_singleton.mp h]
              decide
          · rcases List.mem_append.mp hd with h | h
            · have := dep' d h
              omega
            · rw [List.mem_singleton.mp h]
              simp only [PyData.depth]
              omega
        · exact fit_non (by omega)
      walk_at "v"
      refine w_isT true hd0 (by kernel_rfl) ?_
      walk_at "v"
      refine dv_tup0 (K := K) (q := G) (H := H) H _ (Same.refl H) fun u H0 s0 dq0 => ?_
      cases dq0 with
      | tup e0 r0 =>
      cases r0
      refine w_neE (Same.sqT s0 a1) e0 ?_
      walk_at "v"
      refine iteB (fun hne => ?_) (fun hne => ?_)
      · walk_at "v"
        refine ⟨q, 6, n, rfl, by decide, by decide, pot.same s0, by omega, fun H1 r hH1 pot1 r0 r1 => ?_⟩
        walk_at "v"
        have hH01 : HS q H H1 := (HS.same s0).trans hH1
        have hdB0 := hd0.mono hGq hH01 eq0
        refine iteD (fun hr0 => ?_) (fun hr0 => ?_)
        · walk_at "v"
          have hpos : 0 < xs.length := by
            cases xs with
            | nil => cases hne
            | cons x xs => exact Nat.succ_pos _
          have hs1 : SqT K H1 a xs := hH01.sqT eq0 a1
          refine ⟨_, xs.length, rfl, .inr ⟨_, hs1, rfl⟩, ?_⟩
          walk_at "v"
          refine ⟨q, (xs.length : Int), n + 1, rfl, by omega, by omega, pot1, by omega, fun H2 i hH2 pot2 i0 i1 => ?_⟩
          have hH02 : HS q H H2 := hH01.trans hH2
          have hd2 := hd0.mono hGq hH02 eq0
          walk_at "v"
          refine r_slice hd2 fun v1 H3 s3 dq1 => ?_
          obtain ⟨x, hx⟩ : ∃ x, xs[i.toNat]? = some x := ⟨xs[i.toNat]'(by omega), List.getElem?_eq_getElem _⟩
          have hH03 : HS q H H3 := hH02.trans (HS.same s3)
          obtain ⟨di, hdi, _⟩ := a2.get hx
          have dqi : Dq K G H3 x di := by
            obtain ⟨d', e1, e2⟩ := (a2.mono hGq hH03 eq0).get hx
            rw [hdi] at e1
            obtain rfl := Option.some.inj e1
            exact e2
          have mdi : di ∈ ds := List.mem_of_getElem? hdi
          have hat : atI xs i = some x := by
            unfold atI ixN
            rw [if_pos i0, if_pos i1]
            exact hx
          walk_at "v"
          refine w_tup ?_
          walk_at "v"
          refine w_ixT (hH03.sqT eq0 a1) hat ?_
          walk_at "v"
          have ki := dep' di mdi
          obtain ⟨k', rfl⟩ : ∃ k', k = k' + 1 := ⟨k - 1, by omega⟩
          have si := szA_mem mdi
          refine ⟨q, x, di, n + 2, G, rfl, hGq, occ hH03 (by obtain ⟨o, b, c, e, _⟩ := pot2.same s3; exact ⟨_, e⟩), dqi, okA' di mdi, inA_mem inb di mdi, tA_mem tb di mdi, by omega, by omega, pot2.same s3, by omega, fun H4 v2 hv2 hH4 pot4 => ?_⟩
          obtain ⟨d2, dq2, o1, o2, o3⟩ := hv2
          obtain ⟨own4, b4, c4, e4, _⟩ := id pot4
          obtain ⟨own3, b3, c3, e3, _⟩ := id (pot2.same s3)
          walk_at "v"
          rename_i p hp
          have t1 : Same H4 (upd H4 p (.tup [v2])) := same_upd (Same.refl _) hp
          have dqp : Dq K G (upd H4 p (.tup [v2])) (.ref p) (.tuple [d2]) := .tup (.of upd_same) (.cons (dq2.same t1) .nil)
          have c1 := szA_cut ds hdi
          rw [cutD_to i0 (by omega)] at dq1
          have l1 := lsz (es := ds.take i.toNat)
          have l3 := lsz (es := ds.drop (i.toNat + 1))
          have m1 : ∀ d ∈ ds.take i.toNat, d ∈ ds := fun d h => List.mem_of_mem_take h
          have m3 : ∀ d ∈ ds.drop (i.toNat + 1), d ∈ ds := fun d h => List.mem_of_mem_drop h
          refine r_cat ((dq1.mono hGq hH4 e3).same t1) dqp (by simp only [List.length_cons, List.length_nil]; omega) fun v3 H6 s6 dq3 => ?_
          have hH06 : HS q H H6 := ((hH03.trans hH4).trans (HS.same t1)).trans (HS.same s6)
          walk_at "v"
          refine r_slice (hd0.mono hGq hH06 eq0) fun v4 H7 s7 dq4 => ?_
          have e1 : (i + 1).toNat = i.toNat + 1 := by omega
          rw [cutD_from (by omega) (by omega), e1] at dq4
          walk_at "v"
          refine r_cat (dq3.same s7) dq4 (by simp only [List.length_append, List.length_cons, List.length_nil]; omega) fun v5 H8 s8 dq5 => ?_
          refine go H8 v5 ⟨_, dq5, ?_⟩ ((hH06.trans (HS.same s7)).trans (HS.same s8)) ((((pot4.same t1).same s6).same s7).same s8 |>.mono (by omega))
          refine (fit_seq (fun d hd => ?_) ?_ (fun d hd => ?_) (by omega)).1
          · rcases List.mem_append.mp hd with h | h
            · rcases List.mem_append.mp h with h | h
              · exact okA' d (m1 d h)
              · rw [List.mem_singleton.mp h]
                exact o1
            · exact okA' d (m3 d h)
          · rw [szA_append, szA_append]
            simp only [szA]
            omega
          · rcases List.mem_append.mp hd with h | h
            · rcases List.mem_append.mp h with h | h
              · have := dep' d (m1 d h)
                omega
              · rw [List.mem_singleton.mp h]
                omega
            · have := dep' d (m3 d h)
              omega
        · have hdB : Dq K G H1 (V.ref a) (.tuple ds) := hdB0
          have hsB : HS q H H1 := hH01
          have potB : PotAt H1 q (n + 1) := pot1
          have hqB : ∃ o, H1 q = some o := by
            obtain ⟨own, b, c, e, _⟩ := id pot1
            exact ⟨_, e⟩

          have w0 : DV K G (L2.start N_law_bent [V.ref q, V.ref a]) H1 (tVar 1) (.tuple ds) := dv_var rfl hdB
          walk_at "v"
          refine w_isT true hdB (by kernel_rfl) ?_
          walk_at "v"
          refine (opts (occ hH01 hqB) w0) H1 _ (Same.refl H1) fun vs H2 es s2 dqs fs hn2 => ⟨by rw [dqs.length, sizeLine_eq]; omega, fun p hp hms => ?_⟩
          walk_at "v"
          have s3 : Same H1 (upd H2 p (.lst vs)) := same_upd s2 hp
          obtain ⟨oq, eq⟩ := hqB
          exact of_fin hGq (ds := es) upd_same (Ne.symm (ne_of_none (s2 _ _ eq) hp)) (dqs.same (same_upd (Same.refl _) hp)) fs (by omega) (by omega) (potB.same s3) (by omega)
            fun H' v hv hH hp' => go H' v hv ((hsB.trans (HS.same s3)).trans hH) (hp'.mono (by omega))

      · have hdB : Dq K G H0 (V.ref a) (.tuple ds) := hd0.same s0
        have hsB : HS q H H0 := HS.same s0
        have potB : PotAt H0 q (n + 1) := (pot.same s0).mono (by omega)
        have hqB : ∃ o, H0 q = some o := ⟨_, s0 _ _ eq0⟩

        have w0 : DV K G (L2.start N_law_bent [V.ref q, V.ref a]) H0 (tVar 1) (.tuple ds) := dv_var rfl hdB
        walk_at "v"
        refine w_isT true hdB (by kernel_rfl) ?_
        walk_at "v"
        refine (opts (occ (HS.same s0) hqB) w0) H0 _ (Same.refl H0) fun vs H2 es s2 dqs fs hn2 => ⟨by rw [dqs.length, sizeLine_eq]; omega, fun p hp hms => ?_⟩
        walk_at "v"
        have s3 : Same H0 (upd H2 p (.lst vs)) := same_upd s2 hp
        obtain ⟨oq, eq⟩ := hqB
        exact of_fin hGq (ds := es) upd_same (Ne.symm (ne_of_none (s2 _ _ eq) hp)) (dqs.same (same_upd (Same.refl _) hp)) fs (by omega) (by omega) (potB.same s3) (by omega)
          fun H' v hv hH hp' => go H' v hv ((hsB.trans (HS.same s3)).trans hH) (hp'.mono (by omega))

theorem bent_all (F : FunAt K mg "_law_bent" s_law_bent) (T : Txt mg) (D_law_take : Def P w K mg base 1 "_law_take" P_law_take spTake) (D_law_of : Def P w K mg base 2 "_law_of" P_law_of (spOf K))
    (D_law_odd : Def P w K mg base 3 "_law_odd" P_law_odd (spOdd K)) : ∀ k, Def P w K mg base (3 + k) "_law_bent" P_law_bent (spBent K k)
  | 0 => def_of F sc_law_bent bs_law_bent (fun _ _ _ _ h => h.elim) fun _ _ _ _ _ _ _ _ _ _ h => h.elim
  | k + 1 => bent_step F T D_law_take D_law_of D_law_odd k (bent_all F T D_law_take D_law_of D_law_odd k)
end
end Two

section
open PySem.SeqAt PySem.AutoSeq1 PySem.MeetsSeq PySem.Calls
theorem sub_tuple_dict0 : isSubtype (.type "tuple") (.type "dict") = pure false := by rw [isSubtype_type]; kernel_rfl
theorem sub_dict_tuple0 : isSubtype (.type "dict") (.type "tuple") = pure false := by rw [isSubtype_type]; kernel_rfl
theorem dict_eq_declines_tuple (l b : Addr) (es : Array DictEntry) (ep : Nat) (items2 : Array Value) (n2 : Nat) (dd dd2 : Option Addr) (sl sl2 : Array (Option Value)) :
    Meets (Builtin.«dict.__eq__» ⟨[.ref l, .ref b], []⟩) (fun _ R s => s.heap.get? l = some { cls := .type "dict", dict := dd, data := .dict es ep, slots := sl } ∧ s.heap.get? b = some { cls := .type "tuple", dict := dd2, data := .seq items2 n2, slots := sl2 } ∧ R (.ok (.ret .notImplemented)) s) :=
  .of_wp fun prog w A R s h => by obtain ⟨hp, g, d, tk, os⟩ := s; obtain ⟨hl, hb, h⟩ := h; have f1 := sub_tuple_dict0; wp_walk using wpAny_loadPart' hl, wpAny_loadPart' hb; exact ⟨_, rfl, h⟩
theorem tuple_eq_declines_dict (l b : Addr) (es : Array DictEntry) (ep : Nat) (items : Array Value) (n : Nat) (dd dd2 : Option Addr) (sl sl2 : Array (Option Value)) :
    Meets (Builtin.«tuple.__eq__» ⟨[.ref l, .ref b], []⟩) (fun _ R s => s.heap.get? l = some { cls := .type "tuple", dict := dd, data := .seq items n, slots := sl } ∧ s.heap.get? b = some { cls := .type "dict", dict := dd2, data := .dict es ep, slots := sl2 } ∧ R (.ok (.ret .notImplemented)) s) :=
  .of_wp fun prog w A R s h => by obtain ⟨hp, g, d, tk, os⟩ := s; obtain ⟨hl, hb, h⟩ := h; have f1 := sub_dict_tuple0; wp_walk using wpAny_loadPart' hl, wpAny_loadPart' hb; exact ⟨_, rfl, h⟩
theorem rc_dict_tuple {A : Around} {s : Shared} {l b : Addr} {o o2 : Obj} {es : Array DictEntry} {ep : Nat} {its : Array Value} {n : Nat} (ho : s.heap.get? l = some o) (hc : o.cls = .type "dict") (hd : o.data = .dict es ep) (ho2 : s.heap.get? b = some o2) (hc2 : o2.cls = .type "tuple") (hd2 : o2.data = .seq its n) (hu : A.units < cLine) :
    RcAt A s (.ref l) (.ref b) false := fun prog w E Q h => by
  have hne : l ≠ b := fun e => by
    subst e
    rw [ho] at ho2
    have e := Option.some.inj ho2
    rw [e, hc2] at hc
    exact absurd hc (by simp)
  obtain ⟨cls, dd, data, sl⟩ := o
  obtain ⟨cls2, dd2, data2, sl2⟩ := o2
  simp only at hc hd hc2 hd2
  subst hc hd hc2 hd2
  exact (rc_eq_decline_or (k := false) ⟨_, ho, rfl⟩ ⟨_, ho2, rfl⟩ (by decide) sub_tuple_dict0 F.slot_dict_eq F.slot_tuple_eq_refl
    (fun _ hq => call_meets F.slot_dict_eq ⟨_, ho, rfl⟩ F.entry_dict_eq (F.args_dict_eq_2 _ _) (dict_eq_declines_tuple l b es ep its n dd dd2 sl sl2) ⟨ho, ho2, hq⟩)
    (fun _ hq => call_meets F.slot_tuple_eq_refl ⟨_, ho2, rfl⟩ F.entry_tuple_eq (F.args_tuple_eq_2 _ _) (tuple_eq_declines_dict b l es ep its n dd2 dd sl2 sl) ⟨ho2, ho, hq⟩)
    (fun _ hq => wpAny_isSame_ref_other hne ho ho2 (by simp) hq) (.inr hu) h)
end
/-- == of any data without dicts, or of a dict with a tuple -/
def rEqQ (K : PySem.W.Frag) : R2 := fun x y H Q => (∃ (q : Addr) (d e : PyData), Dq K q H x d ∧ Dq K q H y e ∧ SeqAt.shaped d = true ∧ SeqAt.shaped e = true ∧ Q (.bl (PyData.eqv d e)) H) ∨
  ∃ (p t : Addr) (kvs : List (Key × V)) (xs : List V), x = .ref p ∧ y = .ref t ∧ H p = some (.dK kvs) ∧ SqT K H t xs ∧ Q (.bl false) H
theorem op_eqQ {X : Cx} (hu : X.A.units + 64 < cLine) : OpR X (compareOp .Eq) (rEqQ X.K) := by
  intro pins s σ H x y v u Q I rx ry h
  rcases h with ⟨q, d, e, hd, he, sd, se, k⟩ | ⟨p, t, kvs, xs, rfl, rfl, hp, ht, k⟩
  · obtain ⟨as, r1, _⟩ := Dq.reads I hd rx
    obtain ⟨bs, r2, _⟩ := Dq.reads I he ry
    exact SeqAt.compareEq_shaped r1 r2 sd se hu ⟨.bl _, H, I, rfl, k⟩
  · obtain rfl : v = Value.ref p := rx
    obtain rfl : u = Value.ref t := ry
    obtain ⟨hz, hm, vs, kr, o, es, ep, ho, hx, hd, hk, hpp, hnd⟩ := dk_of I.hok hp
    obtain ⟨its, rv, ⟨o2, ho2, hc2, n, hd2⟩, _⟩ := I.tuple ht
    exact rc_dict_tuple ho hx.1 hd ho2 hc2 hd2 (by omega) X.prog X.w X.xe _ ⟨.bl _, H, I, rfl, k⟩
theorem op_eqQK {X : Cx} {K : PySem.W.Frag} (h : X.K = K) (hu : X.A.units + 64 < cLine) : OpR X (compareOp .Eq) (rEqQ K) := by
  subst h
  exact op_eqQ hu

/-! ## data told apart -/
theorem dqa_ints {K : PySem.W.Frag} {q : Addr} {H : Hp} (ns : List Nat) : DqA K q H (ns.map fun n => V.int (n : Nat)) (ns.map fun n => PyData.int (n : Nat)) := by
  induction ns with
  | nil => exact .nil
  | cons n ns ih => exact .cons (.int _) ih
theorem ints_of_dqa {K : PySem.W.Frag} {q : Addr} {H : Hp} : ∀ {ns : List Nat} {xs : List V}, DqA K q H xs (ns.map fun n => PyData.int (n : Nat)) → xs = ns.map fun n => V.int (n : Nat)
  | [], _, .nil => rfl
  | a :: l, _, .cons (.int _) t => by rw [ints_of_dqa t]; rfl
/-- ("wakes", numbers) -/
def wakesD (ns : List Nat) : PyData := .tuple [.str "wakes", .tuple (ns.map fun n => .int (n : Nat))]
def sleepsD (l : List Str) : PyData := .tuple [.str "sleeps", lotD l]
def isIntB : PyData → Bool
  | .int _ => true
  | _ => false
def numB (m : Nat) : PyData → Bool
  | .int i => decide (0 ≤ i ∧ i < (m : Int))
  | _ => false
theorem nums_of {m : Nat} : ∀ {xs : List PyData}, (∀ d ∈ xs, numB m d = true) → ∃ ns : List Nat, xs = ns.map (fun n => PyData.int (n : Nat)) ∧ ∀ n ∈ ns, n < m
  | [], _ => ⟨[], rfl, fun n h => absurd h (by simp)⟩
  | d :: xs, h => by
    obtain ⟨ns, e, hn⟩ := nums_of fun z hz => h z (.tail _ hz)
    have hd := h d (.head _)
    cases d with
    | int i =>
      have := of_decide_eq_true hd
      refine ⟨i.toNat :: ns, ?_, fun n hn' => ?_⟩
      · rw [e, List.map_cons]
        exact congrArg (fun z => PyData.int z :: _) (by omega)
      · rcases List.mem_cons.mp hn' with rfl | hn'
        · omega
        · exact hn n hn'
    | _ => cases hd
theorem nums_to {m : Nat} {ns : List Nat} (h : ∀ n ∈ ns, n < m) : ∀ d ∈ ns.map (fun n => PyData.int (n : Nat)), numB m d = true := fun d hd => by
  obtain ⟨n, hn, rfl⟩ := List.mem_map.mp hd
  exact decide_eq_true ⟨by omega, by have := h n hn; omega⟩
theorem ints_inj : ∀ {ns ms : List Nat}, ns.map (fun n => PyData.int (n : Nat)) = ms.map (fun n => PyData.int (n : Nat)) → ns = ms
  | [], [], _ => rfl
  | [], _ :: _, h => by cases h
  | _ :: _, [], h => by cases h
  | n :: ns, m :: ms, h => by
    rw [List.map_cons, List.map_cons] at h
    obtain ⟨h1, h2⟩ := List.cons.inj h
    have := PyData.int.inj h1
    rw [ints_inj h2, show n = m by omega]
/-- right numbers of so many -/
def NumsP (m : Nat) (d : PyData) : Prop := ∃ ns : List Nat, d = .tuple (ns.map fun n => .int (n : Nat)) ∧ ns.Nodup ∧ ∀ n ∈ ns, n < m
def FormP (w : Str) (n : Nat) (d : PyData) : Prop := ∃ xs, d = .tuple (.str w :: xs) ∧ xs.length + 1 = n
def GoP (bs : List Bun) (l : List Str) (ns : List Nat) (d : Str) : Prop := (∀ k n, ns[k]? = some n → ∀ x ∈ firstAt bs n, x ∈ walkOn bs l (ns.take k)) ∧ d ∈ walkOn bs l ns
def WayP (ds : List Str) (bs : List Bun) (l : List Str) (dev : Str) (e : Nat) (d : PyData) : Prop := (dev ∈ lotOf ds e ∧ ∃ ns, d = wakesD ns ∧ Leads bs l ns dev) ∨ (dev ∉ lotOf ds e ∧ d = sleepsD (lotOf ds e))
theorem eqv_str {d : PyData} {s : Str} : PyData.eqv d (.str s) = true ↔ d = .str s := by
  cases d <;> simp [PyData.eqv]
theorem eqv_strsA : ∀ {xs : List PyData} {l : List Str}, PyData.eqvAll xs (l.map PyData.str) = true ↔ xs = l.map PyData.str
  | [], [] => by simp [PyData.eqvAll]
  | [], _ :: _ => by simp [PyData.eqvAll]
  | _ :: _, [] => by simp [PyData.eqvAll]
  | x :: xs, a :: l => by
    rw [List.map_cons, PyData.eqvAll, Bool.and_eq_true, eqv_str, eqv_strsA, List.cons.injEq]
theorem eqv_lotD {d : PyData} {l : List Str} : PyData.eqv d (lotD l) = true ↔ d = lotD l := by
  unfold lotD
  cases d <;> simp [PyData.eqv, eqv_strsA]
theorem eqv_sleeps {d : PyData} {l : List Str} : PyData.eqv d (sleepsD l) = true ↔ d = sleepsD l := by
  unfold sleepsD
  cases d with
  | tuple xs =>
    match xs with
    | [] => simp [PyData.eqv, PyData.eqvAll]
    | [x] => simp [PyData.eqv, PyData.eqvAll]
    | [x, y] => simp [PyData.eqv, PyData.eqvAll, eqv_str, eqv_lotD]
    | x :: y :: z :: r => simp [PyData.eqv, PyData.eqvAll]
  | _ => simp [PyData.eqv]
def spIsIntegerD (K : PySem.W.Frag) : Sp := fun vs H Q _ => ∃ (q : Addr) (v : V) (d : PyData), vs = [v] ∧ Dq K q H v d ∧ Q (.bl (isIntB d)) H
def spIsNumberD (K : PySem.W.Frag) : Sp := fun vs H Q _ => ∃ (q : Addr) (v : V) (d : PyData) (m : Nat), vs = [v, .int (m : Nat)] ∧ Dq K q H v d ∧ Q (.bl (numB m d)) H
def spHasFormD (K : PySem.W.Frag) : Sp := fun vs H Q _ => ∃ (q : Addr) (v : V) (w : Str) (d : PyData) (n : Nat), vs = [v, .str w, .int (n : Nat)] ∧ Dq K q H v d ∧ ndB d = true ∧ d.depth ≤ 60 ∧ okD (.str w) = true ∧ 1 ≤ n ∧ ∀ r : Bool, (r = true ↔ FormP w n d) → Q (.bl r) H
def spAreNumbersD (K : PySem.W.Frag) (C : Addr) : Sp := fun vs H Q _ => ∃ (q p : Addr) (v : V) (d : PyData) (ds : List Str) (bs : List Bun), vs = [.ref p, v] ∧ RulesAt K C H p ds bs ∧ bs.length ≤ 64 ∧ Dq K q H v d ∧ szD d ≤ 100000 ∧ ∀ (H' : Hp) (r : Bool), Same H H' → (r = true ↔ NumsP bs.length d) → Q (.bl r) H'
def spLeadsD (K : PySem.W.Frag) (C : Addr) : Sp := fun vs H Q _ => ∃ (p t : Addr) (y : V) (ds l : List Str) (bs : List Bun) (ns : List Nat) (d : Str), vs = [.ref p, y, .str d, .ref t] ∧ RulesAt K C H p ds bs ∧ Devs ds ∧ RowsOf ds bs ∧ bs.length ≤ 64 ∧ LotAt K H y l ∧ l.Sublist ds ∧ SqT K H t (ns.map fun n => V.int (n : Nat)) ∧ ns.Nodup ∧ (∀ n ∈ ns, n < bs.length) ∧ ns.length ≤ 64 ∧
  ∀ (H' : Hp) (r : Bool), Same H H' → (r = true ↔ GoP bs l ns d) → Q (.bl r) H'
def spShowsWayD (K : PySem.W.Frag) (C : Addr) : Sp := fun vs H Q _ => ∃ (q p : Addr) (y v : V) (dev : Str) (d : PyData) (ds l : List Str) (bs : List Bun) (e : Nat), vs = [.ref p, y, .str dev, v] ∧ RulesAt K C H p ds bs ∧ LotAt K H y l ∧ l.Sublist ds ∧ Devs ds ∧ RowsOf ds bs ∧ bs.length ≤ 64 ∧ dev ∈ ds ∧ IsEnd (stepsOf ds bs) (maskOf ds l) e ∧
  Dq K q H v d ∧ okD d = true ∧ ndB d = true ∧ szD d ≤ 100000 ∧ d.depth ≤ 60 ∧ ∀ (H' : Hp) (r : Bool), Same H H' → (r = true ↔ WayP ds bs l dev e d) → Q (.bl r) H'
section
variable {P : Program} {w : World} {K : PySem.W.Frag} {mg : Str → Option Value} {base : Heap} {C : Addr}
theorem ok_has_formD (F : FunAt K mg "has_form" shas_form) (T : Txt mg) : Def P w K mg base 1 "has_form" Phas_form (spHasFormD K) := by
  refine def_of F schas_form bshas_form (fun vs H Q E h => ?_) fun f cdv A outer s H vs Q E hr h => ?_
  · obtain ⟨q, v, w, d, n, rfl, _⟩ := h
    rfl
  · refine ⟨_, (pss_one (ps_ret (pe_and (pe_callB call_isi (by rfl) T.n_isinstance (by decide +kernel) (pa_cons (pv 0) (pa_cons (pe_bltn (v := .ty "tuple") (by rfl) T.n_tuple (by decide +kernel) rfl) pa_nil))) (pe_and (pe_cmpR op_eq (pe_callB call_len (by rfl) T.n_len PySem.boot_len (pa_cons (pv 0) pa_nil)) (pv 2) (nomark _)) (pe_one (pe_cmpR (op_eqQ hr.units) (pe_ix ix_tup (pv 0) pe_int (fun _ _ => rfl)) (pv 1) (nomark _))))))), ?_⟩
    obtain ⟨q, v, w, d, n, rfl, hd, hnd, hdep, hw, hn, go⟩ := h
    have hd0 := hd
    have no : (∀ xs, d ≠ .tuple xs) → Q (.bl false) H := fun z => go false ⟨(fun z => nomatch z), fun ⟨xs, e, _⟩ => absurd e (z _)⟩
    cases hd with
    | @tup a xs ds a1 a2 =>
      have hlen := a2.length
      walk_at "v"
      refine w_isT true hd0 (by kernel_rfl) ?_
      refine ⟨_, rfl, iteT ?_⟩
      refine w_andV ?_
      refine w_op ?_
      refine w_cb ?_
      refine w_cons ?_
      refine w_var rfl ?_
      refine w_nil ?_
      refine ⟨_, _, rfl, .inr ⟨_, a1, rfl⟩, ?_⟩
      refine w_var rfl ?_
      by_cases hl : xs.length = n
      · rw [hl]
        refine w_eqSame rfl ?_
        refine ⟨_, rfl, iteT ?_⟩
        cases a2 with
        | nil =>
          have : ([] : List V).length = 0 := rfl
          omega
        | @cons v0 vs0 d0 ds0 b1 b2 =>
          walk_at "v"
          refine w_ixT a1 (show atI (v0 :: vs0) ((0 : Nat) : Int) = some v0 from atI_nat rfl) ?_
          refine w_var rfl ?_
          have hok : okN d0 = true := by
            have : okNA (d0 :: ds0) = true := hnd
            simp only [okNA, Bool.and_eq_true] at this
            exact this.1
          have hdd : d0.depth ≤ 60 := by
            simp only [PyData.depth, PyData.depthAll] at hdep
            omega
          refine .inl ⟨q, d0, .str w, b1, .str w, shaped_of (okN_lay hok) (by omega), shaped_of (okN_lay (d := .str w) hw) (Nat.zero_le _), ?_⟩
          refine go _ ⟨fun z => ?_, fun ⟨xs, e, _⟩ => ?_⟩
          · rw [eqv_str.mp z]
            exact ⟨ds0, rfl, by simpa using hlen.symm.trans hl⟩
          · rw [eqv_str]
            have := PyData.tuple.inj e
            exact (List.cons.inj this).1
      · refine ⟨rfl, ?_⟩
        rw [decide_eq_false fun z => hl (by have := V.int.inj z; omega)]
        refine ⟨_, rfl, iteF ?_⟩
        refine go _ ⟨(fun z => nomatch z), fun ⟨xs', e, e2⟩ => ?_⟩
        rw [PyData.tuple.inj e, List.length_cons] at hlen
        omega
    | int i =>
      walk_at "v"
      refine w_isT false hd0 (by kernel_rfl) ?_
      exact ⟨_, rfl, iteF (no fun _ z => nomatch z)⟩
    | bl b =>
      walk_at "v"
      refine w_isT false hd0 (by kernel_rfl) ?_
      exact ⟨_, rfl, iteF (no fun _ z => nomatch z)⟩
    | non =>
      walk_at "v"
      refine w_isT false hd0 (by kernel_rfl) ?_
      exact ⟨_, rfl, iteF (no fun _ z => nomatch z)⟩
    | str x =>
      walk_at "v"
      refine w_isT false hd0 (by kernel_rfl) ?_
      exact ⟨_, rfl, iteF (no fun _ z => nomatch z)⟩
    | lst a1 a2 a3 a4 =>
      walk_at "v"
      refine w_isT false hd0 (by kernel_rfl) ?_
      exact ⟨_, rfl, iteF (no fun _ z => nomatch z)⟩
    | dic a1 a2 a3 =>
      walk_at "v"
      refine w_isT false hd0 (by kernel_rfl) ?_
      exact ⟨_, rfl, iteF (no fun _ z => nomatch z)⟩
end

theorem pot_szA : ∀ {ns : List Nat}, szA (ns.map fun n => PyData.int (n : Nat)) = 112 * ns.length
  | [] => rfl
  | n :: ns => by
    rw [List.map_cons, szA, pot_szA (ns := ns), List.length_cons, szD]
    omega
theorem szA_len : ∀ {xs : List PyData}, 2 * xs.length ≤ szA xs
  | [] => Nat.zero_le _
  | x :: xs => by
    have := szA_len (xs := xs)
    rw [szA, List.length_cons]
    omega

/-- all but lists stands -/
theorem Ls.trans {H H' H2 : Hp} (a : Ls H H') (b : Ls H' H2) : Ls H H2 := fun x o h n => b x o (a x o h n) n
theorem Same.ls {H H' : Hp} (s : Same H H') : Ls H H' := fun b o h _ => s b o h
namespace Two
/-- all but the lists of G stands -/
def CG (G : Addr → Prop) (H H' : Hp) : Prop := ∀ b o, ¬ G b → H b = some o → H' b = some o
def LG (G : Addr → Prop) (H : Hp) : Prop := ∀ x o, G x → H x = some o → ∃ l, o = HO.lst l
theorem CG.ls {G : Addr → Prop} {H H' : Hp} (h : CG G H H') (hl : LG G H) : Ls H H' := fun b o e n => h b o (fun z => by
  obtain ⟨l, rfl⟩ := hl b o z e
  exact n l rfl) e
theorem CG.trans {G : Addr → Prop} {H H' H2 : Hp} (a : CG G H H') (b : CG G H' H2) : CG G H H2 := fun x o n e => b x o n (a x o n e)
theorem CG.weak {G G' : Addr → Prop} {H H' : Hp} (h : CG G H H') (z : ∀ x, G x → G' x) : CG G' H H' := fun b o n e => h b o (fun y => n (z b y)) e
theorem CG.of {q : Addr} {G : Addr → Prop} {H H' : Hp} (h : HS q H H') (hq : G q) : CG G H H' := fun b o n e => h b o (fun z => n (z ▸ hq)) e
theorem CG.same {G : Addr → Prop} {H H' : Hp} (h : Same H H') : CG G H H' := fun b o _ e => h b o e
theorem Dq.cg {K : PySem.W.Frag} {G : Addr → Prop} {H H' : Hp} (h : CG G H H') (hl : LG G H) {v : V} {d : PyData} (dq : Dq K G H v d) : Dq K G H' v d :=
  Dq.rec (motive_1 := fun v d _ => Dq K G H' v d) (motive_2 := fun vs ds _ => DqA K G H' vs ds)
    .non (fun b => .bl b) (fun i => .int i) (fun x => .str x) (fun e n n2 _ r => .lst (h _ _ n e) n n2 r) (fun e _ r => .tup ((h.ls hl).sqT e) r) (fun e _ _ r1 r2 => .dic (h.ls hl _ _ e fun _ z => nomatch z) r1 r2) .nil (fun _ _ r t => .cons r t) dq
/-- data without lists -/
abbrev Fr (K : PySem.W.Frag) (H : Hp) (v : V) (d : PyData) : Prop := Dq K (fun _ => True) H v d
theorem Dq.fr {K : PySem.W.Frag} {H H' : Hp} (h : Ls H H') {v : V} {d : PyData} (dq : Fr K H v d) : Fr K H' v d :=
  Dq.rec (motive_1 := fun v d _ => Fr K H' v d) (motive_2 := fun vs ds _ => DqA K (fun _ => True) H' vs ds)
    .non (fun b => .bl b) (fun i => .int i) (fun x => .str x) (fun e n n2 _ r => absurd trivial n) (fun e _ r => .tup (h.sqT e) r) (fun e _ _ r1 r2 => .dic (h _ _ e fun _ z => nomatch z) r1 r2) .nil (fun _ _ r t => .cons r t) dq
theorem fr_ints {K : PySem.W.Frag} {G : Addr → Prop} {H : Hp} : ∀ ns : List Nat, DqA K G H (ns.map fun n => V.int (n : Nat)) (ns.map fun n => PyData.int (n : Nat))
  | [] => .nil
  | n :: ns => .cons (.int _) (fr_ints ns)
/-- a value to be shown or asked about -/
def Any (K : PySem.W.Frag) (G : Addr → Prop) (H : Hp) (v : V) : Prop := ∃ d, Dq K G H v d ∧ okD d = true ∧ ndB d = true ∧ szD d ≤ 100000 ∧ d.depth ≤ 20
theorem Any.cg {K : PySem.W.Frag} {G : Addr → Prop} {H H' : Hp} {v : V} (h : CG G H H') (hl : LG G H) (a : Any K G H v) : Any K G H' v := by
  obtain ⟨d, dq, r⟩ := a
  exact ⟨d, dq.cg h hl, r⟩
theorem Any.less {K : PySem.W.Frag} {G G' : Addr → Prop} {H : Hp} {v : V} (z : ∀ x, G' x → G x) (a : Any K G H v) : Any K G' H v := by
  obtain ⟨d, dq, r⟩ := a
  exact ⟨d, dq.less z, r⟩
theorem Any.more {K : PySem.W.Frag} {G : Addr → Prop} {H : Hp} {p : Addr} (hp : H p = none) {v : V} (a : Any K G H v) : Any K (fun x => G x ∨ x = p) H v := by
  obtain ⟨d, dq, r⟩ := a
  exact ⟨d, dq.more hp, r⟩
theorem Any.same {K : PySem.W.Frag} {G : Addr → Prop} {H H' : Hp} {v : V} (h : Same H H') (a : Any K G H v) : Any K G H' v := by
  obtain ⟨d, dq, r⟩ := a
  exact ⟨d, dq.same h, r⟩
theorem nd_of : ∀ {d : PyData}, okN d = true → ndB d = true
  | .none, h => h
  | .bool _, h => h
  | .int _, h => h
  | .str _, h => h
  | .list _, h => h
  | .tuple _, h => h
  | .dict _, _ => rfl
theorem Any.fit {K : PySem.W.Frag} {G : Addr → Prop} {H : Hp} {v : V} {d : PyData} (dq : Dq K G H v d) (f : Fit 20000 4 d) : Any K G H v :=
  ⟨d, dq, okN_ok f.1, nd_of f.1, Nat.le_trans f.2.1 (by decide), Nat.le_trans f.2.2 (by decide)⟩
def g1 (q : Addr) : Addr → Prop := fun x => x = q
def g2 (q p : Addr) : Addr → Prop := fun x => x = q ∨ x = p
theorem g2_l {q p : Addr} : g2 q p q := .inl rfl
theorem g2_r {q p : Addr} : g2 q p p := .inr rfl
theorem lg_or {G G' : Addr → Prop} {H : Hp} (a : LG G H) (b : LG G' H) : LG (fun x => G x ∨ G' x) H := fun x o h e => h.elim (fun h => a x o h e) fun h => b x o h e
theorem lg_of {q : Addr} {H : Hp} {l : List V} (e : H q = some (.lst l)) : LG (fun x => x = q) H := fun x o h e' => by
  rw [h, e] at e'
  exact ⟨l, (Option.some.inj e').symm⟩
theorem lg_no {q : Addr} {H : Hp} (e : H q = none) : LG (fun x => x = q) H := fun x o h e' => by
  rw [h, e] at e'
  cases e'
theorem pot_lg {q : Addr} {H : Hp} {n : Nat} (p : PotAt H q n) : LG (g1 q) H := by
  obtain ⟨own, b, c, e, _⟩ := p
  exact lg_of e
/-! ## the list that is filled -/
def Fnd (K : PySem.W.Frag) (q L : Addr) (H : Hp) (m : Nat) : Prop := ∃ vs, H L = some (.lst vs) ∧ vs.length ≤ m ∧ ∀ v ∈ vs, Any K (g2 q L) H v
theorem Fnd.same {K : PySem.W.Frag} {q L : Addr} {H H' : Hp} {m : Nat} (f : Fnd K q L H m) (s : Same H H') : Fnd K q L H' m := by
  obtain ⟨vs, e, h, a⟩ := f
  exact ⟨vs, s _ _ e, h, fun v hv => (a v hv).same s⟩
/-- the pot and a new list change -/
theorem Fnd.cg {K : PySem.W.Frag} {q L D : Addr} {H H' : Hp} {m n : Nat} (f : Fnd K q L H m) (hLq : L ≠ q) (hD : H D = none) (pot : PotAt H q n) (h : CG (g2 q D) H H') : Fnd K q L H' m := by
  obtain ⟨vs, e, hl, a⟩ := f
  refine ⟨vs, h _ _ (fun z => z.elim hLq fun z => by rw [z, hD] at e; cases e) e, hl, fun v hv => ?_⟩
  have lg : LG (fun x => g2 q L x ∨ x = D) H := lg_or (lg_or (pot_lg pot) (lg_of e)) (lg_no hD)
  exact (((a v hv).more hD).cg (h.weak fun x z => z.elim (fun z => .inl (.inl z)) fun z => .inr z) lg).less fun x z => .inl z
theorem Fnd.hs {K : PySem.W.Frag} {q L : Addr} {H H' : Hp} {m n : Nat} (f : Fnd K q L H m) (hLq : L ≠ q) (pot : PotAt H q n) (h : HS q H H') : Fnd K q L H' m := by
  obtain ⟨vs, e, hl, a⟩ := f
  exact ⟨vs, h _ _ hLq e, hl, fun v hv => (a v hv).cg (.of h g2_l) (lg_or (pot_lg pot) (lg_of e))⟩
/-- the list is longer by another's items -/
theorem fnd_ext {K : PySem.W.Frag} {q L D : Addr} {H : Hp} {Q : VK} {m n j : Nat} {zs : List V} (f : Fnd K q L H m) (pot : PotAt H q n) (hD : H D = some (.lst zs)) (hz : ∀ v ∈ zs, Any K (g2 q L) H v) (hj : zs.length ≤ j) (hm : m + j ≤ 1000)
    (k : ∀ H', HS L H H' → Fnd K q L H' (m + j) → Q .non H') : rExtend (.ref L) [.ref D] H Q := by
  obtain ⟨vs, e, hl, a⟩ := f
  refine ⟨L, D, vs, zs, rfl, rfl, e, hD, by rw [sizeLine_eq]; omega, ?_⟩
  have hs : HS L H (upd H L (.lst (vs ++ zs))) := (HS.refl _ _).updq
  have lg : LG (g2 q L) H := lg_or (pot_lg pot) (lg_of e)
  refine k _ hs ⟨vs ++ zs, upd_same, by rw [List.length_append]; omega, fun v hv => ?_⟩
  rcases List.mem_append.mp hv with h | h
  · exact (a v h).cg (.of hs g2_r) lg
  · exact (hz v h).cg (.of hs g2_r) lg
/-- displays -/
theorem fnd_extD {K : PySem.W.Frag} {q L : Addr} {σ : L2.St} {H : Hp} {D : Ends} {ta : TA} {i m n j : Nat} (hL : σ[i]? = some (some (.ref L))) (f : Fnd K q L H m) (pot : PotAt H q n) (A : DPA K (g2 q L) σ H ta (Fit 20000 4) j) (hm : m + j ≤ 1000)
    (k : ∀ H', HS L H H' → Fnd K q L H' (m + j) → D.nx σ H') : tDrop (tBM K "list" rExtend (tVar i) (tCons (tLstN ta) tNil)) D σ H := by
  obtain ⟨vs, e, hl, a⟩ := id f
  refine w_drop (w_bm (w_var hL ⟨.inl ⟨rfl, _, SqL.of e⟩, w_cons (w_lstN (A H _ (Same.refl H) fun us H1 ds s1 dqs fs hn => ⟨by rw [dqs.length, sizeLine_eq]; omega, fun p hp hms => w_nil ?_⟩))⟩))
  have s2 : Same H1 (upd H1 p (.lst us)) := same_upd (Same.refl _) hp
  have s3 := s1.trans s2
  refine fnd_ext (j := j) (f.same s3) (pot.same s3) upd_same (fun v hv => ?_) (by rw [dqs.length]; omega) hm fun H' hs f' => k H' ((HS.same s3).trans hs) f'
  obtain ⟨d, hd, dq⟩ := dqs.mem hv
  exact .fit (dq.same s2) (fs d hd)
/-- the list is made -/
theorem fnd_new {K : PySem.W.Frag} {q : Addr} {σ : L2.St} {H : Hp} {Q : VK} {ta : TA} {n j : Nat} (pot : PotAt H q n) (A : DPA K (g1 q) σ H ta (Fit 20000 4) j) (hm : j ≤ 1000)
    (k : ∀ L H', H L = none → L ≠ q → Same H H' → Fnd K q L H' j → Q (.ref L) H') : tLstN ta σ H Q := by
  refine w_lstN (A H _ (Same.refl H) fun us H1 ds s1 dqs fs hn => ⟨by rw [dqs.length, sizeLine_eq]; omega, fun p hp hms => ?_⟩)
  have s2 : Same H1 (upd H1 p (.lst us)) := same_upd (Same.refl _) hp
  obtain ⟨own, b, c, e, _⟩ := id pot
  refine k p _ ?_ (Ne.symm (ne_of_none (s1 _ _ e) hp)) (s1.trans s2) ⟨us, upd_same, by rw [dqs.length]; omega, fun v hv => ?_⟩
  · cases z : H p with
    | none => rfl
    | some o => rw [s1 _ _ z] at hp; cases hp
  · obtain ⟨d, hd, dq⟩ := dqs.mem hv
    exact (Any.more hp (.fit dq (fs d hd))).same s2
/-- [item that draws for lap in range(n)] -/
theorem w_lcPot {q : Addr} {n m c i : Nat} {te : TE} {ta : TA} {σ : L2.St} {H : Hp} {Q : VK} (It : Addr → Hp → V → Prop) (hn : n ≤ 1000) (ht : ∀ R : List V → Hp → Prop, R [.int (n : Nat)] H → ta σ H R) (pot : PotAt H q m)
    (hw : ∀ x, wipe ((wipe σ [i]).set i (some x)) [i] = wipe σ [i])
    (keep : ∀ D H1 H2 v, LG (g2 q D) H1 → CG (g2 q D) H1 H2 → It D H1 v → It D H2 v)
    (he : ∀ D j H1 (R : VK), j < n → H D = none → CG (g2 q D) H H1 → LG (g2 q D) H1 → (∃ o, H1 D = some o) → PotAt H1 q (m + c * j) → (∀ H2 v, HS q H1 H2 → PotAt H2 q (m + c * j + c) → It D H2 v → R v H2) → te ((wipe σ [i]).set i (some (.int (j : Nat)))) H1 R)
    (k : ∀ D H' vs, H D = none → CG (g2 q D) H H' → PotAt H' q (m + c * n) → H' D = some (.lst vs) → vs.length = n → (∀ v ∈ vs, It D H' v) → Q (.ref D) H') :
    tLc (iRng1 ta) (gName i) tYes te [i] σ H Q := by
  refine ht _ ⟨(n : Nat), rfl, by omega, by omega, fun D hD => ?_⟩
  obtain ⟨own, b, c0, eq, _⟩ := id pot
  have hn' : D ≠ q := Ne.symm (ne_of_none eq hD)
  rw [show ((n : Nat) : Int).toNat = n from rfl]
  refine lc_range (lo := 0) (n := n) (Pv := fun j H' => CG (g2 q D) H H' ∧ PotAt H' q (m + c * j) ∧ ∃ vs, H' D = some (.lst vs) ∧ vs.length = j ∧ ∀ v ∈ vs, It D H' v) ⟨.same (same_upd (Same.refl _) hD), pot.upd hD, [], upd_same, rfl, fun v h => nomatch h⟩ ?_ ?_
  · rintro j H' hj ⟨h1, h2, vs, h3, h4, h5⟩
    have lg : LG (g2 q D) H' := lg_or (pot_lg h2) (lg_of h3)
    rw [show (0 : Int) + (j : Nat) = (j : Nat) from Int.zero_add _]
    refine ⟨hw _, iteT (B := CG (g2 q D) H H' ∧ PotAt H' q (m + c * (j + 1)) ∧ ∃ vs, H' D = some (.lst vs) ∧ vs.length = j + 1 ∧ ∀ v ∈ vs, It D H' v) ?_⟩
    refine he D j H' _ hj hD h1 lg ⟨_, h3⟩ h2 fun H2 v s2 p2 iv => ⟨vs, s2 _ _ hn' h3, by rw [sizeLine_eq]; omega, ?_⟩
    have lg2 : LG (g2 q D) H2 := lg_or (pot_lg p2) (lg_of (s2 _ _ hn' h3))
    have c2 : CG (g2 q D) H2 (upd H2 D (.lst (vs ++ [v]))) := .of (HS.refl D H2).updq g2_r
    have c1 : CG (g2 q D) H' (upd H2 D (.lst (vs ++ [v]))) := (CG.of s2 g2_l).trans c2
    refine ⟨h1.trans c1, ?_, vs ++ [v], upd_same, by rw [List.length_append, h4]; rfl, fun u hu => ?_⟩
    · obtain ⟨o1, b1, k1, e1, r1⟩ := p2
      exact ⟨o1, b1, k1, by rw [upd_ne (Ne.symm hn')]; exact e1, by rw [Nat.mul_succ, ← Nat.add_assoc]; exact r1⟩
    · rcases List.mem_append.mp hu with h | h
      · exact keep D _ _ u lg c1 (h5 u h)
      · rw [List.mem_singleton.mp h]
        exact keep D _ _ v lg2 c2 iv
  · rintro H' ⟨h1, h2, vs, h3, h4, h5⟩
    exact k D H' vs hD h1 h2 h3 h4 h5
/-! ## a way, as data -/
def WayD (d : PyData) : Prop := ∃ (w : Str) (xs : List PyData), d = .tuple [.str w, .tuple xs] ∧ (w = "wakes" ∨ w = "sleeps") ∧ (∀ x ∈ xs, okN x = true ∧ tB x = true ∧ inB x = true ∧ x.depth = 0) ∧ szA xs ≤ 8000 ∧ xs.length ≤ 64
theorem fit_of {es : List PyData} (h : ∀ d ∈ es, okN d = true ∧ d.depth ≤ 2) (hz : szA es ≤ 19000) : Fit 20000 4 (.tuple es) ∧ Fit 20000 4 (.list es) :=
  fit_seq (fun d hd => (h d hd).1) (by omega) (fun d hd => by have := (h d hd).2; omega) (by decide)
def Pc (xs : List PyData) (n : Nat) : Prop := (∀ x ∈ xs, okN x = true ∧ x.depth = 0) ∧ szA xs ≤ n
theorem pc_sq {xs : List PyData} {n : Nat} (h : Pc xs n) : (okN (.tuple xs) = true ∧ (PyData.tuple xs).depth ≤ 2) ∧ (okN (.list xs) = true ∧ (PyData.list xs).depth ≤ 2) := by
  have hA : okNA xs = true := okNA_iff.mpr fun x hx => (h.1 x hx).1
  have hD : PyData.depthAll xs ≤ 0 := depthAll_le.mpr fun d hd => by
    have := (h.1 d hd).2
    omega
  have e1 : (PyData.tuple xs).depth = PyData.depthAll xs + 1 := by simp only [PyData.depth]
  have e2 : (PyData.list xs).depth = PyData.depthAll xs + 1 := by simp only [PyData.depth]
  exact ⟨⟨hA, by omega⟩, ⟨hA, by omega⟩⟩
theorem two_ok {a b : PyData} (ha : okN a = true ∧ a.depth ≤ 2) (hb : okN b = true ∧ b.depth ≤ 2) : ∀ d ∈ [a, b], okN d = true ∧ d.depth ≤ 2 := fun d hd => by
  simp only [List.mem_cons, List.not_mem_nil, or_false] at hd
  rcases hd with rfl | rfl
  · exact ha
  · exact hb
theorem fit_pair {w : Str} {es : List PyData} (hw : okN (.str w) = true) (hl : szD (.str w) ≤ 70) (h : Pc es 18000) : Fit 20000 4 (.tuple [.str w, .tuple es]) ∧ Fit 20000 4 (.tuple [.str w, .list es]) := by
  have hz := h.2
  constructor
  · refine (fit_of (two_ok ⟨hw, Nat.zero_le _⟩ (pc_sq h).1) ?_).1
    show szD (.str w) + 2 + (szA es + 3 + 2 + 0) ≤ 19000
    omega
  · refine (fit_of (two_ok ⟨hw, Nat.zero_le _⟩ (pc_sq h).2) ?_).1
    show szD (.str w) + 2 + (szA es + 3 + 2 + 0) ≤ 19000
    omega
section
variable {K : PySem.W.Frag} {q : Addr → Prop} {σ : L2.St} {H : Hp}
theorem dv_tup2 {ta tb : TE} {d e : PyData} (h1 : DV K q σ H ta d) (h2 : DV K q σ H tb e) : DV K q σ H (tTup (tCons ta (tCons tb tNil))) (.tuple [d, e]) := by
  intro H1 Q s k
  refine h1 H1 _ s fun v H2 s2 dq => ?_
  refine h2 H2 _ (s.trans s2) fun u H3 s3 dq2 => ⟨by show 2 ≤ sizeLine; rw [sizeLine_eq]; decide, fun p hp => ?_⟩
  have s4 : Same H3 (upd H3 p (.tup [v, u])) := same_upd (Same.refl _) hp
  exact k _ _ ((s2.trans s3).trans s4) (.tup (.of upd_same) (.cons ((dq.same s3).same s4) (.cons (dq2.same s4) .nil)))
theorem dv_ix1 {te : TE} {a b : PyData} (h : DV K q σ H te (.tuple [a, b])) : DV K q σ H (tOp (rIxT K) te (tC (.int 1))) b := by
  intro H1 Q s k
  refine w_op (h H1 _ s fun v H2 s2 dq => w_C ?_)
  cases dq with
  | @tup t xs _ e r =>
    cases r with
    | @cons x _ _ _ r1 r =>
    cases r with
    | @cons y _ _ _ r2 r =>
    cases r with
    | nil => exact w_ixT e (v := y) rfl (k y H2 s2 r2)
theorem dv_lenL {i : Nat} {r : Addr} {xs : List V} (hi : σ[i]? = some (some (.ref r))) (h : SqL K H r xs) : DV K q σ H (tCB (fun xs H Q => ∃ x n, xs = [x] ∧ LenV K x H n ∧ Q (V.int ((n : Nat) : Int)) H) (tCons (tVar i) tNil)) (.int (xs.length : Nat)) := by
  intro H1 Q s k
  exact ⟨_, hi, _, xs.length, rfl, .inl ⟨xs, Same.sqL s h, rfl⟩, k _ H1 (Same.refl _) (.int _)⟩
theorem dv_tupL {i : Nat} {r : Addr} {ns : List Nat} (hi : σ[i]? = some (some (.ref r))) (h : SqL K H r (ns.map fun n => V.int (n : Nat))) : DV K q σ H (tCB (fun xs H Q => ∃ p ys, xs = [V.ref p] ∧ ((SqL K H p ys ∧ ∀ l, H l = none → Q (V.ref l) (upd H l (.tup ys))) ∨ SqT K H p ys ∧ Q (V.ref p) H)) (tCons (tVar i) tNil)) (.tuple (ns.map fun n => .int (n : Nat))) := by
  intro H1 Q s k
  refine ⟨_, hi, r, _, rfl, .inl ⟨Same.sqL s h, fun l hl => ?_⟩⟩
  exact k _ _ (same_upd (Same.refl _) hl) (.tup (.of upd_same) (fr_ints ns))
end
end Two

namespace Two
theorem rgV_nat (k : Nat) : rgV 0 (k : Int) = (List.range k).map fun n => V.int (n : Nat) := by
  unfold rgV
  rw [show ((k : Int) - 0).toNat = k by omega]
  exact List.map_congr_left fun n _ => by rw [Int.zero_add]
theorem nats_of {k : Nat} : ∀ {ys : List V}, (∀ y ∈ ys, y ∈ rgV 0 (k : Int)) → ∃ ns : List Nat, ys = ns.map (fun n => V.int (n : Nat)) ∧ ∀ n ∈ ns, n < k
  | [], _ => ⟨[], rfl, fun n h => nomatch h⟩
  | y :: ys, h => by
    obtain ⟨ns, rfl, hn⟩ := nats_of (ys := ys) fun y' hy => h y' (List.mem_cons_of_mem _ hy)
    have := h y List.mem_cons_self
    rw [rgV_nat] at this
    obtain ⟨n, hm, rfl⟩ := List.mem_map.mp this
    refine ⟨n :: ns, rfl, fun a ha => ?_⟩
    rcases List.mem_cons.mp ha with rfl | ha
    · exact List.mem_range.mp hm
    · exact hn a ha
theorem pc_ints {k : Nat} {ns : List Nat} (h : ∀ n ∈ ns, n < k) (hk : k ≤ 64) (hl : ns.length ≤ 64) : Pc (ns.map fun n => PyData.int (n : Nat)) 18000 := by
  refine ⟨fun x hx => ?_, ?_⟩
  · obtain ⟨n, hn, rfl⟩ := List.mem_map.mp hx
    have := h n hn
    refine ⟨decide_eq_true ?_, rfl⟩
    have : ((n : Nat) : Int).natAbs = n := rfl
    omega
  · rw [pot_szA]
    omega
/-- what stands while the way's neighbours are made -/
structure NSt (K : PySem.W.Frag) (q r N L : Addr) (t : V) (T : PyData) (rows : List V) (H0 H : Hp) (m j : Nat) : Prop where
  hs : HS q H0 H
  pot : PotAt H q m
  fnd : Fnd K q L H j
  rws : H r = some (.lst rows)
  nums : H N = some (.lst (rgV 0 (rows.length : Nat)))
  told : Fr K H t T
  lq : L ≠ q
  l0 : H0 L = none
  rq : r ≠ q
  rl : r ≠ L
  nq : N ≠ q
  nl : N ≠ L
section
variable {K : PySem.W.Frag} {q r N L : Addr} {t : V} {T : PyData} {rows : List V} {H0 H H' : Hp} {m m' j j' : Nat}
theorem NSt.lg (h : NSt K q r N L t T rows H0 H m j) : LG (g2 q L) H := by
  obtain ⟨vs, e, _⟩ := h.fnd
  exact lg_or (pot_lg h.pot) (lg_of e)
theorem NSt.same (h : NSt K q r N L t T rows H0 H m j) (s : Same H H') : NSt K q r N L t T rows H0 H' m j :=
  ⟨h.hs.trans (HS.same s), h.pot.same s, h.fnd.same s, s _ _ h.rws, s _ _ h.nums, h.told.same s, h.lq, h.l0, h.rq, h.rl, h.nq, h.nl⟩
theorem NSt.pt {D : Addr} (h : NSt K q r N L t T rows H0 H m j) (hD : H D = none) (c : CG (g2 q D) H H') (p : PotAt H' q m') : NSt K q r N L t T rows H0 H' m' j := by
  have nD : ∀ {b o}, H b = some o → b ≠ D := fun e => ne_of_none e hD
  have lg : LG (g2 q D) H := lg_or (pot_lg h.pot) (lg_no hD)
  exact ⟨fun b o nb e => by
    have e2 := h.hs _ _ nb e
    exact c _ _ (fun z => z.elim nb (nD e2)) e2, p, h.fnd.cg h.lq hD h.pot c, c _ _ (fun z => z.elim h.rq (nD h.rws)) h.rws, c _ _ (fun z => z.elim h.nq (nD h.nums)) h.nums, h.told.fr (c.ls lg), h.lq, h.l0, h.rq, h.rl, h.nq, h.nl⟩
theorem NSt.dr (h : NSt K q r N L t T rows H0 H m j) (c : HS q H H') (p : PotAt H' q m') : NSt K q r N L t T rows H0 H' m' j := by
  obtain ⟨own, b, c0, e, _⟩ := h.pot
  exact ⟨h.hs.trans c, p, h.fnd.hs h.lq h.pot c, c _ _ h.rq h.rws, c _ _ h.nq h.nums, h.told.fr (c.ls e), h.lq, h.l0, h.rq, h.rl, h.nq, h.nl⟩
theorem NSt.ext (h : NSt K q r N L t T rows H0 H m j) (c : HS L H H') (f : Fnd K q L H' j') : NSt K q r N L t T rows H0 H' m j' := by
  obtain ⟨vs, e, _⟩ := h.fnd
  obtain ⟨own, b, c0, eq, z⟩ := h.pot
  exact ⟨fun b o nb e => c _ _ (fun z => by rw [z, h.l0] at e; cases e) (h.hs _ _ nb e), ⟨own, b, c0, c _ _ (Ne.symm h.lq) eq, z⟩, f, c _ _ h.rl h.rws, c _ _ h.nl h.nums, h.told.fr (c.ls e), h.lq, h.l0, h.rq, h.rl, h.nq, h.nl⟩
theorem NSt.occ (h : NSt K q r N L t T rows H0 H m j) : ∀ x, g2 q L x → ∃ o, H x = some o := fun x hx => by
  obtain ⟨vs, e, _⟩ := h.fnd
  obtain ⟨own, b, c0, eq, z⟩ := h.pot
  rcases hx with rfl | rfl
  · exact ⟨_, eq⟩
  · exact ⟨_, e⟩
end
theorem low_w {w : Str} (hw : w = "wakes" ∨ w = "sleeps") : okN (.str w) = true ∧ szD (.str w) ≤ 70 := by
  rcases hw with rfl | rfl <;> decide +kernel
theorem fit_nil : Fit 20000 4 (.tuple []) := (fit_of (es := []) (fun d h => nomatch h) (by decide)).1
theorem way_fits {w : Str} {xs : List PyData} (hw : w = "wakes" ∨ w = "sleeps") (hx : Pc xs 8000) :
    Fit 20000 4 (.tuple [.str w, .tuple xs]) ∧ Fit 20000 4 (.list [.str w, .tuple xs]) ∧ Fit 20000 4 (.tuple [PyData.str w, .tuple xs].reverse) ∧ Fit 20000 4 (.tuple (cutD [.str w, .tuple xs] none (some 1))) ∧ Fit 20000 4 (.tuple ([.str w, .tuple xs] ++ [.none])) := by
  obtain ⟨l1, l2⟩ := low_w hw
  have a1 : okN (.str w) = true ∧ (PyData.str w).depth ≤ 2 := ⟨l1, Nat.zero_le _⟩
  have a2 := (pc_sq hx).1
  have z := hx.2
  have z0 : szA [PyData.str w, .tuple xs] ≤ 9000 := by
    show szD (.str w) + 2 + (szA xs + 3 + 2 + 0) ≤ 9000
    omega
  have f1 := fit_of (two_ok a1 a2) (by omega)
  refine ⟨f1.1, f1.2, (fit_of (two_ok a2 a1) ?_).1, ?_, ?_⟩
  · show szA xs + 3 + 2 + (szD (.str w) + 2 + 0) ≤ 19000
    omega
  · have := cutD_szA [PyData.str w, .tuple xs] none (some 1)
    exact (fit_of (fun d hd => two_ok a1 a2 d (cutD_mem hd)) (by omega)).1
  · refine (fit_of (fun d hd => ?_) ?_).1
    · rcases List.mem_append.mp hd with h | h
      · exact two_ok a1 a2 d h
      · rw [List.mem_singleton.mp h]
        exact ⟨rfl, Nat.zero_le _⟩
    · rw [szA_append]
      show _ + (5 + 2 + 0) ≤ 19000
      omega
theorem pc_app {xs ys : List PyData} {a b c : Nat} (hx : Pc xs a) (hy : Pc ys b) (h : a + b ≤ c) : Pc (xs ++ ys) c :=
  ⟨fun x h => (List.mem_append.mp h).elim (hx.1 x) (hy.1 x), by rw [szA_append]; have := hx.2; have := hy.2; omega⟩
theorem pc_cut {xs : List PyData} {a : Nat} {lo hi : Option Int} (hx : Pc xs a) : Pc (cutD xs lo hi) a := ⟨fun x h => hx.1 x (cutD_mem h), Nat.le_trans (cutD_szA _ _ _) hx.2⟩
theorem pc_rev {xs : List PyData} {a : Nat} (hx : Pc xs a) : Pc xs.reverse a := ⟨fun x h => hx.1 x (List.mem_reverse.mp h), by rw [szA_rev]; exact hx.2⟩
theorem pc_one {i : Int} (hi : i.natAbs < 2 ^ 100) : Pc [.int i] 112 := ⟨fun x h => by
  rw [List.mem_singleton.mp h]
  exact ⟨decide_eq_true hi, rfl⟩, Nat.le_refl 112⟩
theorem Pc.le {xs : List PyData} {a b : Nat} (hx : Pc xs a) (h : a ≤ b) : Pc xs b := ⟨hx.1, Nat.le_trans hx.2 h⟩
end Two

/-- a tuple of so many that begins with the word -/
def spHasFormN (K : PySem.W.Frag) : Sp := fun vs H Q _ => ∃ (a q : Addr) (w : Str) (xs : List V) (d : PyData) (n : Int), vs = [.ref a, .str w, .int n] ∧ SqT K H a (.str w :: xs) ∧ Dq K q H (.ref a) d ∧ (∃ ds, d = .tuple ds) ∧ n = (xs.length + 1 : Nat) ∧ Q (.bl true) H
/-- numbers of bundles, none twice -/
def spAreNumbersR (K : PySem.W.Frag) (C : Addr) : Sp := fun vs H Q _ => ∃ (p t : Addr) (ds : List Str) (bs : List Bun) (ns : List Nat), vs = [.ref p, .ref t] ∧ RulesAt K C H p ds bs ∧ bs.length ≤ 64 ∧ SqT K H t (ns.map fun n => V.int (n : Nat)) ∧ ns.Nodup ∧ (∀ n ∈ ns, n < bs.length) ∧ ns.length ≤ 64 ∧ ∀ H', Same H H' → Q (.bl true) H'
/-- the first of the numbers' bundles can't bring anything -/
def spLeadsNo (K : PySem.W.Frag) (C : Addr) : Sp := fun vs H Q _ => ∃ (p t : Addr) (y : V) (ds l : List Str) (bs : List Bun) (ns : List Nat) (n : Nat) (d : Str) (b : Bun), vs = [.ref p, y, .str d, .ref t] ∧ RulesAt K C H p ds bs ∧ Devs ds ∧ RowsOf ds bs ∧ bs.length ≤ 64 ∧ LotAt K H y l ∧ l.Sublist ds ∧ SqT K H t ((n :: ns).map fun n => V.int (n : Nat)) ∧ (n :: ns).length ≤ 64 ∧ bs[n]? = some b ∧ (b.1.all fun d => decide (d ∈ l)) = false ∧ ∀ H', Same H H' → Q (.bl false) H'
def spShowsWayNo (K : PySem.W.Frag) (C : Addr) : Sp := fun vs H Q _ => ∃ (p T t : Addr) (y : V) (d : Str) (ds l : List Str) (bs : List Bun) (e : Nat) (ns : List Nat) (n : Nat) (b : Bun), vs = [.ref p, y, .str d, .ref T] ∧ RulesAt K C H p ds bs ∧ LotAt K H y l ∧ l.Sublist ds ∧ Devs ds ∧ RowsOf ds bs ∧ bs.length ≤ 64 ∧ d ∈ ds ∧ IsEnd (stepsOf ds bs) (maskOf ds l) e ∧ d ∈ lotOf ds e ∧
  SqT K H T [.str "wakes", .ref t] ∧ SqT K H t ((n :: ns).map fun n => V.int (n : Nat)) ∧ (n :: ns).Nodup ∧ (∀ i ∈ n :: ns, i < bs.length) ∧ (n :: ns).length ≤ 64 ∧ bs[n]? = some b ∧ (b.1.all fun d => decide (d ∈ l)) = false ∧ ∀ H', Same H H' → Q (.bl false) H'
section
variable {P : Program} {w : World} {K : PySem.W.Frag} {mg : Str → Option Value} {base : Heap}
theorem ok_has_formN (F : FunAt K mg "has_form" shas_form) (T : Txt mg) : Def P w K mg base 1 "has_form" Phas_form (spHasFormN K) := by
  refine def_of F schas_form bshas_form (fun vs H Q E h => ?_) fun f cdv A outer s H vs Q E hr h => ?_
  · obtain ⟨a, q, w, xs, d, n, rfl, _⟩ := h
    rfl
  · refine ⟨_, (pss_one (ps_ret (pe_and (pe_callB call_isi (by rfl) T.n_isinstance (by decide +kernel) (pa_cons (pv 0) (pa_cons (pe_bltn (v := .ty "tuple") (by rfl) T.n_tuple (by decide +kernel) rfl) pa_nil))) (pe_and (pe_cmpR op_eq (pe_callB call_len (by rfl) T.n_len PySem.boot_len (pa_cons (pv 0) pa_nil)) (pv 2) (nomark _)) (pe_one (pe_cmpR op_eq (pe_ix ix_tup (pv 0) pe_int (fun _ _ => rfl)) (pv 1) (nomark _))))))), ?_⟩
    obtain ⟨a, q, w, xs, d, n, rfl, ha, hd, ⟨ds, rfl⟩, rfl, go⟩ := h
    walk_at "v"
    refine w_isT true hd (by kernel_rfl) ?_
    refine ⟨_, rfl, iteT ?_⟩
    refine w_andV ?_
    refine w_op ?_
    refine w_cb ?_
    refine w_cons ?_
    refine w_var rfl ?_
    refine w_nil ?_
    refine ⟨_, _, rfl, .inr ⟨_, ha, rfl⟩, ?_⟩
    refine w_var rfl ?_
    refine w_eqSame rfl ?_
    refine ⟨_, rfl, iteT ?_⟩
    walk_at "v"
    refine w_ixT ha (show atI (V.str w :: xs) ((0 : Nat) : Int) = some (V.str w) from atI_nat rfl) ?_
    walk_at "v"
    refine w_eqSame rfl ?_
    exact go
end

/-! ## an error that was caught, as a value that goes on -/
/-- the object at a is an error of this class, with this dict -/
def exc (a : Addr) (cls : Value) (d : Option Addr) : HO := .ext fun h => ∃ o vs, h.get? a = some o ∧ o.cls = cls ∧ o.dict = d ∧ o.data = .fields vs
theorem exc_not {a : Addr} {cls : Value} {d : Option Addr} {o : HO} (h : ∀ φ, o ≠ .ext φ) : exc a cls d ≠ o := fun z => h _ z.symm
section
variable {X : Cx} {pins : List (Addr × Obj)} {σ : L2.St} {H : Hp} {s : Shared} {a : Addr}
/-- what the heap holds beside H comes into H -/
theorem inv_more {oa : Obj} {o : HO} (I : Inv X pins σ H s) (ha : s.heap.get? a = some oa) (hd : ∀ v, oa.data ≠ .cell v) (na : H a = none) (nL : a ≠ X.env.locals) (nF : a ∉ X.fs) (n0 : X.s_0.heap.get? a = none)
    (np : ∀ p ∈ X.pn ++ pins, p.1 ≠ a) (ok : ObjOk X.prog X.w (upd H a o) s.heap a o) : Inv X pins σ (upd H a o) s := by
  have ne : ∀ {b u}, H b = some u → b ≠ a := fun e => ne_of_none e na
  have up : ∀ {b u}, H b = some u → upd H a o b = some u := fun e => by
    rw [upd_ne (ne e)]
    exact e
  constructor
  · exact I.ok
  · exact I.os
  · exact I.bare
  · exact ⟨I.base.keep, I.base.slot, fun b u e n x => by
      rw [upd_ne (fun z => by rw [z, n0] at e; cases e)]
      exact I.base.free b u e n x, I.base.there, fun b xs e => up (I.base.tups b xs e), fun b u v e => up (I.base.frzs b u v e), fun b ps e => by
      obtain ⟨more, e'⟩ := I.base.tbls b ps e
      exact ⟨more, up e'⟩⟩
  · exact I.loc
  · exact I.cell
  · rw [upd_ne (Ne.symm nL)]
    exact I.free
  · intro x c e
    obtain ⟨v, oc, e1, e2⟩ := I.cell x c e
    rw [upd_ne (fun z => by rw [z, ha] at e1; exact hd _ ((Option.some.inj e1) ▸ e2))]
    exact I.freeC x c e
  · intro p hp
    obtain ⟨p1, p2, p3⟩ := I.pin p hp
    exact ⟨p1, by rw [upd_ne (np p hp)]; exact p2, p3⟩
  · intro b u e
    by_cases hb : b = a
    · subst hb
      rw [upd_same] at e
      obtain rfl := Option.some.inj e
      exact ok
    · rw [upd_ne hb] at e
      exact (I.hok b u e).stay (fun _ _ _ q => q) (fun _ q => up q) fun _ _ q => up q
  · exact I.len

/-- what the clause 'except x as n' wishes of an error of the body: behind it the error is held in H -/
def wGot (K : PySem.W.Frag) (c : Value) (i : Nat) (ts : Addr → Value → Option Addr → TS) (D : Ends) : WX := fun cls d σ' H' =>
  PySem.W.exmOne K cls c = some true ∧ ∀ b, H' b = none → ts b cls d { nx := fun σ2 H2 => D.nx (σ2.set i none) (upd H2 b (exc b cls d)), rt := fun _ _ => False, bk := fun _ _ => False, ct := fun _ _ => False } (σ'.set i (some (.ref b))) H'
/-- what is to be shown when an error comes out of the body -/
def atCatch (X : Cx) (pins : List (Addr × Obj)) (D : Ends) (h0 : ExceptHandler) : Value → Shared → Prop := fun u s1 =>
  wpAny (model X.prog X.w) X.A (noteFrame u X.env) (fun _ s2 => wpAny (model X.prog X.w) X.A (setFlight u none) (fun _ s3 => wpAny (model X.prog X.w) X.A (handleBy u X.env [h0]) (SP X pins D) X.xe s3) X.xe s2) X.xe s1
theorem got_caught {x n : Str} {c : Value} {i : Nat} {suite : List Stmt} {st₀ : Stmt} {p1 p2 : Pos} {ts : Addr → Value → Option Addr → TS} {D : Ends} {xe : Value → Shared → Prop} {u : Value} {s1 : Shared}
    (okX : X.Ok) (stk : X.stack = X.env :: X.outer) (frm : X.env.frame = some X.env.locals) (hex : X.ex = []) (hN : X.N.Nodup) (hi : X.N[i]? = some n) (hloc : X.env.kindOf n = some .local) (nam : Names X x c)
    (hsu : ∀ (b : Addr) (ob : Obj) (cls : Value) (d : Option Addr) (pn : List (Addr × Obj)), PSs (X.suite b ((b, ob) :: pn)) (st₀ :: suite) (ts b cls d))
    (xx : XE (X.tr (X.pn ++ pins) xe) (wGot X.K c i ts D) u s1) : atCatch X pins D (.ExceptHandler (some (.Name x p1)) (some n) (st₀ :: suite) p2) u s1 := by
  obtain ⟨a, B, sR, ps, σ1, H1, cls, d, rfl, IR, kept, slots, sky, nH, hos, hgen, hyes, goes⟩ := xx
  have I1 : Inv X pins σ1 H1 sR := IR.ofTry okX
  have fr : X.A.frames = some (X.env :: X.outer) := okX.frames.trans (congrArg some stk)
  have sky2 : Sky B (X.env :: X.outer) a (Zc cls d) X.env.locals s1.heap := by
    have z : Sky B X.stack a (Zc cls d) X.env.locals s1.heap := sky
    rwa [stk] at z
  refine Sky.land Zc.steady fr frm sky2 fun ha fla upa => ?_
  have Ia : Inv X pins σ1 H1 { s1 with heap := ha } := I1.landed kept fla.1 (slots.trans upa) hos hgen
  obtain ⟨oa, va, ea, za, da⟩ := fla.there
  have out : a ∉ frs (X.env :: X.outer) := fun hm => by
    obtain ⟨_, o', e', hn⟩ := fla.2.2.1.mem hm
    obtain rfl := Option.some.inj (ea.symm.trans e')
    exact hn _ da
  have nL : a ≠ X.env.locals := fun z => out (List.mem_filterMap.mpr ⟨X.env, List.mem_cons_self, by rw [frm, z]⟩)
  have nF : a ∉ X.fs := fun hm => by
    obtain ⟨e, he, w⟩ := List.mem_filterMap.mp hm
    exact out (List.mem_filterMap.mpr ⟨e, List.mem_cons_of_mem _ he, w⟩)
  have low : ∀ {b o}, sR.heap.get? b = some o → b ∉ frs X.stack → b ≠ a := fun {b o} e hb z => by
    have := kept b o e hb
    rw [z, fla.2.1] at this
    cases this
  have n0 : X.s_0.heap.get? a = none := by
    cases z : X.s_0.heap.get? a with
    | none => rfl
    | some o =>
      obtain ⟨o', e'⟩ := I1.base.there a o z (by rw [hex]; simp)
      exact absurd rfl (low e' (by rw [stk]; exact out))
  have np : ∀ p ∈ X.pn ++ pins, p.1 ≠ a := fun p hp => by
    obtain ⟨q1, _, q3, q4, _⟩ := I1.pin p hp
    refine low q1 fun hm => ?_
    rw [stk] at hm
    obtain ⟨e, he, w⟩ := List.mem_filterMap.mp hm
    rcases List.mem_cons.mp he with rfl | he
    · rw [frm] at w
      exact q3 (Option.some.inj w).symm
    · exact q4 (List.mem_filterMap.mpr ⟨e, he, w⟩)
  have Sa := Ia.suite ea da nH nL nF
  refine wpAny_handleBy_cons (codeAny_handlers_test ?_) (fun z => nomatch z)
  have look : PySem.W.Looks (model X.prog X.w) ha (typeOf (.ref a)) cls := fun A Q E s k q => wpAny_typeOf_ref (k _ _ ea) (by rw [za.1]; exact q)
  have fits := PySem.W.exm_one (M := model X.prog X.w) Ia.kIn look hyes
  have evalN : ∀ {Q E : Value → Shared → Prop}, Q c { s1 with heap := ha } → wpAny (model X.prog X.w) (X.A.mark (some (.ref a))) (eval (.Name x p1) X.env) Q E { s1 with heap := ha } := fun {Q E} q => by
    rcases nam with ⟨g1, g2, g3 | ⟨g3, g4, g5⟩⟩
    · exact ld_glob (X := X.suite a ((a, oa) :: (X.pn ++ pins))) Sa g1 g3 q g2
    · exact ld_blt (X := X.suite a ((a, oa) :: (X.pn ++ pins))) Sa g1 g3 g4 q g5 g2
  refine evalN (fits.here ?_)
  refine codeAny_handlers_suite_as (HandSPX.lands_againZ fla fun hb flb upb => ?_)
  have Ib : Inv X pins σ1 H1 { s1 with heap := hb } := I1.landed kept flb.1 ((slots.trans upa).trans upb) hos hgen
  obtain ⟨ob, vb, eb, zb, db⟩ := flb.there
  refine store_ok (X := X.suite a ((a, ob) :: (X.pn ++ pins))) (v := .ref a) (Ib.suite eb db nH nL nF) hN hi (.inl hloc) rfl (fun s5 S5 => ?_) (.inr hloc)
  refine wpAny_mono ((hsu a ob cls d (X.pn ++ pins)).run [] s5 _ H1 _ S5 (goes a nH)) (fun f s6 hsp => ?_) (fun _ _ z => False.elim z)
  cases f with
  | next =>
    obtain ⟨σ6, H6, S6, q6⟩ := hsp
    have base6 := S6.unsuite okX
    have pinned := S6.pin (a, ob) (List.mem_append_left _ List.mem_cons_self)
    have J6 : Inv X ((a, ob) :: pins) σ6 H6 s6 := ⟨base6.ok, base6.os, base6.bare, base6.base, base6.loc, base6.cell, base6.free, base6.freeC, fun p hp => by
      rcases List.mem_append.mp hp with h | h
      · exact base6.pin p (List.mem_append_left _ h)
      · rcases List.mem_cons.mp h with rfl | h
        · exact pinned
        · exact base6.pin p (List.mem_append_right _ h), base6.hok, base6.len⟩
    refine gone_ok J6 hN hi hloc fun s7 J7 => ?_
    obtain ⟨e7, m7, _⟩ := J7.pin (a, ob) (List.mem_append_right _ List.mem_cons_self)
    have K7 : Inv X pins (σ6.set i none) H6 s7 := ⟨J7.ok, J7.os, J7.bare, J7.base, J7.loc, J7.cell, J7.free, J7.freeC, fun p hp => by
      rcases List.mem_append.mp hp with h | h
      · exact J7.pin p (List.mem_append_left _ h)
      · exact J7.pin p (List.mem_append_right _ (List.mem_cons_of_mem _ h)), J7.hok, J7.len⟩
    refine ⟨_, _, inv_more K7 e7 (fun v z => by rw [show ob.data = .cell v from z] at db; cases db) m7 nL nF n0 np ?_, q6⟩
    refine ⟨⟨ob, vb, e7, zb.1, zb.2, db⟩, ⟨ob, e7⟩, fun h1 h2 ⟨o, vs, w1, w2⟩ k => ⟨o, vs, k _ w1, w2⟩⟩
  | brk =>
    obtain ⟨_, _, _, q6⟩ := hsp
    exact False.elim q6
  | cont =>
    obtain ⟨_, _, _, q6⟩ := hsp
    exact False.elim q6
  | ret u =>
    obtain ⟨_, _, _, _, _, q6⟩ := hsp
    exact False.elim q6
/-- try: body / except x as n: suite, where the error goes on as a value -/
theorem ps_catch {x n : Str} {c : Value} {i : Nat} {body suite : List Stmt} {st₀ : Stmt} {p1 p2 p3 : Pos} {tb : WX → TS} {ts : Addr → Value → Option Addr → TS}
    (stk : X.stack = X.env :: X.outer) (frm : X.env.frame = some X.env.locals) (hex : X.ex = []) (hN : X.N.Nodup) (hi : X.N[i]? = some n) (hloc : X.env.kindOf n = some .local) (nam : Names X x c)
    (hb : ∀ (W : WX) (pn : List (Addr × Obj)) (xe : Value → Shared → Prop), Takes (X.tr pn xe) W → PSs (X.tr pn xe) body (tb W))
    (hsu : ∀ (b : Addr) (ob : Obj) (cls : Value) (d : Option Addr) (pn : List (Addr × Obj)), PSs (X.suite b ((b, ob) :: pn)) (st₀ :: suite) (ts b cls d)) :
    PS X (.Try body [.ExceptHandler (some (.Name x p1)) (some n) (st₀ :: suite) p2] [] [] p3) (fun D σ' H' => tb (wGot X.K c i ts D) D σ' H') := by
  refine ⟨fun pins s σ H D I h => wpAny_Try_except ?_⟩
  have okX := I.ok
  have inside := (hb (wGot X.K c i ts D) (X.pn ++ pins) (atCatch X pins D (.ExceptHandler (some (.Name x p1)) (some n) (st₀ :: suite) p2)) fun u s1 xx => got_caught okX stk frm hex hN hi hloc nam hsu xx).run [] s σ H D (I.toTry _) h
  refine wpAny_mono inside (fun f s1 hf => ?_) fun _ _ e => e
  cases f with
  | next =>
    obtain ⟨σ1, H1, I1, q⟩ := hf
    exact wpAny_execs_nil ⟨σ1, H1, I1.ofTry okX, q⟩
  | brk =>
    obtain ⟨σ1, H1, I1, q⟩ := hf
    exact ⟨σ1, H1, I1.ofTry okX, q⟩
  | cont =>
    obtain ⟨σ1, H1, I1, q⟩ := hf
    exact ⟨σ1, H1, I1.ofTry okX, q⟩
  | ret u =>
    obtain ⟨v, σ1, H1, I1, rv, q⟩ := hf
    exact ⟨v, σ1, H1, I1.ofTry okX, rv, q⟩
end

open PySem PySem.Spec PyProof.Rows L2 LamX
/-! ## a def that is given a lambda, where what is raised knows the names' values -/
section
variable {X : Cx} {pins : List (Addr × Obj)} {σ : L2.St} {H : Hp} {s : Shared}
theorem pe_actS {CG : CXT} {EG : XK} {names : List Str} {qual : Str} {sg : Scope} {g f cc : Addr} {cdg pm ct : Value} {params : Arguments} {body : Expr} {scope : Scope} {k i : Nat} {a : Str} {pn : List (Addr × Obj)} {xe : Value → Shared → Prop} {W : WX} {tb : XK → TE} {p1 p2 : Pos}
    (I : Inv X pins σ H s) (L : LamS X.env.scope scope) (at_f : s.heap.get? f = some (PySem.W.kla_obj "<lambda>" (X.env.qual ++ "<lambda>") params body scope (cloFrom X.env.cells scope.names []) pm cc ct)) (nH : H f = none) (nS : f ∉ frs X.stack)
    (empty : bindArgs (PySem.W.kla_fn "<lambda>" (X.env.qual ++ "<lambda>") params body scope (cloFrom X.env.cells scope.names []) pm (.ref cc) ct) ⟨[], []⟩ = pure [])
    (tk : Takes ((cxOf CG X.prog X.w X.K X.mg X.base names qual sg g cdg X.A X.stack s H EG).tr pn xe) W) (room : Room (k + 1) (X.A.deeper (envOfC qual sg s.heap.objs.size g cdg)))
    (hbody : ∀ (E : XK) (A : Around) (outer : List Env) (s : Shared) (H : Hp), Room k (A.deeper (lamEnv X scope s.heap.objs.size f cc)) → PE (lamCx X A outer s H E scope f cc) body (tb E))
    (hN : names[i]? = some a) (vis : Vis sg a) (nd : (a == ("__debug__" : Str)) = false) (nc : (a == ("__classdict__" : Str)) = false) :
    PE ((cxOf CG X.prog X.w X.K X.mg X.base names qual sg g cdg X.A X.stack s H EG).tr pn xe) (.Call (.Name a p1) [] [] p2)
      (fun τ G Q => τ[i]? = some (some (.ref f)) ∧ G cc = some (CodeO cc (X.env.qual ++ "<lambda>")) ∧ tb (fun cls d H' => W cls d τ H') σ G Q) := by
  refine ⟨fun pz sz τ G Q IZ h => ?_⟩
  have read := (pe_var (pos := p1) (i := i) hN vis nd nc).run pz sz τ G (fun v G1 => v = .ref f ∧ G1 = G) IZ ⟨.ref f, h.1, rfl, rfl⟩
  refine wpAny_Call_Name_kw (thn read fun u s1 ⟨v, G1, I1, rv, z1, z2⟩ => ?_)
  rw [z1] at rv
  rw [z2] at I1
  obtain rfl : u = Value.ref f := rv
  have keep_f := I1.base.keep f _ at_f nH nS fun z => absurd (show f ∈ ([] : List Addr) from z) (by simp)
  refine PySem.W.callWith_F0 ⟨_, _, _, _, keep_f⟩ ?_
  obtain ⟨⟨oc, vs, t, c1, c2, c3⟩, _, _⟩ := I1.hok cc _ h.2.1
  have run : codeAny (model X.prog X.w) (X.A.deeper (envOfC qual sg s.heap.objs.size g cdg)) (.call (.ref f) ⟨[], []⟩)
      (CR (L2.CX X.prog X.w) (envOfC qual sg s.heap.objs.size g cdg :: X.stack) X.prog X.w G s1 Q fun cls d H' => W cls d τ H') s1 := by
    refine PySem.W.kla_callFunE room.depth keep_f rfl L.co L.gen rfl ⟨cc, oc, vs, t, rfl, c1, c2, c3⟩ ?_
    rw [empty]
    refine wpAny_pure (wpAny_newFunctionEnv (fun y hy => (L.own y hy).2) (fun y hy => absurd hy (by simp)) (fun h2 ns2 sb2 => ⟨I1.nolimit.fresh _ sb2, ?_⟩) L.kind)
    have grown : ∀ b o, s1.heap.get? b = some o → h2.get? b = some o := fun b o e => sb2.extBut b o (Nat.ne_of_lt (Heap.lt_size e)) (Heap.get?_push_of_some _ e)
    have J := lam_start2 (tk := s1.toks + ([] : List (Str × Value)).length) (E := fun cls d H' => W cls d τ H') (f := f) (c' := cc) I L I1.env0 room.hd I1.base ns2 grown
    refine PySem.W.kla_codeExpr (wpAny_mono ((hbody _ _ _ s1 G (room.deeper _)).run [] _ _ G Q J h.2.2) (fun v s2 hq => ?_) fun _ _ hq => hq)
    obtain ⟨w2, G2, J2, r2, q2⟩ := hq
    exact ⟨w2, G2, J2.os, J2.bare, J2.base, J2.hok, r2, q2⟩
  refine wpAny_call (codeAny_mono run fun r s2 hq => ?_)
  cases r with
  | error e => exact passAt tk τ pz G s1 e s2 I1 hq
  | ok fl =>
    cases fl with
    | ret u => exact I1.after hq
    | next => exact hq.elim
    | brk => exact hq.elim
    | cont => exact hq.elim
/-- (the error that was caught, what came back): what is left to do in the def that tells it -/
def endGot (Q : VK) : Ends := { nx := tRet (tTup (tCons (tVar 1) (tCons (tVar 2) tNil))) { nx := fun _ G => Q .non G, rt := Q }, rt := Q }
def slotsGot (f : Addr) : L2.St := [some (.ref f), some .non, some .non, none]
def TTget (K : PySem.W.Frag) (CS : Addr) : (XK → Hp → VK → Prop) → Hp → VK → Prop := fun tl H Q => ∀ f p0, H p0 = none →
  tl (fun cls d G => wGot K (.ref CS) 3 (fun _ _ _ => tAsg (tVar 3) (gName 1)) (endGot Q) cls d (slotsGot f) G) (upd H p0 (.tup [.non, .non])) fun v G => gName 2 v (slotsGot f) G (endGot Q).nx
theorem got_E {K : PySem.W.Frag} {CS f : Addr} {Q : VK} {cls : Value} {d : Option Addr} {G : Hp} (h1 : PySem.W.exmOne K cls (.ref CS) = some true)
    (h2 : ∀ b, G b = none → ∀ p, upd G b (exc b cls d) p = none → Q (.ref p) (upd (upd G b (exc b cls d)) p (.tup [.ref b, .non]))) : wGot K (.ref CS) 3 (fun _ _ _ => tAsg (tVar 3) (gName 1)) (endGot Q) cls d (slotsGot f) G := by
  refine ⟨h1, fun b hb => ⟨.ref b, rfl, ?_⟩⟩
  refine ⟨_, rfl, _, rfl, ?_⟩
  exact ⟨by show 2 ≤ sizeLine; rw [sizeLine_eq]; decide, fun p hp => h2 b hb p hp⟩
theorem got_Q {f : Addr} {Q : VK} {v : V} {G : Hp} (h : ∀ p, G p = none → Q (.ref p) (upd G p (.tup [.non, v]))) : gName 2 v (slotsGot f) G (endGot Q).nx := by
  refine ⟨_, rfl, _, rfl, ?_⟩
  exact ⟨by show 2 ≤ sizeLine; rw [sizeLine_eq]; decide, h⟩
/-- the def that calls what it is given; TT: what it makes of the lambda's reading -/
def GivesS (X : Cx) (names : List Str) (x : Str) (sg : Scope) (g : Addr) (cdg : Value) (bg : List Stmt) (a q : Str) (TT : (XK → Hp → VK → Prop) → Hp → VK → Prop) : Prop :=
  ∀ (f cc : Addr) (s : Shared) (H : Hp) (Q : VK) (tl : XK → Hp → VK → Prop),
    (∀ (W : WX) (pn : List (Addr × Obj)) (xe : Value → Shared → Prop) (p1 p2 : Pos), Takes ((cxOf C8.CX0 X.prog X.w X.K X.mg X.base names x sg g cdg X.A X.stack s H C8.E0).tr pn xe) W →
      PE ((cxOf C8.CX0 X.prog X.w X.K X.mg X.base names x sg g cdg X.A X.stack s H C8.E0).tr pn xe) (.Call (.Name a p1) [] [] p2) (fun τ G R => τ[0]? = some (some (.ref f)) ∧ G cc = some (CodeO cc q) ∧ tl (fun cls d H' => W cls d τ H') G R)) →
    H cc = some (CodeO cc q) → TT tl H Q → ∃ t, PSs (cxOf C8.CX0 X.prog X.w X.K X.mg X.base names x sg g cdg X.A X.stack s H C8.E0).nox bg t ∧ t { nx := fun _ G => Q .non G, rt := Q } (L2.start names [.ref f]) H
/-- x(lambda: body) -/
theorem pe_give {T : List (Addr × Str)} {TT : (XK → Hp → VK → Prop) → Hp → VK → Prop} {x a : Str} {g c P : Addr} {k : Nat} {pg : Arguments} {bg : List Stmt} {sg : Scope} {dV kV doc pm cdv ct oc : Value} {an od : Option Addr} {osl : Array (Option Value)} {names : List Str}
    {params : Arguments} {body : Expr} {scope : Scope} {t : XK → TE} {p lpos pos : Pos} (hx : Gl X x) (mx : X.mg x = some (.ref g)) (kx : PySem.W.keepIn X.K (.ref g) = true)
    (lk : X.K.lookup g = some ⟨oc, od, .func (PySem.W.fnOf x x pg bg sg dV kV doc pm an cdv ct), osl⟩) (cd : PySem.W.codeIn X.K cdv x = true) (hb : L2.Binds X.K (PySem.W.fnOf x x pg bg sg dV kV doc pm an cdv ct) [a] []) (Sg : FnScope names [a] sg) (n0 : names[0]? = some a) (vis : Vis sg a)
    (gives : GivesS X names x sg g cdv bg a (X.env.qual ++ "<lambda>") TT) (tab : TabB X.base X.mg c P) (code : X.env.code = .ref c) (mem : (P, X.env.qual ++ "<lambda>") ∈ T) (uniq : ∀ p ∈ T, p.1 = P → p.2 = X.env.qual ++ "<lambda>")
    (room : Room (k + 2) X.A) (L : LamS X.env.scope scope) (none0 : defaultsOf params X.env = ([], []))
    (binds0 : ∀ (q : Str) (cl : List (Str × Addr)) (pm cv ctv : Value), bindArgs (PySem.W.kla_fn "<lambda>" q params body scope cl pm cv ctv) ⟨[], []⟩ = pure [])
    (hbody : ∀ (E : XK) (A : Around) (outer : List Env) (s : Shared) (H : Hp) (f cc : Addr), Room k (A.deeper (lamEnv X scope s.heap.objs.size f cc)) → PE (lamCx X A outer s H E scope f cc) body (t E))
    (nd1 : (x == ("__debug__" : Str)) = false := by decide) (nd2 : (a == ("__debug__" : Str)) = false := by decide) (nd3 : (a == ("__classdict__" : Str)) = false := by decide) :
    PE X (.Call (.Name x p) [.Lambda params body scope lpos] [] pos) (tLam T TT t) := by
  refine ⟨fun pins s σ H Q I ⟨tabs, go⟩ => wpAny_Call_Name_kw (ld_glob I hx mx ?_ nd1)⟩
  refine PySem.W.callWith_K (h₀ := X.base) I.ok.mod.kin kx ?_ (by rfl) (by rfl)
  refine (show wpAny _ _ (spliced ((false, eval (.Lambda params body scope lpos) X.env) :: backTo pos (starEach [] X.env))) _ _ s from ?_)
  refine Calls.spliced_cons (lam_make2 I tab code mem uniq tabs none0 (L.has I.ok) fun f cc pm2 ctv H1 s1 I1 grown tabs1 atf nf fs hcc => Calls.spliced_nil ⟨I1.kIn, ?_⟩)
  have run : codeAny (model X.prog X.w) X.A (.call (.ref g) ⟨[.ref f], []⟩) (CR C8.CX0 X.stack X.prog X.w H1 s1 Q C8.E0) s1 :=
    run_ofS (N := names) (ps := [a]) (us := [.ref f]) (vs := [.ref f]) lk cd Sg room I1.env0 (hb s1 [.ref f] I1.kIn rfl) (.cons rfl .nil) rfl fun room1 => by
      obtain ⟨u, hu, hq⟩ := gives f cc s1 H1 Q (fun E G R => t E σ G R) (fun W pn xe p1 p2 tk => pe_actS (i := 0) I1 L atf nf fs (binds0 _ _ _ _ _) tk room1 (fun E A outer s H r => hbody E A outer s H f cc r) n0 vis nd2 nd3) hcc (go H1 grown tabs1)
      exact ⟨u, hu.nox, hq⟩
  refine wpAny_call (codeAny_mono run fun r s2 hq => ?_)
  cases r with
  | error e => exact absurd hq id
  | ok fl =>
    cases fl with
    | ret u => exact I1.after hq
    | next => exact hq.elim
    | brk => exact hq.elim
    | cont => exact hq.elim
/-- the same, with one table -/
theorem pe_give1 {qn : Str} {TT : (XK → Hp → VK → Prop) → Hp → VK → Prop} {x a : Str} {g c P : Addr} {k : Nat} {pg : Arguments} {bg : List Stmt} {sg : Scope} {dV kV doc pm cdv ct oc : Value} {an od : Option Addr} {osl : Array (Option Value)} {names : List Str}
    {params : Arguments} {body : Expr} {scope : Scope} {t : XK → TE} {p lpos pos : Pos} (hx : Gl X x) (mx : X.mg x = some (.ref g)) (kx : PySem.W.keepIn X.K (.ref g) = true)
    (lk : X.K.lookup g = some ⟨oc, od, .func (PySem.W.fnOf x x pg bg sg dV kV doc pm an cdv ct), osl⟩) (cd : PySem.W.codeIn X.K cdv x = true) (hb : L2.Binds X.K (PySem.W.fnOf x x pg bg sg dV kV doc pm an cdv ct) [a] []) (Sg : FnScope names [a] sg) (n0 : names[0]? = some a) (vis : Vis sg a)
    (eq : X.env.qual = qn) (gives : ∀ q, GivesS X names x sg g cdv bg a q TT) (tab : TabB X.base X.mg c P) (code : X.env.code = .ref c)
    (room : Room (k + 2) X.A) (L : LamS X.env.scope scope) (none0 : defaultsOf params X.env = ([], []))
    (binds0 : ∀ (q : Str) (cl : List (Str × Addr)) (pm cv ctv : Value), bindArgs (PySem.W.kla_fn "<lambda>" q params body scope cl pm cv ctv) ⟨[], []⟩ = pure [])
    (hbody : ∀ (E : XK) (A : Around) (outer : List Env) (s : Shared) (H : Hp) (f cc : Addr), Room k (A.deeper (lamEnv X scope s.heap.objs.size f cc)) → PE (lamCx X A outer s H E scope f cc) body (t E))
    (nd1 : (x == ("__debug__" : Str)) = false := by decide) (nd2 : (a == ("__debug__" : Str)) = false := by decide) (nd3 : (a == ("__classdict__" : Str)) = false := by decide) :
    PE X (.Call (.Name x p) [.Lambda params body scope lpos] [] pos) (tLam [(P, qn ++ "<lambda>")] TT t) := by
  subst eq
  exact pe_give (T := [(P, X.env.qual ++ "<lambda>")]) hx mx kx lk cd hb Sg n0 vis (gives _) tab code List.mem_cons_self (fun p hp _ => by rw [List.mem_singleton.mp hp]) room L none0 binds0 hbody nd1 nd2 nd3
end

open PySem PySem.Spec PyProof.Rows L2 LamX

abbrev s_law_told : Stmt := top 44
abbrev N_law_told : List Str := ["_law_look", "_law_caught", "_law_back", "_law_error"]
abbrev P_law_told : List Str := ["_law_look"]
theorem sc_law_told : FnScope N_law_told P_law_told (defScope s_law_told) := ⟨rfl, rfl, rfl, by decide +kernel, rfl, by decide +kernel, by decide +kernel⟩
theorem bs_law_told : BindsSt "_law_told" s_law_told P_law_told := fun _ _ _ _ _ _ us hl => match us, hl with | [_], _ => rfl
theorem told_gives {X : Cx} {g CS : Addr} {cdg : Value} {q : Str} (hme : X.mg "WakeError" = some (.ref CS)) : GivesS X N_law_told "_law_told" (defScope s_law_told) g cdg (defBody s_law_told) "_law_look" q (TTget X.K CS) := by
  intro f cc s H Q tl act hc h
  have nam : Names (cxOf C8.CX0 X.prog X.w X.K X.mg X.base N_law_told "_law_told" (defScope s_law_told) g cdg X.A X.stack s H C8.E0).nox "WakeError" (.ref CS) := ⟨by rfl, by decide, .inl hme⟩
  refine ⟨_, (pss_cons (ps_asg (pe_tup (pa_cons pe_non (pa_cons pe_non pa_nil))) (pg_tup (by rfl) (pgs_cons (pg_name (i := 1) sc_law_told.nd rfl (by first | exact Or.inl rfl | exact Or.inr rfl)) (pgs_cons (pg_name (i := 2) sc_law_told.nd rfl (by first | exact Or.inl rfl | exact Or.inr rfl)) pgs_nil))))
  (pss_cons (ps_catch (i := 3) (x := "WakeError") (c := .ref CS) rfl rfl rfl sc_law_told.nd rfl rfl nam (fun W pn xe tk => pss_one (ps_set (i := 2) sc_law_told.nd rfl (by first | exact Or.inl rfl | exact Or.inr rfl) (act W pn xe _ _ tk))) (fun b ob cls d pn => pss_one (ps_set (i := 1) sc_law_told.nd rfl (by first | exact Or.inl rfl | exact Or.inr rfl) (pv 3))))
  (pss_one (ps_ret (pe_tup (pa_cons (pv 1) (pa_cons (pv 2) pa_nil))))))), ?_⟩
  refine w_seq ?_
  refine w_asg ?_
  refine w_tup ?_
  refine w_cons ?_
  refine w_C ?_
  refine w_cons ?_
  refine w_C ?_
  refine w_nil ⟨by show 2 ≤ sizeLine; rw [sizeLine_eq]; decide, fun p0 hp0 => ?_⟩
  refine ⟨_, _, rfl, SqT.of upd_same, rfl, _, _, rfl, _, _, rfl, rfl, ?_⟩
  dsimp only
  refine w_seq ?_
  refine ⟨rfl, ?_, h f p0 hp0⟩
  rw [upd_ne (ne_of_none hc hp0)]
  exact hc

/-! ## x in t, t a tuple of data of any kind without dicts -/
def rInQ (K : PySem.W.Frag) : R2 := fun x y H Q => ∃ (q : Addr) (d : PyData) (ds : List PyData), Dq K q H x d ∧ Dq K q H y (.tuple ds) ∧ SeqAt.shaped d = true ∧ SeqAt.shaped (.tuple ds) = true ∧ Q (.bl (ds.any fun z => PyData.eqv z d)) H
theorem op_inQ {X : Cx} {K : PySem.W.Frag} (h : X.K = K) (hu : X.A.units + 70 < cLine) : OpR X (compareOp .In) (rInQ K) := by
  subst h
  intro pins s σ H x y v u Q I rx ry h
  obtain ⟨q, d, ds, hd, he, sd, se, k⟩ := h
  obtain ⟨as, r1, _⟩ := Dq.reads I hd rx
  obtain ⟨bs, r2, _⟩ := Dq.reads I he ry
  exact SeqAt.in_tuple_reads r2 r1 (SeqAt.canLay_of_shaped se) (SeqAt.canLay_of_shaped sd) (room_in_shaped sd (by omega)) ⟨.bl _, H, I, rfl, k⟩

theorem pool_N : ∀ d ∈ pool17, okN (.str d) = true ∧ szD (.str d) ≤ 100 := by
  have h : pool17.all (fun d => okN (.str d) && decide (szD (.str d) ≤ 100)) = true := by decide +kernel
  intro d hd
  have := List.all_eq_true.mp h d hd
  simp only [Bool.and_eq_true, decide_eq_true_eq] at this
  exact this
section
variable {P : Program} {w : World} {K : PySem.W.Frag} {mg : Str → Option Value} {base : Heap}
def hasS (es : List PyData) (n : Str) : Bool := es.any fun z => PyData.eqv z (.str n)
theorem hasS_iff {es : List PyData} {n : Str} : hasS es n = true ↔ PyData.str n ∈ es := by
  unfold hasS
  rw [List.any_eq_true]
  exact ⟨fun ⟨z, hz, hq⟩ => by
    rw [← eqv_str.mp hq]
    exact hz, fun hm => ⟨_, hm, eqv_str.mpr rfl⟩⟩
def LotP (ds : List Str) (d : PyData) : Prop := ∃ l : List Str, l.Sublist ds ∧ d = lotD l
def spIsLotD (K : PySem.W.Frag) : Sp := fun vs H Q _ => ∃ (q : Addr) (x v : V) (ds : List Str) (d : PyData), vs = [x, v] ∧ LotAt K H x ds ∧ Devs ds ∧ Dq K q H v d ∧ ndB d = true ∧ d.depth ≤ 60 ∧ ∀ H' (b : Bool), Same H H' → (b = true ↔ LotP ds d) → Q (.bl b) H'
theorem ok_is_lotD (F : FunAt K mg "is_lot" sis_lot) (T : Txt mg) : Def P w K mg base 1 "is_lot" Pis_lot (spIsLotD K) := by
  refine def_of F scis_lot bsis_lot (fun vs H Q E h => ?_) fun f cdv A outer s H vs Q E hr h => ?_
  · obtain ⟨q, x, v, ds, d, rfl, _⟩ := h
    rfl
  · refine ⟨_, (pss_one (ps_ret (pe_and (pe_callB call_isi (by rfl) T.n_isinstance (by decide +kernel) (pa_cons (pv 1) (pa_cons (pe_bltn (v := .ty "tuple") (by rfl) T.n_tuple (by decide +kernel) rfl) pa_nil))) (pe_one (pe_cmpR (op_eqQ hr.units) (pv 1) (pe_callTy call_tuple_of (by rfl) T.n_tuple (by decide +kernel) (pa_cons (pe_lc (own := [("name", 2)]) (g := (gName 2)) rfl scis_lot.nd (pi_tup (pv 0)) (blkOk_by (N := Nis_lot) (sc := defScope sis_lot) (by decide +kernel)) (fun _ _ _ _ _ => (pg_name (i := 2) scis_lot.nd rfl (by first | exact Or.inl rfl | exact Or.inr rfl))) (fun _ _ _ _ _ => (pts_one (pt_cmpR (op_inQ (K := K) rfl (units70 hr)) (pv 2) (pv 1) (by rfl)))) (fun _ _ _ _ _ => (pv 2))) pa_nil)) (nomark _)))))), ?_⟩
    obtain ⟨q, x, v, ds, d, rfl, ⟨a, rfl, ha⟩, hd, hv, nd, dep, go⟩ := h
    obtain ⟨hd1, hd2, hd3, hd4⟩ := id hd
    by_cases tupl : ∃ es, d = .tuple es
    case neg =>
      walk_at "v"
      refine w_isT false hv (by
        cases d with
        | tuple s => exact absurd ⟨s, rfl⟩ tupl
        | _ => kernel_rfl) ?_
      exact ⟨_, rfl, iteF (go H false (Same.refl _) ⟨(fun y => nomatch y), fun ⟨l, _, e⟩ => absurd ⟨_, e⟩ tupl⟩)⟩
    obtain ⟨es, rfl⟩ := tupl
    have shv : SeqAt.shaped (.tuple es) = true := shaped_of (okN_lay (d := .tuple es) nd) (by omega)
    walk_at "v"
    refine w_isT true hv (by kernel_rfl) ?_
    refine ⟨_, rfl, iteT ?_⟩
    walk_at "v"
    refine w_lcTF (fun x => match x with | .str n => hasS es n | _ => false) id (fun R k => ⟨_, rfl, k⟩) ha (by rw [List.length_map]; omega) (fun _ => rfl) ?_ ?_ ?_
    · intro x H' R hx s k
      obtain ⟨n, hn, rfl⟩ := List.mem_map.mp hx
      walk_at "v"
      refine ⟨q, .str n, es, .str n, hv.same s, shaped_of (okN_lay (pool_N n (hd4 n hn)).1) (Nat.zero_le _), shv, ?_⟩
      exact ⟨_, rfl, k⟩
    · intro x H' R hx s k
      walk_at "v"
      exact k
    · intro D H' hD s e
      rw [filter_strs (p := fun n => hasS es n) fun n => rfl] at e
      walk_at "v"
      refine ⟨D, _, rfl, .inl ⟨SqL.of e, fun t ht => ?_⟩⟩
      have s2 : Same H' (upd H' t (.tup ((ds.filter fun n => hasS es n).map V.str))) := same_upd (Same.refl _) ht
      have hsh : Short (ds.filter fun n => hasS es n) := .of List.filter_sublist hd
      refine .inl ⟨q, .tuple es, lotD (ds.filter fun n => hasS es n), hv.same (s.trans s2), lot_dq q ⟨t, rfl, SqT.of upd_same⟩, shv, tup_shaped _ (fun n hn => pool_ok n (hsh.2 n hn)), ?_⟩
      refine go _ _ (s.trans s2) (eqv_lotD.trans ⟨fun z => ⟨_, List.filter_sublist, z⟩, fun ⟨l, hl, z⟩ => ?_⟩)
      rw [z]
      have ee : es = l.map PyData.str := PyData.tuple.inj z
      have : (ds.filter fun n => hasS es n) = l := by
        rw [ee]
        have : (fun n => hasS (l.map PyData.str) n) = fun n => decide (n ∈ l) := by
          funext n
          rw [Bool.eq_iff_iff, hasS_iff, decide_eq_true_eq]
          exact ⟨fun h => by
            obtain ⟨m, hm, e⟩ := List.mem_map.mp h
            rw [← PyData.str.inj e]
            exact hm, fun h => List.mem_map.mpr ⟨n, h, rfl⟩⟩
        rw [this]
        exact sub_filter hl hd3
      rw [this]
end

/-! ## a caught error is read -/
/-- at a an error of the class D that keeps v, as it was caught -/
def XAt (H : Hp) (a D : Addr) (v : V) : Prop := ∃ d, H a = some (exc a (.ref D) (some d)) ∧ H d = some (.xd [(("value" : Str), v)])
theorem exc_at {P : Program} {w : World} {H : Hp} {h : Heap} {a : Addr} {cls : Value} {d : Option Addr} (hok : HOk P w H h) (e : H a = some (exc a cls d)) : ∃ o vs, h.get? a = some o ∧ o.cls = cls ∧ o.dict = d ∧ o.data = .fields vs :=
  (show ObjOk P w H h a (exc a cls d) from hok a _ e).1
theorem XAt.mono {H H' : Hp} {a D : Addr} {v : V} (h : XAt H a D v) (k : ∀ b o, H b = some o → (∀ xs, o ≠ .lst xs) → (∀ ps, o ≠ .tbl ps) → H' b = some o) : XAt H' a D v := by
  obtain ⟨d, h1, h2⟩ := h
  exact ⟨d, k _ _ h1 (fun _ => exc_not fun _ z => nomatch z) (fun _ => exc_not fun _ z => nomatch z), k _ _ h2 (fun _ z => nomatch z) fun _ z => nomatch z⟩
theorem XAt.same {H H' : Hp} {a D : Addr} {v : V} (h : XAt H a D v) (s : Same H H') : XAt H' a D v := h.mono fun b o e _ _ => s b o e
section
variable {X : Cx}
theorem errX_inst {pins : List (Addr × Obj)} {σ : L2.St} {H : Hp} {s : Shared} {a D : Addr} {v : V} (I : Inv X pins σ H s) (h : XAt H a D v) :
    ∃ ox od, PySem.W.InstAt s.heap a ox D (some od) ∧ ∃ u, RelV v u ∧ PySem.W.lookIn ("value" : Str) od = some (some u) := by
  obtain ⟨d, ha, hd⟩ := h
  obtain ⟨o, vs, h1, h2, h3, h4⟩ := exc_at I.hok ha
  obtain ⟨mA, hns, hr⟩ := (show ObjOk X.prog X.w H s.heap d (.xd [(("value" : Str), v)]) from I.hok d _ hd)
  obtain ⟨od, hod, hl⟩ := lookIn_ns hns
  have l : List.lookup ("value" : Str) [(("value" : Str), v)] = some v := by simp [List.lookup]
  obtain ⟨u, hu, ru⟩ := RelO.some_of (v := v) (o := mA "value") (by rw [← l]; exact hr "value")
  refine ⟨o, od, ⟨h1, h2, ?_, ?_⟩, u, ru, by rw [hl, hu]⟩
  · unfold PySem.W.notCls
    rw [h4]
  · rw [h3]
    exact hod
def tValueX (K : PySem.W.Frag) (te : TE) : TE := fun σ H Q => te σ H fun x H1 => ∃ (a D fI : Addr) (v : V), x = .ref a ∧ ErrC K D fI ∧ XAt H1 a D v ∧ Q v H1
theorem pe_valueX {e : Expr} {te : TE} {pos : Pos} (he : PE X e te) (hb : attributeBase e "value" X.env (eval e X.env) = eval e X.env := by rfl) : PE X (.Attribute e "value" pos) (tValueX X.K te) := by
  refine ⟨fun pins s σ H Q I h => attr_of hb (thn (he.run pins s σ H _ I h) ?_)⟩
  rintro u s1 ⟨x, H1, I1, rx, a, D, fI, v, rfl, T, ea, q⟩
  obtain rfl : u = Value.ref a := rx
  obtain ⟨ox, od, J, z, rz, hl⟩ := errX_inst I1 ea
  exact HandSPX.exc_get I1.kIn J T.x.ga T.x.gg T.x.exC (PySem.W.findObj_own T.x.hdC T.inv rfl hl) (handed_of rz) ⟨v, H1, I1.tok _, rz, q⟩
theorem clsIn_of {K : PySem.W.Frag} {D fI : Addr} (T : ErrC K D fI) : (PySem.W.clsIn K D).isSome = true := by
  have z := T.x.hdC
  unfold PySem.W.hasDictIn at z
  cases hc : PySem.W.clsIn K D with
  | none => simp [hc] at z
  | some cd => rfl
/-- isinstance(error, class) -/
def rIsX (K : PySem.W.Frag) : List V → Hp → VK → Prop := fun xs H Q => ∃ (a D fI : Addr) (v c : V) (cv : Value) (b : Bool), xs = [.ref a, c] ∧ ErrC K D fI ∧ XAt H a D v ∧ ClsV c cv ∧ PySem.W.kitOne K (.ref D) cv = some b ∧ Q (.bl b) H
theorem call_isX : CallR X (.builtin "isinstance") (rIsX X.K) := by
  rintro pins s σ H xs us Q I r ⟨a, D, fI, v, c, cv, b, rfl, T, ea, kc, e, q⟩
  obtain ⟨u1, u2, rfl, r1, r2⟩ := vals2 r
  obtain rfl := kc.eq r2
  obtain rfl : u1 = Value.ref a := r1
  obtain ⟨ox, od, J, _⟩ := errX_inst I ea
  exact PySem.W.kia_one (PySem.W.kitx_exc (ox := ox) (od := some od) (clsIn_of T) T.x.ga T.x.gg T.x.exC T.cc T.cg T.ct T.cm) I.kIn J e (fun z => nomatch z) fun tk => ⟨.bl b, H, I.tok tk, rfl, q⟩
/-- isinstance(error, (class, ..)) -/
def rIsXT (K : PySem.W.Frag) : List V → Hp → VK → Prop := fun xs H Q => ∃ (a D fI tp : Addr) (v : V) (cs : List V) (ws : List Value) (b : Bool), xs = [.ref a, .ref tp] ∧ ErrC K D fI ∧ XAt H a D v ∧ H tp = some (.tup cs) ∧ Paired ClsV cs ws ∧ PySem.W.kitAny K (.ref D) ws = some b ∧ Q (.bl b) H
theorem call_isXT : CallR X (.builtin "isinstance") (rIsXT X.K) := by
  rintro pins s σ H xs us Q I r ⟨a, D, fI, tp, v, cs, ws, b, rfl, T, ea, hT, k, e, q⟩
  obtain ⟨u1, u2, rfl, r1, r2⟩ := vals2 r
  obtain rfl : u2 = Value.ref tp := r2
  obtain rfl : u1 = Value.ref a := r1
  obtain ⟨ox, od, J, _⟩ := errX_inst I ea
  obtain ⟨_, its, rv, o, h1, h2, n, h3⟩ := (show ObjOk X.prog X.w H s.heap tp (.tup cs) from I.hok tp _ hT)
  obtain rfl := ClsV.all k rv
  obtain ⟨oc, odd, dt, sl⟩ := o
  simp only at h2 h3
  subst h2
  subst h3
  exact PySem.W.kia_tup (PySem.W.kitx_exc (ox := ox) (od := some od) (clsIn_of T) T.x.ga T.x.gg T.x.exC T.cc T.cg T.ct T.cm) I.kIn J h1 e (fun z => nomatch z) fun tk => ⟨.bl b, H, I.tok tk, rfl, q⟩
end

open PySem PySem.Spec PyProof.Rows L2 LamX
/-! ## the law's own call, where one def of it makes lambdas: its code object c, the table P of c -/
theorem lawRunT {P : Program} {w : World} {K : PySem.W.Frag} {mg mb : Str → Option Value} {k : Nat} {fa a c T : Addr} {fd : FuncData} {x : Str} {sp : Sp} {s₁ : Shared} {vs : List Value} {H : Hp}
    (KX : K.In s₁.heap) (hns : s₁.heap.Ns mainGlobals mg) (hb : s₁.heap.Ns builtinsNs mb) (hbb : ∀ x : Str, x ≠ "__name__" → mb x = bootBuiltins x)
    (hlim : s₁.heap.NoLimit) (hg : s₁.gens = #[]) (ha : s₁.heap.get? a = some { cls := .type "list", data := .seq vs.toArray })
    (tab : s₁.heap.get? T = some { cls := .none, data := .fields #[] }) (noT : K.lookup T = none) (code : PySem.W.CodeHd s₁.heap c T)
    (bmod : ∃ (bm : Addr) (ob : Obj), mg "__builtins__" = some (.ref bm) ∧ bm ≠ builtinsNs ∧ s₁.heap.get? bm = some ob ∧ ob.cls = .type "module" ∧ ob.dict = some builtinsNs ∧ ob.data = .plain)
    (hr : Room k callerA) (F : ∀ base : Heap, K.In base → base.Ns mainGlobals mg → TabB base mg c T → FnG P w K mg base CX0 k fa fd [x] sp)
    (hbind : ∀ (s : Shared) (u : Value), BindsTo s fd ⟨[u], []⟩ [(x, u)])
    (hsp : sp [.ref a] H (fun v _ => v = .bl true) fun _ _ _ => False)
    (hT : H T = some (.tbl #[])) (hO : ∀ b, b ≠ T → H b = none ∨ ∃ ob xs, H b = some (.frz ob (.lst xs))) (hok : HOk P w H s₁.heap) (hA : ∀ b, H b ≠ none → b = a ∨ b = T) (hK : H a ≠ none → K.lookup a = none) :
    codeAny (model P w) callerA (.call (.ref fa) ⟨[.ref a], []⟩) (fun r s' => r = .ok (.ret (.bool true)) ∧ OldK s₁.heap s'.heap ∧ s'.os = s₁.os ∧ AllBare s'.gens) s₁ := by
  have free : ∀ {b : Addr} {o : Obj}, s₁.heap.get? b = some o → (∀ us n, o.data ≠ .seq us n) → o.data ≠ .fields #[] → H b = none := by
    intro b o e h1 h2
    cases q : H b with
    | none => rfl
    | some u =>
      rcases hA b (by rw [q]; exact fun z => nomatch z) with rfl | rfl
      · rw [ha] at e
        obtain rfl := Option.some.inj e
        exact absurd rfl (h1 _ _)
      · rw [tab] at e
        obtain rfl := Option.some.inj e
        exact absurd rfl h2
  have hide : ∀ {b : Addr} {m : Str → Option Value}, s₁.heap.Ns b m → (hidT s₁.heap H).Ns b m := by
    rintro b m ⟨o, es, ep, e, d, r⟩
    exact ⟨o, es, ep, hidT_get e (free e (fun _ _ z => by rw [d] at z; cases z) fun z => by rw [d] at z; cases z), d, r⟩
  have hKb : K.In (hidT s₁.heap H) := by
    intro b o e
    refine hidT_get (KX b o e) ?_
    cases q : H b with
    | none => rfl
    | some u =>
      rcases hA b (by rw [q]; exact fun z => nomatch z) with rfl | rfl
      · rw [hK (by rw [q]; exact fun z => nomatch z)] at e
        cases e
      · rw [noT] at e
        cases e
  have hM : Mod K mg (hidT s₁.heap H) := by
    obtain ⟨mc, h1, h2⟩ := hlim
    exact ⟨hKb, hide hns, ⟨mb, hide hb, hbb⟩, ⟨mc, hide h1, h2⟩⟩
  have e0 : Env0 P w K mg (hidT s₁.heap H) callerA [] s₁ H :=
    { frames := rfl, mod := hM, bs := fun _ _ e => of_hidT e, bsz := Nat.le_of_eq (hidT_size _ _), funs := trivial
      frf := (fun b hb => absurd (show b ∈ ([] : List Addr) from hb) (by simp)), hok := hok, bare := .of_eq hg }
  have nT : T ≠ mainGlobals := by
    rintro rfl
    obtain ⟨o, es, ep, e, d, _⟩ := hns
    rw [tab] at e
    obtain rfl := Option.some.inj e
    cases d
  have TB : TabB (hidT s₁.heap H) mg c T := by
    refine ⟨?_, ?_, Ne.symm nT⟩
    · obtain ⟨o, us, file, tf, flags, tg, inF, text, tt, e1, r1, r2, r3, rest⟩ := code
      refine ⟨o, us, file, tf, flags, tg, inF, text, tt, hidT_get e1 (free e1 (fun _ _ z => by rw [r2] at z; cases z) fun z => ?_), r1, r2, r3, rest⟩
      rw [r2] at z
      obtain rfl := Data.fields.inj z
      simp at r3
    · obtain ⟨bm, ob, b1, b2, b3, b4, b5, b6⟩ := bmod
      refine ⟨bm, ob, b1, b2, ?_, ?_, hidT_get b3 (free b3 (fun _ _ z => by rw [b6] at z; cases z) fun z => by rw [b6] at z; cases z), b4, b5, b6⟩
      · rintro rfl
        obtain ⟨o, es, ep, e, d, _⟩ := hns
        rw [b3] at e
        obtain rfl := Option.some.inj e
        rw [d] at b6
        cases b6
      · rintro rfl
        rw [b3] at tab
        obtain rfl := Option.some.inj tab
        cases b6
  refine codeAny_mono ((F _ hKb (hide hns) TB).go callerA [] s₁ H ⟨[.ref a], []⟩ [.ref a] [.ref a] _ _ rfl hr e0 (hbind s₁ (.ref a)) (.cons rfl .nil) hsp) fun r s' h => ?_
  cases r with
  | error e => exact False.elim h
  | ok fl =>
   cases fl with
   | next => exact False.elim h
   | brk => exact False.elim h
   | cont => exact False.elim h
   | ret u =>
    obtain ⟨v, H', os, bare, un, hok', r', q⟩ := h
    obtain rfl : v = .bl true := q
    obtain rfl : u = Value.bool true := r'
    obtain ⟨more, z⟩ := un.tbls T #[] hT
    have at_T : s'.heap.get? T = some { cls := .none, data := .fields more } := by
      have := hok' T _ z
      rw [Array.empty_append] at this
      exact this
    have others : ∀ b o, b ≠ T → s₁.heap.get? b = some o → s'.heap.get? b = some o := fun b o nb e => by
      cases q : H b with
      | none => exact un.keep b o e q (fun z => nomatch z) (fun z => nomatch z)
      | some u =>
        rcases hO b nb with z | ⟨ob, xs, z⟩
        · rw [q] at z
          cases z
        · have e1 := (hok b _ z).1
          have e2 := (hok' b _ (un.frzs b ob _ z)).1
          rw [e] at e1
          obtain rfl := Option.some.inj e1
          exact e2
    refine ⟨rfl, ⟨fun b o e => ?_, fun b o e => ?_⟩, os, bare⟩
    · by_cases nb : b = T
      · subst nb
        rw [tab] at e
        obtain rfl := Option.some.inj e
        exact .inr (.inl ⟨(code.tab tab).isCodeTable, rfl, #[], more, rfl, by rw [Array.empty_append]; exact at_T⟩)
      · exact .inl (others b o nb e)
    · by_cases nb : b = T
      · subst nb
        exact ⟨_, at_T⟩
      · exact ⟨o, others b o nb e⟩
/-- walkG, where a def of the text makes lambdas -/
theorem walkGT {l : PySem.W.OpenLaw} {n k : Nat} {q : Program} {loose : List Str} {XP : (Str → Option Value) → Heap → Prop} {YP : World → Heap → Prop} {d : DefRec} {K : Params → PySem.W.Frag} {sp : Addr → World → Sp} {x : Str}
    (hn : l.most = some n) (hn2 : n ≤ sizeLine) (hdf : d.params.defaults = []) (hr : Room k callerA) (hY : ∀ (w : World) (h : Heap), YP w h → (K w.params).In h)
    (F : ∀ (w : World) (mg : Str → Option Value) (fa : Addr) (h : Heap), YP w h → (K w.params).In h → h.Ns mainGlobals mg → mg d.name = some (.ref fa) →
      ∃ (fd : FuncData) (c T : Addr), h.get? T = some { cls := .none, data := .fields #[] } ∧ PySem.W.CodeHd h c T ∧ (K w.params).lookup T = none ∧ (∀ (s : Shared) (u : Value), BindsTo s fd ⟨[u], []⟩ [(x, u)]) ∧
        ∀ base : Heap, (K w.params).In base → base.Ns mainGlobals mg → TabB base mg c T → FnG l.prog w (K w.params) mg base CX0 k fa fd [x] (sp T w))
    (hsp : ∀ (T : Addr) (w : World) (H : Hp) (a : Addr) (ns : List Int), ns.length ≤ n → H T = some (.tbl #[]) → SqL (K w.params) H a (ns.map V.int) → sp T w [.ref a] H (fun v _ => v = .bl true) fun _ _ _ => False) :
    PySem.W.WalkO q loose XP YP l.row.toRowW d [] (fun f vs => PySem.call f vs) := by
  refine Att.attach_call hn hdf ?_
  intro w s₀ s₁ mg mb fa o pm cd doc a vs ns GG Y ho hd hcd hmg hobj hints hlen hg
  have KX := hY w _ Y
  obtain ⟨fd, c, T, hTab, hcode, hTK, hb, hF⟩ := F w mg fa _ Y KX GG.T.g hmg
  have rv := vals_ints hints
  have lenV := hints.length
  have hsz : ns.length ≤ sizeLine := Nat.le_trans hlen hn2
  have naT : a ≠ T := by
    rintro rfl
    rw [hobj] at hTab
    have z := Option.some.inj hTab
    have z' : Data.seq vs.toArray _ = Data.fields #[] := congrArg Obj.data z
    cases z'
  cases hk : (K w.params).lookup a with
  | some o =>
    have e := KX a o hk
    rw [hobj] at e
    obtain rfl := Option.some.inj e
    have h1 : (fun b => if b = T then some (HO.tbl #[]) else none : Hp) T = some (.tbl #[]) := if_pos rfl
    have h2 : ∀ {b : Addr}, b ≠ T → (fun b => if b = T then some (HO.tbl #[]) else none : Hp) b = none := fun h => if_neg h
    refine lawRunT (H := fun b => if b = T then some (.tbl #[]) else none) KX GG.T.g GG.T.b GG.T.builtins GG.T.nolimit hg hobj hTab hTK hcode GG.T.bmain hr hF hb
      (hsp T w _ a ns hlen h1 (.inr ⟨_, vs.toArray, _, hk, rfl, rfl, rfl, ?_, ?_⟩)) h1 (fun b nb => .inl (h2 nb)) (fun b u z => ?_) (fun b z => ?_) (fun z => absurd (h2 naT) z)
    · rw [List.size_toArray, lenV]
      exact hsz
    · simpa using rv
    · by_cases nb : b = T
      · subst nb
        rw [h1] at z
        obtain rfl := Option.some.inj z
        exact hTab
      · rw [h2 nb] at z
        cases z
    · by_cases nb : b = T
      · exact .inr nb
      · exact absurd (h2 nb) z
  | none =>
    have h1 : (fun b => if b = T then some (HO.tbl #[]) else if b = a then some (HO.frz { cls := .type "list", data := .seq vs.toArray } (.lst (ns.map V.int))) else none : Hp) T = some (.tbl #[]) := if_pos rfl
    have h3 : (fun b => if b = T then some (HO.tbl #[]) else if b = a then some (HO.frz { cls := .type "list", data := .seq vs.toArray } (.lst (ns.map V.int))) else none : Hp) a = some (HO.frz { cls := .type "list", data := .seq vs.toArray } (.lst (ns.map V.int))) := by
      dsimp only
      rw [if_neg naT, if_pos rfl]
    have h2 : ∀ {b : Addr}, b ≠ T → b ≠ a → (fun b => if b = T then some (HO.tbl #[]) else if b = a then some (HO.frz { cls := .type "list", data := .seq vs.toArray } (.lst (ns.map V.int))) else none : Hp) b = none := fun h h' => by
      dsimp only
      rw [if_neg h, if_neg h']
    refine lawRunT (H := fun b => if b = T then some (HO.tbl #[]) else if b = a then some (HO.frz { cls := .type "list", data := .seq vs.toArray } (.lst (ns.map V.int))) else none) KX GG.T.g GG.T.b GG.T.builtins GG.T.nolimit hg hobj hTab hTK hcode GG.T.bmain hr hF hb
      (hsp T w _ a ns hlen h1 (.inl (.inr ⟨_, h3⟩))) h1 (fun b nb => ?_) (fun b u z => ?_) (fun b z => ?_) (fun _ => hk)
    · by_cases h : b = a
      · subst h
        exact .inr ⟨_, _, h3⟩
      · exact .inl (h2 nb h)
    · by_cases nb : b = T
      · subst nb
        rw [h1] at z
        obtain rfl := Option.some.inj z
        exact hTab
      · by_cases h : b = a
        · subst h
          rw [h3] at z
          obtain rfl := Option.some.inj z
          exact ⟨hobj, by rw [List.length_map]; exact hsz, vs, _, rv, hobj⟩
        · rw [h2 nb h] at z
          cases z
    · by_cases nb : b = T
      · exact .inr nb
      · by_cases h : b = a
        · exact .inl h
        · exact absurd (h2 nb h) z

/-! ## a def whose code object is known; a class that is made and may raise -/
section
variable {P : Program} {w : World} {K : PySem.W.Frag} {mg : Str → Option Value} {base : Heap}
theorem funGC {x qual : Str} {st : Stmt} {f c : Addr} {fd : FuncData} {N ps : List Str} {k : Nat} {sp : Sp} (F : Fun K x qual st f fd) (hc : fd.code = .ref c) (S : FnScope N ps (defScope st))
    (len : ∀ vs H Q E, sp vs H Q E → vs.length = ps.length)
    (hbody : ∀ (A : Around) (outer : List Env) (s : Shared) (H : Hp) (vs : List V) (Q : VK) (E : XK),
      (A.deeper (envOfC qual (defScope st) s.heap.objs.size f (.ref c))).guards = some [] →
      Room k (A.deeper (envOfC qual (defScope st) s.heap.objs.size f (.ref c))) → sp vs H Q E →
      ∃ t, PSs (cxOf CX0 P w K mg base N qual (defScope st) f (.ref c) A outer s H E).nox (defBody st) t ∧
        t { nx := fun _ H' => Q .non H', rt := Q } (start N vs) H) :
    FnG P w K mg base CX0 (k + 1) f fd ps sp := by
  obtain ⟨oc, od, kV, doc, pm, an, cdv, ct, osl, rfl, lk, hcd⟩ := F.ex
  have hc' : cdv = .ref c := hc
  subst hc'
  refine ⟨len, fun A outer s H args us vs Q E hgd hr e0 hb r hsp => ?_⟩
  have hl := len _ _ _ _ hsp
  have KX : K.In s.heap := e0.mod.kin.keeps fun b o e => (e0.bs b o e).1
  have lim : s.heap.NoLimit := e0.mod.nolimit.keeps fun b o e => (e0.bs b o e).1
  have kinds : ∀ y ∈ ps.zip us, (defScope st).names.lookup y.1 = some .local ∨
      ((defScope st).names.lookup y.1 = some .cell ∧ ((cellsFrom (s.heap.objs.size + 1) (defScope st).names []).lookup y.1).isSome = true) := by
    rintro ⟨n, v⟩ hy
    rcases S.par n (List.of_mem_zip hy).1 with q | q
    · exact .inl q
    · exact .inr ⟨q, PySem.W.cellsFrom_some _ _ _ (.inl q)⟩
  refine codeAny_call_function hr.depth (KX _ _ lk) rfl S.co S.gen rfl (PySem.W.codeRec_of KX hcd) (hb _ _ _ _ ?_)
  refine wpAny_newFunctionEnv_cells S.kind kinds fun env he s1 x => ?_
  subst he
  refine ⟨lim.keeps x.toInCall.keep, codeAny_func ?_⟩
  obtain ⟨t, ht, hq⟩ := hbody A outer s H vs Q E (by first | exact hgd | (show A.guards = some []; exact hgd)) (hr.deeper _) hsp
  have I := inv_start (CX := CX0) (N := N) (f := f) (cd := .ref c) (qual := qual) (E := E) S hr.hd e0 hl r x
  refine wpAny_mono (ht.nox.run [] s1 (start N vs) H _ I hq) (fun fl s' hs => ?_) fun e s' hs => hs
  cases fl with
  | ret u =>
    obtain ⟨v, σ', H', J, rv, q⟩ := hs
    exact ⟨v, H', J.os, J.bare, J.base, J.hok, rv, q⟩
  | next =>
    obtain ⟨σ', H', J, q⟩ := hs
    exact ⟨V.non, H', J.os, J.bare, J.base, J.hok, rfl, q⟩
  | brk =>
    obtain ⟨_, _, _, q⟩ := hs
    exact False.elim q
  | cont =>
    obtain ⟨_, _, _, q⟩ := hs
    exact False.elim q
/-- as defG_of, where the def's code object is c -/
theorem defGC_of {x : Str} {st : Stmt} {c : Addr} {N ps : List Str} {k : Nat} {sp : Sp} (F : FunAt K mg x st) (hc : ∀ f fd, mg x = some (.ref f) → Here K f fd → fd.code = .ref c) (S : FnScope N ps (defScope st)) (hb : BindsSt x st ps) (len : ∀ vs H Q E, sp vs H Q E → vs.length = ps.length)
    (hbody : ∀ (f : Addr) (A : Around) (outer : List Env) (s : Shared) (H : Hp) (vs : List V) (Q : VK) (E : XK), (A.deeper (envOfC x (defScope st) s.heap.objs.size f (.ref c))).guards = some [] → Room k (A.deeper (envOfC x (defScope st) s.heap.objs.size f (.ref c))) → sp vs H Q E →
      ∃ t, PSs (cxOf CX0 P w K mg base N x (defScope st) f (.ref c) A outer s H E).nox (defBody st) t ∧ t { nx := fun _ H' => Q .non H', rt := Q } (start N vs) H) : DefG P w K mg base (k + 1) x ps sp := by
  obtain ⟨f, fd, F1, hm⟩ := F
  exact ⟨f, fd, funGC F1 (hc f fd hm (here_of F1)) S len fun A outer s H vs Q E hg hr h => hbody f A outer s H vs Q E hg hr h, hm, F1.kp, F1.binds hb, here_of F1⟩
/-- the code object that the table's row tells -/
theorem code_of {K : PySem.W.Frag} {h : Heap} {mg : Str → Option Value} {x : Str} {c T : Addr} (X : K.In h) (G : h.Ns mainGlobals mg) (ht : PySem.W.tabIn K x = some (c, T)) : ∀ f fd, mg x = some (.ref f) → Here K f fd → fd.code = .ref c := by
  intro f fd hm ⟨oc, od, osl, lk⟩
  unfold PySem.W.tabIn at ht
  split at ht
  · rename_i g hg
    have e := PySem.W.mg_of X G hg
    rw [hm] at e
    obtain rfl := Value.ref.inj (Option.some.inj e)
    rw [lk] at ht
    dsimp only at ht
    split at ht
    · rename_i c' hc'
      split at ht
      · split at ht
        · obtain ⟨rfl, _⟩ := Prod.mk.inj (Option.some.inj ht)
          exact hc'
        · cases ht
      · cases ht
    · cases ht
  · cases ht
/-- x is the class at C, made by an __init__ that may raise -/
def DefCX (P : Program) (w : World) (K : PySem.W.Frag) (mg : Str → Option Value) (base : Heap) (k : Nat) (C : Addr) (x : Str) (ps : List Str) (sp : Sp) : Prop :=
  ∃ f fd, FnOk P w K mg base (L2.CX P w) k f fd ps sp ∧ mg x = some (.ref C) ∧ Mk K C f ∧ Binds K fd ps []
end
theorem pe_dcX {X : Cx} {k : Nat} {C : Addr} {ps : List Str} {sp : Sp} {x : Str} {p pos : Pos} {e : Expr} {es : List Expr} {t : TA} {E : XK} (D : DefCX X.prog X.w X.K X.mg X.base k C x ps sp) (hr : Room (k + 1) X.A) (ha : PA X (e :: es) t) (hx : Passes (L2.CX X.prog X.w) X E)
    (hg : Gl X x := by rfl) (hdb : (x == ("__debug__" : Str)) = false := by decide)
    (he : starEach (e :: es) X.env = (false, eval e X.env) :: starEach es X.env := by rfl) (hpl : (backTo pos (starEach es X.env)).any (·.1) = false := by rfl) :
    PE X (.Call (.Name x p) (e :: es) [] pos) (tMake C sp [] E t) := by
  obtain ⟨f, fd, F, hm, M, hb⟩ := D
  exact pe_make M F hr hg hm hb .nil hx ha hdb he hpl

open PySem PySem.Spec PyProof.Rows L2 LamX
/-! ## a lambda as a value that goes on -/
/-- at f a lambda of these words: what it captured, its code object -/
def LamO (f : Addr) (q : Str) (ps : Arguments) (b : Expr) (sc : Scope) (cl : List (Str × Addr)) (cc : Addr) : HO := .ext fun h => ∃ pm ct : Value, h.get? f = some (PySem.W.kla_obj "<lambda>" q ps b sc cl pm cc ct)
theorem lamO_at {P : Program} {w : World} {H : Hp} {h : Heap} {f cc : Addr} {q : Str} {ps : Arguments} {b : Expr} {sc : Scope} {cl : List (Str × Addr)} (hok : HOk P w H h) (e : H f = some (LamO f q ps b sc cl cc)) : ∃ pm ct : Value, h.get? f = some (PySem.W.kla_obj "<lambda>" q ps b sc cl pm cc ct) := by
  obtain ⟨z, _, _⟩ := hok f _ e
  exact z
theorem lamO_not {f cc : Addr} {q : Str} {ps : Arguments} {b : Expr} {sc : Scope} {cl : List (Str × Addr)} {o : HO} (h : ∀ φ, o ≠ .ext φ) : LamO f q ps b sc cl cc ≠ o := fun z => h _ z.symm
/-- what a lambda leaves: f the function, cc its code object -/
def tLamV (T : List (Addr × Str)) (q : Str) (ps : Arguments) (b : Expr) (sc : Scope) (cl : List (Str × Addr)) : TE := fun _ H Q => Tabs T H ∧
  ∀ f cc H1, ExtN H H1 → Tabs T H1 → H f = none → H1 f = some (LamO f q ps b sc cl cc) → H1 cc = some (CodeO cc q) → Q (.ref f) H1
section
variable {X : Cx} {pins : List (Addr × Obj)} {σ : L2.St} {H : Hp} {s : Shared}
theorem lamO_new {q : Str} {ps : Arguments} {b : Expr} {sc : Scope} {cl : List (Str × Addr)} {cc : Addr} {pm ct : Value} {o : Obj} {tk : Nat} (I : Inv X pins σ H s) (ho : o = PySem.W.kla_obj "<lambda>" q ps b sc cl pm cc ct) :
    Inv X pins σ (upd H s.heap.objs.size (LamO s.heap.objs.size q ps b sc cl cc)) { s with heap := s.heap.push o, toks := tk } := by
  subst ho
  have there := Heap.get?_push_size s.heap (o := PySem.W.kla_obj "<lambda>" q ps b sc cl pm cc ct) rfl
  exact I.laid (fun _ _ e => Heap.get?_push_of_some _ e) (Nat.le_refl _) ⟨⟨pm, ct, there⟩, ⟨_, there⟩, fun _ _ ⟨pm, ct, z⟩ go => ⟨pm, ct, go _ z⟩⟩
theorem pe_lamV {T : List (Addr × Str)} {c P : Addr} {ps : Arguments} {b : Expr} {sc : Scope} {pos : Pos} (tab : TabB X.base X.mg c P) (code : X.env.code = .ref c) (mem : (P, X.env.qual ++ "<lambda>") ∈ T) (uniq : ∀ p ∈ T, p.1 = P → p.2 = X.env.qual ++ "<lambda>")
    (L : LamS X.env.scope sc) (none0 : defaultsOf ps X.env = ([], [])) : PE X (.Lambda ps b sc pos) (tLamV T (X.env.qual ++ "<lambda>") ps b sc (cloFrom X.env.cells sc.names [])) := by
  refine ⟨fun pins s σ H Q I ⟨tabs, go⟩ => ?_⟩
  obtain ⟨rows, at_P, tri, told⟩ := tabs _ mem
  have cap := closure_ok (L.has I.ok)
  have bul : s.heap.BuiltinsAt X.mg P := tab.bm.keeps I.bk
  have raw : s.heap.get? P = some { cls := .none, data := .fields rows } := I.hok P _ at_P
  have gl := I.mod.glob.keeps I.bk
  have cd := tab.code.keeps I.bk
  refine PySem.W.kla_eval none0 ?_
  -- f comes into H
  have last : ∀ {H1 : Hp} {cc : Addr} {h1 : Heap} {ct : Value} {tk tk2 : Nat}, Inv X pins σ H1 { s with heap := h1, toks := tk2 } → ExtN H H1 → Tabs T H1 → H1 cc = some (CodeO cc (X.env.qual ++ "<lambda>")) → s.heap.objs.size ≤ h1.objs.size →
      EP X pins σ Q (.ref h1.objs.size) { s with heap := h1.push (PySem.W.kla_obj "<lambda>" (X.env.qual ++ "<lambda>") ps b sc (cloFrom X.env.cells sc.names []) ((X.mg "__name__").getD .none) cc ct), toks := tk } := fun {H1 cc h1 ct tk tk2} J ex tb hcc big => by
    have nf : H1 h1.objs.size = none := J.hok.fresh (Nat.le_refl _)
    have J2 := lamO_new (q := X.env.qual ++ "<lambda>") (ps := ps) (b := b) (sc := sc) (cl := cloFrom X.env.cells sc.names []) (cc := cc) (pm := (X.mg "__name__").getD .none) (ct := ct) (tk := tk) J rfl
    have grow : ∀ a o, H1 a = some o → upd H1 h1.objs.size (LamO h1.objs.size (X.env.qual ++ "<lambda>") ps b sc (cloFrom X.env.cells sc.names []) cc) a = some o := fun a o e => by
      rw [upd_ne (ne_of_none e nf)]
      exact e
    exact ⟨.ref h1.objs.size, _, J2, rfl, go _ cc _ (fun a o e n => grow a o (ex a o e n)) (tb.ext grow) (I.hok.fresh big) upd_same (grow _ _ hcc)⟩
  cases hit : codeAmong pos rows.toList with
  | some cv =>
    obtain ⟨cc, rfl, hcc⟩ := told pos cv hit
    exact PySem.W.kla_makeFunctionHit cap I.ok.glob gl code cd raw tri hit bul fun ct h1 tk keep big => last (tk2 := s.toks) (I.kept keep) (ExtN.refl H) tabs hcc big
  | none =>
    refine PySem.W.kla_makeFunction cap I.ok.glob gl code cd raw tri hit tab.gP bul fun cc ct h1 tk keep young lt rec' row => ?_
    obtain ⟨c2, oc, vs, t, same, hoc, hd, hv⟩ := rec'
    obtain rfl := Value.ref.inj same
    have nc : H cc = none := I.hok.fresh young
    have J := inv_table (t' := s.toks) (more := #[rawInt pos.line, rawInt pos.col, .ref cc]) (h' := h1) I at_P (fun a o n e => keep a o n e) row young ⟨oc, vs, t, hoc, hd, hv⟩
    have ex : ExtN H (upd (upd H P (.tbl (rows ++ #[rawInt pos.line, rawInt pos.col, .ref cc]))) cc (CodeO cc (X.env.qual ++ "<lambda>"))) := fun a o e n => by
      have ac := ne_of_none e nc
      have aP : a ≠ P := fun z => by
        rw [z, at_P] at e
        exact n rows (Option.some.inj e).symm
      rw [upd_ne ac, upd_ne aP]
      exact e
    refine last J ex (fun p hp => ?_) upd_same (Nat.le_trans young (Nat.le_of_lt lt))
    obtain ⟨ps1, u1, u2, u3⟩ := tabs p hp
    by_cases z : p.1 = P
    · rw [uniq p hp z, z]
      have snoc : (rows ++ #[rawInt pos.line, rawInt pos.col, Value.ref cc]).toList = rows.toList ++ [rawInt pos.line, rawInt pos.col, .ref cc] := by simp
      refine ⟨_, by rw [upd_ne (ne_of_none at_P nc), upd_same], by rw [snoc]; exact PySem.TriplesOk_snoc _ _ _ _ tri, fun p2 cv2 h2 => ?_⟩
      rw [snoc] at h2
      rcases among_app _ tri h2 with old | new
      · obtain ⟨c0, w1, w2⟩ := told p2 cv2 old
        exact ⟨c0, w1, ex _ _ w2 codeO_ne⟩
      · exact ⟨cc, new, upd_same⟩
    · refine ⟨ps1, by rw [upd_ne (ne_of_none u1 nc), upd_ne z]; exact u1, u2, fun p2 cv2 h2 => ?_⟩
      obtain ⟨c0, w1, w2⟩ := u3 p2 cv2 h2
      exact ⟨c0, w1, ex _ _ w2 codeO_ne⟩
end

open PySem PySem.Spec PyProof.Rows L2 LamX
/-! ## a comprehension whose item is told in the block, where the values of the names outside are known, too -/
section
variable {X : Cx}
/-- whatever stands in the block, the maker's own names hold what they held -/
def Backs (X : Cx) (B : Cx) (pins : List (Addr × Obj)) (σ : L2.St) : Prop := ∀ pins1 σ1 H1 s1, Inv B pins1 σ1 H1 s1 → Inv X pins σ H1 s1
theorem pe_lcW {elt tg iter : Expr} {scope : Scope} {own : List (Str × Nat)} {pos : Pos} {wi : TI} {g : TG} {te : L2.St → TE} (calm : X.calm = true) (nd : X.N.Nodup) (src : PI X tg iter wi) (ok : BlkOk X.N X.env.scope scope own)
    (hg : ∀ (s : Shared) (H : Hp) (C : Addr) (cl : List (Str × Addr)) (fp : List Addr), PG (X.blk s H scope (compEnvC scope cl C X.env) fp) tg g)
    (item : ∀ (s : Shared) (H : Hp) (C : Addr) (cl : List (Str × Addr)) (fp : List Addr) (pins : List (Addr × Obj)) (σ : L2.St), Backs X (X.blk s H scope (compEnvC scope cl C X.env) fp) pins σ → PE (X.blk s H scope (compEnvC scope cl C X.env) fp) elt (te σ))
    (plain : ∀ x, foldedSetIterable iter X.env x = pure x := by intro _; rfl) : PE X (.ListComp elt [⟨tg, iter, [], 0⟩] scope pos) (fun σ H Q => tLc wi g tYes (te σ) (own.map (·.2)) σ H Q) := by
  refine ⟨fun pins s σ H Q I plan => ?_⟩
  rw [eval_ListComp]
  have frees : ∀ y ∈ scope.names, y.2 = .free → ∃ c, X.env.cells.lookup y.1 = some c := fun y m e => (ok.free y m e).elim (fun k => I.ok.has _ (.inl k)) fun k => I.ok.has _ (.inr k)
  refine wpAny_comprehension_free (use := _) rfl plain (closure_ok frees) ok.kind (fun y m e => by rw [ok.uniq y m, e]) (thn (src.run pins s σ H _ I plan) fun _ _ r1 => thn r1 fun _ t2 r2 => ?_)
  obtain ⟨it, fp, tn, J, H2, rfl, I2, T, at2, off2, go⟩ := r2
  refine wpAny_newObj_type (newEnv_comp ?_) (show 0 ≤ sizeLine from Nat.zero_le _)
  obtain ⟨D, isD⟩ : ∃ D, t2.heap.objs.size = D := ⟨_, rfl⟩
  obtain ⟨W, ⟨m0, w0⟩, turn⟩ := go D (I2.hok.fresh (Nat.le_of_eq isD))
  rw [isD]
  obtain ⟨t3, is3⟩ : ∃ t3 : Shared, ({ t2 with heap := t2.heap.push { cls := .type "list", data := .seq ([] : List Value).toArray } } : Shared) = t3 := ⟨_, rfl⟩
  have I3 : Inv X pins σ (upd H2 D (.lst [])) t3 := by
    subst is3 isD
    exact I2.laid (fun _ _ e => Heap.get?_push_of_some _ e) (Nat.le_refl _) ⟨Nat.zero_le _, [], 0, .nil, Heap.get?_push_size _ rfl⟩
  have grew : ∀ b o, t2.heap.get? b = some o → t3.heap.get? b = some o := fun b o e => by
    subst is3
    exact Heap.get?_push_of_some _ e
  have bigger : t2.heap.objs.size < t3.heap.objs.size := by
    subst is3
    rw [Heap.size_push]
    exact Nat.lt_succ_self _
  have below : ∀ b ∈ fp, b < t2.heap.objs.size := fun b hb => by
    obtain ⟨o, e, _⟩ := T.obj _ _ at2 b hb
    exact Heap.lt_size e
  have off3 : ∀ b ∈ fp, FpOk X pins (upd H2 D (.lst [])) b ∧ b < t3.heap.objs.size := fun b hb => by
    have lt := below b hb
    refine ⟨⟨?_, (off2 b hb).2⟩, Nat.lt_trans lt bigger⟩
    rw [upd_ne (Nat.ne_of_lt (isD ▸ lt))]
    exact (off2 b hb).1
  have at3 := T.keep _ _ t3.heap at2 fun b _ o e => grew b o e
  have I4 := block_start I3 ok nd off3
  have none3 : ∀ b ∈ fp, (upd H2 D (.lst [])) b = none := fun b hb => (off3 b hb).1.1
  have out3 : FpOk X pins (upd H2 D (.lst [])) t3.heap.objs.size → True := fun _ => trivial
  obtain ⟨H3, is3H⟩ : ∃ H3, upd H2 D (.lst []) = H3 := ⟨_, rfl⟩
  rw [is3H] at I3 off3 I4 none3 w0
  obtain ⟨cl, iscl⟩ : ∃ cl, cellsFrom (t3.heap.objs.size + 1) scope.names (cloFrom X.env.cells scope.names []) = cl := ⟨_, rfl⟩
  rw [iscl] at I4
  obtain ⟨ce, isce⟩ : ∃ ce, compEnvC scope cl t3.heap.objs.size X.env = ce := ⟨_, rfl⟩
  have pg := hg t3 H3 t3.heap.objs.size cl fp
  have pe0 := item t3 H3 t3.heap.objs.size cl fp pins σ
  rw [isce] at I4 pg pe0
  have locC : ce.locals = t3.heap.objs.size := by
    subst isce
    rfl
  have backs : Backs X (X.blk t3 H3 scope ce fp) pins σ := fun pins1 σ1 H1 s1 J1 => I3.call' (ch := fp) J1.os J1.base J1.hok J1.bare fun b hb => ⟨(off3 b hb).1.2.2.2.1, (off3 b hb).1.2.1, (off3 b hb).1.2.2.2.2.1, (off3 b hb).1.2.2.2.2.2⟩
  have pe := pe0 backs
  obtain ⟨t4, is4⟩ : ∃ t4 : Shared, ({ t3 with heap := pushCells (t3.heap.push { cls := .type "dict", data := .dict #[] }) scope.names } : Shared) = t4 := ⟨_, rfl⟩
  rw [is4] at I4
  have at4 : tn 0 t4.heap := T.keep _ _ _ at3 fun b _ o e => by
    subst is4
    exact pushCells_keeps _ _ _ _ (Heap.get?_push_of_some _ e)
  have outs : ∀ {σ1 : L2.St} {H1 : Hp} {s1 : Shared}, Inv (X.blk t3 H3 scope ce fp) [] σ1 H1 s1 → (∀ b ∈ fp, H1 b = none) → ∀ b ∈ fp, FpOk (X.blk t3 H3 scope ce fp) [] H1 b := fun {σ1 H1 s1} J1 n b hb =>
    ⟨n b hb, (J1.ok.exf b hb).1, J1.ok.exfs b hb, .inl hb, fun x c e => (J1.ok.exf b hb).2 x c e, fun p hp => nomatch (show p ∈ ([] : List (Addr × Obj)) ++ [] from hp)⟩
  have key : codeAny (model X.prog X.w) X.A (.compLoop (.ListComp elt [⟨tg, iter, [], 0⟩] scope pos) 0 (.ref it) (.ref D) ce) (compPost (model X.prog X.w) X.A X.xe Option.none (EP X pins σ Q) (.ref D) t3.heap.objs.size) t4 := by
    refine compLoop_any (fun m s1 => ∃ i H1, Inv (X.blk t3 H3 scope ce fp) [] (wipe σ (own.map (·.2))) H1 s1 ∧ tn i s1.heap ∧ (∀ b ∈ fp, H1 b = none) ∧ W i m H1) ?_ m0 ⟨0, H3, I4, at4, none3, w0⟩
    rintro m t5 ⟨i, H5, I5, at5, none5, w5⟩
    rcases turn i m H5 w5 with ⟨stop, fin⟩ | ⟨more, Nx, less, step⟩
    · refine thnF (T.done (X.blk t3 H3 scope ce fp) rfl rfl rfl calm i [] t5 _ H5 (fun _ _ => False) I5 (outs I5 none5) at5 stop) fun r t6 ⟨hr, I6⟩ => ?_
      subst hr
      have nC : H5 t3.heap.objs.size = none := locC ▸ I6.free
      obtain ⟨f0, f1, _, f3, f4, f5⟩ := I3.fpOk (Nat.le_refl _) nC
      obtain ⟨mm, ns, _⟩ := I6.loc
      have ns2 : t6.heap.Ns t3.heap.objs.size mm := locC ▸ ns
      exact ⟨mm, ns2, fun h8 sb => ⟨.ref D, H5, (backs _ _ _ _ I6).turned (t' := t6.toks) (fun b o hb e => (sb.2 b hb).trans e) f0 f1 f3 f4 f5, rfl, fin⟩⟩
    · refine thnF (T.item (X.blk t3 H3 scope ce fp) rfl rfl rfl calm i [] t5 _ H5 (fun _ _ => False) I5 (outs I5 none5) at5 more) fun r t6 ⟨u, hr, nxt⟩ => ?_
      subst hr
      refine thnF nxt fun _ t7 ⟨x, H7, I7, rx, yx, at7, none7⟩ => ?_
      have held : ∀ b ∈ fp, ∃ o, t7.heap.get? b = some o ∧ ∀ v, o.data ≠ .cell v := T.obj _ _ at7
      refine thnF (pg.run _ t7 _ H7 x u _ (I7.pinned (outs I7 none7) held) rx (step x H7 yx)) fun _ t8 ⟨σ8, H8, I8, same8, q8⟩ => ?_
      have over : ∀ {s9 : Shared} {H9 : Hp}, Inv (X.blk t3 H3 scope ce fp) ([] ++ pinsAt fp t7.heap) σ8 H9 s9 → Nx H9 → ∃ k, k < m ∧ ∃ i H1, Inv (X.blk t3 H3 scope ce fp) [] (wipe σ (own.map (·.2))) H1 s9 ∧ tn i s9.heap ∧ (∀ b ∈ fp, H1 b = none) ∧ W i k H1 := fun {s9 H9} J9 nx => by
        obtain ⟨k, lt, wk⟩ := less H9 nx
        have still : ∀ b ∈ fp, ∀ o, t7.heap.get? b = some o → s9.heap.get? b = some o ∧ H9 b = none := fun b hb o e => by
          obtain ⟨z1, z2, _⟩ := J9.pin (b, o) (List.mem_append_right _ (List.mem_append_right _ (mem_pinsAt hb e)))
          exact ⟨z1, z2⟩
        refine ⟨k, lt, i + 1, H9, (J9.unpinned (pins := [])).weak (by rw [← same8, wipe_length]) (fun j v e => ?_), T.keep _ _ _ at7 fun b hb o e => (still b hb o e).1, fun b hb => ?_, wk⟩
        · rw [← same8] at e
          exact (wipe_some e).1
        · obtain ⟨o, e, _⟩ := held b hb
          exact (still b hb o e).2
      refine thnF ((pts_nil (X := X.blk t3 H3 scope ce fp)).run _ t8 σ8 H8 _ I8 q8) fun b t9 ⟨H9, I9, q9⟩ => ?_
      cases b with
      | false =>
        rw [if_neg Bool.false_ne_true] at q9
        exact over I9 q9
      | true =>
        rw [if_pos rfl] at q9
        refine thnF (pe.run _ t9 σ8 H9 _ I9 q9) fun z t10 ⟨yv, H10, I10, r10, acc, accD, small, nx⟩ => ?_
        exact app_ok (X := X.blk t3 H3 scope ce fp) I10 accD small r10 fun t11 I11 => over I11 nx
  have all : codeAny (model X.prog X.w) X.A (.compStart (.ListComp elt [⟨tg, iter, [], 0⟩] scope pos) 0 (.ref it) (.ref D) ce) (compPost (model X.prog X.w) X.A X.xe Option.none (EP X pins σ Q) (.ref D) t3.heap.objs.size) t4 := codeAny_compStart_list key (T.self X.A 0 _ _ _ at4 key)
  subst isce iscl is4 is3
  exact all
end

open PySem PySem.Spec PyProof.Rows L2 LamX
/-! ## a lambda kept in a list is handed to a def, in a comprehension -/
section
variable {X : Cx} {pins : List (Addr × Obj)} {σ : L2.St} {H : Hp} {s : Shared}
/-- the def that got f calls it: X is the context that made it -/
theorem pe_actV {CG : CXT} {EG : XK} {names : List Str} {qual : Str} {sg : Scope} {g f cc : Addr} {cdg : Value} {params : Arguments} {body : Expr} {scope : Scope} {k i : Nat} {a : Str} {pn : List (Addr × Obj)} {xe : Value → Shared → Prop} {W : WX} {tb : XK → TE} {p1 p2 : Pos}
    (I : Inv X pins σ H s) (L : LamS X.env.scope scope)
    (empty : ∀ pm ct : Value, bindArgs (PySem.W.kla_fn "<lambda>" (X.env.qual ++ "<lambda>") params body scope (cloFrom X.env.cells scope.names []) pm (.ref cc) ct) ⟨[], []⟩ = pure [])
    (tk : Takes ((cxOf CG X.prog X.w X.K X.mg X.base names qual sg g cdg X.A X.stack s H EG).tr pn xe) W) (room : Room (k + 1) (X.A.deeper (envOfC qual sg s.heap.objs.size g cdg)))
    (hbody : ∀ (E : XK) (A : Around) (outer : List Env) (s : Shared) (H : Hp), Room k (A.deeper (lamEnv X scope s.heap.objs.size f cc)) → PE (lamCx X A outer s H E scope f cc) body (tb E))
    (hN : names[i]? = some a) (vis : Vis sg a) (nd : (a == ("__debug__" : Str)) = false) (nc : (a == ("__classdict__" : Str)) = false) :
    PE ((cxOf CG X.prog X.w X.K X.mg X.base names qual sg g cdg X.A X.stack s H EG).tr pn xe) (.Call (.Name a p1) [] [] p2)
      (fun τ G Q => τ[i]? = some (some (.ref f)) ∧ (G f = some (LamO f (X.env.qual ++ "<lambda>") params body scope (cloFrom X.env.cells scope.names []) cc) ∧ G cc = some (CodeO cc (X.env.qual ++ "<lambda>"))) ∧ tb (fun cls d H' => W cls d τ H') σ G Q) := by
  refine ⟨fun pz sz τ G Q IZ ⟨hs, ⟨hl, hc⟩, ht⟩ => ?_⟩
  have read := (pe_var (pos := p1) (i := i) hN vis nd nc).run pz sz τ G (fun v G1 => v = .ref f ∧ G1 = G) IZ ⟨.ref f, hs, rfl, rfl⟩
  refine wpAny_Call_Name_kw (thn read fun u s1 ⟨v, G1, I1, rv, z1, z2⟩ => ?_)
  rw [z1] at rv
  rw [z2] at I1
  obtain rfl : u = Value.ref f := rv
  obtain ⟨pm, ct, at_f⟩ := lamO_at I1.hok hl
  refine PySem.W.callWith_F0 ⟨_, _, _, _, at_f⟩ ?_
  obtain ⟨⟨oc, vs, t, c1, c2, c3⟩, _, _⟩ := I1.hok cc _ hc
  have run : codeAny (model X.prog X.w) (X.A.deeper (envOfC qual sg s.heap.objs.size g cdg)) (.call (.ref f) ⟨[], []⟩)
      (CR (L2.CX X.prog X.w) (envOfC qual sg s.heap.objs.size g cdg :: X.stack) X.prog X.w G s1 Q fun cls d H' => W cls d τ H') s1 := by
    refine PySem.W.kla_callFunE room.depth at_f rfl L.co L.gen rfl ⟨cc, oc, vs, t, rfl, c1, c2, c3⟩ ?_
    rw [empty pm ct]
    refine wpAny_pure (wpAny_newFunctionEnv (fun y hy => (L.own y hy).2) (fun y hy => absurd hy (by simp)) (fun h2 ns2 sb2 => ⟨I1.nolimit.fresh _ sb2, ?_⟩) L.kind)
    have grown : ∀ b o, s1.heap.get? b = some o → h2.get? b = some o := fun b o e => sb2.extBut b o (Nat.ne_of_lt (Heap.lt_size e)) (Heap.get?_push_of_some _ e)
    have J := lam_start2 (tk := s1.toks + ([] : List (Str × Value)).length) (E := fun cls d H' => W cls d τ H') (f := f) (c' := cc) I L I1.env0 room.hd I1.base ns2 grown
    refine PySem.W.kla_codeExpr (wpAny_mono ((hbody _ _ _ s1 G (room.deeper _)).run [] _ _ G Q J ht) (fun v s2 hq => ?_) fun _ _ hq => hq)
    obtain ⟨w2, G2, J2, r2, q2⟩ := hq
    exact ⟨w2, G2, J2.os, J2.bare, J2.base, J2.hok, r2, q2⟩
  refine wpAny_call (codeAny_mono run fun r s2 hq => ?_)
  cases r with
  | error e => exact passAt tk τ pz G s1 e s2 I1 hq
  | ok fl =>
    cases fl with
    | ret u => exact I1.after hq
    | next => exact hq.elim
    | brk => exact hq.elim
    | cont => exact hq.elim
end
/-- as GivesS: what is known of the function and its code object stays known -/
def GivesF (X : Cx) (names : List Str) (x : Str) (sg : Scope) (g : Addr) (cdg : Value) (bg : List Stmt) (a : Str) (TT : (XK → Hp → VK → Prop) → Hp → VK → Prop) : Prop :=
  ∀ (F : Hp → Prop) (f : Addr) (s : Shared) (H : Hp) (Q : VK) (tl : XK → Hp → VK → Prop), (∀ G G', Same G G' → F G → F G') →
    (∀ (W : WX) (pn : List (Addr × Obj)) (xe : Value → Shared → Prop) (p1 p2 : Pos), Takes ((cxOf C8.CX0 X.prog X.w X.K X.mg X.base names x sg g cdg X.A X.stack s H C8.E0).tr pn xe) W →
      PE ((cxOf C8.CX0 X.prog X.w X.K X.mg X.base names x sg g cdg X.A X.stack s H C8.E0).tr pn xe) (.Call (.Name a p1) [] [] p2) (fun τ G R => τ[0]? = some (some (.ref f)) ∧ F G ∧ tl (fun cls d H' => W cls d τ H') G R)) →
    F H → TT tl H Q → ∃ t, PSs (cxOf C8.CX0 X.prog X.w X.K X.mg X.base names x sg g cdg X.A X.stack s H C8.E0).nox bg t ∧ t { nx := fun _ G => Q .non G, rt := Q } (L2.start names [.ref f]) H
/-- one of the lambdas that a def makes, and how it is read -/
structure Lam where
  ps : Arguments
  b : Expr
  sc : Scope
  t : XK → TE
/-- a lambda of these, told by TT -/
def tTell (TT : (XK → Hp → VK → Prop) → Hp → VK → Prop) (q : Str) (cells : List (Str × Addr)) (fam : List Lam) (j : Nat) (σ0 : L2.St) : TE := fun σ H Q => ∃ (f cc : Addr) (l : Lam), σ[j]? = some (some (.ref f)) ∧ l ∈ fam ∧
  (H f = some (LamO f q l.ps l.b l.sc (cloFrom cells l.sc.names []) cc) ∧ H cc = some (CodeO cc q)) ∧ TT (fun E G R => l.t E σ0 G R) H Q
theorem pe_tell {X : Cx} {s0 : Shared} {H0 : Hp} {bsc : Scope} {ce : Env} {fp : List Addr} {pins : List (Addr × Obj)} {σ0 : L2.St} {TT : (XK → Hp → VK → Prop) → Hp → VK → Prop} {x a : Str} {g : Addr} {k j : Nat} {pg : Arguments} {bg : List Stmt} {sg : Scope} {dV kV doc pm cdv ct oc : Value} {an od : Option Addr} {osl : Array (Option Value)} {names : List Str} {fam : List Lam} {arg : Expr} {p pos : Pos}
    (backs : Backs X (X.blk s0 H0 bsc ce fp) pins σ0) (hx : Gl (X.blk s0 H0 bsc ce fp) x) (mx : X.mg x = some (.ref g)) (kx : PySem.W.keepIn X.K (.ref g) = true)
    (lk : X.K.lookup g = some ⟨oc, od, .func (PySem.W.fnOf x x pg bg sg dV kV doc pm an cdv ct), osl⟩) (cd : PySem.W.codeIn X.K cdv x = true) (hb : L2.Binds X.K (PySem.W.fnOf x x pg bg sg dV kV doc pm an cdv ct) [a] []) (Sg : FnScope names [a] sg) (n0 : names[0]? = some a) (vis : Vis sg a)
    (gives : GivesF (X.blk s0 H0 bsc ce fp) names x sg g cdv bg a TT) (room : Room (k + 2) X.A)
    (each : ∀ l ∈ fam, LamS X.env.scope l.sc ∧ (∀ (q : Str) (cl : List (Str × Addr)) (pm cv ctv : Value), bindArgs (PySem.W.kla_fn "<lambda>" q l.ps l.b l.sc cl pm cv ctv) ⟨[], []⟩ = pure []) ∧
      ∀ (E : XK) (A : Around) (outer : List Env) (s : Shared) (H : Hp) (f cc : Addr), Room k (A.deeper (lamEnv X l.sc s.heap.objs.size f cc)) → PE (lamCx X A outer s H E l.sc f cc) l.b (l.t E))
    (ha : PA (X.blk s0 H0 bsc ce fp) [arg] (tCons (tVar j) tNil)) (nd1 : (x == ("__debug__" : Str)) = false := by decide) (nd2 : (a == ("__debug__" : Str)) = false := by decide) (nd3 : (a == ("__classdict__" : Str)) = false := by decide)
    (he : starEach [arg] ce = (false, eval arg ce) :: starEach [] ce := by rfl) :
    PE (X.blk s0 H0 bsc ce fp) (.Call (.Name x p) [arg] [] pos) (tTell TT (X.env.qual ++ "<lambda>") X.env.cells fam j σ0) := by
  refine ⟨fun pz sz τ G Q IZ ⟨f, cc, l, hs, mem, known, tt⟩ => wpAny_Call_Name_kw (ld_glob IZ hx mx ?_ nd1)⟩
  obtain ⟨L, binds0, hbody⟩ := each l mem
  have args := ha.run pos pz sz τ G (fun vs G1 => vs = [.ref f] ∧ G1 = G) IZ ⟨.ref f, hs, rfl, rfl⟩
  refine PySem.W.callWith_K (h₀ := X.base) IZ.ok.mod.kin kx (thn args fun us s1 ⟨vs, G1, I1, r, z1, z2⟩ => ⟨I1.kIn, ?_⟩) he (by rfl)
  rw [z1] at r
  rw [z2] at I1
  obtain ⟨u, rfl, ru⟩ := vals1 r
  obtain rfl : u = Value.ref f := ru
  have maker := backs _ _ _ _ I1
  have run : codeAny (model X.prog X.w) X.A (.call (.ref g) ⟨[.ref f], []⟩) (CR C8.CX0 X.stack X.prog X.w G s1 Q C8.E0) s1 :=
    run_ofS (N := names) (ps := [a]) (us := [.ref f]) (vs := [.ref f]) lk cd Sg room I1.env0 (hb s1 [.ref f] I1.kIn rfl) (.cons rfl .nil) rfl fun room1 => by
      obtain ⟨t, ht, hq⟩ := gives (fun G => G f = some (LamO f (X.env.qual ++ "<lambda>") l.ps l.b l.sc (cloFrom X.env.cells l.sc.names []) cc) ∧ G cc = some (CodeO cc (X.env.qual ++ "<lambda>"))) f s1 G Q (fun E G R => l.t E σ0 G R)
        (fun G G' sm h => ⟨sm _ _ h.1, sm _ _ h.2⟩) (fun W pn xe p1 p2 tk => pe_actV (i := 0) maker L (fun pm ct => binds0 _ _ _ _ _) tk room1 (fun E A outer s H r => hbody E A outer s H f cc r) n0 vis nd2 nd3) known tt
      exact ⟨t, ht.nox, hq⟩
  refine wpAny_call (codeAny_mono run fun r s2 hq => ?_)
  cases r with
  | error e => exact absurd hq id
  | ok fl =>
    cases fl with
    | ret u => exact I1.after hq
    | next => exact hq.elim
    | brk => exact hq.elim
    | cont => exact hq.elim

/-! ## a def that may raise -/
def DefX (P : Program) (w : World) (K : PySem.W.Frag) (mg : Str → Option Value) (base : Heap) (k : Nat) (x : Str) (ps : List Str) (sp : Sp) : Prop :=
  ∃ f fd, FnOk P w K mg base (L2.CX P w) k f fd ps sp ∧ mg x = some (.ref f) ∧ PySem.W.keepIn K (.ref f) = true ∧ Binds K fd ps []
section
variable {P : Program} {w : World} {K : PySem.W.Frag} {mg : Str → Option Value} {base : Heap}
theorem defX_of {x : Str} {st : Stmt} {N ps : List Str} {k : Nat} {sp : Sp} (F : FunAt K mg x st) (S : FnScope N ps (defScope st)) (hb : BindsSt x st ps) (len : ∀ vs H Q E, sp vs H Q E → vs.length = ps.length)
    (hbody : ∀ (f : Addr) (cdv : Value) (A : Around) (outer : List Env) (s : Shared) (H : Hp) (vs : List V) (Q : VK) (E : XK), Room k (A.deeper (envOfC x (defScope st) s.heap.objs.size f cdv)) → sp vs H Q E →
      ∃ t, PSs (cxOf (L2.CX P w) P w K mg base N x (defScope st) f cdv A outer s H E) (defBody st) t ∧ t { nx := fun _ H' => Q .non H', rt := Q } (start N vs) H) : DefX P w K mg base (k + 1) x ps sp := by
  obtain ⟨f, fd, F1, hm⟩ := F
  exact ⟨f, fd, F1.okX S len fun cdv A outer s H vs Q E hr h => hbody f cdv A outer s H vs Q E hr h, hm, F1.kp, F1.binds hb⟩
end
section
variable {X : Cx} {k : Nat} {ps : List Str} {sp : Sp} {x : Str} {p pos : Pos} {e : Expr} {es : List Expr} {t : TA} {E : XK}
theorem pe_dX (D : DefX X.prog X.w X.K X.mg X.base k x ps sp) (hr : Room k X.A) (ha : PA X (e :: es) t) (hx : Passes (L2.CX X.prog X.w) X E) (hg : Gl X x := by rfl) (hdb : (x == ("__debug__" : Str)) = false := by decide)
    (he : starEach (e :: es) X.env = (false, eval e X.env) :: starEach es X.env := by rfl) (hpl : (backTo pos (starEach es X.env)).any (·.1) = false := by rfl) :
    PE X (.Call (.Name x p) (e :: es) [] pos) (tCall sp [] E t) := by
  obtain ⟨f, fd, F, hm, hk, hb⟩ := D
  exact pe_call F hr hg hm hk hb .nil hx ha hdb he hpl
end
theorem sl_tupAK {X : Cx} {K : PySem.W.Frag} (h : X.K = K) : SlR X (rSlA K) := by
  subst h
  exact sl_tupA
/-! ## comprehensions whose items are made: over zip, over range(a, b) -/
section
variable {K : PySem.W.Frag} {σ : L2.St} {H1 : Hp}
theorem w_lcHdZ {ta : TA} {g : TG} {tt : TT} {te : TE} {vs : List Nat} {Q : VK} (k : ta σ H1 fun us H2 => tLc (RZ.iZipA K (fun _ H R => R us H)) g tt te vs σ H2 Q) : tLc (RZ.iZipA K ta) g tt te vs σ H1 Q := k
theorem w_lcHdE {ta : TA} {g : TG} {tt : TT} {te : TE} {vs : List Nat} {Q : VK} (k : ta σ H1 fun us H2 => tLc (iEnumT K (fun _ H R => R us H)) g tt te vs σ H2 Q) : tLc (iEnumT K ta) g tt te vs σ H1 Q := k
theorem w_lcZQ {i j : Nat} {a b : Addr} {xs ys : List V} {te : TE} {vs : List Nat} {Q : VK} (F : Nat → V → Hp → Prop) (kp : Keeps F) (kd : ∀ n y H D ys zs, F n y H → H1 D = none → H D = some (.lst ys) → F n y (upd H D (.lst zs)))
    (hx : SqT K H1 a xs) (hy : SqT K H1 b ys) (hl : ys.length ≤ xs.length) (hn : ys.length ≤ 1000)
    (hw : ∀ x y, wipe (((wipe σ vs).set i (some x)).set j (some y)) vs = wipe σ vs)
    (he : ∀ (n : Nat) x y H' (R : VK), xs[n]? = some x → ys[n]? = some y → Same H1 H' → (∀ z H'', Same H' H'' → F n z H'' → R z H'') → te (((wipe σ vs).set i (some x)).set j (some y)) H' R)
    (go : ∀ D H' zs, H1 D = none → Same H1 H' → H' D = some (.lst zs) → zs.length = ys.length → (∀ n z, zs[n]? = some z → F n z H') → Q (.ref D) H') :
    tLc (RZ.iZipA K fun _ H R => R [.ref a, .ref b] H) (gTup K 2 (gCons (gName i) (gCons (gName j) gNil))) tYes te vs σ H1 Q := by
  refine ⟨a, b, xs, ys, rfl, .inr ⟨hx, hy, fun D hD => ?_⟩⟩
  let Pv : Nat → Hp → Prop := fun n H' => Same H1 H' ∧ ∃ zs, H' D = some (.lst zs) ∧ zs.length = n ∧ ∀ m z, zs[m]? = some z → F m z H'
  refine ⟨fun i m H => m = ys.length - i ∧ i ≤ ys.length ∧ Pv i H, ⟨ys.length, rfl, Nat.zero_le _, Same.upd2 (Same.refl _) hD, [], upd_same, rfl, fun m z h => by simp at h⟩, ?_⟩
  rintro n m H ⟨rfl, hi, s, zs, e, hzl, hF⟩
  have qx := Same.sqT s hx
  have qy := Same.sqT s hy
  by_cases hlt : n < ys.length
  · have hlt2 : n < xs.length := by omega
    have gx : xs[n]? = some xs[n] := List.getElem?_eq_getElem hlt2
    have gy : ys[n]? = some ys[n] := List.getElem?_eq_getElem hlt
    refine .inr ⟨⟨xs, ys, _, _, qx, qy, gx, gy⟩, Pv (n + 1), fun H' p' => ⟨ys.length - (n + 1), by omega, rfl, hlt, p'⟩, fun v H' y => ?_⟩
    obtain ⟨T, x', y', rfl, hT, rfl, f1, f2⟩ := y
    have f1 := f1 xs qx
    have f2 := f2 ys qy
    have s1 : Same H (upd H T (.tup [x', y'])) := same_upd (Same.refl _) hT
    have s2 : Same H1 (upd H T (.tup [x', y'])) := same_upd s hT
    have e2 : (upd H T (.tup [x', y'])) D = some (.lst zs) := upd_get hT e
    refine w_gtup2 (SqT.of upd_same) ⟨hw x' y', ?_⟩
    refine iteT (B := Pv (n + 1) (upd H T (.tup [x', y']))) (he n x' y' _ _ f1 f2 s2 fun z H3 s3 hz => ?_)
    have e3 := s3 _ _ e2
    refine ⟨zs, e3, by rw [sizeLine_eq]; omega, Same.upd2 (s2.trans s3) hD, zs ++ [z], upd_same, ?_⟩
    exact keep_acc kp ⟨hzl, hF⟩ (fun m w h => kd m w H3 D zs _ (kp _ _ _ _ h (s1.trans s3)) hD e3) (kd _ _ _ _ zs _ hz hD e3)
  · obtain rfl : n = ys.length := by omega
    exact .inl ⟨⟨xs, ys, qx, qy, Or.inr (Nat.le_refl _)⟩, go D H zs hD s e hzl hF⟩
/-- over range(lo, hi) -/
theorem w_lcRg2Q {i : Nat} {ta : TA} {te : TE} {vs : List Nat} {Q : VK} {lo hi : Int} (F : Nat → V → Hp → Prop) (kp : Keeps F) (h1 : 0 ≤ lo) (h2 : lo ≤ hi) (h3 : hi ≤ 100000)
    (ha : ∀ R : List V → Hp → Prop, R [.int lo, .int hi] H1 → ta σ H1 R)
    (kd : ∀ n y H D ys zs, F n y H → H1 D = none → H D = some (.lst ys) → F n y (upd H D (.lst zs)))
    (hw : ∀ n : Nat, wipe ((wipe σ vs).set i (some (.int (lo + (n : Nat))))) vs = wipe σ vs)
    (he : ∀ (n : Nat) H' (R : VK), lo + (n : Int) < hi → Same H1 H' → (∀ y H'', Same H' H'' → F n y H'' → R y H'') → te ((wipe σ vs).set i (some (.int (lo + (n : Nat))))) H' R)
    (go : ∀ D H' ys, H1 D = none → Same H1 H' → H' D = some (.lst ys) → (ys.length : Int) = hi - lo → (∀ n y, ys[n]? = some y → F n y H') → Q (.ref D) H') :
    tLc (iRng2 ta) (gName i) tYes te vs σ H1 Q := by
  refine ha _ ⟨lo, hi, rfl, ⟨by omega, by omega, by omega, by omega⟩, fun D hD => ?_⟩
  refine lc_range (lo := lo) (n := (hi - lo).toNat) (Pv := fun n H' => Same H1 H' ∧ ∃ ys, H' D = some (.lst ys) ∧ ys.length = n ∧ ∀ m y, ys[m]? = some y → F m y H') ⟨Same.upd2 (Same.refl _) hD, [], upd_same, rfl, fun m y h => by simp at h⟩ ?_ ?_
  · rintro n H' hlt ⟨s, ys, e, hl, hF⟩
    refine ⟨hw n, iteT (B := Same H1 H' ∧ ∃ ys, H' D = some (.lst ys) ∧ ys.length = n + 1 ∧ ∀ m y, ys[m]? = some y → F m y H') (he n H' _ (by omega) s fun y H'' s2 hy => ⟨ys, s2 _ _ e, ?_, Same.upd2 (s.trans s2) hD, ys ++ [y], upd_same, ?_⟩)⟩
    · rw [sizeLine_eq, hl]
      omega
    · have e2 := s2 _ _ e
      exact keep_acc kp ⟨hl, hF⟩ (fun m z h => kd m z H'' D ys _ (kp _ _ _ _ h s2) hD e2) (kd _ _ _ _ ys _ hy hD e2)
  · rintro H' ⟨s, ys, e, hl, hF⟩
    exact go D H' ys hD s e (by omega) hF
end

/-! ## a method that may raise -/
def DefMX (P : Program) (w : World) (K : PySem.W.Frag) (mg : Str → Option Value) (base : Heap) (k : Nat) (C : Addr) (m : Str) (ps : List Str) (sp : Sp) : Prop :=
  ∃ f fd, FnOk P w K mg base (L2.CX P w) k f fd ps sp ∧ Meth K C m f ∧ Binds K fd ps []
section
variable {X : Cx} {k : Nat} {C : Addr} {ps : List Str} {sp : Sp} {m : Str} {pos apos : Pos} {o e : Expr} {es : List Expr} {ta : TE} {t : TA} {E : XK}
theorem pe_dmX {pl : Sem Bool} (D : DefMX X.prog X.w X.K X.mg X.base k C m ps sp) (c : Cls X.K C) (hr : Room k X.A) (he : PE X o ta) (ha : PA X (e :: es) t) (hx : Passes (L2.CX X.prog X.w) X E)
    (hst : starEach (e :: es) X.env = (false, eval e X.env) :: starEach es X.env := by rfl) (hpl : (backTo pos (starEach es X.env)).any (·.1) = false := by rfl)
    (ht : eval (.Call (.Attribute o m apos) (e :: es) [] pos) X.env = (do
      let ov ← eval o X.env
      standAt apos.atName
      let (f, first) ← holding [ov] (getMethod ov m pl)
      callWith pos f first (backTo pos (starEach (e :: es) X.env)) (backToKw pos (keywordEach [] X.env))) := by rfl) :
    PE X (.Call (.Attribute o m apos) (e :: es) [] pos) (tMeth C m sp [] E ta t) := by
  obtain ⟨f, fd, F, hm, hb⟩ := D
  exact pe_meth he c hm F hr hb .nil hx ha hst hpl ht
end

/-! ## x not in t, t a tuple of texts, x data of any kind, a dict too -/
section
open PySem.SeqAt PySem.AutoSeq1 PySem.MeetsSeq PySem.Calls
theorem sub_dict_str0 : isSubtype (.type "dict") (.type "str") = pure false := by rw [isSubtype_type]; kernel_rfl
theorem sub_str_dict0 : isSubtype (.type "str") (.type "dict") = pure false := by rw [isSubtype_type]; kernel_rfl
theorem str_eq_declines_dict (z : Str) (tk : Tok) (l : Addr) (es : Array DictEntry) (ep : Nat) (dd : Option Addr) (sl : Array (Option Value)) :
    Meets (Builtin.«str.__eq__» ⟨[.str z tk, .ref l], []⟩) (fun _ R s => s.heap.get? l = some { cls := .type "dict", dict := dd, data := .dict es ep, slots := sl } ∧ R (.ok (.ret .notImplemented)) s) :=
  .of_wp fun prog w A R s h => by obtain ⟨hp, g, d, tk', os⟩ := s; obtain ⟨there, h⟩ := h; have f1 := sub_dict_str0; wp_walk using wpAny_loadPart' there, wpAny_load there; exact ⟨_, rfl, h⟩
theorem dict_eq_declines_str (z : Str) (tk : Tok) (l : Addr) (es : Array DictEntry) (ep : Nat) (dd : Option Addr) (sl : Array (Option Value)) :
    Meets (Builtin.«dict.__eq__» ⟨[.ref l, .str z tk], []⟩) (fun _ R s => s.heap.get? l = some { cls := .type "dict", dict := dd, data := .dict es ep, slots := sl } ∧ R (.ok (.ret .notImplemented)) s) :=
  .of_wp fun prog w A R s h => by obtain ⟨hp, g, d, tk', os⟩ := s; obtain ⟨there, h⟩ := h; have f1 := sub_str_dict0; wp_walk using wpAny_loadPart' there, wpAny_load there; exact ⟨_, rfl, h⟩
theorem eq_str_dict {A : Around} {s : Shared} {l : Addr} {o : Obj} {es : Array DictEntry} {ep : Nat} (z : Str) (tk : Tok) (ho : s.heap.get? l = some o) (hc : o.cls = .type "dict") (hd : o.data = .dict es ep) (hu : A.units < cLine) : EqAt A s (.str z tk) (.ref l) false := fun prog w E Q h => by
  obtain ⟨cls, dd, data, sl⟩ := o
  simp only at hc hd
  subst hc hd
  unfold eqBool
  refine wpAny_holding ?_
  refine wpAny_ite_split (fun same => absurd (eq_of_beq same) nofun) fun _ => wpAny_bind ?_
  exact rc_eq_decline_or (k := false) (typeIs_str s z tk) ⟨_, ho, rfl⟩ (by decide) sub_dict_str0 F.slot_str_eq F.slot_dict_eq_refl
    (fun _ hq => call_meets F.slot_str_eq (typeIs_str s z tk) F.entry_str_eq (F.args_str_eq_2 _ _) (str_eq_declines_dict z tk l es ep dd sl) ⟨ho, hq⟩)
    (fun _ hq => call_meets F.slot_dict_eq_refl ⟨_, ho, rfl⟩ F.entry_dict_eq (F.args_dict_eq_2 _ _) (dict_eq_declines_str z tk l es ep dd sl) ⟨ho, hq⟩)
    (fun _ hq => wpAny_of_eq (rfl : isSame (.str z tk) (.ref l) = pure false) hq) (.inr hu) (wpAny_truthy_bool h)
end
def rNotInQ (K : PySem.W.Frag) : R2 := fun x y H Q => (∃ (q : Addr) (d : PyData) (ds : List PyData), Dq K q H x d ∧ Dq K q H y (.tuple ds) ∧ SeqAt.shaped d = true ∧ SeqAt.shaped (.tuple ds) = true ∧ Q (.bl (!ds.any fun z => PyData.eqv z d)) H) ∨
  ∃ (p t : Addr) (kvs : List (Key × V)) (ds : List Str), x = .ref p ∧ y = .ref t ∧ H p = some (.dK kvs) ∧ SqT K H t (ds.map V.str) ∧ Q (.bl true) H
theorem strs_are {l : List Str} : ∀ {us : List Value}, Vals (l.map V.str) us → ∀ u ∈ us, ∃ z t, u = .str z t := by
  induction l with
  | nil =>
    intro us r u hu
    cases r
    cases hu
  | cons a l ih =>
    intro us r u hu
    cases r with
    | cons r1 r2 =>
      rcases List.mem_cons.mp hu with rfl | hu
      · obtain ⟨t, e⟩ := r1
        exact ⟨a, t, e⟩
      · exact ih r2 u hu
theorem op_notinQ {X : Cx} {K : PySem.W.Frag} (h : X.K = K) (hu : X.A.units + 70 < cLine) : OpR X (compareOp .NotIn) (rNotInQ K) := by
  subst h
  intro pins s σ H x y v u Q I rx ry h
  rcases h with ⟨q, d, ds, hd, he, sd, se, k⟩ | ⟨p, t, kvs, ds, rfl, rfl, hp, ht, k⟩
  · obtain ⟨as, r1, _⟩ := Dq.reads I hd rx
    obtain ⟨bs, r2, _⟩ := Dq.reads I he ry
    exact SeqAt.notIn_tuple_reads r2 r1 (SeqAt.canLay_of_shaped se) (SeqAt.canLay_of_shaped sd) (room_in_shaped sd (by omega)) ⟨.bl _, H, I, rfl, k⟩
  · obtain rfl : v = Value.ref p := rx
    obtain rfl : u = Value.ref t := ry
    obtain ⟨hz, hm, vs, kr, o, es, ep, ho, hx, hd, hk, hpp, hnd⟩ := dk_of I.hok hp
    obtain ⟨its, rv, ⟨o2, ho2, hc2, n, hd2⟩, _⟩ := I.tuple ht
    have none0 : ∀ y, y ∈ its.toArray → SeqAt.EqAt X.A.in1 s y (.ref p) false := fun y hy => by
      obtain ⟨z, tk, rfl⟩ := strs_are rv y (by simpa using hy)
      exact eq_str_dict z tk ho hx.1 hd (by show X.A.units + 1 < cLine; omega)
    have no : its.toArray.any (fun _ => false) = false := by simp
    refine SeqAt.notIn_tupleAt (fun _ => false) ⟨o2, ho2, hc2, n, hd2⟩ none0 ⟨.bl true, H, I, ?_, k⟩
    rw [no]
    rfl

/-! ## x in l, l a list of texts, x data of any kind, a dict too -/
theorem strs_any {l : List Str} {f : Str → Bool} {e : Value → Bool} (he : ∀ z tk, e (.str z tk) = f z) : ∀ {us : List Value}, Vals (l.map V.str) us → us.any e = l.any f := by
  induction l with
  | nil =>
    intro us r
    cases r
    rfl
  | cons a l ih =>
    intro us r
    cases r with
    | cons r1 r2 =>
      obtain ⟨t, rfl⟩ := r1
      rw [List.any_cons, List.any_cons, he, ih r2]
theorem strs_in {l : List Str} : ∀ {us : List Value}, Vals (l.map V.str) us → ∀ u ∈ us, ∃ z tk, z ∈ l ∧ u = .str z tk := by
  induction l with
  | nil =>
    intro us r u hu
    cases r
    cases hu
  | cons a l ih =>
    intro us r u hu
    cases r with
    | cons r1 r2 =>
      rcases List.mem_cons.mp hu with rfl | hu
      · obtain ⟨t, e⟩ := r1
        exact ⟨a, t, .head _, e⟩
      · obtain ⟨z, t, m, e⟩ := ih r2 u hu
        exact ⟨z, t, .tail _ m, e⟩
def rInQL (K : PySem.W.Frag) : R2 := fun x y H Q => ∃ (t : Addr) (ds : List Str), y = .ref t ∧ SqL K H t (ds.map V.str) ∧ (∀ d ∈ ds, PyData.strOk d = true) ∧
  ((∃ (q : Addr) (d : PyData), Dq K q H x d ∧ SeqAt.shaped d = true ∧ Q (.bl (ds.any fun z => PyData.eqv (.str z) d)) H) ∨ ∃ (p : Addr) (kvs : List (Key × V)), x = .ref p ∧ H p = some (.dK kvs) ∧ Q (.bl false) H)
theorem op_inQL {X : Cx} {K : PySem.W.Frag} (h : X.K = K) (hu : X.A.units + 70 < cLine) : OpR X (compareOp .In) (rInQL K) := by
  subst h
  intro pins s σ H x y v u Q I rx ry h
  obtain ⟨t, ds, rfl, ht, ok, h⟩ := h
  rcases h with ⟨q, d, hd, sd, k⟩ | ⟨p, kvs, rfl, hp, k⟩
  · obtain ⟨as, r1, _⟩ := Dq.reads I hd rx
    obtain rfl : u = Value.ref t := ry
    obtain ⟨us, rv, pl, _⟩ := I.list ht
    have dep := SeqAt.depth_of_shaped sd
    obtain ⟨f, hf⟩ : ∃ f : Str → Bool, f = fun z => PyData.eqv (.str z) d := ⟨_, rfl⟩
    refine SeqAt.in_listAt (fun y => match y with | .str z _ => f z | _ => false) pl.isList (fun y hy => ?_) ?_
    · obtain ⟨z, tk, hz, rfl⟩ := strs_in rv y (by simpa using hy)
      show SeqAt.EqAt _ _ _ _ (f z)
      rw [hf]
      exact SeqAt.eqAt_reads (.str z) d X.A.in1 s _ _ _ _ (.str z tk) r1 (ok z hz) (SeqAt.canLay_of_shaped sd) (by
        have : min (PyData.str z).depth d.depth ≤ d.depth := Nat.min_le_right _ _
        show X.A.units + 1 + min (PyData.str z).depth d.depth < cLine
        omega)
    · refine ⟨.bl (ds.any f), H, I, ?_, by rw [hf]; exact k⟩
      have e1 := strs_any (f := f) (e := fun y => match y with | .str z _ => f z | _ => false) (fun _ _ => rfl) rv
      refine congrArg Value.bool ?_
      rw [← e1, List.any_toArray]
  · obtain rfl : v = Value.ref p := rx
    obtain rfl : u = Value.ref t := ry
    obtain ⟨hz, hm, vs, kr, o, es, ep, ho, hx, hd, hk, hpp, hnd⟩ := dk_of I.hok hp
    obtain ⟨us, rv, pl, _⟩ := I.list ht
    have none0 : ∀ y, y ∈ us.toArray → SeqAt.EqAt X.A.in1 s y (.ref p) false := fun y hy => by
      obtain ⟨z, tk, rfl⟩ := strs_are rv y (by simpa using hy)
      exact eq_str_dict z tk ho hx.1 hd (by show X.A.units + 1 < cLine; omega)
    have no : us.toArray.any (fun _ => false) = false := by simp
    refine SeqAt.in_listAt (fun _ => false) pl.isList none0 ⟨.bl false, H, I, ?_, k⟩
    rw [no]
    rfl

abbrev s_apart : Stmt := top 23
abbrev N_apart : List Str := ["one", "other", "lot", "rest", "other_rest", "name"]
abbrev P_apart : List Str := ["one", "other", "lot"]
theorem sc_apart : FnScope N_apart P_apart (defScope s_apart) := ⟨rfl, rfl, rfl, by decide +kernel, rfl, by decide +kernel, by decide +kernel⟩
theorem bs_apart : BindsSt "_apart" s_apart P_apart := fun _ _ _ _ _ _ us hl => match us, hl with | [_, _, _], _ => rfl
abbrev sdiffer : Stmt := top 21
abbrev Ndiffer : List Str := ["one", "other", "lot", "apart"]
abbrev Pdiffer : List Str := ["one", "other"]
theorem scdiffer : FnScope Ndiffer Pdiffer (defScope sdiffer) := ⟨rfl, rfl, rfl, by decide +kernel, rfl, by decide +kernel, by decide +kernel⟩
theorem bsdiffer : BindsSt "differ" sdiffer Pdiffer := fun _ _ _ _ _ _ us hl => match us, hl with | [_, _], _ => rfl
abbrev sshows_differ : Stmt := top 22
abbrev Nshows_differ : List Str := ["one", "other", "value"]
abbrev Pshows_differ : List Str := ["one", "other", "value"]
theorem scshows_differ : FnScope Nshows_differ Pshows_differ (defScope sshows_differ) := ⟨rfl, rfl, rfl, by decide +kernel, rfl, by decide +kernel, by decide +kernel⟩
theorem bsshows_differ : BindsSt "shows_differ" sshows_differ Pshows_differ := fun _ _ _ _ _ _ us hl => match us, hl with | [_, _, _], _ => rfl
section
variable {K : PySem.W.Frag} {C : Addr} {H : Hp} {p q : Addr} {ds : List Str} {f g : Nat → Nat} {bs bs' : List Bun} {Q : VK}
theorem RulesF.ins {p : Addr} {f : Nat → Nat} {bs : List Bun} (h : RulesF K C H p ds f bs) : ∃ dx fs, H p = some (.ins C dx fs) ∧ fs.lookup ("is_within" : Str) = none ∧ fs.lookup ("rest" : Str) = none := by
  obtain ⟨dx, x, y, z, r, es, h1, _⟩ := h.at_
  exact ⟨dx, _, h1, rf_no _ _ _ _ (by decide +kernel) (by decide +kernel) (by decide +kernel) (by decide +kernel), rf_no _ _ _ _ (by decide +kernel) (by decide +kernel) (by decide +kernel) (by decide +kernel)⟩
theorem w_orR (hp : RulesF K C H p ds f bs) (hq : RulesF K C H q ds g bs') (hd : Devs ds) (k : ∀ H' r, Same H H' → RulesF K C H' r ds (jnF ds.length f g) (baseB ds (jnF ds.length f g)) → Q (.ref r) H') : rBinOwn C (spROr K C) (.ref p) (.ref q) H Q := by
  obtain ⟨dx, fs, h1, _⟩ := hp.ins
  obtain ⟨dx', fs', g1, _⟩ := hq.ins
  exact ⟨p, q, dx, dx', fs, fs', rfl, rfl, h1, g1, p, q, ds, f, g, bs, bs', rfl, hp, hq, hd, k⟩
theorem w_andR (hp : RulesF K C H p ds f bs) (hq : RulesF K C H q ds g bs') (hd : Devs ds) (k : ∀ H' r, Same H H' → RulesF K C H' r ds (mtF f g) (baseB ds (mtF f g)) → Q (.ref r) H') : rBinOwn C (spRAnd K C) (.ref p) (.ref q) H Q := by
  obtain ⟨dx, fs, h1, _⟩ := hp.ins
  obtain ⟨dx', fs', g1, _⟩ := hq.ins
  exact ⟨p, q, dx, dx', fs, fs', rfl, rfl, h1, g1, p, q, ds, f, g, bs, bs', rfl, hp, hq, hd, k⟩
theorem w_eqR {neg : Bool} (hp : RulesF K C H p ds f bs) (hq : RulesF K C H q ds g bs') (hd : Devs ds) (k : ∀ H' (b : Bool), Same H H' → (b = true ↔ ∀ m, m < 2 ^ ds.length → f m = g m) → Q (.bl (b != neg)) H') : rCmpOwn neg C (spREqD K C) (.ref p) (.ref q) H Q := by
  obtain ⟨dx, fs, h1, _⟩ := hp.ins
  obtain ⟨dx', fs', g1, _⟩ := hq.ins
  exact ⟨p, q, dx, dx', fs, fs', rfl, rfl, h1, g1, p, q, ds, bs, bs', _, _, rfl, hp.at_, hq.at_, hd, hp.ends, hq.ends, fun H' s => ⟨_, rfl, k H' _ s (by rw [decide_eq_true_eq]; exact endL_inj)⟩⟩
theorem w_inR {E : XK} (hp : RulesF K C H p ds f bs) (hq : RulesF K C H q ds g bs') (hd : Devs ds) (k : ∀ H' (b : Bool), Same H H' → (b = true ↔ ∀ m, m < 2 ^ ds.length → g m = m → f m = m) → Q (.bl b) H') : spRWithin K C [.ref p, .ref q] H Q E :=
  ⟨p, q, ds, f, g, bs, bs', rfl, hp, hq, hd, k⟩
theorem w_restR {E : XK} {y : V} {l : List Str} (hp : RulesF K C H p ds f bs) (hd : Devs ds) (hy : LotAt K H y l) (hl : l.Sublist ds) (k : ∀ H' z, Same H H' → LotAt K H' z (lotOf ds (f (maskOf ds l))) → Q z H') : spRRest K C [.ref p, y] H Q E :=
  ⟨p, y, ds, l, bs, rfl, hp.at_, hy, hl, hd, fun H' z e s he _ hz => k H' z s (by
    have hg := (hp.ends.2 (maskOf ds l) (f (maskOf ds l)) (by
      unfold endL
      rw [List.getElem?_map, List.getElem?_range (mask_lt _ _)]
      rfl)).1
    rw [hg.uniq he]
    exact hz)⟩
theorem w_catLots {x y : V} {ls ms : List (List Str)} (hx : LotsT K H x ls) (hy : LotsT K H y ms) (hz : ls.length + ms.length ≤ 10000) (k : ∀ H' v', Same H H' → LotsT K H' v' (ls ++ ms) → Q v' H') : rCatA K x y H Q := by
  obtain ⟨a, xs, rfl, ha, hp⟩ := hx
  obtain ⟨b, ys, rfl, hb, hq⟩ := hy
  have hl := Paired.length hp
  have hm := Paired.length hq
  refine ⟨a, b, xs, ys, rfl, rfl, ha, hb, by rw [sizeLine_eq]; omega, fun z => ?_, fun _ z => ?_, fun _ _ p hp' => ?_⟩
  · subst z
    cases hp
    exact k H _ (Same.refl _) ⟨b, ys, rfl, hb, hq⟩
  · subst z
    cases hq
    exact k H _ (Same.refl _) ⟨a, xs, rfl, ha, by rw [List.append_nil]; exact hp⟩
  · have s := same_upd (o := .tup (xs ++ ys)) (Same.refl _) hp'
    exact k _ _ s ⟨p, _, rfl, SqT.of upd_same, Wk.Paired.app (Paired.mapP hp fun _ _ h => h.same s) (Paired.mapP hq fun _ _ h => h.same s)⟩
end
/-- the devices that come on by just one of both -/
def apartL (ds : List Str) (f g : Nat → Nat) (l : List Str) : List Str := ds.filter fun d => decide (d ∈ lotOf ds (f (maskOf ds l))) != decide (d ∈ lotOf ds (g (maskOf ds l)))
def spApart (K : PySem.W.Frag) (C : Addr) : Sp := fun vs H Q _ => ∃ (p q : Addr) (y : V) (ds l : List Str) (f g : Nat → Nat) (bs bs' : List Bun), vs = [.ref p, .ref q, y] ∧ RulesF K C H p ds f bs ∧ RulesF K C H q ds g bs' ∧ Devs ds ∧ LotAt K H y l ∧ l.Sublist ds ∧
  ∀ H' D, Same H H' → H' D = some (.lst ((apartL ds f g l).map V.str)) → Q (.ref D) H'
theorem restsF_few {ds : List Str} {f : Nat → Nat} (hd2 : ds.length ≤ 6) : (sortTS (restsN ds (endL ds.length f) 0)).length ≤ 64 := by
  rw [(sortTS_perm _).length_eq, restsN_stay endL_len, List.length_map]
  unfold stayM
  refine Nat.le_trans (List.length_filter_le _ _) ?_
  rw [List.length_range]
  exact Nat.le_trans (Nat.pow_le_pow_right (by decide) hd2) (by decide)
section
variable {P : Program} {w : World} {K : PySem.W.Frag} {mg : Str → Option Value} {base : Heap} {C : Addr}
theorem ok_apart (F : FunAt K mg "_apart" s_apart) (T : Txt mg) (R : RCls K C) (Dm_rest : DefM P w K mg base 3 C "rest" PRules_rest (spRRest K C)) : Def P w K mg base 4 "_apart" P_apart (spApart K C) := by
  refine def_of F sc_apart bs_apart (fun vs H Q E h => ?_) fun f cdv A outer s H vs Q E hr h => ?_
  · obtain ⟨p, q, y, ds, l, f, g, bs, bs', rfl, _⟩ := h
    rfl
  · refine ⟨_, (pss_cons (ps_set (i := 3) sc_apart.nd rfl (by first | exact Or.inl rfl | exact Or.inr rfl) (pe_dm Dm_rest R.cl (hr.mono (by omega)) (pv 0) (pa_cons (pv 2) pa_nil)))
  (pss_cons (ps_set (i := 4) sc_apart.nd rfl (by first | exact Or.inl rfl | exact Or.inr rfl) (pe_dm Dm_rest R.cl (hr.mono (by omega)) (pv 1) (pa_cons (pv 2) pa_nil)))
  (pss_one (ps_ret (pe_lc (own := [("name", 5)]) (g := (gName 5)) rfl sc_apart.nd (pi_tup (pe_fld (pv 0) rfl)) (blkOk_by (N := N_apart) (sc := defScope s_apart) (by decide +kernel)) (fun _ _ _ _ _ => (pg_name (i := 5) sc_apart.nd rfl (by first | exact Or.inl rfl | exact Or.inr rfl))) (fun _ _ _ _ _ => (pts_one (pt_cmpR op_ne (pe_cmpR (op_inK (K := K) rfl) (pv 5) (pv 3) (by rfl)) (pe_cmpR (op_inK (K := K) rfl) (pv 5) (pv 4) (by rfl)) (nomark _)))) (fun _ _ _ _ _ => (pv 5))))))), ?_⟩
    obtain ⟨p, q, y, ds, l, f, g, bs, bs', rfl, hp, hq, hd, hy, hl, go⟩ := h
    obtain ⟨hd1, hd2, hd3, hd4⟩ := id hd
    obtain ⟨dx, fs, hI, _, hno⟩ := hp.ins
    walk_at "v"
    refine w_meth ?_
    walk_at "v"
    refine ⟨p, dx, fs, rfl, hI, hno, ?_⟩
    walk_at "v"
    refine w_restR hp hd hy hl fun H1 z1 s1 hz1 => ?_
    walk_at "v"
    obtain ⟨dx', fs', hI', _, hno'⟩ := (hq.same s1).ins
    refine w_meth ?_
    walk_at "v"
    refine ⟨q, dx', fs', rfl, hI', hno', ?_⟩
    walk_at "v"
    refine w_restR (hq.same s1) hd (hy.same s1) hl fun H2 z2 s2 hz2 => ?_
    obtain ⟨a1, rfl, h1⟩ := hz1.same s2
    obtain ⟨a2, rfl, h2⟩ := hz2
    obtain ⟨dx, x, y1, z, r, es, g1, g2, _⟩ := ((hp.same s1).same s2).at_
    obtain ⟨da, rfl, hda⟩ := g2
    walk_at "v"
    refine w_lcTF (fun x => inV x ((lotOf ds (f (maskOf ds l))).map V.str) != inV x ((lotOf ds (g (maskOf ds l))).map V.str)) id (fun R' k => ?_) hda (by rw [List.length_map]; omega) (fun _ => rfl) ?_ ?_ ?_
    · refine w_fld ?_
      refine w_var rfl ?_
      exact ⟨p, C, dx, _, _, rfl, g1, R.cl, R.nD, rf_d _ _ _ _, k⟩
    · intro x H' R' hx s k
      obtain ⟨d, _, rfl⟩ := List.mem_map.mp hx
      walk_at "v"
      refine ⟨a1, _, rfl, .inr (Same.sqT s h1), rfl, flat_strs _, ?_⟩
      walk_at "v"
      refine ⟨a2, _, rfl, .inr (Same.sqT s h2), rfl, flat_strs _, ?_⟩
      refine ⟨rfl, ?_⟩
      refine ⟨_, rfl, ?_⟩
      generalize inV (.str d) ((lotOf ds (f (maskOf ds l))).map V.str) = b1 at k ⊢
      generalize inV (.str d) ((lotOf ds (g (maskOf ds l))).map V.str) = b2 at k ⊢
      cases b1 <;> cases b2 <;> exact k
    · intro x H' R' hx s k
      walk_at "v"
      exact k
    · intro D H' hD s e
      rw [filter_strs (p := fun d => decide (d ∈ lotOf ds (f (maskOf ds l))) != decide (d ∈ lotOf ds (g (maskOf ds l)))) fun d => by rw [inV_str, inV_str]] at e
      walk_at "v"
      exact go H' D ((s1.trans s2).trans s) e
end

abbrev sWakeError_init : Stmt := inClass (top 2) 0
abbrev NWakeError_init : List Str := ["self", "value"]
abbrev PWakeError_init : List Str := ["self", "value"]
theorem scWakeError_init : FnScope NWakeError_init PWakeError_init (defScope sWakeError_init) := ⟨rfl, rfl, rfl, by decide +kernel, rfl, by decide +kernel, by decide +kernel⟩
theorem strs_dqa {K : PySem.W.Frag} {q : Addr} {H : Hp} : ∀ {l : List Str} {xs : List V}, DqA K q H xs (l.map PyData.str) → xs = l.map V.str
  | [], _, .nil => rfl
  | a :: l, _, .cons (.str _) t => by rw [strs_dqa t]; rfl
theorem lotAt_dq {K : PySem.W.Frag} {q : Addr} {H : Hp} {v : V} {l : List Str} (h : Dq K q H v (lotD l)) : LotAt K H v l := by
  unfold lotD at h
  cases h with
  | tup e r =>
    rw [strs_dqa r] at e
    exact ⟨_, rfl, e⟩
theorem lotD_inj {l m : List Str} (h : lotD l = lotD m) : l = m := (List.map_inj_right fun _ _ h => PyData.str.inj h).mp (PyData.tuple.inj h)
/-- the errors that are raised: their classes, what keeps their value -/
structure ErrF (K : PySem.W.Frag) (mg : Str → Option Value) (fI : Addr) (fdI : FuncData) (CO CW : Addr) : Prop where
  gO : mg "OtherDevices" = some (.ref CO)
  gW : mg "WakeError" = some (.ref CW)
  eO : ErrC K CO fI
  tI : PySem.W.typeIn K (.ref fI) = some (.type "function")
  bI : Binds K fdI ["self", "value"] []
  xO : PySem.W.exmOne K (.ref CO) (.ref CW) = some true
  kOO : PySem.W.kitOne K (.ref CO) (.ref CO) = some true
theorem raise_ok {K : PySem.W.Frag} {D fI : Addr} {E : XK} {σ : L2.St} {H : Hp} {te : TE} {v : V} (T : ErrC K D fI) (ht : ∀ R : VK, R v H → te σ H R) (k : ∀ G d, Same H G → G d = some (.xd [(("value" : Str), v)]) → E (.ref D) (some d) G) :
    tMkO D (spInit K) [] (tCons te tNil) σ H (fun cls d G => E cls d G) := by
  refine ht _ ⟨by show 1 ≤ 1000; decide, fun a ha => ⟨a, D, v, rfl, T.o, T.inv, upd_same, fun dx hd hne => ⟨rfl, dx, [(("value" : Str), v)], upd_same, ?_, ?_, ?_⟩⟩⟩
  · rw [upd_ne hne, upd_same]
  · rw [upd_ne hne] at hd
    exact hd
  · rw [upd_ne hne] at hd
    refine k _ dx (fun b o e => ?_) upd_same
    have hb : b ≠ a := ne_of_none e ha
    have hbd : b ≠ dx := ne_of_none e hd
    rw [upd_ne hbd, del_ne hb, upd_ne hb, upd_ne hbd, upd_ne hb]
    exact e
/-- what is raised with this value -/
def Rz (E : XK) (D : Addr) (H : Hp) (v : V) : Prop := ∀ G d, Same H G → G d = some (.xd [(("value" : Str), v)]) → E (.ref D) (some d) G
theorem Rz.same {E : XK} {D : Addr} {H H' : Hp} {v : V} (r : Rz E D H v) (s : Same H H') : Rz E D H' v := fun G d s' e => r G d (s.trans s') e
def DevIn (ds : List Str) (d : PyData) : Prop := ∃ z, z ∈ ds ∧ d = .str z
theorem eqv_strL {d : PyData} {s : Str} : PyData.eqv (.str s) d = true ↔ d = .str s := by
  cases d with
  | str z => rw [show PyData.eqv (.str s) (.str z) = true ↔ s = z from by simp [PyData.eqv]]; exact ⟨fun e => by rw [e], fun e => (PyData.str.inj e).symm⟩
  | _ => simp [PyData.eqv]
theorem devIn_any {ds : List Str} {d : PyData} : ((ds.map PyData.str).any fun z => PyData.eqv z d) = true ↔ DevIn ds d := by
  rw [List.any_eq_true]
  constructor
  · rintro ⟨x, hx, e⟩
    obtain ⟨z, hz, rfl⟩ := List.mem_map.mp hx
    exact ⟨z, hz, eqv_strL.mp e⟩
  · rintro ⟨z, hz, rfl⟩
    exact ⟨.str z, List.mem_map.mpr ⟨z, hz, rfl⟩, eqv_strL.mpr rfl⟩
/-- data of any kind, small enough -/
structure AnyD (K : PySem.W.Frag) (q : Addr) (H : Hp) (v : V) (d : PyData) : Prop where
  dq : Dq K q H v d
  nd : ndB d = true
  dep : d.depth ≤ 60
theorem AnyD.same {K : PySem.W.Frag} {q : Addr} {H H' : Hp} {v : V} {d : PyData} (a : AnyD K q H v d) (s : Same H H') : AnyD K q H' v d := ⟨a.dq.same s, a.nd, a.dep⟩
section
variable {K : PySem.W.Frag} {H : Hp} {ds : List Str} {f g : Nat → Nat} {Q : VK}
theorem entsF_vals (hd : Devs ds) : ∀ {kvs : List (List Key × V)} {ls : List (List Str)}, Paired (EntF K H ds f) kvs ls → Paired (DataAt K H) kvs ((ls.map fun l => lotOf ds (f (maskOf ds l))).map lotD)
  | _, _, .nil => .nil
  | _, _, .cons h t => .cons ⟨lot_dp h.2, shaped_of (lotD_lay (.of (lotOf_sublist ds _) hd)) (Nat.le_trans (lotD_dep _) (by decide))⟩ (entsF_vals hd t)
theorem w_eqTabB {D1 D2 : Addr} (hd : Devs ds) (h1 : TableF K H D1 ds f) (h2 : TableF K H D2 ds g) (hf : Cl f ds.length) (hg : Cl g ds.length) (k : ∀ b : Bool, (b = true ↔ ∀ m, m < 2 ^ ds.length → f m = g m) → Q (.bl b) H) : rEqDT K (.ref D1) (.ref D2) H Q := by
  obtain ⟨hd1, hd2, hd3, hd4⟩ := id hd
  obtain ⟨kvs, a1, a2⟩ := h1
  obtain ⟨kvs', b1, b2⟩ := h2
  refine ⟨D1, D2, kvs, kvs', _, _, rfl, rfl, a1, b1, (entsF_keys a2).trans (entsF_keys b2).symm, entsF_vals hd a2, entsF_vals hd b2, ?_⟩
  rw [eqv_lots]
  refine k _ ?_
  rw [decide_eq_true_eq, List.map_inj_left]
  refine ⟨fun h m hm => ?_, fun h l hl => by rw [h _ (mask_lt _ _)]⟩
  have := h (lotOf ds m) (lots_in hd3 (lotOf_sublist ds m))
  rw [mask_lot hd3 hm] at this
  exact lotOf_inj hd3 (hf.lt m hm) (hg.lt m hm) this
end
/-- what differ may tell -/
def DiffP (ds : List Str) (f g : Nat → Nat) (d : PyData) : Prop := (d = lotD ["alike"] ∧ ∀ m, m < 2 ^ ds.length → f m = g m) ∨ ∃ l z, d = .tuple [.str "apart", lotD l, .str z] ∧ l.Sublist ds ∧ z ∈ apartL ds f g l
theorem apart_none {ds : List Str} {f g : Nat → Nat} {m : Nat} (hn : ds.Nodup) (hm : m < 2 ^ ds.length) (hf : Cl f ds.length) (hg : Cl g ds.length) : apartL ds f g (lotOf ds m) = [] ↔ f m = g m := by
  unfold apartL
  rw [mask_lot hn hm, List.filter_eq_nil_iff]
  constructor
  · intro h
    refine lotOf_inj hn (hf.lt m hm) (hg.lt m hm) ?_
    refine subl_ext hn (lotOf_sublist ds _) (lotOf_sublist ds _) fun d hd => ?_
    have := h d hd
    by_cases h1 : d ∈ lotOf ds (f m) <;> by_cases h2 : d ∈ lotOf ds (g m) <;> simp [h1, h2] at this ⊢
  · intro h d _
    rw [h]
    simp
/-- closures that agree where either stays agree -/
theorem agree_all {n : Nat} {f g : Nat → Nat} (hf : Cl f n) (hg : Cl g n) (h1 : ∀ m, m < 2 ^ n → f m = m → f m = g m) (h2 : ∀ m, m < 2 ^ n → g m = m → f m = g m) : ∀ m, m < 2 ^ n → f m = g m := by
  intro m hm
  have a1 := h1 (f m) (hf.lt m hm) (hf.idem m hm)
  have a2 := h2 (g m) (hg.lt m hm) (hg.idem m hm)
  rw [hf.idem m hm] at a1
  rw [hg.idem m hm] at a2
  have s1 := hg.least m (f m) hm (hf.lt m hm) (hf.up m hm) a1.symm
  have s2 := hf.least m (g m) hm (hg.lt m hm) (hg.up m hm) a2
  exact Sub.anti s2 s1
def spSameX (K : PySem.W.Frag) (C CO : Addr) : Sp := fun vs H Q E => ∃ (p q : Addr) (ds es : List Str) (f g : Nat → Nat) (bs bs' : List Bun), vs = [.ref p, .ref q] ∧ RulesF K C H p ds f bs ∧ RulesF K C H q es g bs' ∧ Devs ds ∧ Devs es ∧ ds ≠ es ∧ Rz E CO H (.ref q)
def spDifferX (K : PySem.W.Frag) (C CO : Addr) : Sp := spSameX K C CO
def spShowsDifferX (K : PySem.W.Frag) (C CO : Addr) : Sp := fun vs H Q E => ∃ (p q : Addr) (v : V), vs = [.ref p, .ref q, v] ∧ spSameX K C CO [.ref p, .ref q] H Q E
def spDiffer (K : PySem.W.Frag) (C : Addr) : Sp := fun vs H Q _ => ∃ (p q : Addr) (ds : List Str) (f g : Nat → Nat) (bs bs' : List Bun), vs = [.ref p, .ref q] ∧ RulesF K C H p ds f bs ∧ RulesF K C H q ds g bs' ∧ Devs ds ∧
  ((∀ m, m < 2 ^ ds.length → f m = g m) → ∀ H' T, Same H H' → SqT K H' T [.str "alike"] → Q (.ref T) H') ∧ (∀ H' T y l z, Same H H' → SqT K H' T [.str "apart", y, .str z] → LotAt K H' y l → l.Sublist ds → z ∈ apartL ds f g l → Q (.ref T) H')
def spShowsDifferD (K : PySem.W.Frag) (C : Addr) : Sp := fun vs H Q _ => ∃ (q0 p q : Addr) (v : V) (ds : List Str) (f g : Nat → Nat) (bs bs' : List Bun) (d : PyData), vs = [.ref p, .ref q, v] ∧ RulesF K C H p ds f bs ∧ RulesF K C H q ds g bs' ∧ Devs ds ∧ AnyD K q0 H v d ∧
  ∀ H' (b : Bool), Same H H' → (b = true ↔ DiffP ds f g d) → Q (.bl b) H'
section
variable {P : Program} {w : World} {K : PySem.W.Frag} {mg : Str → Option Value} {base : Heap} {C fI CO CW : Addr} {fdI : FuncData}
theorem ok_need_sameX (F : FunAt K mg "need_same_devices" sneed_same_devices) (R : RCls K C) (G : ErrF K mg fI fdI CO CW) (Finit : FnOk P w K mg base CX0 2 fI fdI ["self", "value"] (spInit K)) : DefX P w K mg base 4 "need_same_devices" Pneed_same_devices (spSameX K C CO) := by
  refine defX_of F scneed_same_devices bsneed_same_devices (fun vs H Q E h => ?_) fun f cdv A outer s H vs Q E hr h => ?_
  · obtain ⟨p, q, ds, es, f, g, bs, bs', rfl, _⟩ := h
    rfl
  · refine ⟨_, (pss_one (ps_if (pt_cmpR (op_neD hr.units) (pe_fld (pv 0) rfl) (pe_fld (pv 1) rfl) (nomark _)) (pss_one (ps_raise rfl (takes_of rfl rfl rfl rfl) (pmk_oex G.eO.o G.eO.ini G.tI Finit (hr.mono (by omega)) G.bI .nil (fun _ _ _ _ _ _ _ h => h.elim) rfl G.gO (pa_cons (pv 1) pa_nil)))) pss_nil)), ?_⟩
    obtain ⟨p, q, ds, es', f, g, bs, bs', rfl, hp, hq, hd, he, ne, bad⟩ := h
    obtain ⟨dx, x, y, z, r, es, h1, h2, h3, h4, h5, h6⟩ := hp.at_
    obtain ⟨dx', x', y', z', r', ees, g1, g2, g3, g4, g5, g6⟩ := hq.at_
    refine w_ifS ?_
    refine w_test ?_
    refine w_op ?_
    refine w_fld ?_
    refine w_var rfl ?_
    refine ⟨p, C, dx, _, x, rfl, h1, R.cl, R.nD, rf_d _ _ _ _, ?_⟩
    refine w_fld ?_
    refine w_var rfl ?_
    refine ⟨q, C, dx', _, x', rfl, g1, R.cl, R.nD, rf_d _ _ _ _, ?_⟩
    refine w_neLotsP (fun d hm => pool_ok d (hd.2.2.2 d hm)) (fun d hm => pool_ok d (he.2.2.2 d hm)) h2 g2 ?_
    rw [decide_eq_false ne]
    refine ⟨_, rfl, iteT ?_⟩
    exact raise_ok G.eO (fun R k => ⟨_, rfl, k⟩) bad
theorem ok_differX (F : FunAt K mg "differ" sdiffer) (T : Txt mg) (R : RCls K C) (Dneed_sameX : DefX P w K mg base 4 "need_same_devices" Pneed_same_devices (spSameX K C CO)) (D_apart : Def P w K mg base 4 "_apart" P_apart (spApart K C)) : DefX P w K mg base 6 "differ" Pdiffer (spDifferX K C CO) := by
  refine defX_of F scdiffer bsdiffer (fun vs H Q E h => ?_) fun f cdv A outer s H vs Q E hr h => ?_
  · obtain ⟨p, q, ds, es, f, g, bs, bs', rfl, _⟩ := h
    rfl
  · refine ⟨_, (pss_cons (ps_expr (pe_dX Dneed_sameX (hr.mono (by omega)) (pa_cons (pv 0) (pa_cons (pv 1) pa_nil)) (passes_call (takes_of rfl rfl rfl rfl) fun _ _ _ _ h => h)))
  (pss_cons (ps_for (passes_of rfl) rfl (pi_tup (pe_op op_catA (pe_fld (pv 0) rfl) (pe_fld (pv 1) rfl))) (pg_name (i := 2) scdiffer.nd rfl (by first | exact Or.inl rfl | exact Or.inr rfl)) (pss_cons (ps_set (i := 3) scdiffer.nd rfl (by first | exact Or.inl rfl | exact Or.inr rfl) (pe_d D_apart (hr.mono (by omega)) (pa_cons (pv 0) (pa_cons (pv 1) (pa_cons (pv 2) pa_nil)))))
  (pss_one (ps_if (pt_truthK (K := K) rfl (pv 3) (by intro _; rfl)) (pss_one (ps_ret (pe_tup (pa_cons pe_str (pa_cons (pv 2) (pa_cons (pe_ix ix_list (pv 3) pe_int (fun _ _ => rfl)) pa_nil)))))) pss_nil))))
  (pss_one (ps_ret (pe_tup (pa_cons pe_str pa_nil)))))), ?_⟩
    obtain ⟨p, q, ds, es', f, g, bs, bs', rfl, hp, hq, hd, he, ne, bad⟩ := h
    refine w_seq (w_drop (w_call (w_cons (w_var rfl (w_cons (w_var rfl (w_nil ?_)))))))
    exact ⟨p, q, ds, es', f, g, bs, bs', rfl, hp, hq, hd, he, ne, bad⟩
theorem ok_shows_differX (F : FunAt K mg "shows_differ" sshows_differ) (T : Txt mg) (R : RCls K C) (Dneed_sameX : DefX P w K mg base 4 "need_same_devices" Pneed_same_devices (spSameX K C CO)) (Dm_eq : DefM P w K mg base 1 C "__eq__" PRules_eq (spREqD K C)) (Dhas_form : Def P w K mg base 1 "has_form" Phas_form (spHasFormD K))
    (Dis_lot : Def P w K mg base 1 "is_lot" Pis_lot (spIsLotD K)) (D_apart : Def P w K mg base 4 "_apart" P_apart (spApart K C)) : DefX P w K mg base 6 "shows_differ" Pshows_differ (spShowsDifferX K C CO) := by
  refine defX_of F scshows_differ bsshows_differ (fun vs H Q E h => ?_) fun f cdv A outer s H vs Q E hr h => ?_
  · obtain ⟨p, q, v, rfl, _⟩ := h
    rfl
  · refine ⟨_, (pss_cons (ps_expr (pe_dX Dneed_sameX (hr.mono (by omega)) (pa_cons (pv 0) (pa_cons (pv 1) pa_nil)) (passes_call (takes_of rfl rfl rfl rfl) fun _ _ _ _ h => h)))
  (pss_cons (ps_if (pt_cmpR (op_eqM Dm_eq (hr.mono (by omega))) (pv 0) (pv 1) (nomark _)) (pss_one (ps_ret (pe_cmpR (op_eqQ hr.units) (pv 2) (pe_tup (pa_cons pe_str pa_nil)) (nomark _)))) pss_nil)
  (pss_cons (ps_if (pt_not (pt_val (pe_d Dhas_form (hr.mono (by omega)) (pa_cons (pv 2) (pa_cons pe_str (pa_cons pe_int pa_nil)))))) (pss_one (ps_ret pe_bl)) pss_nil)
  (pss_one (ps_ret (pe_and (pe_d Dis_lot (hr.mono (by omega)) (pa_cons (pe_fld (pv 0) rfl) (pa_cons (pe_ix ix_tup (pv 2) pe_int (fun _ _ => rfl)) pa_nil))) (pe_one (pe_cmpR op_in_seq (pe_ix ix_tup (pv 2) pe_int (fun _ _ => rfl)) (pe_d D_apart (hr.mono (by omega)) (pa_cons (pv 0) (pa_cons (pv 1) (pa_cons (pe_ix ix_tup (pv 2) pe_int (fun _ _ => rfl)) pa_nil)))) (by rfl))))))))), ?_⟩
    obtain ⟨p, q, v, rfl, h⟩ := h
    refine w_seq (w_drop (w_call (w_cons (w_var rfl (w_cons (w_var rfl (w_nil h)))))))
end

theorem eqv_strF {s : Str} {d : PyData} : PyData.eqv (.str s) d = true ↔ d = .str s := by
  cases d with
  | str z => simp only [PyData.eqv, beq_iff_eq, PyData.str.injEq]; exact eq_comm
  | _ => simp [PyData.eqv]
theorem strs_dq {K : PySem.W.Frag} {q : Addr} {H : Hp} {t : Addr} {l : List Str} (h : SqT K H t (l.map V.str)) : Dq K q H (.ref t) (lotD l) := lot_dq q ⟨t, rfl, h⟩
theorem apart_all {ds : List Str} {f g : Nat → Nat} (h : ∀ m, m < 2 ^ ds.length → f m = g m) (l : List Str) : apartL ds f g l = [] := by
  unfold apartL
  rw [h _ (mask_lt _ _)]
  exact List.filter_eq_nil_iff.mpr fun d _ => by simp
section
variable {P : Program} {w : World} {K : PySem.W.Frag} {mg : Str → Option Value} {base : Heap} {C : Addr}
theorem ok_differ (F : FunAt K mg "differ" sdiffer) (T : Txt mg) (R : RCls K C) (Dneed_same_devices : Def P w K mg base 1 "need_same_devices" Pneed_same_devices (spSame K C)) (D_apart : Def P w K mg base 4 "_apart" P_apart (spApart K C)) : Def P w K mg base 5 "differ" Pdiffer (spDiffer K C) := by
  refine def_of F scdiffer bsdiffer (fun vs H Q E h => ?_) fun f cdv A outer s H vs Q E hr h => ?_
  · obtain ⟨p, q, ds, f, g, bs, bs', rfl, _⟩ := h
    rfl
  · refine ⟨_, (pss_cons (ps_expr (pe_d Dneed_same_devices (hr.mono (by omega)) (pa_cons (pv 0) (pa_cons (pv 1) pa_nil))))
  (pss_cons (ps_for PassesOwn.never rfl (pi_tup (pe_op op_catA (pe_fld (pv 0) rfl) (pe_fld (pv 1) rfl))) (pg_name (i := 2) scdiffer.nd rfl (by first | exact Or.inl rfl | exact Or.inr rfl)) (pss_cons (ps_set (i := 3) scdiffer.nd rfl (by first | exact Or.inl rfl | exact Or.inr rfl) (pe_d D_apart (hr.mono (by omega)) (pa_cons (pv 0) (pa_cons (pv 1) (pa_cons (pv 2) pa_nil)))))
  (pss_one (ps_if (pt_truthK (K := K) rfl (pv 3) (by intro _; rfl)) (pss_one (ps_ret (pe_tup (pa_cons pe_str (pa_cons (pv 2) (pa_cons (pe_ix ix_list (pv 3) pe_int (fun _ _ => rfl)) pa_nil)))))) pss_nil))))
  (pss_one (ps_ret (pe_tup (pa_cons pe_str pa_nil)))))), ?_⟩
    obtain ⟨p, q, ds, f, g, bs, bs', rfl, hp, hq, hd, alike, apart⟩ := h
    obtain ⟨hd1, hd2, hd3, hd4⟩ := id hd
    walk_at "v"
    refine ⟨p, q, ds, f, g, bs, bs', rfl, hp, hq, hd, ?_⟩
    walk_at "v"
    obtain ⟨dx, x, y, z, r, es, h1, h2, h3, h4, h5, h6⟩ := hp.at_
    obtain ⟨dx', x', y', z', r', es', g1, g2, g3, g4, g5, g6⟩ := hq.at_
    obtain rfl := ends_uniq h5 hp.ends fun _ _ _ h => h
    obtain rfl := ends_uniq g5 hq.ends fun _ _ _ h => h
    have n1 := restsF_few (f := f) hd2
    have n2 := restsF_few (f := g) hd2
    unfold tFor iTup
    refine w_op ?_
    refine w_fld ?_
    refine w_var rfl ?_
    refine ⟨p, C, dx, _, r, rfl, h1, R.cl, R.nR, rf_r _ _ _ _, ?_⟩
    refine w_fld ?_
    refine w_var rfl ?_
    refine ⟨q, C, dx', _, r', rfl, g1, R.cl, R.nR, rf_r _ _ _ _, ?_⟩
    refine w_catLots h6 g6 (by omega) fun H1 v1 s1 ⟨t, xs, e1, ht, hxs⟩ => ?_
    subst e1
    have hlen := Paired.length hxs
    refine ⟨t, rfl, ⟨_, ht⟩, for_tup (xs := xs) (Pv := fun i σ' H' => (∃ x2 x3, σ' = [some (.ref p), some (.ref q), x2, x3]) ∧ Same H1 H' ∧ ∀ j l, j < i → (sortTS (restsN ds (endL ds.length f) 0) ++ sortTS (restsN ds (endL ds.length g) 0))[j]? = some l → apartL ds f g l = []) ⟨⟨_, _, rfl⟩, Same.refl _, fun j l h => absurd h (Nat.not_lt_zero j)⟩ (fun i σ' H' _ h => Same.sqT h.2.1 ht) ?_ ?_⟩
    · rintro i v σ' H' hv ⟨⟨x2, x3, rfl⟩, k1, hall⟩
      obtain ⟨l, hl', hlot⟩ := Paired.at hxs hv
      have hsub : l.Sublist ds := by
        rcases List.mem_append.mp (List.mem_of_getElem? hl') with h | h
        · obtain ⟨m, _, _, rfl⟩ := (rests_in hd3).mp h
          exact lotOf_sublist ds m
        · obtain ⟨m, _, _, rfl⟩ := (rests_in hd3).mp h
          exact lotOf_sublist ds m
      walk_at "v"
      refine ⟨p, q, v, ds, l, f, g, bs, bs', rfl, (hp.same s1).same k1, (hq.same s1).same k1, hd, hlot.same k1, hsub, fun H2 D s2 hD => ?_⟩
      cases hap : apartL ds f g l with
      | nil =>
        rw [hap] at hD
        walk_at "v"
        refine ⟨_, rfl, false, .inl ⟨[], SqL.of hD, rfl⟩, ?_⟩
        refine iteF ?_
        walk_at "v"
        refine ⟨⟨_, _, rfl⟩, k1.trans s2, fun j l' hj hl2 => ?_⟩
        rcases Nat.lt_succ_iff_lt_or_eq.mp hj with h | h
        · exact hall j l' h hl2
        · subst h
          rw [hl'] at hl2
          rw [← Option.some.inj hl2]
          exact hap
      | cons z zs =>
        rw [hap] at hD
        walk_at "v"
        refine ⟨_, rfl, true, .inl ⟨_, SqL.of hD, rfl⟩, ?_⟩
        refine iteT ?_
        refine w_ret ?_
        refine w_tup ?_
        refine w_cons (w_C ?_)
        refine w_cons (w_var rfl ?_)
        refine w_cons ?_
        refine w_op (w_var rfl (w_C ?_))
        refine w_ixL (SqL.of hD) (show atI (V.str z :: zs.map V.str) ((0 : Nat) : Int) = some (V.str z) from atI_nat rfl) ?_
        refine w_nil ⟨by show 3 ≤ sizeLine; rw [sizeLine_eq]; decide, fun T' hT' => ?_⟩
        have s3 : Same H2 (upd H2 T' (.tup [.str "apart", v, .str z])) := same_upd (Same.refl _) hT'
        exact apart _ T' v l z (((s1.trans k1).trans s2).trans s3) (SqT.of upd_same) (((hlot.same k1).same s2).same s3) hsub (by rw [hap]; exact .head _)
    · rintro σ' H' ⟨⟨x2, x3, rfl⟩, k1, hall⟩
      walk_at "v"
      refine w_tup ?_
      walk_at "v"
      rename_i T' hT'
      have none_ : ∀ l, l ∈ sortTS (restsN ds (endL ds.length f) 0) ++ sortTS (restsN ds (endL ds.length g) 0) → apartL ds f g l = [] := fun l hl => by
        obtain ⟨j, hj⟩ := List.getElem?_of_mem hl
        exact hall j l (by rw [hlen]; exact (List.getElem?_eq_some_iff.mp hj).1) hj
      refine alike (agree_all hp.cl hq.cl (fun m hm e => ?_) fun m hm e => ?_) _ T' ((s1.trans k1).trans (same_upd (Same.refl _) hT')) (SqT.of upd_same)
      · exact (apart_none hd3 hm hp.cl hq.cl).mp (none_ _ (List.mem_append_left _ ((rests_in hd3).mpr ⟨m, hm, e, rfl⟩)))
      · exact (apart_none hd3 hm hp.cl hq.cl).mp (none_ _ (List.mem_append_right _ ((rests_in hd3).mpr ⟨m, hm, e, rfl⟩)))
theorem ok_shows_differD (F : FunAt K mg "shows_differ" sshows_differ) (T : Txt mg) (R : RCls K C) (Dneed_same_devices : Def P w K mg base 1 "need_same_devices" Pneed_same_devices (spSame K C)) (Dm_eq : DefM P w K mg base 1 C "__eq__" PRules_eq (spREqD K C)) (Dhas_form : Def P w K mg base 1 "has_form" Phas_form (spHasFormD K))
    (Dis_lot : Def P w K mg base 1 "is_lot" Pis_lot (spIsLotD K)) (D_apart : Def P w K mg base 4 "_apart" P_apart (spApart K C)) : Def P w K mg base 5 "shows_differ" Pshows_differ (spShowsDifferD K C) := by
  refine def_of F scshows_differ bsshows_differ (fun vs H Q E h => ?_) fun f cdv A outer s H vs Q E hr h => ?_
  · obtain ⟨q0, p, q, v, ds, f, g, bs, bs', d, rfl, _⟩ := h
    rfl
  · refine ⟨_, (pss_cons (ps_expr (pe_d Dneed_same_devices (hr.mono (by omega)) (pa_cons (pv 0) (pa_cons (pv 1) pa_nil))))
  (pss_cons (ps_if (pt_cmpR (op_eqM Dm_eq (hr.mono (by omega))) (pv 0) (pv 1) (nomark _)) (pss_one (ps_ret (pe_cmpR (op_eqQ hr.units) (pv 2) (pe_tup (pa_cons pe_str pa_nil)) (nomark _)))) pss_nil)
  (pss_cons (ps_if (pt_not (pt_val (pe_d Dhas_form (hr.mono (by omega)) (pa_cons (pv 2) (pa_cons pe_str (pa_cons pe_int pa_nil)))))) (pss_one (ps_ret pe_bl)) pss_nil)
  (pss_one (ps_ret (pe_and (pe_d Dis_lot (hr.mono (by omega)) (pa_cons (pe_fld (pv 0) rfl) (pa_cons (pe_ix ix_tup (pv 2) pe_int (fun _ _ => rfl)) pa_nil))) (pe_one (pe_cmpR (op_inQL (K := K) rfl (units70 hr)) (pe_ix ix_tup (pv 2) pe_int (fun _ _ => rfl)) (pe_d D_apart (hr.mono (by omega)) (pa_cons (pv 0) (pa_cons (pv 1) (pa_cons (pe_ix ix_tup (pv 2) pe_int (fun _ _ => rfl)) pa_nil)))) (by rfl))))))))), ?_⟩
    obtain ⟨q0, p, q, v, ds, f, g, bs, bs', d, rfl, hp, hq, hd, hv, go⟩ := h
    obtain ⟨hd1, hd2, hd3, hd4⟩ := id hd
    walk_at "v"
    refine ⟨p, q, ds, f, g, bs, bs', rfl, hp, hq, hd, ?_⟩
    walk_at "v"
    refine w_eqR hp hq hd fun H1 b s1 hb => ?_
    cases b with
    | true =>
      have all := hb.mp rfl
      have isP : DiffP ds f g d ↔ d = lotD ["alike"] := by
        constructor
        · rintro (⟨h, _⟩ | ⟨l, z, _, _, hz⟩)
          · exact h
          · rw [apart_all all] at hz
            cases hz
        · exact fun h => .inl ⟨h, all⟩
      refine ⟨_, rfl, iteT ?_⟩
      walk_at "v"
      refine w_tup (w_cons (w_C (w_nil ⟨by show 1 ≤ sizeLine; rw [sizeLine_eq]; decide, fun T' hT' => ?_⟩)))
      have s2 : Same H1 (upd H1 T' (.tup [.str "alike"])) := same_upd (Same.refl _) hT'
      have eT : SqT K (upd H1 T' (.tup [.str "alike"])) T' ((["alike"] : List Str).map V.str) := .of upd_same
      have v2 := (hv.same s1).same s2
      by_cases dict : ∃ kvs, d = .dict kvs
      · obtain ⟨es, rfl⟩ := dict
        cases v2.dq with
        | dic e1 _ _ =>
          refine .inr ⟨_, T', _, _, rfl, rfl, e1, eT, ?_⟩
          exact go _ false (s1.trans s2) ⟨(fun y => nomatch y), fun h => nomatch isP.mp h⟩
      · have ok : okN d = true := by
          have := hv.nd
          cases d with
          | dict s => exact absurd ⟨s, rfl⟩ dict
          | _ => exact this
        refine .inl ⟨q0, d, lotD ["alike"], v2.dq, strs_dq eT, shaped_of (okN_lay ok) (Nat.le_trans hv.dep (by decide)), tup_shaped _ (by decide +kernel), ?_⟩
        exact go _ _ (s1.trans s2) (eqv_lotD.trans isP.symm)
    | false =>
      have nall : ¬ ∀ m, m < 2 ^ ds.length → f m = g m := fun h => nomatch hb.mpr h
      refine ⟨_, rfl, iteF ?_⟩
      walk_at "v"
      refine ⟨q0, v, "apart", d, 3, rfl, (hv.same s1).dq, hv.nd, hv.dep, by decide +kernel, by decide, fun r hr' => ?_⟩
      refine ⟨_, rfl, ?_⟩
      cases r with
      | false =>
        refine iteT ?_
        walk_at "v"
        refine go _ false s1 ⟨(fun y => nomatch y), ?_⟩
        rintro (⟨_, h⟩ | ⟨l, z, rfl, _, _⟩)
        · exact absurd h nall
        · exact absurd (hr'.mpr ⟨[lotD l, .str z], rfl, rfl⟩) (fun z => nomatch z)
      | true =>
      refine iteF ?_
      obtain ⟨xs, rfl, hxl⟩ := hr'.mp rfl
      match xs, hxl with
      | [d1, d2], _ =>
      have v1 := hv.same s1
      obtain ⟨dq1, nd1, dep1⟩ := id v1
      cases dq1 with
      | @tup a ys _ e rr =>
      cases rr with
      | @cons y0 _ _ _ r0 rr =>
      cases rr with
      | @cons y1 _ _ _ r1 rr =>
      cases rr with
      | @cons y2 _ _ _ r2 rr =>
      cases rr with
      | nil =>
      have n1 : okN d1 = true := okNA_iff.mp (show okNA [.str "apart", d1, d2] = true from nd1) d1 (by simp)
      have n2 : okN d2 = true := okNA_iff.mp (show okNA [.str "apart", d1, d2] = true from nd1) d2 (by simp)
      have p1 : d1.depth ≤ 60 := by simp only [PyData.depth, PyData.depthAll] at dep1; omega
      have p2 : d2.depth ≤ 60 := by simp only [PyData.depth, PyData.depthAll] at dep1; omega
      obtain ⟨dx, x, yy, z, r, es, h1, h2, _⟩ := (hp.same s1).at_
      walk_at "v"
      refine w_fld ?_
      walk_at "v"
      refine ⟨p, C, dx, _, x, rfl, h1, R.cl, R.nD, rf_d _ _ _ _, ?_⟩
      refine w_cons ?_
      refine w_op ?_
      refine w_var rfl ?_
      refine w_C ?_
      refine w_ixT e (v := y1) rfl ?_
      refine w_nil ?_
      refine ⟨q0, x, y1, ds, d1, rfl, h2, hd, r1, Two.nd_of n1, p1, fun H2 b s2 hb2 => ?_⟩
      cases b with
      | false =>
        refine ⟨_, rfl, iteF ?_⟩
        refine go _ false (s1.trans s2) ⟨(fun y => nomatch y), ?_⟩
        rintro (⟨_, h⟩ | ⟨l, z, h, hl, _⟩)
        · exact absurd h nall
        · have := List.cons.inj (PyData.tuple.inj h)
          have := (List.cons.inj this.2).1
          exact absurd (hb2.mpr ⟨l, hl, this⟩) (fun z => nomatch z)
      | true =>
      obtain ⟨l, hl, rfl⟩ := hb2.mp rfl
      refine ⟨_, rfl, iteT ?_⟩
      have e2 := Same.sqT s2 e
      have hy1 := lotAt_dq (r1.same s2)
      refine w_op ?_
      refine w_op ?_
      refine w_var rfl ?_
      refine w_C ?_
      refine w_ixT e2 (v := y2) rfl ?_
      refine w_call ?_
      refine w_cons ?_
      refine w_var rfl ?_
      refine w_cons ?_
      refine w_var rfl ?_
      refine w_cons ?_
      refine w_op ?_
      refine w_var rfl ?_
      refine w_C ?_
      refine w_ixT e2 (v := y1) rfl ?_
      refine w_nil ?_
      refine ⟨p, q, y1, ds, l, f, g, bs, bs', rfl, (hp.same s1).same s2, (hq.same s1).same s2, hd, hy1, hl, fun H3 D s3 hD => ?_⟩
      have s123 := (s1.trans s2).trans s3
      have isP : ∀ b : Bool, (b = true ↔ ∃ z, z ∈ apartL ds f g l ∧ d2 = .str z) → Q (.bl b) H3 := fun b h => go H3 b s123 (h.trans ⟨fun ⟨z, hz, e⟩ => .inr ⟨l, z, by rw [e], hl, hz⟩, fun h => by
        rcases h with ⟨h, _⟩ | ⟨l', z, h, hl', hz⟩
        · have := PyData.tuple.inj h
          exact absurd (congrArg List.length this) (by simp)
        · have h1 := (List.cons.inj (PyData.tuple.inj h)).2
          obtain ⟨h2, h3⟩ := List.cons.inj h1
          obtain ⟨h4, _⟩ := List.cons.inj h3
          have := (List.map_inj_right fun _ _ h => PyData.str.inj h).mp (PyData.tuple.inj h2)
          subst this
          exact ⟨z, hz, h4⟩⟩)
      have okS : ∀ d ∈ apartL ds f g l, PyData.strOk d = true := fun d hm => pool_ok d (hd4 d (List.mem_filter.mp hm).1)
      have v2 := (r2.same s2).same s3
      refine ⟨D, _, rfl, SqL.of hD, okS, ?_⟩
      by_cases dict : ∃ kvs, d2 = .dict kvs
      · obtain ⟨es', rfl⟩ := dict
        cases v2 with
        | dic e1 _ _ =>
          exact .inr ⟨_, _, rfl, e1, isP false ⟨(fun y => nomatch y), fun ⟨z, _, h⟩ => nomatch h⟩⟩
      · refine .inl ⟨q0, d2, v2, shaped_of (okN_lay n2) (Nat.le_trans p2 (by decide)), isP _ ?_⟩
        rw [List.any_eq_true]
        exact ⟨fun ⟨z, hz, e⟩ => ⟨z, hz, eqv_strF.mp e⟩, fun ⟨z, hz, e⟩ => ⟨z, hz, eqv_strF.mpr e⟩⟩
end

abbrev s_law_is_lot : Stmt := top 57
abbrev N_law_is_lot : List Str := ["_law_devices_here", "_law_value", "_law_name"]
abbrev P_law_is_lot : List Str := ["_law_devices_here", "_law_value"]
theorem sc_law_is_lot : FnScope N_law_is_lot P_law_is_lot (defScope s_law_is_lot) := ⟨rfl, rfl, rfl, by decide +kernel, rfl, by decide +kernel, by decide +kernel⟩
theorem bs_law_is_lot : BindsSt "_law_is_lot" s_law_is_lot P_law_is_lot := fun _ _ _ _ _ _ us hl => match us, hl with | [_, _], _ => rfl
abbrev s_law_is_difference : Stmt := top 59
abbrev N_law_is_difference : List Str := ["_law_devices_here", "_law_one", "_law_other", "_law_value"]
abbrev P_law_is_difference : List Str := ["_law_devices_here", "_law_one", "_law_other", "_law_value"]
theorem sc_law_is_difference : FnScope N_law_is_difference P_law_is_difference (defScope s_law_is_difference) := ⟨rfl, rfl, rfl, by decide +kernel, rfl, by decide +kernel, by decide +kernel⟩
theorem bs_law_is_difference : BindsSt "_law_is_difference" s_law_is_difference P_law_is_difference := fun _ _ _ _ _ _ us hl => match us, hl with | [_, _, _, _], _ => rfl
theorem bools_at {f : PyData → Bool} : ∀ {ys : List V} {ds : List PyData}, ys.length = ds.length → (∀ (n : Nat) (y : V), ys[n]? = some y → ∃ d, ds[n]? = some d ∧ y = V.bl (f d)) → ys = (ds.map f).map V.bl
  | [], [], _, _ => rfl
  | y :: ys, d :: ds, hl, h => by
    obtain ⟨d', e, ey⟩ := h 0 y rfl
    obtain rfl : d = d' := Option.some.inj e
    rw [bools_at (f := f) (ys := ys) (ds := ds) (by simpa using hl) fun n y' hn => h (n + 1) y' hn, ey]
    rfl
def inDevB (ds : List Str) : PyData → Bool
  | .str s => decide (s ∈ ds)
  | _ => false
theorem devs_of {ds : List Str} : ∀ {es : List PyData}, (∀ d ∈ es, inDevB ds d = true) → ∃ ns : List Str, es = ns.map PyData.str ∧ ∀ x ∈ ns, x ∈ ds
  | [], _ => ⟨[], rfl, fun x h => nomatch h⟩
  | e :: es, h => by
    obtain ⟨ns, rfl, hd⟩ := devs_of (es := es) fun d hd => h d (List.mem_cons_of_mem _ hd)
    have := h e List.mem_cons_self
    cases e with
    | str z =>
      refine ⟨z :: ns, rfl, fun x hx => ?_⟩
      rcases List.mem_cons.mp hx with rfl | hx
      · exact of_decide_eq_true this
      · exact hd x hx
    | _ => cases this
theorem szA_long : ∀ l : List PyData, 2 * l.length ≤ szA l
  | [] => Nat.zero_le _
  | a :: l => by
    have := szA_long l
    simp only [szA, List.length_cons]
    omega
def spLotL (K : PySem.W.Frag) : Sp := fun vs H Q _ => ∃ (q : Addr) (x v : V) (ds : List Str) (d : PyData), vs = [x, v] ∧ LotAt K H x ds ∧ Devs ds ∧ Dq K q H v d ∧ ndB d = true ∧ d.depth ≤ 60 ∧ szD d ≤ 100000 ∧ ∀ H' (b : Bool), Same H H' → (b = true ↔ LotP ds d) → Q (.bl b) H'
section
variable {P : Program} {w : World} {K : PySem.W.Frag} {mg : Str → Option Value} {base : Heap}
theorem ok_l_is_lot (F : FunAt K mg "_law_is_lot" s_law_is_lot) (T : Txt mg) (D_law_in_sequence : Def P w K mg base 1 "_law_in_sequence" P_law_in_sequence (spSeq K)) : Def P w K mg base 2 "_law_is_lot" P_law_is_lot (spLotL K) := by
  refine def_of F sc_law_is_lot bs_law_is_lot (fun vs H Q E h => ?_) fun f cdv A outer s H vs Q E hr h => ?_
  · obtain ⟨q, x, v, ds, d, rfl, _⟩ := h
    rfl
  · refine ⟨_, (pss_cons (ps_if (PW.pt (pw_or (pt_not (pt_val (pe_callB call_isi (by rfl) T.n_isinstance (by decide +kernel) (pa_cons (pv 1) (pa_cons (pe_bltn (v := .ty "tuple") (by rfl) T.n_tuple (by decide +kernel) rfl) pa_nil))))) (pw_or1 (pt_not (pt_val (pe_callB (cr_all rfl) (by rfl) T.n_all (by decide +kernel) (pa_cons (pe_lc (own := [("_law_name", 2)]) (g := (gName 2)) (tt := tYes) rfl sc_law_is_lot.nd (pi_tup (pv 1)) (blkOk_by (N := N_law_is_lot) (sc := defScope s_law_is_lot) (by decide +kernel)) (fun _ _ _ _ _ => (pg_name (i := 2) sc_law_is_lot.nd rfl (by first | exact Or.inl rfl | exact Or.inr rfl))) (fun _ _ _ _ _ => pts_nil) (fun _ _ _ _ _ => (pe_and (pe_callB (call_isiK (K := K) rfl) (by rfl) T.n_isinstance (by decide +kernel) (pa_cons (pv 2) (pa_cons (pe_bltn (v := .ty "str") (by rfl) T.n_str (by decide +kernel) rfl) pa_nil))) (pe_one (pe_cmpR (op_inK (K := K) rfl) (pv 2) (pv 0) (by rfl)))))) pa_nil))))))) (pss_one (ps_ret pe_bl)) pss_nil)
  (pss_one (ps_ret (pe_cmpR (op_eqQ hr.units) (pv 1) (pe_d D_law_in_sequence (hr.mono (by omega)) (pa_cons (pv 0) (pa_cons (pv 1) pa_nil))) (nomark _))))), ?_⟩
    obtain ⟨q, x, v, ds, d, rfl, hx, hd, hv, nd, dep, hz, go⟩ := h
    obtain ⟨hd1, hd2, hd3, hd4⟩ := id hd
    obtain ⟨ua, rfl, hua⟩ := id hx
    by_cases tupl : ∃ es, d = .tuple es
    case neg =>
      walk_at "v"
      refine w_isT false hv (by
        cases d with
        | tuple s => exact absurd ⟨s, rfl⟩ tupl
        | _ => kernel_rfl) ?_
      walk_at "v"
      refine iteT ?_
      walk_at "v"
      exact go H false (Same.refl _) ⟨(fun y => nomatch y), fun ⟨l, _, e⟩ => absurd ⟨_, e⟩ tupl⟩
    obtain ⟨es, rfl⟩ := tupl
    have hv0 := hv
    cases hv with
    | @tup a xs _ e r =>
    have lx := r.length
    have lz := szA_long es
    have hz' : szA es + 3 ≤ 100000 := hz
    walk_at "v"
    refine w_isT true hv0 (by kernel_rfl) ?_
    walk_at "v"
    refine iteF ?_
    walk_at "v"
    refine w_lcTup (K := K) (a := a) (xs := xs) (fun n y _ => ∃ d, es[n]? = some d ∧ y = .bl (inDevB ds d)) (fun _ _ _ _ h _ => h) (fun h k => h _ _ k) e (by omega) (fun R k => ⟨_, rfl, k⟩) (fun _ _ _ _ _ _ h _ _ => h) ?_ ?_
    · intro n v H' R hv s k
      obtain ⟨d, hdn, dq⟩ := r.get hv
      refine ⟨rfl, ?_⟩
      have dq' := dq.same s
      by_cases st : ∃ z, d = .str z
      · obtain ⟨z, rfl⟩ := st
        have dq0 := dq'
        cases dq'
        walk_at "v"
        refine w_isT true dq0 (by kernel_rfl) ?_
        refine ⟨_, rfl, iteT ?_⟩
        walk_at "v"
        refine ⟨ua, ds.map V.str, rfl, .inr (Same.sqT s hua), rfl, flat_strs ds, ?_⟩
        rw [inV_str]
        exact k _ H' (Same.refl _) ⟨_, hdn, rfl⟩
      · walk_at "v"
        refine w_isT false dq' (by
          cases d with
          | str z => exact absurd ⟨z, rfl⟩ st
          | _ => kernel_rfl) ?_
        refine ⟨_, rfl, iteF (k _ H' (Same.refl _) ⟨d, hdn, ?_⟩)⟩
        cases d with
        | str z => exact absurd ⟨z, rfl⟩ st
        | _ => rfl
    · intro D H' ys hD s eD hl hF
      have er : ys = (es.map (inDevB ds)).map V.bl := bools_at (by omega) fun n y hn => hF n y hn
      walk_at "v"
      refine ⟨D, es.map (inDevB ds), rfl, SqL.of (by rw [← er]; exact eD), ?_⟩
      by_cases hall : ∀ d ∈ es, inDevB ds d = true
      · rw [show (es.map (inDevB ds)).all id = true from List.all_eq_true.mpr fun b hb => by
          obtain ⟨d, hd, rfl⟩ := List.mem_map.mp hb
          exact hall d hd]
        refine ⟨_, rfl, iteF ?_⟩
        refine w_next ?_
        dsimp only
        refine w_ret ?_
        obtain ⟨ns, rfl, hns⟩ := devs_of hall
        have hlot : LotAt K H (.ref a) ns := lotAt_dq (q := q) hv0
        obtain ⟨_, ea, hat⟩ := hlot
        obtain rfl := V.ref.inj ea
        refine w_op ?_
        refine w_var rfl ?_
        refine w_call ?_
        refine w_cons ?_
        refine w_var rfl ?_
        refine w_cons ?_
        refine w_var rfl ?_
        refine w_nil ?_
        refine ⟨.ref ua, a, ds, ns, rfl, hx.same s, .inr (Same.sqT s hat), by omega, fun H2 y s2 hy => ?_⟩
        obtain ⟨yb, rfl, hyb⟩ := hy
        have hsh : Short (ds.filter fun d => decide (d ∈ ns)) := .of List.filter_sublist hd
        refine .inl ⟨q, lotD ns, lotD (ds.filter fun d => decide (d ∈ ns)), hv0.same (s.trans s2), lot_dq q ⟨yb, rfl, SqT.of hyb⟩, tup_shaped _ (fun n hn => pool_ok n (hd4 n (hns n hn))), tup_shaped _ (fun n hn => pool_ok n (hsh.2 n hn)), ?_⟩
        refine go _ _ (s.trans s2) (eqv_lotD.trans ⟨fun z => ⟨_, List.filter_sublist, z⟩, fun ⟨l, hl, z⟩ => ?_⟩)
        rw [lotD_inj (l := ns) z, sub_filter hl hd3]
      · rw [show (es.map (inDevB ds)).all id = false from Bool.eq_false_iff.mpr fun z => hall fun d hd => List.all_eq_true.mp z _ (List.mem_map.mpr ⟨d, hd, rfl⟩)]
        refine ⟨_, rfl, iteT ?_⟩
        walk_at "v"
        refine go H' false s ⟨(fun y => nomatch y), fun ⟨l, hl, ed⟩ => absurd (fun d hd => ?_) hall⟩
        rw [PyData.tuple.inj ed] at hd
        obtain ⟨x, hx, rfl⟩ := List.mem_map.mp hd
        exact decide_eq_true (hl.subset hx)
end

def spIsDiff (K : PySem.W.Frag) : Sp := fun vs H Q _ => ∃ (q D1 D2 : Addr) (x v : V) (ds : List Str) (f g : Nat → Nat) (d : PyData), vs = [x, .ref D1, .ref D2, v] ∧ LotAt K H x ds ∧ Devs ds ∧ TableF K H D1 ds f ∧ TableF K H D2 ds g ∧ Cl f ds.length ∧ Cl g ds.length ∧ Dq K q H v d ∧ ndB d = true ∧ szD d ≤ 100000 ∧ d.depth ≤ 20 ∧
  ∀ H' (b : Bool), Same H H' → (b = true ↔ DiffP ds f g d) → Q (.bl b) H'
theorem tabF_get {K : PySem.W.Frag} {H : Hp} {D : Addr} {ds l : List Str} {f : Nat → Nat} (h : TableF K H D ds f) (hn : ds.Nodup) (hl : l.Sublist ds) : ∃ kvs v, H D = some (.dT kvs) ∧ valV kvs (keyOf l) = some v ∧ LotAt K H v (lotOf ds (f (maskOf ds l))) := by
  obtain ⟨kvs, h1, h2⟩ := h
  obtain ⟨v, h3, h4⟩ := valV_entF h2 (lots_in hn hl)
  exact ⟨kvs, v, h1, h3, h4⟩
theorem diff_len {ds : List Str} {f g : Nat → Nat} {es : List PyData} (h : DiffP ds f g (.tuple es)) : es.length = 1 ∨ es.length = 3 := by
  rcases h with ⟨h, _⟩ | ⟨l, z, h, _, _⟩
  · rw [PyData.tuple.inj h]; exact .inl rfl
  · rw [PyData.tuple.inj h]; exact .inr rfl
section
variable {P : Program} {w : World} {K : PySem.W.Frag} {mg : Str → Option Value} {base : Heap}
theorem ok_is_diff (F : FunAt K mg "_law_is_difference" s_law_is_difference) (T : Txt mg) (D_law_is_lot : Def P w K mg base 2 "_law_is_lot" P_law_is_lot (spLotL K)) : Def P w K mg base 3 "_law_is_difference" P_law_is_difference (spIsDiff K) := by
  refine def_of F sc_law_is_difference bs_law_is_difference (fun vs H Q E h => ?_) fun fa cdv A outer s H vs Q E hr h => ?_
  · obtain ⟨q, D1, D2, x, v, ds, f, g, d, rfl, _⟩ := h
    rfl
  · refine ⟨_, (pss_cons (ps_if (PW.pt (pw_or (pt_not (pt_val (pe_callB call_isi (by rfl) T.n_isinstance (by decide +kernel) (pa_cons (pv 3) (pa_cons (pe_bltn (v := .ty "tuple") (by rfl) T.n_tuple (by decide +kernel) rfl) pa_nil))))) (pw_or (pt_cmpR op_notIn_seq (pe_callB call_len (by rfl) T.n_len PySem.boot_len (pa_cons (pv 3) pa_nil)) (pe_tup (pa_cons pe_int (pa_cons pe_int pa_nil))) (by rfl)) (pw_or1 (pt_not (pt_val (pe_callB call_isi (by rfl) T.n_isinstance (by decide +kernel) (pa_cons (pe_ix ix_tup (pv 3) pe_int (fun _ _ => rfl)) (pa_cons (pe_bltn (v := .ty "str") (by rfl) T.n_str (by decide +kernel) rfl) pa_nil))))))))) (pss_one (ps_ret pe_bl)) pss_nil)
  (pss_cons (ps_if (pt_cmpR op_eq (pe_callB call_len (by rfl) T.n_len PySem.boot_len (pa_cons (pv 3) pa_nil)) pe_int (nomark _)) (pss_one (ps_ret (pe_and (pe_cmpR op_eq (pe_ix ix_tup (pv 3) pe_int (fun _ _ => rfl)) pe_str (nomark _)) (pe_one (pe_cmpR (op_eqDT (units70 hr)) (pv 1) (pv 2) (nomark _)))))) pss_nil)
  (pss_cons (ps_if (PW.pt (pw_or (pt_cmpR op_ne (pe_ix ix_tup (pv 3) pe_int (fun _ _ => rfl)) pe_str (nomark _)) (pw_or (pt_not (pt_val (pe_d D_law_is_lot (hr.mono (by omega)) (pa_cons (pv 0) (pa_cons (pe_ix ix_tup (pv 3) pe_int (fun _ _ => rfl)) pa_nil))))) (pw_or1 (pt_not (pt_val (pe_callB call_isi (by rfl) T.n_isinstance (by decide +kernel) (pa_cons (pe_ix ix_tup (pv 3) pe_int (fun _ _ => rfl)) (pa_cons (pe_bltn (v := .ty "str") (by rfl) T.n_str (by decide +kernel) rfl) pa_nil))))))))) (pss_one (ps_ret pe_bl)) pss_nil)
  (pss_one (ps_ret (pe_and (pe_cmpR op_in_seq (pe_ix ix_tup (pv 3) pe_int (fun _ _ => rfl)) (pv 0) (by rfl)) (pe_one (pe_cmpR op_ne (pe_cmpR op_in_seq (pe_ix ix_tup (pv 3) pe_int (fun _ _ => rfl)) (pe_dgetSK (K := K) rfl (hu_of hr) (pv 1) (pe_ix ix_tup (pv 3) pe_int (fun _ _ => rfl)) (fun _ _ => rfl)) (by rfl)) (pe_cmpR op_in_seq (pe_ix ix_tup (pv 3) pe_int (fun _ _ => rfl)) (pe_dgetSK (K := K) rfl (hu_of hr) (pv 2) (pe_ix ix_tup (pv 3) pe_int (fun _ _ => rfl)) (fun _ _ => rfl)) (by rfl)) (nomark _))))))))), ?_⟩
    obtain ⟨q, D1, D2, x, v, ds, f, g, d, rfl, hx, hd, hT1, hT2, hf, hg, hv, nd, hz, dep, go⟩ := h
    obtain ⟨hd1, hd2, hd3, hd4⟩ := id hd
    obtain ⟨ua, rfl, hua⟩ := id hx
    have no : ∀ {H'}, Same H H' → ¬ DiffP ds f g d → Q (.bl false) H' := fun {H'} s n => go H' false s ⟨(fun y => nomatch y), fun y => absurd y n⟩
    by_cases tupl : ∃ es, d = .tuple es
    case neg =>
      walk_at "v"
      refine w_isT false hv (by
        cases d with
        | tuple s => exact absurd ⟨s, rfl⟩ tupl
        | _ => kernel_rfl) ?_
      walk_at "v"
      refine iteT ?_
      walk_at "v"
      refine no (Same.refl _) ?_
      rintro (⟨h, _⟩ | ⟨l, z, h, _, _⟩)
      · exact tupl ⟨_, h⟩
      · exact tupl ⟨_, h⟩
    obtain ⟨es, rfl⟩ := tupl
    have hv0 := hv
    cases hv with
    | @tup a xs _ e r =>
    have lx := r.length
    walk_at "v"
    refine w_isT true hv0 (by kernel_rfl) ?_
    walk_at "v"
    refine iteF ?_
    walk_at "v"
    refine ⟨_, _, rfl, .inr ⟨_, e, rfl⟩, ?_⟩
    refine w_tup ?_
    refine w_cons (w_C (w_cons (w_C (w_nil ⟨by show 2 ≤ sizeLine; rw [sizeLine_eq]; decide, fun p hp => ?_⟩))))
    have s1 : Same H (upd H p (.tup [.int 1, .int 3])) := same_upd (Same.refl _) hp
    refine ⟨p, [.int 1, .int 3], rfl, .inr (.of upd_same), rfl, rfl, _, rfl, ?_⟩
    generalize upd H p (.tup [.int 1, .int 3]) = H1 at s1 ⊢
    have hv1 := hv0.same s1
    have e1 := Same.sqT s1 e
    have r1 := r.same s1
    have hx1 := hx.same s1
    have hT11 := hT1.same s1
    have hT21 := hT2.same s1
    by_cases l13 : xs.length = 1 ∨ xs.length = 3
    case neg =>
      rw [show inV (V.int (xs.length : Nat)) [.int 1, .int 3] = false from by
        unfold inV
        simp [eqV]
        omega]
      refine iteT ?_
      refine iteT ?_
      refine w_ret (w_C ?_)
      exact no s1 fun h => l13 (by have := diff_len h; omega)
    rw [show inV (V.int (xs.length : Nat)) [.int 1, .int 3] = true from by
      rcases l13 with h | h <;> rw [h] <;> rfl]
    refine iteF ?_
    cases r1 with
    | nil => rcases l13 with h | h <;> cases h
    | @cons y0 ys d0 es0 r0 rr =>
    have ix0 : atI (y0 :: ys) 0 = some y0 := (show atI (y0 :: ys) ((0 : Nat) : Int) = some y0 from atI_nat rfl)
    refine w_not (w_B (w_cb ?_))
    refine w_cons (w_op (w_var rfl (w_C (w_ixT e1 ix0 ?_))))
    refine w_cons (w_C (w_nil ?_))
    by_cases st : ∃ z, d0 = .str z
    case neg =>
      refine w_isT false r0 (by
        cases d0 with
        | str z => exact absurd ⟨z, rfl⟩ st
        | _ => kernel_rfl) ?_
      refine ⟨_, rfl, iteT ?_⟩
      refine w_ret (w_C ?_)
      refine no s1 ?_
      rintro (⟨h, _⟩ | ⟨l, z, h, _, _⟩)
      · exact st ⟨_, (List.cons.inj (PyData.tuple.inj h)).1⟩
      · exact st ⟨_, (List.cons.inj (PyData.tuple.inj h)).1⟩
    obtain ⟨z0, rfl⟩ := st
    refine w_isT true r0 (by kernel_rfl) ?_
    obtain rfl : y0 = .str z0 := by cases r0; rfl
    refine ⟨_, rfl, iteF ?_⟩
    refine w_next ?_
    dsimp only
    refine w_seq (w_ifS (w_test (w_op (w_cb (w_cons (w_var rfl (w_nil ?_)))))))
    refine ⟨_, _, rfl, .inr ⟨_, e1, rfl⟩, ?_⟩
    refine w_C ?_
    refine ⟨rfl, ?_⟩
    refine ⟨_, rfl, ?_⟩
    by_cases l1 : (V.str z0 :: ys).length = 1
    case pos =>
      rw [decide_eq_true (show V.int ((V.str z0 :: ys).length : Nat) = V.int 1 by rw [l1]; rfl)]
      obtain rfl : ys = [] := List.length_eq_zero_iff.mp (by simpa using l1)
      cases rr
      refine iteT ?_
      refine w_ret (w_andV ?_)
      refine w_op (w_op (w_var rfl (w_C (w_ixT e1 ix0 (w_C ?_)))))
      refine ⟨rfl, ?_⟩
      by_cases hz0 : z0 = "alike"
      · subst hz0
        rw [decide_eq_true rfl]
        refine ⟨_, rfl, iteT ?_⟩
        refine w_op (w_var rfl (w_var rfl ?_))
        refine w_eqTabB hd hT11 hT21 hf hg fun b hb => ?_
        refine go H1 b s1 (hb.trans ⟨fun h => .inl ⟨rfl, h⟩, fun h => ?_⟩)
        rcases h with ⟨_, h⟩ | ⟨l, z, h, _, _⟩
        · exact h
        · exact absurd (congrArg List.length (PyData.tuple.inj h)) (by simp)
      · rw [decide_eq_false (fun h => hz0 (V.str.inj h))]
        refine ⟨_, rfl, iteF ?_⟩
        refine no s1 ?_
        rintro (⟨h, _⟩ | ⟨l, z, h, _, _⟩)
        · exact hz0 (PyData.str.inj (List.cons.inj (PyData.tuple.inj h)).1)
        · exact absurd (congrArg List.length (PyData.tuple.inj h)) (by simp)
    rw [decide_eq_false (show ¬ V.int ((V.str z0 :: ys).length : Nat) = V.int 1 from fun h => l1 (by have := V.int.inj h; omega))]
    refine iteF ?_
    refine w_next ?_
    dsimp only
    have l3 : (V.str z0 :: ys).length = 3 := l13.resolve_left l1
    cases rr with
    | nil => cases l3
    | @cons y1 ys d1 es1 q1 rr =>
    cases rr with
    | nil => cases l3
    | @cons y2 ys d2 es2 q2 rr =>
    cases rr with
    | cons _ _ => exact absurd l3 (by simp)
    | nil =>
    have ix1 : atI [V.str z0, y1, y2] 1 = some y1 := (show atI [V.str z0, y1, y2] ((1 : Nat) : Int) = some y1 from atI_nat rfl)
    have ix2 : atI [V.str z0, y1, y2] 2 = some y2 := (show atI [V.str z0, y1, y2] ((2 : Nat) : Int) = some y2 from atI_nat rfl)
    have no3 : ∀ {H'}, Same H H' → (¬ ∃ l z, z0 = "apart" ∧ d1 = lotD l ∧ d2 = .str z ∧ l.Sublist ds ∧ z ∈ apartL ds f g l) → Q (.bl false) H' := fun {H'} s n => no s (by
      rintro (⟨h, _⟩ | ⟨l, z, h, hl, hz⟩)
      · exact absurd (congrArg List.length (PyData.tuple.inj h)) (by simp)
      · have h1 := List.cons.inj (PyData.tuple.inj h)
        have h2 := List.cons.inj h1.2
        have h3 := List.cons.inj h2.2
        exact n ⟨l, z, PyData.str.inj h1.1, h2.1, h3.1, hl, hz⟩)
    have okA : okNA [.str z0, d1, d2] = true := nd
    have n1 : okN d1 = true := okNA_iff.mp okA d1 (by simp)
    have n2 : okN d2 = true := okNA_iff.mp okA d2 (by simp)
    have p1 : d1.depth ≤ 60 := by simp only [PyData.depth, PyData.depthAll] at dep; omega
    have z1 : szD d1 ≤ 100000 := by
      have : szA [.str z0, d1, d2] + 3 ≤ 100000 := hz
      simp only [szA] at this
      omega
    refine w_seq (w_ifS (w_or (w_test (w_op (w_op (w_var rfl (w_C (w_ixT e1 ix0 (w_C ?_)))))))))
    by_cases hz0 : z0 = "apart"
    case neg =>
      refine ⟨rfl, ?_⟩
      rw [decide_eq_false (fun h => hz0 (V.str.inj h))]
      refine ⟨_, rfl, iteT ?_⟩
      refine w_ret (w_C ?_)
      exact no3 s1 fun ⟨_, _, h, _⟩ => hz0 h
    subst hz0
    refine w_neSame rfl ?_
    refine ⟨_, rfl, iteF ?_⟩
    refine w_or (w_not (w_B (w_call (w_cons (w_var rfl (w_cons (w_op (w_var rfl (w_C (w_ixT e1 ix1 (w_nil ?_)))))))))))
    refine ⟨q, .ref ua, y1, ds, d1, rfl, hx1, hd, q1, Two.nd_of n1, p1, z1, fun H2 b s2 hb => ?_⟩
    have s12 := s1.trans s2
    cases b with
    | false =>
      refine ⟨_, rfl, iteT ?_⟩
      refine w_ret (w_C ?_)
      exact no3 s12 fun ⟨l, _, _, h, _, hl, _⟩ => nomatch hb.mpr ⟨l, hl, h⟩
    | true =>
    obtain ⟨l, hl, rfl⟩ := hb.mp rfl
    have e2 := Same.sqT s2 e1
    refine ⟨_, rfl, iteF ?_⟩
    refine w_not (w_B (w_cb (w_cons (w_op (w_var rfl (w_C (w_ixT e2 ix2 (w_cons (w_C (w_nil ?_))))))))))
    by_cases st2 : ∃ z, d2 = .str z
    case neg =>
      refine w_isT false (q2.same s2) (by
        cases d2 with
        | str z => exact absurd ⟨z, rfl⟩ st2
        | _ => kernel_rfl) ?_
      refine ⟨_, rfl, iteT ?_⟩
      refine w_ret (w_C ?_)
      exact no3 s12 fun ⟨_, z, _, _, h, _⟩ => st2 ⟨z, h⟩
    obtain ⟨z2, rfl⟩ := st2
    refine w_isT true (q2.same s2) (by kernel_rfl) ?_
    obtain rfl : y2 = .str z2 := by cases q2; rfl
    refine ⟨_, rfl, iteF ?_⟩
    refine w_next ?_
    dsimp only
    refine w_ret (w_andV (w_op (w_op (w_var rfl (w_C (w_ixT e2 ix2 (w_var rfl ?_)))))))
    refine ⟨ua, ds.map V.str, rfl, .inr (Same.sqT s12 hua), rfl, flat_strs ds, ?_⟩
    by_cases hzd : z2 ∈ ds
    case neg =>
      rw [inV_str, decide_eq_false hzd]
      refine ⟨_, rfl, iteF ?_⟩
      exact no3 s12 fun ⟨_, z, _, _, h, _, hz⟩ => hzd (by rw [PyData.str.inj h]; exact (List.mem_filter.mp hz).1)
    rw [inV_str, decide_eq_true hzd]
    refine ⟨_, rfl, iteT ?_⟩
    obtain ⟨ka, rfl, hka⟩ := lotAt_dq (q1.same s2)
    have hkk : SqT K H2 ka ((keyOf l).map kV) := by rw [keyOf_v]; exact hka
    obtain ⟨kvs1, v1, t1, g1, ⟨va1, ev1, hva1⟩⟩ := tabF_get (hT11.same s2) hd3 hl
    obtain ⟨kvs2, v2, t2, g2, ⟨va2, ev2, hva2⟩⟩ := tabF_get (hT21.same s2) hd3 hl
    subst ev1 ev2
    refine w_op ?_
    refine w_op (w_op (w_var rfl (w_C (w_ixT e2 ix2 ?_))))
    refine w_dgetS ?_
    refine w_var rfl (w_op (w_var rfl (w_C (w_ixT e2 ix1 ?_))))
    refine ⟨D1, ka, kvs1, keyOf l, _, rfl, rfl, t1, hkk, g1, ?_⟩
    refine ⟨va1, _, rfl, .inr hva1, rfl, flat_strs _, ?_⟩
    refine w_op (w_op (w_var rfl (w_C (w_ixT e2 ix2 ?_))))
    refine w_dgetS ?_
    refine w_var rfl (w_op (w_var rfl (w_C (w_ixT e2 ix1 ?_))))
    refine ⟨D2, ka, kvs2, keyOf l, _, rfl, rfl, t2, hkk, g2, ?_⟩
    refine ⟨va2, _, rfl, .inr hva2, rfl, flat_strs _, ?_⟩
    refine ⟨rfl, ?_⟩
    refine go H2 _ s12 ?_
    show (!decide (V.bl (inV _ _) = V.bl (inV _ _))) = true ↔ _
    rw [inV_str, inV_str]
    have same : (!decide (V.bl (decide (z2 ∈ lotOf ds (f (maskOf ds l)))) = V.bl (decide (z2 ∈ lotOf ds (g (maskOf ds l)))))) = true ↔ z2 ∈ apartL ds f g l := by
      unfold apartL
      rw [List.mem_filter]
      by_cases a1 : z2 ∈ lotOf ds (f (maskOf ds l)) <;> by_cases a2 : z2 ∈ lotOf ds (g (maskOf ds l)) <;> simp [a1, a2, hzd]
    rw [same]
    constructor
    · exact fun h => .inr ⟨l, z2, rfl, hl, h⟩
    · rintro (⟨h, _⟩ | ⟨l', z, h, _, hz⟩)
      · exact absurd (congrArg List.length (PyData.tuple.inj h)) (by simp)
      · have h1 := List.cons.inj (PyData.tuple.inj h)
        have h2 := List.cons.inj h1.2
        have h3 := List.cons.inj h2.2
        have := (List.map_inj_right fun _ _ h => PyData.str.inj h).mp (PyData.tuple.inj h2.1)
        rw [this, PyData.str.inj h3.1]
        exact hz
end

namespace Two
/-- what stands while a list is filled: data without lists, lists of the def's own -/
structure GSt (K : PySem.W.Frag) (q L : Addr) (F : List (V × PyData)) (R : List (Addr × List V)) (H0 H : Hp) (m j : Nat) : Prop where
  hs : HS q H0 H
  pot : PotAt H q m
  fnd : Fnd K q L H j
  frs : ∀ p ∈ F, Fr K H p.1 p.2
  rws : ∀ p ∈ R, H p.1 = some (.lst p.2) ∧ p.1 ≠ q ∧ p.1 ≠ L
  lq : L ≠ q
  l0 : H0 L = none
section
variable {K : PySem.W.Frag} {q L : Addr} {F : List (V × PyData)} {R : List (Addr × List V)} {H0 H H' : Hp} {m m' j j' : Nat}
theorem GSt.pt {D : Addr} (h : GSt K q L F R H0 H m j) (hD : H D = none) (c : CG (g2 q D) H H') (p : PotAt H' q m') : GSt K q L F R H0 H' m' j := by
  have nD : ∀ {b o}, H b = some o → b ≠ D := fun e => ne_of_none e hD
  have lg : LG (g2 q D) H := lg_or (pot_lg h.pot) (lg_no hD)
  exact ⟨fun b o nb e => by
    have e2 := h.hs _ _ nb e
    exact c _ _ (fun z => z.elim nb (nD e2)) e2, p, h.fnd.cg h.lq hD h.pot c, fun p hp => (h.frs p hp).fr (c.ls lg), fun p hp => by
    obtain ⟨e, n1, n2⟩ := h.rws p hp
    exact ⟨c _ _ (fun z => z.elim n1 (nD e)) e, n1, n2⟩, h.lq, h.l0⟩
theorem GSt.ext (h : GSt K q L F R H0 H m j) (c : HS L H H') (f : Fnd K q L H' j') : GSt K q L F R H0 H' m j' := by
  obtain ⟨vs, e, _⟩ := h.fnd
  obtain ⟨own, b, c0, eq, z⟩ := h.pot
  exact ⟨fun b o nb e => c _ _ (fun z => by rw [z, h.l0] at e; cases e) (h.hs _ _ nb e), ⟨own, b, c0, c _ _ (Ne.symm h.lq) eq, z⟩, f, fun p hp => (h.frs p hp).fr (c.ls e), fun p hp => by
    obtain ⟨e, n1, n2⟩ := h.rws p hp
    exact ⟨c _ _ n2 e, n1, n2⟩, h.lq, h.l0⟩
theorem GSt.occ (h : GSt K q L F R H0 H m j) : ∀ x, g2 q L x → ∃ o, H x = some o := fun x hx => by
  obtain ⟨vs, e, _⟩ := h.fnd
  obtain ⟨own, b, c0, eq, z⟩ := h.pot
  rcases hx with rfl | rfl
  · exact ⟨_, eq⟩
  · exact ⟨_, e⟩
end
def FitA (n k : Nat) (es : List PyData) : Prop := okNA es = true ∧ szA es ≤ n ∧ PyData.depthAll es ≤ k
theorem Fit.le {n m k l : Nat} {d : PyData} (h : Fit n k d) (h1 : n ≤ m) (h2 : k ≤ l) : Fit m l d := ⟨h.1, Nat.le_trans h.2.1 h1, Nat.le_trans h.2.2 h2⟩
theorem fitA_nil {k : Nat} : FitA 0 k [] := ⟨rfl, Nat.le_refl 0, by simp [PyData.depthAll]⟩
theorem fitA_cons {n m k : Nat} {d : PyData} {es : List PyData} (h : Fit n k d) (t : FitA m k es) : FitA (n + 2 + m) k (d :: es) := by
  refine ⟨?_, ?_, ?_⟩
  · simp only [okNA, Bool.and_eq_true]
    exact ⟨h.1, t.1⟩
  · have := h.2.1
    have := t.2.1
    simp only [szA]
    omega
  · refine depthAll_le.mpr fun x hx => ?_
    rcases List.mem_cons.mp hx with rfl | hx
    · exact h.2.2
    · exact depthAll_le.mp t.2.2 x hx
theorem fitA_app {n m k : Nat} {es fs : List PyData} (h : FitA n k es) (t : FitA m k fs) : FitA (n + m) k (es ++ fs) := by
  refine ⟨okNA_iff.mpr fun x hx => (List.mem_append.mp hx).elim (okNA_iff.mp h.1 x) (okNA_iff.mp t.1 x), ?_, depthAll_le.mpr fun x hx => (List.mem_append.mp hx).elim (depthAll_le.mp h.2.2 x) (depthAll_le.mp t.2.2 x)⟩
  rw [szA_append]
  exact Nat.add_le_add h.2.1 t.2.1
theorem fitA_rev {n k : Nat} {es : List PyData} (h : FitA n k es) : FitA n k es.reverse :=
  ⟨okNA_iff.mpr fun x hx => okNA_iff.mp h.1 x (List.mem_reverse.mp hx), by rw [szA_rev]; exact h.2.1, depthAll_le.mpr fun x hx => depthAll_le.mp h.2.2 x (List.mem_reverse.mp hx)⟩
theorem fitA_cut {n k : Nat} {es : List PyData} {lo hi : Option Int} (h : FitA n k es) : FitA n k (cutD es lo hi) :=
  ⟨okNA_iff.mpr fun x hx => okNA_iff.mp h.1 x (cutD_mem hx), Nat.le_trans (cutD_szA _ _ _) h.2.1, depthAll_le.mpr fun x hx => depthAll_le.mp h.2.2 x (cutD_mem hx)⟩
theorem fitA_rep {n k : Nat} {es : List PyData} (h : FitA n k es) : ∀ m : Nat, FitA (m * n) k (List.replicate m es).flatten
  | 0 => ⟨rfl, by simp [szA], by simp [PyData.depthAll]⟩
  | m + 1 => by
    rw [List.replicate_succ, List.flatten_cons]
    have := fitA_app h (fitA_rep h m)
    exact ⟨this.1, by have := this.2.1; rw [Nat.succ_mul]; omega, this.2.2⟩
theorem fit_tup {n k : Nat} {es : List PyData} (h : FitA n k es) : Fit (n + 3) (k + 1) (.tuple es) := by
  have e : (PyData.tuple es).depth = PyData.depthAll es + 1 := by simp only [PyData.depth]
  exact ⟨h.1, Nat.add_le_add_right h.2.1 3, by have := h.2.2; omega⟩
theorem fit_lst {n k : Nat} {es : List PyData} (h : FitA n k es) : Fit (n + 3) (k + 1) (.list es) := by
  have e : (PyData.list es).depth = PyData.depthAll es + 1 := by simp only [PyData.depth]
  exact ⟨h.1, Nat.add_le_add_right h.2.1 3, by have := h.2.2; omega⟩
theorem fit_s {k : Nat} {x : Str} (h : (okN (.str x) && decide (szD (.str x) ≤ 100)) = true) : Fit 100 k (.str x) := by
  simp only [Bool.and_eq_true, decide_eq_true_eq] at h
  exact ⟨h.1, h.2, Nat.zero_le _⟩
theorem fit_n {k : Nat} : Fit 5 k .none := ⟨rfl, Nat.le_refl 5, Nat.zero_le _⟩
theorem fitA_lot {k : Nat} {l : List Str} (h : Short l) : FitA 620 k (l.map PyData.str) := by
  have h1 := sz_map (f := PyData.str) (k := 100) fun d hd => (pool_N d (h.2 d hd)).2
  have h2 : l.length * (100 + 2) ≤ 6 * 102 := Nat.mul_le_mul_right _ h.1
  refine ⟨okNA_iff.mpr fun d hd => ?_, by omega, depthAll_le.mpr fun d hd => ?_⟩
  · obtain ⟨x, hx, rfl⟩ := List.mem_map.mp hd
    exact (pool_N x (h.2 x hx)).1
  · obtain ⟨x, hx, rfl⟩ := List.mem_map.mp hd
    exact Nat.zero_le _
section
variable {K : PySem.W.Frag} {q : Addr → Prop} {σ : L2.St} {H : Hp}
theorem dv_rep {te : TE} {k : Int} {ds : List PyData} (h : DV K q σ H te (.tuple ds)) (h2 : 2 ≤ k) (h3 : k ≤ 1000) (hz : ds.length ≤ 1000) : DV K q σ H (tOp (rRepE K) te (tC (.int k))) (.tuple (List.replicate k.toNat ds).flatten) := by
  intro H1 Q s g
  refine w_op (h H1 _ s fun v H2 s2 dq => w_C ?_)
  cases dq with
  | @tup a xs _ e r =>
    have rep : ∀ m : Nat, DqA K q H2 (List.replicate m xs).flatten (List.replicate m ds).flatten := by
      intro m
      induction m with
      | zero => exact .nil
      | succ m ih =>
        rw [List.replicate_succ, List.replicate_succ, List.flatten_cons, List.flatten_cons]
        exact r.append ih
    refine ⟨a, k, xs, rfl, rfl, e, h2, h3, by rw [r.length]; exact hz, fun z => ?_, fun _ p hp => ?_⟩
    · subst z
      cases r
      refine g _ H2 s2 (.tup e ?_)
      have : (List.replicate k.toNat ([] : List PyData)).flatten = [] := by
        rw [List.flatten_eq_nil_iff]
        intro l hl
        exact List.eq_of_mem_replicate hl
      rw [this]
      exact .nil
    · exact g _ _ (same_upd s2 hp) (.tup (.of upd_same) ((rep _).same (same_upd (Same.refl _) hp)))
theorem dv_ix0 {te : TE} {a b : PyData} (h : DV K q σ H te (.tuple [a, b])) : DV K q σ H (tOp (rIxT K) te (tC (.int 0))) a := by
  intro H1 Q s k
  refine w_op (h H1 _ s fun v H2 s2 dq => w_C ?_)
  cases dq with
  | @tup t xs _ e r =>
    cases r with
    | @cons x _ _ _ r1 r =>
    cases r with
    | @cons y _ _ _ r2 r =>
    cases r with
    | nil => exact w_ixT e (v := x) rfl (k x H2 s2 r1)
theorem dv_tupR {i : Nat} {r : Addr} {xs : List V} {ds : List PyData} (hi : σ[i]? = some (some (.ref r))) (e : H r = some (.lst xs)) (h : DqA K q H xs ds) : DV K q σ H (tCB (fun xs H Q => ∃ p ys, xs = [V.ref p] ∧ ((SqL K H p ys ∧ ∀ l, H l = none → Q (V.ref l) (upd H l (.tup ys))) ∨ SqT K H p ys ∧ Q (V.ref p) H)) (tCons (tVar i) tNil)) (.tuple ds) := by
  intro H1 Q s k
  refine ⟨_, hi, r, _, rfl, .inl ⟨SqL.of (s _ _ e), fun l hl => ?_⟩⟩
  have t : Same H (upd H1 l (.tup xs)) := same_upd s hl
  exact k _ _ (same_upd (Same.refl _) hl) (.tup (.of upd_same) (h.same t))
theorem dv_lstR {i : Nat} {r : Addr} {xs : List V} {ds : List PyData} (occ : ∀ x, q x → ∃ o, H x = some o) (hi : σ[i]? = some (some (.ref r))) (e : H r = some (.lst xs)) (h : DqA K q H xs ds) :
    DV K q σ H (tCB (fun xs H Q => ∃ p ys, xs = [.ref p] ∧ (SqL K H p ys ∨ SqT K H p ys) ∧ ∀ l, H l = none → l ≠ sysModules → Q (.ref l) (upd H l (.lst ys))) (tCons (tVar i) tNil)) (.list ds) := by
  intro H1 Q s k
  refine ⟨_, hi, r, _, rfl, .inl (SqL.of (s _ _ e)), fun l hl hm => ?_⟩
  have t : Same H (upd H1 l (.lst xs)) := same_upd s hl
  exact k _ _ (same_upd (Same.refl _) hl) (.lst upd_same (fun z => by
    obtain ⟨o, ho⟩ := occ _ z
    exact ne_of_none (s _ _ ho) hl rfl) hm (h.same t))
end
/-- found + [bent for lap in range(n)] + [odd]: the end of both -/
theorem near_end {K : PySem.W.Frag} {q L : Addr} {F : List (V × PyData)} {R : List (Addr × List V)} {H0 H : Hp} {m j n i il k : Nat} {σ : L2.St} {Q : VK} {ta : TE} {d : PyData} (Z : GSt K q L F R H0 H m j) (hl : σ[il]? = some (some (.ref L))) (hq : σ[0]? = some (some (.ref q))) (hq' : ∀ x, ((wipe σ [i]).set i (some x))[0]? = some (some (.ref q)))
    (hw : ∀ x, wipe ((wipe σ [i]).set i (some x)) [i] = wipe σ [i]) (hn : n ≤ 10) (hj : j ≤ 50) (okT : okN d = true) (iT : inB d = true) (bT : tB d = true) (dT : d.depth ≤ k) (hk : k ≤ 5) (zT : szD d ≤ 20000) (hm : m ≤ 800000)
    (hd : ∀ D x Ha, GSt K q L F R H0 Ha m j ∨ True → (∀ p ∈ F, Fr K Ha p.1 p.2) → (∀ p ∈ R, Ha p.1 = some (.lst p.2)) → DV K (g2 q D) ((wipe σ [i]).set i (some x)) Ha ta d)
    (fin : ∀ (H' : Hp) (p : Addr) (vs : List V), HS q H0 H' → PotAt H' q (m + 200) → p ≠ q → H' p = some (.lst vs) → vs.length ≤ 100 → (∀ v ∈ vs, Any K (g1 q) H' v) → Q (.ref p) H') :
    tOp rCat (tOp rCat (tVar il) (tLc (iRng1 (tCons (tC (.int (n : Nat))) tNil)) (gName i) tYes (tCall (spBent K (k + 1)) [] E0 (tCons (tVar 0) (tCons ta tNil))) [i])) (tLstN (tCons (tCall (spOdd K) [] E0 (tCons (tVar 0) tNil)) tNil)) σ H Q := by
  refine w_op ?_
  refine w_op ?_
  refine w_var hl ?_
  refine w_lcPot (q := q) (n := n) (m := m) (c := 2 * k + 4) (It := fun D H v => Any K (g2 q D) H v) (by omega) (fun R h => h) Z.pot hw (fun D H1 H2 v lg c h => h.cg c lg) (fun D i' Ha R' hi hD h1 lg ho p1 g => ?_) (fun D H3 vs hD h3 p3 e3 hl hv => ?_)
  · have Za := Z.pt hD h1 p1
    refine w_call ?_
    refine w_cons ?_
    refine w_var (hq' _) ?_
    refine w_cons ?_
    have bound : (2 * k + 4) * i' ≤ 14 * 10 := Nat.mul_le_mul (by omega) (by omega)
    refine hd D _ Ha (.inr trivial) Za.frs (fun p hp => (Za.rws p hp).1) Ha _ (Same.refl _) fun v Hv sv dq => ?_
    have pv' := p1.same sv
    refine w_nil ⟨q, v, d, m + (2 * k + 4) * i', g2 q D, rfl, g2_l, fun z hz => ?_, dq, okT, iT, bT, dT, by omega, pv', by omega, fun Hb u hb hs pb => ?_⟩
    · rcases hz with rfl | rfl
      · obtain ⟨_, _, _, e, _⟩ := pv'
        exact ⟨_, e⟩
      · obtain ⟨o, ho⟩ := ho
        exact ⟨o, sv _ _ ho⟩
    · obtain ⟨d', dq', o1, o2, o3⟩ := hb
      exact g Hb u ((HS.same sv).trans hs) (pb.mono (by omega)) ⟨d', dq', okN_ok o1, nd_of o1, by omega, by omega⟩
  have Z3 := Z.pt hD h3 p3
  have bound : (2 * k + 4) * n ≤ 14 * 10 := Nat.mul_le_mul (by omega) hn
  obtain ⟨fs, ef, fl, fa⟩ := Z3.fnd
  refine w_cat ef e3 (by omega) fun p hp => ?_
  have s4 : Same H3 (upd H3 p (.lst (fs ++ vs))) := same_upd (Same.refl _) hp
  have hpq : p ≠ q := by
    obtain ⟨_, _, _, e, _⟩ := p3
    exact Ne.symm (ne_of_none e hp)
  have p4 := p3.same s4
  have hs4 : HS q H0 (upd H3 p (.lst (fs ++ vs))) := Z3.hs.trans (HS.same s4)
  have a4 : ∀ v ∈ fs ++ vs, Any K (g1 q) (upd H3 p (.lst (fs ++ vs))) v := fun v hv' => by
    refine Any.same s4 ?_
    rcases List.mem_append.mp hv' with h | h
    · exact (fa v h).less fun x z => .inl z
    · exact (hv v h).less fun x z => .inl z
  have e4 : (upd H3 p (.lst (fs ++ vs))) p = some (.lst (fs ++ vs)) := upd_same
  generalize upd H3 p (.lst (fs ++ vs)) = H4 at p4 hs4 a4 e4 ⊢
  refine w_lstN ?_
  refine w_cons ?_
  refine w_call ?_
  refine w_cons ?_
  refine w_var hq ?_
  refine w_nil ⟨q, _, g1 q, rfl, p4, by omega, rfl, fun z hz => ?_, fun H5 v hv hs p5 => ?_⟩
  · rw [show z = q from hz]
    obtain ⟨_, _, _, e, _⟩ := p4
    exact ⟨_, e⟩
  refine w_nil ⟨by show 1 ≤ sizeLine; rw [sizeLine_eq]; decide, fun p2 hp2 _ => ?_⟩
  have s6 : Same H5 (upd H5 p2 (.lst [v])) := same_upd (Same.refl _) hp2
  have a5 : ∀ u ∈ fs ++ vs, Any K (g1 q) H5 u := fun u hu => (a4 u hu).cg (.of hs rfl) (pot_lg p4)
  refine w_cat (s6 _ _ (hs _ _ hpq e4)) upd_same (by rw [List.length_append]; show _ + 1 ≤ 1000; omega) fun p3' hp3 => ?_
  have s7 := s6.trans (same_upd (o := .lst ((fs ++ vs) ++ [v])) (Same.refl _) hp3)
  refine fin _ p3' _ ((hs4.trans hs).trans (HS.same s7)) ((p5.same s7).mono (by omega)) ?_ upd_same (by rw [List.length_append, List.length_append]; show _ + 1 ≤ 100; omega) fun u hu => ?_
  · obtain ⟨_, _, _, e, _⟩ := p5.same s6
    exact Ne.symm (ne_of_none e hp3)
  · rcases List.mem_append.mp hu with h | h
    · exact (a5 u h).same s7
    · rw [List.mem_singleton.mp h]
      obtain ⟨d, dq, o1, o2, o3, o4, o5⟩ := hv
      exact Any.same s7 ⟨d, dq, o1, o5, by omega, by omega⟩
end Two

namespace Two
theorem fr_lot {K : PySem.W.Frag} {G : Addr → Prop} {H : Hp} : ∀ l : List Str, DqA K G H (l.map V.str) (l.map PyData.str)
  | [] => .nil
  | n :: ns => .cons (.str _) (fr_lot ns)
theorem len_cut {ds : List PyData} {lo hi : Option Int} : (cutD ds lo hi).length ≤ ds.length := by
  unfold cutD
  rw [List.length_take, List.length_drop]
  omega
def sevenL : List Str := ["a", "b", "c", "fan", "lamp", "pump", "on"]
theorem fitA_seven {k : Nat} : FitA 640 k (sevenL.map PyData.str) := ⟨by decide +kernel, by decide +kernel, Nat.le_trans (show PyData.depthAll (sevenL.map PyData.str) ≤ 0 by decide +kernel) (Nat.zero_le _)⟩
theorem lot_bent {l : List Str} (h : Short l) : okN (lotD l) = true ∧ inB (lotD l) = true ∧ tB (lotD l) = true ∧ (lotD l).depth ≤ 1 ∧ szD (lotD l) ≤ 700 := by
  have t : ∀ l : List Str, tA (l.map PyData.str) = true ∧ inA (l.map PyData.str) = true := by
    intro l
    induction l with
    | nil => exact ⟨rfl, rfl⟩
    | cons a l ih =>
      constructor
      · show (tB (.str a) && tA (l.map PyData.str)) = true
        rw [ih.1]
        rfl
      · show (inB (.str a) && inA (l.map PyData.str)) = true
        rw [ih.2]
        rfl
  have f := fit_tup (fitA_lot (k := 0) h)
  exact ⟨f.1, (t l).2, (t l).1, f.2.2, Nat.le_trans f.2.1 (by decide)⟩
def spNearDevices (K : PySem.W.Frag) : Sp := fun vs H Q _ => ∃ (q : Addr) (x : V) (ds : List Str) (n : Nat), vs = [.ref q, x] ∧ LotAt K H x ds ∧ Devs ds ∧ PotAt H q n ∧ n ≤ 700000 ∧
  ∀ (H' : Hp) (p : Addr) (vs : List V), HS q H H' → PotAt H' q (n + 200) → p ≠ q → H' p = some (.lst vs) → vs.length ≤ 100 → (∀ v ∈ vs, Any K (g1 q) H' v) → Q (.ref p) H'
section
variable {P : Program} {w : World} {K : PySem.W.Frag} {mg : Str → Option Value} {base : Heap} {C : Addr}
end
end Two

open PySem PySem.Spec PyProof.Rows L2 LamX
/-! ## such a comprehension, kept under a local name -/
section
variable {X : Cx}
theorem lcW_core {pins : List (Addr × Obj)} {s : Shared} {σ : L2.St} {H : Hp} {Q : VK} {use : Option (Value → Sem Unit)} {Qf : Value → Shared → Prop} {pos' : Pos} {elt tg iter : Expr} {scope : Scope} {own : List (Str × Nat)} {pos : Pos} {wi : TI} {g : TG} {te : L2.St → TE} (calm : X.calm = true) (nd : X.N.Nodup) (I : Inv X pins σ H s) (src : PI X tg iter wi) (ok : BlkOk X.N X.env.scope scope own)
    (hg : ∀ (s : Shared) (H : Hp) (C : Addr) (cl : List (Str × Addr)) (fp : List Addr), PG (X.blk s H scope (compEnvC scope cl C X.env) fp) tg g)
    (item : ∀ (s : Shared) (H : Hp) (C : Addr) (cl : List (Str × Addr)) (fp : List Addr) (pins : List (Addr × Obj)) (σ : L2.St), Backs X (X.blk s H scope (compEnvC scope cl C X.env) fp) pins σ → PE (X.blk s H scope (compEnvC scope cl C X.env) fp) elt (te σ))
    (plain : ∀ x, foldedSetIterable iter X.env x = pure x) (plan : tLc wi g tYes (te σ) (own.map (·.2)) σ H Q)
    (back : ∀ D C s' m H', Inv X pins σ H' s' → Q (.ref D) H' → s'.heap.Ns C m → FpOk X pins H' C → compPost (model X.prog X.w) X.A X.xe use Qf (.ref D) C (.ok .next) s') :
    wpAny (model X.prog X.w) X.A (comprehension (.ListComp elt [⟨tg, iter, [], 0⟩] scope pos) scope X.env pos' (newList []) false (eval iter X.env) use) Qf X.xe s := by
  have frees : ∀ y ∈ scope.names, y.2 = .free → ∃ c, X.env.cells.lookup y.1 = some c := fun y m e => (ok.free y m e).elim (fun k => I.ok.has _ (.inl k)) fun k => I.ok.has _ (.inr k)
  refine wpAny_comprehension_free (use := use) rfl plain (closure_ok frees) ok.kind (fun y m e => by rw [ok.uniq y m, e]) (thn (src.run pins s σ H _ I plan) fun _ _ r1 => thn r1 fun _ t2 r2 => ?_)
  obtain ⟨it, fp, tn, J, H2, rfl, I2, T, at2, off2, go⟩ := r2
  refine wpAny_newObj_type (newEnv_comp ?_) (show 0 ≤ sizeLine from Nat.zero_le _)
  obtain ⟨D, isD⟩ : ∃ D, t2.heap.objs.size = D := ⟨_, rfl⟩
  obtain ⟨W, ⟨m0, w0⟩, turn⟩ := go D (I2.hok.fresh (Nat.le_of_eq isD))
  rw [isD]
  obtain ⟨t3, is3⟩ : ∃ t3 : Shared, ({ t2 with heap := t2.heap.push { cls := .type "list", data := .seq ([] : List Value).toArray } } : Shared) = t3 := ⟨_, rfl⟩
  have I3 : Inv X pins σ (upd H2 D (.lst [])) t3 := by
    subst is3 isD
    exact I2.laid (fun _ _ e => Heap.get?_push_of_some _ e) (Nat.le_refl _) ⟨Nat.zero_le _, [], 0, .nil, Heap.get?_push_size _ rfl⟩
  have grew : ∀ b o, t2.heap.get? b = some o → t3.heap.get? b = some o := fun b o e => by
    subst is3
    exact Heap.get?_push_of_some _ e
  have bigger : t2.heap.objs.size < t3.heap.objs.size := by
    subst is3
    rw [Heap.size_push]
    exact Nat.lt_succ_self _
  have below : ∀ b ∈ fp, b < t2.heap.objs.size := fun b hb => by
    obtain ⟨o, e, _⟩ := T.obj _ _ at2 b hb
    exact Heap.lt_size e
  have off3 : ∀ b ∈ fp, FpOk X pins (upd H2 D (.lst [])) b ∧ b < t3.heap.objs.size := fun b hb => by
    have lt := below b hb
    refine ⟨⟨?_, (off2 b hb).2⟩, Nat.lt_trans lt bigger⟩
    rw [upd_ne (Nat.ne_of_lt (isD ▸ lt))]
    exact (off2 b hb).1
  have at3 := T.keep _ _ t3.heap at2 fun b _ o e => grew b o e
  have I4 := block_start I3 ok nd off3
  have none3 : ∀ b ∈ fp, (upd H2 D (.lst [])) b = none := fun b hb => (off3 b hb).1.1
  have out3 : FpOk X pins (upd H2 D (.lst [])) t3.heap.objs.size → True := fun _ => trivial
  obtain ⟨H3, is3H⟩ : ∃ H3, upd H2 D (.lst []) = H3 := ⟨_, rfl⟩
  rw [is3H] at I3 off3 I4 none3 w0
  obtain ⟨cl, iscl⟩ : ∃ cl, cellsFrom (t3.heap.objs.size + 1) scope.names (cloFrom X.env.cells scope.names []) = cl := ⟨_, rfl⟩
  rw [iscl] at I4
  obtain ⟨ce, isce⟩ : ∃ ce, compEnvC scope cl t3.heap.objs.size X.env = ce := ⟨_, rfl⟩
  have pg := hg t3 H3 t3.heap.objs.size cl fp
  have pe0 := item t3 H3 t3.heap.objs.size cl fp pins σ
  rw [isce] at I4 pg pe0
  have locC : ce.locals = t3.heap.objs.size := by
    subst isce
    rfl
  have backs : Backs X (X.blk t3 H3 scope ce fp) pins σ := fun pins1 σ1 H1 s1 J1 => I3.call' (ch := fp) J1.os J1.base J1.hok J1.bare fun b hb => ⟨(off3 b hb).1.2.2.2.1, (off3 b hb).1.2.1, (off3 b hb).1.2.2.2.2.1, (off3 b hb).1.2.2.2.2.2⟩
  have pe := pe0 backs
  obtain ⟨t4, is4⟩ : ∃ t4 : Shared, ({ t3 with heap := pushCells (t3.heap.push { cls := .type "dict", data := .dict #[] }) scope.names } : Shared) = t4 := ⟨_, rfl⟩
  rw [is4] at I4
  have at4 : tn 0 t4.heap := T.keep _ _ _ at3 fun b _ o e => by
    subst is4
    exact pushCells_keeps _ _ _ _ (Heap.get?_push_of_some _ e)
  have outs : ∀ {σ1 : L2.St} {H1 : Hp} {s1 : Shared}, Inv (X.blk t3 H3 scope ce fp) [] σ1 H1 s1 → (∀ b ∈ fp, H1 b = none) → ∀ b ∈ fp, FpOk (X.blk t3 H3 scope ce fp) [] H1 b := fun {σ1 H1 s1} J1 n b hb =>
    ⟨n b hb, (J1.ok.exf b hb).1, J1.ok.exfs b hb, .inl hb, fun x c e => (J1.ok.exf b hb).2 x c e, fun p hp => nomatch (show p ∈ ([] : List (Addr × Obj)) ++ [] from hp)⟩
  have key : codeAny (model X.prog X.w) X.A (.compLoop (.ListComp elt [⟨tg, iter, [], 0⟩] scope pos) 0 (.ref it) (.ref D) ce) (compPost (model X.prog X.w) X.A X.xe use Qf (.ref D) t3.heap.objs.size) t4 := by
    refine compLoop_any (fun m s1 => ∃ i H1, Inv (X.blk t3 H3 scope ce fp) [] (wipe σ (own.map (·.2))) H1 s1 ∧ tn i s1.heap ∧ (∀ b ∈ fp, H1 b = none) ∧ W i m H1) ?_ m0 ⟨0, H3, I4, at4, none3, w0⟩
    rintro m t5 ⟨i, H5, I5, at5, none5, w5⟩
    rcases turn i m H5 w5 with ⟨stop, fin⟩ | ⟨more, Nx, less, step⟩
    · refine thnF (T.done (X.blk t3 H3 scope ce fp) rfl rfl rfl calm i [] t5 _ H5 (fun _ _ => False) I5 (outs I5 none5) at5 stop) fun r t6 ⟨hr, I6⟩ => ?_
      subst hr
      have nC : H5 t3.heap.objs.size = none := locC ▸ I6.free
      obtain ⟨mm, ns, _⟩ := I6.loc
      have ns2 : t6.heap.Ns t3.heap.objs.size mm := locC ▸ ns
      exact back D t3.heap.objs.size t6 mm H5 (backs _ _ _ _ I6) fin ns2 (I3.fpOk (Nat.le_refl _) nC)
    · refine thnF (T.item (X.blk t3 H3 scope ce fp) rfl rfl rfl calm i [] t5 _ H5 (fun _ _ => False) I5 (outs I5 none5) at5 more) fun r t6 ⟨u, hr, nxt⟩ => ?_
      subst hr
      refine thnF nxt fun _ t7 ⟨x, H7, I7, rx, yx, at7, none7⟩ => ?_
      have held : ∀ b ∈ fp, ∃ o, t7.heap.get? b = some o ∧ ∀ v, o.data ≠ .cell v := T.obj _ _ at7
      refine thnF (pg.run _ t7 _ H7 x u _ (I7.pinned (outs I7 none7) held) rx (step x H7 yx)) fun _ t8 ⟨σ8, H8, I8, same8, q8⟩ => ?_
      have over : ∀ {s9 : Shared} {H9 : Hp}, Inv (X.blk t3 H3 scope ce fp) ([] ++ pinsAt fp t7.heap) σ8 H9 s9 → Nx H9 → ∃ k, k < m ∧ ∃ i H1, Inv (X.blk t3 H3 scope ce fp) [] (wipe σ (own.map (·.2))) H1 s9 ∧ tn i s9.heap ∧ (∀ b ∈ fp, H1 b = none) ∧ W i k H1 := fun {s9 H9} J9 nx => by
        obtain ⟨k, lt, wk⟩ := less H9 nx
        have still : ∀ b ∈ fp, ∀ o, t7.heap.get? b = some o → s9.heap.get? b = some o ∧ H9 b = none := fun b hb o e => by
          obtain ⟨z1, z2, _⟩ := J9.pin (b, o) (List.mem_append_right _ (List.mem_append_right _ (mem_pinsAt hb e)))
          exact ⟨z1, z2⟩
        refine ⟨k, lt, i + 1, H9, (J9.unpinned (pins := [])).weak (by rw [← same8, wipe_length]) (fun j v e => ?_), T.keep _ _ _ at7 fun b hb o e => (still b hb o e).1, fun b hb => ?_, wk⟩
        · rw [← same8] at e
          exact (wipe_some e).1
        · obtain ⟨o, e, _⟩ := held b hb
          exact (still b hb o e).2
      refine thnF ((pts_nil (X := X.blk t3 H3 scope ce fp)).run _ t8 σ8 H8 _ I8 q8) fun b t9 ⟨H9, I9, q9⟩ => ?_
      cases b with
      | false =>
        rw [if_neg Bool.false_ne_true] at q9
        exact over I9 q9
      | true =>
        rw [if_pos rfl] at q9
        refine thnF (pe.run _ t9 σ8 H9 _ I9 q9) fun z t10 ⟨yv, H10, I10, r10, acc, accD, small, nx⟩ => ?_
        exact app_ok (X := X.blk t3 H3 scope ce fp) I10 accD small r10 fun t11 I11 => over I11 nx
  have all : codeAny (model X.prog X.w) X.A (.compStart (.ListComp elt [⟨tg, iter, [], 0⟩] scope pos) 0 (.ref it) (.ref D) ce) (compPost (model X.prog X.w) X.A X.xe use Qf (.ref D) t3.heap.objs.size) t4 := codeAny_compStart_list key (T.self X.A 0 _ _ _ at4 key)
  subst isce iscl is4 is3
  exact all
theorem ps_setLcW {i : Nat} {y : Str} {py : Pos} {elt tg iter : Expr} {scope : Scope} {own : List (Str × Nat)} {pos spos : Pos} {wi : TI} {g : TG} {te : L2.St → TE} (calm : X.calm = true) (nd : X.N.Nodup) (hy : X.N[i]? = some y) (hyl : X.env.scope.names.lookup y = some .local)
    (hsw : swapsWith (.ListComp elt [⟨tg, iter, [], 0⟩] scope pos) (some (.Name y py)) spos.line X.env = pure true) (src : PI X tg iter wi) (ok : BlkOk X.N X.env.scope scope own)
    (hg : ∀ (s : Shared) (H : Hp) (C : Addr) (cl : List (Str × Addr)) (fp : List Addr), PG (X.blk s H scope (compEnvC scope cl C X.env) fp) tg g)
    (item : ∀ (s : Shared) (H : Hp) (C : Addr) (cl : List (Str × Addr)) (fp : List Addr) (pins : List (Addr × Obj)) (σ : L2.St), Backs X (X.blk s H scope (compEnvC scope cl C X.env) fp) pins σ → PE (X.blk s H scope (compEnvC scope cl C X.env) fp) elt (te σ))
    (plain : ∀ x, foldedSetIterable iter X.env x = pure x := by intro _; rfl) :
    PS X (.Assign [.Name y py] (.ListComp elt [⟨tg, iter, [], 0⟩] scope pos) spos) (tAsg (fun σ H Q => tLc wi g tYes (te σ) (own.map (·.2)) σ H Q) (gName i)) := by
  refine ⟨fun pins s σ H D I h => ?_⟩
  rw [exec_Assign_Name_used _ _ _ _ hsw]
  refine wpAny_bind (wpAny_standAt (wpAny_bind ?_))
  show wpAny _ X.A (do let _ ← comprehension (.ListComp elt [⟨tg, iter, [], 0⟩] scope pos) scope X.env (firstIterPos [⟨tg, iter, [], 0⟩] pos) (newList []) false (eval iter X.env) (some (assign (.Name y py) X.env))) _ _ s
  have h : tLc wi g tYes (te σ) (own.map (·.2)) σ H (fun x H1 => gName i x σ H1 D.nx) := h
  refine wpAny_bind (thn (lcW_core (Qf := fun _ s' => SP X pins D .next s') calm nd I src ok hg item plain h fun L C s' m H' I' q hn f => ?_) fun _ s' hq => wpAny_pure (wpAny_pure hq))
  show wpAny _ _ (assign (.Name y py) X.env (.ref L)) _ _ _
  refine wpAny_assign_Name (store_ok2 (v := V.ref L) I' nd hy (.inl hyl) rfl (fun s2 I2 ⟨a, sb, ha⟩ => ?_) (.inr hyl))
  obtain ⟨f0, f1, f2, f3, f4, f5⟩ := f
  have haC : C ≠ a := by
    rcases ha with z | z
    · rw [z]; exact f1
    · exact fun e => f4 y a z e.symm
  refine ⟨m, hn.sameBut sb haC, fun h3 sb3 => ?_⟩
  exact ⟨_, H', I2.turned (t' := s2.toks) (fun b o hb e => (sb3.2 b hb).trans e) f0 f1 f3 f4 f5, q⟩
end
theorem call_isXK {X : Cx} {K : PySem.W.Frag} (h : X.K = K) : CallR X (.builtin "isinstance") (rIsX K) := by
  subst h
  exact call_isX
theorem pe_valueXK {X : Cx} {K : PySem.W.Frag} {e : Expr} {te : TE} {pos : Pos} (h : X.K = K) (he : PE X e te) (hb : attributeBase e "value" X.env (eval e X.env) = eval e X.env := by rfl) : PE X (.Attribute e "value" pos) (tValueX K te) := by
  subst h
  exact pe_valueX he hb

open PySem PySem.Spec PyProof.Rows L2 LamX

theorem told_givesF {X : Cx} {g CS : Addr} {cdg : Value} (hme : X.mg "WakeError" = some (.ref CS)) : GivesF X N_law_told "_law_told" (defScope s_law_told) g cdg (defBody s_law_told) "_law_look" (TTget X.K CS) := by
  intro F f s H Q tl keep act h0 h
  have nam : Names (cxOf C8.CX0 X.prog X.w X.K X.mg X.base N_law_told "_law_told" (defScope s_law_told) g cdg X.A X.stack s H C8.E0).nox "WakeError" (.ref CS) := ⟨by rfl, by decide, .inl hme⟩
  refine ⟨_, (pss_cons (ps_asg (pe_tup (pa_cons pe_non (pa_cons pe_non pa_nil))) (pg_tup (by rfl) (pgs_cons (pg_name (i := 1) sc_law_told.nd rfl (by first | exact Or.inl rfl | exact Or.inr rfl)) (pgs_cons (pg_name (i := 2) sc_law_told.nd rfl (by first | exact Or.inl rfl | exact Or.inr rfl)) pgs_nil))))
  (pss_cons (ps_catch (i := 3) (x := "WakeError") (c := .ref CS) rfl rfl rfl sc_law_told.nd rfl rfl nam (fun W pn xe tk => pss_one (ps_set (i := 2) sc_law_told.nd rfl (by first | exact Or.inl rfl | exact Or.inr rfl) (act W pn xe _ _ tk))) (fun b ob cls d pn => pss_one (ps_set (i := 1) sc_law_told.nd rfl (by first | exact Or.inl rfl | exact Or.inr rfl) (pv 3))))
  (pss_one (ps_ret (pe_tup (pa_cons (pv 1) (pa_cons (pv 2) pa_nil))))))), ?_⟩
  refine w_seq ?_
  refine w_asg ?_
  refine w_tup ?_
  refine w_cons ?_
  refine w_C ?_
  refine w_cons ?_
  refine w_C ?_
  refine w_nil ⟨by show 2 ≤ sizeLine; rw [sizeLine_eq]; decide, fun p0 hp0 => ?_⟩
  refine ⟨_, _, rfl, SqT.of upd_same, rfl, _, _, rfl, _, _, rfl, rfl, ?_⟩
  dsimp only
  refine w_seq ?_
  exact ⟨rfl, keep _ _ (same_upd (Same.refl _) hp0) h0, h f p0 hp0⟩
structure ToldAt (K : PySem.W.Frag) (mg : Str → Option Value) (g : Addr) (cdv : Value) (oc dV kV doc pm ct : Value) (an od : Option Addr) (osl : Array (Option Value)) : Prop where
  hm : mg "_law_told" = some (.ref g)
  kp : PySem.W.keepIn K (.ref g) = true
  lk : K.lookup g = some ⟨oc, od, .func (PySem.W.fnOf "_law_told" "_law_told" (defArgs s_law_told) (defBody s_law_told) (defScope s_law_told) dV kV doc pm an cdv ct), osl⟩
  cd : PySem.W.codeIn K cdv "_law_told" = true
  hb : Binds K (PySem.W.fnOf "_law_told" "_law_told" (defArgs s_law_told) (defBody s_law_told) (defScope s_law_told) dV kV doc pm an cdv ct) ["_law_look"] []
def lamQ : Str := ("_law_right" : Str) ++ ".<locals>."
abbrev TabL (Tb : Addr) : List (Addr × Str) := [(Tb, lamQ ++ "<lambda>")]
/-- the i-th statement of the def's body -/
def inBody (i : Nat) : Stmt := (defBody s_law_right).getD i (.Pass ⟨0, 0, 0, 0⟩)
def lamOf : Stmt → Expr
  | .Assign _ (.List (e :: _) _) _ => e
  | .Expr (.Call _ (e :: _) _ _) _ => e
  | _ => .Name "" ⟨0, 0, 0, 0⟩
def lamP : Expr → Arguments
  | .Lambda ps _ _ _ => ps
  | _ => defArgs s_law_right
def lamB : Expr → Expr
  | .Lambda _ b _ _ => b
  | e => e
def lamSc : Expr → Scope
  | .Lambda _ _ sc _ => sc
  | _ => defScope s_law_right
abbrev lamWith (t : XK → TE) (i : Nat) : Lam := ⟨lamP (lamOf (inBody i)), lamB (lamOf (inBody i)), lamSc (lamOf (inBody i)), t⟩
abbrev lamDiffer (K : PySem.W.Frag) (C CO : Addr) : Lam := lamWith (fun E => tCall (spDifferX K C CO) [] E (tCons (tVar 7) (tCons (tVar 14) tNil))) 14
abbrev lamShows (K : PySem.W.Frag) (C CO : Addr) : Lam := lamWith (fun E => tCall (spShowsDifferX K C CO) [] E (tCons (tVar 7) (tCons (tVar 14) (tCons (tVar 9) tNil)))) 15
theorem ls14 : LamS (defScope s_law_right) (lamSc (lamOf (inBody 14))) := lamS_by (by decide +kernel)
theorem ls15 : LamS (defScope s_law_right) (lamSc (lamOf (inBody 15))) := lamS_by (by decide +kernel)
abbrev famA (K : PySem.W.Frag) (C CO : Addr) : List Lam := [lamDiffer K C CO, lamShows K C CO]
theorem each2 {α : Type} {P : α → Prop} {a b : α} (ha : P a) (hb : P b) : ∀ l ∈ [a, b], P l := fun l hl => by
  rcases List.mem_cons.mp hl with rfl | hl
  · exact ha
  · rw [List.mem_singleton.mp hl]; exact hb
theorem Same.extN {H H' : Hp} (s : Same H H') : ExtN H H' := fun b o e _ => s b o e
/-- all but the pot and the tables stands -/
def KP (q : Addr) (H H' : Hp) : Prop := ∀ b o, H b = some o → b ≠ q → (∀ ps, o ≠ .tbl ps) → H' b = some o
theorem KP.refl (q : Addr) (H : Hp) : KP q H H := fun _ _ e _ _ => e
theorem KP.trans {q : Addr} {H H1 H2 : Hp} (a : KP q H H1) (b : KP q H1 H2) : KP q H H2 := fun c o e n t => b c o (a c o e n t) n t
theorem HS.kp {q : Addr} {H H' : Hp} (h : HS q H H') : KP q H H' := fun b o e n _ => h b o n e
theorem ext_kp {q : Addr} {H H' : Hp} (h : ExtN H H') : KP q H H' := fun b o e _ t => h b o e t
theorem tabs_hs {T : List (Addr × Str)} {q : Addr} {H H' : Hp} {l : List V} (t : Tabs T H) (h : HS q H H') (e : H q = some (.lst l)) : Tabs T H' := fun p hp => by
  obtain ⟨ps, h1, h2, h3⟩ := t p hp
  refine ⟨ps, h _ _ (fun z => by rw [z, e] at h1; cases h1) h1, h2, fun pos cv hc => ?_⟩
  obtain ⟨c, e1, e2⟩ := h3 pos cv hc
  refine ⟨c, e1, h _ _ (fun z => ?_) e2⟩
  rw [z, e] at e2
  have := Option.some.inj e2
  unfold CodeO at this
  cases this
theorem pot_ext {q : Addr} {H H' : Hp} {n : Nat} (h : ExtN H H') (p : PotAt H q n) : PotAt H' q n := by
  obtain ⟨own, b, c, e, r⟩ := p
  exact ⟨own, b, c, h _ _ e (fun _ z => nomatch z), r⟩
theorem sqT_kp {K : PySem.W.Frag} {q : Addr} {H H' : Hp} {l : List V} (h : KP q H H') (hq : H q = some (.lst l)) {a : Addr} {xs : List V} (e : SqT K H a xs) : SqT K H' a xs := by
  rcases e with (e | ⟨o, e⟩) | e
  · exact .inl (.inl (h _ _ e (fun z => by rw [z, hq] at e; cases e) fun _ z => nomatch z))
  · exact .inl (.inr ⟨o, h _ _ e (fun z => by rw [z, hq] at e; cases e) fun _ z => nomatch z⟩)
  · exact .inr e
theorem lot_kp {K : PySem.W.Frag} {q : Addr} {H H' : Hp} {m : List V} (h : KP q H H') (hq : H q = some (.lst m)) {x : V} {l : List Str} (e : LotAt K H x l) : LotAt K H' x l := by
  obtain ⟨a, rfl, e⟩ := e
  exact ⟨a, rfl, sqT_kp h hq e⟩
theorem dq_kp {K : PySem.W.Frag} {q : Addr} {H H' : Hp} {l : List V} (h : KP q H H') (hq : H q = some (.lst l)) {v : V} {d : PyData} (dq : Dq K q H v d) : Dq K q H' v d :=
  Dq.rec (motive_1 := fun v d _ => Dq K q H' v d) (motive_2 := fun vs ds _ => DqA K q H' vs ds)
    .non (fun b => .bl b) (fun i => .int i) (fun x => .str x) (fun e n n2 _ r => .lst (h _ _ e n fun _ z => nomatch z) n n2 r)
    (fun e _ r => .tup (sqT_kp h hq e) r) (fun e _ _ r1 r2 => .dic (h _ _ e (fun z => by rw [z, hq] at e; cases e) fun _ z => nomatch z) r1 r2) .nil (fun _ _ r t => .cons r t) dq
structure Shw (K : PySem.W.Frag) (q : Addr) (H : Hp) (v : V) (d : PyData) : Prop where
  dq : Dq K q H v d
  ok : okD d = true
  nd : ndB d = true
  sz : szD d ≤ 100000
  dep : d.depth ≤ 20
theorem Shw.kp {K : PySem.W.Frag} {q : Addr} {H H' : Hp} {l : List V} {v : V} {d : PyData} (s : Shw K q H v d) (h : KP q H H') (hq : H q = some (.lst l)) : Shw K q H' v d := ⟨dq_kp h hq s.dq, s.ok, s.nd, s.sz, s.dep⟩
theorem Shw.same {K : PySem.W.Frag} {q : Addr} {H H' : Hp} {v : V} {d : PyData} (s : Shw K q H v d) (h : Same H H') : Shw K q H' v d := ⟨s.dq.same h, s.ok, s.nd, s.sz, s.dep⟩
theorem Shw.any {K : PySem.W.Frag} {q : Addr} {H : Hp} {v : V} {d : PyData} (s : Shw K q H v d) : AnyD K q H v d := ⟨s.dq, s.nd, Nat.le_trans s.dep (by decide)⟩
section
variable {K : PySem.W.Frag} {C fI CO CW : Addr} {fdI : FuncData} {mg : Str → Option Value}
theorem told_err {D f d : Addr} {v : V} {Q : VK} {H0 G' : Hp} (s : Same H0 G') (hd : G' d = some (.xd [(("value" : Str), v)])) (ex : PySem.W.exmOne K (.ref D) (.ref CW) = some true)
    (k : ∀ p b H', Same H0 H' → SqT K H' p [.ref b, .non] → XAt H' b D v → Q (.ref p) H') : wGot K (.ref CW) 3 (fun _ _ _ => tAsg (tVar 3) (gName 1)) (endGot Q) (.ref D) (some d) (slotsGot f) G' := by
  refine got_E ex fun b hb p hp => ?_
  have t1 : Same G' (upd G' b (exc b (.ref D) (some d))) := same_upd (Same.refl _) hb
  have t2 : Same (upd G' b (exc b (.ref D) (some d))) (upd (upd G' b (exc b (.ref D) (some d))) p (.tup [.ref b, .non])) := same_upd (Same.refl _) hp
  exact k p b _ (s.trans (t1.trans t2)) (.of upd_same) ⟨d, t2 _ _ upd_same, t2 _ _ (t1 _ _ hd)⟩
theorem told_back {f : Addr} {u : V} {Q : VK} {H0 G' : Hp} (s : Same H0 G') (k : ∀ p H', Same H0 H' → SqT K H' p [.non, u] → Q (.ref p) H') : gName 2 u (slotsGot f) G' (endGot Q).nx :=
  got_Q fun p hp => k p _ (s.trans (same_upd (Same.refl _) hp)) (.of upd_same)
/-- a lambda of these stands at f -/
def LamIs (q : Str) (cells : List (Str × Addr)) (l : Lam) (f : Addr) (H : Hp) : Prop := ∃ cc, H f = some (LamO f q l.ps l.b l.sc (cloFrom cells l.sc.names []) cc) ∧ H cc = some (CodeO cc q)
theorem LamIs.ext {q : Str} {cells : List (Str × Addr)} {l : Lam} {f : Addr} {H H' : Hp} (h : LamIs q cells l f H) (x : ExtN H H') : LamIs q cells l f H' := by
  obtain ⟨cc, h1, h2⟩ := h
  exact ⟨cc, x _ _ h1 (fun ps => lamO_not fun φ z => nomatch z), x _ _ h2 codeO_ne⟩
/-- [told(look)[0] for look in looks]: two of them -/
theorem w_lcTold {j i : Nat} {q : Str} {cells : List (Str × Addr)} {fam : List Lam} {l1 l2 : Lam} {L f1 f2 : Addr} {σ : L2.St} {H : Hp} {Q : VK} (F : V → Hp → Prop)
    (kp : ∀ z H1 H2, F z H1 → (∀ a o, H1 a = some o → (∀ xs, o ≠ .lst xs) → (∀ ps, o ≠ .tbl ps) → H2 a = some o) → F z H2)
    (hj : σ[j]? = some (some (.ref L))) (hi : ∀ x, ((wipe σ [i]).set i (some x))[i]? = some (some x)) (hw : ∀ x, wipe ((wipe σ [i]).set i (some x)) [i] = wipe σ [i]) (hL : H L = some (.lst [.ref f1, .ref f2]))
    (m1 : l1 ∈ fam) (m2 : l2 ∈ fam) (i1 : LamIs q cells l1 f1 H) (i2 : LamIs q cells l2 f2 H)
    (t1 : ∀ H' Q', Same H H' → (∀ p z u H'', Same H' H'' → SqT K H'' p [z, u] → F z H'' → Q' (.ref p) H'') → TTget K CW (fun E G' R' => l1.t E σ G' R') H' Q')
    (t2 : ∀ H' Q', Same H H' → (∀ p z u H'', Same H' H'' → SqT K H'' p [z, u] → F z H'' → Q' (.ref p) H'') → TTget K CW (fun E G' R' => l2.t E σ G' R') H' Q')
    (go : ∀ D H' z1 z2, H D = none → Same H H' → H' D = some (.lst [z1, z2]) → F z1 H' → F z2 H' → Q (.ref D) H') :
    tLc (iList K (tVar j)) (gName i) tYes (tOp (rIxT K) (tTell (TTget K CW) q cells fam i σ) (tC (.int 0))) [i] σ H Q := by
  refine w_lcLQ (K := K) (a := L) (xs := [.ref f1, .ref f2]) (bs := [(f1, l1), (f2, l2)]) (fun z _ H => F z H) (fun _ => true) (fun z _ H1 H2 h s => kp z H1 H2 h fun a o e _ _ => s a o e) (fun z _ H' D ys zs h hD eD => kp z _ _ h fun a o e n _ => ?_) (fun R k => ⟨_, hj, k⟩) (SqL.of hL) (by decide : 2 ≤ 100000) rfl hw (fun _ _ _ _ _ _ _ _ k => k _ (Same.refl _)) (fun n x b H' R hx hb _ s k => ?_) (fun D H' zs hD s eD hzs => ?_)
  · rw [upd_ne fun z => by rw [z, eD] at e; exact n ys (Option.some.inj e).symm]
    exact e
  · have all : ∀ f l, l ∈ fam → LamIs q cells l f H → (∀ H' Q', Same H H' → (∀ p z u H'', Same H' H'' → SqT K H'' p [z, u] → F z H'' → Q' (.ref p) H'') → TTget K CW (fun E G' R' => l.t E σ G' R') H' Q') → x = .ref f →
        tOp (rIxT K) (tTell (TTget K CW) q cells fam i σ) (tC (.int 0)) ((wipe σ [i]).set i (some x)) H' R := fun f l hm hl ht e => by
      subst e
      obtain ⟨cc, e1, e2⟩ := hl.ext (Same.extN s)
      refine w_op ⟨f, cc, l, hi _, hm, ⟨e1, e2⟩, ?_⟩
      refine ht H' _ s fun p z u H'' s' hp hF => w_C ?_
      exact w_ixT hp (v := z) rfl (k z H'' s' hF)
    match n, hx, hb with
    | 0, hx, hb => exact all f1 l1 m1 i1 t1 (Option.some.inj hx).symm
    | 1, hx, hb => exact all f2 l2 m2 i2 t2 (Option.some.inj hx).symm
    | n + 2, hx, hb => cases hx
  · cases hzs with
    | cons h1 r =>
      cases r with
      | cons h2 r =>
        cases r with
        | nil => exact go D H' _ _ hD s eD h1 h2
end
theorem bun_kp {K : PySem.W.Frag} {q : Addr} {H H' : Hp} {m : List V} (h : KP q H H') (hq : H q = some (.lst m)) {x : V} {b : Bun} (e : BunAt K H x b) : BunAt K H' x b := by
  obtain ⟨a, x, y, rfl, e, h1, h2⟩ := e
  exact ⟨a, x, y, rfl, sqT_kp h hq e, lot_kp h hq h1, lot_kp h hq h2⟩
theorem rules_kp {K : PySem.W.Frag} {C q : Addr} {H H' : Hp} {m : List V} {p : Addr} {ds : List Str} {bs : List Bun} (k : KP q H H') (hq : H q = some (.lst m)) (h : RulesAt K C H p ds bs) : RulesAt K C H' p ds bs := by
  obtain ⟨dx, x, y, z, r, es, h1, h2, ⟨a, xs, e3, h3, h3'⟩, ⟨b, e4, h4⟩, h5, ⟨c, zs, e6, h6, h6'⟩⟩ := h
  exact ⟨dx, x, y, z, r, es, k _ _ h1 (fun z => by rw [z, hq] at h1; cases h1) (fun _ e => nomatch e), lot_kp k hq h2, ⟨a, xs, e3, sqT_kp k hq h3, Paired.mapP h3' fun v b h => bun_kp k hq h⟩, ⟨b, e4, sqT_kp k hq h4⟩, h5, ⟨c, zs, e6, sqT_kp k hq h6, Paired.mapP h6' fun _ _ h => lot_kp k hq h⟩⟩
theorem LamIs.hs {q : Str} {cells : List (Str × Addr)} {l : Lam} {f L : Addr} {H H' : Hp} {xs : List V} (h : LamIs q cells l f H) (s : HS L H H') (e : H L = some (.lst xs)) : LamIs q cells l f H' := by
  obtain ⟨cc, h1, h2⟩ := h
  refine ⟨cc, s _ _ (fun z => ?_) h1, s _ _ (fun z => ?_) h2⟩
  · rw [z, e] at h1
    exact (lamO_not (o := .lst xs) fun φ z => nomatch z) (Option.some.inj h1).symm
  · rw [z, e] at h2
    have := Option.some.inj h2
    unfold CodeO at this
    cases this
def spRight (Tb : Addr) : Sp := fun vs H Q _ => ∃ (q : Addr) (n : Nat), vs = [.ref q] ∧ PotAt H q n ∧ n ≤ 500000 ∧ Tabs (TabL Tb) H ∧
  ∀ H', KP q H H' → Tabs (TabL Tb) H' → PotAt H' q (n + 5000) → Q (.bl true) H'

open PySem PySem.Spec PyProof.Rows L2 LamX

theorem table_ends {K : PySem.W.Frag} {H : Hp} {D : Addr} {ds : List Str} {bs : List Bun} (h : TableAt K H D ds bs) (hn : ds.Nodup) : ∃ es, EndsOf ds.length (stepsOf ds bs) es := by
  obtain ⟨kvs, _, h2⟩ := h
  have ex : ∀ m, m < 2 ^ ds.length → ∃ e, IsEnd (stepsOf ds bs) m e ∧ e < 2 ^ ds.length := fun m hm => by
    obtain ⟨v, e, _, g2, g3, _⟩ := entry_get h2 (lotOf ds m) (lots_in hn (lotOf_sublist ds m))
    rw [mask_lot hn hm] at g2
    exact ⟨e, g2, g3⟩
  refine ⟨(List.range (2 ^ ds.length)).map fun m => if hm : m < 2 ^ ds.length then (ex m hm).choose else 0, by rw [List.length_map, List.length_range], fun i e he => ?_⟩
  rw [List.getElem?_map] at he
  obtain ⟨m, hm, rfl⟩ := Option.map_eq_some_iff.mp he
  have hlt := (List.getElem?_eq_some_iff.mp hm).1
  rw [List.length_range] at hlt
  rw [List.getElem?_range hlt] at hm
  obtain rfl := Option.some.inj hm
  rw [dif_pos hlt]
  exact (ex i hlt).choose_spec
theorem same_make {H : Hp} {C x dx : Addr} (nx : H x = none) (ndx : H dx = none) : Same H (upd (upd H dx (.own x)) x (.ins C dx [])) := fun b o e => by
  rw [upd_ne (ne_of_none e nx), upd_ne (ne_of_none e ndx)]
  exact e
/-- rows laid as a list of their own -/
def RowsL (K : PySem.W.Frag) (ds : List Str) (q : Addr) (H : Hp) (v : V) (bs : List Bun) : Prop := ∃ p xs, v = .ref p ∧ p ≠ q ∧ H p = some (.lst xs) ∧ Paired (BunAt K H) xs bs ∧ RowsOf ds bs ∧ bs.length ≤ 64
theorem paired_take {α β : Type} {R : α → β → Prop} : ∀ {xs : List α} {ys : List β} (n : Nat), Paired R xs ys → Paired R (xs.take n) (ys.take n)
  | _, _, 0, _ => by rw [List.take_zero, List.take_zero]; exact .nil
  | _, _, _ + 1, .nil => .nil
  | _, _, n + 1, .cons h t => .cons h (paired_take n t)
theorem paired_drop {α β : Type} {R : α → β → Prop} : ∀ {xs : List α} {ys : List β} (n : Nat), Paired R xs ys → Paired R (xs.drop n) (ys.drop n)
  | _, _, 0, h => h
  | _, _, _ + 1, .nil => .nil
  | _, _, n + 1, .cons _ t => paired_drop n t
theorem rows_cut {K : PySem.W.Frag} {ds : List Str} {q : Addr} {H : Hp} {v : V} {bs : List Bun} {m : List V} {lo hi : Option Int} {Q : VK} (hq : H q = some (.lst m)) (h : RowsL K ds q H v bs) (k : ∀ p H' bs', Same H H' → RowsL K ds q H' (.ref p) bs' → Q (.ref p) H') : rSlL K v lo hi H Q := by
  obtain ⟨p, xs, rfl, n, h1, h2, h3, h4⟩ := h
  refine ⟨p, xs, rfl, SqL.of h1, fun l hl => ?_⟩
  obtain ⟨a, b, e⟩ : ∃ a b, cutV xs lo hi = (xs.drop a).take b := ⟨_, _, rfl⟩
  rw [e]
  have s : Same H (upd H l (.lst ((xs.drop a).take b))) := same_upd (Same.refl _) hl
  refine k l _ ((bs.drop a).take b) s ⟨l, _, rfl, Ne.symm (ne_of_none hq hl), upd_same, ?_, fun z hz => h3 z (List.mem_of_mem_drop (List.mem_of_mem_take hz)), ?_⟩
  · exact Paired.mapP (paired_take b (paired_drop a h2)) fun _ _ h => h.same s
  · rw [List.length_take, List.length_drop]
    omega
theorem bun_hs {K : PySem.W.Frag} {q : Addr} {H H' : Hp} {m : List V} (h : HS q H H') (hq : H q = some (.lst m)) {x : V} {b : Bun} (e : BunAt K H x b) : BunAt K H' x b := bun_kp h.kp hq e
theorem RowsL.hs {K : PySem.W.Frag} {ds : List Str} {q : Addr} {H H' : Hp} {v : V} {bs : List Bun} {m : List V} (h : RowsL K ds q H v bs) (s : HS q H H') (hq : H q = some (.lst m)) : RowsL K ds q H' v bs := by
  obtain ⟨p, xs, e, n, h1, h2, r⟩ := h
  exact ⟨p, xs, e, n, s _ _ n h1, Paired.mapP h2 fun _ _ h => bun_hs s hq h, r⟩
theorem fitA_le {n m k l : Nat} {es : List PyData} (h : Two.FitA n k es) (h1 : n ≤ m) (h2 : k ≤ l) : Two.FitA m l es := ⟨h.1, Nat.le_trans h.2.1 h1, Nat.le_trans h.2.2 h2⟩
theorem gst_hs {K : PySem.W.Frag} {q L : Addr} {F : List (V × PyData)} {H0 H H' : Hp} {m m' j : Nat} (Z : Two.GSt K q L F [] H0 H m j) (s : HS q H H') (p : PotAt H' q m') : Two.GSt K q L F [] H0 H' m' j := by
  obtain ⟨_, _, _, eq, _⟩ := Z.pot
  exact ⟨Z.hs.trans s, p, Z.fnd.hs Z.lq Z.pot s, fun x hx => (Z.frs x hx).fr (s.ls eq), (fun x hx => nomatch hx), Z.lq, Z.l0⟩
theorem fnd_app {K : PySem.W.Frag} {q L : Addr} {H : Hp} {Q : VK} {m n : Nat} {v : V} (f : Two.Fnd K q L H m) (pot : PotAt H q n) (hv : Two.Any K (Two.g2 q L) H v) (hm : m + 1 ≤ 1000)
    (k : ∀ H', HS L H H' → Two.Fnd K q L H' (m + 1) → Q .non H') : rAppend (.ref L) [v] H Q := by
  obtain ⟨vs, e, hl, a⟩ := f
  refine ⟨L, vs, v, rfl, rfl, e, by rw [sizeLine_eq]; omega, ?_⟩
  have hs : HS L H (upd H L (.lst (vs ++ [v]))) := (HS.refl _ _).updq
  have lg : Two.LG (Two.g2 q L) H := Two.lg_or (Two.pot_lg pot) (Two.lg_of e)
  refine k _ hs ⟨vs ++ [v], upd_same, by rw [List.length_append]; exact Nat.add_le_add_right hl 1, fun u hu => ?_⟩
  rcases List.mem_append.mp hu with h | h
  · exact (a u h).cg (.of hs Two.g2_r) lg
  · rw [List.mem_singleton.mp h]
    exact hv.cg (.of hs Two.g2_r) lg
theorem cut_last {ds : List Str} (h : 1 ≤ ds.length) : cutD (ds.map PyData.str) none (some (-1)) = (ds.take (ds.length - 1)).map PyData.str := by
  unfold cutD
  have h0 : HT.sIx (ds.map PyData.str).length 0 none = 0 := rfl
  have h1 : HT.sIx (ds.map PyData.str).length (ds.map PyData.str).length (some (-1)) = ds.length - 1 := by
    unfold HT.sIx
    rw [List.length_map]
    simp
    omega
  rw [h0, h1, List.drop_zero, Nat.sub_zero, List.map_take]
theorem far_devs {ds : List Str} (hd : Devs ds) (hin : ∀ d ∈ ds, d ∈ pool0) : Devs (ds.take (ds.length - 1) ++ [("far" : Str)]) ∧ ds ≠ ds.take (ds.length - 1) ++ [("far" : Str)] := by
  have far0 : ("far" : Str) ∉ pool0 := by decide +kernel
  have farP : ("far" : Str) ∈ pool17 := List.mem_append_right _ (List.mem_singleton.mpr rfl)
  obtain ⟨h1, h2, h3, h4⟩ := hd
  refine ⟨⟨by rw [List.length_append]; exact Nat.le_add_left _ _, by rw [List.length_append, List.length_take]; show _ + 1 ≤ 6; omega, ?_, fun d hd => ?_⟩, fun e => ?_⟩
  · refine List.nodup_append.mpr ⟨h3.sublist (List.take_sublist _ _), (by simp), fun a ha b hb => ?_⟩
    rw [List.mem_singleton.mp hb]
    rintro rfl
    exact far0 (hin _ (List.mem_of_mem_take ha))
  · rcases List.mem_append.mp hd with h | h
    · exact h4 d (List.mem_of_mem_take h)
    · rw [List.mem_singleton.mp h]; exact farP
  · exact far0 (hin _ (by rw [e]; exact List.mem_append_right _ (List.mem_singleton.mpr rfl)))
/-- what differ tells, as data -/
structure Told (ds : List Str) (f g : Nat → Nat) (es : List PyData) : Prop where
  is : DiffP ds f g (.tuple es)
  fit : Two.FitA 1000 1 es
  inA : inA es = true
  tA : tA es = true
  few : es.length ≤ 3
theorem differ_dat {K : PySem.W.Frag} {C p q : Addr} {H : Hp} {ds : List Str} {f g : Nat → Nat} {bs bs' : List Bun} {Q : VK} {E : XK} (hp : RulesF K C H p ds f bs) (hq : RulesF K C H q ds g bs') (hd : Devs ds)
    (k : ∀ H' T es, Same H H' → Two.Fr K H' (.ref T) (.tuple es) → Told ds f g es → Q (.ref T) H') : spDiffer K C [.ref p, .ref q] H Q E := by
  refine ⟨p, q, ds, f, g, bs, bs', rfl, hp, hq, hd, fun h H' T s hT => ?_, fun H' T y l z s hT hy hl hz => ?_⟩
  · exact k H' T [.str "alike"] s (.tup hT (.cons (.str _) .nil)) ⟨.inl ⟨rfl, h⟩, fitA_le (Two.fitA_cons (Two.fit_s (k := 0) (by decide +kernel)) Two.fitA_nil) (by decide) (by decide), by decide +kernel, by decide +kernel, by decide⟩
  · obtain ⟨a, rfl, ha⟩ := hy
    have sh : Short l := .of hl hd
    have zp : z ∈ pool17 := hd.2.2.2 z (List.mem_filter.mp hz).1
    have zf : Two.Fit 100 0 (.str z) := ⟨(pool_N z zp).1, (pool_N z zp).2, Nat.zero_le _⟩
    obtain ⟨o1, o2, o3, o4, o5⟩ := Two.lot_bent sh
    refine k H' T [.str "apart", lotD l, .str z] s (.tup hT (.cons (.str _) (.cons (.tup ha (Two.fr_lot l)) (.cons (.str _) .nil)))) ⟨.inr ⟨l, z, rfl, hl, hz⟩, fitA_le (Two.fitA_cons (Two.fit_s (by decide +kernel)) (Two.fitA_cons (n := 700) (k := 1) ⟨o1, o5, o4⟩ (Two.fitA_cons (zf.le (Nat.le_refl _) (by decide)) Two.fitA_nil))) (by decide) (Nat.le_refl _), ?_, ?_, Nat.le_refl 3⟩
    · show (true && (inB (lotD l) && (true && true))) = true
      rw [o2]
      rfl
    · show (true && (tB (lotD l) && (true && true))) = true
      rw [o3]
      rfl
section
variable {P : Program} {w : World} {K : PySem.W.Frag} {mg : Str → Option Value} {base : Heap} {C : Addr}
theorem ok_right {g c Tb fI CO CW : Addr} {fdI : FuncData} {cdt oc dV kV doc pm ct : Value} {an od : Option Addr} {osl : Array (Option Value)} (F : FunAt K mg "_law_right" s_law_right) (T : Txt mg) (R : RCls K C) (RE : REqC K C) (G : ErrF K mg fI fdI CO CW) (W : ToldAt K mg g cdt oc dV kV doc pm ct an od osl) (TB : TabB base mg c Tb)
    (hcode : ∀ f fd, mg "_law_right" = some (.ref f) → Here K f fd → fd.code = .ref c) {a0 : Addr} (hC : mg "Rules" = some (.ref C)) (DC : DefC P w K mg base 4 C "Rules" PRules_init [.ref a0] (spRInit K C)) (hA0 : ∀ H, SqT K H a0 [])
    (Dm_eq : DefM P w K mg base 1 C "__eq__" PRules_eq (spREqD K C))
    (Ddiffer : Def P w K mg base 5 "differ" Pdiffer (spDiffer K C)) (Dshows_differ : Def P w K mg base 5 "shows_differ" Pshows_differ (spShowsDifferD K C))
    (DdifferX : DefX P w K mg base 6 "differ" Pdiffer (spDifferX K C CO)) (Dshows_differX : DefX P w K mg base 6 "shows_differ" Pshows_differ (spShowsDifferX K C CO))
    (D_law_of : Def P w K mg base 2 "_law_of" P_law_of (spOf K)) (D_law_odd : Def P w K mg base 3 "_law_odd" P_law_odd (Two.spOdd K)) (D_law_lot : Def P w K mg base 3 "_law_lot" P_law_lot (spLot K)) (D_law_bent : Def P w K mg base 6 "_law_bent" P_law_bent (Two.spBent K 3))
    (D_law_devices : Def P w K mg base 4 "_law_devices" P_law_devices (spDevices K)) (D_law_rows : Def P w K mg base 4 "_law_rows" P_law_rows (spRows K)) (D_law_table : Def P w K mg base 3 "_law_table" P_law_table (spTable K)) (D_law_bundles : Def P w K mg base 4 "_law_bundles" P_law_bundles (spLBundles K))
    (D_law_is_difference : Def P w K mg base 3 "_law_is_difference" P_law_is_difference (spIsDiff K)) :
    DefG P w K mg base 12 "_law_right" P_law_right (spRight Tb) := by
  refine defGC_of F hcode sc_law_right bs_law_right (fun vs H Q E h => ?_) fun f A outer s H vs Q E hgd hr h => ?_
  · obtain ⟨q, n, rfl, _⟩ := h
    rfl
  · refine ⟨_, (pss_cons (ps_set (i := 1) sc_law_right.nd rfl (by first | exact Or.inl rfl | exact Or.inr rfl) (pe_d D_law_devices (hr.mono (by omega)) (pa_cons (pv 0) (pa_cons (pe_d D_law_of (hr.mono (by omega)) (pa_cons (pv 0) (pa_cons (pe_lstN (pa_cons pe_int (pa_cons pe_int (pa_cons pe_int pa_nil)))) pa_nil))) pa_nil))))
  (pss_cons (ps_par (i := 2) (j := 3) (by rfl) sc_law_right.nd rfl rfl (by decide) rfl rfl (pa_cons (pe_d D_law_rows (hr.mono (by omega)) (pa_cons (pv 0) (pa_cons (pv 1) (pa_cons pe_int pa_nil)))) (pa_cons (pe_d D_law_rows (hr.mono (by omega)) (pa_cons (pv 0) (pa_cons (pv 1) (pa_cons pe_int pa_nil)))) pa_nil)) (by rfl))
  (pss_cons (ps_set (i := 4) sc_law_right.nd rfl (by first | exact Or.inl rfl | exact Or.inr rfl) (pe_d D_law_table (hr.mono (by omega)) (pa_cons (pv 1) (pa_cons (pv 2) pa_nil))))
  (pss_cons (ps_set (i := 5) sc_law_right.nd rfl (by first | exact Or.inl rfl | exact Or.inr rfl) (pe_callTy call_listN (by rfl) T.n_list (by decide +kernel) (pa_cons (pe_d D_law_bundles (hr.mono (by omega)) (pa_cons (pv 4) pa_nil)) pa_nil)))
  (pss_cons (ps_set (i := 3) sc_law_right.nd rfl (by first | exact Or.inl rfl | exact Or.inr rfl) (pe_d D_law_of (hr.mono (by omega)) (pa_cons (pv 0) (pa_cons (pe_lstN (pa_cons (pv 3) (pa_cons (pv 5) (pa_cons (pe_slice sl_list (pv 5) (po_some pe_int) po_none) (pa_cons (pe_slice sl_list (pv 2) po_none (po_some (pe_un un_neg pe_int))) pa_nil))))) pa_nil))))
  (pss_cons (ps_set (i := 6) sc_law_right.nd rfl (by first | exact Or.inl rfl | exact Or.inr rfl) (pe_d D_law_table (hr.mono (by omega)) (pa_cons (pv 1) (pa_cons (pv 3) pa_nil))))
  (pss_cons (ps_asg (pe_tup (pa_cons (pe_dc DC (hr.mono (by omega)) (pa_cons (pv 1) (pa_cons (pe_callTy call_tuple_of (by rfl) T.n_tuple (by decide +kernel) (pa_cons (pv 2) pa_nil)) pa_nil))) (pa_cons (pe_dc DC (hr.mono (by omega)) (pa_cons (pv 1) (pa_cons (pe_callTy call_tuple_of (by rfl) T.n_tuple (by decide +kernel) (pa_cons (pv 3) pa_nil)) pa_nil))) pa_nil))) (pg_tup (by rfl) (pgs_cons (pg_name (i := 7) sc_law_right.nd rfl (by first | exact Or.inl rfl | exact Or.inr rfl)) (pgs_cons (pg_name (i := 8) sc_law_right.nd rfl (by first | exact Or.inl rfl | exact Or.inr rfl)) pgs_nil))))
  (pss_cons (ps_asg (pe_tup (pa_cons (pe_d Ddiffer (hr.mono (by omega)) (pa_cons (pv 7) (pa_cons (pv 8) pa_nil))) (pa_cons (pe_d Ddiffer (hr.mono (by omega)) (pa_cons (pv 7) (pa_cons (pe_dcD DC (hr.mono (by omega)) (pa_cons (pv 1) pa_nil)) pa_nil))) pa_nil))) (pg_tup (by rfl) (pgs_cons (pg_name (i := 9) sc_law_right.nd rfl (by first | exact Or.inl rfl | exact Or.inr rfl)) (pgs_cons (pg_name (i := 10) sc_law_right.nd rfl (by first | exact Or.inl rfl | exact Or.inr rfl)) pgs_nil))))
  (pss_cons (ps_set (i := 11) sc_law_right.nd rfl (by first | exact Or.inl rfl | exact Or.inr rfl) (pe_lstN (pa_cons (pv 9) (pa_cons (pv 10) (pa_cons (pe_callTy call_listN (by rfl) T.n_list (by decide +kernel) (pa_cons (pv 9) pa_nil)) (pa_cons (pe_backT (pv 9)) (pa_cons (pe_slice sl_tupA (pv 9) po_none (po_some pe_int)) (pa_cons (pe_op op_catA (pv 9) (pe_tup (pa_cons pe_int pa_nil))) (pa_cons (pe_tup (pa_cons pe_str pa_nil)) (pa_cons (pe_tup (pa_cons pe_str pa_nil)) (pa_cons (pe_tup (pa_cons pe_str pa_nil)) (pa_cons (pe_tup pa_nil) (pa_cons pe_non pa_nil)))))))))))))
  (pss_cons (ps_for PassesOwn.never rfl (pi_range1 (by rfl) T.n_range (pa_cons pe_int pa_nil)) (pg_name (i := 12) sc_law_right.nd rfl (by first | exact Or.inl rfl | exact Or.inr rfl)) (pss_one (ps_expr (pe_bm PySem.F.plainAttrs_list PySem.F.slot_list_append PySem.F.type_list_append mt_append (pv 11) (pa_cons (pe_tup (pa_cons pe_str (pa_cons (pe_d D_law_lot (hr.mono (by omega)) (pa_cons (pv 0) (pa_cons (pv 1) pa_nil))) (pa_cons (pe_d D_law_of (hr.mono (by omega)) (pa_cons (pv 0) (pa_cons (pv 1) pa_nil))) pa_nil)))) pa_nil)))))
  (pss_cons (ps_expr (pe_bm PySem.F.plainAttrs_list PySem.F.slot_list_extend PySem.F.type_list_extend mt_extend (pv 11) (pa_cons (pe_lc (own := [("_law_lap", 12)]) (g := (gName 12)) (tt := tYes) rfl sc_law_right.nd (pi_range1 (by rfl) T.n_range (pa_cons pe_int pa_nil)) (blkOk_by (N := N_law_right) (sc := defScope s_law_right) (by decide +kernel)) (fun _ _ _ _ _ => (pg_name (i := 12) sc_law_right.nd rfl (by first | exact Or.inl rfl | exact Or.inr rfl))) (fun _ _ _ _ _ => pts_nil) (fun _ _ _ _ _ => (pe_d D_law_bent (hr.mono (by omega)) (pa_cons (pv 0) (pa_cons (pv 9) pa_nil))))) pa_nil)))
  (pss_cons (ps_if (pt_not (pt_val (pe_d D_law_is_difference (hr.mono (by omega)) (pa_cons (pv 1) (pa_cons (pv 4) (pa_cons (pv 6) (pa_cons (pv 9) pa_nil))))))) (pss_one (ps_ret pe_bl)) pss_nil)
  (pss_cons (ps_for PassesOwn.never rfl (pi_list (pe_op op_cat (pv 11) (pe_lstN (pa_cons (pe_d D_law_odd (hr.mono (by omega)) (pa_cons (pv 0) pa_nil)) pa_nil)))) (pg_name (i := 13) sc_law_right.nd rfl (by first | exact Or.inl rfl | exact Or.inr rfl)) (pss_one (ps_if (pt_cmpR op_ne (pe_callB (call_repr hgd hr.units) (by rfl) T.n_repr (by decide +kernel) (pa_cons (pe_d Dshows_differ (hr.mono (by omega)) (pa_cons (pv 7) (pa_cons (pv 8) (pa_cons (pv 13) pa_nil)))) pa_nil)) (pe_callB (call_repr hgd hr.units) (by rfl) T.n_repr (by decide +kernel) (pa_cons (pe_d D_law_is_difference (hr.mono (by omega)) (pa_cons (pv 1) (pa_cons (pv 4) (pa_cons (pv 6) (pa_cons (pv 13) pa_nil))))) pa_nil)) (nomark _)) (pss_one (ps_ret pe_bl)) pss_nil)))
  (pss_cons (ps_set (i := 14) sc_law_right.nd rfl (by first | exact Or.inl rfl | exact Or.inr rfl) (pe_dcD DC (hr.mono (by omega)) (pa_cons (pe_op op_catA (pe_slice sl_tupA (pv 1) po_none (po_some (pe_un un_neg pe_int))) (pe_tup (pa_cons pe_str pa_nil))) pa_nil)))
  (pss_cons (ps_set (i := 15) sc_law_right.nd rfl (by first | exact Or.inl rfl | exact Or.inr rfl) (pe_lstN (pa_cons (pe_lamV (T := TabL Tb) TB (by rfl) (List.mem_singleton.mpr rfl) (fun p hp _ => by rw [List.mem_singleton.mp hp]; rfl) (LamX.lamS_by (sc := defScope s_law_right) (by decide +kernel)) (by rfl)) pa_nil)))
  (pss_cons (ps_expr (pe_bm PySem.F.plainAttrs_list PySem.F.slot_list_append PySem.F.type_list_append mt_append (pv 15) (pa_cons (pe_lamV (T := TabL Tb) TB (by rfl) (List.mem_singleton.mpr rfl) (fun p hp _ => by rw [List.mem_singleton.mp hp]; rfl) (LamX.lamS_by (sc := defScope s_law_right) (by decide +kernel)) (by rfl)) pa_nil)))
  (pss_cons (ps_setLcW (i := 16) (own := [("_law_look", 17)]) (g := gName 17) rfl sc_law_right.nd rfl rfl (sw_true rfl rfl rfl (by decide +kernel)) (pi_list (pv 15)) (blkOk_by (N := N_law_right) (sc := defScope s_law_right) (by decide +kernel)) (fun _ _ _ _ _ => (pg_name (i := 17) sc_law_right.nd rfl (by first | exact Or.inl rfl | exact Or.inr rfl))) (fun s0 H0 C0 cl0 fp0 pins0 σ0 bk => (pe_ix (ix_tupK (K := K) rfl) (pe_tell (TT := TTget K CW) (k := 8) (fam := (famA K C CO)) bk (by rfl) W.hm W.kp W.lk W.cd W.hb sc_law_told rfl (Or.inl rfl) (told_givesF G.gW) (hr.mono (by omega)) (each2 ⟨ls14, (fun _ _ _ _ _ => by rfl), (fun E A outer s H f cc r => pe_dX (E := E) DdifferX (r.mono (by omega)) (pa_cons (pv 7) (pa_cons (pv 14) pa_nil)) (passes_call (takes_of rfl rfl rfl rfl) fun _ _ _ _ h => h))⟩ ⟨ls15, (fun _ _ _ _ _ => by rfl), (fun E A outer s H f cc r => pe_dX (E := E) Dshows_differX (r.mono (by omega)) (pa_cons (pv 7) (pa_cons (pv 14) (pa_cons (pv 9) pa_nil))) (passes_call (takes_of rfl rfl rfl rfl) fun _ _ _ _ h => h))⟩) (pa_cons (pv 17) pa_nil)) pe_int (fun _ _ => rfl))))
  (pss_one (ps_ret (pe_callB (cr_all rfl) (by rfl) T.n_all (by decide +kernel) (pa_cons (pe_lc (own := [("_law_error", 18)]) (g := (gName 18)) (tt := tYes) rfl sc_law_right.nd (pi_list (pv 16)) (blkOk_by (N := N_law_right) (sc := defScope s_law_right) (by decide +kernel)) (fun _ _ _ _ _ => (pg_name (i := 18) sc_law_right.nd rfl (by first | exact Or.inl rfl | exact Or.inr rfl))) (fun _ _ _ _ _ => pts_nil) (fun _ _ _ _ _ => (pe_and (pe_callB (call_isXK (K := K) rfl) (by rfl) T.n_isinstance (by decide +kernel) (pa_cons (pv 18) (pa_cons (pe_glob (v := .ref CO) (by rfl) G.gO rfl) pa_nil))) (pe_one (pe_cmpR (op_eqM Dm_eq (hr.mono (by omega))) (pe_valueXK (K := K) rfl (pv 18)) (pv 14) (nomark _)))))) pa_nil))))))))))))))))))))), ?_⟩
    obtain ⟨q, n, rfl, hp, hn, tabs, go⟩ := h
    obtain ⟨own, b, k, eq, _⟩ := id hp
    refine w_seq ?_
    refine w_asg ?_
    refine w_call (w_cons (w_var rfl (w_cons (w_call (w_cons (w_var rfl (w_cons (w_lstN ?_))))))))
    refine w_cons (w_C (w_cons (w_C (w_cons (w_C (w_nil ⟨by show 3 ≤ sizeLine; rw [sizeLine_eq]; decide, fun p0 hp0n _ => ?_⟩))))))
    have s0 : Same H (upd H p0 (.lst [.int 3, .int 4, .int 6])) := same_upd (Same.refl _) hp0n
    refine w_nil ?_
    refine ⟨q, p0, [.int 3, .int 4, .int 6], n, rfl, .inl ⟨SqL.of upd_same, Ne.symm (ne_of_none eq hp0n)⟩, by simp, by decide, hp.same s0, by omega, fun H01 v hv hS01 hp01 => ?_⟩
    obtain ⟨i, rfl, hi1, hi6⟩ : ∃ i : Int, v = .int i ∧ 1 ≤ i ∧ i ≤ 6 := by
      simp only [List.mem_cons, List.not_mem_nil, or_false] at hv
      rcases hv with rfl | rfl | rfl
      · exact ⟨3, rfl, by decide, by decide⟩
      · exact ⟨4, rfl, by decide, by decide⟩
      · exact ⟨6, rfl, by decide, by decide⟩
    refine w_nil ?_
    refine ⟨q, i, n + 1, rfl, hi1, hi6, hp01, by omega, fun H1 y ds hS01' hy hd hin hp1 => ?_⟩
    have hS1 : HS q H H1 := ((HS.same s0).trans hS01).trans hS01'
    clear hv s0 hp01 hS01 hS01' hp0n hp
    obtain ⟨own1, b1, k1, eq1, _⟩ := id hp1
    obtain ⟨hd1, hd2, hd3, hd4⟩ := id hd
    refine w_gname ?_
    dsimp only
    -- rows, others
    refine w_seq ?_
    refine w_par ?_
    refine w_cons ?_
    refine w_call (w_cons (w_var rfl (w_cons (w_var rfl (w_cons (w_C (w_nil ?_)))))))
    refine ⟨q, y, ds, 5, n + 1 + 7, rfl, by decide, hy, hd, hp1, by omega, fun H2 r1 xs1 bs1 hS2 hrq1 _ hx1 hb1 hrow1 hl1 hp2 => ?_⟩
    obtain ⟨own2, b2, k2, eq2, _⟩ := id hp2
    have hy2 := lotAt_hs hy hS2 eq1
    refine w_cons ?_
    refine w_call (w_cons (w_var rfl (w_cons (w_var rfl (w_cons (w_C (w_nil ?_)))))))
    refine ⟨q, y, ds, 5, n + 200, rfl, by decide, hy2, hd, hp2.mono (by omega), by omega, fun H3 r2 xs2 bs2 hS3 hrq2 _ hx2 hb2 hrow2 hl2 hp3 => ?_⟩
    obtain ⟨own3, b3, k3, eq3, _⟩ := id hp3
    have hy3 := lotAt_hs hy2 hS3 eq2
    have R1 : RowsL K ds q H3 (.ref r1) bs1 := RowsL.hs ⟨r1, xs1, rfl, hrq1, hx1, hb1, hrow1, by omega⟩ hS3 eq2
    have R2 : RowsL K ds q H3 (.ref r2) bs2 := ⟨r2, xs2, rfl, hrq2, hx2, hb2, hrow2, by omega⟩
    have hS : HS q H H3 := (hS1.trans hS2).trans hS3
    clear hx1 hb1 hx2 hb2 hy hy2 hS1 hS2 hS3 hp1 hp2 eq1 eq2 hl1 hl2 hrow1 hrow2
    refine w_nil ?_
    refine ⟨_, _, rfl, ?_⟩
    dsimp only
    -- mine
    refine w_seq ?_
    refine w_asg ?_
    refine w_call (w_cons (w_var rfl (w_cons (w_var rfl (w_nil ?_)))))
    obtain ⟨_, ys1, e1, _, g1, h1, row1, len1⟩ := id R1
    obtain rfl := V.ref.inj e1
    refine ⟨y, r1, ds, bs1, rfl, hy3, ⟨ys1, SqL.of g1, h1⟩, hd, row1, by omega, fun H4 D1 hD1 s4 tab1 => ?_⟩
    obtain ⟨es1, he1⟩ := table_ends tab1 hd3
    refine w_gname ?_
    dsimp only
    -- like
    refine w_seq ?_
    refine w_asg ?_
    refine w_cb ?_
    refine w_cons ?_
    refine w_call (w_cons (w_var rfl (w_nil ?_)))
    refine ⟨D1, ds, bs1, es1, rfl, hd, tab1, he1, fun H5 v5 s5 hv5 => ?_⟩
    obtain ⟨bt, xs5, rfl, hbt, hb5⟩ := hv5
    refine w_nil ?_
    refine ⟨bt, xs5, rfl, .inr hbt, fun l5 hl5 _ => ?_⟩
    have s5' : Same H5 (upd H5 l5 (.lst xs5)) := same_upd (Same.refl _) hl5
    have e5 : (upd H5 l5 (.lst xs5)) l5 = some (.lst xs5) := upd_same
    generalize upd H5 l5 (.lst xs5) = H6 at s5' e5 ⊢
    have s36 := (s4.trans s5).trans s5'
    have eq6 := s36 _ _ eq3
    have q5 : l5 ≠ q := Ne.symm (ne_of_none (s5 _ _ (s4 _ _ eq3)) hl5)
    have cl1 := ends_cl he1
    have RL : RowsL K ds q H6 (.ref l5) (tabB ds (eF es1)) := ⟨l5, xs5, rfl, q5, e5, Paired.mapP hb5 fun _ _ h => h.same s5', tabB_rows hd3 cl1, Nat.le_trans tabB_len (Nat.le_trans (Nat.pow_le_pow_right (by decide) hd2) (by decide))⟩
    have R16 := R1.hs (HS.same s36) eq3
    have R26 := R2.hs (HS.same s36) eq3
    have hy6 := hy3.same s36
    have hp6 := hp3.same s36
    have tab6 := (tab1.same s5).same s5'
    have hS6 : HS q H H6 := hS.trans (HS.same s36)
    clear R1 R2 hy3 hp3 tab1 hS s4 s5 s5' s36 hbt hb5 hl5 hD1 h1 g1 row1 len1 eq3 e5
    refine w_gname ?_
    dsimp only
    refine w_seq ?_
    refine w_asg ?_
    refine w_call (w_cons (w_var rfl (w_cons (w_lstN ?_))))
    refine w_cons (w_var rfl ?_)
    refine w_cons (w_var rfl ?_)
    refine w_cons ?_
    refine w_sl (w_var rfl (w_part (w_C ⟨1, rfl, w_nopart ?_⟩)))
    refine rows_cut eq6 RL fun a7 H7 bs7 s7 R7 => ?_
    refine w_cons ?_
    refine w_sl (w_var rfl (w_nopart (w_part (w_un (w_C (w_U ⟨-1, rfl, ?_⟩))))))
    refine rows_cut (s7 _ _ eq6) (R16.hs (HS.same s7) eq6) fun a8 H8 bs8 s8 R8 => ?_
    refine w_nil ⟨by show 4 ≤ sizeLine; rw [sizeLine_eq]; decide, fun p9 hp9 _ => ?_⟩
    have s68 := s7.trans s8
    have s9 : Same H8 (upd H8 p9 (.lst [.ref r2, .ref l5, .ref a7, .ref a8])) := same_upd (Same.refl _) hp9
    have e9 : (upd H8 p9 (.lst [.ref r2, .ref l5, .ref a7, .ref a8])) p9 = some (.lst [.ref r2, .ref l5, .ref a7, .ref a8]) := upd_same
    generalize upd H8 p9 (.lst [.ref r2, .ref l5, .ref a7, .ref a8]) = H9 at s9 e9 ⊢
    have eq8 := s68 _ _ eq6
    have eq9 := s9 _ _ eq8
    have s69 := s68.trans s9
    refine w_nil ?_
    refine ⟨q, p9, [.ref r2, .ref l5, .ref a7, .ref a8], n + 300, rfl, .inl ⟨SqL.of e9, Ne.symm (ne_of_none eq8 hp9)⟩, by simp, (show 4 < 2 ^ 30 by decide), (hp6.same s69).mono (by omega), by omega, fun H10 v hv hS10 hp10 => ?_⟩
    have rows9 : ∃ bs, RowsL K ds q H9 v bs := by
      simp only [List.mem_cons, List.not_mem_nil, or_false] at hv
      rcases hv with rfl | rfl | rfl | rfl
      · exact ⟨_, R26.hs (HS.same s69) eq6⟩
      · exact ⟨_, RL.hs (HS.same s69) eq6⟩
      · exact ⟨_, R7.hs (HS.same (s8.trans s9)) (s7 _ _ eq6)⟩
      · exact ⟨_, R8.hs (HS.same s9) eq8⟩
    obtain ⟨bs2', RO9⟩ := rows9
    have RO := RO9.hs hS10 eq9
    have c10 : HS q H6 H10 := (HS.same s69).trans hS10
    have R1 := R16.hs c10 eq6
    have hy10 := lotAt_hs hy6 c10 eq6
    have tab10 : TableAt K H10 D1 ds bs1 := by
      obtain ⟨kvs, g1, g2⟩ := tab6
      exact ⟨kvs, c10 _ _ (fun z => by rw [z, eq6] at g1; cases g1) g1, Paired.mapP g2 fun _ _ ⟨u, e, a1, a2, a3⟩ => ⟨u, e, a1, a2, lotAt_hs a3 c10 eq6⟩⟩
    have hS := hS6.trans c10
    obtain ⟨own10, _, _, eq10, _⟩ := id hp10
    clear hv RO9 R26 R16 RL R7 R8 e9 hp9 hp6 s7 s8 s9 s68 s69 hS10 c10 hy6 tab6 hS6 eq8 eq9 eq6 q5
    obtain ⟨ro, xsO, rfl, hroq, hxO, hbO, rowO, lenO⟩ := id RO
    refine w_gname ?_
    dsimp only
    -- its
    refine w_seq ?_
    refine w_asg ?_
    refine w_call (w_cons (w_var rfl (w_cons (w_var rfl (w_nil ?_)))))
    refine ⟨y, ro, ds, bs2', rfl, hy10, ⟨xsO, SqL.of hxO, hbO⟩, hd, rowO, by omega, fun H11 D2 hD2 s11 tab2 => ?_⟩
    refine w_gname ?_
    dsimp only
    refine w_seq ?_
    refine w_asg ?_
    refine w_tup ?_
    refine w_cons ?_
    refine w_make ?_
    refine w_cons (w_var rfl ?_)
    refine w_cons ?_
    refine w_cb (w_cons (w_var rfl (w_nil ?_)))
    have R1b := R1.hs (HS.same s11) eq10
    have ROb := RO.hs (HS.same s11) eq10
    have eq11 := s11 _ _ eq10
    obtain ⟨r1', xsM, em, hm1, hm2, hm3, hm4, hm5⟩ := id R1b
    obtain rfl := V.ref.inj em
    refine ⟨r1, xsM, rfl, .inl ⟨SqL.of hm2, fun l hl => ?_⟩⟩
    refine w_nil ?_
    intro x dx nx ndx nex
    have s12 : Same H11 (upd H11 l (.tup xsM)) := same_upd (Same.refl _) hl
    have sm := s12.trans (same_make (C := C) nx ndx)
    have hy11 := hy10.same s11
    refine ⟨x, dx, y, .ref l, ds, bs1, rfl, upd_same, hy11.same sm, ⟨l, xsM, rfl, SqT.of ((same_make (C := C) nx ndx) _ _ upd_same), Paired.mapP hm3 fun _ _ h => h.same sm⟩, hd, hm4, by omega, fun H12 k12 hR1 => ⟨rfl, ?_⟩⟩
    have s12 : Same H11 H12 := fun b o e => k12 b o (sm b o e) (ne_of_none (s12 b o e) nx)
    clear sm k12 nx ndx nex hl R1b hm2 hm3
    refine w_cons ?_
    refine w_make ?_
    refine w_cons (w_var rfl ?_)
    refine w_cons ?_
    refine w_cb (w_cons (w_var rfl (w_nil ?_)))
    have ROc := ROb.hs (HS.same s12) eq11
    have eq12 := s12 _ _ eq11
    obtain ⟨ro', xsN, en, hn1, hn2, hn3, hn4, hn5⟩ := id ROc
    obtain rfl := V.ref.inj en
    refine ⟨ro, xsN, rfl, .inl ⟨SqL.of hn2, fun l hl => ?_⟩⟩
    refine w_nil ?_
    intro z dz nz ndz nez
    have s13 : Same H12 (upd H12 l (.tup xsN)) := same_upd (Same.refl _) hl
    have sm := s13.trans (same_make (C := C) nz ndz)
    have hy12 := hy11.same s12
    refine ⟨z, dz, y, .ref l, ds, bs2', rfl, upd_same, hy12.same sm, ⟨l, xsN, rfl, SqT.of ((same_make (C := C) nz ndz) _ _ upd_same), Paired.mapP hn3 fun _ _ h => h.same sm⟩, hd, hn4, by omega, fun H13 k13 hR2 => ⟨rfl, ?_⟩⟩
    have s13 : Same H12 H13 := fun b o e => k13 b o (sm b o e) (ne_of_none (s13 b o e) nz)
    clear sm k13 nz ndz nez hl ROb ROc hn2 hn3
    refine w_nil ⟨by show 2 ≤ sizeLine; rw [sizeLine_eq]; decide, fun T0 hT0 => ?_⟩
    have s14 : Same H13 (upd H13 T0 (.tup [.ref x, .ref z])) := same_upd (Same.refl _) hT0
    have eT0 : (upd H13 T0 (.tup [.ref x, .ref z])) T0 = some (.tup [.ref x, .ref z]) := upd_same
    generalize upd H13 T0 (.tup [.ref x, .ref z]) = H14 at s14 eT0 ⊢
    refine w_gtup2 (SqT.of eT0) ?_
    dsimp only
    have c14 := (s12.trans s13).trans s14
    obtain ⟨dx1, _, _, _, _, es1', _, _, _, _, hes1, _⟩ := id hR1
    obtain ⟨dx2, _, _, _, _, es2, _, _, _, _, hes2, _⟩ := id hR2
    obtain rfl := ends_uniq he1 hes1 fun _ _ _ h => h
    have P1 := RulesF.of (hR1.same (s13.trans s14)) (by assumption) (by omega) he1
    have P2 := RulesF.of (hR2.same s14) hn4 (by omega) hes2
    have t14a : TableF K H14 D1 ds (eF es1) := TableF.of ((tab10.same s11).same c14) P1.ends
    have t14b : TableF K H14 D2 ds (eF es2) := TableF.of (tab2.same c14) P2.ends
    have hy14 := hy11.same c14
    have hp14 := (hp10.same s11).same c14
    have hS14 : HS q H H14 := (hS.trans (HS.same s11)).trans (HS.same c14)
    have eq14 := c14 _ _ eq11
    generalize eF es1 = f1 at P1 t14a cl1
    generalize eF es2 = f2 at P2 t14b
    clear hR1 hR2 hes1 hes2 he1 s11 s12 s13 s14 c14 tab10 tab2 hp10 hy10 hy11 hy12 R1 RO hbO hxO eT0 hT0 hS eq10 eq11 eq12 hD2
    -- told, far
    refine w_seq ?_
    refine w_asg ?_
    refine w_tup ?_
    refine w_cons ?_
    refine w_call (w_cons (w_var rfl (w_cons (w_var rfl (w_nil ?_)))))
    refine differ_dat P1 P2 hd fun H15 T1 es1 s15 fr1 told1 => ?_
    refine w_cons ?_
    refine w_call (w_cons (w_var rfl (w_cons ?_)))
    refine w_make (w_cons (w_var rfl (w_nil ?_)))
    intro x0 dx0 nx ndx nex
    have sm := same_make (C := C) nx ndx
    refine ⟨x0, dx0, y, .ref a0, ds, [], rfl, upd_same, (hy14.same s15).same sm, ⟨a0, [], rfl, hA0 _, .nil⟩, hd, (fun b hb => nomatch hb), Nat.zero_le _, fun H16 k16 hR0 => ⟨rfl, ?_⟩⟩
    have s16 : Same H15 H16 := fun b o e => k16 b o (sm b o e) (ne_of_none e nx)
    obtain ⟨dx0', _, _, _, _, es0, _, _, _, _, hes0, _⟩ := id hR0
    have P0 := RulesF.of hR0 (fun b hb => nomatch hb) (Nat.zero_le _) hes0
    generalize eF es0 = f0 at P0
    refine w_nil ?_
    refine differ_dat (P1.same (s15.trans s16)) P0 hd fun H17 T2 es2 s17 fr2 told2 => ?_
    refine w_nil ⟨by show 2 ≤ sizeLine; rw [sizeLine_eq]; decide, fun T3 hT3 => ?_⟩
    have s18 : Same H17 (upd H17 T3 (.tup [.ref T1, .ref T2])) := same_upd (Same.refl _) hT3
    have eT3 : (upd H17 T3 (.tup [.ref T1, .ref T2])) T3 = some (.tup [.ref T1, .ref T2]) := upd_same
    generalize upd H17 T3 (.tup [.ref T1, .ref T2]) = H18 at s18 eT3 ⊢
    refine w_gtup2 (SqT.of eT3) ?_
    dsimp only
    have c18 := ((s15.trans s16).trans s17).trans s18
    have P1 := P1.same c18
    have P2 := P2.same c18
    have t18a := t14a.same c18
    have t18b := t14b.same c18
    have hy18 := hy14.same c18
    have hp18 := hp14.same c18
    have hS18 := hS14.trans (HS.same (q := q) c18)
    have eq18 := c18 _ _ eq14
    have fr1 : Two.Fr K H18 (.ref T1) (.tuple es1) := Two.Dq.same ((s16.trans s17).trans s18) fr1
    have fr2 : Two.Fr K H18 (.ref T2) (.tuple es2) := Two.Dq.same s18 fr2
    clear hR0 P0 hes0 s15 s16 s17 s18 c18 eT3 hT3 sm k16 nx ndx nex t14a t14b hy14 hp14 hS14 eq14
    obtain ⟨ya, rfl, hya⟩ := id hy18
    have fT1 := Two.fit_tup told1.fit
    have fT2 := Two.fit_tup told2.fit
    refine w_seq ?_
    refine w_asg ?_
    refine Two.fnd_new (K := K) (q := q) (n := n + 301) (j := 11) (hp18.mono (by omega)) ?A (by decide) fun L H19 hL hLq s19 F19 => ?_
    case A =>
      have occ : ∀ x, Two.g1 q x → ∃ o, H18 x = some o := fun x hx => by
        rw [hx]
        exact ⟨_, eq18⟩
      have d1 : Two.DV K (Two.g1 q) [some (.ref q), some (.ref ya), some (.ref r1), some (.ref ro), some (.ref D1), some (.ref l5), some (.ref D2), some (.ref x), some (.ref z), some (.ref T1), some (.ref T2), none, none, none, none, none, none, none, none] H18 (tVar 9) (.tuple es1) := Two.dv_var rfl (fr1.less fun _ _ => trivial)
      have d2 : Two.DV K (Two.g1 q) [some (.ref q), some (.ref ya), some (.ref r1), some (.ref ro), some (.ref D1), some (.ref l5), some (.ref D2), some (.ref x), some (.ref z), some (.ref T1), some (.ref T2), none, none, none, none, none, none, none, none] H18 (tVar 10) (.tuple es2) := Two.dv_var rfl (fr2.less fun _ _ => trivial)
      have few := told1.few
      exact Two.dpa_cons (d1.dp (fT1.le (by decide) (by decide)))
        (Two.dpa_cons (d2.dp (fT2.le (by decide) (by decide)))
        (Two.dpa_cons ((Two.dv_list occ d1).dp ((Two.fit_lst told1.fit).le (by decide) (by decide)))
        (Two.dpa_cons ((Two.dv_back d1).dp ((Two.fit_tup (Two.fitA_rev told1.fit)).le (by decide) (by decide)))
        (Two.dpa_cons ((Two.dv_slice (lo := none) (hi := some 1) d1 (fun _ _ h => h) (fun _ _ h => ⟨1, rfl, h⟩)).dp ((Two.fit_tup (Two.fitA_cut told1.fit)).le (by decide) (by decide)))
        (Two.dpa_cons ((Two.dv_cat d1 (Two.dv_tup1 (Two.dv_int 0)) (Nat.le_trans (Nat.add_le_add_right few _) (by decide))).dp ((Two.fit_tup (Two.fitA_app told1.fit (Two.fitA_cons (n := 300) (k := 1) ⟨rfl, by decide, by decide⟩ Two.fitA_nil))).le (by decide) (by decide)))
        (Two.dpa_cons ((Two.dv_tup1 (Two.dv_str _)).dp ((Two.fit_tup (Two.fitA_cons (Two.fit_s (k := 0) (by decide +kernel)) Two.fitA_nil)).le (by decide) (by decide)))
        (Two.dpa_cons ((Two.dv_tup1 (Two.dv_str _)).dp ((Two.fit_tup (Two.fitA_cons (Two.fit_s (k := 0) (by decide +kernel)) Two.fitA_nil)).le (by decide) (by decide)))
        (Two.dpa_cons ((Two.dv_tup1 (Two.dv_str _)).dp ((Two.fit_tup (Two.fitA_cons (Two.fit_s (k := 0) (by decide +kernel)) Two.fitA_nil)).le (by decide) (by decide)))
        (Two.dpa_cons (Two.dv_tup0.dp ((Two.fit_tup (k := 0) Two.fitA_nil).le (by decide) (by decide)))
        (Two.dpa_cons (Two.dv_non.dp ((Two.fit_n (k := 0)).le (by decide) (by decide))) Two.dpa_nil))))))))))
    have Z19 : Two.GSt K q L [(.ref T1, .tuple es1)] [] H18 H19 (n + 301) 11 := by
      refine ⟨HS.same s19, (hp18.mono (by omega)).same s19, F19, fun p hp => ?_, (fun p hp => nomatch hp), hLq, hL⟩
      rw [List.mem_singleton.mp hp]
      exact Two.Dq.same s19 fr1
    clear F19
    refine w_gname ?_
    dsimp only
    refine w_seq ?_
    refine w_forR (K := K) ?_
    refine w_cons (w_C (w_nil ?_))
    refine ⟨6, rfl, by decide, by decide, ?_⟩
    refine for_range (lo := 0) (n := 6) (Pv := fun i σ' H' => (∃ x12 : Option V, σ' = [some (.ref q), some (.ref ya), some (.ref r1), some (.ref ro), some (.ref D1), some (.ref l5), some (.ref D2), some (.ref x), some (.ref z), some (.ref T1), some (.ref T2), some (.ref L), x12, none, none, none, none, none, none]) ∧ Two.GSt K q L [(.ref T1, .tuple es1)] [] H18 H' (n + 301 + 8 * i) (11 + i)) ⟨⟨_, rfl⟩, Z19⟩ ?_ ?_
    · rintro i σ' Ha hi ⟨⟨x12, rfl⟩, Za⟩
      refine w_gname ?_
      dsimp only
      obtain ⟨vsa, eLa, _⟩ := id Za.fnd
      obtain ⟨_, _, _, eqa, _⟩ := id Za.pot
      have hyA := lotAt_hs hy18 Za.hs eq18
      refine w_drop (w_bm (w_var rfl ⟨.inl ⟨rfl, _, SqL.of eLa⟩, ?_⟩))
      refine w_cons ?_
      refine w_tup ?_
      refine w_cons (w_C ?_)
      refine w_cons ?_
      refine w_call (w_cons (w_var rfl (w_cons (w_var rfl (w_nil ?_)))))
      refine ⟨q, .ref ya, ds, n + 301 + 8 * i, rfl, hyA, hd2, hd1, Za.pot, by omega, fun Hb z' l hSb hz' hsub pb => ?_⟩
      have Zb := gst_hs Za hSb pb
      obtain ⟨_, _, _, eqb, _⟩ := id pb
      obtain ⟨yb, eyb, hyb⟩ := lotAt_hs hyA hSb eqa
      obtain rfl := V.ref.inj eyb
      refine w_cons (w_call (w_cons (w_var rfl (w_cons (w_var rfl (w_nil ?_))))))
      refine ⟨q, ya, ds.map V.str, _, rfl, .inr hyb, fun e => by rw [List.map_eq_nil_iff.mp e] at hd1; exact absurd hd1 (by decide), by rw [List.length_map]; omega, pb, by omega, fun Hc v hv hSc pc => ?_⟩
      obtain ⟨d, hdm, rfl⟩ := List.mem_map.mp hv
      have Zc := gst_hs Zb hSc pc
      obtain ⟨tz, rfl, htz0⟩ := hz'
      have htz := hSc _ _ (fun z => by rw [z, eqb] at htz0; cases htz0) htz0
      refine w_nil ⟨by show 3 ≤ sizeLine; rw [sizeLine_eq]; decide, fun T' hT' => ?_⟩
      have sT : Same Hc (upd Hc T' (.tup [.str "apart", .ref tz, .str d])) := same_upd (Same.refl _) hT'
      have eT : (upd Hc T' (.tup [.str "apart", .ref tz, .str d])) T' = some (.tup [.str "apart", .ref tz, .str d]) := upd_same
      generalize upd Hc T' (.tup [.str "apart", .ref tz, .str d]) = Hd at sT eT ⊢
      have Zd := gst_hs Zc (HS.same sT) (pc.same sT)
      refine w_nil ?_
      have zp : d ∈ pool17 := hd4 d hdm
      have zf : Two.Fit 100 0 (.str d) := ⟨(pool_N d zp).1, (pool_N d zp).2, Nat.zero_le _⟩
      obtain ⟨o1, o2, o3, o4, o5⟩ := Two.lot_bent (.of hsub hd)
      refine fnd_app Zd.fnd Zd.pot (.fit (d := .tuple [.str "apart", lotD l, .str d]) (.tup (.of eT) (.cons (.str _) (.cons (.tup (.of (sT _ _ htz)) (Two.fr_lot l)) (.cons (.str _) .nil)))) ((Two.fit_tup (Two.fitA_cons (Two.fit_s (by decide +kernel)) (Two.fitA_cons (n := 700) (k := 1) ⟨o1, o5, o4⟩ (Two.fitA_cons (zf.le (Nat.le_refl _) (by decide)) Two.fitA_nil)))).le (by decide) (by decide))) (by omega) fun He hse Fe => ?_
      have Ze := Zd.ext hse Fe
      refine ⟨⟨_, rfl⟩, ?_⟩
      have h1 : n + 301 + 8 * (i + 1) = n + 301 + 8 * i + 7 + 1 := by omega
      rw [h1]
      exact Ze
    · rintro σ' Hb ⟨⟨x12, rfl⟩, Zb⟩
      obtain ⟨vsb, eLb, _⟩ := id Zb.fnd
      dsimp only
      refine w_seq ?_
      refine w_drop (w_bm (w_var rfl ⟨.inl ⟨rfl, _, SqL.of eLb⟩, ?_⟩))
      refine w_cons ?_
      refine Two.w_lcPot (q := q) (n := 8) (m := n + 301 + 8 * 6) (c := 8) (It := fun D H v => L ≠ D ∧ (∃ xs, H L = some (.lst xs)) ∧ Two.Any K (fun a => Two.g2 q D a ∨ a = L) H v) (by decide) (fun R h => h) Zb.pot (fun _ => rfl) (fun D H1 H2 v lg c ⟨n1, ⟨xs, e⟩, a⟩ => ⟨n1, ⟨xs, c _ _ (fun z => z.elim hLq n1) e⟩, a.cg (c.weak fun _ z => .inl z) (Two.lg_or lg (Two.lg_of e))⟩) (fun D i' Ha R' hi hD h1 lg ho p1 g => ?_) (fun D H3 vs hD h3 p3 e3 hl hv => ?_)
      · have Za := Zb.pt hD h1 p1
        have nLD : L ≠ D := ne_of_none eLb hD
        obtain ⟨vsa, eLa, _⟩ := id Za.fnd
        refine w_call (w_cons (w_var rfl (w_cons (w_var rfl (w_nil ?_)))))
        refine ⟨q, .ref T1, .tuple es1, n + 301 + 8 * 6 + 8 * i', fun a => Two.g2 q D a ∨ a = L, rfl, .inl (.inl rfl), fun a ha => ?_, (Za.frs _ (.head _)).less fun _ _ => trivial, fT1.1, told1.inA, told1.tA, fT1.2.2, Nat.le_trans fT1.2.1 (by decide), p1, (show n + 301 + 8 * 6 + 8 * i' + 2 * 2 ≤ 900000 by omega), fun Hc u hu hs pc => ?_⟩
        · rcases ha with (rfl | rfl) | rfl
          · obtain ⟨_, _, _, e, _⟩ := p1
            exact ⟨_, e⟩
          · exact ho
          · exact ⟨_, eLa⟩
        · obtain ⟨d', dq', o1, o2, o3⟩ := hu
          have := fT1.2.1
          have pc' : PotAt Hc q (n + 301 + 8 * 6 + 8 * i' + 2 * 2 + 4) := pc
          have o3' : d'.depth ≤ 5 := o3
          exact g Hc u hs (pc'.mono (by omega)) ⟨nLD, ⟨_, hs _ _ hLq eLa⟩, ⟨d', dq', okN_ok o1, Two.nd_of o1, by omega, by omega⟩⟩
      have Z3 := Zb.pt hD h3 p3
      refine w_nil ?_
      refine Two.fnd_ext (j := 8) Z3.fnd p3 e3 (fun v hv' => ?_) (Nat.le_of_eq hl) (by decide) fun H4 hs4 F4 => ?_
      · obtain ⟨_, _, a⟩ := hv v hv'
        exact a.less fun _ z => z.elim (fun h => .inl (.inl h)) fun h => .inr h
      have Z4 := Z3.ext hs4 F4
      clear Z3 hs4 F4 hv hl e3 p3 h3 hD vs D Zb eLb Z19
      dsimp only
      obtain ⟨_, _, _, eq4, _⟩ := id Z4.pot
      have k4 : KP q H18 H4 := Z4.hs.kp
      have P14 : RulesF K C H4 x ds f1 bs1 := ⟨rules_kp k4 eq18 P1.at_, P1.rows, P1.few, P1.ends, P1.cl⟩
      have P24 : RulesF K C H4 z ds f2 bs2' := ⟨rules_kp k4 eq18 P2.at_, P2.rows, P2.few, P2.ends, P2.cl⟩
      have ta4 := t18a.ls (Z4.hs.ls eq18)
      have tb4 := t18b.ls (Z4.hs.ls eq18)
      have hy4 := lotAt_hs hy18 Z4.hs eq18
      have dT : Dq K q H4 (.ref T1) (.tuple es1) := Two.Dq.one (q := Two.g1 q) (p := q) rfl ((Z4.frs _ (.head _)).less fun _ _ => trivial)
      have nT := Two.nd_of fT1.1
      refine w_seq (w_ifS (w_not (w_B (w_call ?_))))
      refine w_cons (w_var rfl (w_cons (w_var rfl (w_cons (w_var rfl ?_)))))
      refine w_cons (w_var rfl (w_nil ?_))
      refine ⟨q, D1, D2, .ref ya, .ref T1, ds, f1, f2, .tuple es1, rfl, hy4, hd, ta4, tb4, P1.cl, P2.cl, dT, nT, Nat.le_trans fT1.2.1 (by decide), Nat.le_trans fT1.2.2 (by decide), fun H5 b s5 hb => ?_⟩
      obtain rfl : b = true := hb.mpr told1.is
      refine ⟨_, rfl, iteF ?_⟩
      refine w_next ?_
      have Z5 := gst_hs Z4 (HS.same s5) (Z4.pot.same s5)
      have P15 := P14.same s5
      have P25 := P24.same s5
      have ta5 := ta4.same s5
      have tb5 := tb4.same s5
      have hy5 := hy4.same s5
      have eq5 := s5 _ _ eq4
      have dT5 := dT.same s5
      clear Z4 P14 P24 ta4 tb4 hy4 dT k4 s5 eq4
      dsimp only
      obtain ⟨vs5, eL5, _⟩ := id Z5.fnd
      refine w_seq ?_
      refine w_forHd ?_
      refine w_op (w_var rfl ?_)
      refine w_lstN (w_cons (w_call (w_cons (w_var rfl (w_nil ?_)))))
      refine ⟨q, n + 301 + 8 * 6 + 8 * 8, Two.g1 q, rfl, Z5.pot, by omega, rfl, fun a ha => ?_, fun H6 v6 hv6 hs6 p6 => ?_⟩
      · rw [show a = q from ha]
        exact ⟨_, eq5⟩
      obtain ⟨d6, dq6, o61, o62, o63, o64, o65⟩ := hv6
      have a6 : Two.Any K (Two.g1 q) H6 v6 := ⟨d6, dq6, o61, o65, by omega, by omega⟩
      have Z6 := gst_hs Z5 hs6 p6
      obtain ⟨fs, ef, fl, fa⟩ := Z6.fnd
      obtain ⟨_, _, _, eq6, _⟩ := id p6
      refine w_nil ⟨by show 1 ≤ sizeLine; rw [sizeLine_eq]; decide, fun p7 hp7 _ => ?_⟩
      have s7 : Same H6 (upd H6 p7 (.lst [v6])) := same_upd (Same.refl _) hp7
      refine w_cat (s7 _ _ ef) upd_same (by show fs.length + 1 ≤ 1000; omega) fun p8 hp8 => ?_
      have s8 : Same H6 (upd (upd H6 p7 (.lst [v6])) p8 (.lst (fs ++ [v6]))) := s7.trans (same_upd (Same.refl _) hp8)
      have e8 : (upd (upd H6 p7 (.lst [v6])) p8 (.lst (fs ++ [v6]))) p8 = some (.lst (fs ++ [v6])) := upd_same
      generalize upd (upd H6 p7 (.lst [v6])) p8 (.lst (fs ++ [v6])) = H8 at s8 e8 ⊢
      have a8 : ∀ u ∈ fs ++ [v6], Two.Any K (Two.g1 q) H8 u := fun u hu => by
        rcases List.mem_append.mp hu with h | h
        · exact ((fa u h).less fun _ z => .inl z).same s8
        · rw [List.mem_singleton.mp h]
          exact a6.same s8
      have k58 : KP q H5 H8 := hs6.kp.trans (HS.same s8).kp
      have hs58 : HS q H5 H8 := hs6.trans (HS.same s8)
      have P18 : RulesF K C H8 x ds f1 bs1 := ⟨rules_kp k58 eq5 P15.at_, P1.rows, P1.few, P1.ends, P1.cl⟩
      have P28 : RulesF K C H8 z ds f2 bs2' := ⟨rules_kp k58 eq5 P25.at_, P2.rows, P2.few, P2.ends, P2.cl⟩
      have ta8 := ta5.ls (hs58.ls eq5)
      have tb8 := tb5.ls (hs58.ls eq5)
      have hy8 := lotAt_hs hy5 hs58 eq5
      have dT8 := dq_kp k58 eq5 dT5
      have p8' := p6.same s8
      have eq8 := s8 _ _ eq6
      have hS8 : HS q H H8 := ((hS18.trans Z5.hs).trans hs6).trans (HS.same s8)
      have kp8 : KP q H H8 := hS8.kp
      clear Z5 Z6 P15 P25 ta5 tb5 hy5 dT5 k58 hs58 s8 s7 hs6 p6 fa ef a6 eq5 eq6 hp7 hp8 hL hLq eL5
      refine w_forC (xs := fs ++ [v6]) (fun _ σ' H' => (∃ x13 : Option V, σ' = [some (.ref q), some (.ref ya), some (.ref r1), some (.ref ro), some (.ref D1), some (.ref l5), some (.ref D2), some (.ref x), some (.ref z), some (.ref T1), some (.ref T2), some (.ref L), x12, x13, none, none, none, none, none]) ∧ Same H8 H') (SqL.of e8) ⟨⟨_, rfl⟩, Same.refl _⟩
        (fun _ _ _ h => SqL.of (h.2 _ _ e8)) (fun j v σ' Ha hv hP => ?_) (fun σ' Ha hP => ?_)
      · obtain ⟨⟨x13, rfl⟩, sa⟩ := hP
        obtain ⟨d, dq, ok, nd, sz, dep⟩ := a8 v (List.mem_of_getElem? hv)
        have dqa : Dq K q Ha v d := (Two.Dq.one (q := Two.g1 q) (p := q) rfl dq).same sa
        refine w_gname ?_
        dsimp only
        refine w_ifS (w_test (w_op (w_cb ?_)))
        refine w_cons (w_call ?_)
        refine w_cons (w_var rfl (w_cons (w_var rfl ?_)))
        refine w_cons (w_var rfl (w_nil ?_))
        refine ⟨q, x, z, v, ds, f1, f2, bs1, bs2', d, rfl, P18.same sa, P28.same sa, hd, ⟨dqa, nd, by omega⟩, fun Hb b sb hb => ?_⟩
        refine w_nil ?_
        refine w_repr (q := q) (.bl b) (by cases b <;> rfl) (by cases b <;> decide) (by cases b <;> decide) ?_
        refine w_cb ?_
        refine w_cons (w_call ?_)
        refine w_cons (w_var rfl (w_cons (w_var rfl ?_)))
        refine w_cons (w_var rfl (w_cons (w_var rfl (w_nil ?_))))
        have sab := sa.trans sb
        refine ⟨q, D1, D2, .ref ya, v, ds, f1, f2, d, rfl, hy8.same sab, hd, ta8.same sab, tb8.same sab, P1.cl, P2.cl, dqa.same sb, nd, sz, dep, fun Hc b' sc hb' => ?_⟩
        obtain rfl : b = b' := by
          rw [Bool.eq_iff_iff]
          exact hb.trans hb'.symm
        refine w_nil ?_
        refine w_repr (q := q) (.bl b) (by cases b <;> rfl) (by cases b <;> decide) (by cases b <;> decide) ?_
        refine w_neSame rfl ?_
        refine ⟨_, rfl, iteF ?_⟩
        refine w_next ?_
        exact ⟨⟨_, rfl⟩, sab.trans sc⟩
      · obtain ⟨⟨x13, rfl⟩, sa⟩ := hP
        dsimp only
        have kpa : KP q H Ha := kp8.trans (HS.same sa).kp
        have P1a := P18.same sa
        have hya := hy8.same sa
        have pa := p8'.same sa
        have eqa := sa _ _ eq8
        have ta := tabs_hs tabs (hS8.trans (HS.same sa)) eq
        have dTa := dT8.same sa
        clear a8 e8 P18 P28 ta8 tb8 hy8 dT8 p8' hS8 kp8 sa P1 P2 t18a t18b hy18 hp18 hS18 fr1 fr2 eq18 eq8
        obtain ⟨yb, eyb, hyq⟩ := id hya
        obtain rfl := V.ref.inj eyb
        have frY : Two.Fr K Ha (.ref ya) (.tuple (ds.map PyData.str)) := .tup hyq (Two.fr_lot ds)
        obtain ⟨hdf, nef⟩ := far_devs hd hin
        have ld : (ds.map PyData.str).length ≤ 6 := by rw [List.length_map]; exact hd2
        refine w_seq ?_
        refine w_asg ?_
        refine w_make ?_
        refine w_cons ?_
        refine Two.dv_cat (K := K) (q := Two.g1 q) (H := Ha) (Two.dv_slice (lo := none) (hi := some (-1)) (Two.dv_var rfl (frY.less fun _ _ => trivial)) (fun _ _ h => h) (fun H' R h => ⟨1, rfl, ⟨-1, rfl, h⟩⟩)) (Two.dv_tup1 (Two.dv_str _)) (Nat.le_trans (Nat.add_le_add_right (Nat.le_trans Two.len_cut ld) _) (by decide)) _ _ (Same.refl _) fun v9 H9 s9 dq9 => ?_
        have hv9 : LotAt K H9 v9 (ds.take (ds.length - 1) ++ [("far" : Str)]) := lotAt_dq (q := q) (by
          have := Two.Dq.one (q := Two.g1 q) (p := q) rfl dq9
          rw [cut_last hd1] at this
          unfold lotD
          rw [List.map_append]
          exact this)
        refine w_nil ?_
        intro xf dxf nx ndx nex
        have sm := same_make (C := C) nx ndx
        refine ⟨xf, dxf, v9, .ref a0, _, [], rfl, upd_same, hv9.same sm, ⟨a0, [], rfl, hA0 _, .nil⟩, hdf, (fun b hb => nomatch hb), Nat.zero_le _, fun H16 k16 hRf => ⟨rfl, ?_⟩⟩
        have s16 : Same H9 H16 := fun b o e => k16 b o (sm b o e) (ne_of_none e nx)
        obtain ⟨dxf', _, _, _, _, esf, _, _, _, _, hesf, _⟩ := id hRf
        have Pf := RulesF.of hRf (fun b hb => nomatch hb) (Nat.zero_le _) hesf
        generalize eF esf = ff at Pf
        have c16 := s9.trans s16
        have P16 := P1a.same c16
        have p16 := pa.same c16
        have t16 := ta.ext c16
        have eq16 := c16 _ _ eqa
        have kp16 : KP q H H16 := kpa.trans (HS.same c16).kp
        clear hRf hesf s9 s16 c16 sm k16 nx ndx nex dq9 hv9 P1a pa ta kpa eqa hya hyq frY
        refine w_gname ?_
        dsimp only
        refine w_seq ?_
        refine w_asg ?_
        refine w_lstN ?_
        refine w_cons ?_
        refine ⟨t16, fun f1B cc1B H8B e8B t8B nf1B hf1B hc1B => ?_⟩
        refine w_nil ⟨by show 1 ≤ sizeLine; rw [sizeLine_eq]; decide, fun LB hLB _ => ?_⟩
        have i1B : LamIs _ _ (lamDiffer K C CO) f1B H8B := ⟨cc1B, hf1B, hc1B⟩
        have eLB : (upd H8B LB (.lst [.ref f1B])) LB = some (.lst [.ref f1B]) := upd_same
        have s9B : Same H8B (upd H8B LB (.lst [.ref f1B])) := same_upd (Same.refl _) hLB
        generalize upd H8B LB (.lst [.ref f1B]) = H9B at eLB s9B ⊢
        clear hf1B hc1B nf1B cc1B
        refine w_gname ?_
        dsimp only
        refine w_seq ?_
        refine w_drop (w_bm (w_var rfl ⟨.inl ⟨rfl, _, SqL.of eLB⟩, ?_⟩))
        refine w_cons ?_
        refine ⟨t8B.ext s9B, fun f2B cc2B H10B e10B t10B nf2B hf2B hc2B => ?_⟩
        have i2B : LamIs _ _ (lamShows K C CO) f2B H10B := ⟨cc2B, hf2B, hc2B⟩
        clear hf2B hc2B nf2B cc2B
        refine w_nil ?_
        have eL10B := e10B _ _ eLB (fun _ z => nomatch z)
        refine ⟨LB, [.ref f1B], .ref f2B, rfl, rfl, eL10B, by show 1 + 1 ≤ sizeLine; rw [sizeLine_eq]; decide, ?_⟩
        have hs11B : HS LB H10B (upd H10B LB (.lst [.ref f1B, .ref f2B])) := (HS.refl _ _).updq
        have eL11B : (upd H10B LB (.lst [.ref f1B, .ref f2B])) LB = some (.lst [.ref f1B, .ref f2B]) := upd_same
        have shB : (upd H10B LB (.lst ([.ref f1B] ++ [.ref f2B]))) = (upd H10B LB (.lst [.ref f1B, .ref f2B])) := rfl
        rw [shB]
        clear shB
        generalize upd H10B LB (.lst [.ref f1B, .ref f2B]) = H11B at hs11B eL11B ⊢
        have t11B := tabs_hs t10B hs11B eL10B
        have i11B : LamIs _ _ (lamDiffer K C CO) f1B H11B := (((i1B.ext (Same.extN s9B)).ext e10B).hs hs11B eL10B)
        have i21B := i2B.hs hs11B eL10B
        have e11B : ExtN H16 H11B := fun b o e n => by
          have eb8 := e8B b o e n
          have nb : b ≠ LB := ne_of_none eb8 hLB
          exact hs11B _ _ nb (e10B _ _ (s9B _ _ eb8) n)
        clear i1B i2B eLB s9B e10B t10B hs11B e8B t8B hLB eL10B
        dsimp only
        have k11 : KP q H16 H11B := ext_kp e11B
        have P11 : RulesF K C H11B x ds f1 bs1 := ⟨rules_kp k11 eq16 P16.at_, P16.rows, P16.few, P16.ends, P16.cl⟩
        have F11 : RulesF K C H11B xf (ds.take (ds.length - 1) ++ [("far" : Str)]) ff [] := ⟨rules_kp k11 eq16 Pf.at_, Pf.rows, Pf.few, Pf.ends, Pf.cl⟩
        have p11 := pot_ext e11B p16
        have kp11 : KP q H H11B := kp16.trans k11
        refine w_seq ?_
        refine w_asg ?_
        refine w_lcTold (l1 := lamDiffer K C CO) (l2 := lamShows K C CO) (fun z H => ∃ a, z = .ref a ∧ XAt H a CO (.ref xf)) (fun z H1 H2 ⟨a, e, hX⟩ k => ⟨a, e, hX.mono k⟩) rfl (fun _ => rfl) (fun _ => rfl) eL11B List.mem_cons_self (List.mem_cons_of_mem _ List.mem_cons_self) i11B i21B (fun H' Q' s' kk => ?_) (fun H' Q' s' kk => ?_) fun D H12 z1 z2 hD s12 eD c1 c2 => ?_
        · intro fz p0 hp0
          have s0 : Same H' (upd H' p0 (.tup [.non, .non])) := same_upd (Same.refl _) hp0
          generalize upd H' p0 (.tup [.non, .non]) = Hz at s0 ⊢
          refine w_call (w_cons (w_var rfl (w_cons (w_var rfl (w_nil ?_)))))
          exact ⟨x, xf, ds, _, f1, ff, bs1, [], rfl, (P11.same s').same s0, (F11.same s').same s0, hd, hdf, nef, fun G' d' sG hd' => told_err (s0.trans sG) hd' G.xO fun p b' H'' s'' hp hX => kk p _ _ H'' s'' hp ⟨b', rfl, hX⟩⟩
        · intro fz p0 hp0
          have s0 : Same H' (upd H' p0 (.tup [.non, .non])) := same_upd (Same.refl _) hp0
          generalize upd H' p0 (.tup [.non, .non]) = Hz at s0 ⊢
          refine w_call (w_cons (w_var rfl (w_cons (w_var rfl (w_cons (w_var rfl (w_nil ?_)))))))
          exact ⟨x, xf, .ref T1, rfl, x, xf, ds, _, f1, ff, bs1, [], rfl, (P11.same s').same s0, (F11.same s').same s0, hd, hdf, nef, fun G' d' sG hd' => told_err (s0.trans sG) hd' G.xO fun p b' H'' s'' hp hX => kk p _ _ H'' s'' hp ⟨b', rfl, hX⟩⟩
        refine w_gname ?_
        dsimp only
        refine w_ret ?_
        refine w_cb ?_
        refine w_cons ?_
        refine w_lcLQ (K := K) (a := D) (xs := [z1, z2]) (bs := [(), ()]) (fun y _ _ => y = .bl true) (fun _ => true) (fun _ _ _ _ h _ => h) (fun _ _ _ _ _ _ h _ _ => h) (fun R k => ⟨_, rfl, k⟩) (SqL.of eD) (by decide : 2 ≤ 100000) rfl (fun _ => rfl) (fun _ _ _ _ _ _ _ _ k => k _ (Same.refl _)) (fun j zz u H' R hz hu _ s' kk => ?_) (fun D2 H' zs hD2 s' eD2 hzs => ?_)
        · have cz : ∃ a, zz = .ref a ∧ XAt H12 a CO (.ref xf) := by
            match j, hz with
            | 0, hz => rw [← Option.some.inj hz]; exact c1
            | 1, hz => rw [← Option.some.inj hz]; exact c2
          obtain ⟨a, rfl, hX⟩ := cz
          have Fz := (F11.same s12).same s'
          refine w_andV (w_cb (w_cons (w_var rfl (w_cons (w_C (w_nil ?_))))))
          refine ⟨a, CO, fI, .ref xf, .ref CO, .ref CO, true, rfl, G.eO, hX.same s', .own CO, G.kOO, ?_⟩
          refine ⟨_, rfl, iteT ?_⟩
          refine w_op ?_
          refine ⟨.ref a, rfl, a, CO, fI, .ref xf, rfl, G.eO, hX.same s', ?_⟩
          refine w_var rfl ?_
          refine w_eqR Fz Fz hdf fun H3 b s3 hb => ?_
          obtain rfl : b = true := hb.mpr fun _ _ => rfl
          exact kk _ H3 s3 rfl
        · cases hzs with
          | cons h1 r =>
            cases r with
            | cons h2 r =>
              cases r with
              | nil =>
                subst h1 h2
                refine w_nil ?_
                refine ⟨D2, [true, true], rfl, SqL.of eD2, ?_⟩
                exact go H' (kp11.trans (HS.same (s12.trans s')).kp) (t11B.ext (s12.trans s')) ((p11.same (s12.trans s')).mono (by omega))
end

open PySem PySem.Spec PyProof.Rows L2 LamX

def spLaw (Tb : Addr) (K : PySem.W.Frag) : Sp := fun vs H Q _ => ∃ (a : Addr) (ns : List Int), vs = [.ref a] ∧ SqL K H a (ns.map V.int) ∧ H Tb = some (.tbl #[]) ∧ ∀ H', Q (.bl true) H'
theorem KP.sqF {K : PySem.W.Frag} {q l : Addr} {H H' H0 : Hp} {xs : List V} (h : KP q H H') (f : H0 q = none) (sa : Same H0 H) (s : SqL K H0 l xs) : SqL K H' l xs := by
  rcases s with (s | ⟨o, s⟩) | s
  · exact .inl (.inl (h l _ (sa _ _ s) (ne_of_none s f) fun _ z => nomatch z))
  · exact .inl (.inr ⟨o, h l _ (sa _ _ s) (ne_of_none s f) fun _ z => nomatch z⟩)
  · exact .inr s
theorem sameL {K : PySem.W.Frag} {l : Addr} {H H' : Hp} {xs : List V} (sa : Same H H') (s : SqL K H l xs) : SqL K H' l xs := by
  rcases s with (s | ⟨o, s⟩) | s
  · exact .inl (.inl (sa _ _ s))
  · exact .inl (.inr ⟨o, sa _ _ s⟩)
  · exact .inr s
theorem w_lcRight {q Tb : Addr} {x0 x1 x3 : Option V} {H : Hp} {Q : VK} (hp : PotAt H q 0) (tabs : Tabs (TabL Tb) H) (k : ∀ (D : Addr) (H' : Hp), KP q H H' → Tabs (TabL Tb) H' → H' D = some (.lst ([true, true].map V.bl)) → Q (.ref D) H') :
    tLc (iRng1 (tCons (tC (.int 2)) tNil)) (gName 3) tYes (tCall (spRight Tb) [] E0 (tCons (tVar 2) tNil)) [3] [x0, x1, some (.ref q), x3] H Q := by
  obtain ⟨own, b, c, eq, _⟩ := id hp
  refine ⟨2, rfl, by decide, by decide, fun D hD => ?_⟩
  have hn : D ≠ q := Ne.symm (ne_of_none eq hD)
  refine lc_range (lo := 0) (n := 2) (Pv := fun j H' => KP q H H' ∧ PotAt H' q (5000 * j) ∧ Tabs (TabL Tb) H' ∧ H' D = some (.lst ((List.replicate j true).map V.bl))) ⟨fun b' o e _ _ => same_upd (Same.refl _) hD b' o e, hp.upd hD, tabs.ext (same_upd (Same.refl _) hD), upd_same⟩ ?_ ?_
  · rintro j H' hj ⟨h1, h2, h4, h3⟩
    refine ⟨rfl, iteT (B := KP q H H' ∧ PotAt H' q (5000 * (j + 1)) ∧ Tabs (TabL Tb) H' ∧ H' D = some (.lst ((List.replicate (j + 1) true).map V.bl))) ?_⟩
    refine ⟨_, rfl, q, 5000 * j, rfl, h2, by omega, h4, fun H2 s2 t2 p2 => ?_⟩
    have hD2 := s2 D _ h3 hn (fun _ z => nomatch z)
    refine ⟨_, hD2, ?_, fun b' o e nb nt => ?_, ?_, ?_, ?_⟩
    · rw [List.length_map, List.length_replicate, sizeLine_eq]
      omega
    · rw [upd_ne (ne_of_none e hD)]
      exact s2 _ _ (h1 _ _ e nb nt) nb nt
    · obtain ⟨o1, b1, c1, e1, r1⟩ := p2
      exact ⟨o1, b1, c1, by rw [upd_ne (Ne.symm hn)]; exact e1, r1⟩
    · exact tabs_hs t2 (HS.refl D H2).updq hD2
    · rw [upd_same, List.replicate_succ', List.map_append]
      rfl
  · rintro H' ⟨h1, h2, h4, h3⟩
    exact k D H' h1 h4 h3
section
variable {P : Program} {w : World} {K : PySem.W.Frag} {mg : Str → Option Value} {base : Heap}
theorem ok_law {f : Addr} {fd : FuncData} (F : Fun K "law" "law" slaw f fd) (T : Txt mg) (D_law_pot : Def P w K mg base 1 "_law_pot" P_law_pot (spPot K)) (D_law_cells : Def P w K mg base 1 "_law_cells" P_law_cells (spCells K))
    {Tb : Addr} (D_law_right : DefG P w K mg base 12 "_law_right" P_law_right (spRight Tb)) : FnG P w K mg base CX0 13 f fd Plaw (spLaw Tb K) := by
  refine funG F sclaw (fun vs H Q E h => ?_) fun cdv A outer s H vs Q E hgd hr h => ?_
  · obtain ⟨q, n, rfl, _⟩ := h
    rfl
  · refine ⟨_, (pss_cons (ps_for PassesOwn.never rfl (pi_list (pe_d D_law_cells (hr.mono (by omega)) (pa_cons (pv 0) (pa_cons pe_int pa_nil)))) (pg_name (i := 1) sclaw.nd rfl (by first | exact Or.inl rfl | exact Or.inr rfl)) (pss_cons (ps_set (i := 2) sclaw.nd rfl (by first | exact Or.inl rfl | exact Or.inr rfl) (pe_d D_law_pot (hr.mono (by omega)) (pa_cons (pv 0) (pa_cons (pv 1) pa_nil))))
  (pss_one (ps_if (pt_not (pt_val (pe_callB (cr_all rfl) (by rfl) T.n_all (by decide +kernel) (pa_cons (pe_lc (own := [("_law_lap", 3)]) (g := (gName 3)) (tt := tYes) rfl sclaw.nd (pi_range1 (by rfl) T.n_range (pa_cons pe_int pa_nil)) (blkOk_by (N := Nlaw) (sc := defScope slaw) (by decide +kernel)) (fun _ _ _ _ _ => (pg_name (i := 3) sclaw.nd rfl (by first | exact Or.inl rfl | exact Or.inr rfl))) (fun _ _ _ _ _ => pts_nil) (fun _ _ _ _ _ => (pe_dG D_law_right hgd (hr.mono (by omega)) (pa_cons (pv 2) pa_nil)))) pa_nil)))) (pss_one (ps_ret pe_bl)) pss_nil))))
  (pss_one (ps_ret pe_bl))), ?_⟩
    obtain ⟨a, ns, rfl, hs, hTb, go⟩ := h
    have tabs0 : Tabs (TabL Tb) H := fun p hp => by
      rw [List.mem_singleton.mp hp]
      exact TabS.nil hTb
    walk_at "v"
    refine w_forS ?_
    walk_at "v"
    refine ⟨a, ns, 4, rfl, hs, by decide, by decide, fun p k hp hk1 hk4 => ?_⟩
    refine ⟨p, rfl, ⟨_, SqL.of upd_same⟩, for_list (fun _ σ' H' => (∃ x1 x2 x3, σ' = [some (.ref a), x1, x2, x3]) ∧ SqL K H' a (ns.map V.int) ∧ Tabs (TabL Tb) H' ∧ H' p = some (.lst (rgV 0 (k : Int)))) ⟨⟨_, _, _, rfl⟩, sameL (same_upd (Same.refl _) hp) hs, tabs0.ext (same_upd (Same.refl _) hp), upd_same⟩
      (fun _ _ _ _ h => SqL.of h.2.2.2) (fun i x σ' H1 hx hP => ?_) (fun σ' H1 hP => go H1)⟩
    obtain ⟨⟨x1, x2, x3, rfl⟩, hs1, ht1, hp1⟩ := hP
    obtain ⟨j, rfl, hj⟩ : ∃ j : Nat, x = .int (j : Nat) ∧ j < 4 := by
      unfold rgV at hx
      rw [List.getElem?_map] at hx
      by_cases hlt : i < ((k : Int) - 0).toNat
      · rw [List.getElem?_range hlt] at hx
        refine ⟨i, ?_, by omega⟩
        rw [← Option.some.inj hx]
        exact congrArg V.int (by omega)
      · rw [List.getElem?_eq_none (by rw [List.length_range]; omega)] at hx
        cases hx
    walk_at "v"
    refine ⟨a, ns, j, rfl, hs1, by omega, fun H2 q hq s2 p2 => ?_⟩
    walk_at "v"
    refine w_lcRight p2 (ht1.ext s2) fun D H3 s3 t3 hD => ?_
    walk_at "v"
    refine ⟨D, _, rfl, SqL.of hD, ?_⟩
    walk_at "v"
    refine iteF ?_
    walk_at "v"
    exact ⟨⟨_, _, _, rfl⟩, s3.sqF hq s2 hs1, t3, s3 _ _ (s2 _ _ hp1) (ne_of_none hp1 hq) fun _ z => nomatch z⟩
end

theorem funAt_mk {K : PySem.W.Frag} {h : Heap} {mg : Str → Option Value} {x : Str} {st : Stmt} {f : Addr} {oc : Value} {od an : Option Addr} {osl : Array (Option Value)} {kV doc pm cdv ct : Value} (X : K.In h) (G : h.Ns mainGlobals mg)
    (a : PySem.W.nsIn K mainGlobals x = some (some (.ref f))) (l : K.lookup f = some ⟨oc, od, .func (PySem.W.fnOf x x (defArgs st) (defBody st) (defScope st) .none kV doc pm an cdv ct), osl⟩)
    (c : PySem.W.codeIn K cdv x = true) (k : PySem.W.keepIn K (.ref f) = true) : FunAt K mg x st := ⟨f, _, fun_mk l c k, PySem.W.mg_of X G a⟩
theorem funL_mk {K : PySem.W.Frag} {x : Str} {st : Stmt} {f : Addr} {oc : Value} {od an : Option Addr} {osl : Array (Option Value)} {kV doc pm cdv ct : Value} (l : K.lookup f = some ⟨oc, od, .func (PySem.W.fnOf x x (defArgs st) (defBody st) (defScope st) .none kV doc pm an cdv ct), osl⟩)
    (c : PySem.W.codeIn K cdv x = true) (k : PySem.W.keepIn K (.ref f) = true) : Fun K x x st f (PySem.W.fnOf x x (defArgs st) (defBody st) (defScope st) .none kV doc pm an cdv ct) := fun_mk l c k
theorem ok_WakeError_init {P : Program} {w : World} {K : PySem.W.Frag} {mg : Str → Option Value} {base : Heap} {fI : Addr} {fdI : FuncData} (F : Fun K "__init__" "WakeError.__init__" sWakeError_init fI fdI) : FnOk P w K mg base CX0 2 fI fdI ["self", "value"] (spInit K) := by
  refine (F.ok (k := 1) scWakeError_init (fun vs H Q E h => ?_) fun cdv A outer s H vs Q E hr h => ?_)
  · obtain ⟨a, D, v, rfl, _⟩ := h
    rfl
  · refine ⟨_, pss_one (ps_ost (pv 0) (pv 1)), ?_⟩
    obtain ⟨a, D, v, rfl, h1, h2, h3, go⟩ := h
    exact ⟨v, rfl, .ref a, rfl, a, D, rfl, h1, h2, .inl ⟨h3, fun dx hd hne => go dx hd hne⟩⟩
theorem all_mk {l : PySem.W.OpenLaw} {w : World} {K : PySem.W.Frag} {h : Heap} {mg : Str → Option Value} {fa fL : Addr} {fdL : FuncData}
    {CW CO fI gT cR TR : Addr}
    {ocI kVI docI pmI cdI ctI : Value} {odI anI : Option Addr} {oslI : Array (Option Value)}
    {ocT kVT docT pmT cdT ctT : Value} {odT anT : Option Addr} {oslT : Array (Option Value)}
    {ki0 : Tok}
    {ki1 : Tok}
    {ki2 : Tok}
    {ks0 : Tok}
    {C0 : Addr}
    {fC0_init : Addr} {ocC0_init kVC0_init dcC0_init pmC0_init cdC0_init ctC0_init : Value} {odC0_init anC0_init : Option Addr} {slC0_init : Array (Option Value)}
    {TC0_init : Addr}
    {ocTC0_init : Value} {odTC0_init : Option Addr} {itTC0_init : Array Value} {nTC0_init : Nat} {slTC0_init : Array (Option Value)} {DC0_init : Addr} {odDC0_init : Option Addr} {itDC0_init : Array Value} {nDC0_init : Nat} {slDC0_init : Array (Option Value)}
    {fC0_rest : Addr} {ocC0_rest kVC0_rest dcC0_rest pmC0_rest cdC0_rest ctC0_rest : Value} {odC0_rest anC0_rest : Option Addr} {slC0_rest : Array (Option Value)}
    {fC0_eq : Addr} {ocC0_eq kVC0_eq dcC0_eq pmC0_eq cdC0_eq ctC0_eq : Value} {odC0_eq anC0_eq : Option Addr} {slC0_eq : Array (Option Value)}
    (X : K.In h) (G : h.Ns mainGlobals mg) (hfa : mg "law" = some (.ref fa))
    (cW : PySem.W.nsIn K mainGlobals "WakeError" = some (some (.ref CW)))
    (cO : PySem.W.nsIn K mainGlobals "OtherDevices" = some (some (.ref CO)))
    (aI : PySem.W.findIn K (.ref CW) "__init__" = some (some (.ref fI)))
    (lI : K.lookup fI = some ⟨ocI, odI, .func (PySem.W.fnOf "__init__" "WakeError.__init__" (defArgs sWakeError_init) (defBody sWakeError_init) (defScope sWakeError_init) .none kVI docI pmI anI cdI ctI), oslI⟩)
    (cI : PySem.W.codeIn K cdI "WakeError.__init__" = true)
    (kI : PySem.W.keepIn K (.ref fI) = true)
    (e1 : errB K CO fI = true)
    (tI : PySem.W.typeIn K (.ref fI) = some (.type "function"))
    (xO : PySem.W.exmOne K (.ref CO) (.ref CW) = some true)
    (kOO : PySem.W.kitOne K (.ref CO) (.ref CO) = some true)
    (aT : PySem.W.nsIn K mainGlobals "_law_told" = some (some (.ref gT)))
    (lT : K.lookup gT = some ⟨ocT, odT, .func (PySem.W.fnOf "_law_told" "_law_told" (defArgs s_law_told) (defBody s_law_told) (defScope s_law_told) .none kVT docT pmT anT cdT ctT), oslT⟩)
    (cT : PySem.W.codeIn K cdT "_law_told" = true)
    (kT : PySem.W.keepIn K (.ref gT) = true)
    (htab : PySem.W.tabIn K "_law_right" = some (cR, TR))
    (hno : K.lookup TR = none)
    (g1 : h.get? TR = some { cls := .none, data := .fields #[] })
    (g2 : PySem.W.CodeHd h cR TR)
    (t0 : PySem.W.nsIn K mainGlobals "len" = some none)
    (t1 : PySem.W.nsIn K mainGlobals "int" = some none)
    (t2 : PySem.W.nsIn K mainGlobals "abs" = some none)
    (t3 : PySem.W.nsIn K mainGlobals "list" = some none)
    (t4 : PySem.W.nsIn K mainGlobals "range" = some none)
    (t5 : PySem.W.nsIn K mainGlobals "max" = some none)
    (t6 : PySem.W.nsIn K mainGlobals "min" = some none)
    (t7 : PySem.W.nsIn K mainGlobals "isinstance" = some none)
    (t8 : PySem.W.nsIn K mainGlobals "tuple" = some none)
    (t9 : PySem.W.nsIn K mainGlobals "str" = some none)
    (t10 : PySem.W.nsIn K mainGlobals "all" = some none)
    (t11 : PySem.W.nsIn K mainGlobals "any" = some none)
    (t12 : PySem.W.nsIn K mainGlobals "sum" = some none)
    (t13 : PySem.W.nsIn K mainGlobals "set" = some none)
    (t14 : PySem.W.nsIn K mainGlobals "sorted" = some none)
    (t15 : PySem.W.nsIn K mainGlobals "dict" = some none)
    (t16 : PySem.W.nsIn K mainGlobals "repr" = some none)
    (t17 : PySem.W.nsIn K mainGlobals "enumerate" = some none)
    (t18 : PySem.W.nsIn K mainGlobals "zip" = some none)
    (t19 : PySem.W.nsIn K mainGlobals "bool" = some none)
    (i0 : PySem.W.nsIn K mainGlobals "MOST_LETTERS" = some (some (.int 8 ki0)))
    (i1 : PySem.W.nsIn K mainGlobals "MOST_DEVICES" = some (some (.int 6 ki1)))
    (i2 : PySem.W.nsIn K mainGlobals "MOST_BUNDLES" = some (some (.int 64 ki2)))
    (s0 : PySem.W.nsIn K mainGlobals "LETTERS" = some (some (.str letters26 ks0)))
    (aC0 : PySem.W.nsIn K mainGlobals "Rules" = some (some (.ref C0)))
    (aC0_init : PySem.W.findIn K (.ref C0) "__init__" = some (some (.ref fC0_init)))
    (iC0_init : PySem.W.isFn K (.ref fC0_init) = true)
    (lC0_init : K.lookup fC0_init = some ⟨ocC0_init, odC0_init, .func (PySem.W.fnOf "__init__" "Rules.__init__" (defArgs sRules_init) (defBody sRules_init) (defScope sRules_init) (.ref TC0_init) kVC0_init dcC0_init pmC0_init anC0_init cdC0_init ctC0_init), slC0_init⟩)
    (cC0_init : PySem.W.codeIn K cdC0_init "Rules.__init__" = true)
    (kC0_init : PySem.W.keepIn K (.ref fC0_init) = true)
    (yC0_init : PySem.W.typeIn K (.ref fC0_init) = some (.type "function"))
    (lTC0_init : K.lookup TC0_init = some ⟨ocTC0_init, odTC0_init, .seq itTC0_init nTC0_init, slTC0_init⟩)
    (eTC0_init : itTC0_init.toList = [.ref DC0_init])
    (lDC0_init : K.lookup DC0_init = some ⟨.type "tuple", odDC0_init, .seq itDC0_init nDC0_init, slDC0_init⟩)
    (eDC0_init : itDC0_init.toList = [])
    (aC0_rest : PySem.W.findIn K (.ref C0) "rest" = some (some (.ref fC0_rest)))
    (iC0_rest : PySem.W.isFn K (.ref fC0_rest) = true)
    (lC0_rest : K.lookup fC0_rest = some ⟨ocC0_rest, odC0_rest, .func (PySem.W.fnOf "rest" "Rules.rest" (defArgs sRules_rest) (defBody sRules_rest) (defScope sRules_rest) .none kVC0_rest dcC0_rest pmC0_rest anC0_rest cdC0_rest ctC0_rest), slC0_rest⟩)
    (cC0_rest : PySem.W.codeIn K cdC0_rest "Rules.rest" = true)
    (kC0_rest : PySem.W.keepIn K (.ref fC0_rest) = true)
    (yC0_rest : PySem.W.typeIn K (.ref fC0_rest) = some (.type "function"))
    (aC0_eq : PySem.W.findIn K (.ref C0) "__eq__" = some (some (.ref fC0_eq)))
    (iC0_eq : PySem.W.isFn K (.ref fC0_eq) = true)
    (lC0_eq : K.lookup fC0_eq = some ⟨ocC0_eq, odC0_eq, .func (PySem.W.fnOf "__eq__" "Rules.__eq__" (defArgs sRules_eq) (defBody sRules_eq) (defScope sRules_eq) .none kVC0_eq dcC0_eq pmC0_eq anC0_eq cdC0_eq ctC0_eq), slC0_eq⟩)
    (cC0_eq : PySem.W.codeIn K cdC0_eq "Rules.__eq__" = true)
    (kC0_eq : PySem.W.keepIn K (.ref fC0_eq) = true)
    (yC0_eq : PySem.W.typeIn K (.ref fC0_eq) = some (.type "function"))
    (pgC0 : PySem.W.plainGet K C0 Str.empty = true)
    (hdC0 : PySem.W.hasDictIn K C0 = true)
    (poC0 : PySem.W.plainOver K C0 = true)
    (saC0 : PySem.W.findIn K (.ref C0) "__setattr__" = some (some (.builtin "object.__setattr__")))
    (mkC0 : PySem.W.makesIn K C0 = true)
    (kcC0 : PySem.W.keepIn K (.ref C0) = true)
    (ceC0 : PySem.W.findIn K (.ref C0) "__class__" = some (some (.builtin "object.__class__")))
    (chC0 : PySem.W.specialIn K (.builtin "object.__class__") "__get__" = some (some (.builtin "getset_descriptor.__get__")))
    (ctC0 : PySem.W.takesIn K (.builtin "object.__class__") = some true)
    (cmC0 : PySem.W.mroIn K C0 (.type "object") = some true)
    (cnC0 : PySem.W.findIn K (.ref C0) "__ne__" = some (some (.builtin "object.__ne__")))
    (nC0_0 : PySem.W.findIn K (.ref C0) "devices" = some none)
    (nC0_1 : PySem.W.findIn K (.ref C0) "bundles" = some none)
    (nC0_2 : PySem.W.findIn K (.ref C0) "_ends" = some none)
    (nC0_3 : PySem.W.findIn K (.ref C0) "rests" = some none)
    (F_is_name : FunAt K mg "is_name" sis_name)
    (F_are_devices : FunAt K mg "are_devices" sare_devices)
    (F_has_form : FunAt K mg "has_form" shas_form)
    (F_is_lot : FunAt K mg "is_lot" sis_lot)
    (F_is_bundle : FunAt K mg "is_bundle" sis_bundle)
    (F_are_bundles : FunAt K mg "are_bundles" sare_bundles)
    (F_need_lot : FunAt K mg "need_lot" sneed_lot)
    (F_need_same_devices : FunAt K mg "need_same_devices" sneed_same_devices)
    (F_mask_of : FunAt K mg "mask_of" smask_of)
    (F_lot_of : FunAt K mg "lot_of" slot_of)
    (F_end_of : FunAt K mg "end_of" send_of)
    (F_ends_of : FunAt K mg "ends_of" sends_of)
    (F_ends_by : FunAt K mg "ends_by" sends_by)
    (F_lots_of : FunAt K mg "lots_of" slots_of)
    (F_rests_of : FunAt K mg "rests_of" srests_of)
    (F__apart : FunAt K mg "_apart" s_apart)
    (F_differ : FunAt K mg "differ" sdiffer)
    (F_shows_differ : FunAt K mg "shows_differ" sshows_differ)
    (F__law_pot : FunAt K mg "_law_pot" s_law_pot)
    (F__law_take : FunAt K mg "_law_take" s_law_take)
    (F__law_of : FunAt K mg "_law_of" s_law_of)
    (F__law_cells : FunAt K mg "_law_cells" s_law_cells)
    (F__law_some : FunAt K mg "_law_some" s_law_some)
    (F__law_odd : FunAt K mg "_law_odd" s_law_odd)
    (F__law_bent : FunAt K mg "_law_bent" s_law_bent)
    (F__law_names : FunAt K mg "_law_names" s_law_names)
    (F__law_devices : FunAt K mg "_law_devices" s_law_devices)
    (F__law_lots : FunAt K mg "_law_lots" s_law_lots)
    (F__law_in_sequence : FunAt K mg "_law_in_sequence" s_law_in_sequence)
    (F__law_is_within : FunAt K mg "_law_is_within" s_law_is_within)
    (F__law_outside : FunAt K mg "_law_outside" s_law_outside)
    (F__law_lot : FunAt K mg "_law_lot" s_law_lot)
    (F__law_rest : FunAt K mg "_law_rest" s_law_rest)
    (F__law_table : FunAt K mg "_law_table" s_law_table)
    (F__law_rows : FunAt K mg "_law_rows" s_law_rows)
    (F__law_is_lot : FunAt K mg "_law_is_lot" s_law_is_lot)
    (F__law_bundles : FunAt K mg "_law_bundles" s_law_bundles)
    (F__law_is_difference : FunAt K mg "_law_is_difference" s_law_is_difference)
    (F__law_right : FunAt K mg "_law_right" s_law_right)
    (aL : PySem.W.nsIn K mainGlobals "law" = some (some (.ref fL)))
    (FL : Fun K "law" "law" slaw fL fdL)
    : ∃ (fd : FuncData) (c T : Addr), h.get? T = some { cls := .none, data := .fields #[] } ∧ PySem.W.CodeHd h c T ∧ K.lookup T = none ∧ (∀ (s : Shared) (v : Value), BindsTo s fd ⟨[v], []⟩ [("_law_script", v)]) ∧ ∀ base : Heap, K.In base → base.Ns mainGlobals mg → LamX.TabB base mg c T → FnG l.prog w K mg base CX0 13 fa fd ["_law_script"] (spLaw T K) := by
  have e := hfa.symm.trans (PySem.W.mg_of X G aL)
  cases e
  have T : Txt mg := ⟨PySem.W.mg_none_of X G t0, PySem.W.mg_none_of X G t1, PySem.W.mg_none_of X G t2, PySem.W.mg_none_of X G t3, PySem.W.mg_none_of X G t4, PySem.W.mg_none_of X G t5, PySem.W.mg_none_of X G t6, PySem.W.mg_none_of X G t7, PySem.W.mg_none_of X G t8, PySem.W.mg_none_of X G t9, PySem.W.mg_none_of X G t10, PySem.W.mg_none_of X G t11, PySem.W.mg_none_of X G t12, PySem.W.mg_none_of X G t13, PySem.W.mg_none_of X G t14, PySem.W.mg_none_of X G t15, PySem.W.mg_none_of X G t16, PySem.W.mg_none_of X G t17, PySem.W.mg_none_of X G t18, PySem.W.mg_none_of X G t19⟩
  refine ⟨fdL, cR, TR, g1, g2, hno, fun s v => ?_, fun base _ _ TB => ?_⟩
  · obtain ⟨oc, od, kV, doc, pm, an, cdv, ct, osl, rfl, _, _⟩ := FL.ex
    exact .of_eq rfl
  · have M_int : True := trivial
    have MMOST_LETTERS : ∃ t, mg "MOST_LETTERS" = some (.int 8 t) := ⟨_, PySem.W.mg_of X G i0⟩
    have MMOST_DEVICES : ∃ t, mg "MOST_DEVICES" = some (.int 6 t) := ⟨_, PySem.W.mg_of X G i1⟩
    have MMOST_BUNDLES : ∃ t, mg "MOST_BUNDLES" = some (.int 64 t) := ⟨_, PySem.W.mg_of X G i2⟩
    have MLETTERS : ∃ t, mg "LETTERS" = some (.str letters26 t) := ⟨_, PySem.W.mg_of X G s0⟩
    have R : RCls K C0 := ⟨⟨pgC0, hdC0, poC0, saC0⟩, nC0_0, nC0_1, nC0_2, nC0_3⟩
    have FC0_init : FunD K "__init__" "Rules.__init__" (defArgs sRules_init) (defBody sRules_init) (defScope sRules_init) [.ref DC0_init] [] fC0_init _ := ⟨⟨_, _, _, _, _, _, _, _, _, _, rfl, lC0_init, cC0_init, .inr ⟨by simp, TC0_init, _, [.ref DC0_init], nTC0_init, rfl, lTC0_init, by rw [← eTC0_init, Array.toArray_toList], .cons rfl .nil⟩, .inl rfl⟩, kC0_init⟩
    obtain ⟨dsAC0_init, vAC0_init, bAC0_init⟩ := FC0_init.binds1 (ps := PRules_init) 3 1 (by simp) rfl fun T kV doc pm an cdv ct us its hl hi => match us, hl, its, hi with | [_, _, _], _, [_], _ => ⟨_, rfl, rfl⟩
    obtain ⟨dsBC0_init, vBC0_init, bBC0_init⟩ := FC0_init.binds1 (ps := PRules_init) 2 0 (by simp) rfl fun T kV doc pm an cdv ct us its hl hi => match us, hl, its, hi with | [_, _], _, [_], _ => ⟨_, rfl, rfl⟩
    have x0C0_init : ∀ H, SqT K H DC0_init [] := fun H => .inr ⟨_, _, _, lDC0_init, rfl, rfl, by rw [← Array.length_toList, eDC0_init]; exact Nat.zero_le _, by rw [eDC0_init]; exact .nil⟩
    have FC0_rest := fun_mk (st := sRules_rest) lC0_rest cC0_rest kC0_rest
    have bC0_rest := FC0_rest.binds (ps := PRules_rest) fun _ _ _ _ _ _ us hl => match us, hl with | [_, _], _ => rfl
    have FC0_eq := fun_mk (st := sRules_eq) lC0_eq cC0_eq kC0_eq
    have bC0_eq := FC0_eq.binds (ps := PRules_eq) fun _ _ _ _ _ _ us hl => match us, hl with | [_, _], _ => rfl
    have Dn := ok_is_name (P := l.prog) (w := w) (base := base) F_is_name T MMOST_LETTERS MLETTERS
    have Dd := ok_are_devices F_are_devices T MMOST_DEVICES Dn
    have Dl := ok_is_lot (P := l.prog) (w := w) (base := base) F_is_lot T
    have DlD := ok_is_lotD (P := l.prog) (w := w) (base := base) F_is_lot T
    have Db := ok_is_bundle F_is_bundle T Dl
    have Dbs := ok_are_bundles F_are_bundles T MMOST_BUNDLES Db
    have Dnl := ok_need_lot F_need_lot T Dl
    have Dm := ok_mask_of (P := l.prog) (w := w) (base := base) F_mask_of T
    have Dlo := ok_lot_of (P := l.prog) (w := w) (base := base) F_lot_of T
    have De := ok_end_of (P := l.prog) (w := w) (base := base) F_end_of T
    have Deb := ok_ends_by F_ends_by T De
    have Deo := ok_ends_of F_ends_of T Dm Deb
    have Dlos := ok_lots_of F_lots_of T Dlo
    have Dro := ok_rests_of F_rests_of T Dlos
    have GI := ok_Rules_init FC0_init R Dd Dbs Deo Dro
    have DC : DefC l.prog w K mg base 4 C0 "Rules" PRules_init [.ref DC0_init] (spRInit K C0) := ⟨fC0_init, _, dsBC0_init, GI, PySem.W.mg_of X G aC0, ⟨mkC0, aC0_init, iC0_init, kcC0⟩, by cases vAC0_init; exact bAC0_init, vBC0_init, bBC0_init⟩
    have RE : REqC K C0 := ⟨ceC0, chC0, ctC0, cmC0, cnC0⟩
    have Me : DefM l.prog w K mg base 1 C0 "__eq__" PRules_eq (spREqD K C0) := ⟨fC0_eq, _, ok_Rules_eqD FC0_eq T R RE (PySem.W.mg_of X G aC0), ⟨aC0_eq, iC0_eq, kC0_eq⟩, yC0_eq, bC0_eq⟩
    have Mr : DefM l.prog w K mg base 3 C0 "rest" PRules_rest (spRRest K C0) := ⟨fC0_rest, _, ok_Rules_rest FC0_rest R Dnl Dlo Dm, ⟨aC0_rest, iC0_rest, kC0_rest⟩, yC0_rest, bC0_rest⟩
    have FI := fun_mk (st := sWakeError_init) lI cI kI
    have Finit := ok_WakeError_init (P := l.prog) (w := w) (mg := mg) (base := base) FI
    have GE : ErrF K mg fI _ CO CW := ⟨PySem.W.mg_of X G cO, PySem.W.mg_of X G cW, errB_ok e1, tI, FI.binds fun _ _ _ _ _ _ us hl => match us, hl with | [_, _], _ => rfl, xO, kOO⟩
    have Dsm := ok_need_same (P := l.prog) (w := w) (base := base) F_need_same_devices R
    have DsmX := ok_need_sameX F_need_same_devices R GE Finit
    have Dap := ok_apart F__apart T R Mr
    have Ddf := ok_differ F_differ T R Dsm Dap
    have DdfX := ok_differX F_differ T R DsmX Dap
    have Dhf := ok_has_formD (P := l.prog) (w := w) (base := base) (K := K) F_has_form T
    have Dsd := ok_shows_differD F_shows_differ T R Dsm Me Dhf DlD Dap
    have DsdX := ok_shows_differX F_shows_differ T R DsmX Me Dhf DlD Dap
    have L1 := ok_take (P := l.prog) (w := w) (base := base) F__law_take T
    have L2 := ok_of F__law_of T L1
    have L3 := ok_some F__law_some T L1
    have L4 := ok_names F__law_names T L3
    have L5 := ok_devices F__law_devices T L1 L4
    have L6 := ok_lots (P := l.prog) (w := w) (base := base) F__law_lots T
    have L7 := ok_seq (P := l.prog) (w := w) (base := base) F__law_in_sequence T
    have L8 := ok_within (P := l.prog) (w := w) (base := base) F__law_is_within T
    have L9 := ok_outside (P := l.prog) (w := w) (base := base) F__law_outside T
    have L10 := ok_lot F__law_lot T L3 L2 L7
    have L11 := ok_rest F__law_rest T L7 L8
    have L12 := ok_table F__law_table T L6 L11
    have L13 := ok_rows F__law_rows T L1 L2 L3 L7 L9 L10
    have N3 := ok_l_is_lot F__law_is_lot T L7
    have N4 := ok_is_diff F__law_is_difference T N3
    have N5 := ok_lbundles (P := l.prog) (w := w) (base := base) F__law_bundles T
    have O1 := Two.ok_odd F__law_odd T L2
    have B3 := Two.bent_all F__law_bent T L1 L2 O1 3
    have FT := fun_mk (st := s_law_told) lT cT kT
    have WT : ToldAt K mg gT cdT ocT .none kVT docT pmT ctT anT odT oslT := ⟨PySem.W.mg_of X G aT, kT, lT, cT, FT.binds fun _ _ _ _ _ _ us hl => match us, hl with | [_], _ => rfl⟩
    have A0 : ∀ H : Hp, SqT K H DC0_init [] := fun H => .inr ⟨_, itDC0_init, nDC0_init, lDC0_init, rfl, rfl, by rw [← Array.length_toList, eDC0_init]; exact Nat.zero_le _, by rw [eDC0_init]; exact .nil⟩
    have L14 := ok_right F__law_right T R RE GE WT TB (code_of X G htab) (PySem.W.mg_of X G aC0) DC A0 Me Ddf Dsd DdfX DsdX L2 O1 L10 B3 L5 L13 L12 N5 N4
    exact ok_law FL T (ok_pot F__law_pot T) (ok_cells F__law_cells T) L14

end Wk
open PySem PySem.W PyProof.Rows
set_option maxHeartbeats 0
theorem PySem.Challenge.cw_wakesothers_k09_how_rules_differ_holds : PySem.Challenge.rw_wakesothers_k09_how_rules_differ.Holds := by
  refine hd09 ?_
  k_fill
  refine Wk.walkGT (l := PySem.Challenge.rw_wakesothers_k09_how_rules_differ) (k := 13) (x := "_law_script") (sp := fun T w => Wk.spLaw T _) rfl (by decide) rfl ⟨rfl, by decide, by decide⟩ (fun w h Y => PySem.W.km_in_of Y) ?F (fun T _ _ a ns _ hT hS => ⟨a, ns, rfl, hS, hT, fun _ => rfl⟩)
  case F =>
    intro w mg fa h Y KX G hmg
    refine' Wk.all_mk KX G hmg ?cW ?cO ?aI ?lI ?cI ?kI ?e1 ?tI ?xO ?kOO ?aT ?lT ?cT ?kT ?htab ?hno ?g1 ?g2 ?t0 ?t1 ?t2 ?t3 ?t4 ?t5 ?t6 ?t7 ?t8 ?t9 ?t10 ?t11 ?t12 ?t13 ?t14 ?t15 ?t16 ?t17 ?t18 ?t19 ?i0 ?i1 ?i2 ?s0 ?aC0 ?aC0_init ?iC0_init ?lC0_init ?cC0_init ?kC0_init ?yC0_init ?lTC0_init ?eTC0_init ?lDC0_init ?eDC0_init ?aC0_rest ?iC0_rest ?lC0_rest ?cC0_rest ?kC0_rest ?yC0_rest ?aC0_eq ?iC0_eq ?lC0_eq ?cC0_eq ?kC0_eq ?yC0_eq ?pgC0 ?hdC0 ?poC0 ?saC0 ?mkC0 ?kcC0 ?ceC0 ?chC0 ?ctC0 ?cmC0 ?cnC0 ?nC0_0 ?nC0_1 ?nC0_2 ?nC0_3 ?F_is_name ?F_are_devices ?F_has_form ?F_is_lot ?F_is_bundle ?F_are_bundles ?F_need_lot ?F_need_same_devices ?F_mask_of ?F_lot_of ?F_end_of ?F_ends_of ?F_ends_by ?F_lots_of ?F_rests_of ?F__apart ?F_differ ?F_shows_differ ?F__law_pot ?F__law_take ?F__law_of ?F__law_cells ?F__law_some ?F__law_odd ?F__law_bent ?F__law_names ?F__law_devices ?F__law_lots ?F__law_in_sequence ?F__law_is_within ?F__law_outside ?F__law_lot ?F__law_rest ?F__law_table ?F__law_rows ?F__law_is_lot ?F__law_bundles ?F__law_is_difference ?F__law_right ?aL ?FL
    (case cW => k_is)
    (case cO => k_is)
    (case aI => k_is)
    (case lI => k_is)
    (case cI => k_is)
    (case kI => k_is)
    (case e1 => kernel_rfl)
    (case tI => k_is)
    (case xO => (first | kernel_rfl | k_is))
    (case kOO => (first | kernel_rfl | k_is))
    (case aT => k_is)
    (case lT => k_is)
    (case cT => k_is)
    (case kT => k_is)
    (case htab => (first | k_is | rfl))
    (case hno => (first | kernel_rfl | k_is))
    (case g1 => exact PySem.W.km_tabs_of Y _ (by decide))
    (case g2 => exact PySem.W.codeHd_of_K KX (by kernel_rfl))
    (case t0 => k_is)
    (case t1 => k_is)
    (case t2 => k_is)
    (case t3 => k_is)
    (case t4 => k_is)
    (case t5 => k_is)
    (case t6 => k_is)
    (case t7 => k_is)
    (case t8 => k_is)
    (case t9 => k_is)
    (case t10 => k_is)
    (case t11 => k_is)
    (case t12 => k_is)
    (case t13 => k_is)
    (case t14 => k_is)
    (case t15 => k_is)
    (case t16 => k_is)
    (case t17 => k_is)
    (case t18 => k_is)
    (case t19 => k_is)
    (case i0 => k_is)
    (case i1 => k_is)
    (case i2 => k_is)
    (case s0 => k_is)
    (case aC0 => k_is)
    (case aC0_init => k_is)
    (case iC0_init => k_is)
    (case lC0_init => k_is)
    (case cC0_init => k_is)
    (case kC0_init => k_is)
    (case yC0_init => k_is)
    (case lTC0_init => k_is)
    (case eTC0_init => rfl)
    (case lDC0_init => k_is)
    (case eDC0_init => rfl)
    (case aC0_rest => k_is)
    (case iC0_rest => k_is)
    (case lC0_rest => k_is)
    (case cC0_rest => k_is)
    (case kC0_rest => k_is)
    (case yC0_rest => k_is)
    (case aC0_eq => k_is)
    (case iC0_eq => k_is)
    (case lC0_eq => k_is)
    (case cC0_eq => k_is)
    (case kC0_eq => k_is)
    (case yC0_eq => k_is)
    (case pgC0 => k_is)
    (case hdC0 => k_is)
    (case poC0 => k_is)
    (case saC0 => k_is)
    (case mkC0 => k_is)
    (case kcC0 => k_is)
    (case ceC0 => k_is)
    (case chC0 => k_is)
    (case ctC0 => k_is)
    (case cmC0 => k_is)
    (case cnC0 => k_is)
    (case nC0_0 => k_is)
    (case nC0_1 => k_is)
    (case nC0_2 => k_is)
    (case nC0_3 => k_is)
    (case F_is_name => (refine' Wk.funAt_mk KX G ?a ?l ?c ?k; (case a => k_is); (case l => k_is); (case c => k_is); (case k => k_is)))
    (case F_are_devices => (refine' Wk.funAt_mk KX G ?a ?l ?c ?k; (case a => k_is); (case l => k_is); (case c => k_is); (case k => k_is)))
    (case F_has_form => (refine' Wk.funAt_mk KX G ?a ?l ?c ?k; (case a => k_is); (case l => k_is); (case c => k_is); (case k => k_is)))
    (case F_is_lot => (refine' Wk.funAt_mk KX G ?a ?l ?c ?k; (case a => k_is); (case l => k_is); (case c => k_is); (case k => k_is)))
    (case F_is_bundle => (refine' Wk.funAt_mk KX G ?a ?l ?c ?k; (case a => k_is); (case l => k_is); (case c => k_is); (case k => k_is)))
    (case F_are_bundles => (refine' Wk.funAt_mk KX G ?a ?l ?c ?k; (case a => k_is); (case l => k_is); (case c => k_is); (case k => k_is)))
    (case F_need_lot => (refine' Wk.funAt_mk KX G ?a ?l ?c ?k; (case a => k_is); (case l => k_is); (case c => k_is); (case k => k_is)))
    (case F_need_same_devices => (refine' Wk.funAt_mk KX G ?a ?l ?c ?k; (case a => k_is); (case l => k_is); (case c => k_is); (case k => k_is)))
    (case F_mask_of => (refine' Wk.funAt_mk KX G ?a ?l ?c ?k; (case a => k_is); (case l => k_is); (case c => k_is); (case k => k_is)))
    (case F_lot_of => (refine' Wk.funAt_mk KX G ?a ?l ?c ?k; (case a => k_is); (case l => k_is); (case c => k_is); (case k => k_is)))
    (case F_end_of => (refine' Wk.funAt_mk KX G ?a ?l ?c ?k; (case a => k_is); (case l => k_is); (case c => k_is); (case k => k_is)))
    (case F_ends_of => (refine' Wk.funAt_mk KX G ?a ?l ?c ?k; (case a => k_is); (case l => k_is); (case c => k_is); (case k => k_is)))
    (case F_ends_by => (refine' Wk.funAt_mk KX G ?a ?l ?c ?k; (case a => k_is); (case l => k_is); (case c => k_is); (case k => k_is)))
    (case F_lots_of => (refine' Wk.funAt_mk KX G ?a ?l ?c ?k; (case a => k_is); (case l => k_is); (case c => k_is); (case k => k_is)))
    (case F_rests_of => (refine' Wk.funAt_mk KX G ?a ?l ?c ?k; (case a => k_is); (case l => k_is); (case c => k_is); (case k => k_is)))
    (case F__apart => (refine' Wk.funAt_mk KX G ?a ?l ?c ?k; (case a => k_is); (case l => k_is); (case c => k_is); (case k => k_is)))
    (case F_differ => (refine' Wk.funAt_mk KX G ?a ?l ?c ?k; (case a => k_is); (case l => k_is); (case c => k_is); (case k => k_is)))
    (case F_shows_differ => (refine' Wk.funAt_mk KX G ?a ?l ?c ?k; (case a => k_is); (case l => k_is); (case c => k_is); (case k => k_is)))
    (case F__law_pot => (refine' Wk.funAt_mk KX G ?a ?l ?c ?k; (case a => k_is); (case l => k_is); (case c => k_is); (case k => k_is)))
    (case F__law_take => (refine' Wk.funAt_mk KX G ?a ?l ?c ?k; (case a => k_is); (case l => k_is); (case c => k_is); (case k => k_is)))
    (case F__law_of => (refine' Wk.funAt_mk KX G ?a ?l ?c ?k; (case a => k_is); (case l => k_is); (case c => k_is); (case k => k_is)))
    (case F__law_cells => (refine' Wk.funAt_mk KX G ?a ?l ?c ?k; (case a => k_is); (case l => k_is); (case c => k_is); (case k => k_is)))
    (case F__law_some => (refine' Wk.funAt_mk KX G ?a ?l ?c ?k; (case a => k_is); (case l => k_is); (case c => k_is); (case k => k_is)))
    (case F__law_odd => (refine' Wk.funAt_mk KX G ?a ?l ?c ?k; (case a => k_is); (case l => k_is); (case c => k_is); (case k => k_is)))
    (case F__law_bent => (refine' Wk.funAt_mk KX G ?a ?l ?c ?k; (case a => k_is); (case l => k_is); (case c => k_is); (case k => k_is)))
    (case F__law_names => (refine' Wk.funAt_mk KX G ?a ?l ?c ?k; (case a => k_is); (case l => k_is); (case c => k_is); (case k => k_is)))
    (case F__law_devices => (refine' Wk.funAt_mk KX G ?a ?l ?c ?k; (case a => k_is); (case l => k_is); (case c => k_is); (case k => k_is)))
    (case F__law_lots => (refine' Wk.funAt_mk KX G ?a ?l ?c ?k; (case a => k_is); (case l => k_is); (case c => k_is); (case k => k_is)))
    (case F__law_in_sequence => (refine' Wk.funAt_mk KX G ?a ?l ?c ?k; (case a => k_is); (case l => k_is); (case c => k_is); (case k => k_is)))
    (case F__law_is_within => (refine' Wk.funAt_mk KX G ?a ?l ?c ?k; (case a => k_is); (case l => k_is); (case c => k_is); (case k => k_is)))
    (case F__law_outside => (refine' Wk.funAt_mk KX G ?a ?l ?c ?k; (case a => k_is); (case l => k_is); (case c => k_is); (case k => k_is)))
    (case F__law_lot => (refine' Wk.funAt_mk KX G ?a ?l ?c ?k; (case a => k_is); (case l => k_is); (case c => k_is); (case k => k_is)))
    (case F__law_rest => (refine' Wk.funAt_mk KX G ?a ?l ?c ?k; (case a => k_is); (case l => k_is); (case c => k_is); (case k => k_is)))
    (case F__law_table => (refine' Wk.funAt_mk KX G ?a ?l ?c ?k; (case a => k_is); (case l => k_is); (case c => k_is); (case k => k_is)))
    (case F__law_rows => (refine' Wk.funAt_mk KX G ?a ?l ?c ?k; (case a => k_is); (case l => k_is); (case c => k_is); (case k => k_is)))
    (case F__law_is_lot => (refine' Wk.funAt_mk KX G ?a ?l ?c ?k; (case a => k_is); (case l => k_is); (case c => k_is); (case k => k_is)))
    (case F__law_bundles => (refine' Wk.funAt_mk KX G ?a ?l ?c ?k; (case a => k_is); (case l => k_is); (case c => k_is); (case k => k_is)))
    (case F__law_is_difference => (refine' Wk.funAt_mk KX G ?a ?l ?c ?k; (case a => k_is); (case l => k_is); (case c => k_is); (case k => k_is)))
    (case F__law_right => (refine' Wk.funAt_mk KX G ?a ?l ?c ?k; (case a => k_is); (case l => k_is); (case c => k_is); (case k => k_is)))
    (case aL => k_is)
    (case FL => (refine' Wk.funL_mk ?l ?c ?k; (case l => k_is); (case c => k_is); (case k => k_is)))

