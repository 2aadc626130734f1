import PyProof.Rows.All
import Wide.All
import OpenK.AllK
import Wide.FinOn
import HandS.ForMost
import HandS.ForExc
import HandS.ExcInit
import HandS.ExcField
import HandS.IsInst
import HandS.Wide
import PyProof.ReprRoads
import KE.KExcIs
import HandS.Style
import HandS.TupAny
import HandS.Conv
import HandS.Dict
import PyProof.NeData
import PySem.Challenge.RW_wakesothers_k00_errors_and_what_they_kee
set_option Elab.async false
set_option linter.all false
set_option maxRecDepth 100000
set_option maxHeartbeats 0
section
open PySem PySem.W PyProof.Rows
open_top hd00 for PySem.Challenge.rw_wakesothers_k00_errors_and_what_they_kee
end
namespace Wk
open PySem PySem.Spec PyProof.Rows L2
set_option maxHeartbeats 4000000

/-! ## defs that are called where no repr runs -/
structure FnG (P : Program) (w : World) (K : PySem.W.Frag) (mg : Str → Option Value) (base : Heap) (CX : CXT) (k : Nat) (f : Addr) (fd : FuncData) (ps : List Str) (sp : Sp) : Prop where
  len : ∀ vs H Q E, sp vs H Q E → vs.length = ps.length
  go : ∀ (A : Around) (outer : List Env) (s : Shared) (H : Hp) (args : Args) (us : List Value) (vs : List V) (Q : VK) (E : XK),
    A.guards = some [] → Room k A → Env0 P w K mg base A outer s H → BindsTo s fd args (ps.zip us) → Vals vs us → sp vs H Q E →
    codeAny (model P w) A (.call (.ref f) args) (CR CX outer P w H s Q E) s

section
variable {P : Program} {w : World} {K : PySem.W.Frag} {mg : Str → Option Value} {base : Heap}
theorem FnG.ofOk {CX : CXT} {k : Nat} {f : Addr} {fd : FuncData} {ps : List Str} {sp : Sp} (F : FnOk P w K mg base CX k f fd ps sp) : FnG P w K mg base CX k f fd ps sp :=
  ⟨F.len, fun A outer s H args us vs Q E _ hr e0 hb r h => F.run A outer s H args us vs Q E hr e0 hb r h⟩

/-- a def of the text by its body, where no repr runs around the call -/
theorem funG {x qual : Str} {st : Stmt} {f : Addr} {fd : FuncData} {N ps : List Str} {k : Nat} {sp : Sp} (F : Fun K x qual st f fd) (S : FnScope N ps (defScope st))
    (len : ∀ vs H Q E, sp vs H Q E → vs.length = ps.length)
    (hbody : ∀ (cdv : Value) (A : Around) (outer : List Env) (s : Shared) (H : Hp) (vs : List V) (Q : VK) (E : XK),
      (A.deeper (envOfC qual (defScope st) s.heap.objs.size f cdv)).guards = some [] →
      Room k (A.deeper (envOfC qual (defScope st) s.heap.objs.size f cdv)) → sp vs H Q E →
      ∃ t, PSs (cxOf CX0 P w K mg base N qual (defScope st) f cdv A outer s H E).nox (defBody st) t ∧
        t { nx := fun _ H' => Q .non H', rt := Q } (start N vs) H) :
    FnG P w K mg base CX0 (k + 1) f fd ps sp := by
  obtain ⟨oc, od, kV, doc, pm, an, cdv, ct, osl, rfl, lk, hcd⟩ := F.ex
  refine ⟨len, fun A outer s H args us vs Q E hgd hr e0 hb r hsp => ?_⟩
  have hl := len _ _ _ _ hsp
  have KX : K.In s.heap := e0.mod.kin.keeps fun b o e => (e0.bs b o e).1
  have lim : s.heap.NoLimit := e0.mod.nolimit.keeps fun b o e => (e0.bs b o e).1
  have kinds : ∀ y ∈ ps.zip us, (defScope st).names.lookup y.1 = some .local ∨
      ((defScope st).names.lookup y.1 = some .cell ∧ ((cellsFrom (s.heap.objs.size + 1) (defScope st).names []).lookup y.1).isSome = true) := by
    rintro ⟨n, v⟩ hy
    rcases S.par n (List.of_mem_zip hy).1 with q | q
    · exact .inl q
    · exact .inr ⟨q, PySem.W.cellsFrom_some _ _ _ (.inl q)⟩
  refine codeAny_call_function hr.depth (KX _ _ lk) rfl S.co S.gen rfl (PySem.W.codeRec_of KX hcd) (hb _ _ _ _ ?_)
  refine wpAny_newFunctionEnv_cells S.kind kinds fun env he s1 x => ?_
  subst he
  refine ⟨lim.keeps x.toInCall.keep, codeAny_func ?_⟩
  obtain ⟨t, ht, hq⟩ := hbody cdv A outer s H vs Q E (by first | exact hgd | (show A.guards = some []; exact hgd)) (hr.deeper _) hsp
  have I := inv_start (CX := CX0) (N := N) (f := f) (cd := cdv) (qual := qual) (E := E) S hr.hd e0 hl r x
  refine wpAny_mono (ht.nox.run [] s1 (start N vs) H _ I hq) (fun fl s' hs => ?_) fun e s' hs => hs
  cases fl with
  | ret u =>
    obtain ⟨v, σ', H', J, rv, q⟩ := hs
    exact ⟨v, H', J.os, J.bare, J.base, J.hok, rv, q⟩
  | next =>
    obtain ⟨σ', H', J, q⟩ := hs
    exact ⟨V.non, H', J.os, J.bare, J.base, J.hok, rfl, q⟩
  | brk =>
    obtain ⟨_, _, _, q⟩ := hs
    exact False.elim q
  | cont =>
    obtain ⟨_, _, _, q⟩ := hs
    exact False.elim q
end

section
variable {X : Cx} {CX : CXT} {k : Nat} {f : Addr} {fd : FuncData} {ps : List Str} {sp : Sp} {dvs : List V} {ds : List Value} {E : XK} {x : Str} {p pos : Pos} {e : Expr} {es : List Expr} {t : TA}
theorem runG {pins : List (Addr × Obj)} {σ : L2.St} {H : Hp} {s : Shared} {Q : VK} {us : List Value} {vs : List V} (F : FnG X.prog X.w X.K X.mg X.base CX k f fd ps sp)
    (hgd : X.A.guards = some []) (hr : Room k X.A) (hb : Binds X.K fd ps ds) (hd : Vals dvs ds) (hx : Passes CX X E)
    (I : Inv X pins σ H s) (r : Vals vs us) (h : sp (vs ++ dvs) H Q E) : wpAny (model X.prog X.w) X.A (call (.ref f) us) (EP X pins σ Q) X.xe s := by
  have r2 : Vals (vs ++ dvs) (us ++ ds) := r.append hd
  have hl : (us ++ ds).length = ps.length := (r2.length).symm.trans (F.len _ _ _ _ h)
  refine wpAny_call (codeAny_mono (F.go X.A X.stack s H ⟨us, []⟩ _ _ Q E hgd hr I.env0 (hb s us I.kIn hl) r2 h) fun r s' hq => ?_)
  match r, hq with
  | .error e, hq => exact hx pins σ H s e s' I hq
  | .ok (.ret u), hq => exact I.after hq
theorem pe_callG (F : FnG X.prog X.w X.K X.mg X.base CX k f fd ps sp) (hgd : X.A.guards = some []) (hr : Room k X.A) (hg : Gl X x) (hm : X.mg x = some (.ref f)) (hk : PySem.W.keepIn X.K (.ref f) = true)
    (hb : Binds X.K fd ps ds) (hd : Vals dvs ds) (hx : Passes CX X E) (ha : PA X (e :: es) t)
    (hdb : (x == ("__debug__" : Str)) = false := by decide) (he : starEach (e :: es) X.env = (false, eval e X.env) :: starEach es X.env := by rfl)
    (hpl : (backTo pos (starEach es X.env)).any (·.1) = false := by rfl) :
    PE X (.Call (.Name x p) (e :: es) [] pos) (tCall sp dvs E t) :=
  ⟨fun pins s σ H Q I h => wpAny_Call_Name_kw (ld_glob I hg hm (PySem.W.callWith_K (h₀ := X.base) I.ok.mod.kin hk
    (thn (ha.run pos pins s σ H _ I h) fun us s1 ⟨vs, H1, I1, r, q⟩ => ⟨I1.kIn, runG F hgd hr hb hd hx I1 r q⟩) he hpl) hdb)⟩
end

/-! ## the law's own call -/
/-- from a heap that holds the script alone -/
theorem lawRun {P : Program} {w : World} {K : PySem.W.Frag} {mg mb : Str → Option Value} {k : Nat} {fa a : Addr} {fd : FuncData} {x : Str} {sp : Sp} {s₁ : Shared} {vs : List Value} {H : Hp}
    (KX : K.In s₁.heap) (hns : s₁.heap.Ns mainGlobals mg) (hb : s₁.heap.Ns builtinsNs mb) (hbb : ∀ x : Str, x ≠ "__name__" → mb x = bootBuiltins x)
    (hlim : s₁.heap.NoLimit) (hg : s₁.gens = #[]) (ha : s₁.heap.get? a = some { cls := .type "list", data := .seq vs.toArray })
    (hr : Room k callerA) (F : ∀ base : Heap, K.In base → base.Ns mainGlobals mg → FnG P w K mg base CX0 k fa fd [x] sp)
    (hbind : ∀ (s : Shared) (u : Value), BindsTo s fd ⟨[u], []⟩ [(x, u)])
    (hsp : sp [.ref a] H (fun v _ => v = .bl true) fun _ _ _ => False)
    (hO : Only H) (hok : HOk P w H s₁.heap) (hA : ∀ b, H b ≠ none → b = a) (hK : H a ≠ none → K.lookup a = none) :
    codeAny (model P w) callerA (.call (.ref fa) ⟨[.ref a], []⟩) (fun r s' => r = .ok (.ret (.bool true)) ∧ OldK s₁.heap s'.heap ∧ s'.os = s₁.os ∧ AllBare s'.gens) s₁ := by
  have out : ∀ {b : Addr} {u : HO}, H b = some u → b = a := fun {b u} q => hA b (by rw [q]; exact fun z => nomatch z)
  have nodict : ∀ {b : Addr} {o : Obj} {es : Array DictEntry} {ep : Nat}, s₁.heap.get? b = some o → o.data = .dict es ep → H b = none := by
    intro b o es ep e d
    cases q : H b with
    | none => rfl
    | some u =>
      obtain rfl := out q
      rw [ha] at e
      obtain rfl := Option.some.inj e
      cases d
  have hide : ∀ {b : Addr} {m : Str → Option Value}, s₁.heap.Ns b m → (hidT s₁.heap H).Ns b m := by
    rintro b m ⟨o, es, ep, e, d, r⟩
    exact ⟨o, es, ep, hidT_get e (nodict e d), d, r⟩
  have hKb : K.In (hidT s₁.heap H) := by
    intro b o e
    refine hidT_get (KX b o e) ?_
    cases q : H b with
    | none => rfl
    | some u =>
      obtain rfl := out q
      rw [hK (by rw [q]; exact fun z => nomatch z)] at e
      cases e
  have hM : Mod K mg (hidT s₁.heap H) := by
    obtain ⟨mc, h1, h2⟩ := hlim
    exact ⟨hKb, hide hns, ⟨mb, hide hb, hbb⟩, ⟨mc, hide h1, h2⟩⟩
  have e0 : Env0 P w K mg (hidT s₁.heap H) callerA [] s₁ H :=
    { frames := rfl, mod := hM, bs := fun _ _ e => of_hidT e, bsz := Nat.le_of_eq (hidT_size _ _), funs := trivial
      frf := (fun b hb => absurd (show b ∈ ([] : List Addr) from hb) (by simp)), hok := hok, bare := .of_eq hg }
  refine codeAny_mono ((F _ hKb (hide hns)).go callerA [] s₁ H ⟨[.ref a], []⟩ [.ref a] [.ref a] _ _ rfl hr e0 (hbind s₁ (.ref a)) (.cons rfl .nil) hsp) fun r s' h => ?_
  cases r with
  | error e => exact False.elim h
  | ok fl =>
   cases fl with
   | next => exact False.elim h
   | brk => exact False.elim h
   | cont => exact False.elim h
   | ret u =>
    obtain ⟨v, H', os, bare, un, hok', r', q⟩ := h
    obtain rfl : v = .bl true := q
    obtain rfl : u = Value.bool true := r'
    refine ⟨rfl, OldK.of_keep fun b o e => ?_, os, bare⟩
    cases q : H b with
    | none => exact un.keep b o e q (fun z => nomatch z) (fun z => nomatch z)
    | some u =>
      rcases hO b with z | ⟨ob, xs, z⟩
      · rw [q] at z
        cases z
      · have e1 := (hok b _ z).1
        have e2 := (hok' b _ (un.frzs b ob _ z)).1
        rw [e] at e1
        obtain rfl := Option.some.inj e1
        exact e2

theorem walkG {l : PySem.W.OpenLaw} {n k : Nat} {q : Program} {loose : List Str} {XP : (Str → Option Value) → Heap → Prop} {YP : World → Heap → Prop} {d : DefRec} {K : Params → PySem.W.Frag} {sp : World → Sp} {x : Str}
    (hn : l.most = some n) (hn2 : n ≤ sizeLine) (hdf : d.params.defaults = []) (hr : Room k callerA) (hY : ∀ (w : World) (h : Heap), YP w h → (K w.params).In h)
    (F : ∀ (w : World) (mg : Str → Option Value) (fa : Addr) (h : Heap), (K w.params).In h → h.Ns mainGlobals mg → mg d.name = some (.ref fa) →
      ∃ fd : FuncData, (∀ (s : Shared) (u : Value), BindsTo s fd ⟨[u], []⟩ [(x, u)]) ∧
        ∀ base : Heap, (K w.params).In base → base.Ns mainGlobals mg → FnG l.prog w (K w.params) mg base CX0 k fa fd [x] (sp w))
    (hsp : ∀ (w : World) (H : Hp) (a : Addr) (ns : List Int), ns.length ≤ n → Only H → SqL (K w.params) H a (ns.map V.int) → sp w [.ref a] H (fun v _ => v = .bl true) fun _ _ _ => False) :
    PySem.W.WalkO q loose XP YP l.row.toRowW d [] (fun f vs => PySem.call f vs) := by
  refine Att.attach_call hn hdf ?_
  intro w s₀ s₁ mg mb fa o pm cd doc a vs ns GG Y ho hd hcd hmg hobj hints hlen hg
  have KX := hY w _ Y
  obtain ⟨fd, hb, hF⟩ := F w mg fa _ KX GG.T.g hmg
  have rv := vals_ints hints
  have lenV := hints.length
  have hsz : ns.length ≤ sizeLine := Nat.le_trans hlen hn2
  cases hk : (K w.params).lookup a with
  | some o =>
    have e := KX a o hk
    rw [hobj] at e
    obtain rfl := Option.some.inj e
    refine lawRun (H := fun _ => none) KX GG.T.g GG.T.b GG.T.builtins GG.T.nolimit hg hobj hr hF hb
      (hsp w _ a ns hlen (fun _ => .inl rfl) (.inr ⟨_, vs.toArray, _, hk, rfl, rfl, rfl, ?_, ?_⟩)) (fun _ => .inl rfl) (fun _ _ z => nomatch z) (fun _ z => absurd rfl z) (fun z => absurd rfl z)
    · rw [List.size_toArray, lenV]
      exact hsz
    · simpa using rv
  | none =>
    have at_a : (fun b => if b = a then some (HO.frz { cls := .type "list", data := .seq vs.toArray } (.lst (ns.map V.int))) else none) a = some (HO.frz { cls := .type "list", data := .seq vs.toArray } (.lst (ns.map V.int))) := if_pos rfl
    refine lawRun (H := fun b => if b = a then some (HO.frz { cls := .type "list", data := .seq vs.toArray } (.lst (ns.map V.int))) else none) KX GG.T.g GG.T.b GG.T.builtins GG.T.nolimit hg hobj hr hF hb
      (hsp w _ a ns hlen ?_ (.inl (.inr ⟨_, at_a⟩))) ?_ ?_ ?_ (fun _ => hk)
    · intro b
      by_cases h : b = a
      · exact .inr ⟨_, _, if_pos h⟩
      · exact .inl (if_neg h)
    · intro b
      by_cases h : b = a
      · exact .inr ⟨_, _, if_pos h⟩
      · exact .inl (if_neg h)
    · intro b u z
      by_cases h : b = a
      · subst h
        rw [at_a] at z
        obtain rfl := Option.some.inj z
        exact ⟨hobj, by rw [List.length_map]; exact hsz, vs, _, rv, hobj⟩
      · dsimp only at z
        rw [if_neg h] at z
        cases z
    · intro b z
      by_cases h : b = a
      · exact h
      · exact absurd (if_neg h) z

/-! ## errors as values -/
/-- what the written part says of an error's class -/
structure ErrC (K : PySem.W.Frag) (D fI : Addr) : Prop where
  o : OexC K D
  x : XfC K D
  ini : PySem.W.findIn K (.ref D) "__init__" = some (some (.ref fI))
  inv : PySem.W.findIn K (.ref D) "value" = some none
  cc : PySem.W.findIn K (.ref D) "__class__" = some (some (.builtin "object.__class__"))
  cg : PySem.W.specialIn K (.builtin "object.__class__") "__get__" = some (some (.builtin "getset_descriptor.__get__"))
  ct : PySem.W.takesIn K (.builtin "object.__class__") = some true
  cm : PySem.W.mroIn K D (.type "object") = some true
/-- an error of the class D with this value stands at a -/
def ErrAt (H : Hp) (a D : Addr) (v : V) : Prop := ∃ d, H a = some (exo a D (some d)) ∧ H d = some (exd d [(("value" : Str), v)])

/-- D(e) as a value -/
def tErr (D : Addr) (sp : Sp) (t : TA) : TE := fun σ H Q => t σ H fun vs H1 => vs.length ≤ 1000 ∧
  ∀ a, H1 a = none → sp (.ref a :: vs) (upd H1 a (exo a D none)) (fun v H2 => v = .non ∧ Q (.ref a) H2) (fun _ _ _ => False)
section
variable {X : Cx}
theorem pe_err {x : Str} {D fI : Addr} {k : Nat} {fd : FuncData} {ps : List Str} {sp : Sp} {e : Expr} {es : List Expr} {t : TA} {p pos : Pos} (T : ErrC X.K D fI)
    (tI : PySem.W.typeIn X.K (.ref fI) = some (.type "function")) (F1 : FnOk X.prog X.w X.K X.mg X.base CX0 k fI fd ps sp) (hr : Room (k + 1) X.A) (hb : Binds X.K fd ps [])
    (hg : Gl X x) (hm : X.mg x = some (.ref D)) (ha : PA X (e :: es) t) (hdb : (x == ("__debug__" : Str)) = false := by decide)
    (he : starEach (e :: es) X.env = (false, eval e X.env) :: starEach es X.env := by rfl) (hpl : (backTo pos (starEach es X.env)).any (·.1) = false := by rfl) :
    PE X (.Call (.Name x p) (e :: es) [] pos) (tErr D sp t) := by
  refine ⟨fun pins s σ H Q I h => ?_⟩
  obtain ⟨nm, q, N, bs, bm, sn, sub, ab, col, dd, k0, k1, k2, k3, k5, hC, hbm⟩ := T.o.cls
  refine wpAny_Call_Name_kw (ld_glob I hg hm ?_ hdb)
  refine PySem.W.callWith_K (h₀ := X.base) I.ok.mod.kin T.o.kC (thn (ha.run pos pins s σ H _ I h) ?_) he hpl
  rintro us s1 ⟨vs, H1, I1, r1, hz, q1⟩
  refine ⟨I1.kIn, ?_⟩
  show wpAny _ _ (call (.ref D) us) _ _ _
  obtain ⟨hp, g, dr, tk, os⟩ := s1
  have hn : H1 (hp.objs.size + 1) = none := I1.hok.fresh (Nat.le_succ _)
  have hq := q1 _ hn
  have kk : ∀ b o, hp.get? b = some o → ((hp.push (PySem.W.kdv_tup us)).push (PySem.HandSPX.excO D hp.objs.size)).get? b = some o :=
    fun b o e => Heap.get?_push_of_some _ (Heap.get?_push_of_some _ e)
  have hget : ((hp.push (PySem.W.kdv_tup us)).push (PySem.HandSPX.excO D hp.objs.size)).get? (hp.objs.size + 1) = some (PySem.HandSPX.excO D hp.objs.size) := by
    heap_get
  have I2 : Inv X pins σ (upd H1 (hp.objs.size + 1) (exo (hp.objs.size + 1) D none)) ⟨(hp.push (PySem.W.kdv_tup us)).push (PySem.HandSPX.excO D hp.objs.size), g, dr, tk, os⟩ :=
    I1.laid (t' := tk) (a := hp.objs.size + 1) (o := exo (hp.objs.size + 1) D none) (h' := (hp.push (PySem.W.kdv_tup us)).push (PySem.HandSPX.excO D hp.objs.size))
      kk (Nat.le_succ _) (exo_ok hget)
  have r2 : Vals (V.ref (hp.objs.size + 1) :: vs) (Value.ref (hp.objs.size + 1) :: us) := .cons rfl r1
  have hl : (Value.ref (hp.objs.size + 1) :: us ++ []).length = ps.length := by
    rw [List.append_nil]
    exact r2.length.symm.trans (F1.len _ _ _ _ hq)
  have hbb := hb _ (Value.ref (hp.objs.size + 1) :: us) I2.kIn hl
  rw [List.append_nil] at hbb
  have hus : us.length ≤ sizeLine := by
    rw [← Paired.length r1, sizeLine_eq]
    omega
  refine wpAny_call (PySem.HandSPX.call_own F.excBase_ValueError (fun Y => PySem.HandSPX.refsVE_contains Y bm hbm) (I1.kIn _ _ hC) (PySem.W.looks_findIn I1.kIn T.ini)
    (fun self => PySem.W.bind_fn I1.kIn self tI) hus (codeAny_mono (F1.run _ X.stack _ _ ⟨Value.ref (hp.objs.size + 1) :: us, []⟩ _ _ _ (fun _ _ _ => False)
      (hr.make D us []) (I2.env0.make D us []) hbb r2 hq) fun r s' hq' => ?_))
  cases r with
  | error er => exact False.elim hq'
  | ok fl =>
    cases fl with
    | ret u =>
      obtain ⟨v, H2, I3, rv, ev, q3⟩ := I2.after hq'
      subst ev
      exact ⟨rv, ⟨V.ref (hp.objs.size + 1), H2, I3, rfl, q3⟩⟩
    | next => exact False.elim hq'
    | brk => exact False.elim hq'
    | cont => exact False.elim hq'

/-- e.value of an error -/
def tErrV (te : TE) : TE := fun σ H Q => te σ H fun x H1 => ∃ a D v, x = .ref a ∧ ErrAt H1 a D v ∧ (∃ K fI, ErrC K D fI) ∧ Q v H1
def tValue (K : PySem.W.Frag) (te : TE) : TE := fun σ H Q => te σ H fun x H1 => ∃ (a D fI : Addr) (v : V), x = .ref a ∧ ErrC K D fI ∧ ErrAt H1 a D v ∧ Q v H1
theorem err_inst {pins : List (Addr × Obj)} {σ : L2.St} {H : Hp} {s : Shared} {a D : Addr} {v : V} (I : Inv X pins σ H s) (h : ErrAt H a D v) :
    ∃ ox od, PySem.W.InstAt s.heap a ox D (some od) ∧ ∃ u, RelV v u ∧ PySem.W.lookIn ("value" : Str) od = some (some u) := by
  obtain ⟨d, ha, hd⟩ := h
  obtain ⟨t1, ho⟩ := exo_at I.hok ha
  obtain ⟨mA, hns, hr⟩ := exd_at I.hok hd
  obtain ⟨od, hod, hl⟩ := lookIn_ns hns
  have l : List.lookup ("value" : Str) [(("value" : Str), v)] = some v := by simp [List.lookup]
  obtain ⟨u, hu, ru⟩ := RelO.some_of (v := v) (o := mA "value") (by rw [← l]; exact hr "value")
  exact ⟨_, od, ⟨ho, rfl, rfl, hod⟩, u, ru, by rw [hl, hu]⟩
theorem pe_value {e : Expr} {te : TE} {pos : Pos} (he : PE X e te) (hb : attributeBase e "value" X.env (eval e X.env) = eval e X.env := by rfl) :
    PE X (.Attribute e "value" pos) (tValue X.K te) := by
  refine ⟨fun pins s σ H Q I h => attr_of hb (thn (he.run pins s σ H _ I h) ?_)⟩
  rintro u s1 ⟨x, H1, I1, rx, a, D, fI, v, ex, T, ea, q⟩
  subst ex
  obtain rfl : u = Value.ref a := rx
  obtain ⟨ox, od, J, w, rw', hl⟩ := err_inst I1 ea
  exact HandSPX.exc_get I1.kIn J T.x.ga T.x.gg T.x.exC (PySem.W.findObj_own T.x.hdC T.inv rfl hl) (handed_of rw') ⟨v, H1, I1.tok _, rw', q⟩
/-- isinstance(error, class) -/
def rIsErr (K : PySem.W.Frag) : List V → Hp → VK → Prop := fun xs H Q => ∃ (a D fI : Addr) (v c : V) (cv : Value) (b : Bool), xs = [.ref a, c] ∧ ErrC K D fI ∧ ErrAt H a D v ∧ ClsV c cv ∧ PySem.W.kitOne K (.ref D) cv = some b ∧ Q (.bl b) H
theorem call_isErr : CallR X (.builtin "isinstance") (rIsErr X.K) := by
  intro pins s σ H xs us Q I r h
  obtain ⟨a, D, fI, v, c, cv, b, rfl, T, ea, kc, e, q⟩ := h
  obtain ⟨u1, u2, rfl, r1, r2⟩ := vals2 r
  have e2 := kc.eq r2
  subst e2
  obtain rfl : u1 = Value.ref a := r1
  obtain ⟨ox, od, J, _⟩ := err_inst I ea
  have hcl : (PySem.W.clsIn X.K D).isSome = true := by
    have z := T.x.hdC
    unfold PySem.W.hasDictIn at z
    cases hc : PySem.W.clsIn X.K D with
    | none =>
      rw [hc] at z
      cases z
    | some cd => rfl
  exact PySem.W.kia_one (PySem.W.kitx_exc (ox := ox) (od := some od) hcl T.x.ga T.x.gg T.x.exC T.cc T.cg T.ct T.cm) I.kIn J e (fun z => nomatch z) fun tk => ⟨.bl b, H, I.tok tk, rfl, q⟩
end

/-! ## data: sizes -/
mutual
def okD : PyData → Bool
  | .none | .bool _ => true
  | .int i => decide (i.natAbs < 2 ^ 100)
  | .str x => x.cps.toList.all (fun c => decide (c < 128))
  | .list xs | .tuple xs => okA xs
  | .dict kvs => okKv kvs
def okA : List PyData → Bool
  | [] => true
  | x :: xs => okD x && okA xs
def okKv : List (PyData × PyData) → Bool
  | [] => true
  | (k, v) :: r => okD k && okD v && okKv r
end
mutual
def szD : PyData → Nat
  | .none | .bool _ => 5
  | .int _ => 110
  | .str x => 10 * x.length + 2
  | .list xs | .tuple xs => szA xs + 3
  | .dict kvs => szKv kvs + 2
def szA : List PyData → Nat
  | [] => 0
  | x :: xs => szD x + 2 + szA xs
def szKv : List (PyData × PyData) → Nat
  | [] => 0
  | (k, v) :: r => szD k + szD v + 4 + szKv r
end
theorem okA_iff : ∀ {xs : List PyData}, okA xs = true ↔ ∀ d ∈ xs, okD d = true
  | [] => ⟨fun _ d h => absurd h (by simp), fun _ => rfl⟩
  | x :: xs => by
    simp only [okA, Bool.and_eq_true, List.mem_cons, forall_eq_or_imp]
    rw [okA_iff]
theorem szA_append : ∀ (xs ys : List PyData), szA (xs ++ ys) = szA xs + szA ys
  | [], ys => by simp [szA]
  | x :: xs, ys => by
    simp only [List.cons_append, szA]
    rw [szA_append xs ys]
    omega
theorem szA_mem : ∀ {xs : List PyData} {d : PyData}, d ∈ xs → szD d + 2 ≤ szA xs
  | x :: xs, d, h => by
    simp only [szA]
    rcases List.mem_cons.mp h with e | h
    · subst e
      omega
    · have := szA_mem h
      omega
theorem szA_take (xs : List PyData) (n : Nat) : szA (xs.take n) ≤ szA xs := by
  have h := szA_append (xs.take n) (xs.drop n)
  rw [List.take_append_drop] at h
  omega
theorem szA_drop (xs : List PyData) (n : Nat) : szA (xs.drop n) ≤ szA xs := by
  have h := szA_append (xs.take n) (xs.drop n)
  rw [List.take_append_drop] at h
  omega
theorem szA_rev : ∀ (xs : List PyData), szA xs.reverse = szA xs
  | [] => rfl
  | x :: xs => by
    rw [List.reverse_cons, szA_append, szA_rev xs]
    simp only [szA]
    omega
theorem szA_cut (xs : List PyData) {n : Nat} {d : PyData} (h : xs[n]? = some d) : szA (xs.take n) + (szD d + 2) + szA (xs.drop (n + 1)) = szA xs := by
  have hl : n < xs.length := (List.getElem?_eq_some_iff.mp h).1
  have e : xs[n] = d := (List.getElem?_eq_some_iff.mp h).2
  have h1 := szA_append (xs.take n) (xs.drop n)
  rw [List.take_append_drop, List.drop_eq_getElem_cons hl, e] at h1
  simp only [szA] at h1
  omega

theorem depthAll_le {n : Nat} : ∀ {xs : List PyData}, PyData.depthAll xs ≤ n ↔ ∀ d ∈ xs, d.depth ≤ n
  | [] => ⟨fun _ d h => absurd h (by simp), fun _ => Nat.zero_le _⟩
  | x :: xs => by
    simp only [PyData.depthAll, List.mem_cons, forall_eq_or_imp]
    rw [Nat.max_le, depthAll_le]

theorem join_len (sep : Str) : ∀ (ts : List Str), (Str.join sep ts).length ≤ (ts.map fun t => t.length + sep.length).sum
  | [] => by
    have e : (Str.join sep []).length = 0 := by rfl
    rw [e]
    exact Nat.zero_le _
  | [x] => by
    have e : Str.join sep [x] = x := rfl
    rw [e]
    simp
  | x :: y :: r => by
    have ih := join_len sep (y :: r)
    have e : Str.join sep (x :: y :: r) = x ++ sep ++ Str.join sep (y :: r) := rfl
    rw [e, strLen_append, strLen_append, List.map_cons, List.sum_cons]
    omega
theorem tupleText_le (ts : List Str) : (tupleText ts).length ≤ (ts.map fun t => t.length + 2).sum + 3 := by
  have h := join_len (", " : Str) ts
  have e2 : (", " : Str).length = 2 := by decide
  rw [e2] at h
  unfold tupleText
  rw [strLen_append, strLen_append]
  have e1 : ("(" : Str).length = 1 := by decide
  have e3 : ((if ts.length == 1 then ",)" else ")" : String) : Str).length ≤ 2 := by
    split <;> decide
  rw [e1]
  omega
theorem textFrom_le : ∀ (ts : List Str) (k : Nat) (acc : Str), (textFrom k acc ts).length ≤ acc.length + (ts.map fun t => t.length + 2).sum
  | [], k, acc => by simp [textFrom]
  | t :: ts, k, acc => by
    have h := textFrom_le ts (k + 1) (acc ++ (if k > 0 then ", " else "" : String) ++ t)
    have e : ((if k > 0 then ", " else "" : String) : Str).length ≤ 2 := by
      split <;> decide
    rw [strLen_append, strLen_append] at h
    simp only [textFrom, List.map_cons, List.sum_cons]
    omega
theorem listText_le (ts : List Str) : (listText ts).length ≤ (ts.map fun t => t.length + 2).sum + 3 := by
  have h := textFrom_le ts 0 ("[" : Str)
  have e1 : ("[" : Str).length = 1 := by decide
  have e2 : ("]" : Str).length = 1 := by decide
  unfold listText
  rw [strLen_append, e2]
  rw [e1] at h
  omega
theorem dictText_le (ts : List Str) : (dictText ts).length ≤ (ts.map fun t => t.length + 2).sum + 2 := by
  have h := join_len (", " : Str) ts
  have e2 : (", " : Str).length = 2 := by decide
  rw [e2] at h
  unfold dictText
  rw [strLen_append, strLen_append]
  have e1 : ("{" : Str).length = 1 := by decide
  have e3 : ("}" : Str).length = 1 := by decide
  rw [e1, e3]
  omega
theorem log2_small {n : Nat} (h : n < 2 ^ 100) : n.log2 < 1920 := by
  by_cases e : n = 0
  · subst e
    decide
  · have := (Nat.log2_lt e).mpr h
    omega
theorem int_len {i : Int} (h : i.natAbs < 2 ^ 100) : (PyData.shown (.int i)).length ≤ 110 := by
  show (Str.ofString (toString i)).length ≤ 110
  have l : i.natAbs.log2 < 101 := by
    by_cases e : i.natAbs = 0
    · rw [e]
      decide
    · have := (Nat.log2_lt e).mpr h
      omega
  have h1 := int_text_length_le (a := i) (k := 101) (by decide) l
  rw [PySem.ofString_length]
  omega
mutual
theorem shows_of : ∀ (d : PyData), okD d = true → d.showable = true ∧ d.shown.length ≤ szD d
  | .none, _ => ⟨rfl, by decide⟩
  | .bool b, _ => ⟨rfl, by cases b <;> decide⟩
  | .int i, h => by
    have h1 : i.natAbs < 2 ^ 100 := of_decide_eq_true h
    exact ⟨decide_eq_true (log2_small h1), int_len h1⟩
  | .str x, h => by
    refine ⟨rfl, ?_⟩
    have hx : ∀ c ∈ x.cps.toList, c < 16 ^ 8 := fun c hc => by
      have := of_decide_eq_true (List.all_eq_true.mp h c hc)
      omega
    exact StrLaws.reprText_len x hx
  | .list xs, h => by
    obtain ⟨h1, h2⟩ := shows_all xs h
    refine ⟨h1, ?_⟩
    have h3 := listText_le (PyData.shownAll xs)
    show (listText (PyData.shownAll xs)).length ≤ szA xs + 3
    omega
  | .tuple xs, h => by
    obtain ⟨h1, h2⟩ := shows_all xs h
    refine ⟨h1, ?_⟩
    have h3 := tupleText_le (PyData.shownAll xs)
    show (tupleText (PyData.shownAll xs)).length ≤ szA xs + 3
    omega
  | .dict kvs, h => by
    obtain ⟨h1, h2⟩ := shows_kv kvs h
    refine ⟨h1, ?_⟩
    have h3 := dictText_le (PyData.shownKv kvs)
    show (dictText (PyData.shownKv kvs)).length ≤ szKv kvs + 2
    omega
theorem shows_all : ∀ (xs : List PyData), okA xs = true → PyData.showableAll xs = true ∧ ((PyData.shownAll xs).map fun t => t.length + 2).sum ≤ szA xs
  | [], _ => ⟨rfl, Nat.le_refl _⟩
  | x :: xs, h => by
    obtain ⟨a, b⟩ := Bool.and_eq_true_iff.mp h
    obtain ⟨a1, a2⟩ := shows_of x a
    obtain ⟨b1, b2⟩ := shows_all xs b
    refine ⟨by show (_ && _) = true; rw [a1, b1]; rfl, ?_⟩
    show x.shown.length + 2 + _ ≤ szD x + 2 + szA xs
    exact Nat.add_le_add (Nat.add_le_add_right a2 2) b2
theorem shows_kv : ∀ (xs : List (PyData × PyData)), okKv xs = true → PyData.showableKv xs = true ∧ ((PyData.shownKv xs).map fun t => t.length + 2).sum ≤ szKv xs
  | [], _ => ⟨rfl, Nat.le_refl _⟩
  | (k, v) :: xs, h => by
    obtain ⟨ab, c⟩ := Bool.and_eq_true_iff.mp h
    obtain ⟨a, b⟩ := Bool.and_eq_true_iff.mp ab
    obtain ⟨a1, a2⟩ := shows_of k a
    obtain ⟨b1, b2⟩ := shows_of v b
    obtain ⟨c1, c2⟩ := shows_kv xs c
    refine ⟨by show (_ && _ && _) = true; rw [a1, b1, c1]; rfl, ?_⟩
    have e : (": " : Str).length = 2 := by decide
    have el : (k.shown ++ ": " ++ v.shown).length = k.shown.length + 2 + v.shown.length := by
      rw [strLen_append, strLen_append, e]
    show (k.shown ++ ": " ++ v.shown).length + 2 + ((PyData.shownKv xs).map fun t => t.length + 2).sum ≤ szD k + szD v + 4 + szKv xs
    rw [el]
    exact Nat.add_le_add (by omega) c2
end
mutual
def inB : PyData → Bool
  | .int i => decide (i.natAbs < 2 ^ 64)
  | .list xs | .tuple xs => inA xs
  | .none | .bool _ | .str _ | .dict _ => true
def inA : List PyData → Bool
  | [] => true
  | x :: xs => inB x && inA xs
end
theorem inA_mem : ∀ {xs : List PyData}, inA xs = true → ∀ d ∈ xs, inB d = true
  | [], _, d, h => absurd h (by simp)
  | x :: xs, h, d, hd => by
    obtain ⟨a, b⟩ := Bool.and_eq_true_iff.mp h
    rcases List.mem_cons.mp hd with e | hd
    · rw [e]
      exact a
    · exact inA_mem b d hd

/-! ## data in the heap: q is the one list that may change meanwhile -/
mutual
inductive Dq (K : PySem.W.Frag) (q : Addr) (H : Hp) : V → PyData → Prop
  | non : Dq K q H .non .none
  | bl (b : Bool) : Dq K q H (.bl b) (.bool b)
  | int (i : Int) : Dq K q H (.int i) (.int i)
  | str (x : Str) : Dq K q H (.str x) (.str x)
  | lst {a : Addr} {xs : List V} {ds : List PyData} : H a = some (.lst xs) → a ≠ q → a ≠ sysModules → DqA K q H xs ds → Dq K q H (.ref a) (.list ds)
  | tup {a : Addr} {xs : List V} {ds : List PyData} : SqT K H a xs → DqA K q H xs ds → Dq K q H (.ref a) (.tuple ds)
  | dic {a : Addr} {kvs : List (Key × V)} {ds : List (PyData × PyData)} : H a = some (.dK kvs) → DqA K q H (kvs.map fun p => kV p.1) (ds.map (·.1)) → DqA K q H (kvs.map (·.2)) (ds.map (·.2)) → Dq K q H (.ref a) (.dict ds)
inductive DqA (K : PySem.W.Frag) (q : Addr) (H : Hp) : List V → List PyData → Prop
  | nil : DqA K q H [] []
  | cons {v : V} {vs : List V} {d : PyData} {ds : List PyData} : Dq K q H v d → DqA K q H vs ds → DqA K q H (v :: vs) (d :: ds)
end
/-- all but q stands -/
def HS (q : Addr) (H H' : Hp) : Prop := ∀ b o, b ≠ q → H b = some o → H' b = some o
theorem HS.refl (q : Addr) (H : Hp) : HS q H H := fun _ _ _ h => h
theorem HS.trans {q : Addr} {H H1 H2 : Hp} (a : HS q H H1) (b : HS q H1 H2) : HS q H H2 := fun c o n h => b c o n (a c o n h)
theorem HS.same {q : Addr} {H H' : Hp} (h : Same H H') : HS q H H' := fun b o _ e => h b o e
theorem HS.upd {q p : Addr} {H H' : Hp} {o : HO} (h : HS q H H') (n : H' p = none) : HS q H (upd H' p o) := fun b u nb e => by
  have e' := h b u nb e
  rw [upd_ne (ne_of_none e' n)]
  exact e'
theorem HS.updq {q : Addr} {H H' : Hp} {o : HO} (h : HS q H H') : HS q H (L2.upd H' q o) := fun b u nb e => by
  rw [upd_ne nb]
  exact h b u nb e
theorem HS.free {q p : Addr} {H H' : Hp} (h : HS q H H') (hp : p ≠ q) (e : H' p = none) : H p = none := by
  cases z : H p with
  | none => rfl
  | some o =>
    rw [h p o hp z] at e
    cases e
theorem HS.sqT {K : PySem.W.Frag} {q a : Addr} {H H' : Hp} {xs l : List V} (h : HS q H H') (hq : H q = some (.lst l)) (s : SqT K H a xs) : SqT K H' a xs := by
  have hne : ∀ {o : HO}, H a = some o → o ≠ .lst l → a ≠ q := fun {o} e n z => by
    rw [z, hq] at e
    exact n (Option.some.inj e).symm
  rcases s with (s | ⟨o, s⟩) | s
  · exact .inl (.inl (h a _ (hne s (fun z => nomatch z)) s))
  · exact .inl (.inr ⟨o, h a _ (hne s (fun z => nomatch z)) s⟩)
  · exact .inr s
mutual
theorem Dq.mono {K : PySem.W.Frag} {q : Addr} {H H' : Hp} {l : List V} (h : HS q H H') (hq : H q = some (.lst l)) : ∀ {v : V} {d : PyData}, Dq K q H v d → Dq K q H' v d
  | _, _, .non => .non
  | _, _, .bl b => .bl b
  | _, _, .int i => .int i
  | _, _, .str x => .str x
  | _, _, .lst e n n2 r => .lst (h _ _ n e) n n2 (DqA.mono h hq r)
  | _, _, .tup e r => .tup (h.sqT hq e) (DqA.mono h hq r)
  | _, _, .dic e r1 r2 => .dic (h _ _ (fun z => by rw [z, hq] at e; cases e) e) (DqA.mono h hq r1) (DqA.mono h hq r2)
theorem DqA.mono {K : PySem.W.Frag} {q : Addr} {H H' : Hp} {l : List V} (h : HS q H H') (hq : H q = some (.lst l)) : ∀ {vs : List V} {ds : List PyData}, DqA K q H vs ds → DqA K q H' vs ds
  | _, _, .nil => .nil
  | _, _, .cons r t => .cons (Dq.mono h hq r) (DqA.mono h hq t)
end
theorem DqA.length {K : PySem.W.Frag} {q : Addr} {H : Hp} : ∀ {vs : List V} {ds : List PyData}, DqA K q H vs ds → vs.length = ds.length
  | _, _, .nil => rfl
  | _, _, .cons _ t => congrArg (· + 1) t.length
theorem DqA.get {K : PySem.W.Frag} {q : Addr} {H : Hp} : ∀ {vs : List V} {ds : List PyData} {i : Nat} {v : V}, DqA K q H vs ds → vs[i]? = some v → ∃ d, ds[i]? = some d ∧ Dq K q H v d
  | _, _, _, _, .nil, e => by simp at e
  | _, _, 0, _, .cons r _, e => by
    simp at e
    subst e
    exact ⟨_, rfl, r⟩
  | _, _, i + 1, v, .cons _ t, e => by
    obtain ⟨d, h1, h2⟩ := DqA.get (i := i) (v := v) t (by simpa using e)
    exact ⟨d, by simpa using h1, h2⟩
theorem DqA.append {K : PySem.W.Frag} {q : Addr} {H : Hp} : ∀ {vs ws : List V} {ds es : List PyData}, DqA K q H vs ds → DqA K q H ws es → DqA K q H (vs ++ ws) (ds ++ es)
  | _, _, _, _, .nil, s => s
  | _, _, _, _, .cons r t, s => .cons r (DqA.append t s)
theorem DqA.take {K : PySem.W.Frag} {q : Addr} {H : Hp} : ∀ {vs : List V} {ds : List PyData} (n : Nat), DqA K q H vs ds → DqA K q H (vs.take n) (ds.take n)
  | _, _, 0, _ => .nil
  | _, _, _ + 1, .nil => .nil
  | _, _, n + 1, .cons r t => .cons r (DqA.take n t)
theorem DqA.drop {K : PySem.W.Frag} {q : Addr} {H : Hp} : ∀ {vs : List V} {ds : List PyData} (n : Nat), DqA K q H vs ds → DqA K q H (vs.drop n) (ds.drop n)
  | _, _, 0, r => r
  | _, _, _ + 1, .nil => .nil
  | _, _, n + 1, .cons _ t => DqA.drop n t
theorem DqA.rev {K : PySem.W.Frag} {q : Addr} {H : Hp} : ∀ {vs : List V} {ds : List PyData}, DqA K q H vs ds → DqA K q H vs.reverse ds.reverse
  | _, _, .nil => .nil
  | _, _, .cons r t => by
    rw [List.reverse_cons, List.reverse_cons]
    exact (DqA.rev t).append (.cons r .nil)

/-! ## repr -/
section
variable {X : Cx} {pins : List (Addr × Obj)} {σ : L2.St} {H : Hp} {s : Shared} {q : Addr}
theorem pairs_vals {P : Program} {w : World} : ∀ {kvs : List (Key × V)} {vs : List (Key × Value)} {l : List DictEntry}, KV kvs vs → Pairs (mixKind P w) l vs →
    Vals (kvs.map fun p => kV p.1) (l.map (·.key)) ∧ Vals (kvs.map (·.2)) (l.map (·.val))
  | _, _, _, .nil, .nil => ⟨.nil, .nil⟩
  | _, _, _, .cons (a := p) r t, .cons (e := e) k1 k2 m => by
    obtain ⟨h1, h2⟩ := pairs_vals t m
    refine ⟨.cons ?_ h1, .cons (by show RelV p.2 e.val; rw [k2]; exact r.2) h2⟩
    have k1' : keyIs p.1 e.key = true := by
      rw [r.1]
      exact k1
    rcases keyIs_shape k1' with ⟨i, t, e1, e2⟩ | ⟨x, t, e1, e2⟩
    · show RelV (kV p.1) e.key
      rw [e1, e2]
      exact ⟨t, rfl⟩
    · show RelV (kV p.1) e.key
      rw [e1, e2]
      exact ⟨t, rfl⟩
mutual
theorem Dq.reads (I : Inv X pins σ H s) : ∀ {v : V} {d : PyData} {u : Value}, Dq X.K q H v d → RelV v u → ∃ as, Reads s.heap u d as ∧ sysModules ∉ as
  | _, _, _, .non, r => by
    cases r
    exact ⟨_, Reads.none, List.not_mem_nil⟩
  | _, _, _, .bl b, r => by
    cases r
    exact ⟨_, Reads.bool b, List.not_mem_nil⟩
  | _, _, _, .int i, r => by
    obtain ⟨t, rfl⟩ := r
    exact ⟨_, Reads.int i t, List.not_mem_nil⟩
  | _, _, _, .str x, r => by
    obtain ⟨t, rfl⟩ := r
    exact ⟨_, Reads.str x t, List.not_mem_nil⟩
  | _, _, _, .lst hs hq hm ha, r => by
    cases r
    obtain ⟨its, rv, ⟨o, n, ho, hc, _, hd⟩, _⟩ := I.list (SqL.of (K := X.K) hs)
    obtain ⟨as, hr, hn⟩ := DqA.reads I ha rv
    refine ⟨_, Reads.list ho hc hd hr, fun z => ?_⟩
    rcases List.mem_cons.mp z with e | z
    · exact hm e.symm
    · exact hn z
  | _, _, _, .tup hs ha, r => by
    cases r
    obtain ⟨its, rv, ⟨o, ho, hc, n, hd⟩, _⟩ := I.tuple hs
    obtain ⟨as, hr, hn⟩ := DqA.reads I ha rv
    exact ⟨_, Reads.tuple ho hc hd hr, hn⟩
  | _, _, _, .dic hs h1 h2, r => by
    cases r
    obtain ⟨hz, hm, vs, kr, o, es, ep, ho, hx, hd, hk, hp, hnd⟩ := dk_of I.hok hs
    obtain ⟨hkeys, hvals⟩ := pairs_vals kr hp
    obtain ⟨as, hr1, hn1⟩ := DqA.reads I h1 hkeys
    obtain ⟨bs, hr2, hn2⟩ := DqA.reads I h2 hvals
    refine ⟨_, Reads.dict ho hx.1 hd hr1 hr2, fun z => ?_⟩
    rcases List.mem_append.mp z with z | z
    · rcases List.mem_cons.mp z with e | z
      · rw [← e] at hm
        simp at hm
      · exact hn1 z
    · exact hn2 z
theorem DqA.reads (I : Inv X pins σ H s) : ∀ {vs : List V} {ds : List PyData} {us : List Value}, DqA X.K q H vs ds → Vals vs us → ∃ as, ReadsAll s.heap us ds as ∧ sysModules ∉ as
  | _, _, _, .nil, r => by
    cases r
    exact ⟨_, ReadsAll.nil, List.not_mem_nil⟩
  | _, _, _, .cons h1 h2, r => by
    cases r with
    | cons r1 r2 =>
      obtain ⟨as, q1, n1⟩ := Dq.reads I h1 r1
      obtain ⟨bs, q2, n2⟩ := DqA.reads I h2 r2
      exact ⟨_, ReadsAll.cons q1 q2, fun z => (List.mem_append.mp z).elim n1 n2⟩
end
/-- repr(data) -/
def rRepr (K : PySem.W.Frag) : List V → Hp → VK → Prop := fun xs H Q => ∃ (q : Addr) (x : V) (d : PyData), xs = [x] ∧ Dq K q H x d ∧ okD d = true ∧ szD d ≤ 1000000 ∧ d.depth ≤ 60 ∧ Q (.str d.shown) H
theorem call_repr (hg : X.A.guards = some []) (hu : X.A.units + 64 < cLine) : CallR X (.builtin "repr") (rRepr X.K) := by
  intro pins s σ H xs us Q I r h
  obtain ⟨q, x, d, rfl, hd, ok, hz, hdep, hq⟩ := h
  obtain ⟨u, rfl, ru⟩ := vals1 r
  obtain ⟨hs, hl⟩ := shows_of d ok
  have hsz : d.shown.length ≤ sizeLine := by
    rw [sizeLine_eq]
    omega
  have fin : ∀ (h' : Heap) (t : Tok) (tk : Tok), (∀ b o, s.heap.get? b = some o → h'.get? b = some o) →
      EP X pins σ Q (.str d.shown t) { s with heap := h', toks := tk } := fun h' t tk k => ⟨.str d.shown, H, I.kept k, ⟨t, rfl⟩, hq⟩
  cases hd with
  | non =>
    cases ru
    exact PySem.P.repr_of_none ⟨.str _, H, I.tok _, ⟨_, rfl⟩, hq⟩
  | bl b =>
    cases ru
    refine PySem.P.repr_of_bool ⟨.str _, H, I.tok _, ⟨_, rfl⟩, ?_⟩
    cases b <;> exact hq
  | int i =>
    obtain ⟨t, rfl⟩ := ru
    exact PySem.P.repr_of_int (of_decide_eq_true hs) ⟨.str _, H, I.tok _, ⟨_, rfl⟩, hq⟩
  | str y =>
    obtain ⟨t, rfl⟩ := ru
    exact PySem.P.repr_of_str (hsz := hsz) ⟨.str _, H, I.tok _, ⟨_, rfl⟩, hq⟩
  | lst a1 a2 a3 a4 =>
    obtain ⟨as, hr, hn⟩ := Dq.reads I (Dq.lst a1 a2 a3 a4) ru
    cases ru
    exact repr_of_reads' hr hs (fun _ => hn) hg (by omega) (fun _ _ e => e) (fun h' t tk k => fin h' t tk k) hsz
  | tup a1 a2 =>
    obtain ⟨as, hr, hn⟩ := Dq.reads (q := q) I (Dq.tup a1 a2) ru
    cases ru
    exact repr_of_reads' hr hs (fun _ => hn) hg (by omega) (fun _ _ e => e) (fun h' t tk k => fin h' t tk k) hsz
  | dic a1 a2 a3 =>
    obtain ⟨as, hr, hn⟩ := Dq.reads I (Dq.dic a1 a2 a3) ru
    cases ru
    exact repr_of_reads' hr hs (fun _ => hn) hg (by omega) (fun _ _ e => e) (fun h' t tk k => fin h' t tk k) hsz
end

/-! ## a def of the text, by its name -/
def FunAt (K : PySem.W.Frag) (mg : Str → Option Value) (x : Str) (st : Stmt) : Prop := ∃ f fd, Fun K x x st f fd ∧ mg x = some (.ref f)
/-- it keeps its promise wherever k rooms are left -/
def Def (P : Program) (w : World) (K : PySem.W.Frag) (mg : Str → Option Value) (base : Heap) (k : Nat) (x : Str) (ps : List Str) (sp : Sp) : Prop :=
  ∃ f fd, FnOk P w K mg base CX0 k f fd ps sp ∧ mg x = some (.ref f) ∧ PySem.W.keepIn K (.ref f) = true ∧ Binds K fd ps []
/-- .. where no repr runs -/
def DefG (P : Program) (w : World) (K : PySem.W.Frag) (mg : Str → Option Value) (base : Heap) (k : Nat) (x : Str) (ps : List Str) (sp : Sp) : Prop :=
  ∃ f fd, FnG P w K mg base CX0 k f fd ps sp ∧ mg x = some (.ref f) ∧ PySem.W.keepIn K (.ref f) = true ∧ Binds K fd ps []
/-- how arguments meet the parameters of the def st -/
def BindsSt (x : Str) (st : Stmt) (ps : List Str) : Prop := ∀ (kV doc pm : Value) (an : Option Addr) (cdv ct : Value) (us : List Value), us.length = ps.length →
  bindArgs (PySem.W.fnOf x x (defArgs st) (defBody st) (defScope st) .none kV doc pm an cdv ct) ⟨us, []⟩ = pure (ps.zip us)
section
variable {P : Program} {w : World} {K : PySem.W.Frag} {mg : Str → Option Value} {base : Heap}
theorem Def.mono {j k : Nat} {x : Str} {ps : List Str} {sp : Sp} (D : Def P w K mg base j x ps sp) (h : j ≤ k) : Def P w K mg base k x ps sp := by
  obtain ⟨f, fd, F, r⟩ := D
  exact ⟨f, fd, F.mono h, r⟩
theorem def_of {x : Str} {st : Stmt} {N ps : List Str} {k : Nat} {sp : Sp} (F : FunAt K mg x st) (S : FnScope N ps (defScope st)) (hb : BindsSt x st ps) (len : ∀ vs H Q E, sp vs H Q E → vs.length = ps.length)
    (hbody : ∀ (f : Addr) (cdv : Value) (A : Around) (outer : List Env) (s : Shared) (H : Hp) (vs : List V) (Q : VK) (E : XK), Room k (A.deeper (envOfC x (defScope st) s.heap.objs.size f cdv)) → sp vs H Q E →
      ∃ t, PSs (cxOf CX0 P w K mg base N x (defScope st) f cdv A outer s H E).nox (defBody st) t ∧ t { nx := fun _ H' => Q .non H', rt := Q } (start N vs) H) : Def P w K mg base (k + 1) x ps sp := by
  obtain ⟨f, fd, F1, hm⟩ := F
  exact ⟨f, fd, F1.ok S len fun cdv A outer s H vs Q E hr h => hbody f cdv A outer s H vs Q E hr h, hm, F1.kp, F1.binds hb⟩
theorem defG_of {x : Str} {st : Stmt} {N ps : List Str} {k : Nat} {sp : Sp} (F : FunAt K mg x st) (S : FnScope N ps (defScope st)) (hb : BindsSt x st ps) (len : ∀ vs H Q E, sp vs H Q E → vs.length = ps.length)
    (hbody : ∀ (f : Addr) (cdv : Value) (A : Around) (outer : List Env) (s : Shared) (H : Hp) (vs : List V) (Q : VK) (E : XK), (A.deeper (envOfC x (defScope st) s.heap.objs.size f cdv)).guards = some [] → Room k (A.deeper (envOfC x (defScope st) s.heap.objs.size f cdv)) → sp vs H Q E →
      ∃ t, PSs (cxOf CX0 P w K mg base N x (defScope st) f cdv A outer s H E).nox (defBody st) t ∧ t { nx := fun _ H' => Q .non H', rt := Q } (start N vs) H) : DefG P w K mg base (k + 1) x ps sp := by
  obtain ⟨f, fd, F1, hm⟩ := F
  exact ⟨f, fd, funG F1 S len fun cdv A outer s H vs Q E hg hr h => hbody f cdv A outer s H vs Q E hg hr h, hm, F1.kp, F1.binds hb⟩
theorem DefG.ofD {k : Nat} {x : Str} {ps : List Str} {sp : Sp} (D : Def P w K mg base k x ps sp) : DefG P w K mg base k x ps sp := by
  obtain ⟨f, fd, F, r⟩ := D
  exact ⟨f, fd, .ofOk F, r⟩
end
section
variable {X : Cx} {k : Nat} {ps : List Str} {sp : Sp} {x : Str} {p pos : Pos} {e : Expr} {es : List Expr} {t : TA}
/-- x(e, ..), x a def of the text -/
theorem pe_d (D : Def X.prog X.w X.K X.mg X.base k x ps sp) (hr : Room k X.A) (ha : PA X (e :: es) t) (hg : Gl X x := by rfl) (hdb : (x == ("__debug__" : Str)) = false := by decide)
    (he : starEach (e :: es) X.env = (false, eval e X.env) :: starEach es X.env := by rfl) (hpl : (backTo pos (starEach es X.env)).any (·.1) = false := by rfl) :
    PE X (.Call (.Name x p) (e :: es) [] pos) (tCall sp [] E0 t) := by
  obtain ⟨f, fd, F, hm, hk, hb⟩ := D
  exact pe_call F hr hg hm hk hb .nil pass0 ha hdb he hpl
theorem pe_dG (D : DefG X.prog X.w X.K X.mg X.base k x ps sp) (hgd : X.A.guards = some []) (hr : Room k X.A) (ha : PA X (e :: es) t) (hg : Gl X x := by rfl) (hdb : (x == ("__debug__" : Str)) = false := by decide)
    (he : starEach (e :: es) X.env = (false, eval e X.env) :: starEach es X.env := by rfl) (hpl : (backTo pos (starEach es X.env)).any (·.1) = false := by rfl) :
    PE X (.Call (.Name x p) (e :: es) [] pos) (tCall sp [] E0 t) := by
  obtain ⟨f, fd, F, hm, hk, hb⟩ := D
  exact pe_callG F hgd hr hg hm hk hb .nil pass0 ha hdb he hpl

/-! ## rules that the layer lacks -/
/-- powers of any size that the machine takes -/
def CPowW (i j : Int) : Prop := 0 ≤ j ∧ (Builtin.Int.intBits i : Int) * j ≤ 2 ^ 27
theorem op_powW : OpR X (binaryOp .Pow) (rI CPowW fun i j => .int (i ^ j.toNat)) := opI fun _ _ _ _ _ _ _ hc q => pow_int hc.1 hc.2 q
/-- a list display that tells that it is not the modules' dict -/
def tLstN (t : TA) : TE := fun σ H Q => t σ H fun xs H1 => xs.length ≤ sizeLine ∧ ∀ p, H1 p = none → p ≠ sysModules → Q (.ref p) (upd H1 p (.lst xs))
theorem pe_lstN {es : List Expr} (h : PA X es t) : PE X (.List es pos) (tLstN t) := by
  refine ⟨fun pins s σ H Q I hq => wpAny_List_spliced (thn (h.run pos pins s σ H _ I hq) ?_)⟩
  rintro us s1 ⟨xs, H1, I1, r, z, q⟩
  refine ⟨by rw [← r.length]; exact z, ?_⟩
  have hf : H1 s1.heap.objs.size = none := I1.hok.fresh (Nat.le_refl _)
  have J := I1.laid (t' := s1.toks) (a := s1.heap.objs.size) (o := .lst xs) (h' := s1.heap.push { cls := .type "list", data := .seq us.toArray }) (fun b u e => Heap.get?_push_of_some _ e) (Nat.le_refl _)
    ⟨z, us, 0, r, Heap.get?_push_size _ rfl⟩
  exact ⟨.ref _, _, J, rfl, q _ hf (Nat.ne_of_gt I1.big)⟩
end

/-! ## t[::-1], s[::-1] -/
section
variable {prog : Program} {w : World} {A : Around} {E : Value → Shared → Prop} {s : Shared}
theorem applied_back {sl : Addr} {n : Nat} {t : Tok} {Q : Int × Int × Nat → Shared → Prop} (hs : s.heap.IsSliceOf sl .none .none (.int (-1) t)) (h : Q ((n : Int) - 1, -1, n) s) :
    wpAny (model prog w) A (Builtin.Slice.sliceApplied (.ref sl) (pure (n : Int))) Q E s := by
  obtain ⟨os, hos, hcs, hds⟩ := id hs
  unfold Builtin.Slice.sliceApplied Builtin.Slice.sliceFields
  refine wpAny_bind (wpAny_bind (wpAny_field hos hds (x := .none) rfl (wpAny_bind (wpAny_field hos hds (x := .none) rfl
    (wpAny_bind (wpAny_field hos hds (x := .int (-1) t) rfl (wpAny_pure ?_)))))))
  refine wpAny_bind (HT.slicePart_ (.int (-1) t) ?_)
  show wpAny _ _ (if ((-1 : Int) == 0) = true then _ else _) _ _ s
  rw [if_neg (by decide)]
  refine wpAny_bind (HT.slicePart_ .none (wpAny_bind (HT.slicePart_ .none (wpAny_bind (wpAny_pure ?_)))))
  have e : Builtin.Slice.sliceAdjust none none (-1) (n : Int) = ((n : Int) - 1, -1) := rfl
  have e2 : Builtin.Slice.slicePlaces ((n : Int) - 1) (-1) (-1) = n := by
    unfold Builtin.Slice.slicePlaces
    rw [if_neg (by decide)]
    by_cases hn : n = 0
    · subst hn
      rfl
    · rw [if_pos (by omega)]
      have : (-(-1 : Int)) = 1 := rfl
      rw [this, Int.ediv_one]
      omega
  show wpAny _ _ (match Builtin.Slice.sliceAdjust none none (-1) (n : Int) with | (lo, hi) => pure (lo, (-1 : Int), Builtin.Slice.slicePlaces lo hi (-1))) _ _ s
  rw [e]
  show wpAny _ _ (pure ((n : Int) - 1, (-1 : Int), Builtin.Slice.slicePlaces ((n : Int) - 1) (-1) (-1))) _ _ s
  rw [e2]
  exact wpAny_pure h
theorem filterMap_map {α β : Type} {f : α → Option β} {g : α → β} : ∀ {l : List α}, (∀ a ∈ l, f a = some (g a)) → l.filterMap f = l.map g
  | [], _ => rfl
  | a :: l, h => by
    rw [List.filterMap_cons, h a List.mem_cons_self, List.map_cons, filterMap_map fun b hb => h b (List.mem_cons_of_mem _ hb)]
theorem pick_back (xs : Array Value) : ((List.range xs.size).filterMap fun (k : Nat) => xs[(((xs.size : Int) - 1) + (k : Int) * (-1)).toNat]?).toArray = xs.toList.reverse.toArray := by
  have e : (List.range xs.size).filterMap (fun (k : Nat) => xs[(((xs.size : Int) - 1) + (k : Int) * (-1)).toNat]?) = xs.toList.reverse := by
    apply List.ext_getElem?
    intro i
    have e1 : (List.range xs.size).filterMap (fun (k : Nat) => xs[(((xs.size : Int) - 1) + (k : Int) * (-1)).toNat]?) = (List.range xs.size).map (fun k => xs.toList.getD (xs.size - 1 - k) .none) := by
      refine filterMap_map fun k hk => ?_
      have hk' := List.mem_range.mp hk
      have : (((xs.size : Int) - 1) + (k : Int) * (-1)).toNat = xs.size - 1 - k := by omega
      rw [this]
      have hb : xs.size - 1 - k < xs.size := by omega
      rw [Array.getElem?_eq_getElem hb]
      simp [List.getD, hb]
    rw [e1, List.getElem?_map]
    by_cases hi : i < xs.size
    · rw [List.getElem?_range hi, List.getElem?_reverse (by simpa using hi)]
      simp only [Option.map_some, Array.length_toList]
      have hb : xs.size - 1 - i < xs.toList.length := by
        rw [Array.length_toList]
        omega
      rw [List.getD_eq_getElem?_getD, List.getElem?_eq_getElem hb]
      rfl
    · rw [List.getElem?_eq_none (by rw [List.length_range]; omega), List.getElem?_eq_none (by rw [List.length_reverse, Array.length_toList]; omega)]
      rfl
  rw [e]
theorem item_back {t sl : Addr} {items : Array Value} {tk : Tok} {Q : Value → Shared → Prop} (ht : IsTup s.heap t items) (hs : s.heap.IsSliceOf sl .none .none (.int (-1) tk))
    (h : Q (.ref s.heap.objs.size) { s with heap := s.heap.push { cls := .type "tuple", data := .seq items.toList.reverse.toArray } }) (hz : items.size ≤ sizeLine) :
    wpAny (model prog w) A (getItem (.ref t) (.ref sl)) Q E s := by
  obtain ⟨os, hos, hcs, hds⟩ := id hs
  have hT : s.TypeIs (.ref sl) "slice" := ⟨os, hos, hcs⟩
  have room : sizeOk (.seq items.toList.reverse.toArray) := by
    show items.toList.reverse.toArray.size ≤ sizeLine
    rw [List.size_toArray, List.length_reverse, Array.length_toList]
    exact hz
  unfold getItem
  try (with_reducible refine wpAny_holding ?_)
  first
    | refine wpAny_bind (wpAny_pure ?_)
    | skip
  refine wpAny_bind (wpAny_sequenceKey ht.typeIs (by decide) (wpAny_bind (wpAny_callSpecial?_slot (name := Str.ofString "__getitem__") ht.typeIs PyProof.Rows.slot_tuple_getitem
    (wpAny_call_entry PyProof.Rows.slot_tuple_getitem ht.typeIs PyProof.Rows.entry_tuple_getitem ?_ (PyProof.Rows.args_tuple_getitem _ _)))))
  show wpAny _ _ (Builtin.Tuple.tupleItemsOf (.ref t) >>= fun _ => _) _ _ s
  refine wpAny_bind (tupleItemsOf_ ht (wpAny_bind (wpAny_typeOf hT ?_)))
  rw [if_pos (by decide)]
  refine wpAny_bind (applied_back hs ?_)
  have no : ¬ ((((items.size : Int) - 1) == 0 && (-1 : Int) == 1 && items.size == items.size) = true) := by
    intro q
    simp at q
  show wpAny _ _ (if (((items.size : Int) - 1) == 0 && (-1 : Int) == 1 && items.size == items.size) = true then _ else _) _ _ s
  rw [if_neg no, pick_back]
  first
    | exact wpAny_bind (m := Builtin.Tuple.tupleExact _) (wpAny_newObj_type (wpAny_pure ⟨_, rfl, wpAny_pure h⟩) room)
    | exact wpAny_bind (m := Builtin.Tuple.tupleExact _) (wpAny_newObj_type (wpAny_bind (wpAny_pure (wpAny_pure ⟨_, rfl, wpAny_pure h⟩))) room)
    | exact wpAny_bind (wpAny_bind (m := Builtin.Tuple.tupleExact _) (wpAny_newObj_type (wpAny_pure (wpAny_pure ⟨_, rfl, wpAny_pure h⟩)) room))
    | exact wpAny_bind (wpAny_bind (m := Builtin.Tuple.tupleExact _) (wpAny_newObj_type (wpAny_pure ⟨_, rfl, wpAny_pure h⟩) room))
end
abbrev backE (e : Expr) (k : Nat) (p1 p2 p3 pos : Pos) : Expr := .Subscript e (.Slice none none (some (.UnaryOp .USub (.Constant (.int 1) k p1) p2)) p3) pos
def tBackT (K : PySem.W.Frag) (te : TE) : TE := fun σ H Q => te σ H fun x H1 => ∃ a xs, x = .ref a ∧ SqT K H1 a xs ∧ ∀ p, H1 p = none → Q (.ref p) (upd H1 p (.tup xs.reverse))
def tBackS (te : TE) : TE := fun σ H Q => te σ H fun x H1 => ∃ y : Str, x = .str y ∧ y.length ≤ sizeLine ∧ ∀ z : Str, z.length ≤ y.length → (∀ c ∈ z.cps.toList, c ∈ y.cps.toList) → Q (.str z) H1
section
variable {X : Cx} {e : Expr} {te : TE} {k : Nat} {p1 p2 p3 pos : Pos}
theorem pe_backT (he : PE X e te) : PE X (backE e k p1 p2 p3 pos) (tBackT X.K te) := by
  refine ⟨fun pins s σ H Q I h => Subscript_ (thn (he.run pins s σ H _ I h) ?_)⟩
  rintro v s1 ⟨x, H1, I1, r1, a, xs, rfl, hx, q⟩
  obtain rfl : v = Value.ref a := r1
  have hst : PO X (some (.UnaryOp .USub (.Constant (.int 1) k p1) p2)) (tPart (tUn (rU fun i => .int (-i)) (tC (.int 1)))) := po_some (pe_un un_neg pe_int)
  refine wpAny_Slice (thn (po_none.run pins s1 σ H1 (fun o H2 => o = none ∧ H2 = H1) I1 ⟨rfl, rfl⟩) ?_)
  rintro vl s2 ⟨l, H2, I2, pl, rfl, rfl⟩
  refine thn (po_none.run pins s2 σ H2 (fun o H3 => o = none ∧ H3 = H2) I2 ⟨rfl, rfl⟩) ?_
  rintro vu s3 ⟨u, H3, I3, pu, rfl, rfl⟩
  refine thn (hst.run pins s3 σ H3 (fun o H4 => o = some (-1) ∧ H4 = H3) I3 ⟨1, rfl, -1, rfl, rfl, rfl⟩) ?_
  rintro vs s4 ⟨o, H4, I4, ps, rfl, rfl⟩
  cases pl
  cases pu
  cases ps with
  | int i t =>
  have I5 : Inv X pins σ H4 { s4 with heap := s4.heap.push { cls := .type "slice", data := .fields #[.none, .none, .int (-1) t] } } :=
    I4.kept (t' := s4.toks) fun b ob q => Heap.get?_push_of_some _ q
  obtain ⟨its, r, ht, hz⟩ := I5.tuple hx
  have hlen := r.length
  show wpAny _ _ (subscriptTail e (.Slice none none (some (.UnaryOp .USub (.Constant (.int 1) k p1) p2)) p3) (.ref a) (.ref s4.heap.objs.size)) _ _ _
  refine tail_any (ops := [.ref a, .ref s4.heap.objs.size]) ht.typeIs PyProof.Rows.slot_tuple_getitem.lookup (item_back (tk := t) ht (Heap.IsSliceOf.new _ .none .none (.int (-1) t)) ?_ (by rw [List.size_toArray]; omega)) (by with_unfolding_all rfl)
  refine ⟨.ref _, _, I5.laid (t' := s4.toks) (o := .tup xs.reverse) (fun b ob q => Heap.get?_push_of_some _ q) (Nat.le_refl _) ?_, rfl, q _ (I5.hok.fresh (Nat.le_refl _))⟩
  exact ⟨by rw [List.length_reverse]; exact hz, _, r.reverse, IsTup.new _ _⟩
theorem back_facts (x : Str) : (⟨((Builtin.Str.strSliceIndices none none (-1) x.length).filterMap (x.cps[·]?)).toArray⟩ : Str).length ≤ x.length ∧
    ∀ c ∈ (⟨((Builtin.Str.strSliceIndices none none (-1) x.length).filterMap (x.cps[·]?)).toArray⟩ : Str).cps.toList, c ∈ x.cps.toList := by
  rw [picked_rev]
  constructor
  · show (List.toArray _).size ≤ _
    rw [List.size_toArray]
    refine Nat.le_trans (List.length_filterMap_le _ _) ?_
    rw [List.length_map, List.length_range]
    exact Nat.le_refl _
  · intro c hc
    have hc' : c ∈ ((List.map (fun k => x.length - 1 - k) (List.range x.length)).filterMap (x.cps[·]?)).toArray.toList := hc
    rw [List.toList_toArray] at hc'
    obtain ⟨i, _, hi⟩ := List.mem_filterMap.mp hc'
    exact Array.mem_toList_iff.mpr (Array.mem_of_getElem? hi)
theorem pe_backS (he : PE X e te) : PE X (backE e k p1 p2 p3 pos) (tBackS te) := by
  refine ⟨fun pins s σ H Q I h => Subscript_ (thn (he.run pins s σ H _ I h) ?_)⟩
  rintro v s1 ⟨x, H1, I1, r1, y, rfl, hz, q⟩
  obtain ⟨ty, rfl⟩ := r1
  have hst : PO X (some (.UnaryOp .USub (.Constant (.int 1) k p1) p2)) (tPart (tUn (rU fun i => .int (-i)) (tC (.int 1)))) := po_some (pe_un un_neg pe_int)
  refine wpAny_Slice (thn (po_none.run pins s1 σ H1 (fun o H2 => o = none ∧ H2 = H1) I1 ⟨rfl, rfl⟩) ?_)
  rintro vl s2 ⟨l, H2, I2, pl, rfl, rfl⟩
  refine thn (po_none.run pins s2 σ H2 (fun o H3 => o = none ∧ H3 = H2) I2 ⟨rfl, rfl⟩) ?_
  rintro vu s3 ⟨u, H3, I3, pu, rfl, rfl⟩
  refine thn (hst.run pins s3 σ H3 (fun o H4 => o = some (-1) ∧ H4 = H3) I3 ⟨1, rfl, -1, rfl, rfl, rfl⟩) ?_
  rintro vs s4 ⟨o, H4, I4, ps, rfl, rfl⟩
  cases pl
  cases pu
  cases ps with
  | int i t =>
  have I5 : Inv X pins σ H4 { s4 with heap := s4.heap.push { cls := .type "slice", data := .fields #[.none, .none, .int (-1) t] } } :=
    I4.kept (t' := s4.toks) fun b ob q => Heap.get?_push_of_some _ q
  obtain ⟨f1, f2⟩ := back_facts y
  show wpAny _ _ (subscriptTail e (.Slice none none (some (.UnaryOp .USub (.Constant (.int 1) k p1) p2)) p3) (.str y ty) (.ref s4.heap.objs.size)) _ _ _
  refine tail_any (ops := [.str y ty, .ref s4.heap.objs.size]) (typeIs_str _ _ _) F.slot_str_getitem.lookup
    (wpAny_getItem_str_slice (l := none) (u := none) (st := some (-1, t)) (Heap.IsSliceOf.new _ .none .none (.int (-1) t)) rfl ?_) (by with_unfolding_all rfl)
  show Made.post (if ((-1 : Int) == 1 && (Builtin.Str.strSliceIndices none none (-1) y.length).length == y.length) = true then Made.val (.str y ty)
    else Made.str ⟨((Builtin.Str.strSliceIndices none none (-1) y.length).filterMap (y.cps[·]?)).toArray⟩) _ _
  rw [if_neg (by simp)]
  refine ⟨Nat.le_trans f1 hz, ?_⟩
  exact ⟨.str _, H4, I5.tok _, ⟨_, rfl⟩, q _ f1 f2⟩
/-- list(xs), list(t) -/
theorem call_listN : CallR X (.type "list") (fun xs H Q => ∃ p ys, xs = [.ref p] ∧ (SqL X.K H p ys ∨ SqT X.K H p ys) ∧ ∀ l, H l = none → l ≠ sysModules → Q (.ref l) (upd H l (.lst ys))) := by
  intro pins s σ H xs us Q I r h
  obtain ⟨p, ys, rfl, hq, q⟩ := h
  obtain ⟨u, rfl, rx⟩ := vals1 r
  obtain rfl : u = Value.ref p := rx
  have fin : ∀ (its : List Value), Vals ys its → ys.length ≤ sizeLine → ∀ (h' : Heap) (c' : Nat), (∀ b o', s.heap.get? b = some o' → h'.get? b = some o') →
      h'.get? s.heap.objs.size = some { cls := .type "list", dict := none, data := .seq its.toArray c', slots := #[] } →
      EP X pins σ Q (.ref s.heap.objs.size) { s with heap := h' } := by
    intro its r' hz h' c' kp e
    have J := I.laid (a := s.heap.objs.size) (o := .lst ys) (t' := s.toks) kp (Nat.le_refl _) ⟨hz, its, c', r', e⟩
    exact ⟨.ref _, _, J, rfl, q _ (I.hok.fresh (Nat.le_refl _)) (Nat.ne_of_gt I.big)⟩
  rcases hq with hq | hq
  · obtain ⟨its, r', pl, hz⟩ := I.list hq
    obtain ⟨o, ho, hc, n, hd⟩ := pl.isList
    have hlen := r'.length
    refine call_list_seq p (.inl rfl) ho hc hd (fun h' c' kp e => fin its r' hz h' c' kp e) ?_
    rw [List.size_toArray]
    omega
  · obtain ⟨its, r', pl, hz⟩ := I.tuple hq
    obtain ⟨o, ho, hc, n, hd⟩ := pl
    have hlen := r'.length
    refine call_list_seq p (.inr rfl) ho hc hd (fun h' c' kp e => fin its r' hz h' c' kp e) ?_
    rw [List.size_toArray]
    omega
end

/-! ## readings, answered from the left -/
section
variable {K : PySem.W.Frag} {σ : L2.St} {H : Hp} {Q : VK} {D : Ends} {v : V}
theorem w_C (k : Q v H) : tC v σ H Q := k
theorem w_var {i : Nat} (h : σ[i]? = some (some v)) (k : Q v H) : tVar i σ H Q := ⟨v, h, k⟩
theorem w_op {r : R2} {ta tb : TE} (k : ta σ H fun x H1 => tb σ H1 fun y H2 => r x y H2 Q) : tOp r ta tb σ H Q := k
theorem w_un {r : V → Hp → VK → Prop} {ta : TE} (k : ta σ H fun x H1 => r x H1 Q) : tUn r ta σ H Q := k
theorem w_seq {t u : TS} (k : t { D with nx := u D } σ H) : tSeq t u D σ H := k
theorem w_asg {te : TE} {g : TG} (k : te σ H fun x H1 => g x σ H1 D.nx) : tAsg te g D σ H := k
theorem w_ret {te : TE} (k : te σ H D.rt) : tRet te D σ H := k
theorem w_retN (k : D.rt .non H) : tRetN D σ H := k
theorem w_drop {te : TE} (k : te σ H fun _ H1 => D.nx σ H1) : tDrop te D σ H := k
theorem w_next (k : D.nx σ H) : tNext D σ H := k
theorem w_ifS {c : TT} {t u : TS} (k : c σ H fun b H1 => if b = true then t D σ H1 else u D σ H1) : tIfS c t u D σ H := k
theorem w_test {t : TE} {R : Bool → Hp → Prop} (k : t σ H fun x H1 => ∃ c, x = .bl c ∧ R c H1) : tTest t σ H R := k
theorem w_B {t : TE} {R : Bool → Hp → Prop} (k : t σ H fun x H1 => ∃ c, x = .bl c ∧ R c H1) : tB t σ H R := k
theorem w_bl {b : Bool} {R : Bool → Prop} (k : R b) : ∃ c, V.bl b = .bl c ∧ R c := ⟨b, rfl, k⟩
theorem w_and {t u : TT} {R : Bool → Hp → Prop} (k : t σ H fun c H1 => if c = true then u σ H1 R else R false H1) : tAnd t u σ H R := k
theorem w_or {t u : TT} {R : Bool → Hp → Prop} (k : t σ H fun c H1 => if c = true then R true H1 else u σ H1 R) : tOr t u σ H R := k
theorem w_not {t : TT} {R : Bool → Hp → Prop} (k : t σ H fun c H1 => R (!c) H1) : tNot t σ H R := k
theorem w_if {t : TT} {ta tb : TE} (k : t σ H fun c H1 => if c = true then ta σ H1 Q else tb σ H1 Q) : tIf t ta tb σ H Q := k
theorem w_andV {ta tb : TE} (k : ta σ H fun x H1 => ∃ c, x = .bl c ∧ if c = true then tb σ H1 Q else Q (.bl false) H1) : tAndV ta tb σ H Q := k
theorem w_orV {ta tb : TE} (k : ta σ H fun x H1 => ∃ c, x = .bl c ∧ if c = true then Q (.bl true) H1 else tb σ H1 Q) : tOrV ta tb σ H Q := k
theorem w_notV {ta : TE} (k : ta σ H fun x H1 => ∃ c, x = .bl c ∧ Q (.bl (!c)) H1) : tNotV ta σ H Q := k
theorem w_cb {r : List V → Hp → VK → Prop} {t : TA} (k : t σ H fun vs H1 => r vs H1 Q) : tCB r t σ H Q := k
theorem w_nil {R : List V → Hp → Prop} (k : R [] H) : tNil σ H R := k
theorem w_cons {R : List V → Hp → Prop} {ta : TE} {tr : TA} (k : ta σ H fun x H1 => tr σ H1 fun xs H2 => R (x :: xs) H2) : tCons ta tr σ H R := k
theorem w_tup {t : TA} (k : t σ H fun xs H1 => xs.length ≤ sizeLine ∧ ∀ p, H1 p = none → Q (.ref p) (upd H1 p (.tup xs))) : tTup t σ H Q := k
theorem w_lst {t : TA} (k : t σ H fun xs H1 => xs.length ≤ sizeLine ∧ ∀ p, H1 p = none → Q (.ref p) (upd H1 p (.lst xs))) : tLst t σ H Q := k
theorem w_lstN {t : TA} (k : t σ H fun xs H1 => xs.length ≤ sizeLine ∧ ∀ p, H1 p = none → p ≠ sysModules → Q (.ref p) (upd H1 p (.lst xs))) : tLstN t σ H Q := k
theorem w_call {sp : Sp} {dvs : List V} {E : XK} {t : TA} (k : t σ H fun vs H1 => sp (vs ++ dvs) H1 Q E) : tCall sp dvs E t σ H Q := k
theorem w_sl {r : V → Option Int → Option Int → Hp → VK → Prop} {te : TE} {tl th : TO} (k : te σ H fun x H1 => tl σ H1 fun l H2 => th σ H2 fun u H3 => r x l u H3 Q) : tSl r te tl th σ H Q := k
theorem w_nopart {R : Option Int → Hp → Prop} (k : R none H) : tNoPart σ H R := k
theorem w_part {R : Option Int → Hp → Prop} {t : TE} (k : t σ H fun x H1 => ∃ i, x = .int i ∧ R (some i) H1) : tPart t σ H R := k
theorem w_isint {i : Int} {R : Int → Prop} (k : R i) : ∃ j, V.int i = .int j ∧ R j := ⟨i, rfl, k⟩
theorem w_gname {i : Nat} {R : L2.St → Hp → Prop} (k : R (σ.set i (some v)) H) : gName i v σ H R := k
theorem w_gsub {to ti : TE} {t : TSet} {R : L2.St → Hp → Prop} (k : to σ H fun o H1 => ti σ H1 fun i H2 => t o i v H2 fun H3 => R σ H3) : gSub to ti t v σ H R := k
theorem w_I0 {g : Int → Int → V} {i j : Int} (k : Q (g i j) H) : rI0 g (.int i) (.int j) H Q := ⟨i, j, rfl, rfl, k⟩
theorem w_I {C : Int → Int → Prop} {g : Int → Int → V} {i j : Int} (c : C i j) (k : Q (g i j) H) : rI C g (.int i) (.int j) H Q := ⟨i, j, rfl, rfl, c, k⟩
theorem w_U {g : Int → V} {i : Int} (k : Q (g i) H) : rU g (.int i) H Q := ⟨i, rfl, k⟩
theorem w_lt {p : Int → Int → Bool} {ta tb : TE} (k : ta σ H fun x H1 => tb σ H1 fun y H2 => ∃ i j, x = .int i ∧ y = .int j ∧ Q (.bl (p i j)) H2) : tCmp p ta tb σ H Q := k
theorem w_ij {i j : Int} {R : Int → Int → Prop} (k : R i j) : ∃ i' j', V.int i = .int i' ∧ V.int j = .int j' ∧ R i' j' := ⟨i, j, rfl, rfl, k⟩
theorem w_int {n : Int} {R : Int → Prop} {S : Bool → Prop} (k : R n) : (∃ i, [V.int n] = [V.int i] ∧ R i) ∨ ∃ b, [V.int n] = [V.bl b] ∧ S b := .inl ⟨n, rfl, k⟩
theorem w_intb {b : Bool} {R : Int → Prop} {S : Bool → Prop} (k : S b) : (∃ i, [V.bl b] = [V.int i] ∧ R i) ∨ ∃ b', [V.bl b] = [V.bl b'] ∧ S b' := .inr ⟨b, rfl, k⟩
theorem w_abs {n : Int} {R : Int → Prop} (k : R n) : ∃ i, [V.int n] = [V.int i] ∧ R i := ⟨n, rfl, k⟩
theorem w_max {m n : Int} {R : Int → Int → Prop} (k : R m n) : ∃ i j, [V.int m, V.int n] = [V.int i, V.int j] ∧ R i j := ⟨m, n, rfl, k⟩
theorem w_ixL {p : Addr} {xs : List V} {i : Int} (h : SqL K H p xs) (hv : atI xs i = some v) (k : Q v H) : rIxL K (.ref p) (.int i) H Q := ⟨p, xs, i, v, rfl, rfl, h, hv, k⟩
theorem w_ixT {p : Addr} {xs : List V} {i : Int} (h : SqT K H p xs) (hv : atI xs i = some v) (k : Q v H) : rIxT K (.ref p) (.int i) H Q := ⟨p, xs, i, v, rfl, rfl, h, hv, k⟩
theorem w_setL {p : Addr} {xs : List V} {i : Int} {j : Nat} {R : Hp → Prop} (h : H p = some (.lst xs)) (hj : ixN xs.length i = some j) (k : R (upd H p (.lst (xs.set j v)))) : rSetL (.ref p) (.int i) v H R := ⟨p, xs, i, j, rfl, rfl, h, hj, k⟩
theorem w_lenL {p : Addr} {xs : List V} (h : SqL K H p xs) {R : Nat → Prop} (k : R xs.length) : ∃ x n, [V.ref p] = [x] ∧ LenV K x H n ∧ R n := ⟨.ref p, xs.length, rfl, .inl ⟨_, h, rfl⟩, k⟩
theorem w_lenT {p : Addr} {xs : List V} (h : SqT K H p xs) {R : Nat → Prop} (k : R xs.length) : ∃ x n, [V.ref p] = [x] ∧ LenV K x H n ∧ R n := ⟨.ref p, xs.length, rfl, .inr ⟨_, h, rfl⟩, k⟩
theorem w_new {n : Nat} {R : Addr → Prop} (h : n ≤ sizeLine) (k : ∀ p, H p = none → R p) : n ≤ sizeLine ∧ ∀ p, H p = none → R p := ⟨h, k⟩
theorem w_newN {n : Nat} {R : Addr → Prop} (h : n ≤ sizeLine) (k : ∀ p, H p = none → p ≠ sysModules → R p) : n ≤ sizeLine ∧ ∀ p, H p = none → p ≠ sysModules → R p := ⟨h, k⟩
theorem at_mem {xs : List V} {i : Int} (h0 : 0 ≤ i) (h1 : i < (xs.length : Int)) : ∃ v, v ∈ xs ∧ atI xs i = some v := by
  have hb : i.toNat < xs.length := by omega
  refine ⟨xs[i.toNat], List.getElem_mem hb, ?_⟩
  unfold atI ixN
  rw [if_pos h0, if_pos h1]
  show xs[i.toNat]? = _
  rw [List.getElem?_eq_getElem hb]
theorem w_ixLany {p : Addr} {xs : List V} {i : Int} (h : SqL K H p xs) (h0 : 0 ≤ i) (h1 : i < (xs.length : Int)) (k : ∀ v, v ∈ xs → Q v H) : rIxL K (.ref p) (.int i) H Q := by
  obtain ⟨v, hv, e⟩ := at_mem h0 h1
  exact ⟨p, xs, i, v, rfl, rfl, h, e, k v hv⟩
theorem w_ixTany {p : Addr} {xs : List V} {i : Int} (h : SqT K H p xs) (h0 : 0 ≤ i) (h1 : i < (xs.length : Int)) (k : ∀ v, v ∈ xs → Q v H) : rIxT K (.ref p) (.int i) H Q := by
  obtain ⟨v, hv, e⟩ := at_mem h0 h1
  exact ⟨p, xs, i, v, rfl, rfl, h, e, k v hv⟩
/-- a reckoned int as a letter with what is known of it -/
theorem w_Ib {C : Int → Int → Prop} {f : Int → Int → Int} {i j : Int} (B : Int → Prop) (c : C i j) (hb : B (f i j)) (k : ∀ r, B r → Q (.int r) H) : rI C (fun i j => .int (f i j)) (.int i) (.int j) H Q := ⟨i, j, rfl, rfl, c, k _ hb⟩
theorem w_I0b {f : Int → Int → Int} {i j : Int} (B : Int → Prop) (hb : B (f i j)) (k : ∀ r, B r → Q (.int r) H) : rI0 (fun i j => .int (f i j)) (.int i) (.int j) H Q := ⟨i, j, rfl, rfl, k _ hb⟩
theorem c_mul1 {i j : Int} (h1 : -18446744073709551616 < i) (h2 : i < 18446744073709551616) : CMul i j := .inl ⟨h1, h2⟩
theorem c_mul2 {i j : Int} (h1 : -18446744073709551616 < j) (h2 : j < 18446744073709551616) : CMul i j := .inr ⟨h1, h2⟩
theorem c_div {i j : Int} (h1 : 0 < j) (h2 : j < 1073741824) : CDiv i j := ⟨h1, h2⟩
theorem c_pow {i j : Int} (h1 : 0 ≤ j) (h2 : j ≤ 1000000) (h3 : i.natAbs < 18446744073709551616) : CPow i j := ⟨h1, h2, h3⟩
theorem c_powW {i j : Int} (h : (decide (0 ≤ j) && decide ((Builtin.Int.intBits i : Int) * j ≤ 2 ^ 27)) = true) : CPowW i j := by
  rw [Bool.and_eq_true] at h
  exact ⟨of_decide_eq_true h.1, of_decide_eq_true h.2⟩
theorem c_ne {j : Int} (h : j ≠ 0) : (fun _ j : Int => j ≠ 0) 0 j := h
theorem w_lstRg {te : L2.St → Hp → (Int → Int → Hp → Prop) → Prop} (k : te σ H fun a b H1 => RgOk a b ∧ ∀ q, H1 q = none → Q (.ref q) (upd H1 q (.lst (rgV a b)))) : tLstRg te σ H Q := k
theorem w_rg1 {ta : TE} {R : Int → Int → Hp → Prop} (k : ta σ H fun x H1 => ∃ n, x = .int n ∧ R 0 n H1) : tRg1 ta σ H R := k
theorem w_rg2 {ta tb : TE} {R : Int → Int → Hp → Prop} (k : ta σ H fun x H1 => tb σ H1 fun y H2 => ∃ i j, x = .int i ∧ y = .int j ∧ R i j H2) : tRg2 ta tb σ H R := k
theorem iteD {c A B : Prop} [Decidable c] (h1 : c → A) (h2 : ¬ c → B) : if decide c = true then A else B := by
  by_cases h : c
  · rw [decide_eq_true h, if_pos rfl]
    exact h1 h
  · rw [decide_eq_false h, if_neg Bool.false_ne_true]
    exact h2 h
theorem iteB {b : Bool} {A B : Prop} (h1 : b = true → A) (h2 : b = false → B) : if b = true then A else B := by
  cases b with
  | true => exact iteT (h1 rfl)
  | false => exact iteF (h2 rfl)
theorem upd_get {p b : Addr} {o u : HO} (n : H p = none) (h : H b = some o) : upd H p u b = some o := by
  rw [upd_ne (ne_of_none h n)]
  exact h
theorem upd_get2 {p b : Addr} {o u : HO} (n : b ≠ p) (h : H b = some o) : upd H p u b = some o := by
  rw [upd_ne n]
  exact h
end

/-! ## displays of data, as a whole -/
theorem Same.sqT {K : PySem.W.Frag} {a : Addr} {H H' : Hp} {xs : List V} (h : Same H H') (s : SqT K H a xs) : SqT K H' a xs := by
  rcases s with (s | ⟨o, s⟩) | s
  · exact .inl (.inl (h _ _ s))
  · exact .inl (.inr ⟨o, h _ _ s⟩)
  · exact .inr s
mutual
theorem Dq.same {K : PySem.W.Frag} {q : Addr} {H H' : Hp} (h : Same H H') : ∀ {v : V} {d : PyData}, Dq K q H v d → Dq K q H' v d
  | _, _, .non => .non
  | _, _, .bl b => .bl b
  | _, _, .int i => .int i
  | _, _, .str x => .str x
  | _, _, .lst e n n2 r => .lst (h _ _ e) n n2 (DqA.same h r)
  | _, _, .tup e r => .tup (Same.sqT h e) (DqA.same h r)
  | _, _, .dic e r1 r2 => .dic (h _ _ e) (DqA.same h r1) (DqA.same h r2)
theorem DqA.same {K : PySem.W.Frag} {q : Addr} {H H' : Hp} (h : Same H H') : ∀ {vs : List V} {ds : List PyData}, DqA K q H vs ds → DqA K q H' vs ds
  | _, _, .nil => .nil
  | _, _, .cons r t => .cons (Dq.same h r) (DqA.same h t)
end
theorem DqA.mem {K : PySem.W.Frag} {q : Addr} {H : Hp} : ∀ {vs : List V} {ds : List PyData} {v : V}, DqA K q H vs ds → v ∈ vs → ∃ d, d ∈ ds ∧ Dq K q H v d
  | _, _, v, .nil, h => by simp at h
  | _, _, v, .cons r t, h => by
    rcases List.mem_cons.mp h with e | h
    · subst e
      exact ⟨_, List.mem_cons_self, r⟩
    · obtain ⟨d, h1, h2⟩ := DqA.mem t h
      exact ⟨d, List.mem_cons_of_mem _ h1, h2⟩
theorem same_upd {H H' : Hp} {p : Addr} {o : HO} (h : Same H H') (n : H' p = none) : Same H (upd H' p o) := fun b u e => upd_get n (h b u e)

def DE (K : PySem.W.Frag) (q : Addr) (te : TE) (d : PyData) : Prop := ∀ (σ : L2.St) (H : Hp) (Q : VK), (∃ o, H q = some o) → (∀ v H', Same H H' → Dq K q H' v d → Q v H') → te σ H Q
def DA (K : PySem.W.Frag) (q : Addr) (ta : TA) (ds : List PyData) : Prop := ∀ (σ : L2.St) (H : Hp) (R : List V → Hp → Prop), (∃ o, H q = some o) → (∀ vs H', Same H H' → DqA K q H' vs ds → R vs H') → ta σ H R
section
variable {K : PySem.W.Frag} {q : Addr}
theorem de_non : DE K q (tC .non) .none := fun _ H _ _ k => k _ H (Same.refl H) .non
theorem de_bl (b : Bool) : DE K q (tC (.bl b)) (.bool b) := fun _ H _ _ k => k _ H (Same.refl H) (.bl b)
theorem de_int (i : Int) : DE K q (tC (.int i)) (.int i) := fun _ H _ _ k => k _ H (Same.refl H) (.int i)
theorem de_str (x : Str) : DE K q (tC (.str x)) (.str x) := fun _ H _ _ k => k _ H (Same.refl H) (.str x)
theorem da_nil : DA K q tNil [] := fun _ H _ _ k => k [] H (Same.refl H) .nil
theorem da_cons {te : TE} {ta : TA} {d : PyData} {ds : List PyData} (h : DE K q te d) (t : DA K q ta ds) : DA K q (tCons te ta) (d :: ds) := by
  intro σ H R hq k
  refine h σ H _ hq fun v H1 s1 d1 => ?_
  obtain ⟨o, ho⟩ := hq
  refine t σ H1 _ ⟨o, s1 _ _ ho⟩ fun vs H2 s2 d2 => ?_
  exact k (v :: vs) H2 (s1.trans s2) (.cons (d1.same s2) d2)
theorem de_tup {ta : TA} {ds : List PyData} (h : DA K q ta ds) (hz : ds.length ≤ 1000) : DE K q (tTup ta) (.tuple ds) := by
  intro σ H Q hq k
  refine h σ H _ hq fun vs H1 s1 d1 => ⟨by rw [d1.length, sizeLine_eq]; omega, fun p hp => ?_⟩
  exact k _ _ (same_upd s1 hp) (.tup (.of upd_same) (d1.same (same_upd (Same.refl _) hp)))
theorem de_lst {ta : TA} {ds : List PyData} (h : DA K q ta ds) (hz : ds.length ≤ 1000) : DE K q (tLstN ta) (.list ds) := by
  intro σ H Q hq k
  refine h σ H _ hq fun vs H1 s1 d1 => ⟨by rw [d1.length, sizeLine_eq]; omega, fun p hp hm => ?_⟩
  obtain ⟨o, ho⟩ := hq
  exact k _ _ (same_upd s1 hp) (.lst upd_same (Ne.symm (ne_of_none (s1 _ _ ho) hp)) hm (d1.same (same_upd (Same.refl _) hp)))
theorem de_opI {C : Int → Int → Prop} {f : Int → Int → Int} {a b c : Int} (h : C a b) (e : f a b = c) : DE K q (tOp (rI C fun i j => V.int (f i j)) (tC (.int a)) (tC (.int b))) (.int c) := by
  intro σ H Q _ k
  refine ⟨a, b, rfl, rfl, h, ?_⟩
  show Q (V.int (f a b)) H
  rw [e]
  exact k _ H (Same.refl H) (.int c)
theorem de_unI {f : Int → Int} {a c : Int} (e : f a = c) : DE K q (tUn (rU fun i => V.int (f i)) (tC (.int a))) (.int c) := by
  intro σ H Q _ k
  refine ⟨a, rfl, ?_⟩
  show Q (V.int (f a)) H
  rw [e]
  exact k _ H (Same.refl H) (.int c)
theorem de_dnew : DE K q tDNewK (.dict []) := by
  intro σ H Q hq k p hp
  exact k _ _ (same_upd (Same.refl H) hp) (.dic upd_same .nil .nil)
theorem de_disp1 {x : Str} {i : Int} : DE K q (tDisp [(tC (.str x), tC (.int i))]) (.dict [(.str x, .int i)]) := by
  intro σ H Q hq k p hp
  refine ⟨upd_same, [(.inr x, .int i)], rfl, (by show 1 ≤ 15; decide), ?_⟩
  rw [upd_upd]
  exact k _ _ (same_upd (Same.refl H) hp) (.dic upd_same (.cons (.str x) .nil) (.cons (.int i) .nil))
theorem w_cat {H : Hp} {Q : VK} {l b : Addr} {xs zs : List V} (h1 : H l = some (.lst xs)) (h2 : H b = some (.lst zs)) (hz : xs.length + zs.length ≤ 1000) (k : ∀ p, H p = none → Q (.ref p) (upd H p (.lst (xs ++ zs)))) : rCat (.ref l) (.ref b) H Q :=
  ⟨l, b, xs, zs, rfl, rfl, h1, h2, by rw [sizeLine_eq]; omega, k⟩
end

/-! ## t != (), t == () -/
section
variable {X : Cx}
def rNeE (K : PySem.W.Frag) : R2 := fun x y H Q => ∃ a b xs, x = .ref a ∧ y = .ref b ∧ SqT K H a xs ∧ SqT K H b [] ∧ Q (.bl (!xs.isEmpty)) H
def rEqE (K : PySem.W.Frag) : R2 := fun x y H Q => ∃ a b xs, x = .ref a ∧ y = .ref b ∧ SqT K H a xs ∧ SqT K H b [] ∧ Q (.bl xs.isEmpty) H
theorem op_neE (hu : X.A.units + 1 < cLine) : OpR X (compareOp .NotEq) (rNeE X.K) := by
  intro pins s σ H x y v u Q I rx ry h
  obtain ⟨a, b, xs, rfl, rfl, ha, hb, q⟩ := h
  obtain rfl : v = Value.ref a := rx
  obtain rfl : u = Value.ref b := ry
  obtain ⟨its, r1, ⟨o1, e1, c1, n1, d1⟩, _⟩ := I.tuple ha
  obtain ⟨its2, r2, ⟨o2, e2, c2, n2, d2⟩, _⟩ := I.tuple hb
  cases r2
  have hl := r1.length
  refine SeqAt.RcNeAt.tuples (e := fun _ => true) (hl := ⟨o1, e1, c1, n1, d1⟩) (hb := ⟨o2, e2, c2, n2, d2⟩) (by omega) (fun j h1 h2 => absurd h2 (by simp)) _ _ _ _ ?_
  refine ⟨.bl _, H, I, rfl, ?_⟩
  have e : (!((List.range (min its.toArray.size ([] : List Value).toArray.size)).all (fun _ => true) && its.toArray.size == ([] : List Value).toArray.size)) = !xs.isEmpty := by
    cases xs with
    | nil =>
      cases r1
      rfl
    | cons x xs =>
      cases r1
      simp
  rw [e]
  exact q
theorem op_eqE (hu : X.A.units + 1 < cLine) : OpR X (compareOp .Eq) (rEqE X.K) := by
  intro pins s σ H x y v u Q I rx ry h
  obtain ⟨a, b, xs, rfl, rfl, ha, hb, q⟩ := h
  obtain rfl : v = Value.ref a := rx
  obtain rfl : u = Value.ref b := ry
  obtain ⟨its, r1, ⟨o1, e1, c1, n1, d1⟩, _⟩ := I.tuple ha
  obtain ⟨its2, r2, ⟨o2, e2, c2, n2, d2⟩, _⟩ := I.tuple hb
  cases r2
  have hl := r1.length
  refine SeqAt.RcAt.tuples (e := fun _ => true) (hl := ⟨o1, e1, c1, n1, d1⟩) (hb := ⟨o2, e2, c2, n2, d2⟩) (by omega) (fun j h1 h2 => absurd h2 (by simp)) _ _ _ _ ?_
  refine ⟨.bl _, H, I, rfl, ?_⟩
  have e : ((List.range (min its.toArray.size ([] : List Value).toArray.size)).all (fun _ => true) && its.toArray.size == ([] : List Value).toArray.size) = xs.isEmpty := by
    cases xs with
    | nil =>
      cases r1
      rfl
    | cons x xs =>
      cases r1
      simp
  rw [e]
  exact q
end
theorem w_neE {K : PySem.W.Frag} {H : Hp} {Q : VK} {a b : Addr} {xs : List V} (h1 : SqT K H a xs) (h2 : SqT K H b []) (k : Q (.bl (!xs.isEmpty)) H) : rNeE K (.ref a) (.ref b) H Q := ⟨a, b, xs, rfl, rfl, h1, h2, k⟩
theorem w_eqE {K : PySem.W.Frag} {H : Hp} {Q : VK} {a b : Addr} {xs : List V} (h1 : SqT K H a xs) (h2 : SqT K H b []) (k : Q (.bl xs.isEmpty) H) : rEqE K (.ref a) (.ref b) H Q := ⟨a, b, xs, rfl, rfl, h1, h2, k⟩

/-! ## of what built-in type data are -/
def tyD : PyData → String
  | .none => "NoneType"
  | .bool _ => "bool"
  | .int _ => "int"
  | .str _ => "str"
  | .list _ => "list"
  | .tuple _ => "tuple"
  | .dict _ => "dict"
theorem sqT_tyX {K : PySem.W.Frag} {H : Hp} {a : Addr} {xs : List V} (h : SqT K H a xs) : TyX K H (.ref a) (.type "tuple") := by
  rcases h with (h | ⟨o, h⟩) | ⟨o, its, n, hk, hc, _⟩
  · exact .base (.tup h)
  · exact .fTuple h
  · exact .kTuple hk hc
theorem Dq.tyX {K : PySem.W.Frag} {q : Addr} {H : Hp} : ∀ {v : V} {d : PyData}, Dq K q H v d → TyX K H v (.type (tyD d))
  | _, _, .non => .base .non
  | _, _, .bl b => .base (.bl b)
  | _, _, .int i => .base (.int i)
  | _, _, .str x => .base (.str x)
  | _, _, .lst e _ _ _ => .base (.lst e)
  | _, _, .tup e _ => sqT_tyX e
  | _, _, .dic e _ _ => .base (.dK e)
/-- isinstance(data, built-in type) -/
theorem w_isT {K : PySem.W.Frag} {q : Addr} {H : Hp} {Q : VK} {v : V} {d : PyData} {T : String} (b : Bool) (hd : Dq K q H v d) (e : kitB (tyD d) T = some b) (k : Q (.bl b) H) : rIsi K [v, .ty T] H Q :=
  ⟨v, .ty T, .type (tyD d), .type T, b, rfl, .ty T, hd.tyX, kit_ty e, k⟩

/-! ## expressions over data that is there -/
def DV (K : PySem.W.Frag) (q : Addr) (σ : L2.St) (H : Hp) (te : TE) (d : PyData) : Prop := ∀ (H1 : Hp) (Q : VK), Same H H1 → (∀ v H', Same H1 H' → Dq K q H' v d → Q v H') → te σ H1 Q
def DP (K : PySem.W.Frag) (q : Addr) (σ : L2.St) (H : Hp) (te : TE) (Φ : PyData → Prop) : Prop := ∀ (H1 : Hp) (Q : VK), Same H H1 → (∀ v H' d, Same H1 H' → Dq K q H' v d → Φ d → Q v H') → te σ H1 Q
def DPA (K : PySem.W.Frag) (q : Addr) (σ : L2.St) (H : Hp) (ta : TA) (Φ : PyData → Prop) (n : Nat) : Prop := ∀ (H1 : Hp) (R : List V → Hp → Prop), Same H H1 →
  (∀ vs H' ds, Same H1 H' → DqA K q H' vs ds → (∀ d ∈ ds, Φ d) → ds.length = n → R vs H') → ta σ H1 R
def cutD (ds : List PyData) (lo hi : Option Int) : List PyData := (ds.drop (HT.sIx ds.length 0 lo)).take (HT.sIx ds.length ds.length hi - HT.sIx ds.length 0 lo)
theorem cutD_szA (ds : List PyData) (lo hi : Option Int) : szA (cutD ds lo hi) ≤ szA ds := Nat.le_trans (szA_take _ _) (szA_drop _ _)
theorem cutD_to {ds : List PyData} {i : Int} (h0 : 0 ≤ i) (h1 : i < (ds.length : Int)) : cutD ds none (some i) = ds.take i.toNat := by
  unfold cutD
  have e1 : HT.sIx ds.length 0 none = 0 := rfl
  have e2 : HT.sIx ds.length ds.length (some i) = i.toNat := by
    show (if i < 0 then (i + (ds.length : Int)).toNat else min i.toNat ds.length) = i.toNat
    rw [if_neg (by omega)]
    omega
  rw [e1, e2, List.drop_zero, Nat.sub_zero]
theorem cutD_from {ds : List PyData} {i : Int} (h0 : 0 ≤ i) (h1 : i ≤ (ds.length : Int)) : cutD ds (some i) none = ds.drop i.toNat := by
  unfold cutD
  have e1 : HT.sIx ds.length ds.length none = ds.length := rfl
  have e2 : HT.sIx ds.length 0 (some i) = i.toNat := by
    show (if i < 0 then (i + (ds.length : Int)).toNat else min i.toNat ds.length) = i.toNat
    rw [if_neg (by omega)]
    omega
  rw [e1, e2]
  exact List.take_of_length_le (by rw [List.length_drop]; omega)
theorem cutD_mem {ds : List PyData} {lo hi : Option Int} {d : PyData} (h : d ∈ cutD ds lo hi) : d ∈ ds := List.mem_of_mem_drop (List.mem_of_mem_take h)
section
variable {K : PySem.W.Frag} {q : Addr} {σ : L2.St} {H : Hp}
theorem DV.dp {te : TE} {d : PyData} {Φ : PyData → Prop} (h : DV K q σ H te d) (f : Φ d) : DP K q σ H te Φ := fun H1 Q s k => h H1 Q s fun v H' s' dq => k v H' d s' dq f
theorem dpa_nil {Φ : PyData → Prop} : DPA K q σ H tNil Φ 0 := fun H1 R _ k => k [] H1 [] (Same.refl _) .nil (fun d h => absurd h (by simp)) rfl
theorem dpa_cons {te : TE} {ta : TA} {Φ : PyData → Prop} {n : Nat} (h : DP K q σ H te Φ) (t : DPA K q σ H ta Φ n) : DPA K q σ H (tCons te ta) Φ (n + 1) := by
  intro H1 R s k
  refine h H1 _ s fun v H2 d s2 dq f => ?_
  refine t H2 _ (s.trans s2) fun vs H3 ds s3 dqs fs hn => ?_
  refine k (v :: vs) H3 (d :: ds) (s2.trans s3) (.cons (dq.same s3) dqs) (fun d' hd => ?_) (by rw [List.length_cons, hn])
  rcases List.mem_cons.mp hd with e | hd
  · rw [e]
    exact f
  · exact fs d' hd
theorem dv_var {i : Nat} {v : V} {d : PyData} (h : σ[i]? = some (some v)) (hd : Dq K q H v d) : DV K q σ H (tVar i) d := fun H1 Q s k => ⟨v, h, k v H1 (Same.refl _) (hd.same s)⟩
theorem dv_non : DV K q σ H (tC .non) .none := fun H1 Q s k => k _ H1 (Same.refl _) .non
theorem dv_bl (b : Bool) : DV K q σ H (tC (.bl b)) (.bool b) := fun H1 Q s k => k _ H1 (Same.refl _) (.bl b)
theorem dv_int (i : Int) : DV K q σ H (tC (.int i)) (.int i) := fun H1 Q s k => k _ H1 (Same.refl _) (.int i)
theorem dv_str (x : Str) : DV K q σ H (tC (.str x)) (.str x) := fun H1 Q s k => k _ H1 (Same.refl _) (.str x)
theorem dv_tup0 : DV K q σ H (tTup tNil) (.tuple []) := fun H1 Q s k => ⟨Nat.zero_le _, fun p hp => k _ _ (same_upd (Same.refl _) hp) (.tup (.of upd_same) .nil)⟩
theorem dv_tup1 {te : TE} {d : PyData} (h : DV K q σ H te d) : DV K q σ H (tTup (tCons te tNil)) (.tuple [d]) := by
  intro H1 Q s k
  refine h H1 _ s fun v H2 s2 dq => ⟨by show 1 ≤ sizeLine; decide, fun p hp => ?_⟩
  exact k _ _ (same_upd s2 hp) (.tup (.of upd_same) (.cons (dq.same (same_upd (Same.refl _) hp)) .nil))
theorem dv_lst1 {te : TE} {d : PyData} (hq : ∃ o, H q = some o) (h : DV K q σ H te d) : DV K q σ H (tLstN (tCons te tNil)) (.list [d]) := by
  intro H1 Q s k
  refine h H1 _ s fun v H2 s2 dq => ⟨by show 1 ≤ sizeLine; decide, fun p hp hm => ?_⟩
  obtain ⟨o, ho⟩ := hq
  exact k _ _ (same_upd s2 hp) (.lst upd_same (Ne.symm (ne_of_none ((s.trans s2) _ _ ho) hp)) hm (.cons (dq.same (same_upd (Same.refl _) hp)) .nil))
theorem dv_list {te : TE} {ds : List PyData} (hq : ∃ o, H q = some o) (h : DV K q σ H te (.tuple ds)) :
    DV K q σ H (tCB (fun xs H Q => ∃ p ys, xs = [.ref p] ∧ (SqL K H p ys ∨ SqT K H p ys) ∧ ∀ l, H l = none → l ≠ sysModules → Q (.ref l) (upd H l (.lst ys))) (tCons te tNil)) (.list ds) := by
  intro H1 Q s k
  refine h H1 _ s fun v H2 s2 dq => ?_
  cases dq with
  | tup e r =>
    refine ⟨_, _, rfl, .inr e, fun l hl hm => ?_⟩
    obtain ⟨o, ho⟩ := hq
    exact k _ _ (same_upd s2 hl) (.lst upd_same (Ne.symm (ne_of_none ((s.trans s2) _ _ ho) hl)) hm (r.same (same_upd (Same.refl _) hl)))
theorem dv_back {te : TE} {ds : List PyData} (h : DV K q σ H te (.tuple ds)) : DV K q σ H (tBackT K te) (.tuple ds.reverse) := by
  intro H1 Q s k
  refine h H1 _ s fun v H2 s2 dq => ?_
  cases dq with
  | tup e r => exact ⟨_, _, rfl, e, fun p hp => k _ _ (same_upd s2 hp) (.tup (.of upd_same) (r.rev.same (same_upd (Same.refl _) hp)))⟩
theorem dv_cat {ta tb : TE} {ds es : List PyData} (ha : DV K q σ H ta (.tuple ds)) (hb : DV K q σ H tb (.tuple es)) (hz : ds.length + es.length ≤ 1000000) : DV K q σ H (tOp (rCatA K) ta tb) (.tuple (ds ++ es)) := by
  intro H1 Q s k
  refine ha H1 _ s fun v H2 s2 dq => ?_
  refine hb H2 _ (s.trans s2) fun u H3 s3 dq2 => ?_
  cases dq with
  | tup e r =>
    cases dq2 with
    | tup e2 r2 =>
      have e' := Same.sqT s3 e
      have r' := r.same s3
      refine ⟨_, _, _, _, rfl, rfl, e', e2, ?_, fun z => ?_, fun z1 z2 => ?_, fun z1 z2 p hp => ?_⟩
      · rw [r'.length, r2.length, sizeLine_eq]
        omega
      · subst z
        cases r'
        exact k _ _ (s2.trans s3) (.tup e2 r2)
      · subst z2
        cases r2
        rw [List.append_nil] at k
        exact k _ _ (s2.trans s3) (.tup e' r')
      · exact k _ _ (same_upd (s2.trans s3) hp) (.tup (.of upd_same) ((r'.append r2).same (same_upd (Same.refl _) hp)))
theorem dv_slice {te : TE} {tl th : TO} {lo hi : Option Int} {ds : List PyData} (h : DV K q σ H te (.tuple ds)) (hl : ∀ (H1 : Hp) (R : Option Int → Hp → Prop), R lo H1 → tl σ H1 R) (hh : ∀ (H1 : Hp) (R : Option Int → Hp → Prop), R hi H1 → th σ H1 R) :
    DV K q σ H (tSl (rSlA K) te tl th) (.tuple (cutD ds lo hi)) := by
  intro H1 Q s k
  refine h H1 _ s fun v H2 s2 dq => hl _ _ (hh _ _ ?_)
  cases dq with
  | @tup a xs _ e r =>
    have hn := r.length
    refine ⟨a, xs, rfl, e, fun z => ?_, fun z p hp => ?_⟩
    · have : cutD ds lo hi = ds := by
        unfold cutD
        rw [← hn, z.1, z.2, List.drop_zero, Nat.sub_zero, List.take_of_length_le (by omega)]
      rw [this] at k
      exact k _ _ s2 (.tup e r)
    · refine k _ _ (same_upd s2 hp) (.tup (.of upd_same) ?_)
      have := ((r.drop (HT.sIx xs.length 0 lo)).take (HT.sIx xs.length xs.length hi - HT.sIx xs.length 0 lo)).same (same_upd (Same.refl H2) hp (o := .tup (cutV xs lo hi)))
      unfold cutD
      rw [← hn]
      exact this
theorem r_cat {H1 : Hp} {Q : VK} {v u : V} {ds es : List PyData} (dq : Dq K q H1 v (.tuple ds)) (dq2 : Dq K q H1 u (.tuple es)) (hz : ds.length + es.length ≤ 1000000)
    (k : ∀ v H', Same H1 H' → Dq K q H' v (.tuple (ds ++ es)) → Q v H') : rCatA K v u H1 Q := by
  have ha : DV K q [some v, some u] H1 (tVar 0) (.tuple ds) := dv_var rfl dq
  have hb : DV K q [some v, some u] H1 (tVar 1) (.tuple es) := dv_var rfl dq2
  obtain ⟨v', e1, u', e2, z⟩ := dv_cat ha hb hz H1 Q (Same.refl _) k
  cases e1
  cases e2
  exact z
theorem r_slice {H1 : Hp} {Q : VK} {v : V} {lo hi : Option Int} {ds : List PyData} (dq : Dq K q H1 v (.tuple ds)) (k : ∀ v H', Same H1 H' → Dq K q H' v (.tuple (cutD ds lo hi)) → Q v H') : rSlA K v lo hi H1 Q := by
  have ha : DV K q [some v] H1 (tVar 0) (.tuple ds) := dv_var rfl dq
  obtain ⟨v', e1, z⟩ := dv_slice (lo := lo) (hi := hi) (tl := fun _ H R => R lo H) (th := fun _ H R => R hi H) ha (fun _ _ h => h) (fun _ _ h => h) H1 Q (Same.refl _) k
  cases e1
  exact z
theorem lo_var {i : Nat} {j : Int} (h : σ[i]? = some (some (.int j))) (H1 : Hp) (R : Option Int → Hp → Prop) (k : R (some j) H1) : tPart (tVar i) σ H1 R := ⟨.int j, h, j, rfl, k⟩
theorem lo_var1 {i : Nat} {j c : Int} (h : σ[i]? = some (some (.int j))) (H1 : Hp) (R : Option Int → Hp → Prop) (k : R (some (j + c)) H1) : tPart (tOp (rI0 fun i j => .int (i + j)) (tVar i) (tC (.int c))) σ H1 R := ⟨.int j, h, j, c, rfl, rfl, _, rfl, k⟩
theorem lo_non (H1 : Hp) (R : Option Int → Hp → Prop) (k : R none H1) : tNoPart σ H1 R := k
theorem lo_int (i : Int) (H1 : Hp) (R : Option Int → Hp → Prop) (k : R (some i) H1) : tPart (tC (.int i)) σ H1 R := ⟨i, rfl, k⟩
theorem lo_neg (i : Int) (H1 : Hp) (R : Option Int → Hp → Prop) (k : R (some (-i)) H1) : tPart (tUn (rU fun i => .int (-i)) (tC (.int i))) σ H1 R := ⟨i, rfl, -i, rfl, k⟩
theorem dv_I0 {f : Int → Int → Int} {ta tb : TE} {a b : Int} (ha : DV K q σ H ta (.int a)) (hb : DV K q σ H tb (.int b)) : DV K q σ H (tOp (rI0 fun i j => .int (f i j)) ta tb) (.int (f a b)) := by
  intro H1 Q s k
  refine ha H1 _ s fun v H2 s2 dq => ?_
  refine hb H2 _ (s.trans s2) fun u H3 s3 dq2 => ?_
  cases dq
  cases dq2
  exact ⟨a, b, rfl, rfl, k _ _ (s2.trans s3) (.int _)⟩
theorem dv_U {f : Int → Int} {ta : TE} {a : Int} (ha : DV K q σ H ta (.int a)) : DV K q σ H (tUn (rU fun i => .int (f i)) ta) (.int (f a)) := by
  intro H1 Q s k
  refine ha H1 _ s fun v H2 s2 dq => ?_
  cases dq
  exact ⟨a, rfl, k _ _ s2 (.int _)⟩
theorem dv_eqI {ta tb : TE} {a b : Int} (ha : DV K q σ H ta (.int a)) (hb : DV K q σ H tb (.int b)) : DV K q σ H (tOp rEq ta tb) (.bool (decide (V.int a = V.int b))) := by
  intro H1 Q s k
  refine ha H1 _ s fun v H2 s2 dq => ?_
  refine hb H2 _ (s.trans s2) fun u H3 s3 dq2 => ?_
  cases dq
  cases dq2
  exact ⟨rfl, k _ _ (s2.trans s3) (.bl _)⟩
theorem dv_strI {ta : TE} {a : Int} (ha : DV K q σ H ta (.int a)) (hz : a.natAbs.log2 < 1920) :
    DV K q σ H (tCB (fun xs H Q => ∃ i, xs = [.int i] ∧ i.natAbs.log2 < 1920 ∧ Q (.str (toString i)) H) (tCons ta tNil)) (.str (toString a)) := by
  intro H1 Q s k
  refine ha H1 _ s fun v H2 s2 dq => ?_
  cases dq
  exact ⟨a, rfl, hz, k _ _ s2 (.str _)⟩
theorem dv_not {ta : TE} {b : Bool} (ha : DV K q σ H ta (.bool b)) : DV K q σ H (tNotV ta) (.bool (!b)) := by
  intro H1 Q s k
  refine ha H1 _ s fun v H2 s2 dq => ?_
  cases dq
  exact ⟨b, rfl, k _ _ s2 (.bl _)⟩
theorem dv_intB {ta : TE} {b : Bool} (ha : DV K q σ H ta (.bool b)) :
    DV K q σ H (tCB (fun xs H Q => (∃ i, xs = [V.int i] ∧ Q (V.int i) H) ∨ ∃ k, xs = [V.bl k] ∧ Q (V.int (if k = true then 1 else 0)) H) (tCons ta tNil)) (.int (if b = true then 1 else 0)) := by
  intro H1 Q s k
  refine ha H1 _ s fun v H2 s2 dq => ?_
  cases dq
  exact .inr ⟨b, rfl, k _ _ s2 (.int _)⟩
theorem dv_catS {ta tb : TE} {x y : Str} (ha : DV K q σ H ta (.str x)) (hb : DV K q σ H tb (.str y)) (hz : x.length + y.length ≤ 1000000) :
    DV K q σ H (tOp (fun x y H Q => ∃ i j, x = .str i ∧ y = .str j ∧ i.length + j.length ≤ sizeLine ∧ Q (.str (i ++ j)) H) ta tb) (.str (x ++ y)) := by
  intro H1 Q s k
  refine ha H1 _ s fun v H2 s2 dq => ?_
  refine hb H2 _ (s.trans s2) fun u H3 s3 dq2 => ?_
  cases dq
  cases dq2
  exact ⟨x, y, rfl, rfl, by rw [sizeLine_eq]; omega, k _ _ (s2.trans s3) (.str _)⟩
theorem dv_cutS {te : TE} {tl th : TO} {lo hi : Option Int} {x : Str} (h : DV K q σ H te (.str x)) (hz : x.length ≤ 1000000) (hl : ∀ (H1 : Hp) (R : Option Int → Hp → Prop), R lo H1 → tl σ H1 R) (hh : ∀ (H1 : Hp) (R : Option Int → Hp → Prop), R hi H1 → th σ H1 R) :
    DV K q σ H (tSl rSlS te tl th) (.str (cutS x lo hi)) := by
  intro H1 Q s k
  refine h H1 _ s fun v H2 s2 dq => hl _ _ (hh _ _ ?_)
  cases dq
  exact ⟨x, rfl, by rw [sizeLine_eq]; omega, k _ _ s2 (.str _)⟩
theorem dv_upper {te : TE} {x : Str} (h : DV K q σ H te (.str x)) (hz : x.length ≤ 1000000) :
    DV K q σ H (tM0 (fun x xs H Q => ∃ a, x = .str a ∧ xs = [] ∧ a.length ≤ 5592405 ∧ Q (.str (Txt.upper a)) H) te) (.str (Txt.upper x)) := by
  intro H1 Q s k
  refine h H1 _ s fun v H2 s2 dq => ?_
  cases dq
  exact ⟨⟨x, rfl⟩, x, rfl, rfl, by omega, k _ _ s2 (.str _)⟩
theorem dp_backS {te : TE} {x : Str} {Φ : PyData → Prop} (h : DV K q σ H te (.str x)) (hz : x.length ≤ 1000000) (f : ∀ z : Str, z.length ≤ x.length → (∀ c ∈ z.cps.toList, c ∈ x.cps.toList) → Φ (.str z)) : DP K q σ H (tBackS te) Φ := by
  intro H1 Q s k
  refine h H1 _ s fun v H2 s2 dq => ?_
  cases dq
  exact ⟨x, rfl, by rw [sizeLine_eq]; omega, fun z h1 h2 => k _ _ _ s2 (.str z) (f z h1 h2)⟩
end

/-! ## the errors' classes, looked at once -/
def oexB (K : PySem.W.Frag) (C : Addr) : Bool := match K.lookup C with
  | some ⟨.type "type", _, .cls cd, sl⟩ => (match cd.mro, sl.toList with
    | .ref C' :: bm, [_, _, _, _, some (.builtin n), _] => C' == C && (n == "ValueError.__new__" && (!cd.hasDel && (cd.hasDict && PySem.HandSPX.refsVE bm)))
    | _, _ => false)
  | _ => false
theorem oexB_ok {K : PySem.W.Frag} {C : Addr} (q : oexB K C = true) : ∃ nm q N bs bm sn sub ab col dd k0 k1 k2 k3 k5, K.lookup C = some (excClassObj nm q C N bs bm true sn sub ab col dd k0 k1 k2 k3 k5 "ValueError.__new__") ∧ PySem.HandSPX.refsVE bm = true := by
  unfold oexB at q
  split at q
  · rename_i dd cd sl ho
    split at q
    · rename_i C' bm k0 k1 k2 k3 n k5 hm hs
      simp only [Bool.and_eq_true, beq_iff_eq, Bool.not_eq_true'] at q
      obtain ⟨rfl, rfl, hdel, hdict, hve⟩ := q
      obtain ⟨nm, bs, mro, ns, qn, hd, sn, sub, ab, col, del⟩ := cd
      dsimp only at hm hdel hdict
      subst hm hdel hdict
      have hsl : sl = #[k0, k1, k2, k3, some (.builtin "ValueError.__new__"), k5] := by
        obtain ⟨l⟩ := sl
        simp only at hs
        rw [hs]
      subst hsl
      exact ⟨nm, qn, ns, bs, bm, sn, sub, ab, col, dd, k0, k1, k2, k3, k5, ho, hve⟩
    · cases q
  · cases q
def errB (K : PySem.W.Frag) (D fI : Addr) : Bool := oexB K D && (decide (PySem.W.findIn K (.ref D) "__setattr__" = some (some (.builtin "object.__setattr__"))) && (decide (PySem.W.subIn K (.ref D) (.type "BaseException") = some true) &&
  (decide (PySem.W.typeIn K (.ref D) = some (.type "type")) && (PySem.W.keepIn K (.ref D) && (xfB K D && (decide (PySem.W.findIn K (.ref D) "__init__" = some (some (.ref fI))) && (decide (PySem.W.findIn K (.ref D) "value" = some none) &&
  (decide (PySem.W.findIn K (.ref D) "__class__" = some (some (.builtin "object.__class__"))) && (decide (PySem.W.specialIn K (.builtin "object.__class__") "__get__" = some (some (.builtin "getset_descriptor.__get__"))) &&
  (decide (PySem.W.takesIn K (.builtin "object.__class__") = some true) && decide (PySem.W.mroIn K D (.type "object") = some true)))))))))))
theorem errB_ok {K : PySem.W.Frag} {D fI : Addr} (h : errB K D fI = true) : ErrC K D fI := by
  unfold errB at h
  simp only [Bool.and_eq_true, decide_eq_true_eq] at h
  obtain ⟨h1, h2, h3, h4, h5, h6, h7, h8, h9, h10, h11, h12⟩ := h
  exact ⟨⟨oexB_ok h1, h2, h3, h4, h5⟩, xfB_ok h6, h7, h8, h9, h10, h11, h12⟩

theorem ErrAt.same {H H' : Hp} {a D : Addr} {v : V} (h : ErrAt H a D v) (s : Same H H') : ErrAt H' a D v := by
  obtain ⟨d, h1, h2⟩ := h
  exact ⟨d, s _ _ h1, s _ _ h2⟩
def ErrsAt (H : Hp) (v : V) (es Ds : List Addr) : Prop := Paired (fun a D => ErrAt H a D v) es Ds
theorem ErrsAt.same {H H' : Hp} {v : V} {es Ds : List Addr} (h : ErrsAt H v es Ds) (s : Same H H') : ErrsAt H' v es Ds := Paired.mapP h fun _ _ e => e.same s
theorem Paired.app {α β : Type} {F : α → β → Prop} : ∀ {l₁ m₁ : List α} {l₂ m₂ : List β}, Paired F l₁ l₂ → Paired F m₁ m₂ → Paired F (l₁ ++ m₁) (l₂ ++ m₂)
  | _, _, _, _, .nil, s => s
  | _, _, _, _, .cons r t, s => .cons r (Paired.app t s)
theorem Paired.at {α β : Type} {F : α → β → Prop} : ∀ {l₁ : List α} {l₂ : List β} {i : Nat} {a : α}, Paired F l₁ l₂ → l₁[i]? = some a → ∃ b, l₂[i]? = some b ∧ F a b
  | _, _, _, _, .nil, e => by simp at e
  | _, _, 0, _, .cons r _, e => by
    simp at e
    subst e
    exact ⟨_, rfl, r⟩
  | _, _, i + 1, a, .cons _ t, e => by
    obtain ⟨b, h1, h2⟩ := Paired.at (i := i) (a := a) t (by simpa using e)
    exact ⟨b, by simpa using h1, h2⟩

/-! ## __init__ of the errors -/
def spInit (K : PySem.W.Frag) : Sp := fun vs H Q _ => ∃ (a D : Addr) (v : V), vs = [.ref a, v] ∧ OexC K D ∧ PySem.W.findIn K (.ref D) "value" = some none ∧ H a = some (exo a D none) ∧
  ∀ dx, H dx = none → dx ≠ a → Q .non (upd (upd H dx (exd dx [(("value" : Str), v)])) a (exo a D (some dx)))
section
variable {K : PySem.W.Frag} {σ : L2.St} {H : Hp}
theorem r_err {j : Nat} {D fI : Addr} {v : V} {Q : VK} (T : ErrC K D fI) (h0 : σ[j]? = some (some v)) (k : ∀ (a : Addr) (H' : Hp), H a = none → Same H H' → ErrAt H' a D v → Q (.ref a) H') : tErr D (spInit K) (tCons (tVar j) tNil) σ H Q := by
  refine ⟨v, h0, by show 1 ≤ 1000; decide, fun a ha => ⟨a, D, v, rfl, T.o, T.inv, upd_same, fun dx hd hne => ⟨rfl, k a _ ha (fun b o e => ?_) ⟨dx, upd_same, ?_⟩⟩⟩⟩
  · have h1 : b ≠ a := ne_of_none e ha
    have h2 : H dx = none := by
      rw [upd_ne hne] at hd
      exact hd
    have h3 : b ≠ dx := ne_of_none e h2
    rw [upd_ne h1, upd_ne h3, upd_ne h1]
    exact e
  · rw [upd_ne hne, upd_same]
def EAs (σ : L2.St) (H : Hp) (v : V) (ta : TA) (Ds : List Addr) : Prop := ∀ (H1 : Hp) (R : List V → Hp → Prop), Same H H1 → (∀ es H', Same H1 H' → ErrsAt H' v es Ds → R (es.map V.ref) H') → ta σ H1 R
theorem ea_nil {v : V} : EAs σ H v tNil [] := fun H1 R _ k => k [] H1 (Same.refl _) .nil
theorem ea_cons {D fI : Addr} {v : V} {ta : TA} {Ds : List Addr} (T : ErrC K D fI) (h0 : σ[0]? = some (some v)) (t : EAs σ H v ta Ds) : EAs σ H v (tCons (tErr D (spInit K) (tCons (tVar 0) tNil)) ta) (D :: Ds) := by
  intro H1 R s k
  refine r_err T h0 fun a H2 _ s2 e2 => ?_
  refine t H2 _ (s.trans s2) fun es H3 s3 e3 => ?_
  exact k (a :: es) H3 (s2.trans s3) (.cons (e2.same s3) e3)
theorem el_lst {v : V} {ta : TA} {Ds : List Addr} {H1 : Hp} {Q : VK} (A : EAs σ H v ta Ds) (hz : Ds.length ≤ 1000) (s : Same H H1)
    (k : ∀ (p : Addr) (H' : Hp) (es : List Addr), Same H1 H' → H1 p = none → H' p = some (.lst (es.map V.ref)) → ErrsAt H' v es Ds → es.length = Ds.length → Q (.ref p) H') : tLstN ta σ H1 Q := by
  refine A H1 _ s fun es H2 s2 d2 => ?_
  have hl : es.length = Ds.length := Paired.length d2
  refine ⟨by rw [List.length_map, hl, sizeLine_eq]; omega, fun p hp _ => ?_⟩
  exact k p _ es (same_upd s2 hp) (s2.free hp) upd_same (d2.same (same_upd (Same.refl _) hp)) hl
/-- exact lists of data -/
def DVA (K : PySem.W.Frag) (q : Addr) (σ : L2.St) (H : Hp) (ta : TA) (ds : List PyData) : Prop := ∀ (H1 : Hp) (R : List V → Hp → Prop), Same H H1 → (∀ vs H', Same H1 H' → DqA K q H' vs ds → R vs H') → ta σ H1 R
theorem dva_nil {q : Addr} : DVA K q σ H tNil [] := fun H1 R _ k => k [] H1 (Same.refl _) .nil
theorem dva_cons {q : Addr} {te : TE} {ta : TA} {d : PyData} {ds : List PyData} (h : DV K q σ H te d) (t : DVA K q σ H ta ds) : DVA K q σ H (tCons te ta) (d :: ds) := by
  intro H1 R s k
  refine h H1 _ s fun v H2 s2 d2 => ?_
  refine t H2 _ (s.trans s2) fun vs H3 s3 d3 => ?_
  exact k (v :: vs) H3 (s2.trans s3) (.cons (d2.same s3) d3)
theorem DqA.bools {q : Addr} : ∀ {vs : List V} {bs : List Bool}, DqA K q H vs (bs.map PyData.bool) → vs = bs.map V.bl
  | _, [], h => by
    cases h
    rfl
  | _, b :: bs, h => by
    rw [List.map_cons] at h
    cases h with
    | cons h1 h2 =>
      cases h1
      rw [DqA.bools h2, List.map_cons]
theorem bl_lst {q : Addr} {ta : TA} {bs : List Bool} {H1 : Hp} {Q : VK} (A : DVA K q σ H ta (bs.map PyData.bool)) (hz : bs.length ≤ 1000) (s : Same H H1)
    (k : ∀ (p : Addr) (H' : Hp), Same H1 H' → H1 p = none → H' p = some (.lst (bs.map V.bl)) → Q (.ref p) H') : tLstN ta σ H1 Q := by
  refine A H1 _ s fun vs H2 s2 d2 => ?_
  obtain rfl := DqA.bools d2
  refine ⟨by rw [List.length_map, sizeLine_eq]; omega, fun p hp _ => ?_⟩
  exact k p _ (same_upd s2 hp) (s2.free hp) upd_same
theorem dv_isErr {q a D fI C : Addr} {v : V} {b : Bool} (T : ErrC K D fI) (h0 : σ[0]? = some (some (.ref a))) (e : ErrAt H a D v) (kit : PySem.W.kitOne K (.ref D) (.ref C) = some b) :
    DV K q σ H (tCB (rIsErr K) (tCons (tVar 0) (tCons (tC (.ref C)) tNil))) (.bool b) := by
  intro H1 Q s k
  exact ⟨_, h0, a, D, fI, v, .ref C, .ref C, b, rfl, T, e.same s, .own C, kit, k _ _ (Same.refl _) (.bl b)⟩
end

/-! ## loops and comprehensions -/
section
variable {K : PySem.W.Frag} {σ : L2.St} {H : Hp}
theorem w_forL {te : TE} {g : TG} {tb : TS} {D : Ends} {l : Addr} {xs : List V} (Pv : Nat → L2.St → Hp → Prop) (ht : te σ H fun x H1 => x = .ref l ∧ SqL K H1 l xs ∧ Pv 0 σ H1) (hl : ∀ i σ H, i ≤ xs.length → Pv i σ H → SqL K H l xs)
    (hs : ∀ i x σ H, xs[i]? = some x → Pv i σ H → g x σ H fun σ2 H2 => tb { D with nx := Pv (i + 1), ct := Pv (i + 1), bk := D.nx } σ2 H2) (hd : ∀ σ H, Pv xs.length σ H → D.nx σ H)
    (mono : ∀ (Q Q' : VK), (∀ v H, Q v H → Q' v H) → te σ H Q → te σ H Q') : tFor (iList K te) g tb D σ H := by
  refine mono _ _ ?_ ht
  rintro v H1 ⟨rfl, h1, h2⟩
  exact ⟨l, rfl, ⟨_, h1⟩, for_list Pv h2 hl hs hd⟩
theorem var_mono {i : Nat} (Q Q' : VK) (h : ∀ v H, Q v H → Q' v H) (k : tVar i σ H Q) : tVar i σ H Q' := by
  obtain ⟨v, e, k⟩ := k
  exact ⟨v, e, h _ _ k⟩
theorem for_enum {l : Addr} {xs : List V} {g : TG} {tb : TS} {D : Ends} (Pv : Nat → L2.St → Hp → Prop) (h0 : Pv 0 σ H) (hl : ∀ i σ H, i ≤ xs.length → Pv i σ H → SqL K H l xs)
    (hs : ∀ i x σ H T, xs[i]? = some x → Pv i σ H → H T = none → g (.ref T) σ (upd H T (.tup [.int (i : Nat), x])) fun σ2 H2 => tb { D with nx := Pv (i + 1), ct := Pv (i + 1), bk := D.nx } σ2 H2)
    (hd : ∀ σ H, Pv xs.length σ H → D.nx σ H) :
    ∃ W : Nat → Nat → L2.St → Hp → Prop, (∃ m, W 0 m σ H) ∧ ∀ i m σ H, W i m σ H →
      ((Ite K l).stop i H ∧ D.nx σ H) ∨ ((Ite K l).go i H ∧ ∃ N : L2.St → Hp → Prop, (∀ σ' H', N σ' H' → ∃ m', m' < m ∧ W (i + 1) m' σ' H') ∧
        ∀ x H', (Ite K l).yld i H x H' → g x σ H' fun σ2 H2 => tb { D with nx := N, ct := N, bk := D.nx } σ2 H2) := by
  refine ⟨fun i m σ H => m = xs.length - i ∧ i ≤ xs.length ∧ Pv i σ H, ⟨xs.length, by simp, Nat.zero_le _, h0⟩, ?_⟩
  rintro i m σ H ⟨rfl, hi, p⟩
  have q := hl i σ H hi p
  by_cases hlt : i < xs.length
  · refine .inr ⟨⟨xs, xs[i], q, by simp [hlt]⟩, Pv (i + 1), fun σ' H' p' => ⟨xs.length - (i + 1), by omega, rfl, hlt, p'⟩, ?_⟩
    rintro v H' ⟨T, x, rfl, hT, rfl, hx⟩
    exact hs i x σ H T (hx xs q) p hT
  · obtain rfl : i = xs.length := by omega
    exact .inl ⟨⟨xs, q, Nat.le_refl _⟩, hd σ H p⟩
theorem w_forE {ta : TA} {g : TG} {tb : TS} {D : Ends} (k : ta σ H fun vs H1 => ∃ a xs, vs = [.ref a] ∧ SqL K H1 a xs ∧ ∃ W : Nat → Nat → L2.St → Hp → Prop, (∃ m, W 0 m σ H1) ∧ ∀ i m σ H, W i m σ H →
      ((Ite K a).stop i H ∧ D.nx σ H) ∨ ((Ite K a).go i H ∧ ∃ N : L2.St → Hp → Prop, (∀ σ' H', N σ' H' → ∃ m', m' < m ∧ W (i + 1) m' σ' H') ∧
        ∀ x H', (Ite K a).yld i H x H' → g x σ H' fun σ2 H2 => tb { D with nx := N, ct := N, bk := D.nx } σ2 H2)) : tFor (iEnum K ta) g tb D σ H := k
theorem w_forS {te : TE} {g : TG} {tb : TS} {D : Ends} (k : te σ H fun x H1 => ∃ a, x = .ref a ∧ (∃ xs, SqL K H1 a xs) ∧ ∃ W : Nat → Nat → L2.St → Hp → Prop, (∃ m, W 0 m σ H1) ∧ ∀ i m σ H, W i m σ H →
      ((Itl K a).stop i H ∧ D.nx σ H) ∨ ((Itl K a).go i H ∧ ∃ N : L2.St → Hp → Prop, (∀ σ' H', N σ' H' → ∃ m', m' < m ∧ W (i + 1) m' σ' H') ∧
        ∀ x H', (Itl K a).yld i H x H' → g x σ H' fun σ2 H2 => tb { D with nx := N, ct := N, bk := D.nx } σ2 H2)) : tFor (iList K te) g tb D σ H := k
theorem w_value {te : TE} {Q : VK} (k : te σ H fun x H1 => ∃ (a D fI : Addr) (v : V), x = .ref a ∧ ErrC K D fI ∧ ErrAt H1 a D v ∧ Q v H1) : tValue K te σ H Q := k
theorem w_isErr {a D fI : Addr} {v c : V} {cv : Value} {Q : VK} (b : Bool) (T : ErrC K D fI) (e : ErrAt H a D v) (kc : ClsV c cv) (kit : PySem.W.kitOne K (.ref D) cv = some b) (k : Q (.bl b) H) : rIsErr K [.ref a, c] H Q :=
  ⟨a, D, fI, v, c, cv, b, rfl, T, e, kc, kit, k⟩
theorem w_repr {q : Addr} {x : V} {d : PyData} {Q : VK} (hd : Dq K q H x d) (ok : okD d = true) (hz : szD d ≤ 1000000) (hp : d.depth ≤ 60) (k : Q (.str d.shown) H) : rRepr K [x] H Q := ⟨q, x, d, rfl, hd, ok, hz, hp, k⟩
theorem w_neSame {x : V} {Q : VK} (h : scal x x = true) (k : Q (.bl false) H) : rNe x x H Q := ⟨h, by rw [decide_eq_true rfl]; exact k⟩
theorem w_eqSame {x : V} {Q : VK} (h : scal x x = true) (k : Q (.bl true) H) : rEq x x H Q := ⟨h, by rw [decide_eq_true rfl]; exact k⟩
theorem dp_bools : ∀ (bs : List Bool), DpAll K H (bs.map V.bl) (bs.map PyData.bool)
  | [] => .nil
  | b :: bs => .cons (.bl b) (dp_bools bs)
theorem w_gtup2 {i j T : Nat} {x y : V} {R : L2.St → Hp → Prop} (h : SqT K H T [x, y]) (k : R ((σ.set i (some x)).set j (some y)) H) : gTup K 2 (gCons (gName i) (gCons (gName j) gNil)) (.ref T) σ H R :=
  ⟨T, [x, y], rfl, h, rfl, x, [y], rfl, y, [], rfl, rfl, k⟩
/-- [e for i in range(n)], e of scalars of the slots -/
theorem w_lcR {lo : Int} {n : Nat} {i : Nat} {te : TE} {f : Nat → V} {Q : VK} (he : ∀ (k : Nat) (H1 : Hp) (R : VK), k < n → R (f k) H1 → te ((wipe σ [i]).set i (some (.int (lo + (k : Nat))))) H1 R) (hn : n ≤ 1000)
    (hw : ∀ k : Nat, wipe ((wipe σ [i]).set i (some (.int (lo + (k : Nat))))) [i] = wipe σ [i]) (k : ∀ D, H D = none → Q (.ref D) (upd H D (.lst ((List.range n).map f)))) :
    ∀ D, H D = none → ∃ W : Nat → Nat → Hp → Prop, (∃ m, W 0 m (upd H D (.lst []))) ∧ ∀ j m H', W j m H' →
      ((Itr lo n).stop j H' ∧ Q (.ref D) H') ∨ ((Itr lo n).go j H' ∧ ∃ Nx : Hp → Prop, (∀ H2, Nx H2 → ∃ m', m' < m ∧ W (j + 1) m' H2) ∧ ∀ x H2, (Itr lo n).yld j H' x H2 → gName i x (wipe σ [i]) H2 fun σ2 H3 => wipe σ2 [i] = wipe σ [i] ∧
        tYes σ2 H3 fun b H4 => if b = true then te σ2 H4 fun y H5 => ∃ acc, H5 D = some (.lst acc) ∧ acc.length < sizeLine ∧ Nx (upd H5 D (.lst (acc ++ [y]))) else Nx H4) := by
  intro D hD
  refine lc_range (Pv := fun j H' => H' = upd H D (.lst ((List.range j).map f))) rfl ?_ ?_
  · rintro j H' hj rfl
    refine ⟨hw j, iteT (B := upd H D (.lst ((List.range j).map f)) = upd H D (.lst ((List.range (j + 1)).map f))) (he j _ _ hj ⟨_, upd_same, ?_, ?_⟩)⟩
    · rw [List.length_map, List.length_range, sizeLine_eq]
      omega
    · rw [upd_upd, List.range_succ, List.map_append]
      rfl
  · rintro H' rfl
    exact k D hD
end

local macro_rules | `(tactic| walk_at "hp") => `(tactic| first
  | assumption
  | exact upd_same
  | exact upd_get (by assumption) (by walk_at "hp")
  | exact upd_get2 (by first | assumption | exact Ne.symm (by assumption)) (by walk_at "hp"))
local macro_rules | `(tactic| walk_at "sq") => `(tactic| first
  | assumption
  | exact SqL.of (by walk_at "hp")
  | exact SqT.of (by walk_at "hp"))
local macro_rules | `(tactic| walk_at "sz") => `(tactic| exact Nat.le_of_ble_eq_true (by kernel_rfl))
local macro_rules | `(tactic| walk_at "c") => `(tactic| first
  | ((with_unfolding_all show (_ : Int) ≠ 0); first | omega | decide | decide +kernel)
  | exact c_mul1 (by omega) (by omega) | exact c_mul2 (by omega) (by omega) | exact c_div (by omega) (by omega)
  | exact c_pow (by omega) (by omega) (by omega) | exact c_powW (by decide +kernel))
local macro_rules | `(tactic| walk_at "w1") => `(tactic| (with_reducible first
  | refine w_C ?_ | (refine' w_var ?h ?_; (case h => with_unfolding_all rfl)) | refine w_op ?_ | refine w_un ?_ | refine w_seq ?_ | refine w_asg ?_ | refine w_ret ?_ | refine w_retN ?_ | refine w_drop ?_ | refine w_next ?_
  | refine w_ifS ?_ | refine iteF ?_ | refine iteT ?_ | refine w_test ?_ | refine w_B ?_ | refine w_bl ?_ | refine w_and ?_ | refine w_or ?_ | refine w_not ?_ | refine w_if ?_ | refine w_andV ?_ | refine w_orV ?_ | refine w_notV ?_
  | refine w_cb ?_ | refine w_nil ?_ | refine w_cons ?_ | refine w_tup ?_ | refine w_lst ?_ | refine w_lstN ?_ | refine w_call ?_ | refine w_sl ?_ | refine w_nopart ?_ | refine w_part ?_ | refine w_isint ?_
  | refine w_gname ?_ | refine w_gsub ?_ | refine w_I0 ?_ | (refine' w_I ?c ?_; (case c => walk_at "c")) | refine w_U ?_ | refine w_lt ?_ | refine w_ij ?_ | refine w_int ?_ | refine w_intb ?_ | refine w_abs ?_ | refine w_lstRg ?_ | refine w_rg1 ?_ | refine w_rg2 ?_ | refine w_max ?_
  | (refine' w_newN ?z (fun p hp hm => ?_); (case z => walk_at "sz")) | (refine' w_new ?z (fun p hp => ?_); (case z => walk_at "sz"))
  | (refine' w_ixL ?h ?v ?_; (case h => walk_at "sq"); (case v => with_unfolding_all rfl))
  | (refine' w_ixT ?h ?v ?_; (case h => walk_at "sq"); (case v => with_unfolding_all rfl))
  | (refine' w_setL ?h ?v ?_; (case h => walk_at "hp"); (case v => with_unfolding_all rfl))
  | (refine' w_lenL ?h ?_; (case h => walk_at "sq")) | (refine' w_lenT ?h ?_; (case h => walk_at "sq"))))
local macro_rules | `(tactic| walk_at "w") => `(tactic| repeat (walk_at "w1"))
local macro_rules | `(tactic| walk_at "v1") => `(tactic| (with_reducible first
  | refine w_C ?_ | (refine' w_var ?h ?_; (case h => with_unfolding_all rfl)) | refine w_op ?_ | refine w_un ?_ | refine w_seq ?_ | refine w_asg ?_ | refine w_ret ?_ | refine w_retN ?_ | refine w_drop ?_ | refine w_next ?_
  | refine w_ifS ?_ | refine iteF ?_ | refine iteT ?_ | refine w_test ?_ | refine w_B ?_ | refine w_bl ?_ | refine w_and ?_ | refine w_or ?_ | refine w_not ?_ | refine w_if ?_ | refine w_andV ?_ | refine w_orV ?_ | refine w_notV ?_
  | refine w_cb ?_ | refine w_nil ?_ | refine w_cons ?_ | refine w_call ?_ | refine w_sl ?_ | refine w_nopart ?_ | refine w_part ?_ | refine w_isint ?_
  | refine w_gname ?_ | refine w_gsub ?_ | refine w_I0 ?_ | (refine' w_I ?c ?_; (case c => walk_at "c")) | refine w_U ?_ | refine w_lt ?_ | refine w_ij ?_ | refine w_int ?_ | refine w_intb ?_ | refine w_abs ?_ | refine w_lstRg ?_ | refine w_rg1 ?_ | refine w_rg2 ?_ | refine w_max ?_
  | (refine' w_newN ?z (fun p hp hm => ?_); (case z => walk_at "sz")) | (refine' w_new ?z (fun p hp => ?_); (case z => walk_at "sz"))
  | (refine' w_ixL ?h ?v ?_; (case h => walk_at "sq"); (case v => with_unfolding_all rfl))
  | (refine' w_ixT ?h ?v ?_; (case h => walk_at "sq"); (case v => with_unfolding_all rfl))
  | (refine' w_setL ?h ?v ?_; (case h => walk_at "hp"); (case v => with_unfolding_all rfl))
  | (refine' w_lenL ?h ?_; (case h => walk_at "sq")) | (refine' w_lenT ?h ?_; (case h => walk_at "sq"))))
local macro_rules | `(tactic| walk_at "v") => `(tactic| repeat (walk_at "v1"))

def top (i : Nat) : Stmt := PySem.Challenge.pw_wakesothers_k00_errors_and_what_they_kee.main.body.getD i (.Pass ⟨0, 0, 0, 0⟩)
abbrev s_law_pot : Stmt := top 26
abbrev N_law_pot : List Str := ["_law_script", "_law_place", "_law_cell", "_law_own", "_law_small"]
abbrev P_law_pot : List Str := ["_law_script", "_law_place"]
theorem sc_law_pot : FnScope N_law_pot P_law_pot (defScope s_law_pot) := ⟨rfl, rfl, rfl, by decide +kernel, rfl, by decide +kernel, by decide +kernel⟩
theorem bs_law_pot : BindsSt "_law_pot" s_law_pot P_law_pot := fun _ _ _ _ _ _ us hl => match us, hl with | [_, _], _ => rfl
abbrev s_law_take : Stmt := top 27
abbrev N_law_take : List Str := ["_law_pot_here", "_law_upto", "_law_digit", "_law_prime", "_law_blend"]
abbrev P_law_take : List Str := ["_law_pot_here", "_law_upto"]
theorem sc_law_take : FnScope N_law_take P_law_take (defScope s_law_take) := ⟨rfl, rfl, rfl, by decide +kernel, rfl, by decide +kernel, by decide +kernel⟩
theorem bs_law_take : BindsSt "_law_take" s_law_take P_law_take := fun _ _ _ _ _ _ us hl => match us, hl with | [_, _], _ => rfl
abbrev s_law_of : Stmt := top 28
abbrev N_law_of : List Str := ["_law_pot_here", "_law_some"]
abbrev P_law_of : List Str := ["_law_pot_here", "_law_some"]
theorem sc_law_of : FnScope N_law_of P_law_of (defScope s_law_of) := ⟨rfl, rfl, rfl, by decide +kernel, rfl, by decide +kernel, by decide +kernel⟩
theorem bs_law_of : BindsSt "_law_of" s_law_of P_law_of := fun _ _ _ _ _ _ us hl => match us, hl with | [_, _], _ => rfl
abbrev s_law_cells : Stmt := top 29
abbrev N_law_cells : List Str := ["_law_script", "_law_most"]
abbrev P_law_cells : List Str := ["_law_script", "_law_most"]
theorem sc_law_cells : FnScope N_law_cells P_law_cells (defScope s_law_cells) := ⟨rfl, rfl, rfl, by decide +kernel, rfl, by decide +kernel, by decide +kernel⟩
theorem bs_law_cells : BindsSt "_law_cells" s_law_cells P_law_cells := fun _ _ _ _ _ _ us hl => match us, hl with | [_, _], _ => rfl
abbrev s_law_odd : Stmt := top 30
abbrev N_law_odd : List Str := ["_law_pot_here", "_law_some"]
abbrev P_law_odd : List Str := ["_law_pot_here"]
theorem sc_law_odd : FnScope N_law_odd P_law_odd (defScope s_law_odd) := ⟨rfl, rfl, rfl, by decide +kernel, rfl, by decide +kernel, by decide +kernel⟩
theorem bs_law_odd : BindsSt "_law_odd" s_law_odd P_law_odd := fun _ _ _ _ _ _ us hl => match us, hl with | [_], _ => rfl
abbrev s_law_bent : Stmt := top 31
abbrev N_law_bent : List Str := ["_law_pot_here", "_law_value", "_law_at", "_law_some"]
abbrev P_law_bent : List Str := ["_law_pot_here", "_law_value"]
theorem sc_law_bent : FnScope N_law_bent P_law_bent (defScope s_law_bent) := ⟨rfl, rfl, rfl, by decide +kernel, rfl, by decide +kernel, by decide +kernel⟩
theorem bs_law_bent : BindsSt "_law_bent" s_law_bent P_law_bent := fun _ _ _ _ _ _ us hl => match us, hl with | [_, _], _ => rfl
abbrev s_law_made : Stmt := top 32
abbrev N_law_made : List Str := ["_law_value", "_law_found"]
abbrev P_law_made : List Str := ["_law_value"]
theorem sc_law_made : FnScope N_law_made P_law_made (defScope s_law_made) := ⟨rfl, rfl, rfl, by decide +kernel, rfl, by decide +kernel, by decide +kernel⟩
theorem bs_law_made : BindsSt "_law_made" s_law_made P_law_made := fun _ _ _ _ _ _ us hl => match us, hl with | [_], _ => rfl
abbrev s_law_marks : Stmt := top 33
abbrev N_law_marks : List Str := ["_law_error", "_law_found"]
abbrev P_law_marks : List Str := ["_law_error"]
theorem sc_law_marks : FnScope N_law_marks P_law_marks (defScope s_law_marks) := ⟨rfl, rfl, rfl, by decide +kernel, rfl, by decide +kernel, by decide +kernel⟩
theorem bs_law_marks : BindsSt "_law_marks" s_law_marks P_law_marks := fun _ _ _ _ _ _ us hl => match us, hl with | [_], _ => rfl
abbrev s_law_right : Stmt := top 34
abbrev N_law_right : List Str := ["_law_pot_here", "_law_value", "_law_at", "_law_error", "_law_place", "_law_plain"]
abbrev P_law_right : List Str := ["_law_pot_here"]
theorem sc_law_right : FnScope N_law_right P_law_right (defScope s_law_right) := ⟨rfl, rfl, rfl, by decide +kernel, rfl, by decide +kernel, by decide +kernel⟩
theorem bs_law_right : BindsSt "_law_right" s_law_right P_law_right := fun _ _ _ _ _ _ us hl => match us, hl with | [_], _ => rfl
abbrev slaw : Stmt := top 35
abbrev Nlaw : List Str := ["_law_script", "_law_place", "_law_pot_here", "_law_lap"]
abbrev Plaw : List Str := ["_law_script"]
theorem sclaw : FnScope Nlaw Plaw (defScope slaw) := ⟨rfl, rfl, rfl, by decide +kernel, rfl, by decide +kernel, by decide +kernel⟩
theorem bslaw : BindsSt "law" slaw Plaw := fun _ _ _ _ _ _ us hl => match us, hl with | [_], _ => rfl

/-- the names that the built-ins have -/
structure Txt (mg : Str → Option Value) : Prop where
  n_len : mg "len" = none
  n_int : mg "int" = none
  n_abs : mg "abs" = none
  n_list : mg "list" = none
  n_range : mg "range" = none
  n_max : mg "max" = none
  n_min : mg "min" = none
  n_isinstance : mg "isinstance" = none
  n_tuple : mg "tuple" = none
  n_bool : mg "bool" = none
  n_str : mg "str" = none
  n_ValueError : mg "ValueError" = none
  n_all : mg "all" = none
  n_repr : mg "repr" = none
  n_enumerate : mg "enumerate" = none

/-! ## the pot that is drawn from -/
def PotAt (H : Hp) (q : Addr) (n : Nat) : Prop := ∃ own b k : Int, H q = some (.lst [.int own, .int b, .int k]) ∧ 0 ≤ own ∧ own < 10 ^ 300 ∧ 0 ≤ b ∧ b < 2305843009213693921 ∧ 0 ≤ k ∧ k ≤ n
theorem PotAt.mono {H : Hp} {q : Addr} {n m : Nat} (h : PotAt H q n) (l : n ≤ m) : PotAt H q m := by
  obtain ⟨own, b, k, e, h1, h2, h3, h4, h5, h6⟩ := h
  exact ⟨own, b, k, e, h1, h2, h3, h4, h5, by omega⟩
theorem PotAt.upd {H : Hp} {q p : Addr} {n : Nat} {o : HO} (h : PotAt H q n) (hp : H p = none) : PotAt (L2.upd H p o) q n := by
  obtain ⟨own, b, k, e, r⟩ := h
  exact ⟨own, b, k, by rw [upd_ne (ne_of_none e hp)]; exact e, r⟩
def spTake : Sp := fun vs H Q _ => ∃ (q : Addr) (up : Int) (n : Nat), vs = [.ref q, .int up] ∧ 1 ≤ up ∧ up < 2 ^ 30 ∧ PotAt H q n ∧ n ≤ 1000000 ∧
  ∀ (H' : Hp) (r : Int), HS q H H' → PotAt H' q (n + 1) → 0 ≤ r → r < up → Q (.int r) H'
def spPot (K : PySem.W.Frag) : Sp := fun vs H Q _ => ∃ (a : Addr) (ns : List Int) (p : Nat), vs = [.ref a, .int (p : Int)] ∧ SqL K H a (ns.map V.int) ∧ p ≤ 1000 ∧
  ∀ (H' : Hp) (q : Addr), H q = none → Same H H' → PotAt H' q 0 → Q (.ref q) H'
section
variable {P : Program} {w : World} {K : PySem.W.Frag} {mg : Str → Option Value} {base : Heap}
theorem ok_take (F : FunAt K mg "_law_take" s_law_take) (T : Txt mg) : Def P w K mg base 1 "_law_take" P_law_take spTake := by
  refine def_of F sc_law_take bs_law_take (fun vs H Q E h => ?_) fun f cdv A outer s H vs Q E hr h => ?_
  · obtain ⟨q, up, n, rfl, _⟩ := h
    rfl
  · refine ⟨_, (pss_cons (ps_if (pt_cmpR op_gt (pe_ix ix_list (pv 0) pe_int (fun _ _ => rfl)) pe_int (nomark _)) (pss_cons (ps_set (i := 2) sc_law_take.nd rfl (Or.inl rfl) (pe_op op_modN (pe_callTy call_int1 (by rfl) T.n_int (by decide +kernel) (pa_cons (pe_ix ix_list (pv 0) pe_int (fun _ _ => rfl)) pa_nil)) (pv 1)))
  (pss_cons (ps_asg (pe_op op_fdiv (pe_ix ix_list (pv 0) pe_int (fun _ _ => rfl)) (pv 1)) (pg_sub (pv 0) pe_int set_list))
  (pss_one (ps_ret (pv 2))))) pss_nil)
  (pss_cons (ps_asg (pe_op op_add (pe_ix ix_list (pv 0) pe_int (fun _ _ => rfl)) pe_int) (pg_sub (pv 0) pe_int set_list))
  (pss_cons (ps_set (i := 3) sc_law_take.nd rfl (Or.inl rfl) (pe_ix ix_list (pe_lstN (pa_cons pe_int (pa_cons pe_int (pa_cons pe_int (pa_cons pe_int (pa_cons pe_int pa_nil)))))) (pe_op op_modN (pe_callTy call_int1 (by rfl) T.n_int (by decide +kernel) (pa_cons (pe_ix ix_list (pv 0) pe_int (fun _ _ => rfl)) pa_nil)) pe_int) (fun _ _ => rfl)))
  (pss_cons (ps_set (i := 4) sc_law_take.nd rfl (Or.inl rfl) (pe_op op_modN (pe_callTy call_int1 (by rfl) T.n_int (by decide +kernel) (pa_cons (pe_op op_pow (pe_callTy call_int1 (by rfl) T.n_int (by decide +kernel) (pa_cons (pe_op op_add (pe_op op_add (pe_ix ix_list (pv 0) pe_int (fun _ _ => rfl)) (pe_op op_mul (pe_op op_mul pe_int (pe_ix ix_list (pv 0) pe_int (fun _ _ => rfl))) (pe_ix ix_list (pv 0) pe_int (fun _ _ => rfl)))) pe_int) pa_nil)) pe_int) pa_nil)) (pv 3)))
  (pss_cons (ps_set (i := 4) sc_law_take.nd rfl (Or.inl rfl) (pe_op op_modN (pe_callTy call_int1 (by rfl) T.n_int (by decide +kernel) (pa_cons (pe_op op_mul (pv 4) (pe_op op_add (pe_op op_modN (pe_callTy call_int1 (by rfl) T.n_int (by decide +kernel) (pa_cons (pv 4) pa_nil)) pe_int) (pe_op op_mul pe_int (pe_ix ix_list (pv 0) pe_int (fun _ _ => rfl))))) pa_nil)) pe_int))
  (pss_one (ps_ret (pe_op op_modN (pe_callTy call_int1 (by rfl) T.n_int (by decide +kernel) (pa_cons (pe_op op_fdiv (pv 4) pe_int) pa_nil)) (pv 1))))))))), ?_⟩
    obtain ⟨q, up, n, rfl, h1, h2, ⟨own, b, k, e, p1, p2, p3, p4, p5, p6⟩, hn, go⟩ := h
    walk_at "w"
    refine iteD (fun c => ?_) (fun c => ?_)
    · walk_at "w"
      refine go _ _ (HS.updq (HS.refl q H)) ⟨_, _, _, upd_same, ?_, ?_, p3, p4, p5, by omega⟩ (Int.fmod_nonneg_of_pos own (by omega)) (Int.fmod_lt_of_pos own (by omega))
      · exact Int.ediv_nonneg p1 (by omega)
      · exact Int.lt_of_le_of_lt (Int.ediv_le_self up p1) p2
    · walk_at "w"
      refine w_ixLany (by walk_at "sq") (Int.fmod_nonneg_of_pos _ (by decide)) (Int.fmod_lt_of_pos _ (show (0 : Int) < 5 by decide)) fun v hv => ?_
      obtain ⟨pr, rfl, q1, q2⟩ : ∃ pr : Int, v = .int pr ∧ 0 < pr ∧ pr < 2147483648 := by
        simp only [List.mem_cons, List.not_mem_nil, or_false] at hv
        rcases hv with rfl | rfl | rfl | rfl | rfl <;> exact ⟨_, rfl, by decide, by decide⟩
      walk_at "w"
      have sq : 0 ≤ 120011 * (k + 1) * (k + 1) ∧ 120011 * (k + 1) * (k + 1) ≤ 120011 * 1000001 * 1000001 :=
        ⟨Int.mul_nonneg (by omega) (by omega), Int.mul_le_mul (by omega) (by omega) (by omega) (by decide)⟩
      refine w_I ⟨by decide, by decide, by omega⟩ ?_
      walk_at "w"
      have bl1 := Int.fmod_nonneg_of_pos ((b + 120011 * (k + 1) * (k + 1) + 227) ^ Int.toNat 3) q1
      have bl2 := Int.fmod_lt_of_pos ((b + 120011 * (k + 1) * (k + 1) + 227) ^ Int.toNat 3) q1
      generalize ((b + 120011 * (k + 1) * (k + 1) + 227) ^ Int.toNat 3).fmod pr = bl at bl1 bl2 ⊢
      walk_at "w"
      refine go _ _ ((HS.updq (HS.refl q H)).upd (by assumption)) ⟨own, b, k + 1, upd_get (by assumption) upd_same, p1, p2, p3, p4, by omega, by omega⟩
        (Int.fmod_nonneg_of_pos _ (by omega)) (Int.fmod_lt_of_pos _ (by omega))
end

section
variable {P : Program} {w : World} {K : PySem.W.Frag} {mg : Str → Option Value} {base : Heap}
theorem pow300 : ((10 : Int) ^ Int.toNat 60) ^ Int.toNat 5 = 10 ^ 300 := by decide +kernel
theorem ok_pot (F : FunAt K mg "_law_pot" s_law_pot) (T : Txt mg) : Def P w K mg base 1 "_law_pot" P_law_pot (spPot K) := by
  refine def_of F sc_law_pot bs_law_pot (fun vs H Q E h => ?_) fun f cdv A outer s H vs Q E hr h => ?_
  · obtain ⟨a, ns, p, rfl, _⟩ := h
    rfl
  · refine ⟨_, (pss_cons (ps_set (i := 2) sc_law_pot.nd rfl (Or.inl rfl) (pe_ifExp (pt_cmpR op_lt (pv 1) (pe_callB call_len (by rfl) T.n_len PySem.boot_len (pa_cons (pv 0) pa_nil)) (nomark _)) (pe_ix ix_list (pv 0) (pv 1) (fun _ _ => rfl)) (pe_op op_add (pe_op op_mul pe_int (pv 1)) pe_int)))
  (pss_cons (ps_set (i := 3) sc_law_pot.nd rfl (Or.inl rfl) (pe_op op_mulW (pe_op op_modN (pe_callTy call_int1 (by rfl) T.n_int (by decide +kernel) (pa_cons (pe_callB call_abs (by rfl) T.n_abs (by decide +kernel) (pa_cons (pv 2) pa_nil)) pa_nil)) (pe_op op_powW (pe_op op_powW pe_int pe_int) pe_int)) (pe_callTy call_int1 (by rfl) T.n_int (by decide +kernel) (pa_cons (pe_cmpR op_ge (pe_callB call_abs (by rfl) T.n_abs (by decide +kernel) (pa_cons (pv 2) pa_nil)) (pe_op op_powW pe_int pe_int) (nomark _)) pa_nil))))
  (pss_cons (ps_set (i := 4) sc_law_pot.nd rfl (Or.inl rfl) (pe_op op_modN (pe_callTy call_int1 (by rfl) T.n_int (by decide +kernel) (pa_cons (pv 2) pa_nil)) pe_int))
  (pss_one (ps_ret (pe_lstN (pa_cons (pv 3) (pa_cons (pe_op op_modN (pe_callTy call_int1 (by rfl) T.n_int (by decide +kernel) (pa_cons (pe_op op_add (pe_op op_add (pe_op op_mul (pv 4) pe_int) (pe_op op_mul (pe_op op_mul pe_int (pv 1)) (pv 1))) pe_int) pa_nil)) pe_int) (pa_cons pe_int pa_nil))))))))), ?_⟩
    obtain ⟨a, ns, p, rfl, hs, hp, go⟩ := h
    have hs' : SqL (cxOf CX0 P w K mg base N_law_pot "_law_pot" (defScope s_law_pot) f cdv A outer s H E).nox.K H a (ns.map V.int) := hs
    walk_at "w"
    rw [List.length_map]
    have cont : ∀ x : Int, CMulW (x.fmod ((10 ^ Int.toNat 60) ^ Int.toNat 5)) (if decide (10 ^ Int.toNat 18 ≤ x) = true then 1 else 0) := by
      intro x
      rw [pow300]
      have h1 := Int.fmod_nonneg_of_pos x (show (0 : Int) < 10 ^ 300 by decide)
      have h2 := Int.fmod_lt_of_pos x (show (0 : Int) < 10 ^ 300 by decide)
      refine wide_mul (a := 1000) (b := 1) ?_ ?_ (by decide) (by decide) (by decide)
      · have h3 : (10 : Int) ^ 300 < 2 ^ 1000 := by decide
        omega
      · split <;> decide
    have bnd : ∀ x : Int, 0 ≤ x.fmod ((10 ^ Int.toNat 60) ^ Int.toNat 5) * (if decide (10 ^ Int.toNat 18 ≤ x) = true then 1 else 0) ∧
        x.fmod ((10 ^ Int.toNat 60) ^ Int.toNat 5) * (if decide (10 ^ Int.toNat 18 ≤ x) = true then 1 else 0) < 10 ^ 300 := by
      intro x
      rw [pow300]
      have h1 := Int.fmod_nonneg_of_pos x (show (0 : Int) < 10 ^ 300 by decide)
      have h2 := Int.fmod_lt_of_pos x (show (0 : Int) < 10 ^ 300 by decide)
      split <;> omega
    have fin : ∀ (x y : Int) (p : Addr), H p = none → 0 ≤ x ∧ x < 10 ^ 300 → 0 ≤ y ∧ y < 2305843009213693921 → Q (V.ref p) (upd H p (HO.lst [V.int x, V.int y, V.int 0])) := by
      intro x y p hp hx hy
      exact go _ p hp (fun b o e => upd_get hp e) ⟨_, _, _, upd_same, hx.1, hx.2, hy.1, hy.2, by decide, by decide⟩
    have bnd2 : ∀ x : Int, 0 ≤ x.fmod 2305843009213693921 ∧ x.fmod 2305843009213693921 < 2305843009213693921 := fun x => ⟨Int.fmod_nonneg_of_pos _ (by decide), Int.fmod_lt_of_pos _ (by decide)⟩
    refine iteD (fun c => ?_) (fun c => ?_)
    · walk_at "w"
      refine w_ixLany (i := (p : Int)) hs' (by omega) (by rw [List.length_map]; exact c) fun v hv => ?_
      obtain ⟨z, _, rfl⟩ := List.mem_map.mp hv
      walk_at "w"
      refine w_Ib (fun r => 0 ≤ r ∧ r < 10 ^ 300) (cont _) (bnd _) fun own o => ?_
      walk_at "w"
      exact fin _ _ _ (by assumption) o (bnd2 _)
    · walk_at "w"
      generalize (331 * (p : Int) + 151) = z
      refine w_Ib (fun r => 0 ≤ r ∧ r < 10 ^ 300) (cont _) (bnd _) fun own o => ?_
      walk_at "w"
      exact fin _ _ _ (by assumption) o (bnd2 _)
end

theorem HS.sqL {K : PySem.W.Frag} {q l : Addr} {H H' : Hp} {xs : List V} (h : HS q H H') (n : l ≠ q) (s : SqL K H l xs) : SqL K H' l xs := by
  rcases s with (s | ⟨o, s⟩) | s
  · exact .inl (.inl (h l _ n s))
  · exact .inl (.inr ⟨o, h l _ n s⟩)
  · exact .inr s
theorem w_ixS {K : PySem.W.Frag} {H : Hp} {Q : VK} {p : Addr} {xs : List V} {i : Int} (h : SqL K H p xs ∨ SqT K H p xs) (h0 : 0 ≤ i) (h1 : i < (xs.length : Int)) (k : ∀ v, v ∈ xs → Q v H) : rIx K (.ref p) (.int i) H Q := by
  rcases h with h | h
  · exact .inl (w_ixLany h h0 h1 k)
  · exact .inr (.inl (w_ixTany h h0 h1 k))
def SqA (K : PySem.W.Frag) (q : Addr) (H : Hp) (l : Addr) (xs : List V) : Prop := (SqL K H l xs ∧ l ≠ q) ∨ SqT K H l xs
def spOf (K : PySem.W.Frag) : Sp := fun vs H Q _ => ∃ (q l : Addr) (xs : List V) (n : Nat), vs = [.ref q, .ref l] ∧ SqA K q H l xs ∧ xs ≠ [] ∧ xs.length < 2 ^ 30 ∧ PotAt H q n ∧ n ≤ 1000000 ∧
  ∀ (H' : Hp) (v : V), v ∈ xs → HS q H H' → PotAt H' q (n + 1) → Q v H'
def spCells (K : PySem.W.Frag) : Sp := fun vs H Q _ => ∃ (a : Addr) (ns : List Int) (m : Nat), vs = [.ref a, .int (m : Int)] ∧ SqL K H a (ns.map V.int) ∧ 1 ≤ m ∧ m ≤ 60 ∧
  ∀ (p : Addr) (k : Nat), H p = none → 1 ≤ k → k ≤ m → Q (.ref p) (upd H p (.lst (rgV 0 (k : Int))))
section
variable {P : Program} {w : World} {K : PySem.W.Frag} {mg : Str → Option Value} {base : Heap}
theorem ok_of (F : FunAt K mg "_law_of" s_law_of) (T : Txt mg) (D_law_take : Def P w K mg base 1 "_law_take" P_law_take spTake) : Def P w K mg base 2 "_law_of" P_law_of (spOf K) := by
  refine def_of F sc_law_of bs_law_of (fun vs H Q E h => ?_) fun f cdv A outer s H vs Q E hr h => ?_
  · obtain ⟨q, l, xs, n, rfl, _⟩ := h
    rfl
  · refine ⟨_, (pss_one (ps_ret (pe_ix ix_seq (pv 1) (pe_d D_law_take (hr.mono (by omega)) (pa_cons (pv 0) (pa_cons (pe_callB call_len (by rfl) T.n_len PySem.boot_len (pa_cons (pv 1) pa_nil)) pa_nil))) (fun _ _ => rfl)))), ?_⟩
    obtain ⟨q, l, xs, n, rfl, hs, hne, hlt, hp, hn, go⟩ := h
    have hpos := List.length_pos_iff.mpr hne
    walk_at "w"
    refine ⟨_, xs.length, rfl, hs.elim (fun z => .inl ⟨_, z.1, rfl⟩) (fun z => .inr ⟨_, z, rfl⟩), ?_⟩
    walk_at "w"
    refine ⟨q, _, n, rfl, by omega, by omega, hp, hn, fun H' r hH hp' r0 r1 => ?_⟩
    obtain ⟨own, b, k, e, _⟩ := hp
    refine w_ixS (hs.elim (fun z => .inl (hH.sqL z.2 z.1)) fun z => .inr (hH.sqT e z)) r0 r1 fun v hv => ?_
    exact go H' v hv hH hp'
theorem ok_cells (F : FunAt K mg "_law_cells" s_law_cells) (T : Txt mg) : Def P w K mg base 1 "_law_cells" P_law_cells (spCells K) := by
  refine def_of F sc_law_cells bs_law_cells (fun vs H Q E h => ?_) fun f cdv A outer s H vs Q E hr h => ?_
  · obtain ⟨q, l, xs, rfl, _⟩ := h
    rfl
  · refine ⟨_, (pss_one (ps_ret (pe_listRg rfl (by rfl) T.n_list (prg_1 (by rfl) T.n_range (pe_callB (call_max2 rfl) (by rfl) T.n_max (by decide +kernel) (pa_cons pe_int (pa_cons (pe_callB (call_min2 rfl) (by rfl) T.n_min (by decide +kernel) (pa_cons (pv 1) (pa_cons (pe_callB call_len (by rfl) T.n_len PySem.boot_len (pa_cons (pv 0) pa_nil)) pa_nil))) pa_nil))))))), ?_⟩
    obtain ⟨a, ns, m, rfl, hs, h1, h2, go⟩ := h
    walk_at "w"
    refine ⟨_, ns.length, rfl, .inl ⟨_, hs, by rw [List.length_map]⟩, ?_⟩
    walk_at "w"
    have hz : ∀ x y : Int, 1 ≤ y → y ≤ 60 → 1 ≤ (if (if x < y then x else y) > 1 then (if x < y then x else y) else 1) ∧ (if (if x < y then x else y) > 1 then (if x < y then x else y) else 1) ≤ y := by
      intro x y h1 h2
      split <;> split <;> constructor <;> omega
    have hz' := hz (ns.length : Int) (m : Int) (by omega) (by omega)
    generalize (if (if (ns.length : Int) < (m : Int) then (ns.length : Int) else (m : Int)) > 1 then (if (ns.length : Int) < (m : Int) then (ns.length : Int) else (m : Int)) else 1) = z at hz' ⊢
    obtain ⟨k, rfl⟩ : ∃ k : Nat, z = (k : Int) := ⟨z.toNat, by omega⟩
    exact ⟨RgOk.of_le (by decide) (by omega) (by decide) (by omega), fun p hp => go p k hp (by omega) (by omega)⟩
end

local macro_rules | `(tactic| walk_at "de1") => `(tactic| first
  | exact de_non | exact de_bl _ | exact de_int _ | exact de_str _ | exact da_nil | exact de_dnew | exact de_disp1
  | exact de_opI ⟨by decide, by decide, by decide⟩ (by decide +kernel) | exact de_unI (by decide)
  | (refine' da_cons ?_ ?_) | (refine' de_tup ?_ (by decide)) | (refine' de_lst ?_ (by decide)))
local macro_rules | `(tactic| walk_at "de") => `(tactic| repeat' (walk_at "de1"))
def odd0 : List PyData := [.none, .bool true, .bool false, .int 0, .int 1, .int (-1), .int 100000000, .str (Str.ofString ""), .str (Str.ofString "a"), .str (Str.ofString "stays"), .tuple [], .list [], .dict [], .tuple [.tuple []], .tuple [.int 0], .tuple [.str (Str.ofString "")], .list [.int 0], .tuple [.str (Str.ofString "a"), .str (Str.ofString "b")]]
def odd1 : List PyData := [.tuple [.none], .tuple [.str (Str.ofString "stays"), .tuple []], .tuple [.tuple [.str (Str.ofString "stays"), .tuple []]], .tuple [.str (Str.ofString "leaf"), .int 0, .tuple []], .tuple [.str (Str.ofString "fork"), .int 0, .tuple []], .str (Str.ofString "never"), .dict [(.str (Str.ofString "a"), .int 1)], .str (Str.ofString "A")]
def odd2 : List PyData := [.tuple [.str (Str.ofString "wakes"), .tuple [], .str (Str.ofString "a")], .tuple [.tuple [.tuple [], .int 1]], .tuple [.tuple [], .tuple [.str (Str.ofString "a")]]]
def OkV (K : PySem.W.Frag) (q : Addr) (H : Hp) (v : V) (m n : Nat) : Prop := ∃ d, Dq K q H v d ∧ okD d = true ∧ szD d ≤ m ∧ d.depth ≤ n
def OkW (K : PySem.W.Frag) (q : Addr) (H : Hp) (v : V) (m n : Nat) : Prop := ∃ d, Dq K q H v d ∧ okD d = true ∧ szD d ≤ m ∧ d.depth ≤ n ∧ inB d = true
def spOdd (K : PySem.W.Frag) : Sp := fun vs H Q _ => ∃ (q : Addr) (n : Nat), vs = [.ref q] ∧ PotAt H q n ∧ n ≤ 1000000 ∧
  ∀ (H' : Hp) (v : V), OkW K q H' v 200 3 → HS q H H' → PotAt H' q (n + 1) → Q v H'
theorem odd_ok : ∀ d ∈ (odd0 ++ odd1) ++ odd2, okD d = true ∧ szD d ≤ 200 ∧ d.depth ≤ 3 ∧ inB d = true := by
  decide +kernel
section
variable {P : Program} {w : World} {K : PySem.W.Frag} {mg : Str → Option Value} {base : Heap}
theorem ok_odd (F : FunAt K mg "_law_odd" s_law_odd) (T : Txt mg) (D_law_of : Def P w K mg base 2 "_law_of" P_law_of (spOf K)) : Def P w K mg base 3 "_law_odd" P_law_odd (spOdd K) := by
  refine def_of F sc_law_odd bs_law_odd (fun vs H Q E h => ?_) fun f cdv A outer s H vs Q E hr h => ?_
  · obtain ⟨q, n, rfl, _⟩ := h
    rfl
  · refine ⟨_, (pss_cons (ps_set (i := 1) sc_law_odd.nd rfl (Or.inl rfl) (pe_lstN (pa_cons pe_non (pa_cons pe_bl (pa_cons pe_bl (pa_cons pe_int (pa_cons pe_int (pa_cons (pe_un un_neg pe_int) (pa_cons (pe_op op_pow pe_int pe_int) (pa_cons pe_str (pa_cons pe_str (pa_cons pe_str (pa_cons (pe_tup pa_nil) (pa_cons (pe_lstN pa_nil) (pa_cons pe_dnewK (pa_cons (pe_tup (pa_cons (pe_tup pa_nil) pa_nil)) (pa_cons (pe_tup (pa_cons pe_int pa_nil)) (pa_cons (pe_tup (pa_cons pe_str pa_nil)) (pa_cons (pe_lstN (pa_cons pe_int pa_nil)) (pa_cons (pe_tup (pa_cons pe_str (pa_cons pe_str pa_nil))) pa_nil))))))))))))))))))))
  (pss_cons (ps_set (i := 1) sc_law_odd.nd rfl (Or.inl rfl) (pe_op op_cat (pv 1) (pe_lstN (pa_cons (pe_tup (pa_cons pe_non pa_nil)) (pa_cons (pe_tup (pa_cons pe_str (pa_cons (pe_tup pa_nil) pa_nil))) (pa_cons (pe_tup (pa_cons (pe_tup (pa_cons pe_str (pa_cons (pe_tup pa_nil) pa_nil))) pa_nil)) (pa_cons (pe_tup (pa_cons pe_str (pa_cons pe_int (pa_cons (pe_tup pa_nil) pa_nil)))) (pa_cons (pe_tup (pa_cons pe_str (pa_cons pe_int (pa_cons (pe_tup pa_nil) pa_nil)))) (pa_cons pe_str (pa_cons (pe_disp (pps_cons pe_str pe_int pps_nil) rfl rfl (by simp) (by decide)) (pa_cons pe_str pa_nil)))))))))))
  (pss_one (ps_ret (pe_d D_law_of (hr.mono (by omega)) (pa_cons (pv 0) (pa_cons (pe_op op_cat (pv 1) (pe_lstN (pa_cons (pe_tup (pa_cons pe_str (pa_cons (pe_tup pa_nil) (pa_cons pe_str pa_nil)))) (pa_cons (pe_tup (pa_cons (pe_tup (pa_cons (pe_tup pa_nil) (pa_cons pe_int pa_nil))) pa_nil)) (pa_cons (pe_tup (pa_cons (pe_tup pa_nil) (pa_cons (pe_tup (pa_cons pe_str pa_nil)) pa_nil))) pa_nil))))) pa_nil))))))), ?_⟩
    obtain ⟨q, n, rfl, hp, hn, go⟩ := h
    obtain ⟨own, b, k, e, hp0⟩ := hp
    refine w_seq (w_asg ?_)
    refine' (de_lst (K := K) (q := q) (ds := odd0) ?h (by decide)) _ _ _ ⟨_, e⟩ (fun v H1 s1 d1 => ?_)
    (case h => walk_at "de")
    cases d1 with
    | @lst l1 xs1 _ a1 a2 a3 a4 =>
    walk_at "v"
    refine' (de_lst (K := K) (q := q) (ds := odd1) ?h (by decide)) _ _ _ ⟨_, s1 _ _ e⟩ (fun v H2 s2 d2 => ?_)
    (case h => walk_at "de")
    cases d2 with
    | @lst l2 xs2 _ b1 b2 b3 b4 =>
    refine w_cat (s2 _ _ a1) b1 (by rw [a4.length, b4.length]; decide) fun p hp => ?_
    have c4 := (a4.same s2).append b4
    have s3 : Same H (upd H2 p (.lst (xs1 ++ xs2))) := same_upd (s1.trans s2) hp
    walk_at "v"
    refine' (de_lst (K := K) (q := q) (ds := odd2) ?h (by decide)) _ _ _ ⟨_, s3 _ _ e⟩ (fun v H4 s4 d4 => ?_)
    (case h => walk_at "de")
    cases d4 with
    | @lst l3 xs3 _ e1 e2 e3 e4 =>
    refine w_cat (s4 _ _ upd_same) e1 (by rw [c4.length, e4.length]; decide) fun p2 hp2 => ?_
    have f4 := ((c4.same (same_upd (Same.refl _) hp)).same s4).append e4
    have s5 : Same H (upd H4 p2 (.lst ((xs1 ++ xs2) ++ xs3))) := same_upd (s3.trans s4) hp2
    have hlen := f4.length
    walk_at "w"
    refine ⟨q, p2, _, n, rfl, .inl ⟨SqL.of upd_same, Ne.symm (ne_of_none (s3.trans s4 _ _ e) hp2)⟩, ?_, ?_, ⟨own, b, k, s5 _ _ e, hp0⟩, hn, fun H' v hv hH hp' => ?_⟩
    · intro z
      rw [z] at hlen
      exact absurd hlen (by decide)
    · rw [hlen]
      decide
    · obtain ⟨d, hd, dq⟩ := (f4.same (same_upd (Same.refl _) hp2)).mem hv
      obtain ⟨o1, o2, o3, o4⟩ := odd_ok d hd
      exact go H' v ⟨d, dq.mono hH (s5 _ _ e), o1, o2, o3, o4⟩ ((HS.same s5).trans hH) hp'
end

def spBent (K : PySem.W.Frag) : Nat → Sp
  | 0 => fun _ _ _ _ => False
  | k + 1 => fun vs H Q _ => ∃ (q : Addr) (v : V) (d : PyData) (n : Nat), vs = [.ref q, v] ∧ Dq K q H v d ∧ okD d = true ∧ inB d = true ∧ d.depth ≤ k ∧ szD d ≤ 100000 ∧ PotAt H q n ∧ n + 2 * k ≤ 900000 ∧
    ∀ (H' : Hp) (v' : V), OkV K q H' v' (3 * szD d + 400) (k + 3) → HS q H H' → PotAt H' q (n + 2 * k + 4) → Q v' H'
def Fit (m n : Nat) (d : PyData) : Prop := okD d = true ∧ szD d ≤ m ∧ d.depth ≤ n
theorem of_fin {K : PySem.W.Frag} {q p : Addr} {H : Hp} {Q : VK} {E : XK} {vs : List V} {ds : List PyData} {m M N : Nat} (hp : H p = some (.lst vs)) (hpq : p ≠ q) (dqs : DqA K q H vs ds) (fs : ∀ d ∈ ds, Fit M N d) (h0 : 0 < ds.length) (h1 : ds.length ≤ 1000)
    (pot : PotAt H q m) (hm : m ≤ 1000000) (k : ∀ (H' : Hp) (v : V), OkV K q H' v M N → HS q H H' → PotAt H' q (m + 1) → Q v H') : spOf K [.ref q, .ref p] H Q E := by
  have hl := dqs.length
  obtain ⟨own, b, c, e, r⟩ := id pot
  refine ⟨q, p, vs, m, rfl, .inl ⟨.of hp, hpq⟩, fun z => ?_, by omega, pot, hm, fun H' v hv hH hp' => ?_⟩
  · rw [z] at hl
    have : ([] : List V).length = 0 := rfl
    omega
  · obtain ⟨d, hd, dq⟩ := dqs.mem hv
    exact k H' v ⟨d, dq.mono hH e, (fs d hd).1, (fs d hd).2.1, (fs d hd).2.2⟩ hH hp'
theorem opt_fin {K : PySem.W.Frag} {q : Addr} {σ σ' : L2.St} {H : Hp} {Q : VK} {E : XK} {ta : TA} {n m M N : Nat} (A : DPA K q σ H ta (Fit M N) n) (h0 : 0 < n) (h1 : n ≤ 1000) (pot : PotAt H q m) (hm : m ≤ 1000000)
    (k : ∀ (H' : Hp) (v : V), OkV K q H' v M N → HS q H H' → PotAt H' q (m + 1) → Q v H') : tLstN ta σ H fun x H1 => tNil σ' H1 fun xs H2 => spOf K (V.ref q :: x :: xs ++ []) H2 Q E := by
  refine A H _ (Same.refl H) fun vs H2 ds s2 dqs fs hn => ⟨by rw [dqs.length, sizeLine_eq]; omega, fun p hp hms => ?_⟩
  obtain ⟨own, b, c, e, r⟩ := id pot
  have s3 : Same H (upd H2 p (.lst vs)) := same_upd s2 hp
  show spOf K [V.ref q, V.ref p] (upd H2 p (.lst vs)) Q E
  refine of_fin (ds := ds) upd_same (Ne.symm (ne_of_none (s2 _ _ e) hp)) (dqs.same (same_upd (Same.refl _) hp)) fs (by omega) (by omega) ⟨own, b, c, s3 _ _ e, r⟩ hm fun H' v hv hH hp' => ?_
  exact k H' v hv ((HS.same s3).trans hH) hp'
theorem PotAt.same {H H' : Hp} {q : Addr} {n : Nat} (h : PotAt H q n) (s : Same H H') : PotAt H' q n := by
  obtain ⟨own, b, k, e, r⟩ := h
  exact ⟨own, b, k, s _ _ e, r⟩
theorem upper_low {x : Str} (h : ∀ c ∈ x.cps.toList, c < 128) : ∀ c ∈ (Txt.upper x).cps.toList, c < 128 := by
  have all : (List.range 128).all (fun c => (Unicode.upperOf c).all fun e => decide (e < 128)) = true := by decide +kernel
  intro c hc
  have hc' : c ∈ ((x.cps.mapIdx fun _ c => (Unicode.upperOf c).toArray).flatten).toList := hc
  rw [Array.mem_toList_iff, Array.mem_flatten] at hc'
  obtain ⟨l, hl, hcl⟩ := hc'
  obtain ⟨i, hi, e⟩ := Array.mem_mapIdx.mp hl
  rw [← e] at hcl
  have h1 := h x.cps[i] (Array.mem_toList_iff.mpr (Array.getElem_mem hi))
  have h2 := List.all_eq_true.mp (List.all_eq_true.mp all x.cps[i] (List.mem_range.mpr h1)) c (by simpa using hcl)
  exact of_decide_eq_true h2
theorem fit_non {m n : Nat} (h : 5 ≤ m) : Fit m n .none := ⟨rfl, h, Nat.zero_le _⟩
theorem fit_bool {m n : Nat} (h : 5 ≤ m) (b : Bool) : Fit m n (.bool b) := ⟨rfl, h, Nat.zero_le _⟩
theorem fit_int {m n : Nat} (h : 110 ≤ m) {i : Int} (hi : i.natAbs < 2 ^ 100) : Fit m n (.int i) := ⟨decide_eq_true hi, h, Nat.zero_le _⟩
theorem fit_str {m n : Nat} {x : Str} (h : 10 * x.length + 2 ≤ m) (hx : ∀ c ∈ x.cps.toList, c < 128) : Fit m n (.str x) := ⟨List.all_eq_true.mpr fun c hc => decide_eq_true (hx c hc), h, Nat.zero_le _⟩
theorem fit_seq {es : List PyData} {M N : Nat} (h1 : ∀ d ∈ es, okD d = true) (h2 : szA es + 3 ≤ M) (h3 : ∀ d ∈ es, d.depth + 1 ≤ N) (h4 : 1 ≤ N) : Fit M N (.tuple es) ∧ Fit M N (.list es) := by
  have hA : okA es = true := okA_iff.mpr h1
  have hD : PyData.depthAll es ≤ N - 1 := depthAll_le.mpr fun d hd => by
    have := h3 d hd
    omega
  have e1 : (PyData.tuple es).depth = PyData.depthAll es + 1 := by simp only [PyData.depth]
  have e2 : (PyData.list es).depth = PyData.depthAll es + 1 := by simp only [PyData.depth]
  exact ⟨⟨hA, h2, by omega⟩, ⟨hA, h2, by omega⟩⟩
def optsT (K : PySem.W.Frag) : TA :=
  tCons (tCB (fun xs H Q => ∃ p ys, xs = [V.ref p] ∧ (SqL K H p ys ∨ SqT K H p ys) ∧ ∀ l, H l = none → l ≠ sysModules → Q (V.ref l) (upd H l (.lst ys))) (tCons (tVar 1) tNil))
    (tCons (tSl (rSlA K) (tVar 1) (tPart (tC (.int 1))) tNoPart) (tCons (tSl (rSlA K) (tVar 1) tNoPart (tPart (tUn (rU fun i => .int (-i)) (tC (.int 1)))))
    (tCons (tOp (rCatA K) (tVar 1) (tSl (rSlA K) (tVar 1) (tPart (tUn (rU fun i => .int (-i)) (tC (.int 1)))) tNoPart)) (tCons (tBackT K (tVar 1)) (tCons (tTup tNil)
    (tCons (tOp (rCatA K) (tVar 1) (tTup (tCons (tC (.int 0)) tNil))) (tCons (tC .non) tNil)))))))
section
variable {P : Program} {w : World} {K : PySem.W.Frag} {mg : Str → Option Value} {base : Heap}
theorem bent_step (F : FunAt K mg "_law_bent" s_law_bent) (T : Txt mg) (D_law_take : Def P w K mg base 1 "_law_take" P_law_take spTake) (D_law_of : Def P w K mg base 2 "_law_of" P_law_of (spOf K))
    (D_law_odd : Def P w K mg base 3 "_law_odd" P_law_odd (spOdd K)) (k : Nat) (D_law_bent : Def P w K mg base (3 + k) "_law_bent" P_law_bent (spBent K k)) :
    Def P w K mg base (3 + k + 1) "_law_bent" P_law_bent (spBent K (k + 1)) := by
  refine def_of F sc_law_bent bs_law_bent (fun vs H Q E h => ?_) fun f cdv A outer s H vs Q E hr h => ?_
  · obtain ⟨q, v, d, n, rfl, _⟩ := h
    rfl
  · refine ⟨_, (pss_cons (ps_if (PW.pt (pw_and (pt_val (pe_callB call_isi (by rfl) T.n_isinstance (by decide +kernel) (pa_cons (pv 1) (pa_cons (pe_bltn (v := .ty "tuple") (by rfl) T.n_tuple (by decide +kernel) rfl) pa_nil)))) (pw_and (pt_cmpR (op_neE (hu_of hr)) (pv 1) (pe_tup pa_nil) (nomark _)) (pw_and1 (pt_cmpR op_gt (pe_d D_law_take (hr.mono (by omega)) (pa_cons (pv 0) (pa_cons pe_int pa_nil))) pe_int (nomark _)))))) (pss_cons (ps_set (i := 2) sc_law_bent.nd rfl (Or.inl rfl) (pe_d D_law_take (hr.mono (by omega)) (pa_cons (pv 0) (pa_cons (pe_callB call_len (by rfl) T.n_len PySem.boot_len (pa_cons (pv 1) pa_nil)) pa_nil))))
  (pss_one (ps_ret (pe_op op_catA (pe_op op_catA (pe_slice sl_tupA (pv 1) po_none (po_some (pv 2))) (pe_tup (pa_cons (pe_d D_law_bent (hr.mono (by omega)) (pa_cons (pv 0) (pa_cons (pe_ix ix_tup (pv 1) (pv 2) (fun _ _ => rfl)) pa_nil))) pa_nil))) (pe_slice sl_tupA (pv 1) (po_some (pe_op op_add (pv 2) pe_int)) po_none))))) pss_nil)
  (pss_cons (ps_if (pt_val (pe_callB call_isi (by rfl) T.n_isinstance (by decide +kernel) (pa_cons (pv 1) (pa_cons (pe_bltn (v := .ty "tuple") (by rfl) T.n_tuple (by decide +kernel) rfl) pa_nil)))) (pss_cons (ps_set (i := 3) sc_law_bent.nd rfl (Or.inl rfl) (pe_lstN (pa_cons (pe_callTy call_listN (by rfl) T.n_list (by decide +kernel) (pa_cons (pv 1) pa_nil)) (pa_cons (pe_slice sl_tupA (pv 1) (po_some pe_int) po_none) (pa_cons (pe_slice sl_tupA (pv 1) po_none (po_some (pe_un un_neg pe_int))) (pa_cons (pe_op op_catA (pv 1) (pe_slice sl_tupA (pv 1) (po_some (pe_un un_neg pe_int)) po_none)) (pa_cons (pe_backT (pv 1)) (pa_cons (pe_tup pa_nil) (pa_cons (pe_op op_catA (pv 1) (pe_tup (pa_cons pe_int pa_nil))) (pa_cons pe_non pa_nil))))))))))
  (pss_one (ps_ret (pe_d D_law_of (hr.mono (by omega)) (pa_cons (pv 0) (pa_cons (pv 3) pa_nil)))))) pss_nil)
  (pss_cons (ps_if (pt_val (pe_callB call_isi (by rfl) T.n_isinstance (by decide +kernel) (pa_cons (pv 1) (pa_cons (pe_bltn (v := .ty "bool") (by rfl) T.n_bool (by decide +kernel) rfl) pa_nil)))) (pss_one (ps_ret (pe_d D_law_of (hr.mono (by omega)) (pa_cons (pv 0) (pa_cons (pe_lstN (pa_cons (pe_not (pv 1)) (pa_cons (pe_callTy call_int1 (by rfl) T.n_int (by decide +kernel) (pa_cons (pv 1) pa_nil)) (pa_cons pe_non pa_nil)))) pa_nil))))) pss_nil)
  (pss_cons (ps_if (pt_val (pe_callB call_isi (by rfl) T.n_isinstance (by decide +kernel) (pa_cons (pv 1) (pa_cons (pe_bltn (v := .ty "int") (by rfl) T.n_int (by decide +kernel) rfl) pa_nil)))) (pss_one (ps_ret (pe_d D_law_of (hr.mono (by omega)) (pa_cons (pv 0) (pa_cons (pe_lstN (pa_cons (pe_op op_add (pv 1) pe_int) (pa_cons (pe_op op_sub (pv 1) pe_int) (pa_cons (pe_cmpR op_eq (pv 1) pe_int (nomark _)) (pa_cons (pe_callTy call_str_int (by rfl) T.n_str (by decide +kernel) (pa_cons (pv 1) pa_nil)) (pa_cons pe_non (pa_cons (pe_un un_neg (pv 1)) (pa_cons (pe_op op_add (pv 1) pe_int) (pa_cons (pe_tup (pa_cons (pv 1) pa_nil)) pa_nil))))))))) pa_nil))))) pss_nil)
  (pss_cons (ps_if (pt_val (pe_callB call_isi (by rfl) T.n_isinstance (by decide +kernel) (pa_cons (pv 1) (pa_cons (pe_bltn (v := .ty "str") (by rfl) T.n_str (by decide +kernel) rfl) pa_nil)))) (pss_one (ps_ret (pe_d D_law_of (hr.mono (by omega)) (pa_cons (pv 0) (pa_cons (pe_lstN (pa_cons (pe_op op_add_str (pv 1) pe_str) (pa_cons (pe_slice sl_str (pv 1) po_none (po_some (pe_un un_neg pe_int))) (pa_cons (pe_backS (pv 1)) (pa_cons (pe_upper (pv 1)) (pa_cons (pe_lstN (pa_cons (pv 1) pa_nil)) (pa_cons pe_str (pa_cons pe_str (pa_cons pe_non (pa_cons pe_int pa_nil)))))))))) pa_nil))))) pss_nil)
  (pss_one (ps_ret (pe_d D_law_odd (hr.mono (by omega)) (pa_cons (pv 0) pa_nil))))))))), ?_⟩
    obtain ⟨q, v, d, n, rfl, hd, ok, inb, hdep, hsz, pot, hn, go⟩ := h
    have odd : spOdd K [.ref q] H Q E0 := by
      refine ⟨q, n, rfl, pot, by omega, fun H' v' hv hH hp' => go H' v' ?_ hH (hp'.mono (by omega))⟩
      obtain ⟨d', dq', o1, o2, o3, _⟩ := hv
      exact ⟨d', dq', o1, by omega, by omega⟩
    have hd0 := hd
    cases hd with
    | non =>
      walk_at "v"
      refine w_isT false hd0 (by kernel_rfl) ?_
      walk_at "v"
      refine w_isT false hd0 (by kernel_rfl) ?_
      walk_at "v"
      refine w_isT false hd0 (by kernel_rfl) ?_
      walk_at "v"
      refine w_isT false hd0 (by kernel_rfl) ?_
      walk_at "v"
      refine w_isT false hd0 (by kernel_rfl) ?_
      walk_at "v"
      exact odd
    | lst a1 a2 a3 a4 =>
      walk_at "v"
      refine w_isT false hd0 (by kernel_rfl) ?_
      walk_at "v"
      refine w_isT false hd0 (by kernel_rfl) ?_
      walk_at "v"
      refine w_isT false hd0 (by kernel_rfl) ?_
      walk_at "v"
      refine w_isT false hd0 (by kernel_rfl) ?_
      walk_at "v"
      refine w_isT false hd0 (by kernel_rfl) ?_
      walk_at "v"
      exact odd
    | dic a1 a2 a3 =>
      walk_at "v"
      refine w_isT false hd0 (by kernel_rfl) ?_
      walk_at "v"
      refine w_isT false hd0 (by kernel_rfl) ?_
      walk_at "v"
      refine w_isT false hd0 (by kernel_rfl) ?_
      walk_at "v"
      refine w_isT false hd0 (by kernel_rfl) ?_
      walk_at "v"
      refine w_isT false hd0 (by kernel_rfl) ?_
      walk_at "v"
      exact odd
    | bl b =>
      walk_at "v"
      refine w_isT false hd0 (by kernel_rfl) ?_
      walk_at "v"
      refine w_isT false hd0 (by kernel_rfl) ?_
      walk_at "v"
      refine w_isT true hd0 (by kernel_rfl) ?_
      walk_at "v"
      have w0 : DV K q (L2.start N_law_bent [V.ref q, V.bl b]) H (tVar 1) (.bool b) := dv_var rfl hd0
      have z0 : szD (.bool b) = 5 := rfl
      refine' opt_fin (n := 3) (m := n) (M := 3 * szD (.bool b) + 400) (N := k + 3) ?A (by decide) (by decide) pot (by omega) (fun H' v hv hH hp' => go H' v hv hH (hp'.mono (by omega)))
      refine' dpa_cons ((dv_not w0).dp ?_) (dpa_cons ((dv_intB w0).dp ?_) (dpa_cons (dv_non.dp ?_) dpa_nil))
      · exact fit_bool (by omega) _
      · exact fit_int (by omega) (by cases b <;> decide)
      · exact fit_non (by omega)
    | int i => 
      walk_at "v"
      refine w_isT false hd0 (by kernel_rfl) ?_
      walk_at "v"
      refine w_isT false hd0 (by kernel_rfl) ?_
      walk_at "v"
      refine w_isT false hd0 (by kernel_rfl) ?_
      walk_at "v"
      refine w_isT true hd0 (by kernel_rfl) ?_
      walk_at "v"
      have w0 : DV K q (L2.start N_law_bent [V.ref q, V.int i]) H (tVar 1) (.int i) := dv_var rfl hd0
      have hi : i.natAbs < 2 ^ 64 := of_decide_eq_true inb
      have hl : i.natAbs.log2 < 1920 := log2_small (by omega)
      have z0 : szD (.int i) = 110 := rfl
      refine' opt_fin (n := 8) (m := n) (M := 3 * szD (.int i) + 400) (N := k + 3) ?B (by decide) (by decide) pot (by omega) (fun H' v hv hH hp' => go H' v hv hH (hp'.mono (by omega)))
      refine' dpa_cons ((dv_I0 w0 (dv_int 1)).dp ?_) (dpa_cons ((dv_I0 w0 (dv_int 1)).dp ?_) (dpa_cons ((dv_eqI w0 (dv_int 1)).dp ?_) (dpa_cons ((dv_strI w0 hl).dp ?_) (dpa_cons (dv_non.dp ?_)
        (dpa_cons ((dv_U w0).dp ?_) (dpa_cons ((dv_I0 w0 (dv_int 7)).dp ?_) (dpa_cons ((dv_tup1 w0).dp ?_) dpa_nil)))))))
      · exact fit_int (by omega) (by omega)
      · exact fit_int (by omega) (by omega)
      · exact fit_bool (by omega) _
      · refine fit_str ?_ (fun c hc => ?_)
        · have := int_text_length_le (a := i) (k := 64) (by decide) (by
            by_cases e : i.natAbs = 0
            · rw [e]
              decide
            · exact (Nat.log2_lt e).mpr hi)
          rw [PySem.ofString_length]
          omega
        · by_cases h : c < 128
          · exact h
          · exact absurd hc (int_text_free' c ⟨by omega, by omega⟩ i)
      · exact fit_non (by omega)
      · exact fit_int (by omega) (by omega)
      · exact fit_int (by omega) (by omega)
      · exact ⟨by simp only [okD, okA, Bool.and_true]; exact ok, by simp only [szD, szA]; omega, by simp only [PyData.depth, PyData.depthAll]; omega⟩
    | str x =>
      walk_at "v"
      refine w_isT false hd0 (by kernel_rfl) ?_
      walk_at "v"
      refine w_isT false hd0 (by kernel_rfl) ?_
      walk_at "v"
      refine w_isT false hd0 (by kernel_rfl) ?_
      walk_at "v"
      refine w_isT false hd0 (by kernel_rfl) ?_
      walk_at "v"
      refine w_isT true hd0 (by kernel_rfl) ?_
      walk_at "v"
      have w0 : DV K q (L2.start N_law_bent [V.ref q, V.str x]) H (tVar 1) (.str x) := dv_var rfl hd0
      have hx : ∀ c ∈ x.cps.toList, c < 128 := fun c hc => of_decide_eq_true (List.all_eq_true.mp ok c hc)
      have z0 : szD (.str x) = 10 * x.length + 2 := rfl
      have hq : ∃ o, H q = some o := by
        obtain ⟨own, b, c, e, _⟩ := id pot
        exact ⟨_, e⟩
      refine' opt_fin (n := 9) (m := n) (M := 3 * szD (.str x) + 400) (N := k + 3) ?C (by decide) (by decide) pot (by omega) (fun H' v hv hH hp' => go H' v hv hH (hp'.mono (by omega)))
      refine' dpa_cons ((dv_catS w0 (dv_str _) ?_).dp ?_) (dpa_cons ((dv_cutS w0 ?_ lo_non (lo_neg 1)).dp ?_) (dpa_cons (dp_backS w0 ?_ ?_) (dpa_cons ((dv_upper w0 ?_).dp ?_)
        (dpa_cons ((dv_lst1 hq w0).dp ?_) (dpa_cons ((dv_str _).dp ?_) (dpa_cons ((dv_str _).dp ?_) (dpa_cons (dv_non.dp ?_) (dpa_cons ((dv_int 0).dp ?_) dpa_nil))))))))
      · have : (Str.ofString "x").length = 1 := by decide
        omega
      · have : (Str.ofString "x").length = 1 := by decide
        refine fit_str (by rw [strLen_append]; omega) fun c hc => ?_
        have hc' : c ∈ x.cps.toList ++ (Str.ofString "x").cps.toList := by
          rw [← Array.toList_append]
          exact hc
        rcases List.mem_append.mp hc' with h | h
        · exact hx c h
        · exact of_decide_eq_true (List.all_eq_true.mp (show (Str.ofString "x").cps.toList.all (fun c => decide (c < 128)) = true by decide) c h)
      · omega
      · have := cutS_length x none (some (-1))
        refine fit_str (by omega) fun c hc => hx c ?_
        have hc' : c ∈ ((x.cps.toList.drop (HT.sIx x.length 0 none)).take (HT.sIx x.length x.length (some (-1)) - HT.sIx x.length 0 none)).toArray.toList := hc
        rw [List.toList_toArray] at hc'
        exact List.mem_of_mem_drop (List.mem_of_mem_take hc')
      · omega
      · intro z h1 h2
        exact fit_str (by omega) fun c hc => hx c (h2 c hc)
      · omega
      · have := len_upper x
        exact fit_str (by omega) (upper_low hx)
      · exact ⟨by simp only [okD, okA, Bool.and_true]; exact ok, by simp only [szD, szA]; omega, by simp only [PyData.depth, PyData.depthAll]; omega⟩
      · exact ⟨by decide, Nat.le_trans (by decide) (show 52 ≤ 3 * szD (.str x) + 400 by omega), Nat.zero_le _⟩
      · exact ⟨by decide, Nat.le_trans (by decide) (show 52 ≤ 3 * szD (.str x) + 400 by omega), Nat.zero_le _⟩
      · exact fit_non (by omega)
      · exact fit_int (by omega) (by decide)
    | @tup a xs ds a1 a2 =>
      have hlen := a2.length
      have hq : ∃ l, H q = some (.lst l) := by
        obtain ⟨own, b, c, e, _⟩ := id pot
        exact ⟨_, e⟩
      obtain ⟨lq, eq0⟩ := hq
      have okA' : ∀ d ∈ ds, okD d = true := okA_iff.mp ok
      have dep' : ∀ d ∈ ds, d.depth + 1 ≤ k := by
        have e : (PyData.tuple ds).depth = PyData.depthAll ds + 1 := by simp only [PyData.depth]
        have h : PyData.depthAll ds ≤ k - 1 := by omega
        intro d hd
        have := depthAll_le.mp h d hd
        omega
      have z0 : szD (.tuple ds) = szA ds + 3 := rfl
      have lsz : ∀ {es : List PyData}, es.length ≤ szA es := fun {es} => by
        induction es with
        | nil => exact Nat.zero_le _
        | cons d es ih =>
          simp only [szA, List.length_cons]
          omega
      have lds := lsz (es := ds)
      have opts : ∀ {HB : Hp}, (∃ o, HB q = some o) → DV K q (L2.start N_law_bent [V.ref q, V.ref a]) HB (tVar 1) (.tuple ds) → DPA K q (L2.start N_law_bent [V.ref q, V.ref a]) HB (optsT K) (Fit (3 * szD (.tuple ds) + 400) (k + 3)) 8 := by
        intro HB hqB w0
        refine dpa_cons ((dv_list hqB w0).dp ?_) (dpa_cons ((dv_slice w0 (lo_int 1) lo_non).dp ?_) (dpa_cons ((dv_slice w0 lo_non (lo_neg 1)).dp ?_) (dpa_cons ((dv_cat w0 (dv_slice w0 (lo_neg 1) lo_non) ?_).dp ?_)
          (dpa_cons ((dv_back w0).dp ?_) (dpa_cons (dv_tup0.dp ?_) (dpa_cons ((dv_cat w0 (dv_tup1 (dv_int 0)) ?_).dp ?_) (dpa_cons (dv_non.dp ?_) dpa_nil)))))))
        · exact (fit_seq okA' (by omega) (fun d hd => by have := dep' d hd; omega) (by omega)).2
        · have := cutD_szA ds (some 1) none
          exact (fit_seq (fun d hd => okA' d (cutD_mem hd)) (by omega) (fun d hd => by have := dep' d (cutD_mem hd); omega) (by omega)).1
        · have := cutD_szA ds none (some (-1))
          exact (fit_seq (fun d hd => okA' d (cutD_mem hd)) (by omega) (fun d hd => by have := dep' d (cutD_mem hd); omega) (by omega)).1
        · have := cutD_szA ds (some (-1)) none
          have := lsz (es := cutD ds (some (-1)) none)
          omega
        · have := cutD_szA ds (some (-1)) none
          refine (fit_seq (fun d hd => ?_) (by rw [szA_append]; omega) (fun d hd => ?_) (by omega)).1
          · rcases List.mem_append.mp hd with h | h
            · exact okA' d h
            · exact okA' d (cutD_mem h)
          · rcases List.mem_append.mp hd with h | h
            · have := dep' d h
              omega
            · have := dep' d (cutD_mem h)
              omega
        · exact (fit_seq (fun d hd => okA' d (List.mem_reverse.mp hd)) (by rw [szA_rev]; omega) (fun d hd => by have := dep' d (List.mem_reverse.mp hd); omega) (by omega)).1
        · exact (fit_seq (fun d hd => absurd hd (by simp)) (by simp only [szA]; omega) (fun d hd => absurd hd (by simp)) (by omega)).1
        · show ds.length + 1 ≤ 1000000
          omega
        · refine (fit_seq (fun d hd => ?_) (by rw [szA_append]; simp only [szA, szD]; omega) (fun d hd => ?_) (by omega)).1
          · rcases List.mem_append.mp hd with h | h
            · exact okA' d h
            · rw [List.mem_singleton.mp h]
              decide
          · rcases List.mem_append.mp hd with h | h
            · have := dep' d h
              omega
            · rw [List.mem_singleton.mp h]
              simp only [PyData.depth]
              omega
        · exact fit_non (by omega)
      walk_at "v"
      refine w_isT true hd0 (by kernel_rfl) ?_
      walk_at "v"
      refine dv_tup0 (K := K) (q := q) (H := H) H _ (Same.refl H) fun u H0 s0 dq0 => ?_
      cases dq0 with
      | tup e0 r0 =>
      cases r0
      refine w_neE (Same.sqT s0 a1) e0 ?_
      walk_at "v"
      refine iteB (fun hne => ?_) (fun hne => ?_)
      · walk_at "v"
        refine ⟨q, 6, n, rfl, by decide, by decide, pot.same s0, by omega, fun H1 r hH1 pot1 r0 r1 => ?_⟩
        walk_at "v"
        have hH01 : HS q H H1 := (HS.same s0).trans hH1
        have hdB0 := hd0.mono hH01 eq0
        refine iteD (fun hr0 => ?_) (fun hr0 => ?_)
        · walk_at "v"
          have hpos : 0 < xs.length := by
            cases xs with
            | nil => cases hne
            | cons x xs => exact Nat.succ_pos _
          have hs1 : SqT K H1 a xs := hH01.sqT eq0 a1
          refine ⟨_, xs.length, rfl, .inr ⟨_, hs1, rfl⟩, ?_⟩
          walk_at "v"
          refine ⟨q, (xs.length : Int), n + 1, rfl, by omega, by omega, pot1, by omega, fun H2 i hH2 pot2 i0 i1 => ?_⟩
          have hH02 : HS q H H2 := hH01.trans hH2
          have hd2 := hd0.mono hH02 eq0
          walk_at "v"
          refine r_slice hd2 fun v1 H3 s3 dq1 => ?_
          obtain ⟨x, hx⟩ : ∃ x, xs[i.toNat]? = some x := ⟨xs[i.toNat]'(by omega), List.getElem?_eq_getElem _⟩
          have hH03 : HS q H H3 := hH02.trans (HS.same s3)
          obtain ⟨di, hdi, _⟩ := a2.get hx
          have dqi : Dq K q H3 x di := by
            obtain ⟨d', e1, e2⟩ := (a2.mono hH03 eq0).get hx
            rw [hdi] at e1
            obtain rfl := Option.some.inj e1
            exact e2
          have mdi : di ∈ ds := List.mem_of_getElem? hdi
          have hat : atI xs i = some x := by
            unfold atI ixN
            rw [if_pos i0, if_pos i1]
            exact hx
          walk_at "v"
          refine w_tup ?_
          walk_at "v"
          refine w_ixT (hH03.sqT eq0 a1) hat ?_
          walk_at "v"
          have ki := dep' di mdi
          obtain ⟨k', rfl⟩ : ∃ k', k = k' + 1 := ⟨k - 1, by omega⟩
          have si := szA_mem mdi
          refine ⟨q, x, di, n + 2, rfl, dqi, okA' di mdi, inA_mem inb di mdi, by omega, by omega, pot2.same s3, by omega, fun H4 v2 hv2 hH4 pot4 => ?_⟩
          obtain ⟨d2, dq2, o1, o2, o3⟩ := hv2
          obtain ⟨own4, b4, c4, e4, _⟩ := id pot4
          obtain ⟨own3, b3, c3, e3, _⟩ := id (pot2.same s3)
          walk_at "v"
          rename_i p hp
          have t1 : Same H4 (upd H4 p (.tup [v2])) := same_upd (Same.refl _) hp
          have dqp : Dq K q (upd H4 p (.tup [v2])) (.ref p) (.tuple [d2]) := .tup (.of upd_same) (.cons (dq2.same t1) .nil)
          have c1 := szA_cut ds hdi
          rw [cutD_to i0 (by omega)] at dq1
          have l1 := lsz (es := ds.take i.toNat)
          have l3 := lsz (es := ds.drop (i.toNat + 1))
          have m1 : ∀ d ∈ ds.take i.toNat, d ∈ ds := fun d h => List.mem_of_mem_take h
          have m3 : ∀ d ∈ ds.drop (i.toNat + 1), d ∈ ds := fun d h => List.mem_of_mem_drop h
          refine r_cat ((dq1.mono hH4 e3).same t1) dqp (by simp only [List.length_cons, List.length_nil]; omega) fun v3 H6 s6 dq3 => ?_
          have hH06 : HS q H H6 := ((hH03.trans hH4).trans (HS.same t1)).trans (HS.same s6)
          walk_at "v"
          refine r_slice (hd0.mono hH06 eq0) fun v4 H7 s7 dq4 => ?_
          have e1 : (i + 1).toNat = i.toNat + 1 := by omega
          rw [cutD_from (by omega) (by omega), e1] at dq4
          walk_at "v"
          refine r_cat (dq3.same s7) dq4 (by simp only [List.length_append, List.length_cons, List.length_nil]; omega) fun v5 H8 s8 dq5 => ?_
          refine go H8 v5 ⟨_, dq5, ?_⟩ ((hH06.trans (HS.same s7)).trans (HS.same s8)) ((((pot4.same t1).same s6).same s7).same s8 |>.mono (by omega))
          refine (fit_seq (fun d hd => ?_) ?_ (fun d hd => ?_) (by omega)).1
          · rcases List.mem_append.mp hd with h | h
            · rcases List.mem_append.mp h with h | h
              · exact okA' d (m1 d h)
              · rw [List.mem_singleton.mp h]
                exact o1
            · exact okA' d (m3 d h)
          · rw [szA_append, szA_append]
            simp only [szA]
            omega
          · rcases List.mem_append.mp hd with h | h
            · rcases List.mem_append.mp h with h | h
              · have := dep' d (m1 d h)
                omega
              · rw [List.mem_singleton.mp h]
                omega
            · have := dep' d (m3 d h)
              omega
        · have hdB : Dq K q H1 (V.ref a) (.tuple ds) := hdB0
          have hsB : HS q H H1 := hH01
          have potB : PotAt H1 q (n + 1) := pot1
          have hqB : ∃ o, H1 q = some o := by
            obtain ⟨own, b, c, e, _⟩ := id pot1
            exact ⟨_, e⟩

          have w0 : DV K q (L2.start N_law_bent [V.ref q, V.ref a]) H1 (tVar 1) (.tuple ds) := dv_var rfl hdB
          walk_at "v"
          refine w_isT true hdB (by kernel_rfl) ?_
          walk_at "v"
          refine (opts hqB w0) H1 _ (Same.refl H1) fun vs H2 es s2 dqs fs hn2 => ⟨by rw [dqs.length, sizeLine_eq]; omega, fun p hp hms => ?_⟩
          walk_at "v"
          have s3 : Same H1 (upd H2 p (.lst vs)) := same_upd s2 hp
          obtain ⟨oq, eq⟩ := hqB
          exact of_fin (ds := es) upd_same (Ne.symm (ne_of_none (s2 _ _ eq) hp)) (dqs.same (same_upd (Same.refl _) hp)) fs (by omega) (by omega) (potB.same s3) (by omega)
            fun H' v hv hH hp' => go H' v hv ((hsB.trans (HS.same s3)).trans hH) (hp'.mono (by omega))

      · have hdB : Dq K q H0 (V.ref a) (.tuple ds) := hd0.same s0
        have hsB : HS q H H0 := HS.same s0
        have potB : PotAt H0 q (n + 1) := (pot.same s0).mono (by omega)
        have hqB : ∃ o, H0 q = some o := ⟨_, s0 _ _ eq0⟩

        have w0 : DV K q (L2.start N_law_bent [V.ref q, V.ref a]) H0 (tVar 1) (.tuple ds) := dv_var rfl hdB
        walk_at "v"
        refine w_isT true hdB (by kernel_rfl) ?_
        walk_at "v"
        refine (opts hqB w0) H0 _ (Same.refl H0) fun vs H2 es s2 dqs fs hn2 => ⟨by rw [dqs.length, sizeLine_eq]; omega, fun p hp hms => ?_⟩
        walk_at "v"
        have s3 : Same H0 (upd H2 p (.lst vs)) := same_upd s2 hp
        obtain ⟨oq, eq⟩ := hqB
        exact of_fin (ds := es) upd_same (Ne.symm (ne_of_none (s2 _ _ eq) hp)) (dqs.same (same_upd (Same.refl _) hp)) fs (by omega) (by omega) (potB.same s3) (by omega)
          fun H' v hv hH hp' => go H' v hv ((hsB.trans (HS.same s3)).trans hH) (hp'.mono (by omega))

end

/-- the errors: the i-th class stands at D i; __init__ at fI -/
structure Err (K : PySem.W.Frag) (mg : Str → Option Value) (fI : Addr) (fdI : FuncData) (D : Nat → Addr) : Prop where
  g_WakeError : mg "WakeError" = some (.ref (D 0))
  g_BadDevices : mg "BadDevices" = some (.ref (D 1))
  g_BadBundles : mg "BadBundles" = some (.ref (D 2))
  g_BadLot : mg "BadLot" = some (.ref (D 3))
  g_OtherDevices : mg "OtherDevices" = some (.ref (D 4))
  g_BadDevice : mg "BadDevice" = some (.ref (D 5))
  g_BadRests : mg "BadRests" = some (.ref (D 6))
  g_BadBook : mg "BadBook" = some (.ref (D 7))
  g_BadFact : mg "BadFact" = some (.ref (D 8))
  g_Full : mg "Full" = some (.ref (D 9))
  g_NoFact : mg "NoFact" = some (.ref (D 10))
  g_NoRules : mg "NoRules" = some (.ref (D 11))
  g_BadClaims : mg "BadClaims" = some (.ref (D 12))
  g_BadPrices : mg "BadPrices" = some (.ref (D 13))
  g_TooMany : mg "TooMany" = some (.ref (D 14))
  g_BadOffers : mg "BadOffers" = some (.ref (D 15))
  g_BadClaim : mg "BadClaim" = some (.ref (D 16))
  g_Contrary : mg "Contrary" = some (.ref (D 17))
  g_IsOn : mg "IsOn" = some (.ref (D 18))
  g_NothingToUndo : mg "NothingToUndo" = some (.ref (D 19))
  g_NothingToRedo : mg "NothingToRedo" = some (.ref (D 20))
  g_NoTrial : mg "NoTrial" = some (.ref (D 21))
  g_BadJournal : mg "BadJournal" = some (.ref (D 22))
  g_BadLine : mg "BadLine" = some (.ref (D 23))
  e : ∀ i, i < 24 → ErrC K (D i) fI
  tI : PySem.W.typeIn K (.ref fI) = some (.type "function")
  bI : Binds K fdI ["self", "value"] []
  kit : ∀ i j, i < 24 → j < 23 → PySem.W.kitOne K (.ref (D i)) (.ref (D (j + 1))) = some (decide (i = j + 1))
  kitW : ∀ i, i < 24 → PySem.W.kitOne K (.ref (D i)) (.ref (D 0)) = some true
  kitV : ∀ i, i < 24 → PySem.W.kitOne K (.ref (D i)) (.type "ValueError") = some true
abbrev sInit : Stmt := inClass (top 1) 0
theorem scInit : FnScope ["self", "value"] ["self", "value"] (defScope sInit) := ⟨rfl, rfl, rfl, by decide +kernel, rfl, by decide +kernel, by decide +kernel⟩
def errD (D : Nat → Addr) : List Addr := (List.range 23).map fun j => D (j + 1)
def spMade (D : Nat → Addr) : Sp := fun vs H Q _ => ∃ v : V, vs = [v] ∧ ∀ (H' : Hp) (p : Addr) (es : List Addr), Same H H' → H p = none → H' p = some (.lst (es.map V.ref)) → ErrsAt H' v es (errD D) → Q (.ref p) H'
def markL (i : Nat) : List Bool := (List.range 23).map fun j => decide (i = j + 1)
def spMarks (D : Nat → Addr) : Sp := fun vs H Q _ => ∃ (a : Addr) (i : Nat) (v : V), vs = [.ref a] ∧ i < 24 ∧ ErrAt H a (D i) v ∧ ∀ (H' : Hp) (p : Addr), Same H H' → H p = none → H' p = some (.lst ((markL i).map V.bl)) → Q (.ref p) H'
section
variable {P : Program} {w : World} {K : PySem.W.Frag} {mg : Str → Option Value} {base : Heap}
variable {fI : Addr} {fdI : FuncData} {D : Nat → Addr}
theorem ok_init (F : Fun K "__init__" "WakeError.__init__" sInit fI fdI) : FnOk P w K mg base CX0 2 fI fdI ["self", "value"] (spInit K) := by
  refine (F.ok (k := 1) scInit (fun vs H Q E h => ?_) fun cdv A outer s H vs Q E hr h => ?_)
  · obtain ⟨a, D, v, rfl, _⟩ := h
    rfl
  · refine ⟨_, pss_one (ps_ost (pv 0) (pv 1)), ?_⟩
    obtain ⟨a, D, v, rfl, h1, h2, h3, go⟩ := h
    exact ⟨v, rfl, .ref a, rfl, a, D, rfl, h1, h2, .inl ⟨h3, fun dx hd hne => go dx hd hne⟩⟩
theorem ok_made (F : FunAt K mg "_law_made" s_law_made) (T : Txt mg) (G : Err K mg fI fdI D) (Dinit : FnOk P w K mg base CX0 2 fI fdI ["self", "value"] (spInit K)) : Def P w K mg base 4 "_law_made" P_law_made (spMade D) := by
  refine def_of F sc_law_made bs_law_made (fun vs H Q E h => ?_) fun f cdv A outer s H vs Q E hr h => ?_
  · obtain ⟨v, rfl, _⟩ := h
    rfl
  · refine ⟨_, (pss_cons (ps_set (i := 1) sc_law_made.nd rfl (Or.inl rfl) (pe_lstN (pa_cons (pe_err (G.e 1 (by decide)) G.tI Dinit (hr.mono (by omega)) G.bI (by rfl) G.g_BadDevices (pa_cons (pv 0) pa_nil)) (pa_cons (pe_err (G.e 2 (by decide)) G.tI Dinit (hr.mono (by omega)) G.bI (by rfl) G.g_BadBundles (pa_cons (pv 0) pa_nil)) (pa_cons (pe_err (G.e 3 (by decide)) G.tI Dinit (hr.mono (by omega)) G.bI (by rfl) G.g_BadLot (pa_cons (pv 0) pa_nil)) (pa_cons (pe_err (G.e 4 (by decide)) G.tI Dinit (hr.mono (by omega)) G.bI (by rfl) G.g_OtherDevices (pa_cons (pv 0) pa_nil)) (pa_cons (pe_err (G.e 5 (by decide)) G.tI Dinit (hr.mono (by omega)) G.bI (by rfl) G.g_BadDevice (pa_cons (pv 0) pa_nil)) pa_nil)))))))
  (pss_cons (ps_set (i := 1) sc_law_made.nd rfl (Or.inl rfl) (pe_op op_cat (pv 1) (pe_lstN (pa_cons (pe_err (G.e 6 (by decide)) G.tI Dinit (hr.mono (by omega)) G.bI (by rfl) G.g_BadRests (pa_cons (pv 0) pa_nil)) (pa_cons (pe_err (G.e 7 (by decide)) G.tI Dinit (hr.mono (by omega)) G.bI (by rfl) G.g_BadBook (pa_cons (pv 0) pa_nil)) (pa_cons (pe_err (G.e 8 (by decide)) G.tI Dinit (hr.mono (by omega)) G.bI (by rfl) G.g_BadFact (pa_cons (pv 0) pa_nil)) (pa_cons (pe_err (G.e 9 (by decide)) G.tI Dinit (hr.mono (by omega)) G.bI (by rfl) G.g_Full (pa_cons (pv 0) pa_nil)) (pa_cons (pe_err (G.e 10 (by decide)) G.tI Dinit (hr.mono (by omega)) G.bI (by rfl) G.g_NoFact (pa_cons (pv 0) pa_nil)) pa_nil))))))))
  (pss_cons (ps_set (i := 1) sc_law_made.nd rfl (Or.inl rfl) (pe_op op_cat (pv 1) (pe_lstN (pa_cons (pe_err (G.e 11 (by decide)) G.tI Dinit (hr.mono (by omega)) G.bI (by rfl) G.g_NoRules (pa_cons (pv 0) pa_nil)) (pa_cons (pe_err (G.e 12 (by decide)) G.tI Dinit (hr.mono (by omega)) G.bI (by rfl) G.g_BadClaims (pa_cons (pv 0) pa_nil)) (pa_cons (pe_err (G.e 13 (by decide)) G.tI Dinit (hr.mono (by omega)) G.bI (by rfl) G.g_BadPrices (pa_cons (pv 0) pa_nil)) (pa_cons (pe_err (G.e 14 (by decide)) G.tI Dinit (hr.mono (by omega)) G.bI (by rfl) G.g_TooMany (pa_cons (pv 0) pa_nil)) (pa_cons (pe_err (G.e 15 (by decide)) G.tI Dinit (hr.mono (by omega)) G.bI (by rfl) G.g_BadOffers (pa_cons (pv 0) pa_nil)) pa_nil))))))))
  (pss_cons (ps_set (i := 1) sc_law_made.nd rfl (Or.inl rfl) (pe_op op_cat (pv 1) (pe_lstN (pa_cons (pe_err (G.e 16 (by decide)) G.tI Dinit (hr.mono (by omega)) G.bI (by rfl) G.g_BadClaim (pa_cons (pv 0) pa_nil)) (pa_cons (pe_err (G.e 17 (by decide)) G.tI Dinit (hr.mono (by omega)) G.bI (by rfl) G.g_Contrary (pa_cons (pv 0) pa_nil)) (pa_cons (pe_err (G.e 18 (by decide)) G.tI Dinit (hr.mono (by omega)) G.bI (by rfl) G.g_IsOn (pa_cons (pv 0) pa_nil)) (pa_cons (pe_err (G.e 19 (by decide)) G.tI Dinit (hr.mono (by omega)) G.bI (by rfl) G.g_NothingToUndo (pa_cons (pv 0) pa_nil)) (pa_cons (pe_err (G.e 20 (by decide)) G.tI Dinit (hr.mono (by omega)) G.bI (by rfl) G.g_NothingToRedo (pa_cons (pv 0) pa_nil)) pa_nil))))))))
  (pss_cons (ps_set (i := 1) sc_law_made.nd rfl (Or.inl rfl) (pe_op op_cat (pv 1) (pe_lstN (pa_cons (pe_err (G.e 21 (by decide)) G.tI Dinit (hr.mono (by omega)) G.bI (by rfl) G.g_NoTrial (pa_cons (pv 0) pa_nil)) (pa_cons (pe_err (G.e 22 (by decide)) G.tI Dinit (hr.mono (by omega)) G.bI (by rfl) G.g_BadJournal (pa_cons (pv 0) pa_nil)) (pa_cons (pe_err (G.e 23 (by decide)) G.tI Dinit (hr.mono (by omega)) G.bI (by rfl) G.g_BadLine (pa_cons (pv 0) pa_nil)) pa_nil))))))
  (pss_one (ps_ret (pv 1)))))))), ?_⟩
    obtain ⟨v, rfl, go⟩ := h
    walk_at "v"
    refine' el_lst (Ds := [D 1, D 2, D 3, D 4, D 5]) (v := v) (H := H) ?x0 (by show 5 ≤ 1000; decide) (Same.refl H) (fun p0 H0 es0 s0 f0 e0 d0 l0 => ?_)
    (case x0 => repeat' (first | exact ea_nil | refine' ea_cons (G.e _ (by decide)) rfl ?_))
    walk_at "v"
    refine' el_lst (Ds := [D 6, D 7, D 8, D 9, D 10]) (v := v) (H := H) ?x1 (by show 5 ≤ 1000; decide) s0 (fun p1 H1 es1 t1 f1 e1 d1 l1 => ?_)
    (case x1 => repeat' (first | exact ea_nil | refine' ea_cons (G.e _ (by decide)) rfl ?_))
    refine w_cat (t1 _ _ e0) e1 (by rw [List.length_map, List.length_map, l0, l1]; exact Nat.le_of_ble_eq_true (by kernel_rfl)) fun q1 hq1 => ?_
    rw [← List.map_append]
    have u1 : Same H (upd H1 q1 (.lst ((es0 ++ es1).map V.ref))) := same_upd (s0.trans t1) hq1
    have dd1 := Wk.Paired.app (ErrsAt.same d0 t1) d1
    have l101 := Paired.length dd1
    have e101 : (upd H1 q1 (.lst ((es0 ++ es1).map V.ref))) q1 = some (.lst ((es0 ++ es1).map V.ref)) := upd_same
    have s101 := u1
    have dq1 := ErrsAt.same dd1 (same_upd (Same.refl H1) hq1 (o := .lst ((es0 ++ es1).map V.ref)))
    generalize hfs1 : es0 ++ es1 = fs1 at *
    walk_at "v"
    refine' el_lst (Ds := [D 11, D 12, D 13, D 14, D 15]) (v := v) (H := H) ?x2 (by show 5 ≤ 1000; decide) s101 (fun p2 H2 es2 t2 f2 e2 d2 l2 => ?_)
    (case x2 => repeat' (first | exact ea_nil | refine' ea_cons (G.e _ (by decide)) rfl ?_))
    refine w_cat (t2 _ _ e101) e2 (by rw [List.length_map, List.length_map, l101, l2]; exact Nat.le_of_ble_eq_true (by kernel_rfl)) fun q2 hq2 => ?_
    rw [← List.map_append]
    have u2 : Same H (upd H2 q2 (.lst ((fs1 ++ es2).map V.ref))) := same_upd (s101.trans t2) hq2
    have dd2 := Wk.Paired.app (ErrsAt.same dq1 t2) d2
    have l102 := Paired.length dd2
    have e102 : (upd H2 q2 (.lst ((fs1 ++ es2).map V.ref))) q2 = some (.lst ((fs1 ++ es2).map V.ref)) := upd_same
    have s102 := u2
    have dq2 := ErrsAt.same dd2 (same_upd (Same.refl H2) hq2 (o := .lst ((fs1 ++ es2).map V.ref)))
    generalize hfs2 : fs1 ++ es2 = fs2 at *
    walk_at "v"
    refine' el_lst (Ds := [D 16, D 17, D 18, D 19, D 20]) (v := v) (H := H) ?x3 (by show 5 ≤ 1000; decide) s102 (fun p3 H3 es3 t3 f3 e3 d3 l3 => ?_)
    (case x3 => repeat' (first | exact ea_nil | refine' ea_cons (G.e _ (by decide)) rfl ?_))
    refine w_cat (t3 _ _ e102) e3 (by rw [List.length_map, List.length_map, l102, l3]; exact Nat.le_of_ble_eq_true (by kernel_rfl)) fun q3 hq3 => ?_
    rw [← List.map_append]
    have u3 : Same H (upd H3 q3 (.lst ((fs2 ++ es3).map V.ref))) := same_upd (s102.trans t3) hq3
    have dd3 := Wk.Paired.app (ErrsAt.same dq2 t3) d3
    have l103 := Paired.length dd3
    have e103 : (upd H3 q3 (.lst ((fs2 ++ es3).map V.ref))) q3 = some (.lst ((fs2 ++ es3).map V.ref)) := upd_same
    have s103 := u3
    have dq3 := ErrsAt.same dd3 (same_upd (Same.refl H3) hq3 (o := .lst ((fs2 ++ es3).map V.ref)))
    generalize hfs3 : fs2 ++ es3 = fs3 at *
    walk_at "v"
    refine' el_lst (Ds := [D 21, D 22, D 23]) (v := v) (H := H) ?x4 (by show 3 ≤ 1000; decide) s103 (fun p4 H4 es4 t4 f4 e4 d4 l4 => ?_)
    (case x4 => repeat' (first | exact ea_nil | refine' ea_cons (G.e _ (by decide)) rfl ?_))
    refine w_cat (t4 _ _ e103) e4 (by rw [List.length_map, List.length_map, l103, l4]; exact Nat.le_of_ble_eq_true (by kernel_rfl)) fun q4 hq4 => ?_
    rw [← List.map_append]
    have u4 : Same H (upd H4 q4 (.lst ((fs3 ++ es4).map V.ref))) := same_upd (s103.trans t4) hq4
    have dd4 := Wk.Paired.app (ErrsAt.same dq3 t4) d4
    have l104 := Paired.length dd4
    have e104 : (upd H4 q4 (.lst ((fs3 ++ es4).map V.ref))) q4 = some (.lst ((fs3 ++ es4).map V.ref)) := upd_same
    have s104 := u4
    have dq4 := ErrsAt.same dd4 (same_upd (Same.refl H4) hq4 (o := .lst ((fs3 ++ es4).map V.ref)))
    generalize hfs4 : fs3 ++ es4 = fs4 at *
    walk_at "v"
    exact go _ q4 fs4 s104 ((s103.trans t4).free hq4) e104 dq4
theorem ok_marks (F : FunAt K mg "_law_marks" s_law_marks) (T : Txt mg) (G : Err K mg fI fdI D) : Def P w K mg base 1 "_law_marks" P_law_marks (spMarks D) := by
  refine def_of F sc_law_marks bs_law_marks (fun vs H Q E h => ?_) fun f cdv A outer s H vs Q E hr h => ?_
  · obtain ⟨a, i, v, rfl, _⟩ := h
    rfl
  · refine ⟨_, (pss_cons (ps_set (i := 1) sc_law_marks.nd rfl (Or.inl rfl) (pe_lstN (pa_cons (pe_callB call_isErr (by rfl) T.n_isinstance (by decide +kernel) (pa_cons (pv 0) (pa_cons (pe_glob (v := .ref (D 1)) (by rfl) G.g_BadDevices rfl) pa_nil))) (pa_cons (pe_callB call_isErr (by rfl) T.n_isinstance (by decide +kernel) (pa_cons (pv 0) (pa_cons (pe_glob (v := .ref (D 2)) (by rfl) G.g_BadBundles rfl) pa_nil))) (pa_cons (pe_callB call_isErr (by rfl) T.n_isinstance (by decide +kernel) (pa_cons (pv 0) (pa_cons (pe_glob (v := .ref (D 3)) (by rfl) G.g_BadLot rfl) pa_nil))) pa_nil)))))
  (pss_cons (ps_set (i := 1) sc_law_marks.nd rfl (Or.inl rfl) (pe_op op_cat (pv 1) (pe_lstN (pa_cons (pe_callB call_isErr (by rfl) T.n_isinstance (by decide +kernel) (pa_cons (pv 0) (pa_cons (pe_glob (v := .ref (D 4)) (by rfl) G.g_OtherDevices rfl) pa_nil))) (pa_cons (pe_callB call_isErr (by rfl) T.n_isinstance (by decide +kernel) (pa_cons (pv 0) (pa_cons (pe_glob (v := .ref (D 5)) (by rfl) G.g_BadDevice rfl) pa_nil))) (pa_cons (pe_callB call_isErr (by rfl) T.n_isinstance (by decide +kernel) (pa_cons (pv 0) (pa_cons (pe_glob (v := .ref (D 6)) (by rfl) G.g_BadRests rfl) pa_nil))) pa_nil))))))
  (pss_cons (ps_set (i := 1) sc_law_marks.nd rfl (Or.inl rfl) (pe_op op_cat (pv 1) (pe_lstN (pa_cons (pe_callB call_isErr (by rfl) T.n_isinstance (by decide +kernel) (pa_cons (pv 0) (pa_cons (pe_glob (v := .ref (D 7)) (by rfl) G.g_BadBook rfl) pa_nil))) (pa_cons (pe_callB call_isErr (by rfl) T.n_isinstance (by decide +kernel) (pa_cons (pv 0) (pa_cons (pe_glob (v := .ref (D 8)) (by rfl) G.g_BadFact rfl) pa_nil))) (pa_cons (pe_callB call_isErr (by rfl) T.n_isinstance (by decide +kernel) (pa_cons (pv 0) (pa_cons (pe_glob (v := .ref (D 9)) (by rfl) G.g_Full rfl) pa_nil))) pa_nil))))))
  (pss_cons (ps_set (i := 1) sc_law_marks.nd rfl (Or.inl rfl) (pe_op op_cat (pv 1) (pe_lstN (pa_cons (pe_callB call_isErr (by rfl) T.n_isinstance (by decide +kernel) (pa_cons (pv 0) (pa_cons (pe_glob (v := .ref (D 10)) (by rfl) G.g_NoFact rfl) pa_nil))) (pa_cons (pe_callB call_isErr (by rfl) T.n_isinstance (by decide +kernel) (pa_cons (pv 0) (pa_cons (pe_glob (v := .ref (D 11)) (by rfl) G.g_NoRules rfl) pa_nil))) (pa_cons (pe_callB call_isErr (by rfl) T.n_isinstance (by decide +kernel) (pa_cons (pv 0) (pa_cons (pe_glob (v := .ref (D 12)) (by rfl) G.g_BadClaims rfl) pa_nil))) pa_nil))))))
  (pss_cons (ps_set (i := 1) sc_law_marks.nd rfl (Or.inl rfl) (pe_op op_cat (pv 1) (pe_lstN (pa_cons (pe_callB call_isErr (by rfl) T.n_isinstance (by decide +kernel) (pa_cons (pv 0) (pa_cons (pe_glob (v := .ref (D 13)) (by rfl) G.g_BadPrices rfl) pa_nil))) (pa_cons (pe_callB call_isErr (by rfl) T.n_isinstance (by decide +kernel) (pa_cons (pv 0) (pa_cons (pe_glob (v := .ref (D 14)) (by rfl) G.g_TooMany rfl) pa_nil))) (pa_cons (pe_callB call_isErr (by rfl) T.n_isinstance (by decide +kernel) (pa_cons (pv 0) (pa_cons (pe_glob (v := .ref (D 15)) (by rfl) G.g_BadOffers rfl) pa_nil))) pa_nil))))))
  (pss_cons (ps_set (i := 1) sc_law_marks.nd rfl (Or.inl rfl) (pe_op op_cat (pv 1) (pe_lstN (pa_cons (pe_callB call_isErr (by rfl) T.n_isinstance (by decide +kernel) (pa_cons (pv 0) (pa_cons (pe_glob (v := .ref (D 16)) (by rfl) G.g_BadClaim rfl) pa_nil))) (pa_cons (pe_callB call_isErr (by rfl) T.n_isinstance (by decide +kernel) (pa_cons (pv 0) (pa_cons (pe_glob (v := .ref (D 17)) (by rfl) G.g_Contrary rfl) pa_nil))) (pa_cons (pe_callB call_isErr (by rfl) T.n_isinstance (by decide +kernel) (pa_cons (pv 0) (pa_cons (pe_glob (v := .ref (D 18)) (by rfl) G.g_IsOn rfl) pa_nil))) pa_nil))))))
  (pss_cons (ps_set (i := 1) sc_law_marks.nd rfl (Or.inl rfl) (pe_op op_cat (pv 1) (pe_lstN (pa_cons (pe_callB call_isErr (by rfl) T.n_isinstance (by decide +kernel) (pa_cons (pv 0) (pa_cons (pe_glob (v := .ref (D 19)) (by rfl) G.g_NothingToUndo rfl) pa_nil))) (pa_cons (pe_callB call_isErr (by rfl) T.n_isinstance (by decide +kernel) (pa_cons (pv 0) (pa_cons (pe_glob (v := .ref (D 20)) (by rfl) G.g_NothingToRedo rfl) pa_nil))) pa_nil)))))
  (pss_cons (ps_set (i := 1) sc_law_marks.nd rfl (Or.inl rfl) (pe_op op_cat (pv 1) (pe_lstN (pa_cons (pe_callB call_isErr (by rfl) T.n_isinstance (by decide +kernel) (pa_cons (pv 0) (pa_cons (pe_glob (v := .ref (D 21)) (by rfl) G.g_NoTrial rfl) pa_nil))) (pa_cons (pe_callB call_isErr (by rfl) T.n_isinstance (by decide +kernel) (pa_cons (pv 0) (pa_cons (pe_glob (v := .ref (D 22)) (by rfl) G.g_BadJournal rfl) pa_nil))) (pa_cons (pe_callB call_isErr (by rfl) T.n_isinstance (by decide +kernel) (pa_cons (pv 0) (pa_cons (pe_glob (v := .ref (D 23)) (by rfl) G.g_BadLine rfl) pa_nil))) pa_nil))))))
  (pss_one (ps_ret (pv 1))))))))))), ?_⟩
    obtain ⟨a, i, v, rfl, hi, he, go⟩ := h
    walk_at "v"
    refine' bl_lst (K := K) (q := a) (bs := [decide (i = 0 + 1), decide (i = 1 + 1), decide (i = 2 + 1)]) (H := H) ?x0 (by show 3 ≤ 1000; decide) (Same.refl H) (fun p0 H0 s0 f0 e0 => ?_)
    (case x0 => repeat' (first | exact dva_nil | refine' dva_cons (dv_isErr (G.e _ hi) rfl he (G.kit _ _ hi (by decide))) ?_))
    walk_at "v"
    refine' bl_lst (K := K) (q := a) (bs := [decide (i = 3 + 1), decide (i = 4 + 1), decide (i = 5 + 1)]) (H := H) ?x1 (by show 3 ≤ 1000; decide) s0 (fun p1 H1 t1 f1 g1 => ?_)
    (case x1 => repeat' (first | exact dva_nil | refine' dva_cons (dv_isErr (G.e _ hi) rfl he (G.kit _ _ hi (by decide))) ?_))
    refine w_cat (t1 _ _ e0) g1 (by rw [List.length_map, List.length_map]; exact Nat.le_of_ble_eq_true (by kernel_rfl)) fun q1 hq1 => ?_
    rw [← List.map_append]
    have s1 : Same H (upd H1 q1 (.lst ([decide (i = 0 + 1), decide (i = 1 + 1), decide (i = 2 + 1), decide (i = 3 + 1), decide (i = 4 + 1), decide (i = 5 + 1)].map V.bl))) := same_upd (s0.trans t1) hq1
    have e1 : (upd H1 q1 (.lst ([decide (i = 0 + 1), decide (i = 1 + 1), decide (i = 2 + 1), decide (i = 3 + 1), decide (i = 4 + 1), decide (i = 5 + 1)].map V.bl))) q1 = some (.lst ([decide (i = 0 + 1), decide (i = 1 + 1), decide (i = 2 + 1), decide (i = 3 + 1), decide (i = 4 + 1), decide (i = 5 + 1)].map V.bl)) := upd_same
    walk_at "v"
    refine' bl_lst (K := K) (q := a) (bs := [decide (i = 6 + 1), decide (i = 7 + 1), decide (i = 8 + 1)]) (H := H) ?x2 (by show 3 ≤ 1000; decide) s1 (fun p2 H2 t2 f2 g2 => ?_)
    (case x2 => repeat' (first | exact dva_nil | refine' dva_cons (dv_isErr (G.e _ hi) rfl he (G.kit _ _ hi (by decide))) ?_))
    refine w_cat (t2 _ _ e1) g2 (by rw [List.length_map, List.length_map]; exact Nat.le_of_ble_eq_true (by kernel_rfl)) fun q2 hq2 => ?_
    rw [← List.map_append]
    have s2 : Same H (upd H2 q2 (.lst ([decide (i = 0 + 1), decide (i = 1 + 1), decide (i = 2 + 1), decide (i = 3 + 1), decide (i = 4 + 1), decide (i = 5 + 1), decide (i = 6 + 1), decide (i = 7 + 1), decide (i = 8 + 1)].map V.bl))) := same_upd (s1.trans t2) hq2
    have e2 : (upd H2 q2 (.lst ([decide (i = 0 + 1), decide (i = 1 + 1), decide (i = 2 + 1), decide (i = 3 + 1), decide (i = 4 + 1), decide (i = 5 + 1), decide (i = 6 + 1), decide (i = 7 + 1), decide (i = 8 + 1)].map V.bl))) q2 = some (.lst ([decide (i = 0 + 1), decide (i = 1 + 1), decide (i = 2 + 1), decide (i = 3 + 1), decide (i = 4 + 1), decide (i = 5 + 1), decide (i = 6 + 1), decide (i = 7 + 1), decide (i = 8 + 1)].map V.bl)) := upd_same
    walk_at "v"
    refine' bl_lst (K := K) (q := a) (bs := [decide (i = 9 + 1), decide (i = 10 + 1), decide (i = 11 + 1)]) (H := H) ?x3 (by show 3 ≤ 1000; decide) s2 (fun p3 H3 t3 f3 g3 => ?_)
    (case x3 => repeat' (first | exact dva_nil | refine' dva_cons (dv_isErr (G.e _ hi) rfl he (G.kit _ _ hi (by decide))) ?_))
    refine w_cat (t3 _ _ e2) g3 (by rw [List.length_map, List.length_map]; exact Nat.le_of_ble_eq_true (by kernel_rfl)) fun q3 hq3 => ?_
    rw [← List.map_append]
    have s3 : Same H (upd H3 q3 (.lst ([decide (i = 0 + 1), decide (i = 1 + 1), decide (i = 2 + 1), decide (i = 3 + 1), decide (i = 4 + 1), decide (i = 5 + 1), decide (i = 6 + 1), decide (i = 7 + 1), decide (i = 8 + 1), decide (i = 9 + 1), decide (i = 10 + 1), decide (i = 11 + 1)].map V.bl))) := same_upd (s2.trans t3) hq3
    have e3 : (upd H3 q3 (.lst ([decide (i = 0 + 1), decide (i = 1 + 1), decide (i = 2 + 1), decide (i = 3 + 1), decide (i = 4 + 1), decide (i = 5 + 1), decide (i = 6 + 1), decide (i = 7 + 1), decide (i = 8 + 1), decide (i = 9 + 1), decide (i = 10 + 1), decide (i = 11 + 1)].map V.bl))) q3 = some (.lst ([decide (i = 0 + 1), decide (i = 1 + 1), decide (i = 2 + 1), decide (i = 3 + 1), decide (i = 4 + 1), decide (i = 5 + 1), decide (i = 6 + 1), decide (i = 7 + 1), decide (i = 8 + 1), decide (i = 9 + 1), decide (i = 10 + 1), decide (i = 11 + 1)].map V.bl)) := upd_same
    walk_at "v"
    refine' bl_lst (K := K) (q := a) (bs := [decide (i = 12 + 1), decide (i = 13 + 1), decide (i = 14 + 1)]) (H := H) ?x4 (by show 3 ≤ 1000; decide) s3 (fun p4 H4 t4 f4 g4 => ?_)
    (case x4 => repeat' (first | exact dva_nil | refine' dva_cons (dv_isErr (G.e _ hi) rfl he (G.kit _ _ hi (by decide))) ?_))
    refine w_cat (t4 _ _ e3) g4 (by rw [List.length_map, List.length_map]; exact Nat.le_of_ble_eq_true (by kernel_rfl)) fun q4 hq4 => ?_
    rw [← List.map_append]
    have s4 : Same H (upd H4 q4 (.lst ([decide (i = 0 + 1), decide (i = 1 + 1), decide (i = 2 + 1), decide (i = 3 + 1), decide (i = 4 + 1), decide (i = 5 + 1), decide (i = 6 + 1), decide (i = 7 + 1), decide (i = 8 + 1), decide (i = 9 + 1), decide (i = 10 + 1), decide (i = 11 + 1), decide (i = 12 + 1), decide (i = 13 + 1), decide (i = 14 + 1)].map V.bl))) := same_upd (s3.trans t4) hq4
    have e4 : (upd H4 q4 (.lst ([decide (i = 0 + 1), decide (i = 1 + 1), decide (i = 2 + 1), decide (i = 3 + 1), decide (i = 4 + 1), decide (i = 5 + 1), decide (i = 6 + 1), decide (i = 7 + 1), decide (i = 8 + 1), decide (i = 9 + 1), decide (i = 10 + 1), decide (i = 11 + 1), decide (i = 12 + 1), decide (i = 13 + 1), decide (i = 14 + 1)].map V.bl))) q4 = some (.lst ([decide (i = 0 + 1), decide (i = 1 + 1), decide (i = 2 + 1), decide (i = 3 + 1), decide (i = 4 + 1), decide (i = 5 + 1), decide (i = 6 + 1), decide (i = 7 + 1), decide (i = 8 + 1), decide (i = 9 + 1), decide (i = 10 + 1), decide (i = 11 + 1), decide (i = 12 + 1), decide (i = 13 + 1), decide (i = 14 + 1)].map V.bl)) := upd_same
    walk_at "v"
    refine' bl_lst (K := K) (q := a) (bs := [decide (i = 15 + 1), decide (i = 16 + 1), decide (i = 17 + 1)]) (H := H) ?x5 (by show 3 ≤ 1000; decide) s4 (fun p5 H5 t5 f5 g5 => ?_)
    (case x5 => repeat' (first | exact dva_nil | refine' dva_cons (dv_isErr (G.e _ hi) rfl he (G.kit _ _ hi (by decide))) ?_))
    refine w_cat (t5 _ _ e4) g5 (by rw [List.length_map, List.length_map]; exact Nat.le_of_ble_eq_true (by kernel_rfl)) fun q5 hq5 => ?_
    rw [← List.map_append]
    have s5 : Same H (upd H5 q5 (.lst ([decide (i = 0 + 1), decide (i = 1 + 1), decide (i = 2 + 1), decide (i = 3 + 1), decide (i = 4 + 1), decide (i = 5 + 1), decide (i = 6 + 1), decide (i = 7 + 1), decide (i = 8 + 1), decide (i = 9 + 1), decide (i = 10 + 1), decide (i = 11 + 1), decide (i = 12 + 1), decide (i = 13 + 1), decide (i = 14 + 1), decide (i = 15 + 1), decide (i = 16 + 1), decide (i = 17 + 1)].map V.bl))) := same_upd (s4.trans t5) hq5
    have e5 : (upd H5 q5 (.lst ([decide (i = 0 + 1), decide (i = 1 + 1), decide (i = 2 + 1), decide (i = 3 + 1), decide (i = 4 + 1), decide (i = 5 + 1), decide (i = 6 + 1), decide (i = 7 + 1), decide (i = 8 + 1), decide (i = 9 + 1), decide (i = 10 + 1), decide (i = 11 + 1), decide (i = 12 + 1), decide (i = 13 + 1), decide (i = 14 + 1), decide (i = 15 + 1), decide (i = 16 + 1), decide (i = 17 + 1)].map V.bl))) q5 = some (.lst ([decide (i = 0 + 1), decide (i = 1 + 1), decide (i = 2 + 1), decide (i = 3 + 1), decide (i = 4 + 1), decide (i = 5 + 1), decide (i = 6 + 1), decide (i = 7 + 1), decide (i = 8 + 1), decide (i = 9 + 1), decide (i = 10 + 1), decide (i = 11 + 1), decide (i = 12 + 1), decide (i = 13 + 1), decide (i = 14 + 1), decide (i = 15 + 1), decide (i = 16 + 1), decide (i = 17 + 1)].map V.bl)) := upd_same
    walk_at "v"
    refine' bl_lst (K := K) (q := a) (bs := [decide (i = 18 + 1), decide (i = 19 + 1)]) (H := H) ?x6 (by show 2 ≤ 1000; decide) s5 (fun p6 H6 t6 f6 g6 => ?_)
    (case x6 => repeat' (first | exact dva_nil | refine' dva_cons (dv_isErr (G.e _ hi) rfl he (G.kit _ _ hi (by decide))) ?_))
    refine w_cat (t6 _ _ e5) g6 (by rw [List.length_map, List.length_map]; exact Nat.le_of_ble_eq_true (by kernel_rfl)) fun q6 hq6 => ?_
    rw [← List.map_append]
    have s6 : Same H (upd H6 q6 (.lst ([decide (i = 0 + 1), decide (i = 1 + 1), decide (i = 2 + 1), decide (i = 3 + 1), decide (i = 4 + 1), decide (i = 5 + 1), decide (i = 6 + 1), decide (i = 7 + 1), decide (i = 8 + 1), decide (i = 9 + 1), decide (i = 10 + 1), decide (i = 11 + 1), decide (i = 12 + 1), decide (i = 13 + 1), decide (i = 14 + 1), decide (i = 15 + 1), decide (i = 16 + 1), decide (i = 17 + 1), decide (i = 18 + 1), decide (i = 19 + 1)].map V.bl))) := same_upd (s5.trans t6) hq6
    have e6 : (upd H6 q6 (.lst ([decide (i = 0 + 1), decide (i = 1 + 1), decide (i = 2 + 1), decide (i = 3 + 1), decide (i = 4 + 1), decide (i = 5 + 1), decide (i = 6 + 1), decide (i = 7 + 1), decide (i = 8 + 1), decide (i = 9 + 1), decide (i = 10 + 1), decide (i = 11 + 1), decide (i = 12 + 1), decide (i = 13 + 1), decide (i = 14 + 1), decide (i = 15 + 1), decide (i = 16 + 1), decide (i = 17 + 1), decide (i = 18 + 1), decide (i = 19 + 1)].map V.bl))) q6 = some (.lst ([decide (i = 0 + 1), decide (i = 1 + 1), decide (i = 2 + 1), decide (i = 3 + 1), decide (i = 4 + 1), decide (i = 5 + 1), decide (i = 6 + 1), decide (i = 7 + 1), decide (i = 8 + 1), decide (i = 9 + 1), decide (i = 10 + 1), decide (i = 11 + 1), decide (i = 12 + 1), decide (i = 13 + 1), decide (i = 14 + 1), decide (i = 15 + 1), decide (i = 16 + 1), decide (i = 17 + 1), decide (i = 18 + 1), decide (i = 19 + 1)].map V.bl)) := upd_same
    walk_at "v"
    refine' bl_lst (K := K) (q := a) (bs := [decide (i = 20 + 1), decide (i = 21 + 1), decide (i = 22 + 1)]) (H := H) ?x7 (by show 3 ≤ 1000; decide) s6 (fun p7 H7 t7 f7 g7 => ?_)
    (case x7 => repeat' (first | exact dva_nil | refine' dva_cons (dv_isErr (G.e _ hi) rfl he (G.kit _ _ hi (by decide))) ?_))
    refine w_cat (t7 _ _ e6) g7 (by rw [List.length_map, List.length_map]; exact Nat.le_of_ble_eq_true (by kernel_rfl)) fun q7 hq7 => ?_
    rw [← List.map_append]
    have s7 : Same H (upd H7 q7 (.lst ([decide (i = 0 + 1), decide (i = 1 + 1), decide (i = 2 + 1), decide (i = 3 + 1), decide (i = 4 + 1), decide (i = 5 + 1), decide (i = 6 + 1), decide (i = 7 + 1), decide (i = 8 + 1), decide (i = 9 + 1), decide (i = 10 + 1), decide (i = 11 + 1), decide (i = 12 + 1), decide (i = 13 + 1), decide (i = 14 + 1), decide (i = 15 + 1), decide (i = 16 + 1), decide (i = 17 + 1), decide (i = 18 + 1), decide (i = 19 + 1), decide (i = 20 + 1), decide (i = 21 + 1), decide (i = 22 + 1)].map V.bl))) := same_upd (s6.trans t7) hq7
    have e7 : (upd H7 q7 (.lst ([decide (i = 0 + 1), decide (i = 1 + 1), decide (i = 2 + 1), decide (i = 3 + 1), decide (i = 4 + 1), decide (i = 5 + 1), decide (i = 6 + 1), decide (i = 7 + 1), decide (i = 8 + 1), decide (i = 9 + 1), decide (i = 10 + 1), decide (i = 11 + 1), decide (i = 12 + 1), decide (i = 13 + 1), decide (i = 14 + 1), decide (i = 15 + 1), decide (i = 16 + 1), decide (i = 17 + 1), decide (i = 18 + 1), decide (i = 19 + 1), decide (i = 20 + 1), decide (i = 21 + 1), decide (i = 22 + 1)].map V.bl))) q7 = some (.lst ([decide (i = 0 + 1), decide (i = 1 + 1), decide (i = 2 + 1), decide (i = 3 + 1), decide (i = 4 + 1), decide (i = 5 + 1), decide (i = 6 + 1), decide (i = 7 + 1), decide (i = 8 + 1), decide (i = 9 + 1), decide (i = 10 + 1), decide (i = 11 + 1), decide (i = 12 + 1), decide (i = 13 + 1), decide (i = 14 + 1), decide (i = 15 + 1), decide (i = 16 + 1), decide (i = 17 + 1), decide (i = 18 + 1), decide (i = 19 + 1), decide (i = 20 + 1), decide (i = 21 + 1), decide (i = 22 + 1)].map V.bl)) := upd_same
    walk_at "v"
    exact go _ q7 s7 ((s6.trans t7).free hq7) e7
end

section
variable {K : PySem.W.Frag} {σ : L2.St} {H : Hp}
theorem w_lcN {z : Int} {n i : Nat} {te : TE} {f : Nat → V} {Q : VK} (hz : z.toNat = n) (h1 : -(2 ^ 62) ≤ z) (h2 : z < 2 ^ 62) (he : ∀ (k : Nat) (H1 : Hp) (R : VK), k < n → R (f k) H1 → te ((wipe σ [i]).set i (some (.int (0 + (k : Nat))))) H1 R) (hn : n ≤ 1000)
    (hw : ∀ k : Nat, wipe ((wipe σ [i]).set i (some (.int (0 + (k : Nat))))) [i] = wipe σ [i]) (k : ∀ D, H D = none → Q (.ref D) (upd H D (.lst ((List.range n).map f)))) : tLc (iRng1 (tCons (tC (.int z)) tNil)) (gName i) tYes te [i] σ H Q := by
  subst hz
  exact ⟨z, rfl, h1, h2, w_lcR he hn hw k⟩
end
theorem bools_lay : ∀ bs : List Bool, PyData.canLayAll0 (bs.map PyData.bool) = true
  | [] => by simp [PyData.canLayAll0]
  | b :: bs => by simp [PyData.canLayAll0, PyData.canLay0, bools_lay bs]
theorem bools_depth : ∀ bs : List Bool, PyData.depthAll (bs.map PyData.bool) = 0
  | [] => by simp [PyData.depthAll]
  | b :: bs => by simp [PyData.depthAll, PyData.depth, bools_depth bs]
theorem bools_shaped (bs : List Bool) : SeqAt.shaped (.list (bs.map PyData.bool)) = true := by
  show (PyData.canLay0 (.list (bs.map PyData.bool)) && decide (PyData.depth (.list (bs.map PyData.bool)) ≤ 64)) = true
  rw [Bool.and_eq_true]
  refine ⟨by simp only [PyData.canLay0]; exact bools_lay bs, decide_eq_true ?_⟩
  simp only [PyData.depth, bools_depth]
  decide
theorem w_neBools {K : PySem.W.Frag} {H : Hp} {a b : Addr} {bs : List Bool} {Q : VK} (ha : SqL K H a (bs.map V.bl)) (hb : SqL K H b (bs.map V.bl)) (k : Q (.bl false) H) : rNeD K (.ref a) (.ref b) H Q := by
  have h := bools_shaped bs
  refine ⟨_, _, .lst ha (dp_bools bs), .lst hb (dp_bools bs), h, h, ?_⟩
  rw [PySem.SeqAt.eqv_refl _ (SeqAt.canLay_of_shaped h)]
  exact k
def spRight : Sp := fun vs H Q _ => ∃ (q : Addr) (n : Nat), vs = [.ref q] ∧ PotAt H q n ∧ n ≤ 500000 ∧ ∀ (H' : Hp), HS q H H' → PotAt H' q (n + 100) → Q (.bl true) H'
section
variable {P : Program} {w : World} {K : PySem.W.Frag} {mg : Str → Option Value} {base : Heap}
variable {fI : Addr} {fdI : FuncData} {D : Nat → Addr}
theorem bent_all (F : FunAt K mg "_law_bent" s_law_bent) (T : Txt mg) (D_law_take : Def P w K mg base 1 "_law_take" P_law_take spTake) (D_law_of : Def P w K mg base 2 "_law_of" P_law_of (spOf K))
    (D_law_odd : Def P w K mg base 3 "_law_odd" P_law_odd (spOdd K)) : ∀ k, Def P w K mg base (3 + k) "_law_bent" P_law_bent (spBent K k)
  | 0 => def_of F sc_law_bent bs_law_bent (fun _ _ _ _ h => h.elim) fun _ _ _ _ _ _ _ _ _ _ h => h.elim
  | k + 1 => bent_step F T D_law_take D_law_of D_law_odd k (bent_all F T D_law_take D_law_of D_law_odd k)
theorem ok_right (F : FunAt K mg "_law_right" s_law_right) (T : Txt mg) (G : Err K mg fI fdI D) (Dinit : FnOk P w K mg base CX0 2 fI fdI ["self", "value"] (spInit K))
    (D_law_take : Def P w K mg base 1 "_law_take" P_law_take spTake) (D_law_odd : Def P w K mg base 3 "_law_odd" P_law_odd (spOdd K)) (D_law_bent : Def P w K mg base 9 "_law_bent" P_law_bent (spBent K 6))
    (D_law_made : Def P w K mg base 4 "_law_made" P_law_made (spMade D)) (D_law_marks : Def P w K mg base 1 "_law_marks" P_law_marks (spMarks D)) : DefG P w K mg base 10 "_law_right" P_law_right spRight := by
  refine defG_of F sc_law_right bs_law_right (fun vs H Q E h => ?_) fun f cdv A outer s H vs Q E hgd hr h => ?_
  · obtain ⟨q, n, rfl, _⟩ := h
    rfl
  · refine ⟨_, (pss_cons (ps_set (i := 1) sc_law_right.nd rfl (Or.inl rfl) (pe_d D_law_bent (hr.mono (by omega)) (pa_cons (pv 0) (pa_cons (pe_tup (pa_cons (pe_d D_law_odd (hr.mono (by omega)) (pa_cons (pv 0) pa_nil)) (pa_cons (pe_tup (pa_cons (pe_d D_law_odd (hr.mono (by omega)) (pa_cons (pv 0) pa_nil)) (pa_cons pe_str pa_nil))) (pa_cons (pe_d D_law_take (hr.mono (by omega)) (pa_cons (pv 0) (pa_cons pe_int pa_nil))) pa_nil)))) pa_nil))))
  (pss_cons (ps_for PassesOwn.never rfl (pi_enum (by rfl) T.n_enumerate (pa_cons (pe_d D_law_made (hr.mono (by omega)) (pa_cons (pv 1) pa_nil)) pa_nil)) (pg_tup (by rfl) (pgs_cons (pg_name (i := 2) sc_law_right.nd rfl (by first | exact Or.inl rfl | exact Or.inr rfl)) (pgs_cons (pg_name (i := 3) sc_law_right.nd rfl (by first | exact Or.inl rfl | exact Or.inr rfl)) pgs_nil))) (pss_cons (ps_if (PW.pt (pw_or (pt_not (pt_val (pe_callB call_isErr (by rfl) T.n_isinstance (by decide +kernel) (pa_cons (pv 3) (pa_cons (pe_glob (v := .ref (D 0)) (by rfl) G.g_WakeError rfl) pa_nil))))) (pw_or (pt_not (pt_val (pe_callB call_isErr (by rfl) T.n_isinstance (by decide +kernel) (pa_cons (pv 3) (pa_cons (pe_bltn (v := .ty "ValueError") (by rfl) T.n_ValueError (by decide +kernel) rfl) pa_nil))))) (pw_or1 (pt_cmpR op_ne (pe_callB (call_repr hgd hr.units) (by rfl) T.n_repr (by decide +kernel) (pa_cons (pe_value (pv 3)) pa_nil)) (pe_callB (call_repr hgd hr.units) (by rfl) T.n_repr (by decide +kernel) (pa_cons (pv 1) pa_nil)) (nomark _)))))) (pss_one (ps_ret pe_bl)) pss_nil)
  (pss_one (ps_if (pt_cmpR (op_neD hr.units) (pe_d D_law_marks (hr.mono (by omega)) (pa_cons (pv 3) pa_nil)) (pe_lc (own := [("_law_place", 4)]) (g := (gName 4)) (tt := tYes) rfl sc_law_right.nd (pi_range1 (by rfl) T.n_range (pa_cons pe_int pa_nil)) (blkOk_by (N := N_law_right) (sc := defScope s_law_right) (by decide +kernel)) (fun _ _ _ _ _ => (pg_name (i := 4) sc_law_right.nd rfl (by first | exact Or.inl rfl | exact Or.inr rfl))) (fun _ _ _ _ _ => pts_nil) (fun _ _ _ _ _ => (pe_cmpR op_eq (pv 4) (pv 2) (nomark _)))) (nomark _)) (pss_one (ps_ret pe_bl)) pss_nil))))
  (pss_cons (ps_set (i := 5) sc_law_right.nd rfl (Or.inl rfl) (pe_err (G.e 0 (by decide)) G.tI Dinit (hr.mono (by omega)) G.bI (by rfl) G.g_WakeError (pa_cons (pv 1) pa_nil)))
  (pss_one (ps_ret (pe_and (pe_cmpR op_eq (pe_callB (call_repr hgd hr.units) (by rfl) T.n_repr (by decide +kernel) (pa_cons (pe_value (pv 5)) pa_nil)) (pe_callB (call_repr hgd hr.units) (by rfl) T.n_repr (by decide +kernel) (pa_cons (pv 1) pa_nil)) (nomark _)) (pe_and (pe_callB call_isErr (by rfl) T.n_isinstance (by decide +kernel) (pa_cons (pv 5) (pa_cons (pe_bltn (v := .ty "ValueError") (by rfl) T.n_ValueError (by decide +kernel) rfl) pa_nil))) (pe_one (pe_cmpR op_notIn_seq pe_bl (pe_d D_law_marks (hr.mono (by omega)) (pa_cons (pv 5) pa_nil)) (by rfl)))))))))), ?_⟩
    obtain ⟨q, n, rfl, hp, hn, go⟩ := h
    walk_at "w"
    refine ⟨q, n, rfl, hp, by omega, fun H1 v1 w1 hH1 p1 => ?_⟩
    walk_at "w"
    refine ⟨q, n + 1, rfl, p1, by omega, fun H2 v2 w2 hH2 p2 => ?_⟩
    walk_at "w"
    rename_i a1 ha1
    obtain ⟨own, b, k, eq0, _⟩ := id hp
    obtain ⟨own1, b1, k1, eq1, _⟩ := id p1
    obtain ⟨own2, b2, k2, eq2, _⟩ := id p2
    have s3 : Same H2 (upd H2 a1 (.tup [v2, .str "a"])) := same_upd (Same.refl _) ha1
    refine ⟨q, 9, n + 2, rfl, by omega, by omega, p2.same s3, by omega, fun H4 r hH4 p4 r0 r1 => ?_⟩
    obtain ⟨own4, b4, k4, eq4, _⟩ := id p4
    walk_at "w"
    rename_i a2 ha2
    obtain ⟨d1, dq1, o1, z1, dp1, in1⟩ := w1
    obtain ⟨d2, dq2, o2, z2, dp2, in2⟩ := w2
    have s5 : Same H4 (upd H4 a2 (.tup [v1, .ref a1, .int r])) := same_upd (Same.refl _) ha2
    have hH24 : HS q H2 H4 := (HS.same s3).trans hH4
    have t1 : SqT K H4 a1 [v2, .str "a"] := hH4.sqT (s3 _ _ eq2) (SqT.of upd_same)
    have dqt : Dq K q (upd H4 a2 (.tup [v1, .ref a1, .int r])) (.ref a2) (.tuple [d1, .tuple [d2, .str "a"], .int r]) :=
      .tup (SqT.of upd_same) (.cons (((dq1.mono hH2 eq1).mono hH24 eq2).same s5) (.cons (.tup (Same.sqT s5 t1) (.cons ((dq2.mono hH24 eq2).same s5) (.cons (.str _) .nil))) (.cons (.int r) .nil)))
    refine ⟨q, .ref a2, _, n + 3, rfl, dqt, ?_, ?_, ?_, ?_, p4.same s5, by show n + 3 + 2 * 5 ≤ 900000; omega, fun H6 v w6 hH6 p6 => ?_⟩
    · simp only [okD, okA, o1, o2, Bool.true_and, Bool.and_true]
      exact (Bool.and_eq_true _ _).mpr ⟨by decide +kernel, decide_eq_true (by omega)⟩
    · simp only [inB, inA, in1, in2, Bool.true_and, Bool.and_true]
      exact decide_eq_true (by omega)
    · simp only [PyData.depth, PyData.depthAll]
      omega
    · simp only [szD, szA]
      have : szD (.str (Str.ofString "a")) = 12 := by decide +kernel
      simp only [szD] at this
      omega
    have p7 : PotAt H6 q (n + 17) := p6
    clear p6
    obtain ⟨d, dq, o, z, dp⟩ := w6
    have zd : szD d ≤ 5000 := by
      refine Nat.le_trans z ?_
      simp only [szD, szA]
      have : szD (.str (Str.ofString "a")) = 12 := by decide +kernel
      simp only [szD] at this
      omega
    have dd : d.depth ≤ 60 := Nat.le_trans dp (by decide)
    have hHa : HS q H H6 := ((((hH1.trans hH2).trans (HS.same s3)).trans hH4).trans (HS.same s5)).trans hH6
    obtain ⟨own6, b6, k6, eq6, _⟩ := id p7
    clear z dp o1 z1 dp1 in1 dq1 o2 z2 dp2 in2 dq2 dqt t1 hH24 s5 s3 ha1 ha2 hH6 hH4 hH2 hH1 p4 p2 p1 r0 r1
    clear eq0 eq1 eq2 eq4
    walk_at "w"
    refine w_forE ?_
    walk_at "w"
    refine ⟨v, rfl, fun H7 l es s7 hl el er => ?_⟩
    walk_at "w"
    have les := Paired.length er
    refine ⟨l, es.map V.ref, rfl, SqL.of el, for_enum (fun _ σ' H' => (∃ x2 x3 x4 x5, σ' = [some (.ref q), some v, x2, x3, x4, x5]) ∧ Same H7 H') ⟨⟨_, _, _, _, rfl⟩, Same.refl _⟩ (fun _ _ _ _ h => SqL.of (h.2 _ _ el)) (fun i x σ' H8 a9 hx hP h9 => ?_) (fun σ' H8 hP => ?_)⟩
    · obtain ⟨⟨x2, x3, x4, x5, rfl⟩, s8⟩ := hP
      obtain ⟨a, ha, rfl⟩ : ∃ a, es[i]? = some a ∧ x = .ref a := by
        rw [List.getElem?_map] at hx
        cases z : es[i]? with
        | none =>
          rw [z] at hx
          cases hx
        | some a =>
          rw [z] at hx
          exact ⟨a, rfl, (Option.some.inj hx).symm⟩
      obtain ⟨Di, hD, eA⟩ := Paired.at er ha
      obtain ⟨hi, rfl⟩ : i < 23 ∧ Di = D (i + 1) := by
        unfold errD at hD
        rw [List.getElem?_map] at hD
        by_cases hlt : i < 23
        · rw [List.getElem?_range hlt] at hD
          exact ⟨hlt, (Option.some.inj hD).symm⟩
        · rw [List.getElem?_eq_none (by rw [List.length_range]; omega)] at hD
          cases hD
      have s9 : Same H7 (upd H8 a9 (.tup [.int (i : Nat), .ref a])) := same_upd s8 h9
      have eB := eA.same s9
      refine w_gtup2 (SqT.of upd_same) ?_
      generalize hH9 : upd H8 a9 (.tup [.int (i : Nat), .ref a]) = H9 at s9 eB
      have dq9 : Dq K q H9 v d := (dq.same s7).same s9
      walk_at "v"
      refine w_isErr true (G.e (i + 1) (by omega)) eB (.own _) (G.kitW _ (by omega)) ?_
      walk_at "v"
      refine iteF ?_
      walk_at "v"
      refine w_isErr true (G.e (i + 1) (by omega)) eB (.ty _) (G.kitV _ (by omega)) ?_
      walk_at "v"
      refine iteF ?_
      walk_at "v"
      refine w_value ?_
      walk_at "v"
      refine ⟨a, D (i + 1), fI, v, rfl, G.e _ (by omega), eB, ?_⟩
      walk_at "v"
      refine w_repr dq9 o (by omega) dd ?_
      walk_at "v"
      refine w_repr dq9 o (by omega) dd ?_
      refine w_neSame rfl ?_
      walk_at "v"
      refine ⟨a, i + 1, v, rfl, by omega, eB, fun H10 l2 s10 hl2 el2 => ?_⟩
      refine w_lcN (z := 23) (n := 23) (i := 4) (f := fun j => .bl (decide (V.int (0 + (j : Nat)) = V.int (i : Nat)))) rfl (by decide) (by decide) ?_ (by decide) ?_ fun l3 hl3 => ?_
      · intro j H11 R hj hR
        walk_at "v"
        exact ⟨rfl, hR⟩
      · intro j
        rfl
      have em : (List.range 23).map (fun j => V.bl (decide (V.int (0 + (j : Nat)) = V.int (i : Nat)))) = (markL (i + 1)).map V.bl := by
        unfold markL
        rw [List.map_map]
        refine List.map_congr_left fun j _ => congrArg V.bl (decide_eq_decide.mpr ⟨fun e => ?_, fun e => congrArg V.int (by omega)⟩)
        injection e with e
        omega
      rw [em]
      have s11 : Same H9 (upd H10 l3 (.lst ((markL (i + 1)).map V.bl))) := same_upd s10 hl3
      refine w_neBools (SqL.of (same_upd (Same.refl _) hl3 _ _ el2)) (SqL.of upd_same) ?_
      walk_at "v"
      exact ⟨⟨_, _, _, _, rfl⟩, s9.trans s11⟩
    · obtain ⟨⟨x2, x3, x4, x5, rfl⟩, s8⟩ := hP
      have dq8 : Dq K q H8 v d := (dq.same s7).same s8
      walk_at "v"
      refine r_err (j := 1) (G.e 0 (by decide)) rfl fun a H9 ha s9 eA => ?_
      have dq9 : Dq K q H9 v d := dq8.same s9
      walk_at "v"
      refine w_value ?_
      walk_at "v"
      refine ⟨a, D 0, fI, v, rfl, G.e 0 (by decide), eA, ?_⟩
      walk_at "v"
      refine w_repr dq9 o (by omega) dd ?_
      walk_at "v"
      refine w_repr dq9 o (by omega) dd ?_
      refine w_eqSame rfl ?_
      walk_at "v"
      refine w_isErr true (G.e 0 (by decide)) eA (.ty _) (G.kitV _ (by decide)) ?_
      walk_at "v"
      refine ⟨a, 0, v, rfl, by decide, eA, fun H10 l2 s10 hl2 el2 => ?_⟩
      refine ⟨l2, _, rfl, .inl (SqL.of el2), rfl, by kernel_rfl, ?_⟩
      have e0 : inV (V.bl true) ((markL 0).map V.bl) = false := by kernel_rfl
      rw [e0]
      refine go H10 (hHa.trans (HS.same (((s7.trans s8).trans s9).trans s10))) ?_
      exact (((((p7.same s7).same s8).same s9).same s10).mono (by omega))
end

def spLaw (K : PySem.W.Frag) : Sp := fun vs H Q _ => ∃ (a : Addr) (ns : List Int), vs = [.ref a] ∧ SqL K H a (ns.map V.int) ∧ ∀ H', Q (.bl true) H'
theorem HS.sqF {K : PySem.W.Frag} {q l : Addr} {H H' H0 : Hp} {xs : List V} (h : HS q H H') (f : H0 q = none) (sa : Same H0 H) (s : SqL K H0 l xs) : SqL K H' l xs := by
  rcases s with (s | ⟨o, s⟩) | s
  · exact .inl (.inl (h l _ (ne_of_none s f) (sa _ _ s)))
  · exact .inl (.inr ⟨o, h l _ (ne_of_none s f) (sa _ _ s)⟩)
  · exact .inr s
theorem sameL {K : PySem.W.Frag} {l : Addr} {H H' : Hp} {xs : List V} (sa : Same H H') (s : SqL K H l xs) : SqL K H' l xs := by
  rcases s with (s | ⟨o, s⟩) | s
  · exact .inl (.inl (sa _ _ s))
  · exact .inl (.inr ⟨o, sa _ _ s⟩)
  · exact .inr s
theorem w_lcRight {q : Addr} {x0 x1 x3 : Option V} {H : Hp} {Q : VK} (hp : PotAt H q 0) (k : ∀ (D : Addr) (H' : Hp), HS q H H' → H' D = some (.lst ([true, true].map V.bl)) → Q (.ref D) H') :
    tLc (iRng1 (tCons (tC (.int 2)) tNil)) (gName 3) tYes (tCall spRight [] E0 (tCons (tVar 2) tNil)) [3] [x0, x1, some (.ref q), x3] H Q := by
  obtain ⟨own, b, c, eq, _⟩ := id hp
  refine ⟨2, rfl, by decide, by decide, fun D hD => ?_⟩
  have hn : D ≠ q := Ne.symm (ne_of_none eq hD)
  refine lc_range (lo := 0) (n := 2) (Pv := fun j H' => HS q H H' ∧ PotAt H' q (100 * j) ∧ H' D = some (.lst ((List.replicate j true).map V.bl))) ⟨(HS.refl q H).upd hD, hp.upd hD, upd_same⟩ ?_ ?_
  · rintro j H' hj ⟨h1, h2, h3⟩
    refine ⟨rfl, iteT (B := HS q H H' ∧ PotAt H' q (100 * (j + 1)) ∧ H' D = some (.lst ((List.replicate (j + 1) true).map V.bl))) ?_⟩
    refine ⟨_, rfl, q, 100 * j, rfl, h2, by omega, fun H2 s2 p2 => ⟨_, s2 _ _ hn h3, ?_, ?_⟩⟩
    · rw [List.length_map, List.length_replicate, sizeLine_eq]
      omega
    · refine ⟨fun b' o nb e => ?_, ?_, ?_⟩
      · have hb : b' ≠ D := ne_of_none e hD
        rw [upd_ne hb]
        exact s2 _ _ nb (h1 _ _ nb e)
      · obtain ⟨o1, b1, c1, e1, r1⟩ := p2
        exact ⟨o1, b1, c1, by rw [upd_ne (Ne.symm hn)]; exact e1, r1⟩
      · rw [upd_same, List.replicate_succ', List.map_append]
        rfl
  · rintro H' ⟨h1, h2, h3⟩
    exact k D H' h1 h3
section
variable {P : Program} {w : World} {K : PySem.W.Frag} {mg : Str → Option Value} {base : Heap}
theorem ok_law {f : Addr} {fd : FuncData} (F : Fun K "law" "law" slaw f fd) (T : Txt mg) (D_law_pot : Def P w K mg base 1 "_law_pot" P_law_pot (spPot K)) (D_law_cells : Def P w K mg base 1 "_law_cells" P_law_cells (spCells K))
    (D_law_right : DefG P w K mg base 10 "_law_right" P_law_right spRight) : FnG P w K mg base CX0 11 f fd Plaw (spLaw K) := by
  refine funG F sclaw (fun vs H Q E h => ?_) fun cdv A outer s H vs Q E hgd hr h => ?_
  · obtain ⟨q, n, rfl, _⟩ := h
    rfl
  · refine ⟨_, (pss_cons (ps_for PassesOwn.never rfl (pi_list (pe_d D_law_cells (hr.mono (by omega)) (pa_cons (pv 0) (pa_cons pe_int pa_nil)))) (pg_name (i := 1) sclaw.nd rfl (by first | exact Or.inl rfl | exact Or.inr rfl)) (pss_cons (ps_set (i := 2) sclaw.nd rfl (by first | exact Or.inl rfl | exact Or.inr rfl) (pe_d D_law_pot (hr.mono (by omega)) (pa_cons (pv 0) (pa_cons (pv 1) pa_nil))))
  (pss_one (ps_if (pt_not (pt_val (pe_callB (cr_all rfl) (by rfl) T.n_all (by decide +kernel) (pa_cons (pe_lc (own := [("_law_lap", 3)]) (g := (gName 3)) (tt := tYes) rfl sclaw.nd (pi_range1 (by rfl) T.n_range (pa_cons pe_int pa_nil)) (blkOk_by (N := Nlaw) (sc := defScope slaw) (by decide +kernel)) (fun _ _ _ _ _ => (pg_name (i := 3) sclaw.nd rfl (by first | exact Or.inl rfl | exact Or.inr rfl))) (fun _ _ _ _ _ => pts_nil) (fun _ _ _ _ _ => (pe_dG D_law_right hgd (hr.mono (by omega)) (pa_cons (pv 2) pa_nil)))) pa_nil)))) (pss_one (ps_ret pe_bl)) pss_nil))))
  (pss_one (ps_ret pe_bl))), ?_⟩
    obtain ⟨a, ns, rfl, hs, go⟩ := h
    walk_at "v"
    refine w_forS ?_
    walk_at "v"
    refine ⟨a, ns, 4, rfl, hs, by decide, by decide, fun p k hp hk1 hk4 => ?_⟩
    refine ⟨p, rfl, ⟨_, SqL.of upd_same⟩, for_list (fun _ σ' H' => (∃ x1 x2 x3, σ' = [some (.ref a), x1, x2, x3]) ∧ SqL K H' a (ns.map V.int) ∧ H' p = some (.lst (rgV 0 (k : Int)))) ⟨⟨_, _, _, rfl⟩, sameL (same_upd (Same.refl _) hp) hs, upd_same⟩
      (fun _ _ _ _ h => SqL.of h.2.2) (fun i x σ' H1 hx hP => ?_) (fun σ' H1 hP => go H1)⟩
    obtain ⟨⟨x1, x2, x3, rfl⟩, hs1, hp1⟩ := hP
    obtain ⟨j, rfl, hj⟩ : ∃ j : Nat, x = .int (j : Nat) ∧ j < 4 := by
      unfold rgV at hx
      rw [List.getElem?_map] at hx
      by_cases hlt : i < ((k : Int) - 0).toNat
      · rw [List.getElem?_range hlt] at hx
        refine ⟨i, ?_, by omega⟩
        rw [← Option.some.inj hx]
        exact congrArg V.int (by omega)
      · rw [List.getElem?_eq_none (by rw [List.length_range]; omega)] at hx
        cases hx
    walk_at "v"
    refine ⟨a, ns, j, rfl, hs1, by omega, fun H2 q hq s2 p2 => ?_⟩
    walk_at "v"
    refine w_lcRight p2 fun D H3 s3 hD => ?_
    walk_at "v"
    refine ⟨D, _, rfl, SqL.of hD, ?_⟩
    walk_at "v"
    refine iteF ?_
    walk_at "v"
    exact ⟨⟨_, _, _, rfl⟩, s3.sqF hq s2 hs1, s3 _ _ (ne_of_none hp1 hq) (s2 _ _ hp1)⟩
end

/-- what is looked up of the classes, once -/
def errsB (K : PySem.W.Frag) (D : Nat → Addr) (fI : Addr) : Bool := (List.range 24).all (fun i => errB K (D i) fI) && ((List.range 24).all (fun i => (List.range 23).all fun j => decide (PySem.W.kitOne K (.ref (D i)) (.ref (D (j + 1))) = some (decide (i = j + 1)))) &&
  ((List.range 24).all (fun i => decide (PySem.W.kitOne K (.ref (D i)) (.ref (D 0)) = some true)) && ((List.range 24).all (fun i => decide (PySem.W.kitOne K (.ref (D i)) (.type "ValueError") = some true)) && decide (PySem.W.typeIn K (.ref fI) = some (.type "function")))))
theorem funAt_mk {K : PySem.W.Frag} {h : Heap} {mg : Str → Option Value} {x : Str} {st : Stmt} {f : Addr} {oc : Value} {od an : Option Addr} {osl : Array (Option Value)} {kV doc pm cdv ct : Value} (X : K.In h) (G : h.Ns mainGlobals mg)
    (a : PySem.W.nsIn K mainGlobals x = some (some (.ref f))) (l : K.lookup f = some ⟨oc, od, .func (PySem.W.fnOf x x (defArgs st) (defBody st) (defScope st) .none kV doc pm an cdv ct), osl⟩)
    (c : PySem.W.codeIn K cdv x = true) (k : PySem.W.keepIn K (.ref f) = true) : FunAt K mg x st := ⟨f, _, fun_mk l c k, PySem.W.mg_of X G a⟩
theorem funL_mk {K : PySem.W.Frag} {x : Str} {st : Stmt} {f : Addr} {oc : Value} {od an : Option Addr} {osl : Array (Option Value)} {kV doc pm cdv ct : Value} (l : K.lookup f = some ⟨oc, od, .func (PySem.W.fnOf x x (defArgs st) (defBody st) (defScope st) .none kV doc pm an cdv ct), osl⟩)
    (c : PySem.W.codeIn K cdv x = true) (k : PySem.W.keepIn K (.ref f) = true) : Fun K x x st f (PySem.W.fnOf x x (defArgs st) (defBody st) (defScope st) .none kV doc pm an cdv ct) := fun_mk l c k
theorem all_range {n : Nat} {p : Nat → Bool} (h : (List.range n).all p = true) : ∀ i, i < n → p i = true := fun i hi => List.all_eq_true.mp h i (List.mem_range.mpr hi)
theorem all_mk {l : PySem.W.OpenLaw} {w : World} {K : PySem.W.Frag} {h : Heap} {mg : Str → Option Value} {fa fI fL C0 C1 C2 C3 C4 C5 C6 C7 C8 C9 C10 C11 C12 C13 C14 C15 C16 C17 C18 C19 C20 C21 C22 C23 : Addr} {fdL : FuncData}
    {oc kV doc pm cdv ct : Value} {od an : Option Addr} {osl : Array (Option Value)} (X : K.In h) (G : h.Ns mainGlobals mg) (hfa : mg "law" = some (.ref fa))
    (c0 : PySem.W.nsIn K mainGlobals "WakeError" = some (some (.ref C0)))
    (c1 : PySem.W.nsIn K mainGlobals "BadDevices" = some (some (.ref C1)))
    (c2 : PySem.W.nsIn K mainGlobals "BadBundles" = some (some (.ref C2)))
    (c3 : PySem.W.nsIn K mainGlobals "BadLot" = some (some (.ref C3)))
    (c4 : PySem.W.nsIn K mainGlobals "OtherDevices" = some (some (.ref C4)))
    (c5 : PySem.W.nsIn K mainGlobals "BadDevice" = some (some (.ref C5)))
    (c6 : PySem.W.nsIn K mainGlobals "BadRests" = some (some (.ref C6)))
    (c7 : PySem.W.nsIn K mainGlobals "BadBook" = some (some (.ref C7)))
    (c8 : PySem.W.nsIn K mainGlobals "BadFact" = some (some (.ref C8)))
    (c9 : PySem.W.nsIn K mainGlobals "Full" = some (some (.ref C9)))
    (c10 : PySem.W.nsIn K mainGlobals "NoFact" = some (some (.ref C10)))
    (c11 : PySem.W.nsIn K mainGlobals "NoRules" = some (some (.ref C11)))
    (c12 : PySem.W.nsIn K mainGlobals "BadClaims" = some (some (.ref C12)))
    (c13 : PySem.W.nsIn K mainGlobals "BadPrices" = some (some (.ref C13)))
    (c14 : PySem.W.nsIn K mainGlobals "TooMany" = some (some (.ref C14)))
    (c15 : PySem.W.nsIn K mainGlobals "BadOffers" = some (some (.ref C15)))
    (c16 : PySem.W.nsIn K mainGlobals "BadClaim" = some (some (.ref C16)))
    (c17 : PySem.W.nsIn K mainGlobals "Contrary" = some (some (.ref C17)))
    (c18 : PySem.W.nsIn K mainGlobals "IsOn" = some (some (.ref C18)))
    (c19 : PySem.W.nsIn K mainGlobals "NothingToUndo" = some (some (.ref C19)))
    (c20 : PySem.W.nsIn K mainGlobals "NothingToRedo" = some (some (.ref C20)))
    (c21 : PySem.W.nsIn K mainGlobals "NoTrial" = some (some (.ref C21)))
    (c22 : PySem.W.nsIn K mainGlobals "BadJournal" = some (some (.ref C22)))
    (c23 : PySem.W.nsIn K mainGlobals "BadLine" = some (some (.ref C23)))
    (t0 : PySem.W.nsIn K mainGlobals "len" = some none)
    (t1 : PySem.W.nsIn K mainGlobals "int" = some none)
    (t2 : PySem.W.nsIn K mainGlobals "abs" = some none)
    (t3 : PySem.W.nsIn K mainGlobals "list" = some none)
    (t4 : PySem.W.nsIn K mainGlobals "range" = some none)
    (t5 : PySem.W.nsIn K mainGlobals "max" = some none)
    (t6 : PySem.W.nsIn K mainGlobals "min" = some none)
    (t7 : PySem.W.nsIn K mainGlobals "isinstance" = some none)
    (t8 : PySem.W.nsIn K mainGlobals "tuple" = some none)
    (t9 : PySem.W.nsIn K mainGlobals "bool" = some none)
    (t10 : PySem.W.nsIn K mainGlobals "str" = some none)
    (t11 : PySem.W.nsIn K mainGlobals "ValueError" = some none)
    (t12 : PySem.W.nsIn K mainGlobals "all" = some none)
    (t13 : PySem.W.nsIn K mainGlobals "repr" = some none)
    (t14 : PySem.W.nsIn K mainGlobals "enumerate" = some none)
    (aI : PySem.W.findIn K (.ref C0) "__init__" = some (some (.ref fI))) (lI : K.lookup fI = some ⟨oc, od, .func (PySem.W.fnOf "__init__" "WakeError.__init__" (defArgs sInit) (defBody sInit) (defScope sInit) .none kV doc pm an cdv ct), osl⟩)
    (cI : PySem.W.codeIn K cdv "WakeError.__init__" = true) (kI : PySem.W.keepIn K (.ref fI) = true) (kern : errsB K (fun i => [C0, C1, C2, C3, C4, C5, C6, C7, C8, C9, C10, C11, C12, C13, C14, C15, C16, C17, C18, C19, C20, C21, C22, C23].getD i 0) fI = true)
    (F_law_pot : FunAt K mg "_law_pot" s_law_pot)
    (F_law_take : FunAt K mg "_law_take" s_law_take)
    (F_law_of : FunAt K mg "_law_of" s_law_of)
    (F_law_cells : FunAt K mg "_law_cells" s_law_cells)
    (F_law_odd : FunAt K mg "_law_odd" s_law_odd)
    (F_law_bent : FunAt K mg "_law_bent" s_law_bent)
    (F_law_made : FunAt K mg "_law_made" s_law_made)
    (F_law_marks : FunAt K mg "_law_marks" s_law_marks)
    (F_law_right : FunAt K mg "_law_right" s_law_right)
    (aL : PySem.W.nsIn K mainGlobals "law" = some (some (.ref fL))) (FL : Fun K "law" "law" slaw fL fdL) :
    ∃ fd : FuncData, (∀ (s : Shared) (v : Value), BindsTo s fd ⟨[v], []⟩ [("_law_script", v)]) ∧ ∀ base : Heap, K.In base → base.Ns mainGlobals mg → FnG l.prog w K mg base CX0 11 fa fd ["_law_script"] (spLaw K) := by
  have e := hfa.symm.trans (PySem.W.mg_of X G aL)
  cases e
  have T : Txt mg := ⟨PySem.W.mg_none_of X G t0, PySem.W.mg_none_of X G t1, PySem.W.mg_none_of X G t2, PySem.W.mg_none_of X G t3, PySem.W.mg_none_of X G t4, PySem.W.mg_none_of X G t5, PySem.W.mg_none_of X G t6, PySem.W.mg_none_of X G t7, PySem.W.mg_none_of X G t8, PySem.W.mg_none_of X G t9, PySem.W.mg_none_of X G t10, PySem.W.mg_none_of X G t11, PySem.W.mg_none_of X G t12, PySem.W.mg_none_of X G t13, PySem.W.mg_none_of X G t14⟩
  have FI := fun_mk (st := sInit) lI cI kI
  unfold errsB at kern
  simp only [Bool.and_eq_true] at kern
  obtain ⟨k1, k2, k3, k4, k5⟩ := kern
  have E : Err K mg fI _ (fun i => [C0, C1, C2, C3, C4, C5, C6, C7, C8, C9, C10, C11, C12, C13, C14, C15, C16, C17, C18, C19, C20, C21, C22, C23].getD i 0) := ⟨PySem.W.mg_of X G c0, PySem.W.mg_of X G c1, PySem.W.mg_of X G c2, PySem.W.mg_of X G c3, PySem.W.mg_of X G c4, PySem.W.mg_of X G c5, PySem.W.mg_of X G c6, PySem.W.mg_of X G c7, PySem.W.mg_of X G c8, PySem.W.mg_of X G c9, PySem.W.mg_of X G c10, PySem.W.mg_of X G c11, PySem.W.mg_of X G c12, PySem.W.mg_of X G c13, PySem.W.mg_of X G c14, PySem.W.mg_of X G c15, PySem.W.mg_of X G c16, PySem.W.mg_of X G c17, PySem.W.mg_of X G c18, PySem.W.mg_of X G c19, PySem.W.mg_of X G c20, PySem.W.mg_of X G c21, PySem.W.mg_of X G c22, PySem.W.mg_of X G c23,
    fun i hi => errB_ok (all_range k1 i hi), of_decide_eq_true k5, FI.binds fun _ _ _ _ _ _ us hl => match us, hl with | [_, _], _ => rfl, fun i j hi hj => of_decide_eq_true (all_range (all_range k2 i hi) j hj), fun i hi => of_decide_eq_true (all_range k3 i hi), fun i hi => of_decide_eq_true (all_range k4 i hi)⟩
  refine ⟨fdL, fun s v => ?_, fun base _ _ => ?_⟩
  · obtain ⟨oc, od, kV, doc, pm, an, cdv, ct, osl, rfl, _, _⟩ := FL.ex
    exact .of_eq rfl
  · have Di := ok_init (P := l.prog) (w := w) (mg := mg) (base := base) FI
    have D1 := ok_take (P := l.prog) (w := w) (base := base) F_law_take T
    have D2 := ok_of F_law_of T D1
    have D3 := ok_odd F_law_odd T D2
    have D4 := bent_all F_law_bent T D1 D2 D3 6
    have D5 := ok_made F_law_made T E Di
    have D6 := ok_marks (P := l.prog) (w := w) (base := base) F_law_marks T E
    exact ok_law FL T (ok_pot F_law_pot T) (ok_cells F_law_cells T) (ok_right F_law_right T E Di D1 D3 D4 D5 D6)

end Wk
open PySem PySem.W PyProof.Rows
set_option maxHeartbeats 0
theorem PySem.Challenge.cw_wakesothers_k00_errors_and_what_they_kee_holds : PySem.Challenge.rw_wakesothers_k00_errors_and_what_they_kee.Holds := by
  refine hd00 ?_
  k_fill
  refine Wk.walkG (l := PySem.Challenge.rw_wakesothers_k00_errors_and_what_they_kee) (k := 11) (x := "_law_script") (sp := fun w => Wk.spLaw _) rfl (by decide) rfl ⟨rfl, by decide, by decide⟩ (fun w h Y => PySem.W.kIn_of Y) ?F (fun _ _ a ns _ _ hS => ⟨a, ns, rfl, hS, fun _ => rfl⟩)
  case F =>
    intro w mg fa h KX G hmg
    refine' Wk.all_mk KX G hmg ?c0 ?c1 ?c2 ?c3 ?c4 ?c5 ?c6 ?c7 ?c8 ?c9 ?c10 ?c11 ?c12 ?c13 ?c14 ?c15 ?c16 ?c17 ?c18 ?c19 ?c20 ?c21 ?c22 ?c23 ?t0 ?t1 ?t2 ?t3 ?t4 ?t5 ?t6 ?t7 ?t8 ?t9 ?t10 ?t11 ?t12 ?t13 ?t14 ?aI ?lI ?cI ?kI ?kern ?F_law_pot ?F_law_take ?F_law_of ?F_law_cells ?F_law_odd ?F_law_bent ?F_law_made ?F_law_marks ?F_law_right ?aL ?FL
    (case c0 => k_is)
    (case c1 => k_is)
    (case c2 => k_is)
    (case c3 => k_is)
    (case c4 => k_is)
    (case c5 => k_is)
    (case c6 => k_is)
    (case c7 => k_is)
    (case c8 => k_is)
    (case c9 => k_is)
    (case c10 => k_is)
    (case c11 => k_is)
    (case c12 => k_is)
    (case c13 => k_is)
    (case c14 => k_is)
    (case c15 => k_is)
    (case c16 => k_is)
    (case c17 => k_is)
    (case c18 => k_is)
    (case c19 => k_is)
    (case c20 => k_is)
    (case c21 => k_is)
    (case c22 => k_is)
    (case c23 => k_is)
    (case t0 => k_is)
    (case t1 => k_is)
    (case t2 => k_is)
    (case t3 => k_is)
    (case t4 => k_is)
    (case t5 => k_is)
    (case t6 => k_is)
    (case t7 => k_is)
    (case t8 => k_is)
    (case t9 => k_is)
    (case t10 => k_is)
    (case t11 => k_is)
    (case t12 => k_is)
    (case t13 => k_is)
    (case t14 => k_is)
    (case aI => k_is)
    (case lI => k_is)
    (case cI => k_is)
    (case kI => k_is)
    (case kern => kernel_rfl)
    (case F_law_pot => refine' Wk.funAt_mk KX G ?a ?l ?c ?k; (case a => k_is); (case l => k_is); (case c => k_is); (case k => k_is))
    (case F_law_take => refine' Wk.funAt_mk KX G ?a ?l ?c ?k; (case a => k_is); (case l => k_is); (case c => k_is); (case k => k_is))
    (case F_law_of => refine' Wk.funAt_mk KX G ?a ?l ?c ?k; (case a => k_is); (case l => k_is); (case c => k_is); (case k => k_is))
    (case F_law_cells => refine' Wk.funAt_mk KX G ?a ?l ?c ?k; (case a => k_is); (case l => k_is); (case c => k_is); (case k => k_is))
    (case F_law_odd => refine' Wk.funAt_mk KX G ?a ?l ?c ?k; (case a => k_is); (case l => k_is); (case c => k_is); (case k => k_is))
    (case F_law_bent => refine' Wk.funAt_mk KX G ?a ?l ?c ?k; (case a => k_is); (case l => k_is); (case c => k_is); (case k => k_is))
    (case F_law_made => refine' Wk.funAt_mk KX G ?a ?l ?c ?k; (case a => k_is); (case l => k_is); (case c => k_is); (case k => k_is))
    (case F_law_marks => refine' Wk.funAt_mk KX G ?a ?l ?c ?k; (case a => k_is); (case l => k_is); (case c => k_is); (case k => k_is))
    (case F_law_right => refine' Wk.funAt_mk KX G ?a ?l ?c ?k; (case a => k_is); (case l => k_is); (case c => k_is); (case k => k_is))
    (case aL => k_is)
    (case FL => refine' Wk.funL_mk ?l ?c ?k; (case l => k_is); (case c => k_is); (case k => k_is))

