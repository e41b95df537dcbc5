import PyProof.Rows.All
import Wide.All
import OpenK.AllK
import Wide.FinOn
import HandS.ForMost
import HandS.TupAny
import HandS.IsInst
import HandS.Deep
import HandS.Flow
import HandS.Style
import HandS.Small
import HandS.Codes
import PyProof.StrOps2
import HandS.Strs
import HandS.SetFor
import HandS.SetKeys
import KE.SortData
import HandS.DictComp
import HandS.Conv
import HandS.Dict
import HandS.StrMore
import HandS.Text
import HandS.More
import KE.KDictSum
import PyProof.TupleOfSeq
import HandS.SlotsOwn
import HandS.OwnEq
import OpenK.KOps
import OpenK.KMeth
import PyProof.InstEq
import HandS.IterVal
import HandS.OwnIter
import KE.KOwnIter
import HandS.DictSubView
import PyProof.Rows.ReprOcc
import OpenK.KEqL
import PySem.Challenge.RW_barelybetter_k20_walks_told
import HandS.Defaults
import KE.RegKIsAll
set_option Elab.async false
set_option linter.all false
set_option maxRecDepth 100000
set_option maxHeartbeats 4000000
/-! promises that hold where no repr is under way -/
namespace Gd
open PySem PySem.Spec PyProof.Rows L2
/-- no repr is under way around -/
abbrev Ng (A : Around) : Prop := A.guards = some []
/-- a def's promise where no repr is under way -/
structure FnG (P : Program) (w : World) (K : PySem.W.Frag) (mg : Str → Option Value)
    (base : Heap) (CX : CXT) (k : Nat) (f : Addr) (fd : FuncData) (ps : List Str) (sp : Sp) : Prop where
  lenG : ∀ vs H Q E, sp vs H Q E → vs.length = ps.length
  runG : ∀ (A : Around) (outer : List Env) (s : Shared) (H : Hp) (args : Args)
    (us : List Value) (vs : List V) (Q : VK) (E : XK), Ng A → Room k A →
    Env0 P w K mg base A outer s H → BindsTo s fd args (ps.zip us) → Vals vs us →
    sp vs H Q E → codeAny (model P w) A (.call (.ref f) args) (CR CX outer P w H s Q E) s
section
variable {P : Program} {w : World} {K : PySem.W.Frag} {mg : Str → Option Value} {base : Heap}
  {CX : CXT} {k j : Nat} {f : Addr} {fd : FuncData} {ps : List Str} {sp sp' : Sp}
theorem FnG.of (F : FnOk P w K mg base CX k f fd ps sp) : FnG P w K mg base CX k f fd ps sp :=
  ⟨F.len, fun A outer s H args us vs Q E _ hr => F.run A outer s H args us vs Q E hr⟩
theorem FnG.mono (F : FnG P w K mg base CX j f fd ps sp) (h : j ≤ k) : FnG P w K mg base CX k f fd ps sp :=
  ⟨F.lenG, fun A outer s H args us vs Q E g hr => F.runG A outer s H args us vs Q E g (hr.mono h)⟩
end
section
variable {X : Cx} {CX : CXT} {k : Nat} {f : Addr} {fd : FuncData} {ps : List Str} {sp : Sp}
  {dvs : List V} {ds : List Value} {E : XK} {x : Str} {p pos : Pos} {e : Expr} {es : List Expr} {t : TA}
theorem run_fnG {pins : List (Addr × Obj)} {σ : L2.St} {H : Hp} {s : Shared} {Q : VK} {us : List Value} {vs : List V}
    (F : FnG X.prog X.w X.K X.mg X.base CX k f fd ps sp) (hg : Ng X.A) (hr : Room k X.A)
    (hb : Binds X.K fd ps ds) (hd : Vals dvs ds) (hx : Passes CX X E)
    (I : Inv X pins σ H s) (r : Vals vs us) (h : sp (vs ++ dvs) H Q E) :
    wpAny (model X.prog X.w) X.A (call (.ref f) us) (EP X pins σ Q) X.xe s := by
  have rr : Vals (vs ++ dvs) (us ++ ds) := r.append hd
  have ll : (us ++ ds).length = ps.length := by
    have q := F.lenG _ _ _ _ h
    rw [← rr.length]
    exact q
  refine wpAny_call (codeAny_mono (F.runG X.A X.stack s H ⟨us, []⟩ (us ++ ds) (vs ++ dvs) Q E hg hr
    I.env0 (hb s us I.kIn ll) rr h) fun res s2 hh => ?_)
  match res, hh with
  | .error e, hh => exact hx pins σ H s e s2 I hh
  | .ok (.ret u), hh => exact I.after hh
  | .ok .next, hh => exact False.elim hh
  | .ok .brk, hh => exact False.elim hh
  | .ok .cont, hh => exact False.elim hh
theorem pe_callG (F : FnG X.prog X.w X.K X.mg X.base CX k f fd ps sp) (ng : Ng X.A) (hr : Room k X.A)
    (hg : Gl X x) (hm : X.mg x = some (.ref f)) (hk : PySem.W.keepIn X.K (.ref f) = true)
    (hb : Binds X.K fd ps ds) (hd : Vals dvs ds) (hx : Passes CX X E) (ha : PA X (e :: es) t)
    (hdb : (x == ("__debug__" : Str)) = false := by decide)
    (he : starEach (e :: es) X.env = (false, eval e X.env) :: starEach es X.env := by rfl)
    (hpl : (backTo pos (starEach es X.env)).any (·.1) = false := by rfl) :
    PE X (.Call (.Name x p) (e :: es) [] pos) (tCall sp dvs E t) := by
  refine ⟨fun pins s σ H Q I h => wpAny_Call_Name_kw (ld_glob I hg hm ?_ hdb)⟩
  refine PySem.W.callWith_K (h₀ := X.base) I.ok.mod.kin hk
    (thn (ha.run pos pins s σ H _ I h) fun us s1 hh => ?_) he hpl
  obtain ⟨vs, H1, I1, r, q⟩ := hh
  exact ⟨I1.kIn, run_fnG F ng hr hb hd hx I1 r q⟩
end
/-- a def of the text, by its body, where no repr is under way -/
theorem fn_ofG {CX : CXT} {P : Program} {w : World} {K : PySem.W.Frag} {mg : Str → Option Value} {base : Heap} {k : Nat}
    {f : Addr} {name qual : Str} {params : Arguments} {body : List Stmt} {scope : Scope}
    {dV kV doc pm cdv ct oc : Value} {an od : Option Addr} {osl : Array (Option Value)} {N ps : List Str} {sp : Sp}
    (lk : K.lookup f = some ⟨oc, od, .func (PySem.W.fnOf name qual params body scope dV kV doc pm an cdv ct), osl⟩)
    (hcd : PySem.W.codeIn K cdv qual = true) (S : FnScope N ps scope)
    (len : ∀ vs H Q E, sp vs H Q E → vs.length = ps.length)
    (hbody : ∀ (A : Around) (outer : List Env) (s : Shared) (H : Hp) (vs : List V) (Q : VK) (E : XK),
      Ng A → Room k (A.deeper (envOfC qual scope s.heap.objs.size f cdv)) → sp vs H Q E →
      ∃ t, PSs (cxOf CX P w K mg base N qual scope f cdv A outer s H E) body t ∧
        t { nx := fun _ H' => Q .non H', rt := Q } (start N vs) H) :
    FnG P w K mg base CX (k + 1) f (PySem.W.fnOf name qual params body scope dV kV doc pm an cdv ct) ps sp := by
  refine ⟨len, fun A outer s H args us vs Q E ng hr e0 hb r hsp => ?_⟩
  have ll := len _ _ _ _ hsp
  have kx : K.In s.heap := e0.mod.kin.keeps fun b o e => (e0.bs b o e).1
  have nl : s.heap.NoLimit := e0.mod.nolimit.keeps fun b o e => (e0.bs b o e).1
  have kinds : ∀ y ∈ ps.zip us, scope.names.lookup y.1 = some .local ∨
      (scope.names.lookup y.1 = some .cell ∧
        ((cellsFrom (s.heap.objs.size + 1) scope.names []).lookup y.1).isSome = true) := by
    intro y hy
    obtain ⟨n, v⟩ := y
    rcases S.par n (List.of_mem_zip hy).1 with q | q
    · exact .inl q
    · exact .inr ⟨q, PySem.W.cellsFrom_some _ _ _ (.inl q)⟩
  refine codeAny_call_function hr.depth (kx _ _ lk) rfl S.co S.gen rfl
    (PySem.W.codeRec_of kx hcd) (hb _ _ _ _ ?_)
  refine wpAny_newFunctionEnv_cells S.kind kinds fun env ee s1 z => ?_
  cases ee
  refine ⟨nl.keeps z.toInCall.keep, codeAny_func ?_⟩
  obtain ⟨t, ht, hq⟩ := hbody A outer s H vs Q E ng (hr.deeper _) hsp
  have J0 : Inv (cxOf CX P w K mg base N qual scope f cdv A outer s H E) [] (start N vs) H s1 :=
    inv_start S hr.hd e0 ll r z
  refine wpAny_mono (ht.run [] s1 (start N vs) H _ J0 hq) (fun fl s2 hs => ?_) fun e s2 hs => hs
  match fl, hs with
  | .ret u, ⟨v, σ', H', J, rv, q⟩ => exact ⟨v, H', J.os, J.bare, J.base, J.hok, rv, q⟩
  | .next, ⟨σ', H', J, q⟩ => exact ⟨V.non, H', J.os, J.bare, J.base, J.hok, rfl, q⟩
  | .brk, ⟨_, _, _, q⟩ => exact False.elim q
  | .cont, ⟨_, _, _, q⟩ => exact False.elim q
theorem okG {P : Program} {w : World} {K : PySem.W.Frag} {mg : Str → Option Value} {base : Heap} {x qual : Str} {st : Stmt}
    {f : Addr} {fd : FuncData} {N ps : List Str} {k : Nat} {sp : Sp} (F : Fun K x qual st f fd)
    (S : FnScope N ps (defScope st)) (len : ∀ vs H Q E, sp vs H Q E → vs.length = ps.length)
    (hbody : ∀ (cdv : Value) (A : Around) (outer : List Env) (s : Shared) (H : Hp) (vs : List V) (Q : VK) (E : XK),
      Ng A → Room k (A.deeper (envOfC qual (defScope st) s.heap.objs.size f cdv)) → sp vs H Q E →
      ∃ t, PSs (cxOf CX0 P w K mg base N qual (defScope st) f cdv A outer s H E).nox (defBody st) t ∧
        t { nx := fun _ H' => Q .non H', rt := Q } (start N vs) H) :
    FnG P w K mg base CX0 (k + 1) f fd ps sp := by
  obtain ⟨oc, od, kV, doc, pm, an, cdv, ct, osl, rfl, lk, hcd⟩ := F.ex
  refine fn_ofG lk hcd S len fun A outer s H vs Q E ng hr hsp => ?_
  obtain ⟨t, h, q⟩ := hbody cdv A outer s H vs Q E ng hr hsp
  exact ⟨t, h.nox, q⟩
/-- the head's end: the law's own promise, where no repr is under way -/
theorem law_callG {P : Program} {w : World} {K : PySem.W.Frag} {mg mb : Str → Option Value} {CX : CXT} {k : Nat} {fa a : Addr}
    {fd : FuncData} {x : Str} {sp : Sp} {s₁ : Shared} {vs : List Value} {ns : List Int}
    (KX : K.In s₁.heap) (hns : s₁.heap.Ns mainGlobals mg) (hb : s₁.heap.Ns builtinsNs mb)
    (hbb : ∀ x : Str, x ≠ "__name__" → mb x = bootBuiltins x) (hlim : s₁.heap.NoLimit) (hg : s₁.gens = #[])
    (ha : s₁.heap.get? a = some { cls := .type "list", data := .seq vs.toArray }) (hi : IntsAre vs ns)
    (hl : ns.length ≤ sizeLine) (hr : Room k callerA)
    (F : ∀ base : Heap, K.In base → base.Ns mainGlobals mg → FnG P w K mg base CX k fa fd [x] sp)
    (hbind : ∀ (s : Shared) (u : Value), BindsTo s fd ⟨[u], []⟩ [(x, u)])
    (hsp : ∀ H : Hp, Only H → SqL K H a (ns.map V.int) → sp [.ref a] H (fun v _ => v = .bl true) fun _ _ _ => False)
    (hCX : ∀ H e s', CX [] H s₁ (fun _ _ _ => False) e s' → False) :
    codeAny (model P w) callerA (.call (.ref fa) ⟨[.ref a], []⟩)
      (fun r s' => r = .ok (.ret (.bool true)) ∧ OldK s₁.heap s'.heap ∧ s'.os = s₁.os ∧ AllBare s'.gens) s₁ := by
  have rv := vals_ints hi
  have lv := hi.length
  have core : ∀ H : Hp, Only H → SqL K H a (ns.map V.int) → HOk P w H s₁.heap → (∀ b, H b ≠ none → b = a) →
      (H a ≠ none → K.lookup a = none) → codeAny (model P w) callerA (.call (.ref fa) ⟨[.ref a], []⟩)
      (fun r s' => r = .ok (.ret (.bool true)) ∧ OldK s₁.heap s'.heap ∧ s'.os = s₁.os ∧ AllBare s'.gens) s₁ := by
    intro H hO hS hok hA hK
    have only_a : ∀ {b : Addr}, b ≠ a → H b = none := fun {b} nb => by
      cases q : H b with
      | none => rfl
      | some u => exact absurd (hA b (by rw [q]; simp)) nb
    have hid : ∀ {b : Addr} {o : Obj}, s₁.heap.get? b = some o → H b = none → (hidT s₁.heap H).get? b = some o :=
      fun e n => hidT_get e n
    have noD : ∀ {b : Addr} {o : Obj} {es : Array DictEntry} {ep : Nat},
        s₁.heap.get? b = some o → o.data = .dict es ep → H b = none := fun {b o es ep} e d => by
      by_cases nb : b = a
      · subst nb
        rw [ha] at e
        cases e
        cases (show Data.seq vs.toArray _ = Data.dict es ep from d)
      · exact only_a nb
    have nsK : ∀ {b : Addr} {m : Str → Option Value}, s₁.heap.Ns b m → (hidT s₁.heap H).Ns b m :=
      fun {b m} ⟨o, es, ep, e, d, r⟩ => ⟨o, es, ep, hid e (noD e d), d, r⟩
    have hKb : K.In (hidT s₁.heap H) := fun b o e => by
      refine hid (KX b o e) ?_
      by_cases nb : b = a
      · subst nb
        cases q : H b with
        | none => rfl
        | some u =>
          rw [hK (by rw [q]; simp)] at e
          cases e
      · exact only_a nb
    have hM : Mod K mg (hidT s₁.heap H) :=
      ⟨hKb, nsK hns, ⟨mb, nsK hb, hbb⟩, let ⟨mc, h1, h2⟩ := hlim; ⟨mc, nsK h1, h2⟩⟩
    have nil_in : ∀ b : Addr, b ∉ frs [] := fun b z => absurd (show b ∈ ([] : List Addr) from z) (by simp)
    have e0 : Env0 P w K mg (hidT s₁.heap H) callerA [] s₁ H :=
      ⟨rfl, hM, fun b o e => of_hidT e, Nat.le_of_eq (hidT_size _ _), trivial, fun b z => (nil_in b z).elim, hok, .of_eq hg⟩
    refine codeAny_mono ((F _ hKb (nsK hns)).runG callerA [] s₁ H ⟨[.ref a], []⟩ [.ref a] [.ref a] _ _ rfl hr e0
      (hbind s₁ (.ref a)) (.cons rfl .nil) (hsp H hO hS)) fun r s' h => ?_
    match r, h with
    | .error e, h => exact (hCX H e s' h).elim
    | .ok .next, h => exact False.elim h
    | .ok .brk, h => exact False.elim h
    | .ok .cont, h => exact False.elim h
    | .ok (.ret u), ⟨v, H', os, bare, un, hok', r', q⟩ =>
      have q' : v = .bl true := q
      subst q'
      obtain rfl : u = Value.bool true := r'
      refine ⟨rfl, OldK.of_keep fun b o e => ?_, os, bare⟩
      cases q : H b with
      | none => exact un.keep b o e q (nil_in b) (by simp)
      | some u =>
        rcases hO b with z | ⟨ob, xs, z⟩
        · rw [q] at z
          cases z
        · have z2 := un.frzs b ob _ z
          obtain ⟨e1, _⟩ := hok b _ z
          obtain ⟨e2, _⟩ := hok' b _ z2
          rw [e] at e1
          cases e1
          exact e2
  cases hk : K.lookup a with
  | some o =>
    have e := KX a o hk
    rw [ha] at e
    cases e
    refine core (fun _ => none) (fun _ => .inl rfl)
      (.inr ⟨_, vs.toArray, _, hk, rfl, rfl, rfl, by rw [List.size_toArray, lv]; exact hl, by simpa using rv⟩)
      (fun b u z => ?_) (fun b z => absurd rfl z) fun z => absurd rfl z
    cases (show (none : Option HO) = some u from z)
  | none =>
    have at_a : (fun b => if b = a then some (HO.frz { cls := .type "list", data := .seq vs.toArray } (.lst (ns.map V.int))) else none) a
        = some (HO.frz { cls := .type "list", data := .seq vs.toArray } (.lst (ns.map V.int))) := if_pos rfl
    refine core (fun b => if b = a then some (HO.frz { cls := .type "list", data := .seq vs.toArray } (.lst (ns.map V.int))) else none)
      (fun b => ?_) (.inl (.inr ⟨{ cls := .type "list", data := .seq vs.toArray }, at_a⟩)) (fun b u z => ?_) (fun b z => ?_) fun _ => hk
    · by_cases hb : b = a
      · exact .inr ⟨_, _, if_pos hb⟩
      · exact .inl (if_neg hb)
    · by_cases hb : b = a
      · have z' := (if_pos hb).symm.trans z
        cases z'
        subst hb
        exact ⟨ha, by rw [List.length_map]; exact hl, vs, _, rv, ha⟩
      · have z' := (if_neg hb).symm.trans z
        cases z'
    · by_cases hb : b = a
      · exact hb
      · exact absurd (if_neg hb) z
theorem walk_ofG {l : PySem.W.OpenLaw} {n k : Nat} {q : Program} {loose : List Str} {XP : (Str → Option Value) → Heap → Prop}
    {YP : World → Heap → Prop} {d : DefRec} {K : Params → PySem.W.Frag} {CX : World → CXT} {sp : World → Sp} {x : Str}
    (hn : l.most = some n) (hn2 : n ≤ sizeLine) (hdf : d.params.defaults = []) (hr : Room k callerA)
    (hY : ∀ (w : World) (h : Heap), YP w h → (K w.params).In h)
    (F : ∀ (w : World) (mg : Str → Option Value) (fa : Addr) (h : Heap), (K w.params).In h → h.Ns mainGlobals mg →
      mg d.name = some (.ref fa) → ∃ fd : FuncData, (∀ (s : Shared) (u : Value), BindsTo s fd ⟨[u], []⟩ [(x, u)]) ∧
        ∀ base : Heap, (K w.params).In base → base.Ns mainGlobals mg → FnG l.prog w (K w.params) mg base (CX w) k fa fd [x] (sp w))
    (hsp : ∀ (w : World) (H : Hp) (a : Addr) (ns : List Int), ns.length ≤ n → Only H → SqL (K w.params) H a (ns.map V.int) →
      sp w [.ref a] H (fun v _ => v = .bl true) fun _ _ _ => False)
    (hCX : ∀ (w : World) (H : Hp) (s : Shared) (e : Value) (s' : Shared), CX w [] H s (fun _ _ _ => False) e s' → False) :
    PySem.W.WalkO q loose XP YP l.row.toRowW d [] (fun f vs => PySem.call f vs) := by
  refine Att.attach_call hn hdf fun w s₀ s₁ mg mb fa o pm cd doc a vs ns G Y ho hd hcd hmg hobj hints hlen hg => ?_
  have kx := hY w _ Y
  obtain ⟨fd, hb, hF⟩ := F w mg fa _ kx G.T.g hmg
  exact law_callG kx G.T.g G.T.b G.T.builtins G.T.nolimit hg hobj hints (Nat.le_trans hlen hn2) hr hF hb
    (fun H hO hS => hsp w H a ns hlen hO hS) fun H e s' => hCX w H s₁ e s'
end Gd

/-! data at any depth, dicts too, and their repr -/
namespace Gd
open PySem PySem.Spec PyProof.Rows L2
def keyD : Key → PyData
  | .inl i => .int i
  | .inr x => .str x
/-- a tuple made here -/
def TupAt (H : Hp) (a : Addr) (xs : List V) : Prop := H a = some (.tup xs)
theorem TupAt.some {H : Hp} {a : Addr} {xs : List V} (h : TupAt H a xs) : ∃ u, H a = Option.some u := ⟨_, h⟩
theorem TupAt.seq {K : PySem.W.Frag} {H : Hp} {a : Addr} {xs : List V} (h : TupAt H a xs) : SqT K H a xs := .inl (.inl h)
mutual
inductive Da (F : List Addr) (H : Hp) : V → PyData → Prop
  | non : Da F H .non .none
  | bl (b : Bool) : Da F H (.bl b) (.bool b)
  | int (i : Int) : Da F H (.int i) (.int i)
  | str (x : Str) : Da F H (.str x) (.str x)
  | lst {a : Addr} {xs : List V} {ds : List PyData} : a ∉ F → H a = some (.lst xs) → Das F H xs ds → Da F H (.ref a) (.list ds)
  | tup {a : Addr} {xs : List V} {ds : List PyData} : a ∉ F → TupAt H a xs → Das F H xs ds → Da F H (.ref a) (.tuple ds)
  | dct {a : Addr} {kvs : List (Key × V)} {ps : List (PyData × PyData)} : a ∉ F → H a = some (.dK kvs) →
      ps.map (·.1) = kvs.map (fun kv => keyD kv.1) → Das F H (kvs.map (·.2)) (ps.map (·.2)) → Da F H (.ref a) (.dict ps)
inductive Das (F : List Addr) (H : Hp) : List V → List PyData → Prop
  | nil : Das F H [] []
  | cons {v : V} {vs : List V} {d : PyData} {ds : List PyData} : Da F H v d → Das F H vs ds → Das F H (v :: vs) (d :: ds)
end
/-- all but what stands at F is as it was -/
def Gr (F : List Addr) (H H' : Hp) : Prop := ∀ p u, p ∉ F → H p = some u → H' p = some u
theorem Gr.refl (F : List Addr) (H : Hp) : Gr F H H := fun _ _ _ h => h
theorem Gr.trans {F : List Addr} {H H1 H2 : Hp} (a : Gr F H H1) (b : Gr F H1 H2) : Gr F H H2 := fun p u n h => b p u n (a p u n h)
theorem Gr.wide {F G : List Addr} {H H' : Hp} (a : Gr F H H') (s : ∀ p ∈ F, p ∈ G) : Gr G H H' := fun p u n h => a p u (fun m => n (s p m)) h
theorem Gr.new {F : List Addr} {H : Hp} {p : Addr} {o : HO} (h : H p = none) : Gr F H (upd H p o) := fun q u _ e => by
  rw [upd_ne (ne_of_none e h)]
  exact e
theorem Gr.at {F : List Addr} {H : Hp} {p : Addr} {o : HO} (h : p ∈ F) : Gr F H (upd H p o) := fun q u n e => by
  rw [upd_ne (fun z => n (by rw [z]; exact h))]
  exact e
mutual
theorem Da.gr {F : List Addr} {H H' : Hp} (e : Gr F H H') : ∀ {v : V} {d : PyData}, Da F H v d → Da F H' v d
  | _, _, .non => .non
  | _, _, .bl b => .bl b
  | _, _, .int i => .int i
  | _, _, .str x => .str x
  | _, _, .lst n h k => .lst n (e _ _ n h) (Das.gr e k)
  | _, _, .tup n h k => .tup n (e _ _ n h) (Das.gr e k)
  | _, _, .dct n h q k => .dct n (e _ _ n h) q (Das.gr e k)
theorem Das.gr {F : List Addr} {H H' : Hp} (e : Gr F H H') : ∀ {vs : List V} {ds : List PyData}, Das F H vs ds → Das F H' vs ds
  | _, _, .nil => .nil
  | _, _, .cons h k => .cons (Da.gr e h) (Das.gr e k)
end
mutual
theorem Da.bar {F : List Addr} {H : Hp} {p : Addr} (e : H p = none) : ∀ {v : V} {d : PyData}, Da F H v d → Da (p :: F) H v d
  | _, _, .non => .non
  | _, _, .bl b => .bl b
  | _, _, .int i => .int i
  | _, _, .str x => .str x
  | _, _, .lst n h k => .lst (fun m => (List.mem_cons.mp m).elim (fun z => ne_of_none h e z) n) h (Das.bar e k)
  | _, _, .tup n h k => .tup (fun m => (List.mem_cons.mp m).elim (fun z => ne_of_none h e z) n) h (Das.bar e k)
  | _, _, .dct n h q k => .dct (fun m => (List.mem_cons.mp m).elim (fun z => ne_of_none h e z) n) h q (Das.bar e k)
theorem Das.bar {F : List Addr} {H : Hp} {p : Addr} (e : H p = none) : ∀ {vs : List V} {ds : List PyData}, Das F H vs ds → Das (p :: F) H vs ds
  | _, _, .nil => .nil
  | _, _, .cons h k => .cons (Da.bar e h) (Das.bar e k)
end
mutual
theorem Da.less {F G : List Addr} {H : Hp} (s : ∀ p ∈ G, p ∈ F) : ∀ {v : V} {d : PyData}, Da F H v d → Da G H v d
  | _, _, .non => .non
  | _, _, .bl b => .bl b
  | _, _, .int i => .int i
  | _, _, .str x => .str x
  | _, _, .lst n h k => .lst (fun m => n (s _ m)) h (Das.less s k)
  | _, _, .tup n h k => .tup (fun m => n (s _ m)) h (Das.less s k)
  | _, _, .dct n h q k => .dct (fun m => n (s _ m)) h q (Das.less s k)
theorem Das.less {F G : List Addr} {H : Hp} (s : ∀ p ∈ G, p ∈ F) : ∀ {vs : List V} {ds : List PyData}, Das F H vs ds → Das G H vs ds
  | _, _, .nil => .nil
  | _, _, .cons h k => .cons (Da.less s h) (Das.less s k)
end
theorem Das.length {F : List Addr} {H : Hp} : ∀ {vs : List V} {ds : List PyData}, Das F H vs ds → vs.length = ds.length
  | _, _, .nil => rfl
  | _, _, .cons _ k => congrArg (· + 1) k.length
theorem Das.app {F : List Addr} {H : Hp} : ∀ {vs ws : List V} {ds es : List PyData}, Das F H vs ds → Das F H ws es → Das F H (vs ++ ws) (ds ++ es)
  | _, _, _, _, .nil, k => k
  | _, _, _, _, .cons h t, k => .cons h (t.app k)
theorem Das.get {F : List Addr} {H : Hp} : ∀ {vs : List V} {ds : List PyData} {i : Nat} {v : V}, Das F H vs ds → vs[i]? = some v → ∃ d, ds[i]? = some d ∧ Da F H v d
  | _, _, 0, v, .cons (d := d) h t, e => ⟨d, rfl, by cases (show some _ = some v from e); exact h⟩
  | _, _, i + 1, v, .cons h t, e => t.get (i := i) e
theorem Das.of_get {F : List Addr} {H : Hp} : ∀ {vs : List V} {ds : List PyData} {i : Nat} {d : PyData}, Das F H vs ds → ds[i]? = some d → ∃ v, vs[i]? = some v ∧ Da F H v d
  | _, _, 0, d, .cons (v := v) h t, e => ⟨v, rfl, by cases (show some _ = some d from e); exact h⟩
  | _, _, i + 1, d, .cons h t, e => t.of_get (i := i) e
theorem Das.rep {F : List Addr} {H : Hp} {v : V} {d : PyData} (h : Da F H v d) : ∀ n : Nat, Das F H (List.replicate n v) (List.replicate n d)
  | 0 => .nil
  | n + 1 => .cons h (Das.rep h n)
theorem Das.drop {F : List Addr} {H : Hp} : ∀ {vs : List V} {ds : List PyData}, Das F H vs ds → ∀ n : Nat, Das F H (vs.drop n) (ds.drop n)
  | _, _, h, 0 => h
  | _, _, .nil, n + 1 => .nil
  | _, _, .cons _ t, n + 1 => t.drop n
theorem Das.take {F : List Addr} {H : Hp} : ∀ {vs : List V} {ds : List PyData}, Das F H vs ds → ∀ n : Nat, Das F H (vs.take n) (ds.take n)
  | _, _, _, 0 => .nil
  | _, _, .nil, n + 1 => .nil
  | _, _, .cons h t, n + 1 => .cons h (t.take n)
mutual
/-- a list somewhere in it -/
def hasList : PyData → Bool
  | .none | .bool _ | .int _ | .str _ => false
  | .list _ => true
  | .tuple xs => hasListAll xs
  | .dict kvs => hasListKv kvs
def hasListAll : List PyData → Bool
  | [] => false
  | x :: xs => hasList x || hasListAll xs
def hasListKv : List (PyData × PyData) → Bool
  | [] => false
  | (k, v) :: r => hasList k || hasList v || hasListKv r
end
theorem hasListKv_vals : ∀ {ps : List (PyData × PyData)}, hasListKv ps = false → hasListAll (ps.map (·.2)) = false
  | [], _ => rfl
  | (k, v) :: r, h => by
    have h' : (hasList k || hasList v || hasListKv r) = false := h
    simp only [Bool.or_eq_false_iff] at h'
    show (hasList v || hasListAll (r.map (·.2))) = false
    rw [h'.1.2, hasListKv_vals h'.2]
    rfl
theorem reads_keys {P : Program} {w : World} {h : Heap} : ∀ {es : List DictEntry} {kvs : List (Key × Value)}, Pairs (mixKind P w) es kvs →
    ReadsAll h (es.map (·.key)) (kvs.map fun kv => keyD kv.1) []
  | [], [], _ => .nil
  | e :: es, kv :: kvs, p => by
    cases p with
    | cons h1 h2 t =>
      have q := reads_keys (h := h) t
      have z : Reads h e.key (keyD kv.1) [] := by
        rcases keyIs_shape h1 with ⟨i, tk, e1, e2⟩ | ⟨x, tk, e1, e2⟩
        · rw [e1, e2]
          exact Reads.int i tk
        · rw [e1, e2]
          exact Reads.str x tk
      exact ReadsAll.cons z q
theorem pairs_vals {P : Program} {w : World} : ∀ {es : List DictEntry} {kvs : List (Key × Value)}, Pairs (mixKind P w) es kvs → es.map (·.val) = kvs.map (·.2)
  | [], [], _ => rfl
  | e :: es, kv :: kvs, p => by
    cases p with
    | cons h1 h2 t =>
      show e.val :: es.map (·.val) = kv.2 :: kvs.map (·.2)
      rw [h2, pairs_vals t]
theorem kv_parts : ∀ {kvs : List (Key × V)} {vs : List (Key × Value)}, KV kvs vs → kvs.map (fun kv => keyD kv.1) = vs.map (fun kv => keyD kv.1) ∧ Vals (kvs.map (·.2)) (vs.map (·.2)) := by
  intro kvs vs h
  unfold KV at h
  induction h with
  | nil => exact ⟨rfl, .nil⟩
  | @cons p q ps qs h t k =>
    refine ⟨?_, .cons h.2 k.2⟩
    show keyD p.1 :: _ = keyD q.1 :: _
    rw [h.1, k.1]
section
variable {X : Cx} {pins : List (Addr × Obj)} {σ : L2.St} {H : Hp} {s : Shared} {F : List Addr}
mutual
theorem Da.reads (I : Inv X pins σ H s) : ∀ (d : PyData) (v : V) (u : Value), Da F H v d → RelV v u → ∃ as, Reads s.heap u d as ∧ (hasList d = false → sysModules ∉ as)
  | .none, _, _, h, r => by
    cases h
    cases r
    exact ⟨_, Reads.none, fun _ => by simp⟩
  | .bool b, _, _, h, r => by
    cases h
    cases r
    exact ⟨_, Reads.bool b, fun _ => by simp⟩
  | .int i, _, _, h, r => by
    cases h
    obtain ⟨t, rfl⟩ := r
    exact ⟨_, Reads.int i t, fun _ => by simp⟩
  | .str x, _, _, h, r => by
    cases h
    obtain ⟨t, rfl⟩ := r
    exact ⟨_, Reads.str x t, fun _ => by simp⟩
  | .list ds, _, u, h, r => by
    cases h with
    | @lst a xs _ nf ha hd =>
      obtain rfl : u = Value.ref a := r
      obtain ⟨its, rv, pl, _⟩ := I.list (.inl (.inl ha))
      obtain ⟨as, hr, _⟩ := Das.reads I ds xs its hd rv
      obtain ⟨o, ho, hc, n, hn⟩ := pl.isList
      exact ⟨_, Reads.list ho hc hn (by simpa using hr), fun z => nomatch z⟩
  | .tuple ds, _, u, h, r => by
    cases h with
    | @tup a xs _ nf ha hd =>
      obtain rfl : u = Value.ref a := r
      obtain ⟨its, rv, pl, _⟩ := I.tuple ha.seq
      obtain ⟨as, hr, hn⟩ := Das.reads I ds xs its hd rv
      obtain ⟨o, ho, hc, n, hdt⟩ := pl
      exact ⟨_, Reads.tuple ho hc hdt (by simpa using hr), fun z => hn z⟩
  | .dict ps, _, u, h, r => by
    cases h with
    | @dct a kvs _ nf ha hk hd =>
      obtain rfl : u = Value.ref a := r
      obtain ⟨_, nm, vs, kv, o, es, ep, ho, hx, hdt, _, hp, _⟩ := (show ObjOk X.prog X.w H s.heap a (.dK kvs) from I.hok a _ ha)
      obtain ⟨e1, rv⟩ := kv_parts kv
      obtain ⟨as, hr, hn⟩ := DasKv.reads I ps (kvs.map (·.2)) (vs.map (·.2)) hd rv
      have q1 := reads_keys (h := s.heap) hp
      rw [← e1, ← hk] at q1
      rw [← pairs_vals hp] at hr
      refine ⟨_, Reads.dict ho hx.1 hdt q1 hr, fun z m => ?_⟩
      rcases List.mem_append.mp m with m | m
      · rcases List.mem_cons.mp m with m | m
        · rw [← m] at nm
          simp at nm
        · exact nomatch m
      · exact hn (hasListKv_vals z) m
theorem Das.reads (I : Inv X pins σ H s) : ∀ (ds : List PyData) (vs : List V) (us : List Value), Das F H vs ds → Vals vs us → ∃ as, ReadsAll s.heap us ds as ∧ (hasListAll ds = false → sysModules ∉ as)
  | [], _, _, h, r => by
    cases h
    cases r
    exact ⟨_, ReadsAll.nil, fun _ => by simp⟩
  | d :: ds, _, _, h, r => by
    cases h with
    | cons h1 h2 =>
      cases r with
      | cons r1 r2 =>
        obtain ⟨as, q1, n1⟩ := Da.reads I d _ _ h1 r1
        obtain ⟨bs, q2, n2⟩ := Das.reads I ds _ _ h2 r2
        refine ⟨_, ReadsAll.cons q1 q2, fun z m => ?_⟩
        have z' : (hasList d || hasListAll ds) = false := z
        simp only [Bool.or_eq_false_iff] at z'
        rcases List.mem_append.mp m with m | m
        · exact n1 z'.1 m
        · exact n2 z'.2 m
theorem DasKv.reads (I : Inv X pins σ H s) : ∀ (ps : List (PyData × PyData)) (vs : List V) (us : List Value), Das F H vs (ps.map (·.2)) → Vals vs us → ∃ as, ReadsAll s.heap us (ps.map (·.2)) as ∧ (hasListAll (ps.map (·.2)) = false → sysModules ∉ as)
  | [], _, _, h, r => by
    cases h
    cases r
    exact ⟨_, ReadsAll.nil, fun _ => by simp⟩
  | (k, d) :: ps, _, _, h, r => by
    cases h with
    | cons h1 h2 =>
      cases r with
      | cons r1 r2 =>
        obtain ⟨as, q1, n1⟩ := Da.reads I d _ _ h1 r1
        obtain ⟨bs, q2, n2⟩ := DasKv.reads I ps _ _ h2 r2
        refine ⟨_, ReadsAll.cons q1 q2, fun z m => ?_⟩
        have z' : (hasList d || hasListAll (ps.map (·.2))) = false := z
        simp only [Bool.or_eq_false_iff] at z'
        rcases List.mem_append.mp m with m | m
        · exact n1 z'.1 m
        · exact n2 z'.2 m
end
end
/-- what can be shown -/
structure Shown (d : PyData) : Prop where
  ok : d.showable = true
  deep : d.depth ≤ 60
  len : d.shown.length ≤ sizeLine
  kind : d.hasDict = true → hasList d = false
def rRepr : List V → Hp → VK → Prop := fun xs H Q => ∃ F v d, xs = [v] ∧ Da F H v d ∧ Shown d ∧ Q (.str d.shown) H
theorem call_repr {X : Cx} (ng : Ng X.A) (hu : X.A.units + 64 < cLine) : CallR X (.builtin "repr") rRepr := by
  intro pins s σ H xs us Q I r h
  obtain ⟨F, v, d, rfl, hd, sh, q⟩ := h
  cases r with
  | @cons _ u _ _ r1 r2 =>
    cases r2
    obtain ⟨as, hr, hn⟩ := Da.reads I d v u hd r1
    have fin : ∀ (h' : Heap) (tk : Tok) (tt : Nat), (∀ b o, s.heap.get? b = some o → h'.get? b = some o) → EP X pins σ Q (.str d.shown tk) { s with heap := h', toks := tt } :=
      fun h' tk tt k => ⟨.str d.shown, H, I.kept k, ⟨tk, rfl⟩, q⟩
    cases hd with
    | non => cases r1; exact P.repr_of_none (fin _ _ _ fun _ _ e => e)
    | bl b => cases r1; exact P.repr_of_bool (fin _ _ _ fun _ _ e => e)
    | int i =>
      obtain ⟨t, rfl⟩ := r1
      exact P.repr_of_int (by have := sh.ok; simpa [PyData.showable] using this) (fin _ _ _ fun _ _ e => e)
    | str x =>
      obtain ⟨t, rfl⟩ := r1
      exact P.repr_of_str (fin _ _ _ fun _ _ e => e) sh.len
    | @lst a _ _ _ ha hb =>
      obtain rfl : u = Value.ref a := r1
      exact repr_of_reads' hr sh.ok (fun z => hn (sh.kind z)) ng (by have := sh.deep; omega) (fun _ _ e => e) (fun h' u tk k => fin h' u tk k) sh.len
    | @tup a _ _ _ ha hb =>
      obtain rfl : u = Value.ref a := r1
      exact repr_of_reads' hr sh.ok (fun z => hn (sh.kind z)) ng (by have := sh.deep; omega) (fun _ _ e => e) (fun h' u tk k => fin h' u tk k) sh.len
    | @dct a _ _ _ ha hb hc =>
      obtain rfl : u = Value.ref a := r1
      exact repr_of_reads' hr sh.ok (fun z => hn (sh.kind z)) ng (by have := sh.deep; omega) (fun _ _ e => e) (fun h' u tk k => fin h' u tk k) sh.len
end Gd

/-! a small logic over data: what an expression gives, as data; what a block does, over slots told as data -/
namespace Gd
open PySem PySem.Spec PyProof.Rows L2
abbrev Bag := Option (Addr × Addr)
def ob : Bag → List Addr
  | some (b, _) => [b]
  | none => []
/-- the bag: its numbers, and its list of cells at l -/
def Bg (b l : Addr) (H : Hp) : Prop := ∃ (n0 n1 n2 : Int) (ns : List Int),
  H b = some (.lst [.int n0, .int n1, .int n2, .ref l]) ∧ H l = some (.lst (ns.map V.int)) ∧ ns.length ≤ 100
abbrev Ch (B : Bag) (H H' : Hp) : Prop := Gr (ob B) H H'
structure St (Hi : List Hp) (F : List Addr) (B : Bag) (H : Hp) : Prop where
  ch : ∀ A ∈ Hi, Ch B A H
  tr : ∀ p ∈ F, H p ≠ none
  bag : ∀ b l, B = some (b, l) → b ∈ F ∧ l ∈ F ∧ b ≠ l ∧ Bg b l H
/-- things of one kind, known where no address of F is touched -/
structure Fam where
  R : List Addr → V → Hp → Prop
  gr : ∀ (F : List Addr) (v : V) (H H' : Hp), Gr F H H' → R F v H → R F v H'
  bar : ∀ (F : List Addr) (p : Addr) (v : V) (H : Hp), H p = none → R F v H → R (p :: F) v H
  less : ∀ (F G : List Addr) (v : V) (H : Hp), (∀ p ∈ G, p ∈ F) → R F v H → R G v H
inductive Ab where
  | any
  | bag
  | dat (d : PyData)
  | obj (R : V → Hp → Prop)
  | fam (R : Fam)
def Stab (F : List Addr) (R : V → Hp → Prop) : Prop := ∀ v H H', Gr F H H' → R v H → R v H'
def SlOk (F : List Addr) (B : Bag) (H : Hp) : Ab → Option V → Prop
  | .any, _ => True
  | .bag, o => ∃ b l, B = some (b, l) ∧ o = some (.ref b)
  | .dat d, o => ∃ v, o = some v ∧ Da F H v d
  | .obj R, o => Stab F R ∧ ∃ v, o = some v ∧ R v H
  | .fam R, o => ∃ v, o = some v ∧ R.R F v H
structure Sl (F : List Addr) (B : Bag) (H : Hp) (σ : L2.St) (ab : List Ab) : Prop where
  len : σ.length = ab.length
  ok : ∀ (i : Nat) (a : Ab) (o : Option V), ab[i]? = some a → σ[i]? = some o → SlOk F B H a o
section
variable {Hi : List Hp} {H H' : Hp} {F : List Addr} {B : Bag} {σ : L2.St} {ab : List Ab}
theorem ob_sub (s : St Hi F B H) : ∀ p ∈ ob B, p ∈ F := by
  intro p m
  match B, s, m with
  | some (b, l), s, m =>
    have e : p = b := by simpa [ob] using m
    rw [e]
    exact (s.bag b l rfl).1
  | none, s, m => exact nomatch m
theorem Ch.wide (c : Ch B H H') (s : St Hi F B H) : Gr F H H' := Gr.wide c (ob_sub s)
theorem SlOk.gr {a : Ab} {o : Option V} (g : Gr F H H') : SlOk F B H a o → SlOk F B H' a o := by
  cases a with
  | any => exact fun h => h
  | bag => exact fun h => h
  | dat d => exact fun ⟨v, e, h⟩ => ⟨v, e, h.gr g⟩
  | obj R => exact fun ⟨s, v, e, h⟩ => ⟨s, v, e, s v H H' g h⟩
  | fam R => exact fun ⟨v, e, h⟩ => ⟨v, e, R.gr F v H H' g h⟩
theorem Sl.gr (g : Gr F H H') (h : Sl F B H σ ab) : Sl F B H' σ ab := ⟨h.len, fun i a o e1 e2 => (h.ok i a o e1 e2).gr g⟩
theorem Sl.set {i : Nat} {a : Ab} {v : V} (h : Sl F B H σ ab) (k : SlOk F B H a (some v)) : Sl F B H (σ.set i (some v)) (ab.set i a) := by
  refine ⟨by rw [List.length_set, List.length_set]; exact h.len, fun j a' o e1 e2 => ?_⟩
  by_cases ij : i = j
  · subst ij
    rw [List.getElem?_set] at e1 e2
    simp only [if_pos] at e1 e2
    split at e1
    · split at e2
      · cases e1
        cases e2
        exact k
      · cases e2
    · cases e1
  · rw [List.getElem?_set_ne ij] at e1 e2
    exact h.ok j a' o e1 e2
theorem Sl.get {i : Nat} {a : Ab} (h : Sl F B H σ ab) (e : ab[i]? = some a) : ∃ o, σ[i]? = some o ∧ SlOk F B H a o := by
  have l : i < σ.length := by
    rw [h.len]
    exact (List.getElem?_eq_some_iff.mp e).1
  exact ⟨σ[i], List.getElem?_eq_getElem l, h.ok i a _ e (List.getElem?_eq_getElem l)⟩
theorem Sl.dat {i : Nat} {d : PyData} (h : Sl F B H σ ab) (e : ab[i]? = some (.dat d)) : ∃ v, σ[i]? = some (some v) ∧ Da F H v d := by
  obtain ⟨o, e2, v, ev, k⟩ := h.get e
  exact ⟨v, by rw [e2, ev], k⟩
theorem Sl.obj {i : Nat} {R : V → Hp → Prop} (h : Sl F B H σ ab) (e : ab[i]? = some (.obj R)) : ∃ v, σ[i]? = some (some v) ∧ R v H := by
  obtain ⟨o, e2, _, v, ev, k⟩ := h.get e
  exact ⟨v, by rw [e2, ev], k⟩
theorem Sl.fam {i : Nat} {R : Fam} (h : Sl F B H σ ab) (e : ab[i]? = some (.fam R)) : ∃ v, σ[i]? = some (some v) ∧ R.R F v H := by
  obtain ⟨o, e2, v, ev, k⟩ := h.get e
  exact ⟨v, by rw [e2, ev], k⟩
theorem Sl.bag {i : Nat} (h : Sl F B H σ ab) (e : ab[i]? = some .bag) : ∃ b l, B = some (b, l) ∧ σ[i]? = some (some (.ref b)) := by
  obtain ⟨o, e2, b, l, eb, eo⟩ := h.get e
  exact ⟨b, l, eb, by rw [e2, eo]⟩
/-- the state grows where nothing but the bag changes -/
theorem St.to (s : St Hi F B H) (c : Ch B H H') (k : ∀ b l, B = some (b, l) → Bg b l H') : St Hi F B H' := by
  refine ⟨fun A m => (s.ch A m).trans c, fun p m => ?_, fun b l e => ?_⟩
  · by_cases po : p ∈ ob B
    · match B, s, c, k, po with
      | some (b, l), s, c, k, po =>
        have e : p = b := by simpa [ob] using po
        obtain ⟨n0, n1, n2, ns, hb, hl⟩ := k b l rfl
        rw [e, hb]
        exact fun z => nomatch z
      | none, s, c, k, po => exact nomatch po
    · cases q : H p with
      | none => exact absurd q (s.tr p m)
      | some o =>
        rw [c p o po q]
        exact fun z => nomatch z
  · obtain ⟨b1, l1, n, _⟩ := s.bag b l e
    exact ⟨b1, l1, n, k b l e⟩
theorem St.anch (s : St Hi F B H) : St [H] F B H := ⟨fun A m => by
  have e : A = H := by simpa using m
  rw [e]
  exact Gr.refl _ _, s.tr, s.bag⟩
theorem St.push (s : St Hi F B H) : St (H :: Hi) F B H := ⟨fun A m => by
  rcases List.mem_cons.mp m with e | m
  · rw [e]
    exact Gr.refl _ _
  · exact s.ch A m, s.tr, s.bag⟩
theorem St.sub {Hj : List Hp} (h : ∀ A ∈ Hi, A ∈ Hj) (s : St Hj F B H) : St Hi F B H := ⟨fun A m => s.ch A (h A m), s.tr, s.bag⟩
theorem Bg.gr {b l : Addr} (h : Bg b l H) (g : Gr [] H H') : Bg b l H' := by
  obtain ⟨n0, n1, n2, ns, hb, hl, hz⟩ := h
  exact ⟨n0, n1, n2, ns, g _ _ (fun z => nomatch z) hb, g _ _ (fun z => nomatch z) hl, hz⟩
theorem St.same (s : St Hi F B H) (g : Gr [] H H') : St Hi F B H' := s.to (g.wide fun _ z => nomatch z) fun b l e => (s.bag b l e).2.2.2.gr g
theorem ch_of {H H' : Hp} (g : Gr [] H H') : Ch B H H' := g.wide fun _ z => nomatch z
theorem St.nF (s : St Hi F B H) {p : Addr} (h : H p = none) : p ∉ F := fun m => s.tr p m h
end
/-- what an expression gives, as data -/
def Ev (Hi : List Hp) (F : List Addr) (B : Bag) (ab : List Ab) (te : TE) (φ : PyData → Prop) : Prop :=
  ∀ (σ : L2.St) (H : Hp) (Q : VK), St Hi F B H → Sl F B H σ ab →
    (∀ v d H', Ch B H H' → St Hi F B H' → Da F H' v d → φ d → Q v H') → te σ H Q
def Evs (Hi : List Hp) (F : List Addr) (B : Bag) (ab : List Ab) (ta : TA) (φ : List PyData → Prop) : Prop :=
  ∀ (σ : L2.St) (H : Hp) (Q : List V → Hp → Prop), St Hi F B H → Sl F B H σ ab →
    (∀ vs ds H', Ch B H H' → St Hi F B H' → Das F H' vs ds → φ ds → Q vs H') → ta σ H Q
def EvT (Hi : List Hp) (F : List Addr) (B : Bag) (ab : List Ab) (tt : TT) (φ : Bool → Prop) : Prop :=
  ∀ (σ : L2.St) (H : Hp) (Q : Bool → Hp → Prop), St Hi F B H → Sl F B H σ ab →
    (∀ c H', Ch B H H' → St Hi F B H' → φ c → Q c H') → tt σ H Q
abbrev Ek (Hi : List Hp) (F : List Addr) (B : Bag) (ab : List Ab) (te : TE) (d : PyData) : Prop := Ev Hi F B ab te (· = d)
abbrev Eks (Hi : List Hp) (F : List Addr) (B : Bag) (ab : List Ab) (ta : TA) (ds : List PyData) : Prop := Evs Hi F B ab ta (· = ds)
abbrev EkT (Hi : List Hp) (F : List Addr) (B : Bag) (ab : List Ab) (tt : TT) (c : Bool) : Prop := EvT Hi F B ab tt (· = c)
section
variable {Hi : List Hp} {F : List Addr} {B : Bag} {ab : List Ab} {ta tb te : TE} {tas : TA} {φ ψ : PyData → Prop} {d e : PyData} {ds : List PyData} {t u : TT}
theorem Ev.imp (h : Ev Hi F B ab te φ) (i : ∀ d, φ d → ψ d) : Ev Hi F B ab te ψ := fun σ H Q s l q => h σ H Q s l fun v d H' c s' a p => q v d H' c s' a (i d p)
theorem Ek.is (h : Ek Hi F B ab te d) (q : d = e) : Ek Hi F B ab te e := q ▸ h
theorem EvT.imp {φ ψ : Bool → Prop} (h : EvT Hi F B ab t φ) (i : ∀ d, φ d → ψ d) : EvT Hi F B ab t ψ := fun σ H Q s l q => h σ H Q s l fun c H' k s' p => q c H' k s' (i c p)
theorem ev_var {i : Nat} (h : ab[i]? = some (.dat d)) : Ek Hi F B ab (tVar i) d := fun σ H Q s l q => by
  obtain ⟨v, e, k⟩ := l.dat h
  exact ⟨v, e, q v d H (Gr.refl _ H) s k rfl⟩
theorem ev_int {i : Int} : Ek Hi F B ab (tC (.int i)) (.int i) := fun σ H Q s l q => q _ _ H (Gr.refl _ H) s (.int i) rfl
theorem ev_str {x : Str} : Ek Hi F B ab (tC (.str x)) (.str x) := fun σ H Q s l q => q _ _ H (Gr.refl _ H) s (.str x) rfl
theorem ev_bl {b : Bool} : Ek Hi F B ab (tC (.bl b)) (.bool b) := fun σ H Q s l q => q _ _ H (Gr.refl _ H) s (.bl b) rfl
theorem ev_non : Ek Hi F B ab (tC .non) .none := fun σ H Q s l q => q _ _ H (Gr.refl _ H) s .non rfl
theorem evs_nil : Eks Hi F B ab tNil [] := fun σ H Q s l q => q _ _ H (Gr.refl _ H) s .nil rfl
theorem evs_cons {χ : List PyData → Prop} (h : Ev Hi F B ab te φ) (k : Evs Hi F B ab tas χ) : Evs Hi F B ab (tCons te tas) (fun ds => ∃ d r, ds = d :: r ∧ φ d ∧ χ r) := fun σ H Q s l q =>
  h σ H _ s l fun v d H1 c1 s1 a1 p1 => k σ H1 _ s1 (l.gr (Ch.wide c1 s)) fun vs r H2 c2 s2 a2 p2 => q _ (d :: r) H2 (c1.trans c2) s2 (.cons (a1.gr (Ch.wide c2 s1)) a2) ⟨d, r, rfl, p1, p2⟩
theorem eks_cons (h : Ek Hi F B ab te d) (k : Eks Hi F B ab tas ds) : Eks Hi F B ab (tCons te tas) (d :: ds) := fun σ H Q s l q =>
  evs_cons h k σ H Q s l fun vs r H' c s' a ⟨x, y, e1, e2, e3⟩ => q vs r H' c s' a (by rw [e1, e2, e3])
theorem ev_tup {χ : List PyData → Prop} (h : Evs Hi F B ab tas χ) (z : ∀ r, χ r → r.length ≤ 100000) : Ev Hi F B ab (tTup tas) (fun d => ∃ r, d = .tuple r ∧ χ r) := fun σ H Q s l q =>
  h σ H _ s l fun vs r H1 c1 s1 a1 p1 => ⟨by rw [a1.length]; exact Nat.le_trans (z r p1) (by decide), fun p hp => by
    have g : Gr [] H1 (upd H1 p (.tup vs)) := Gr.new hp
    exact q _ (.tuple r) _ (c1.trans (ch_of g)) (s1.same g) (.tup (s1.nF hp) upd_same (a1.gr (Gr.new hp))) ⟨r, rfl, p1⟩⟩
theorem ev_lst {χ : List PyData → Prop} (h : Evs Hi F B ab tas χ) (z : ∀ r, χ r → r.length ≤ 100000) : Ev Hi F B ab (tLst tas) (fun d => ∃ r, d = .list r ∧ χ r) := fun σ H Q s l q =>
  h σ H _ s l fun vs r H1 c1 s1 a1 p1 => ⟨by rw [a1.length]; exact Nat.le_trans (z r p1) (by decide), fun p hp => by
    have g : Gr [] H1 (upd H1 p (.lst vs)) := Gr.new hp
    exact q _ (.list r) _ (c1.trans (ch_of g)) (s1.same g) (.lst (s1.nF hp) upd_same (a1.gr (Gr.new hp))) ⟨r, rfl, p1⟩⟩
theorem ek_tup (h : Eks Hi F B ab tas ds) (z : ds.length ≤ 100000 := by first | decide | simp) : Ek Hi F B ab (tTup tas) (.tuple ds) := (ev_tup h fun r q => q ▸ z).imp fun d ⟨r, e, p⟩ => by rw [e, p]
theorem ek_lst (h : Eks Hi F B ab tas ds) (z : ds.length ≤ 100000 := by first | decide | simp) : Ek Hi F B ab (tLst tas) (.list ds) := (ev_lst h fun r q => q ▸ z).imp fun d ⟨r, e, p⟩ => by rw [e, p]
/-! operators -/
/-- a two-place operation on data: from d and e it makes what φ says, changing nothing -/
def OpD (r : R2) (d e : PyData) (φ : PyData → Prop) : Prop := ∀ (F : List Addr) (H : Hp) (x y : V) (Q : VK), (∀ p ∈ F, H p ≠ none) → Da F H x d → Da F H y e →
  (∀ v z H', Gr [] H H' → Da F H' v z → φ z → Q v H') → r x y H Q
theorem ev_op {r : R2} {χ : PyData → Prop} (h1 : Ev Hi F B ab ta φ) (h2 : Ev Hi F B ab tb ψ) (ho : ∀ d e, φ d → ψ e → OpD r d e χ) : Ev Hi F B ab (tOp r ta tb) χ := fun σ H Q s l q =>
  h1 σ H _ s l fun x d H1 c1 s1 a1 p1 => h2 σ H1 _ s1 (l.gr (Ch.wide c1 s)) fun y e H2 c2 s2 a2 p2 =>
    ho d e p1 p2 F H2 x y Q s2.tr (a1.gr (Ch.wide c2 s1)) a2 fun v z H3 g a3 p3 => q v z H3 ((c1.trans c2).trans (ch_of g)) (s2.same g) a3 p3
theorem ek_op {r : R2} {z : PyData} (h1 : Ek Hi F B ab ta d) (h2 : Ek Hi F B ab tb e) (ho : OpD r d e (· = z)) : Ek Hi F B ab (tOp r ta tb) z := ev_op h1 h2 fun d' e' q1 q2 => q1 ▸ q2 ▸ ho
theorem op_scal {r : R2} {z : PyData} (h : ∀ (F : List Addr) (H : Hp) (x y v : V) (Q : VK), Da F H x d → Da F H y e → (∀ w, Da F H w z → Q w H) → r x y H Q) : OpD r d e (· = z) := fun F H x y Q _ a1 a2 q =>
  h F H x y .non Q a1 a2 fun w k => q w z H (Gr.refl _ H) k rfl
theorem od_I0 {g : Int → Int → Int} {i j : Int} : OpD (rI0 fun i j => .int (g i j)) (.int i) (.int j) (· = .int (g i j)) := fun F H x y Q _ a1 a2 q => by
  cases a1
  cases a2
  exact ⟨i, j, rfl, rfl, q _ _ H (Gr.refl _ H) (.int _) rfl⟩
theorem od_B0 {g : Int → Int → Bool} {i j : Int} : OpD (rI0 fun i j => .bl (g i j)) (.int i) (.int j) (· = .bool (g i j)) := fun F H x y Q _ a1 a2 q => by
  cases a1
  cases a2
  exact ⟨i, j, rfl, rfl, q _ _ H (Gr.refl _ H) (.bl _) rfl⟩
theorem od_I {C : Int → Int → Prop} {g : Int → Int → Int} {i j : Int} (c : C i j) : OpD (rI C fun i j => .int (g i j)) (.int i) (.int j) (· = .int (g i j)) := fun F H x y Q _ a1 a2 q => by
  cases a1
  cases a2
  exact ⟨i, j, rfl, rfl, c, q _ _ H (Gr.refl _ H) (.int _) rfl⟩
/-! calls -/
/-- a call on data values (built-ins) -/
def CaD (r : List V → Hp → VK → Prop) (ds : List PyData) (φ : PyData → Prop) : Prop := ∀ (F : List Addr) (H : Hp) (vs : List V) (Q : VK), (∀ p ∈ F, H p ≠ none) → Das F H vs ds →
  (∀ v z H', Gr [] H H' → Da F H' v z → φ z → Q v H') → r vs H Q
theorem ev_cb {r : List V → Hp → VK → Prop} {χ : List PyData → Prop} (h : Evs Hi F B ab tas χ) (hr : ∀ ds, χ ds → CaD r ds φ) : Ev Hi F B ab (tCB r tas) φ := fun σ H Q s l q =>
  h σ H _ s l fun vs ds H1 c1 s1 a1 p1 => hr ds p1 F H1 vs Q s1.tr a1 fun v z H2 g a2 p2 => q v z H2 (c1.trans (ch_of g)) (s1.same g) a2 p2
/-- a pure def's promise, over data -/
def SpP (pre : List PyData → Prop) (post : List PyData → PyData → Prop) : Sp := fun vs H Q _ => ∃ (F : List Addr) (ds : List PyData), (∀ p ∈ F, H p ≠ none) ∧ Das F H vs ds ∧ pre ds ∧
  ∀ v d H', Gr [] H H' → Da F H' v d → post ds d → Q v H'
theorem ev_callP {pre : List PyData → Prop} {post : List PyData → PyData → Prop} {χ : List PyData → Prop} {E : XK} (h : Evs Hi F B ab tas χ) (hp : ∀ ds, χ ds → pre ds) (hq : ∀ ds d, χ ds → post ds d → φ d) :
    Ev Hi F B ab (tCall (SpP pre post) [] E tas) φ := fun σ H Q s l q =>
  h σ H _ s l fun vs ds H1 c1 s1 a1 p1 => by
    rw [List.append_nil]
    exact ⟨F, ds, s1.tr, a1, hp ds p1, fun v d H2 g a2 p2 => q v d H2 (c1.trans (ch_of g)) (s1.same g) a2 (hq ds d p1 p2)⟩
/-- a drawing def's promise: the bag first, then data -/
def SpB (pre : List PyData → Prop) (post : List PyData → PyData → Prop) : Sp := fun vs H Q _ => ∃ (F : List Addr) (b l : Addr) (ws : List V) (ds : List PyData), vs = .ref b :: ws ∧
  St [H] F (some (b, l)) H ∧ Das F H ws ds ∧ pre ds ∧ ∀ v d H', St [H] F (some (b, l)) H' → Da F H' v d → post ds d → Q v H'
theorem ev_callB {i : Nat} {pre : List PyData → Prop} {post : List PyData → PyData → Prop} {χ : List PyData → Prop} {E : XK} (hb : ab[i]? = some .bag) (h : Evs Hi F B ab tas χ) (hp : ∀ ds, χ ds → pre ds) (hq : ∀ ds d, χ ds → post ds d → φ d) :
    Ev Hi F B ab (tCall (SpB pre post) [] E (tCons (tVar i) tas)) φ := fun σ H Q s l q => by
  obtain ⟨b, c, eb, es⟩ := l.bag hb
  subst eb
  refine ⟨.ref b, es, h σ H _ s l fun vs ds H1 c1 s1 a1 p1 => ?_⟩
  show SpB pre post ((V.ref b :: vs) ++ []) H1 Q E
  rw [List.append_nil]
  refine ⟨F, b, c, vs, ds, rfl, s1.anch, a1, hp ds p1, fun v d H2 s2 a2 p2 => ?_⟩
  have c2 := s2.ch H1 List.mem_cons_self
  exact q v d H2 (c1.trans c2) (s1.to c2 fun b' l' e => (s2.bag b' l' e).2.2.2) a2 (hq ds d p1 p2)
/-! tests -/
theorem et_test {φ : Bool → Prop} (h : Ev Hi F B ab te (fun d => ∃ c, d = .bool c ∧ φ c)) : EvT Hi F B ab (tTest te) φ := fun σ H Q s l q => h σ H _ s l fun v d H1 c1 s1 a1 ⟨c, e, p⟩ => by
  subst e
  cases a1
  exact ⟨c, rfl, q c H1 c1 s1 p⟩
theorem et_B {φ : Bool → Prop} (h : Ev Hi F B ab te (fun d => ∃ c, d = .bool c ∧ φ c)) : EvT Hi F B ab (tB te) φ := et_test h
theorem etk_test {c : Bool} (h : Ek Hi F B ab te (.bool c)) : EkT Hi F B ab (tTest te) c := et_test (h.imp fun d e => ⟨c, e, rfl⟩)
theorem etk_B {c : Bool} (h : Ek Hi F B ab te (.bool c)) : EkT Hi F B ab (tB te) c := et_test (h.imp fun d e => ⟨c, e, rfl⟩)
theorem etk_not {c : Bool} (h : EkT Hi F B ab t c) : EkT Hi F B ab (tNot t) (!c) := fun σ H Q s l q => h σ H _ s l fun k H1 c1 s1 p => q _ H1 c1 s1 (by rw [p])
theorem etk_and {a b : Bool} (h1 : EkT Hi F B ab t a) (h2 : a = true → EkT Hi F B ab u b) : EkT Hi F B ab (tAnd t u) (a && b) := fun σ H Q s l q => h1 σ H _ s l fun k H1 c1 s1 p => by
  subst p
  cases k with
  | true => exact iteT (h2 rfl σ H1 _ s1 (l.gr (Ch.wide c1 s)) fun k2 H2 c2 s2 p2 => q k2 H2 (c1.trans c2) s2 (by rw [p2]; rfl))
  | false => exact iteF (q _ H1 c1 s1 rfl)
theorem etk_or {a b : Bool} (h1 : EkT Hi F B ab t a) (h2 : a = false → EkT Hi F B ab u b) : EkT Hi F B ab (tOr t u) (a || b) := fun σ H Q s l q => h1 σ H _ s l fun k H1 c1 s1 p => by
  subst p
  cases k with
  | true => exact iteT (q _ H1 c1 s1 rfl)
  | false => exact iteF (h2 rfl σ H1 _ s1 (l.gr (Ch.wide c1 s)) fun k2 H2 c2 s2 p2 => q k2 H2 (c1.trans c2) s2 (by rw [p2]; rfl))
theorem ek_andV {a b : Bool} (h1 : Ek Hi F B ab ta (.bool a)) (h2 : a = true → Ek Hi F B ab tb (.bool b)) : Ek Hi F B ab (tAndV ta tb) (.bool (a && b)) := fun σ H Q s l q => h1 σ H _ s l fun v d H1 c1 s1 a1 p => by
  subst p
  cases a1
  refine ⟨a, rfl, ?_⟩
  cases a with
  | true => exact iteT (h2 rfl σ H1 _ s1 (l.gr (Ch.wide c1 s)) fun k2 d2 H2 c2 s2 a2 p2 => q k2 d2 H2 (c1.trans c2) s2 a2 p2)
  | false => exact iteF (q _ _ H1 c1 s1 (.bl false) rfl)
theorem ek_orV {a b : Bool} (h1 : Ek Hi F B ab ta (.bool a)) (h2 : a = false → Ek Hi F B ab tb (.bool b)) : Ek Hi F B ab (tOrV ta tb) (.bool (a || b)) := fun σ H Q s l q => h1 σ H _ s l fun v d H1 c1 s1 a1 p => by
  subst p
  cases a1
  refine ⟨a, rfl, ?_⟩
  cases a with
  | true => exact iteT (q _ _ H1 c1 s1 (.bl true) rfl)
  | false => exact iteF (h2 rfl σ H1 _ s1 (l.gr (Ch.wide c1 s)) fun k2 d2 H2 c2 s2 a2 p2 => q k2 d2 H2 (c1.trans c2) s2 a2 p2)
theorem ek_notV {a : Bool} (h1 : Ek Hi F B ab ta (.bool a)) : Ek Hi F B ab (tNotV ta) (.bool (!a)) := fun σ H Q s l q => h1 σ H _ s l fun v d H1 c1 s1 a1 p => by
  subst p
  cases a1
  exact ⟨a, rfl, q _ _ H1 c1 s1 (.bl _) rfl⟩
theorem ev_if {χ : Bool → Prop} (h : EvT Hi F B ab t χ) (h1 : χ true → Ev Hi F B ab ta φ) (h2 : χ false → Ev Hi F B ab tb φ) : Ev Hi F B ab (tIf t ta tb) φ := fun σ H Q s l q => h σ H _ s l fun k H1 c1 s1 p => by
  cases k with
  | true => exact iteT (h1 p σ H1 _ s1 (l.gr (Ch.wide c1 s)) fun k2 d2 H2 c2 s2 a2 p2 => q k2 d2 H2 (c1.trans c2) s2 a2 p2)
  | false => exact iteF (h2 p σ H1 _ s1 (l.gr (Ch.wide c1 s)) fun k2 d2 H2 c2 s2 a2 p2 => q k2 d2 H2 (c1.trans c2) s2 a2 p2)
/-! blocks -/
def OkK (Hi : List Hp) (F : List Addr) (B : Bag) (K : L2.St → Hp → Prop) (ab : List Ab) : Prop := ∀ (σ : L2.St) (H : Hp), St Hi F B H → Sl F B H σ ab → K σ H
abbrev Ok (Hi : List Hp) (F : List Addr) (B : Bag) (ts : TS) (D : Ends) (ab : List Ab) : Prop := OkK Hi F B (ts D) ab
variable {ts us : TS} {D : Ends}
theorem ok_seq (h : Ok Hi F B ts { D with nx := us D } ab) : Ok Hi F B (tSeq ts us) D ab := h
theorem ok_next (h : OkK Hi F B D.nx ab) : Ok Hi F B tNext D ab := h
theorem ok_asg {i : Nat} (h : Ev Hi F B ab te φ) (k : ∀ d, φ d → OkK Hi F B D.nx (ab.set i (.dat d))) : Ok Hi F B (tAsg te (gName i)) D ab := fun σ H s l =>
  h σ H _ s l fun v d H1 c1 s1 a1 p => k d p _ H1 s1 ((l.gr (Ch.wide c1 s)).set ⟨v, rfl, a1⟩)
theorem ok_asgK {i : Nat} (h : Ek Hi F B ab te d) (k : OkK Hi F B D.nx (ab.set i (.dat d))) : Ok Hi F B (tAsg te (gName i)) D ab := ok_asg h fun d' e => e ▸ k
theorem ok_ret (h : Ev Hi F B ab te φ) (k : ∀ v d H, St Hi F B H → Da F H v d → φ d → D.rt v H) : Ok Hi F B (tRet te) D ab := fun σ H s l =>
  h σ H _ s l fun v d H1 c1 s1 a1 p => k v d H1 s1 a1 p
theorem ok_if {χ : Bool → Prop} (h : EvT Hi F B ab t χ) (h1 : χ true → Ok Hi F B ts D ab) (h2 : χ false → Ok Hi F B us D ab) : Ok Hi F B (tIfS t ts us) D ab := fun σ H s l =>
  h σ H _ s l fun c H1 c1 s1 p => by
    cases c with
    | true => exact iteT (h1 p σ H1 s1 (l.gr (Ch.wide c1 s)))
    | false => exact iteF (h2 p σ H1 s1 (l.gr (Ch.wide c1 s)))
theorem ok_ifK {c : Bool} (h : EkT Hi F B ab t c) (h1 : c = true → Ok Hi F B ts D ab) (h2 : c = false → Ok Hi F B us D ab) : Ok Hi F B (tIfS t ts us) D ab := ok_if h (fun e => h1 e.symm) fun e => h2 e.symm
theorem ok_drop (h : Ev Hi F B ab te φ) (k : OkK Hi F B D.nx ab) : Ok Hi F B (tDrop te) D ab := fun σ H s l =>
  h σ H _ s l fun v d H1 c1 s1 a1 p => k _ H1 s1 (l.gr (Ch.wide c1 s))
/-- x, y = e, f -/
theorem ok_par {i j : Nat} {χ : List PyData → Prop} (h : Evs Hi F B ab tas χ) (two : ∀ ds, χ ds → ds.length = 2) (k : ∀ d e, χ [d, e] → OkK Hi F B D.nx ((ab.set i (.dat d)).set j (.dat e))) : Ok Hi F B (tPar i j tas) D ab := fun σ H s l =>
  h σ H _ s l fun vs ds H1 c1 s1 a1 p => by
    have z := two ds p
    cases a1 with
    | nil => exact nomatch z
    | cons x a2 =>
      cases a2 with
      | nil => exact nomatch z
      | cons y a3 =>
        cases a3 with
        | nil => exact ⟨_, _, rfl, k _ _ p _ H1 s1 (Sl.set (a := .dat _) (Sl.set (a := .dat _) (l.gr (Ch.wide c1 s)) ⟨_, rfl, x⟩) ⟨_, rfl, y⟩)⟩
        | cons _ _ => exact nomatch z
end
end Gd

/-! defs by their names; operators of several kinds at once; what they do to data -/
namespace Gd
open PySem PySem.Spec PyProof.Rows L2
/-- a def of the module, called by its name, keeps a promise -/
def CalG (P : Program) (w : World) (K : PySem.W.Frag) (mg : Str → Option Value) (base : Heap) (k : Nat) (x : Str) (sp : Sp) : Prop :=
  ∃ (f : Addr) (fd : FuncData) (ps : List Str), mg x = some (.ref f) ∧ PySem.W.keepIn K (.ref f) = true ∧ Binds K fd ps [] ∧ FnG P w K mg base CX0 k f fd ps sp
/-- how a def of the top lies in the written part -/
def DefAt (K : PySem.W.Frag) (x : Str) (st : Stmt) : Prop :=
  ∃ (f : Addr) (oc : Value) (od an : Option Addr) (sl : Array (Option Value)) (kV dc pm cd ct : Value),
    PySem.W.nsIn K mainGlobals x = some (some (.ref f)) ∧
    K.lookup f = some ⟨oc, od, .func (PySem.W.fnOf x x (defArgs st) (defBody st) (defScope st) .none kV dc pm an cd ct), sl⟩ ∧
    PySem.W.codeIn K cd x = true ∧ PySem.W.keepIn K (.ref f) = true
theorem calG_of {P : Program} {w : World} {K : PySem.W.Frag} {mg : Str → Option Value} {base : Heap} {x : Str} {st : Stmt} {N ps : List Str} {k : Nat} {sp : Sp}
    (X : K.In base) (G : base.Ns mainGlobals mg) (D : DefAt K x st) (S : FnScope N ps (defScope st))
    (hb : ∀ (kV doc pm : Value) (an : Option Addr) (cdv ct : Value) (us : List Value), us.length = ps.length →
      bindArgs (PySem.W.fnOf x x (defArgs st) (defBody st) (defScope st) .none kV doc pm an cdv ct) ⟨us, []⟩ = pure (ps.zip us))
    (len : ∀ vs H Q E, sp vs H Q E → vs.length = ps.length)
    (hbody : ∀ (f : Addr) (cdv : Value) (A : Around) (outer : List Env) (s : Shared) (H : Hp) (vs : List V) (Q : VK) (E : XK),
      Ng A → Room k (A.deeper (envOfC x (defScope st) s.heap.objs.size f cdv)) → sp vs H Q E →
      ∃ t, PSs (cxOf CX0 P w K mg base N x (defScope st) f cdv A outer s H E).nox (defBody st) t ∧
        t { nx := fun _ H' => Q .non H', rt := Q } (L2.start N vs) H) : CalG P w K mg base (k + 1) x sp := by
  obtain ⟨f, oc, od, an, sl, kV, dc, pm, cd, ct, h1, h2, h3, h4⟩ := D
  have FF : Fun K x x st f _ := fun_mk h2 h3 h4
  exact ⟨f, _, ps, PySem.W.mg_of X G h1, h4, FF.binds hb, okG FF S len fun cdv A outer s H vs Q E => hbody f cdv A outer s H vs Q E⟩
theorem CalG.mono {P : Program} {w : World} {K : PySem.W.Frag} {mg : Str → Option Value} {base : Heap} {j k : Nat} {x : Str} {sp : Sp} (c : CalG P w K mg base j x sp) (h : j ≤ k) : CalG P w K mg base k x sp := by
  obtain ⟨f, fd, ps, h1, h2, h3, h4⟩ := c
  exact ⟨f, fd, ps, h1, h2, h3, h4.mono h⟩
section
variable {X : Cx} {k j : Nat} {sp : Sp} {x : Str} {p pos : Pos} {e : Expr} {es : List Expr} {t : TA}
/-- f(e, ..) -/
theorem pe_cg (c : CalG X.prog X.w X.K X.mg X.base k x sp) (ng : Ng X.A) (hr : Room j X.A) (hk : k ≤ j) (ha : PA X (e :: es) t) (hg : Gl X x := by rfl)
    (hdb : (x == ("__debug__" : Str)) = false := by decide)
    (he : starEach (e :: es) X.env = (false, eval e X.env) :: starEach es X.env := by rfl)
    (hpl : (backTo pos (starEach es X.env)).any (·.1) = false := by rfl) :
    PE X (.Call (.Name x p) (e :: es) [] pos) (tCall sp [] E0 t) := by
  obtain ⟨f, fd, ps, h1, h2, h3, h4⟩ := c
  exact pe_callG h4 ng (hr.mono hk) hg h1 h2 h3 .nil pass0 ha hdb he hpl
end
/-! operators of several kinds -/
section
variable {X : Cx}
/-- two lists of unlike lengths -/
def rEqLen : R2 := fun x y H Q => ∃ a b xs ys, x = .ref a ∧ y = .ref b ∧ H a = some (.lst xs) ∧ H b = some (.lst ys) ∧ xs.length ≠ ys.length ∧ Q (.bl false) H
def rNeLen : R2 := fun x y H Q => ∃ a b xs ys, x = .ref a ∧ y = .ref b ∧ H a = some (.lst xs) ∧ H b = some (.lst ys) ∧ xs.length ≠ ys.length ∧ Q (.bl true) H
theorem op_eqLen (hu : X.A.units + 64 < cLine) : OpR X (compareOp .Eq) rEqLen := by
  intro pins s σ H x y v u Q I rx ry h
  obtain ⟨a, b, xs, ys, rfl, rfl, ha, hb, hn, q⟩ := h
  obtain rfl : v = Value.ref a := rx
  obtain rfl : u = Value.ref b := ry
  obtain ⟨us, r1, p1, _⟩ := I.list (.inl (.inl ha))
  obtain ⟨ws, r2, p2, _⟩ := I.list (.inl (.inl hb))
  refine SeqAt.eq_list_lengthsAt p1.isList p2.isList ?_ (by omega) ⟨.bl false, H, I, rfl, q⟩
  simpa [← r1.length, ← r2.length] using hn
theorem op_neLen (hu : X.A.units + 64 < cLine) : OpR X (compareOp .NotEq) rNeLen := by
  intro pins s σ H x y v u Q I rx ry h
  obtain ⟨a, b, xs, ys, rfl, rfl, ha, hb, hn, q⟩ := h
  obtain rfl : v = Value.ref a := rx
  obtain rfl : u = Value.ref b := ry
  obtain ⟨us, r1, p1, _⟩ := I.list (.inl (.inl ha))
  obtain ⟨ws, r2, p2, _⟩ := I.list (.inl (.inl hb))
  exact SeqAt.RcNeAt.lists_lengths p1.isList p2.isList (by simpa [← r1.length, ← r2.length] using hn) (by omega) X.prog X.w X.xe _ ⟨.bl true, H, I, rfl, q⟩
def rAddA (K : PySem.W.Frag) : R2 := fun x y H Q => (∃ i j, x = .int i ∧ y = .int j ∧ Q (.int (i + j)) H) ∨ (∃ i j, x = .str i ∧ y = .str j ∧ i.length + j.length ≤ sizeLine ∧ Q (.str (i ++ j)) H) ∨ rCat x y H Q
theorem op_addA : OpR X (binaryOp .Add) (rAddA X.K) := OpR.or op_add (OpR.or op_add_str op_cat)
def rEqA (K : PySem.W.Frag) : R2 := fun x y H Q => rEq x y H Q ∨ rEqD K x y H Q ∨ rEqLen x y H Q
theorem op_eqA (hu : X.A.units + 64 < cLine) : OpR X (compareOp .Eq) (rEqA X.K) := OpR.or op_eq (OpR.or (op_eqD hu) (op_eqLen hu))
def rNeA (K : PySem.W.Frag) : R2 := fun x y H Q => rNe x y H Q ∨ rNeD K x y H Q ∨ rNeLen x y H Q
theorem op_neA (hu : X.A.units + 64 < cLine) : OpR X (compareOp .NotEq) (rNeA X.K) := OpR.or op_ne (OpR.or (op_neD hu) (op_neLen hu))
def rMulI : R2 := rI L2.CMul fun i j => .int (i * j)
def rMulA : R2 := fun x y H Q => rMulI x y H Q ∨ rRep x y H Q
theorem op_mulA : OpR X (binaryOp .Mult) rMulA := OpR.or op_mul op_rep
def rIxA (K : PySem.W.Frag) : R2 := rIx K
def rSlAll (K : PySem.W.Frag) : V → Option Int → Option Int → Hp → VK → Prop := fun x lo hi H Q => rSlL K x lo hi H Q ∨ rSlS x lo hi H Q
theorem sl_all : SlR X (rSlAll X.K) := SlR.or sl_list sl_str
def rLenA (K : PySem.W.Frag) : List V → Hp → VK → Prop := fun xs H Q => (∃ p ys, xs = [.ref p] ∧ (SqL K H p ys ∨ SqT K H p ys) ∧ Q (.int ys.length) H) ∨ (∃ z, xs = [.str z] ∧ z.length ≤ sizeLine ∧ Q (.int z.length) H)
theorem call_lenA : CallR X (.builtin "len") (rLenA X.K) := CallR.or call_len_seq call_len_str
/-- o[i] of a list, read ahead of o[i] += .. -/
def rGetL : V → V → Hp → VK → Prop := fun o i H Q => ∃ (p : Addr) (xs : List V) (k : Nat) (v : V), o = .ref p ∧ i = .int (k : Int) ∧ H p = some (.lst xs) ∧ k < 1000000 ∧ xs[k]? = some v ∧ Q v H
theorem get_list : PGet X rGetL := by
  intro pins s σ H o i ov iv Q I r1 r2 h
  obtain ⟨p, xs, k, v, rfl, rfl, hp, hk, hv, q⟩ := h
  obtain rfl : ov = Value.ref p := r1
  obtain ⟨t, rfl⟩ := r2
  obtain ⟨its, r, pl, _⟩ := I.list (.inl (.inl hp))
  obtain ⟨u, eu, ru⟩ := r.get hv
  refine wpAny_getItem_list pl.isList (by omega) (by omega) (x := u) ?_ ⟨v, H, I, ru, q⟩
  simpa using eu
end
/-! what they do to data -/
section
variable {K : PySem.W.Frag} {d e : PyData}
theorem Da.dp {F : List Addr} {H : Hp} : ∀ {d : PyData} {v : V}, d.canLay0 = true → Da F H v d → Dp K H v d := by
  have main : ∀ n : Nat, (∀ (d : PyData) (v : V), sizeOf d ≤ n → d.canLay0 = true → Da F H v d → Dp K H v d) ∧ (∀ (ds : List PyData) (vs : List V), sizeOf ds ≤ n → PyData.canLayAll0 ds = true → Das F H vs ds → DpAll K H vs ds) := by
    intro n
    induction n with
    | zero =>
      refine ⟨fun d v h => ?_, fun ds vs h => ?_⟩
      · exfalso; cases d <;> simp at h <;> omega
      · exfalso; cases ds <;> simp at h <;> omega
    | succ n ih =>
      obtain ⟨i1, i2⟩ := ih
      refine ⟨fun d v h c a => ?_, fun ds vs h c a => ?_⟩
      · cases a with
        | non => exact .non
        | bl b => exact .bl b
        | int i => exact .int i
        | str x => exact .str x
        | lst _ h1 h2 => exact .lst (.inl (.inl h1)) (i2 _ _ (by simp at h; omega) (by simpa [PyData.canLay0] using c) h2)
        | tup _ h1 h2 => exact .tup h1.seq (i2 _ _ (by simp at h; omega) (by simpa [PyData.canLay0] using c) h2)
        | dct _ _ _ _ => simp [PyData.canLay0] at c
      · cases a with
        | nil => exact .nil
        | @cons _ _ d1 ds1 h1 h2 =>
          have c' : (PyData.canLay0 d1 && PyData.canLayAll0 ds1) = true := by simpa only [PyData.canLayAll0] using c
          have c2 := Bool.and_eq_true_iff.mp c'
          exact .cons (i1 _ _ (by simp at h; omega) c2.1 h1) (i2 _ _ (by simp at h; omega) c2.2 h2)
  intro d v c a
  exact (main (sizeOf d)).1 d v (Nat.le_refl _) c a
theorem Das.dp {F : List Addr} {H : Hp} : ∀ {ds : List PyData} {vs : List V}, PyData.canLayAll0 ds = true → Das F H vs ds → DpAll K H vs ds
  | [], _, _, .nil => .nil
  | d :: ds, _, c, .cons h1 h2 => by
    have c' := Bool.and_eq_true_iff.mp (show (d.canLay0 && PyData.canLayAll0 ds) = true by simpa only [PyData.canLayAll0] using c)
    exact .cons (h1.dp c'.1) (Das.dp c'.2 h2)
abbrev Shp (d : PyData) : Prop := SeqAt.shaped d = true
theorem od_eq (h1 : Shp d) (h2 : Shp e) : OpD (rEqD K) d e (· = .bool (PyData.eqv d e)) := fun F H x y Q _ a1 a2 q =>
  ⟨d, e, a1.dp (SeqAt.canLay_of_shaped h1), a2.dp (SeqAt.canLay_of_shaped h2), h1, h2, q _ _ H (Gr.refl _ H) (.bl _) rfl⟩
theorem od_ne (h1 : Shp d) (h2 : Shp e) : OpD (rNeD K) d e (· = .bool (!PyData.eqv d e)) := fun F H x y Q _ a1 a2 q =>
  ⟨d, e, a1.dp (SeqAt.canLay_of_shaped h1), a2.dp (SeqAt.canLay_of_shaped h2), h1, h2, q _ _ H (Gr.refl _ H) (.bl _) rfl⟩
theorem od_eqA (h1 : Shp d) (h2 : Shp e) : OpD (rEqA K) d e (· = .bool (PyData.eqv d e)) := fun F H x y Q t a1 a2 q => .inr (.inl (od_eq h1 h2 F H x y Q t a1 a2 q))
theorem od_neA (h1 : Shp d) (h2 : Shp e) : OpD (rNeA K) d e (· = .bool (!PyData.eqv d e)) := fun F H x y Q t a1 a2 q => .inr (.inl (od_ne h1 h2 F H x y Q t a1 a2 q))
theorem od_eqS {x y : Str} : OpD (rEqA K) (.str x) (.str y) (· = .bool (decide (x = y))) := fun F H u v Q t a1 a2 q => by
  cases a1
  cases a2
  refine .inl ⟨rfl, ?_⟩
  have e : decide (V.str x = V.str y) = decide (x = y) := by simp
  rw [e]
  exact q _ _ H (Gr.refl _ H) (.bl _) rfl
theorem od_neS {x y : Str} : OpD (rNeA K) (.str x) (.str y) (· = .bool (!decide (x = y))) := fun F H u v Q t a1 a2 q => by
  cases a1
  cases a2
  refine .inl ⟨rfl, ?_⟩
  have e : decide (V.str x = V.str y) = decide (x = y) := by simp
  rw [e]
  exact q _ _ H (Gr.refl _ H) (.bl _) rfl
theorem od_eqI {x y : Int} : OpD (rEqA K) (.int x) (.int y) (· = .bool (decide (x = y))) := fun F H u v Q t a1 a2 q => by
  cases a1
  cases a2
  refine .inl ⟨rfl, ?_⟩
  have e : decide (V.int x = V.int y) = decide (x = y) := by simp
  rw [e]
  exact q _ _ H (Gr.refl _ H) (.bl _) rfl
theorem od_neI {x y : Int} : OpD (rNeA K) (.int x) (.int y) (· = .bool (!decide (x = y))) := fun F H u v Q t a1 a2 q => by
  cases a1
  cases a2
  refine .inl ⟨rfl, ?_⟩
  have e : decide (V.int x = V.int y) = decide (x = y) := by simp
  rw [e]
  exact q _ _ H (Gr.refl _ H) (.bl _) rfl
theorem od_eqNil {xs : List PyData} : OpD (rEqA K) (.list xs) (.list []) (· = .bool (decide (xs = []))) := fun F H u v Q t a1 a2 q => by
  cases xs with
  | nil => exact .inr (.inl ⟨.list [], .list [], a1.dp rfl, a2.dp rfl, rfl, rfl, by simpa [PyData.eqv, PyData.eqvAll] using q _ _ H (Gr.refl _ H) (.bl _) rfl⟩)
  | cons x xs =>
    cases a1 with
    | @lst a us _ n1 h1 k1 =>
      cases a2 with
      | @lst b ws _ n2 h2 k2 =>
        cases k2
        refine .inr (.inr ⟨a, b, us, [], rfl, rfl, h1, h2, by rw [k1.length]; exact (fun z => nomatch z), ?_⟩)
        simpa using q _ _ H (Gr.refl _ H) (.bl _) rfl
theorem od_neNil {xs : List PyData} : OpD (rNeA K) (.list xs) (.list []) (· = .bool (!decide (xs = []))) := fun F H u v Q t a1 a2 q => by
  cases xs with
  | nil => exact .inr (.inl ⟨.list [], .list [], a1.dp rfl, a2.dp rfl, rfl, rfl, by simpa [PyData.eqv, PyData.eqvAll] using q _ _ H (Gr.refl _ H) (.bl _) rfl⟩)
  | cons x xs =>
    cases a1 with
    | @lst a us _ n1 h1 k1 =>
      cases a2 with
      | @lst b ws _ n2 h2 k2 =>
        cases k2
        refine .inr (.inr ⟨a, b, us, [], rfl, rfl, h1, h2, by rw [k1.length]; exact (fun z => nomatch z), ?_⟩)
        simpa using q _ _ H (Gr.refl _ H) (.bl _) rfl
theorem od_addI {i j : Int} : OpD (rAddA K) (.int i) (.int j) (· = .int (i + j)) := fun F H x y Q _ a1 a2 q => by
  cases a1
  cases a2
  exact .inl ⟨i, j, rfl, rfl, q _ _ H (Gr.refl _ H) (.int _) rfl⟩
theorem od_addS {i j : Str} (h : i.length + j.length ≤ 100000) : OpD (rAddA K) (.str i) (.str j) (· = .str (i ++ j)) := fun F H x y Q _ a1 a2 q => by
  cases a1
  cases a2
  exact .inr (.inl ⟨i, j, rfl, rfl, Nat.le_trans h (by decide), q _ _ H (Gr.refl _ H) (.str _) rfl⟩)
theorem od_addL {xs ys : List PyData} (h : xs.length + ys.length ≤ 100000) : OpD (rAddA K) (.list xs) (.list ys) (· = .list (xs ++ ys)) := fun F H x y Q tr a1 a2 q => by
  cases a1 with
  | @lst a vs _ n1 h1 k1 =>
    cases a2 with
    | @lst b ws _ n2 h2 k2 =>
      refine .inr (.inr ⟨_, _, _, _, rfl, rfl, h1, h2, by rw [k1.length, k2.length]; exact Nat.le_trans h (by decide), fun p hp => ?_⟩)
      have g : Gr F H (upd H p (.lst (vs ++ ws))) := Gr.new hp
      exact q _ (.list (xs ++ ys)) _ (Gr.new hp) (.lst (fun m => tr p m hp) upd_same ((k1.gr g).app (k2.gr g))) rfl
theorem od_mulI {i j : Int} (h : L2.CMul i j) : OpD rMulA (.int i) (.int j) (· = .int (i * j)) := fun F H x y Q _ a1 a2 q => by
  cases a1
  cases a2
  exact .inl ⟨i, j, rfl, rfl, h, q _ _ H (Gr.refl _ H) (.int _) rfl⟩
theorem flat_rep {α : Type} : ∀ (xs : List α) (n : Nat), (List.replicate n xs).flatten.length = n * xs.length := by
  intro xs n
  simp
theorem od_ixL {xs : List PyData} {i : Int} {z : PyData} (h : atI xs i = some z) : OpD (rIx K) (.list xs) (.int i) (· = z) := fun F H x y Q tr a1 a2 q => by
  cases a1 with
  | @lst a vs _ n1 h1 k1 =>
    cases a2
    obtain ⟨j, hj⟩ : ∃ j, ixN xs.length i = some j ∧ xs[j]? = some z := by
      unfold atI at h
      cases e : ixN xs.length i with
      | none => rw [e] at h; cases h
      | some j => rw [e] at h; exact ⟨j, rfl, h⟩
    obtain ⟨v, hv, kv⟩ := k1.of_get hj.2
    refine .inl ⟨a, vs, i, v, rfl, rfl, .inl (.inl h1), ?_, q v z H (Gr.refl _ H) kv rfl⟩
    unfold atI
    rw [k1.length, hj.1]
    exact hv
theorem od_ixT {xs : List PyData} {i : Int} {z : PyData} (h : atI xs i = some z) : OpD (rIx K) (.tuple xs) (.int i) (· = z) := fun F H x y Q tr a1 a2 q => by
  cases a1 with
  | @tup a vs _ n1 h1 k1 =>
    cases a2
    obtain ⟨j, hj⟩ : ∃ j, ixN xs.length i = some j ∧ xs[j]? = some z := by
      unfold atI at h
      cases e : ixN xs.length i with
      | none => rw [e] at h; cases h
      | some j => rw [e] at h; exact ⟨j, rfl, h⟩
    obtain ⟨v, hv, kv⟩ := k1.of_get hj.2
    refine .inr (.inl ⟨a, vs, i, v, rfl, rfl, h1.seq, ?_, q v z H (Gr.refl _ H) kv rfl⟩)
    unfold atI
    rw [k1.length, hj.1]
    exact hv
theorem od_ixS {x : Str} {i : Int} {c : Nat} (hx : x.length ≤ 100000) (h : atI x.cps.toList i = some c) : OpD (rIx K) (.str x) (.int i) (· = .str ⟨#[c]⟩) := fun F H u v Q tr a1 a2 q => by
  cases a1
  cases a2
  exact .inr (.inr ⟨x, i, c, rfl, rfl, Nat.le_trans hx (by decide), h, q _ _ H (Gr.refl _ H) (.str _) rfl⟩)
theorem cd_lenL {xs : List PyData} : CaD (rLenA K) [.list xs] (· = .int xs.length) := fun F H vs Q tr a q => by
  cases a with
  | cons h1 h2 =>
    cases h2
    cases h1 with
    | @lst p ys _ _ h3 h4 => exact .inl ⟨p, ys, rfl, .inl (.inl (.inl h3)), by rw [h4.length]; exact q _ _ H (Gr.refl _ H) (.int _) rfl⟩
theorem cd_lenT {xs : List PyData} : CaD (rLenA K) [.tuple xs] (· = .int xs.length) := fun F H vs Q tr a q => by
  cases a with
  | cons h1 h2 =>
    cases h2
    cases h1 with
    | @tup p ys _ _ h3 h4 => exact .inl ⟨p, ys, rfl, .inr h3.seq, by rw [h4.length]; exact q _ _ H (Gr.refl _ H) (.int _) rfl⟩
theorem cd_lenS {x : Str} (h : x.length ≤ 100000) : CaD (rLenA K) [.str x] (· = .int x.length) := fun F H vs Q tr a q => by
  cases a with
  | cons h1 h2 =>
    cases h2
    cases h1
    exact .inr ⟨x, rfl, Nat.le_trans h (by decide), q _ _ H (Gr.refl _ H) (.int _) rfl⟩
theorem cd_repr (h : Shown d) : CaD rRepr [d] (· = .str d.shown) := fun F H vs Q tr a q => by
  cases a with
  | cons h1 h2 =>
    cases h2
    exact ⟨F, _, d, rfl, h1, h, q _ _ H (Gr.refl _ H) (.str _) rfl⟩
end
/-! how bodies begin -/
def absOf (n : Nat) (ds : List PyData) : List Ab := ds.map Ab.dat ++ List.replicate n Ab.any
theorem das_slots {F : List Addr} {B : Bag} {H : Hp} : ∀ {vs : List V} {ds : List PyData} (n : Nat), Das F H vs ds → ∀ (i : Nat) (a : Ab) (o : Option V), (absOf n ds)[i]? = some a → (vs.map some ++ List.replicate n none)[i]? = some o → SlOk F B H a o
  | _, _, n, .nil, i, a, o, e1, e2 => by
    have z : a = .any := by
      unfold absOf at e1
      rw [List.map_nil, List.nil_append, List.getElem?_replicate] at e1
      split at e1
      · exact (Option.some.inj e1).symm
      · cases e1
    subst z
    trivial
  | _, _, n, .cons h t, 0, a, o, e1, e2 => by
    cases (show some (Ab.dat _) = some a from e1)
    cases (show some (some _) = some o from e2)
    exact ⟨_, rfl, h⟩
  | _, _, n, .cons h t, i + 1, a, o, e1, e2 => das_slots n t i a o e1 e2
theorem sl_startP {F : List Addr} {B : Bag} {H : Hp} {N : List Str} {vs : List V} {ds : List PyData} (h : Das F H vs ds) (n : Nat) (e : N.length = ds.length + n) : Sl F B H (L2.start N vs) (absOf n ds) := by
  have e2 : N.length - vs.length = n := by rw [h.length]; omega
  refine ⟨?_, fun i a o e3 e4 => das_slots n h i a o e3 ?_⟩
  · unfold L2.start absOf
    simp [h.length]
    rw [← h.length]
    omega
  · unfold L2.start at e4
    rw [e2] at e4
    exact e4
theorem sl_startB {F : List Addr} {b l : Addr} {H : Hp} {N : List Str} {vs : List V} {ds : List PyData} (h : Das F H vs ds) (n : Nat) (e : N.length = ds.length + n + 1) : Sl F (some (b, l)) H (L2.start N (.ref b :: vs)) (.bag :: absOf n ds) := by
  have q := sl_startP (N := N.tail) (B := some (b, l)) h n (by rw [List.length_tail]; omega)
  have s : L2.start N (.ref b :: vs) = some (.ref b) :: L2.start N.tail vs := by
    unfold L2.start
    rw [List.length_tail, List.map_cons, List.length_cons, List.cons_append, Nat.sub_sub, Nat.add_comm 1]
  rw [s]
  refine ⟨by simp [q.len], fun i a o e1 e2 => ?_⟩
  cases i with
  | zero =>
    cases (show some Ab.bag = some a from e1)
    cases (show some (some (V.ref b)) = some o from e2)
    exact ⟨b, l, rfl, rfl⟩
  | succ i => exact q.ok i a o e1 e2
/-- a pure def's body, over data -/
theorem pure_body {pre : List PyData → Prop} {post : List PyData → PyData → Prop} {N : List Str} {t : TS} {vs : List V} {H : Hp} {Q : VK} {E : XK} (h : SpP pre post vs H Q E) (n : Nat)
    (k : ∀ (F : List Addr) (ds : List PyData), pre ds → (∀ v d H', St [H] F none H' → Da F H' v d → post ds d → Q v H') → N.length = ds.length + n ∧ Ok [H] F none t { nx := fun _ H' => Q .non H', rt := Q } (absOf n ds)) :
    t { nx := fun _ H' => Q .non H', rt := Q } (L2.start N vs) H := by
  obtain ⟨F, ds, tr, a, p, q⟩ := h
  obtain ⟨e, k2⟩ := k F ds p fun v d H' s a' p' => q v d H' (s.ch H List.mem_cons_self) a' p'
  exact k2 _ H ⟨fun A m => by
    have e : A = H := by simpa using m
    rw [e]
    exact Gr.refl _ _, tr, fun b l z => nomatch z⟩ (sl_startP a n e)
/-- a drawing def's body -/
theorem bag_body {pre : List PyData → Prop} {post : List PyData → PyData → Prop} {N : List Str} {t : TS} {vs : List V} {H : Hp} {Q : VK} {E : XK} (h : SpB pre post vs H Q E) (n : Nat)
    (k : ∀ (F : List Addr) (b l : Addr) (ds : List PyData), pre ds → (∀ v d H', St [H] F (some (b, l)) H' → Da F H' v d → post ds d → Q v H') → N.length = ds.length + n + 1 ∧ Ok [H] F (some (b, l)) t { nx := fun _ H' => Q .non H', rt := Q } (.bag :: absOf n ds)) :
    t { nx := fun _ H' => Q .non H', rt := Q } (L2.start N vs) H := by
  obtain ⟨F, b, l, ws, ds, rfl, s, a, p, q⟩ := h
  obtain ⟨e, k2⟩ := k F b l ds p fun v d H' s a' p' => q v d H' s a' p'
  exact k2 _ H s (sl_startB a n e)
end Gd

/-! loops and comprehensions over data -/
namespace Gd
open PySem PySem.Spec PyProof.Rows L2
def awipe (ab : List Ab) : List Nat → List Ab
  | [] => ab
  | v :: vs => (awipe ab vs).set v .any
section
variable {Hi : List Hp} {H H' : Hp} {F : List Addr} {B : Bag} {σ : L2.St} {ab : List Ab}
theorem Sl.setN {i : Nat} (h : Sl F B H σ ab) : Sl F B H (σ.set i none) (ab.set i .any) := by
  refine ⟨by rw [List.length_set, List.length_set]; exact h.len, fun j a' o e1 e2 => ?_⟩
  by_cases ij : i = j
  · subst ij
    rw [List.getElem?_set] at e1
    simp only [if_pos] at e1
    split at e1
    · cases e1
      trivial
    · cases e1
  · rw [List.getElem?_set_ne ij] at e1 e2
    exact h.ok j a' o e1 e2
theorem Sl.wipe (h : Sl F B H σ ab) : ∀ vs : List Nat, Sl F B H (L2.wipe σ vs) (awipe ab vs)
  | [] => h
  | v :: vs => (h.wipe vs).setN
/-- what is kept when a new address is barred: slots that hold data alone -/
def Plain : List Ab → Prop
  | [] => True
  | .obj _ :: _ => False
  | _ :: r => Plain r
theorem Plain.at : ∀ {ab : List Ab} {i : Nat} {a : Ab}, Plain ab → ab[i]? = some a → ∀ R, a ≠ .obj R
  | .any :: r, 0, a, h, e, R => by cases (show some Ab.any = some a from e); exact fun z => nomatch z
  | .bag :: r, 0, a, h, e, R => by cases (show some Ab.bag = some a from e); exact fun z => nomatch z
  | .dat d :: r, 0, a, h, e, R => by cases (show some (Ab.dat d) = some a from e); exact fun z => nomatch z
  | .fam d :: r, 0, a, h, e, R => by cases (show some (Ab.fam d) = some a from e); exact fun z => nomatch z
  | .obj _ :: r, _, a, h, e, R => h.elim
  | .any :: r, i + 1, a, h, e, R => Plain.at (ab := r) h e R
  | .bag :: r, i + 1, a, h, e, R => Plain.at (ab := r) h e R
  | .dat d :: r, i + 1, a, h, e, R => Plain.at (ab := r) h e R
  | .fam d :: r, i + 1, a, h, e, R => Plain.at (ab := r) h e R
theorem Sl.bar {p : Addr} (n : H p = none) (pl : Plain ab) (h : Sl F B H σ ab) : Sl (p :: F) B H σ ab := ⟨h.len, fun i a o e1 e2 => by
  have q := h.ok i a o e1 e2
  cases a with
  | any => trivial
  | bag => exact q
  | dat d =>
    obtain ⟨v, e, k⟩ := q
    exact ⟨v, e, k.bar n⟩
  | fam R =>
    obtain ⟨v, e, k⟩ := q
    exact ⟨v, e, R.bar F p v H n k⟩
  | obj R => exact absurd rfl (pl.at e1 R)⟩
theorem St.bar {p : Addr} {o : HO} (n : H p = none) (s : St Hi F B H) : St Hi (p :: F) B (upd H p o) := by
  have g : Gr [] H (upd H p o) := Gr.new n
  have s2 := s.same g
  refine ⟨s2.ch, fun q m => ?_, fun b l e => ?_⟩
  · rcases List.mem_cons.mp m with e | m
    · rw [e, upd_same]
      exact fun z => nomatch z
    · exact s2.tr q m
  · obtain ⟨h1, h2, h3, h4⟩ := s2.bag b l e
    exact ⟨List.mem_cons_of_mem _ h1, List.mem_cons_of_mem _ h2, h3, h4⟩
/-- a barred new object written again -/
theorem St.write {p : Addr} {o : HO} {H0 : Hp} (n : H0 p = none) (s0 : St Hi F B H0) (s : St Hi (p :: F) B H) : St Hi (p :: F) B (upd H p o) := by
  have np : ∀ A ∈ Hi, ∀ q u, A q = some u → q ∉ ob B → q ≠ p := fun A mA q u e m z => by
    have k := s0.ch A mA q u m e
    rw [z, n] at k
    cases k
  have nb : ∀ b l, B = some (b, l) → b ≠ p ∧ l ≠ p := fun b l e => by
    obtain ⟨h1, h2, _, _⟩ := s0.bag b l e
    exact ⟨fun z => s0.tr b h1 (z ▸ n), fun z => s0.tr l h2 (z ▸ n)⟩
  refine ⟨fun A mA q u m e => ?_, fun q m => ?_, fun b l e => ?_⟩
  · rw [upd_ne (np A mA q u e m)]
    exact s.ch A mA q u m e
  · by_cases qp : q = p
    · rw [qp, upd_same]
      exact fun z => nomatch z
    · rw [upd_ne qp]
      exact s.tr q m
  · obtain ⟨h1, h2, h3, n0, n1, n2, ns, hb, hl, hz⟩ := s.bag b l e
    refine ⟨h1, h2, h3, n0, n1, n2, ns, ?_, ?_, hz⟩
    · rw [upd_ne (nb b l e).1]
      exact hb
    · rw [upd_ne (nb b l e).2]
      exact hl
theorem St.put {p : Addr} {o : HO} (nA : ∀ A ∈ Hi, A p = none) (nb : ∀ b l, B = some (b, l) → b ≠ p ∧ l ≠ p) (s : St Hi F B H) : St Hi F B (upd H p o) := by
  refine ⟨fun A mA q u m e => ?_, fun q m => ?_, fun b l e => ?_⟩
  · rw [upd_ne (ne_of_none e (nA A mA))]
    exact s.ch A mA q u m e
  · by_cases qp : q = p
    · rw [qp, upd_same]
      exact fun z => nomatch z
    · rw [upd_ne qp]
      exact s.tr q m
  · obtain ⟨h1, h2, h3, n0, n1, n2, ns, hb, hl, hz⟩ := s.bag b l e
    refine ⟨h1, h2, h3, n0, n1, n2, ns, ?_, ?_, hz⟩
    · rw [upd_ne (nb b l e).1]
      exact hb
    · rw [upd_ne (nb b l e).2]
      exact hl
/-- and let go again -/
theorem St.free {p : Addr} {H0 : Hp} (s0 : St Hi F B H0) (s : St Hi (p :: F) B H) : St Hi F B H :=
  ⟨s.ch, fun q m => s.tr q (List.mem_cons_of_mem _ m), fun b l e => ⟨(s0.bag b l e).1, (s0.bag b l e).2.1, (s0.bag b l e).2.2.1, (s.bag b l e).2.2.2⟩⟩
end
/-- what walks: lists, tuples, signs of a text, a range; its items as data -/
def Src (Hi : List Hp) (F : List Addr) (B : Bag) (ab : List Ab) (K : PySem.W.Frag) (wi : TI) (P : List PyData → Prop) : Prop :=
  ∀ (σ : L2.St) (H : Hp) (R : It → Hp → Prop), St Hi F B H → Sl F B H σ ab →
    (∀ (J : It) (H1 : Hp) (ds : List PyData), Ch B H H1 → St Hi F B H1 → P ds → ds.length ≤ 100000 →
      (∀ H2 i, Gr F H1 H2 → (i < ds.length → J.go i H2) ∧ (ds.length ≤ i → J.stop i H2) ∧
        ∀ x H3, i < ds.length → J.yld i H2 x H3 → H3 = H2 ∧ ∃ d, ds[i]? = some d ∧ Da F H1 x d) → R J H1) → wi σ H R
section
variable {Hi : List Hp} {F : List Addr} {B : Bag} {ab : List Ab} {K : PySem.W.Frag} {te : TE} {ta : TA}
theorem src_list {P : List PyData → Prop} (h : Ev Hi F B ab te (fun d => ∃ ds, d = .list ds ∧ P ds ∧ ds.length ≤ 100000)) : Src Hi F B ab K (iList K te) P := fun σ H R s l q =>
  h σ H _ s l fun v d H1 c1 s1 a1 ⟨ds, e, p, z⟩ => by
    subst e
    cases a1 with
    | @lst a xs _ nf h1 k1 =>
      refine ⟨a, rfl, ⟨xs, .inl (.inl h1)⟩, q _ H1 ds c1 s1 p z fun H2 i g => ?_⟩
      have h2 : SqL K H2 a xs := .inl (.inl (g _ _ nf h1))
      refine ⟨fun lt => ⟨xs, xs[i]'(by rw [k1.length]; exact lt), h2, List.getElem?_eq_getElem _⟩, fun le => ⟨xs, h2, by rw [k1.length]; exact le⟩, fun x H3 lt y => ?_⟩
      obtain ⟨e3, y⟩ := y
      exact ⟨e3, k1.get (y xs h2)⟩
theorem src_tup {P : List PyData → Prop} (h : Ev Hi F B ab te (fun d => ∃ ds, d = .tuple ds ∧ P ds ∧ ds.length ≤ 100000)) : Src Hi F B ab K (iTup K te) P := fun σ H R s l q =>
  h σ H _ s l fun v d H1 c1 s1 a1 ⟨ds, e, p, z⟩ => by
    subst e
    cases a1 with
    | @tup a xs _ nf h1 k1 =>
      refine ⟨a, rfl, ⟨xs, h1.seq⟩, q _ H1 ds c1 s1 p z fun H2 i g => ?_⟩
      have h2 : SqT K H2 a xs := TupAt.seq (g _ _ nf h1)
      refine ⟨fun lt => ⟨xs, xs[i]'(by rw [k1.length]; exact lt), h2, List.getElem?_eq_getElem _⟩, fun le => ⟨xs, h2, by rw [k1.length]; exact le⟩, fun x H3 lt y => ?_⟩
      obtain ⟨e3, y⟩ := y
      exact ⟨e3, k1.get (y xs h2)⟩
def signs (x : Str) : List PyData := x.cps.toList.map fun c => PyData.str ⟨#[c]⟩
theorem signs_len (x : Str) : (signs x).length = x.length := by
  unfold signs
  rw [List.length_map]
  rfl
theorem src_str {P : List PyData → Prop} (h : Ev Hi F B ab te (fun d => ∃ x, d = .str x ∧ P (signs x) ∧ x.length ≤ 100000)) : Src Hi F B ab K (iStr te) P := fun σ H R s l q =>
  h σ H _ s l fun v d H1 c1 s1 a1 ⟨x, e, p, z⟩ => by
    subst e
    cases a1
    refine ⟨x, rfl, q _ H1 (signs x) c1 s1 p (by rw [signs_len]; exact z) fun H2 i g => ?_⟩
    rw [signs_len]
    refine ⟨fun lt => lt, fun le => le, fun v H3 lt y => ?_⟩
    obtain ⟨e3, c, ec, ev⟩ := y
    refine ⟨e3, .str ⟨#[c]⟩, ?_, ev ▸ .str _⟩
    unfold signs
    rw [List.getElem?_map]
    have : x.cps.toList[i]? = some c := by simpa using ec
    rw [this]
    rfl
def intL (lo : Int) (n : Nat) : List PyData := (List.range n).map fun i => PyData.int (lo + (i : Nat))
theorem src_rng1 {P : List PyData → Prop} (h : Evs Hi F B ab ta (fun ds => ∃ n : Nat, ds = [.int n] ∧ P (intL 0 n) ∧ n ≤ 100000)) : Src Hi F B ab K (iRng1 ta) P := fun σ H R s l q =>
  h σ H _ s l fun vs ds H1 c1 s1 a1 ⟨n, e, p, z⟩ => by
    subst e
    cases a1 with
    | cons h1 h2 =>
      cases h2
      cases h1
      have hn : ((n : Nat) : Int).toNat = n := by simp
      refine ⟨n, rfl, by omega, by omega, ?_⟩
      rw [hn]
      have hl : (intL 0 n).length = n := by simp [intL]
      refine q _ H1 (intL 0 n) c1 s1 p (by rw [hl]; exact z) fun H2 i g => ?_
      rw [hl]
      refine ⟨fun lt => lt, fun le => le, fun v H3 lt y => ?_⟩
      obtain ⟨e3, ev⟩ := y
      refine ⟨e3, .int (0 + (i : Nat)), ?_, ev ▸ .int _⟩
      unfold intL
      rw [List.getElem?_map, List.getElem?_range lt]
      rfl
end
section
variable {Hi : List Hp} {F : List Addr} {B : Bag} {ab : List Ab} {K : PySem.W.Frag} {wi : TI} {tt : TT} {te : TE} {P : List PyData → Prop} {tb : TS} {D : Ends}
theorem wipe_one {σ : L2.St} {i : Nat} {v : V} : L2.wipe ((L2.wipe σ [i]).set i (some v)) [i] = L2.wipe σ [i] := by
  show ((σ.set i none).set i (some v)).set i none = σ.set i none
  rw [List.set_set, List.set_set]
/-- [e for x in src if t]: an invariant over the items taken and the list made -/
theorem ev_lcW {i : Nat} {ab' : List Ab} (wk : ∀ (F : List Addr) (H : Hp) (σ : L2.St), Sl F B H σ ab → Sl F B H σ ab') (pl : Plain ab') (hs : Src Hi F B ab K wi P) (I : List PyData → Nat → List PyData → Prop)
    (h0 : ∀ ds, P ds → I ds 0 [])
    (ht : ∀ (ds : List PyData) (k : Nat) (d : PyData) (out : List PyData), P ds → ds[k]? = some d → I ds k out → ∀ F', EvT Hi F' B ((awipe ab' [i]).set i (.dat d)) tt
      (fun c => (c = true → ∀ F', Ev Hi F' B ((awipe ab' [i]).set i (.dat d)) te (fun e => I ds (k + 1) (out ++ [e]))) ∧ (c = false → I ds (k + 1) out))) :
    Ev Hi F B ab (tLc wi (gName i) tt te [i]) (fun r => ∃ ds out, P ds ∧ I ds ds.length out ∧ out.length ≤ ds.length ∧ ds.length ≤ 100000 ∧ r = .list out) := fun σ H Q s l q =>
  hs σ H _ s l fun J H1 ds c1 s1 p z hJ A nA => by
    have l1 : Sl F B H1 σ ab' := wk _ _ _ (l.gr (Ch.wide c1 s))
    refine ⟨fun k m H2 => m = ds.length - k ∧ k ≤ ds.length ∧ ∃ out acc, H2 A = some (.lst acc) ∧ Das (A :: F) H2 acc out ∧ I ds k out ∧ out.length ≤ k ∧ St Hi (A :: F) B H2 ∧ Gr (ob B) H1 H2,
      ⟨ds.length, by simp, Nat.zero_le _, [], [], upd_same, .nil, h0 ds p, Nat.le_refl _, s1.bar nA, (show Gr [] H1 _ from Gr.new nA).wide fun _ z => nomatch z⟩, ?_⟩
    rintro k m H2 ⟨rfl, hk, out, acc, e1, k1, i1, b1, s2, g2⟩
    obtain ⟨j1, j2, j3⟩ := hJ H2 k (g2.wide (ob_sub s1))
    by_cases hlt : k < ds.length
    · refine .inr ⟨j1 hlt, fun H3 => k + 1 ≤ ds.length ∧ ∃ out acc, H3 A = some (.lst acc) ∧ Das (A :: F) H3 acc out ∧ I ds (k + 1) out ∧ out.length ≤ k + 1 ∧ St Hi (A :: F) B H3 ∧ Gr (ob B) H1 H3,
        fun H3 ⟨a1, a2⟩ => ⟨ds.length - (k + 1), by omega, rfl, a1, a2⟩, fun x H3 y => ?_⟩
      obtain ⟨e3, d, ed, kd⟩ := j3 x H3 hlt y
      subst e3
      refine ⟨wipe_one, ?_⟩
      have g3 : Gr (A :: F) H1 H3 := g2.wide fun p m => List.mem_cons_of_mem _ (ob_sub s1 p m)
      have l3 : Sl (A :: F) B H3 ((L2.wipe σ [i]).set i (some x)) ((awipe ab' [i]).set i (.dat d)) :=
        Sl.set (a := .dat d) (((l1.bar nA pl).gr g3).wipe [i]) ⟨x, rfl, (kd.bar nA).gr g3⟩
      refine ht ds k d out p ed i1 (A :: F) _ H3 _ s2 l3 fun c H4 c4 s4 ⟨p1, p2⟩ => ?_
      have g4 : Gr (ob B) H1 H4 := g2.trans c4
      have e4 : H4 A = some (.lst acc) := by
        refine c4 A _ (fun m => ?_) e1
        exact s1.tr A (ob_sub s1 A m) nA
      have k4 : Das (A :: F) H4 acc out := k1.gr (Ch.wide c4 s2)
      cases c with
      | false =>
        exact iteF ⟨hlt, out, acc, e4, k4, p2 rfl, Nat.le_succ_of_le b1, s4, g4⟩
      | true =>
        refine iteT (p1 rfl (A :: F) _ H4 _ s4 (l3.gr (Ch.wide c4 s2)) fun v e H5 c5 s5 a5 p5 => ?_)
        have e5 : H5 A = some (.lst acc) := by
          refine c5 A _ (fun m => ?_) e4
          exact s1.tr A (ob_sub s1 A m) nA
        have k5 : Das (A :: F) H5 acc out := k4.gr (Ch.wide c5 s4)
        have w : Gr (A :: F) H5 (upd H5 A (.lst (acc ++ [v]))) := Gr.at List.mem_cons_self
        refine ⟨acc, e5, by rw [k4.length]; exact Nat.lt_of_le_of_lt (Nat.le_trans b1 (Nat.le_trans hk z)) (by decide), hlt, out ++ [e], acc ++ [v], upd_same, (k5.gr w).app (.cons (a5.gr w) .nil), p5,
          by rw [List.length_append]; exact Nat.add_le_add_right b1 1, St.write nA s1 s5, fun p u n e => ?_⟩
        rw [upd_ne (ne_of_none e nA)]
        exact (g4.trans c5) p u n e
    · have ek : k = ds.length := by omega
      subst ek
      refine .inl ⟨j2 (Nat.le_refl _), ?_⟩
      have s3 : St Hi F B H2 := s1.free s2
      exact q _ (.list out) H2 (c1.trans g2) s3 (.lst (fun m => s1.tr A m nA) e1 (k1.less fun p m => List.mem_cons_of_mem _ m)) ⟨ds, out, p, i1, b1, z, rfl⟩
theorem ev_lc {i : Nat} (pl : Plain ab) (hs : Src Hi F B ab K wi P) (I : List PyData → Nat → List PyData → Prop)
    (h0 : ∀ ds, P ds → I ds 0 [])
    (ht : ∀ (ds : List PyData) (k : Nat) (d : PyData) (out : List PyData), P ds → ds[k]? = some d → I ds k out → ∀ F', EvT Hi F' B ((awipe ab [i]).set i (.dat d)) tt
      (fun c => (c = true → ∀ F', Ev Hi F' B ((awipe ab [i]).set i (.dat d)) te (fun e => I ds (k + 1) (out ++ [e]))) ∧ (c = false → I ds (k + 1) out))) :
    Ev Hi F B ab (tLc wi (gName i) tt te [i]) (fun r => ∃ ds out, P ds ∧ I ds ds.length out ∧ out.length ≤ ds.length ∧ ds.length ≤ 100000 ∧ r = .list out) := ev_lcW (fun _ _ _ h => h) pl hs I h0 ht
theorem et_yes {F' : List Addr} {ab' : List Ab} : EkT Hi F' B ab' tYes true := fun σ H Q s l q => q true H (Gr.refl _ H) s rfl
/-- [f(x) for x in src] -/
theorem ev_lcMap {i : Nat} (pl : Plain ab) (hs : Src Hi F B ab K wi P) (R : PyData → PyData → Prop)
    (he : ∀ (ds : List PyData) (k : Nat) (d : PyData), P ds → ds[k]? = some d → ∀ F', Ev Hi F' B ((awipe ab [i]).set i (.dat d)) te (R d)) :
    Ev Hi F B ab (tLc wi (gName i) tYes te [i]) (fun r => ∃ ds out, P ds ∧ ds.length ≤ 100000 ∧ r = .list out ∧ out.length = ds.length ∧ ∀ (k : Nat) (d e : PyData), ds[k]? = some d → out[k]? = some e → R d e) := by
  refine (ev_lc pl hs (fun ds k out => out.length = k ∧ ∀ (j : Nat) (d e : PyData), ds[j]? = some d → out[j]? = some e → R d e) (fun ds p => ⟨rfl, fun j d e _ z => nomatch z⟩) (fun ds k d out p ed ⟨i1, i2⟩ F' => ?_)).imp fun r ⟨ds, out, p, ⟨i1, i2⟩, b, z, e⟩ => ⟨ds, out, p, z, e, i1, i2⟩
  refine et_yes.imp fun c ec => ⟨fun _ F2 => ?_, fun z => ?_⟩
  · refine (he ds k d p ed F2).imp fun e r => ⟨by rw [List.length_append, i1]; rfl, fun j d' e' h1 h2 => ?_⟩
    by_cases hj : j < out.length
    · rw [List.getElem?_append_left hj] at h2
      exact i2 j d' e' h1 h2
    · rw [List.getElem?_append_right (by omega)] at h2
      have : j - out.length = 0 := by
        have := (List.getElem?_eq_some_iff.mp h2).1
        simp at this
        omega
      rw [this] at h2
      cases (show some e = some e' from h2)
      have jk : j = k := by omega
      rw [jk, ed] at h1
      cases h1
      exact r
  · rw [ec] at z
    cases z
theorem ek_lcMap {i : Nat} {ds : List PyData} (pl : Plain ab) (hs : Src Hi F B ab K wi (· = ds)) (f : PyData → PyData)
    (he : ∀ (k : Nat) (d : PyData), ds[k]? = some d → ∀ F', Ek Hi F' B ((awipe ab [i]).set i (.dat d)) te (f d)) : Ek Hi F B ab (tLc wi (gName i) tYes te [i]) (.list (ds.map f)) := by
  refine (ev_lcMap pl hs (fun d e => e = f d) fun ds' k d p ed F' => he k d (p ▸ ed) F').imp fun r ⟨ds', out, p, z, e, l, h⟩ => ?_
  subst p
  rw [e]
  congr 1
  apply List.ext_getElem?
  intro j
  rw [List.getElem?_map]
  by_cases hj : j < ds'.length
  · have e1 := List.getElem?_eq_getElem hj
    have e2 := List.getElem?_eq_getElem (l := out) (i := j) (by omega)
    rw [e1, e2, h j _ _ e1 e2]
    rfl
  · rw [List.getElem?_eq_none (by omega), List.getElem?_eq_none (by omega)]
    rfl
/-- [f(x) for x in src if t(x)] -/
theorem ek_lcFil {i : Nat} {ds : List PyData} (pl : Plain ab) (hs : Src Hi F B ab K wi (· = ds)) (f : PyData → PyData) (t : PyData → Bool)
    (ht : ∀ (k : Nat) (d : PyData), ds[k]? = some d → ∀ F', EkT Hi F' B ((awipe ab [i]).set i (.dat d)) tt (t d))
    (he : ∀ (k : Nat) (d : PyData), ds[k]? = some d → t d = true → ∀ F', Ek Hi F' B ((awipe ab [i]).set i (.dat d)) te (f d)) : Ek Hi F B ab (tLc wi (gName i) tt te [i]) (.list ((ds.filter t).map f)) := by
  refine (ev_lc pl hs (fun ds k out => out = ((ds.take k).filter t).map f) (fun ds p => rfl) (fun ds' k d out p ed i1 F' => ?_)).imp fun r ⟨ds', out, p, i1, b, z, e⟩ => by
    subst p
    rw [e, i1, List.take_length]
  subst p
  have tk : ds'.take (k + 1) = ds'.take k ++ [d] := by
    rw [List.take_succ, ed]
    rfl
  refine (ht k d ed F').imp fun c ec => ⟨fun z F2 => (he k d ed (by rw [← ec, z]) F2).imp fun e r => ?_, fun z => ?_⟩
  · rw [tk, List.filter_append, List.map_append, ← i1, r]
    congr 1
    simp [← ec, z]
  · rw [tk, List.filter_append, List.map_append, ← i1]
    simp [← ec, z]
/-- for x in src: an invariant over the items taken and the slots -/
theorem ok_for {i : Nat} (hs : Src Hi F B ab K wi P) (I : List PyData → Nat → List Ab → Prop) (h0 : ∀ ds, P ds → I ds 0 ab)
    (hb : ∀ (ds : List PyData) (k : Nat) (d : PyData) (ab' : List Ab) (Hj : List Hp) (N : L2.St → Hp → Prop), P ds → ds[k]? = some d → I ds k ab' → (∀ A ∈ Hi, A ∈ Hj) →
      (∀ ab2, I ds (k + 1) ab2 → OkK Hj F B N ab2) → Ok Hj F B tb { D with nx := N, ct := N, bk := D.nx } (ab'.set i (.dat d)))
    (hd : ∀ ds ab', P ds → I ds ds.length ab' → OkK Hi F B D.nx ab') : Ok Hi F B (tFor wi (gName i) tb) D ab := fun σ H s l =>
  hs σ H _ s l fun J H1 ds c1 s1 p z hJ => by
    refine ⟨fun k m σ2 H2 => m = ds.length - k ∧ k ≤ ds.length ∧ ∃ ab', I ds k ab' ∧ Sl F B H2 σ2 ab' ∧ St (H1 :: Hi) F B H2, ⟨ds.length, by simp, Nat.zero_le _, ab, h0 ds p, l.gr (Ch.wide c1 s), s1.push⟩, ?_⟩
    rintro k m σ2 H2 ⟨rfl, hk, ab', i1, l2, s2⟩
    have g2 : Gr (ob B) H1 H2 := s2.ch H1 List.mem_cons_self
    obtain ⟨j1, j2, j3⟩ := hJ H2 k (g2.wide (ob_sub s1))
    by_cases hlt : k < ds.length
    · refine .inr ⟨j1 hlt, fun σ3 H3 => k + 1 ≤ ds.length ∧ ∃ ab', I ds (k + 1) ab' ∧ Sl F B H3 σ3 ab' ∧ St (H1 :: Hi) F B H3, fun σ3 H3 ⟨a1, a2⟩ => ⟨ds.length - (k + 1), by omega, rfl, a1, a2⟩, fun x H3 y => ?_⟩
      obtain ⟨e3, d, ed, kd⟩ := j3 x H3 hlt y
      subst e3
      refine hb ds k d ab' (H1 :: Hi) _ p ed i1 (fun A m => List.mem_cons_of_mem _ m) (fun ab2 i2 σ4 H4 s4 l4 => ⟨hlt, ab2, i2, l4, s4⟩) _ H3 s2 (Sl.set (a := .dat d) l2 ⟨x, rfl, kd.gr (g2.wide (ob_sub s1))⟩)
    · have ek : k = ds.length := by omega
      subst ek
      exact .inl ⟨j2 (Nat.le_refl _), hd ds ab' p i1 σ2 H2 (s2.sub fun A m => List.mem_cons_of_mem _ m) l2⟩
end
end Gd

/-! how long data is when it is shown; kinds; more operations -/
namespace Gd
open PySem PySem.Spec PyProof.Rows L2
mutual
/-- texts of at most a hundred signs, ints of at most a thousand bits -/
def okd : PyData → Bool
  | .none | .bool _ => true
  | .int i => decide (i.natAbs.log2 < 1000)
  | .str x => x.cps.all (· < 1114112) && decide (x.length ≤ 100)
  | .list xs | .tuple xs => okdAll xs
  | .dict kvs => okdKv kvs
def okdAll : List PyData → Bool
  | [] => true
  | x :: xs => okd x && okdAll xs
def okdKv : List (PyData × PyData) → Bool
  | [] => true
  | (k, v) :: r => okd k && okd v && okdKv r
end
mutual
def wt : PyData → Nat
  | .none => 4
  | .bool _ => 5
  | .int i => i.natAbs.log2 + 3
  | .str x => 10 * x.length + 2
  | .list xs => 2 + wtAll xs
  | .tuple xs => 3 + wtAll xs
  | .dict kvs => 2 + wtKv kvs
def wtAll : List PyData → Nat
  | [] => 0
  | x :: xs => wt x + 2 + wtAll xs
def wtKv : List (PyData × PyData) → Nat
  | [] => 0
  | (k, v) :: r => wt k + wt v + 4 + wtKv r
end
theorem listText_le (ts : List Str) : (listText ts).length ≤ 2 + piled ts := by
  unfold listText
  rw [strLen_append]
  have e : ((("]" : String) : Str)).length = 1 := rfl
  rw [e]
  cases ts with
  | nil => show (("[" : String) : Str).length + 1 ≤ _; decide
  | cons t r =>
    show (textFrom 1 (("[" : Str) ++ (if 0 > 0 then ", " else "" : String) ++ t) r).length + 1 ≤ _
    rw [textFrom_length_pos r 1 _ (by decide), strLen_append, strLen_append, piled_cons]
    have e1 : (("[" : String) : Str).length = 1 := rfl
    have e2 : (((if 0 > 0 then ", " else "" : String)) : Str).length = 0 := rfl
    rw [e1, e2]
    omega
theorem join_le (ts : List Str) : (Str.join ", " ts).length ≤ piled ts := by
  by_cases h : ts = []
  · subst h
    decide
  · have := join_length_add ts h
    omega
theorem tupleText_le (ts : List Str) : (tupleText ts).length ≤ 3 + piled ts := by
  unfold tupleText
  rw [strLen_append, strLen_append]
  have e1 : ((("(" : String) : Str)).length = 1 := rfl
  have e2 : (((if ts.length == 1 then ",)" else ")" : String)) : Str).length ≤ 2 := by split <;> decide
  have := join_le ts
  omega
theorem dictText_le (ts : List Str) : (dictText ts).length ≤ 2 + piled ts := by
  unfold dictText
  rw [strLen_append, strLen_append]
  have e1 : ((("{" : String) : Str)).length = 1 := rfl
  have e2 : ((("}" : String) : Str)).length = 1 := rfl
  have := join_le ts
  omega
mutual
theorem shown_wt : ∀ d : PyData, okd d = true → d.shown.length ≤ wt d
  | .none, _ => by simp only [PyData.shown]; decide
  | .bool b, _ => by simp only [PyData.shown]; cases b <;> decide
  | .int i, h => by
    simp only [PyData.shown, wt]
    have h' : i.natAbs.log2 < 1000 := by simpa [okd] using h
    have := int_text_length_le (a := i) (k := i.natAbs.log2 + 1) (by omega) (by omega)
    show (Str.ofString (toString i)).length ≤ _
    rw [PySem.ofString_length]
    omega
  | .str x, h => by
    simp only [PyData.shown, wt]
    have h' : (x.cps.all (· < 1114112) && decide (x.length ≤ 100)) = true := by simpa only [okd] using h
    have h2 := (Bool.and_eq_true_iff.mp h').1
    refine StrLaws.reprText_len x fun c hc => ?_
    have := Array.all_eq_true'.mp h2 c (by simpa using hc)
    have : c < 1114112 := by simpa using this
    omega
  | .list xs, h => by
    simp only [PyData.shown, wt]
    have := listText_le (PyData.shownAll xs)
    have := shownAll_wt xs (by simpa only [okd] using h)
    omega
  | .tuple xs, h => by
    simp only [PyData.shown, wt]
    have := tupleText_le (PyData.shownAll xs)
    have := shownAll_wt xs (by simpa only [okd] using h)
    omega
  | .dict kvs, h => by
    simp only [PyData.shown, wt]
    have := dictText_le (PyData.shownKv kvs)
    have := shownKv_wt kvs (by simpa only [okd] using h)
    omega
theorem shownAll_wt : ∀ ds : List PyData, okdAll ds = true → piled (PyData.shownAll ds) ≤ wtAll ds
  | [], _ => by simp only [PyData.shownAll]; decide
  | d :: ds, h => by
    have h' := Bool.and_eq_true_iff.mp (show (okd d && okdAll ds) = true by simpa only [okdAll] using h)
    simp only [PyData.shownAll, wtAll, piled_cons]
    have := shown_wt d h'.1
    have := shownAll_wt ds h'.2
    omega
theorem shownKv_wt : ∀ ds : List (PyData × PyData), okdKv ds = true → piled (PyData.shownKv ds) ≤ wtKv ds
  | [], _ => by simp only [PyData.shownKv]; decide
  | (k, v) :: ds, h => by
    have h' := Bool.and_eq_true_iff.mp (show ((okd k && okd v) && okdKv ds) = true by simpa only [okdKv] using h)
    have h2 := Bool.and_eq_true_iff.mp h'.1
    simp only [PyData.shownKv, wtKv, piled_cons]
    have e : (k.shown ++ ((": " : String) : Str) ++ v.shown).length = k.shown.length + 2 + v.shown.length := by
      rw [strLen_append, strLen_append]
      rfl
    have := shown_wt k h2.1
    have := shown_wt v h2.2
    have := shownKv_wt ds h'.2
    have e2 : (k.shown ++ ": " ++ v.shown).length = k.shown.length + 2 + v.shown.length := e
    omega
end
mutual
theorem showable_okd : ∀ d : PyData, okd d = true → d.showable = true
  | .none, _ => rfl
  | .bool _, _ => rfl
  | .str _, _ => rfl
  | .int i, h => by
    have h' : i.natAbs.log2 < 1000 := by simpa [okd] using h
    simp only [PyData.showable, decide_eq_true_eq]
    omega
  | .list xs, h => by simpa only [PyData.showable] using showableAll_okd xs (by simpa only [okd] using h)
  | .tuple xs, h => by simpa only [PyData.showable] using showableAll_okd xs (by simpa only [okd] using h)
  | .dict kvs, h => by simpa only [PyData.showable] using showableKv_okd kvs (by simpa only [okd] using h)
theorem showableAll_okd : ∀ ds : List PyData, okdAll ds = true → PyData.showableAll ds = true
  | [], _ => rfl
  | d :: ds, h => by
    have h' := Bool.and_eq_true_iff.mp (show (okd d && okdAll ds) = true by simpa only [okdAll] using h)
    simp only [PyData.showableAll, showable_okd d h'.1, showableAll_okd ds h'.2, Bool.and_self]
theorem showableKv_okd : ∀ ds : List (PyData × PyData), okdKv ds = true → PyData.showableKv ds = true
  | [], _ => rfl
  | (k, v) :: ds, h => by
    have h' := Bool.and_eq_true_iff.mp (show ((okd k && okd v) && okdKv ds) = true by simpa only [okdKv] using h)
    have h2 := Bool.and_eq_true_iff.mp h'.1
    simp only [PyData.showableKv, showable_okd k h2.1, showable_okd v h2.2, showableKv_okd ds h'.2, Bool.and_self]
end
/-- data of a moderate size -/
structure Fine (d : PyData) : Prop where
  ok : okd d = true
  wt : wt d ≤ 10000000
  deep : d.depth ≤ 50
theorem Fine.shown {d : PyData} (h : Fine d) (k : d.hasDict = true → hasList d = false) : Shown d :=
  ⟨showable_okd d h.ok, Nat.le_trans h.deep (by decide), Nat.le_trans (shown_wt d h.ok) (Nat.le_trans h.wt (by decide)), k⟩
mutual
theorem canLay_okd : ∀ d : PyData, okd d = true → d.hasDict = false → d.canLay0 = true
  | .none, _, _ => rfl
  | .bool _, _, _ => rfl
  | .int _, _, _ => rfl
  | .str x, h, _ => by
    have h' := Bool.and_eq_true_iff.mp (show (x.cps.all (· < 1114112) && decide (x.length ≤ 100)) = true by simpa only [okd] using h)
    simp only [PyData.canLay0]
    exact h'.1
  | .list xs, h, n => by simpa only [PyData.canLay0] using canLayAll_okd xs (by simpa only [okd] using h) (by simpa only [PyData.hasDict] using n)
  | .tuple xs, h, n => by simpa only [PyData.canLay0] using canLayAll_okd xs (by simpa only [okd] using h) (by simpa only [PyData.hasDict] using n)
  | .dict _, _, n => by simp [PyData.hasDict] at n
theorem canLayAll_okd : ∀ ds : List PyData, okdAll ds = true → PyData.hasDictAll ds = false → PyData.canLayAll0 ds = true
  | [], _, _ => rfl
  | d :: ds, h, n => by
    have h' := Bool.and_eq_true_iff.mp (show (okd d && okdAll ds) = true by simpa only [okdAll] using h)
    have n' := Bool.or_eq_false_iff.mp (show (d.hasDict || PyData.hasDictAll ds) = false by simpa only [PyData.hasDictAll] using n)
    simp only [PyData.canLayAll0, canLay_okd d h'.1 n'.1, canLayAll_okd ds h'.2 n'.2, Bool.and_self]
end
theorem Fine.shp {d : PyData} (h : Fine d) (n : d.hasDict = false) : Shp d := by
  show (d.canLay0 && decide (d.depth ≤ 64)) = true
  rw [canLay_okd d h.ok n, decide_eq_true (Nat.le_trans h.deep (by decide))]
  rfl
section
variable {Hi : List Hp} {F : List Addr} {B : Bag} {ab : List Ab} {K : PySem.W.Frag} {te : TE} {d : PyData} {φ : PyData → Prop}
/-- all([True, False ..]) -/
theorem das_bools {F : List Addr} {H : Hp} : ∀ {bs : List Bool} {vs : List V}, Das F H vs (bs.map PyData.bool) → vs = bs.map V.bl
  | [], _, h => by
    cases h
    rfl
  | b :: bs, _, h => by
    cases h with
    | cons h1 h2 =>
      cases h1
      rw [das_bools h2]
      rfl
theorem cd_all {bs : List Bool} : CaD (rAll K) [.list (bs.map PyData.bool)] (· = .bool (bs.all id)) := fun F H vs Q tr a q => by
  cases a with
  | cons h1 h2 =>
    cases h2
    cases h1 with
    | @lst p ys _ _ h3 h4 =>
      rw [das_bools h4] at h3
      exact ⟨p, bs, rfl, .inl (.inl h3), q _ _ H (Gr.refl _ H) (.bl _) rfl⟩
/-- c in "letters" -/
theorem od_inS {c : Nat} {z : Str} : OpD (fun x y H Q => ∃ (c : Nat) (z : Str), x = .str ⟨#[c]⟩ ∧ y = .str z ∧ Q (.bl (decide (c ∈ z.cps.toList))) H) (.str ⟨#[c]⟩) (.str z) (· = .bool (decide (c ∈ z.cps.toList))) := fun F H x y Q tr a1 a2 q => by
  cases a1
  cases a2
  exact ⟨c, z, rfl, rfl, q _ _ H (Gr.refl _ H) (.bl _) rfl⟩
theorem od_ninS {c : Nat} {z : Str} : OpD (fun x y H Q => ∃ (c : Nat) (z : Str), x = .str ⟨#[c]⟩ ∧ y = .str z ∧ Q (.bl (!decide (c ∈ z.cps.toList))) H) (.str ⟨#[c]⟩) (.str z) (· = .bool (!decide (c ∈ z.cps.toList))) := fun F H x y Q tr a1 a2 q => by
  cases a1
  cases a2
  exact ⟨c, z, rfl, rfl, q _ _ H (Gr.refl _ H) (.bl _) rfl⟩
/-- a <= b <= c of ints, as a test -/
theorem ek_chain {r r' : R2} {ta tb tc : TE} {a b c : PyData} {p q : Bool} (h1 : Ek Hi F B ab ta a) (h2 : Ek Hi F B ab tb b) (h3 : Ek Hi F B ab tc c) (o1 : OpD r a b (· = .bool p)) (o2 : OpD r' b c (· = .bool q)) :
    Ek Hi F B ab (tChain r r' ta tb tc) (.bool (p && q)) := fun σ H Q s l k =>
  h1 σ H _ s l fun x dx H1 c1 s1 a1 p1 => h2 σ H1 _ s1 (l.gr (Ch.wide c1 s)) fun y dy H2 c2 s2 a2 p2 => by
    subst p1 p2
    refine o1 F H2 x y _ s2.tr (a1.gr (Ch.wide c2 s1)) a2 fun z dz H3 g3 a3 p3 => ?_
    subst p3
    cases a3
    refine ⟨p, rfl, ?_⟩
    have c3 : Ch B H H3 := (c1.trans c2).trans (ch_of g3)
    have s3 := s2.same g3
    cases p with
    | false => exact iteF (k _ _ H3 c3 s3 (.bl false) rfl)
    | true =>
      refine iteT (h3 σ H3 _ s3 (l.gr (Ch.wide c3 s)) fun w dw H4 c4 s4 a4 p4 => ?_)
      subst p4
      refine o2 F H4 y w _ s4.tr ((a2.gr (Gr.wide g3 fun _ z => nomatch z)).gr (Ch.wide c4 s3)) a4 fun z dz H5 g5 a5 p5 => ?_
      subst p5
      cases a5
      exact k _ _ H5 (c3.trans (c4.trans (ch_of g5))) (s4.same g5) (.bl q) rfl
end
end Gd

/-! list(text) -/
namespace Gd
open PySem PySem.Spec PyProof.Rows L2 PySem.W
section
variable {prog : Program} {w : World} {A : Around} {E : Value → Shared → Prop} {s : Shared} {x : Str} {t : Tok}
theorem hint_str {Q : Bool → Shared → Prop} (h : ∀ b, Q b s) : wpAny (model prog w) A (Builtin.List.listLengthHint (.str x t)) Q E s := by
  unfold Builtin.List.listLengthHint
  refine wpAny_bind (wpAny_specialOf (typeIs_str s x t) PySem.F.slot_str_len.lookup ?_)
  generalize hid : ("str.__len__" : String) = id0
  wp_delta
  rw [show splitId id0 = some ("str", "__len__") from by subst hid; decide +kernel]
  subst hid
  refine wpAny_bind (wpAny_isInstance (T := "str") (b := true) (typeIs_str s x t) (by rw [isSubtype_type]; kernel_rfl) ?_)
  refine wpAny_ite_split (fun ab => absurd ab (by decide)) (fun _ => ?_)
  refine wpAny_ite_split (fun _ => ?_) (fun ab => absurd (by decide +kernel) ab)
  refine wpAny_bind (wpAny_typeOf (typeIs_str s x t) ?_)
  exact wpAny_pure (h false)
theorem text_extend {R : Result → Shared → Prop} (hh : A.handled = none) (S : Addr) (res : Value) (c₀ : Nat) (hS : s.heap.get? S = some { cls := .type "list", data := .seq #[] c₀ })
    (hR : ∀ h' tk acc' c', (∀ b o, b ≠ S → s.heap.get? b = some o → h'.get? b = some o) →
      h'.get? S = some { cls := .type "list", dict := none, data := .seq acc' c', slots := #[] } → ItemsOf (SignAt x) acc' x.cps.size → R (.ok (.ret res)) { s with heap := h', toks := tk })
    (hn : x.cps.size ≤ sizeLine) :
    wpAny (model prog w) A.in1 (Builtin.List.listExtendWith (.ref S) (.str x t) res)
      (fun fin s' => match fin with | .done f => R (.ok f) s' | .again c' => c'.quiet = true ∧ codeAny (model prog w) A c' R s') (fun e s' => R (.error e) s') s := by
  have hSI : S ≠ s.heap.objs.size := Nat.ne_of_lt (Heap.lt_size hS)
  have hSf : S ∉ [s.heap.objs.size] := by simpa using hSI
  unfold Builtin.List.listExtendWith
  refine wpAny_bind (wpAny_typeOf (T := "str") (typeIs_str s x t) ?_)
  have h1 : Builtin.List.listSameRef (.ref S) (.str x t) = false := rfl
  have h2 : (Value.type "str" == Value.type "list") = false := by decide
  have h3 : (Value.type "str" == Value.type "tuple") = false := by decide
  simp only [h1, h2, h3, Bool.or_false, Bool.false_eq_true, if_false]
  refine wpAny_bind (wpAny_pyIter_str fun oI St W0 st => ?_)
  have W := W0 A.in1 hh
  have key : ∀ (h : Heap) (c₁ tk : Nat), St 0 h → (∀ b o, b ≠ S → s.heap.get? b = some o → h.get? b = some o) →
      h.get? S = some { cls := .type "list", data := .seq #[] c₁ } →
      codeAny (model prog w) A (.builtin "list.extend.loop" ⟨[.ref S, .ref s.heap.objs.size, res], []⟩) R { s with heap := h, toks := tk } := by
    intro h c₁ tk hst hk hS₁
    refine codeAny_extend_loopS W.toS hn S hSf res x.cps.size 0 _ #[] c₁ rfl (Nat.zero_le _) hst hS₁ (ItemsOf.nil _) fun s2 acc' c' hm hS2 hacc => ?_
    rw [Moved.eq_with hm]
    refine hR s2.heap s2.toks acc' c' (fun b o hb e => hm.heap b o (fun mem => ?_) (hk b o hb e)) hS2 hacc
    rcases List.mem_cons.mp mem with e2 | mem
    · exact hb e2
    · exact absurd (Heap.lt_size e) (by rw [List.mem_singleton.mp mem]; exact Nat.lt_irrefl _)
  have hS₁ := Heap.get?_push_of_some oI hS
  refine wpAny_bind (wpAny_holding (hint_str fun room => ?_))
  refine wpAny_ite_split (fun _ => ?_) (fun _ => wpAny_pure ⟨plainId_quiet PySem.F.plain_extend_loop _, key _ c₀ _ st (fun b o _ e => Heap.get?_push_of_some _ e) hS₁⟩)
  refine wpAny_bind (wpAny_rule ?_)
  refine wpAny_bind ?_
  show wpAny _ _ (updateSeq S (·.push .none) >>= fun _ => updateSeq S (·.pop)) _ _ _
  refine wpAny_bind (wpAny_updateSeq hS₁ rfl ?_)
  have hS₂ := Heap.get?_update_self (Obj.mapSeq (·.push Value.none)) hS₁ rfl
  refine wpAny_updateSeq (hz := by seq_fits) hS₂ rfl ?_
  have hS₃ := Heap.get?_update_self (Obj.mapSeq (·.pop)) hS₂ rfl
  refine wpAny_pure ⟨plainId_quiet PySem.F.plain_extend_loop _, key _ _ _ ?_ (fun b o hb e => ?_) hS₃⟩
  · refine W.frame 0 _ _ st fun b hb o e => ?_
    have nS : b ≠ S := fun z => hSf (z ▸ hb)
    exact (Heap.get?_update_other _ _ (Ne.symm nS)).trans ((Heap.get?_update_other _ _ (Ne.symm nS)).trans e)
  · exact (Heap.get?_update_other _ _ (Ne.symm hb)).trans ((Heap.get?_update_other _ _ (Ne.symm hb)).trans (Heap.get?_push_of_some _ e))
theorem text_list {Q : Value → Shared → Prop} (hh : A.handled = none) (hn : x.cps.size ≤ sizeLine)
    (hQ : ∀ h' tk acc' c', (∀ b o, s.heap.get? b = some o → h'.get? b = some o) →
      h'.get? s.heap.objs.size = some { cls := .type "list", dict := none, data := .seq acc' c', slots := #[] } → ItemsOf (SignAt x) acc' x.cps.size → Q (.ref s.heap.objs.size) { s with heap := h', toks := tk }) :
    wpAny (model prog w) A (call (.type "list") [.str x t]) Q E s := by
  refine callType_codes (Q₁ := fun obj s₁ => obj = .ref s.heap.objs.size ∧ s₁ = { s with heap := s.heap.push { cls := .type "list", data := .seq #[] } })
    PySem.F.called_list (PySem.F.typeCall_list_1 _) PySem.F.entry_list_init (code_list_new _ ⟨rfl, rfl⟩) fun obj s₁ h₁ => ?_
  obtain ⟨rfl, rfl⟩ := h₁
  have hS : (s.heap.push { cls := .type "list", data := .seq #[] }).get? s.heap.objs.size = some { cls := .type "list", data := .seq #[] } := Heap.get?_push_size _ rfl
  refine ⟨⟨_, hS, rfl⟩, PySem.F.args_list_init_2 _ _, ?_⟩
  show wpAny _ _ (do let old ← Builtin.List.listItems (.ref s.heap.objs.size); Builtin.List.listUpdate (.ref s.heap.objs.size) (fun _ => #[]); letGo old.toList.reverse; Builtin.List.listExtendWith (.ref s.heap.objs.size) (.str x t) .none) _ _ _
  refine wpAny_bind ?_
  unfold Builtin.List.listItems
  refine wpAny_bind (wpAny_seqItems hS rfl (wpAny_pure ?_))
  show wpAny _ _ (updateSeq s.heap.objs.size (fun _ => #[]) >>= fun _ => letGo (#[] : Array Value).toList.reverse >>= fun _ => Builtin.List.listExtendWith (.ref s.heap.objs.size) (.str x t) .none) _ _ _
  refine wpAny_bind (wpAny_updateSeq hS rfl ?_)
  have hS₂ := Heap.get?_update_self (Obj.mapSeq (fun _ => (#[] : Array Value))) hS rfl
  refine wpAny_bind (wpAny_letGo ?_)
  refine text_extend (A := A.in1) hh _ .none _ hS₂ (fun h' tk acc' c' hk hS' hacc => ?_) hn
  refine ⟨rfl, hQ h' tk acc' c' (fun b o e => hk b o (Nat.ne_of_lt (Heap.lt_size e)) ?_) hS' hacc⟩
  exact (Heap.get?_update_other _ _ (Nat.ne_of_gt (Heap.lt_size e))).trans (Heap.get?_push_of_some _ e)
end
def rListStr : List V → Hp → VK → Prop := fun xs H Q => ∃ x : Str, xs = [.str x] ∧ x.length ≤ sizeLine ∧ ∀ l, H l = none → Q (.ref l) (upd H l (.lst (x.cps.toList.map fun c => V.str ⟨#[c]⟩)))
theorem vals_signs {x : Str} {acc : Array Value} (h : ItemsOf (SignAt x) acc x.cps.size) : Vals (x.cps.toList.map fun c => V.str ⟨#[c]⟩) acc.toList := by
  have main : ∀ (cs : List Nat) (vs : List Value), vs.length = cs.length → (∀ (i : Nat) (v : Value) (c : Nat), vs[i]? = some v → cs[i]? = some c → ∃ u, v = .str ⟨#[c]⟩ u) → Vals (cs.map fun c => V.str ⟨#[c]⟩) vs := by
    intro cs
    induction cs with
    | nil =>
      intro vs l _
      cases vs with
      | nil => exact .nil
      | cons _ _ => exact nomatch l
    | cons c cs ih =>
      intro vs l k
      cases vs with
      | nil => exact nomatch l
      | cons v vs =>
        obtain ⟨u, e⟩ := k 0 v c rfl rfl
        exact .cons ⟨u, e⟩ (ih vs (Nat.succ.inj l) fun i v' c' e1 e2 => k (i + 1) v' c' e1 e2)
  refine main x.cps.toList acc.toList (by rw [Array.length_toList, h.1]; simp) fun i v c e1 e2 => ?_
  obtain ⟨c', u, e3, e4⟩ := h.2 i v (by rw [← Array.getElem?_toList]; exact e1)
  rw [← Array.getElem?_toList] at e3
  rw [e2] at e3
  cases e3
  exact ⟨u, e4⟩
theorem call_listStr {X : Cx} (hc : X.calm = true) : CallR X (.type "list") rListStr := by
  intro pins s σ H xs us Q I r h
  obtain ⟨x, rfl, hz, q⟩ := h
  obtain ⟨u, rfl, rx⟩ := vals1 r
  obtain ⟨t, rfl⟩ := rx
  have hz' : x.cps.size ≤ sizeLine := hz
  refine text_list (I.ok.hd hc) hz' fun h' tk acc' c' kp e items => ?_
  refine ⟨.ref s.heap.objs.size, _, I.laid (t' := tk) kp (Nat.le_refl _) (show ObjOk X.prog X.w _ h' _ (.lst (x.cps.toList.map fun c => V.str ⟨#[c]⟩)) from ⟨?_, acc'.toList, c', vals_signs items, ?_⟩), rfl, q _ (I.hok.fresh (Nat.le_refl _))⟩
  · rw [List.length_map, Array.length_toList]
    exact hz'
  · simpa using e
def rListA (K : PySem.W.Frag) : List V → Hp → VK → Prop := fun xs H Q => (∃ p ys, xs = [.ref p] ∧ (SqL K H p ys ∨ SqT K H p ys) ∧ ∀ l, H l = none → Q (.ref l) (upd H l (.lst ys))) ∨ rListStr xs H Q
theorem call_listA {X : Cx} (hc : X.calm = true) : CallR X (.type "list") (rListA X.K) := CallR.or call_list_of (call_listStr hc)
section
variable {K : PySem.W.Frag}
theorem cd_listL {xs : List PyData} : CaD (rListA K) [.list xs] (· = .list xs) := fun F H vs Q tr a q => by
  cases a with
  | cons h1 h2 =>
    cases h2
    cases h1 with
    | @lst p ys _ _ h3 h4 => exact .inl ⟨p, ys, rfl, .inl (.inl (.inl h3)), fun l hl => q _ (.list xs) _ (Gr.new hl) (.lst (fun m => tr l m hl) upd_same (h4.gr (Gr.new hl))) rfl⟩
theorem cd_listT {xs : List PyData} : CaD (rListA K) [.tuple xs] (· = .list xs) := fun F H vs Q tr a q => by
  cases a with
  | cons h1 h2 =>
    cases h2
    cases h1 with
    | @tup p ys _ _ h3 h4 => exact .inl ⟨p, ys, rfl, .inr h3.seq, fun l hl => q _ (.list xs) _ (Gr.new hl) (.lst (fun m => tr l m hl) upd_same (h4.gr (Gr.new hl))) rfl⟩
theorem das_signs {F : List Addr} {H : Hp} : ∀ cs : List Nat, Das F H (cs.map fun c => V.str ⟨#[c]⟩) (cs.map fun c => PyData.str ⟨#[c]⟩)
  | [] => .nil
  | c :: cs => .cons (.str _) (das_signs cs)
theorem cd_listS {x : Str} (z : x.length ≤ 100000) : CaD (rListA K) [.str x] (· = .list (signs x)) := fun F H vs Q tr a q => by
  cases a with
  | cons h1 h2 =>
    cases h2
    cases h1
    exact .inr ⟨x, rfl, Nat.le_trans z (by decide), fun l hl => q _ (.list (signs x)) _ (Gr.new hl) (.lst (fun m => tr l m hl) upd_same (das_signs _)) rfl⟩
theorem od_neL {d e : PyData} (h1 : Shp d) (h2 : Shp e) : OpD (rNeA K) d e (· = .bool (!PyData.eqv d e)) := od_neA h1 h2
end
end Gd

/-! slices, several targets, functions of data -/
namespace Gd
open PySem PySem.Spec PyProof.Rows L2
section
variable {Hi : List Hp} {F : List Addr} {B : Bag} {ab : List Ab} {K : PySem.W.Frag} {te : TE} {tas : TA} {d : PyData} {ds : List PyData} {D : Ends}
/-- a slice's part -/
def Ep (Hi : List Hp) (F : List Addr) (B : Bag) (ab : List Ab) (tp : TO) (o : Option Int) : Prop := ∀ (σ : L2.St) (H : Hp) (Q : Option Int → Hp → Prop), St Hi F B H → Sl F B H σ ab →
  (∀ H', Ch B H H' → St Hi F B H' → Q o H') → tp σ H Q
theorem ep_none : Ep Hi F B ab tNoPart none := fun σ H Q s l q => q H (Gr.refl _ H) s
theorem ep_some {i : Int} (h : Ek Hi F B ab te (.int i)) : Ep Hi F B ab (tPart te) (some i) := fun σ H Q s l q => h σ H _ s l fun v d H1 c1 s1 a1 e => by
  subst e
  cases a1
  exact ⟨i, rfl, q H1 c1 s1⟩
def cutD {α : Type} (xs : List α) (lo hi : Option Int) : List α := (xs.drop (HT.sIx xs.length 0 lo)).take (HT.sIx xs.length xs.length hi - HT.sIx xs.length 0 lo)
theorem Das.cut {H : Hp} {vs : List V} (h : Das F H vs ds) (lo hi : Option Int) : Das F H (cutV vs lo hi) (cutD ds lo hi) := by
  unfold cutV cutD
  rw [h.length]
  exact (h.drop _).take _
theorem ek_slL {tl th : TO} {lo hi : Option Int} (h : Ek Hi F B ab te (.list ds)) (h1 : Ep Hi F B ab tl lo) (h2 : Ep Hi F B ab th hi) : Ek Hi F B ab (tSl (rSlAll K) te tl th) (.list (cutD ds lo hi)) := fun σ H Q s l q =>
  h σ H _ s l fun v d H1 c1 s1 a1 p1 => h1 σ H1 _ s1 (l.gr (Ch.wide c1 s)) fun H2 c2 s2 => h2 σ H2 _ s2 (l.gr (Ch.wide (c1.trans c2) s)) fun H3 c3 s3 => by
    subst p1
    have a3 := (a1.gr (Ch.wide c2 s1)).gr (Ch.wide c3 s2)
    have c := c1.trans (c2.trans c3)
    cases a3 with
    | @lst a xs _ nf hx kx =>
      refine .inl ⟨a, xs, rfl, .inl (.inl hx), fun p hp => ?_⟩
      have g : Gr [] H3 (upd H3 p (.lst (cutV xs lo hi))) := Gr.new hp
      exact q _ (.list (cutD ds lo hi)) _ (c.trans (ch_of g)) (s3.same g) (.lst (s3.nF hp) upd_same ((kx.cut lo hi).gr (Gr.new hp))) rfl
theorem ek_slS {tl th : TO} {lo hi : Option Int} {x : Str} (h : Ek Hi F B ab te (.str x)) (z : x.length ≤ 100000) (h1 : Ep Hi F B ab tl lo) (h2 : Ep Hi F B ab th hi) : Ek Hi F B ab (tSl (rSlAll K) te tl th) (.str (cutS x lo hi)) := fun σ H Q s l q =>
  h σ H _ s l fun v d H1 c1 s1 a1 p1 => h1 σ H1 _ s1 (l.gr (Ch.wide c1 s)) fun H2 c2 s2 => h2 σ H2 _ s2 (l.gr (Ch.wide (c1.trans c2) s)) fun H3 c3 s3 => by
    subst p1
    cases a1
    exact .inr ⟨x, rfl, Nat.le_trans z (by decide), q _ _ H3 (c1.trans (c2.trans c3)) s3 (.str _) rfl⟩
/-- x, y = e;  x, y, z = e -/
theorem ok_asg2 {i j : Nat} {d e : PyData} (h : Ek Hi F B ab te (.tuple [d, e])) (k : OkK Hi F B D.nx ((ab.set i (.dat d)).set j (.dat e))) : Ok Hi F B (tAsg te (gTup K 2 (gCons (gName i) (gCons (gName j) gNil)))) D ab := fun σ H s l =>
  h σ H _ s l fun v w H1 c1 s1 a1 p => by
    subst p
    cases a1 with
    | @tup a xs _ nf hx kx =>
      cases kx with
      | cons b1 kx =>
        cases kx with
        | cons b2 kx =>
          cases kx
          exact ⟨a, _, rfl, hx.seq, rfl, _, _, rfl, _, _, rfl, rfl, k _ H1 s1 (Sl.set (a := .dat _) (Sl.set (a := .dat _) (l.gr (Ch.wide c1 s)) ⟨_, rfl, b1⟩) ⟨_, rfl, b2⟩)⟩
theorem ok_asg3 {i j m : Nat} {d e f : PyData} (h : Ek Hi F B ab te (.tuple [d, e, f])) (k : OkK Hi F B D.nx (((ab.set i (.dat d)).set j (.dat e)).set m (.dat f))) : Ok Hi F B (tAsg te (gTup K 3 (gCons (gName i) (gCons (gName j) (gCons (gName m) gNil))))) D ab := fun σ H s l =>
  h σ H _ s l fun v w H1 c1 s1 a1 p => by
    subst p
    cases a1 with
    | @tup a xs _ nf hx kx =>
      cases kx with
      | cons b1 kx =>
        cases kx with
        | cons b2 kx =>
          cases kx with
          | cons b3 kx =>
            cases kx
            exact ⟨a, _, rfl, hx.seq, rfl, _, _, rfl, _, _, rfl, _, _, rfl, rfl, k _ H1 s1 (Sl.set (a := .dat _) (Sl.set (a := .dat _) (Sl.set (a := .dat _) (l.gr (Ch.wide c1 s)) ⟨_, rfl, b1⟩) ⟨_, rfl, b2⟩) ⟨_, rfl, b3⟩)⟩
theorem ek_cb {r : List V → Hp → VK → Prop} {z : PyData} (h : Eks Hi F B ab tas ds) (hr : CaD r ds (· = z)) : Ek Hi F B ab (tCB r tas) z := ev_cb h fun ds' e => e ▸ hr
/-- a def that is a function of one value -/
def Fun1 (ok : PyData → Prop) (f : PyData → PyData) : Sp := SpP (fun ds => ∃ d, ds = [d] ∧ ok d) (fun ds r => ∃ d, ds = [d] ∧ r = f d)
theorem ek_fun1 {ok : PyData → Prop} {f : PyData → PyData} {E : XK} (h : Ek Hi F B ab te d) (o : ok d) : Ek Hi F B ab (tCall (Fun1 ok f) [] E (tCons te tNil)) (f d) :=
  ev_callP (eks_cons h evs_nil) (fun ds e => ⟨d, e, o⟩) fun ds r e ⟨d', e', q⟩ => by
    rw [e] at e'
    cases e'
    exact q
theorem ek_if {t : TT} {ta tb : TE} {c : Bool} {d e : PyData} (h : EkT Hi F B ab t c) (h1 : c = true → Ek Hi F B ab ta d) (h2 : c = false → Ek Hi F B ab tb e) : Ek Hi F B ab (tIf t ta tb) (if c then d else e) := fun σ H Q s l q => h σ H _ s l fun k H1 c1 s1 p => by
  subst p
  cases k with
  | true => exact iteT (h1 rfl σ H1 _ s1 (l.gr (Ch.wide c1 s)) fun k2 d2 H2 c2 s2 a2 p2 => q k2 d2 H2 (c1.trans c2) s2 a2 p2)
  | false => exact iteF (h2 rfl σ H1 _ s1 (l.gr (Ch.wide c1 s)) fun k2 d2 H2 c2 s2 a2 p2 => q k2 d2 H2 (c1.trans c2) s2 a2 p2)
end
end Gd

/-! texts times a number, dict displays, join -/
namespace Gd
open PySem PySem.Spec PyProof.Rows L2
section
variable {Hi : List Hp} {F : List Addr} {B : Bag} {ab : List Ab} {K : PySem.W.Frag} {te tf : TE} {tas : TA}
theorem ek_neg {i : Int} (h : Ek Hi F B ab te (.int i)) : Ek Hi F B ab (tUn (rU fun i => .int (-i)) te) (.int (-i)) := fun σ H Q s l q => h σ H _ s l fun v d H1 c1 s1 a1 e => by
  subst e
  cases a1
  exact ⟨i, rfl, q _ _ H1 c1 s1 (.int _) rfl⟩
theorem ek_dnew : Ek Hi F B ab tDNewK (.dict []) := fun σ H Q s l q p hp => by
  have g : Gr [] H (upd H p (.dK [])) := Gr.new hp
  exact q _ (.dict []) _ (ch_of g) (s.same g) (.dct (s.nF hp) upd_same rfl .nil) rfl
theorem St.none {H H' : Hp} {p : Addr} (s : St Hi F B H) (n : H p = none) : (∀ A ∈ Hi, A p = none) := fun A m => by
  cases e : A p with
  | none => rfl
  | some o =>
    have h := s.ch A m p o (fun z => ?_) e
    · rw [n] at h
      cases h
    · exact absurd n (s.tr p (ob_sub s p z))
theorem ek_disp1 {x : Str} {i : Int} (h1 : Ek Hi F B ab te (.str x)) (h2 : Ek Hi F B ab tf (.int i)) : Ek Hi F B ab (tDisp [(te, tf)]) (.dict [(.str x, .int i)]) := fun σ H Q s l q p hp => by
  have g : Gr [] H (upd H p (.dK [])) := Gr.new hp
  have s0 := s.same g
  have l0 : Sl F B (upd H p (.dK [])) σ ab := l.gr (g.wide fun _ z => nomatch z)
  have np : p ∉ ob B := fun z => s.tr p (ob_sub s p z) hp
  refine h1 σ _ _ s0 l0 fun v1 d1 H1 c1 s1 a1 e1 => h2 σ H1 _ s1 (l0.gr (Ch.wide c1 s0)) fun v2 d2 H2 c2 s2 a2 e2 => ?_
  subst e1 e2
  cases a1
  cases a2
  have e : H2 p = some (.dK []) := (c1.trans c2) p _ np upd_same
  refine ⟨e, [(.inr x, .int i)], rfl, (by show 1 ≤ 15; decide), ?_⟩
  show Q (.ref p) (upd H2 p (.dK [(.inr x, .int i)]))
  have sF : St Hi F B (upd H2 p (.dK [(.inr x, .int i)])) := by
    refine St.put (St.none (H' := H) s hp) (fun b l2 eb => ?_) s2
    obtain ⟨m1, m2, _, _⟩ := s.bag b l2 eb
    exact ⟨fun z => s.tr b m1 (z ▸ hp), fun z => s.tr l2 m2 (z ▸ hp)⟩
  refine q _ _ _ (fun a u na ea => ?_) sF (.dct (kvs := [(.inr x, .int i)]) (s.nF hp) upd_same rfl (.cons (.int i) .nil)) rfl
  have ne : a ≠ p := fun z => by
    rw [z, hp] at ea
    cases ea
  rw [upd_ne ne]
  refine (c1.trans c2) a u na ?_
  rw [upd_ne ne]
  exact ea
/-- sep.join([..]) -/
theorem das_strs {H : Hp} : ∀ {ys : List Str} {vs : List V}, Das F H vs (ys.map PyData.str) → vs = ys.map V.str
  | [], _, h => by
    cases h
    rfl
  | y :: ys, _, h => by
    cases h with
    | cons h1 h2 =>
      cases h1
      rw [das_strs h2]
      rfl
theorem ev_join {a : Str} {χ : List Str → Prop} (h1 : Ek Hi F B ab te (.str a)) (h2 : Evs Hi F B ab tas (fun ds => ∃ ys : List Str, ds = [.list (ys.map PyData.str)] ∧ χ ys)) (z : ∀ ys, χ ys → (ys.map (·.length)).sum + ys.length * a.length ≤ 16777216) :
    Ev Hi F B ab (tBM K "str" (fun x xs H Q => ∃ a p, ∃ ys : List Str, x = .str a ∧ xs = [.ref p] ∧ (SqL K H p (ys.map V.str) ∨ SqT K H p (ys.map V.str)) ∧ (ys.map (·.length)).sum + ys.length * a.length ≤ 16777216 ∧ Q (.str (Txt.join a ys)) H) te tas)
      (fun d => ∃ ys, d = .str (Txt.join a ys) ∧ χ ys) := fun σ H Q s l q =>
  h1 σ H _ s l fun x d1 H1 c1 s1 a1 e1 => by
    subst e1
    cases a1
    refine ⟨rfl, h2 σ H1 _ s1 (l.gr (Ch.wide c1 s)) fun vs ds H2 c2 s2 a2 ⟨ys, e2, hχ⟩ => ?_⟩
    subst e2
    cases a2 with
    | cons b1 b2 =>
      cases b2
      cases b1 with
      | @lst p us _ _ h3 h4 =>
        rw [das_strs h4] at h3
        exact ⟨a, p, ys, rfl, rfl, .inl (.inl (.inl h3)), z ys hχ, q _ _ H2 (c1.trans c2) s2 (.str _) ⟨ys, rfl, hχ⟩⟩
theorem joinL0 : ∀ ps : List (List Nat), TL.joinL [] ps = ps.flatten
  | [] => rfl
  | [p] => by simp [TL.joinL]
  | p :: q :: r => by
    show p ++ ([] ++ TL.joinL [] (q :: r)) = _
    rw [joinL0 (q :: r)]
    simp
theorem join0 (ys : List Str) : (Txt.join Str.empty ys).cps.toList = (ys.map fun y => y.cps.toList).flatten := by
  rw [TL.join_eq]
  have := TL.tl_join Str.empty ys
  rw [show (Str.join Str.empty ys).cps.toList = TL.joinL (TL.tl Str.empty) (ys.map TL.tl) from this]
  exact joinL0 _
end
end Gd

/-! set(xs) of a list or tuple of any texts -/
namespace Gd
open PySem PySem.Spec PyProof.Rows
/-- how many different texts the first i ones are -/
def kinds (xs : List Str) : Nat → Nat
  | 0 => 0
  | i + 1 => if xs.getD i Str.empty ∈ xs.take i then kinds xs i else kinds xs i + 1
theorem kinds_le (xs : List Str) : ∀ i, kinds xs i ≤ i
  | 0 => Nat.le_refl 0
  | i + 1 => by
    have := kinds_le xs i
    unfold kinds
    split <;> omega
theorem kinds_eq {xs : List Str} : ∀ {i : Nat}, i ≤ xs.length → (kinds xs i = i ↔ (xs.take i).Nodup)
  | 0, _ => by simp [kinds]
  | i + 1, h => by
    have il : i < xs.length := h
    have ih := kinds_eq (xs := xs) (i := i) (by omega)
    have le := kinds_le xs i
    have e : xs.take (i + 1) = xs.take i ++ [xs[i]] := by rw [List.take_succ, List.getElem?_eq_getElem il]; rfl
    have g : xs.getD i Str.empty = xs[i] := by simp [List.getD_eq_getElem?_getD, List.getElem?_eq_getElem il]
    unfold kinds
    rw [e, g, List.nodup_append]
    by_cases m : xs[i] ∈ xs.take i
    · rw [if_pos m]
      constructor
      · intro z; omega
      · rintro ⟨_, _, d⟩
        exact absurd rfl (d _ m _ List.mem_cons_self)
    · rw [if_neg m]
      constructor
      · intro z
        refine ⟨ih.mp (by omega), by simp, fun a ha b hb => ?_⟩
        have eb : b = xs[i] := by simpa using hb
        rw [eb]
        exact fun q => m (q ▸ ha)
      · rintro ⟨d, _, _⟩
        rw [ih.mpr d]
abbrev within1 (xs : List Str) (i : Nat) : Str → Bool := fun y => decide (y ∈ xs.take i)
section
variable {prog : Program} {w : World} {A : Around} {R : Result → Shared → Prop} {J : Addr} {fp wr : List Addr} {G : Array GenState → Array GenState → Prop} {n : Nat} {P : Nat → Value → Prop} {St : Nat → Shared → Prop}
theorem fill_texts (W : WalksS prog w A.in1 J fp wr G n P St) (D : Addr) (nD : D ∉ fp) (xs : List Str) (len : xs.length = n) (room : n + 1 < scanBound) (hv : ∀ i v, P i v → ∃ t, v = .str (xs.getD i Str.empty) t) :
    ∀ (m i : Nat) (s : Shared), m = n - i → i ≤ n → St i s → s.heap.SetOf (PySem.strKind prog w) D (within1 xs i) (kinds xs i) →
      (∀ s', Moved (D :: wr) G s s' → s'.heap.SetOf (PySem.strKind prog w) D (within1 xs n) (kinds xs n) → R (.ok (.ret .none)) s') →
      codeAny (model prog w) A (.builtin "set.update.loop" ⟨[.ref D, .ref J], []⟩) R s := by
  have nw : D ∉ wr := fun z => nD (W.sub _ z)
  have more : ∀ b ∈ wr, b ∈ D :: wr := fun b z => List.mem_cons_of_mem _ z
  have stay : ∀ {s s' : Shared} {S : Str → Bool} {c : Nat}, Moved wr G s s' → s.heap.SetOf (PySem.strKind prog w) D S c → s'.heap.SetOf (PySem.strKind prog w) D S c := fun mv ⟨o, a, b, c, ho, r⟩ => ⟨o, a, b, c, mv.heap D _ nw ho, r⟩
  intro m
  induction m with
  | zero =>
    intro i s em le hst is_ done
    obtain rfl : i = n := by omega
    refine codeAny_builtin F.entry_set_update_loop ?_
    rw [Around.under_plainId F.plain_set_update_loop _]
    refine wpAny_bind (W.done s _ _ hst fun s' mv => ?_)
    exact wpAny_pure (done s' (mv.mono more) (stay mv is_))
  | succ m ih =>
    intro i s em le hst is_ done
    have lt : i < n := by omega
    refine codeAny_builtin F.entry_set_update_loop ?_
    rw [Around.under_plainId F.plain_set_update_loop _]
    refine wpAny_bind (W.item i s _ _ lt hst fun v s' hp hst' mv => ?_)
    obtain ⟨t, rfl⟩ := hv i v hp
    refine wpAny_bind (wpAny_holding ?_)
    unfold setAdd
    refine wpAny_holding (wpAny_bind ((PySem.strKind prog w).pyHash (k := xs.getD i Str.empty) (strKind_is _ _ _ _) ?_))
    have rm : kinds xs i + 1 < scanBound := by have := kinds_le xs i; omega
    refine wpAny_setAddHashed_of (knd := PySem.strKind prog w) (s := { s' with toks := s'.toks + 1 }) (strKind_is _ _ _ _) rfl (show s'.heap.SetOf _ _ _ _ from stay mv is_) rm fun h' same now => ?_
    have il : i < xs.length := by omega
    have tk : xs.take (i + 1) = xs.take i ++ [xs.getD i Str.empty] := by
      rw [List.take_succ, List.getElem?_eq_getElem il]
      simp [List.getD_eq_getElem?_getD, List.getElem?_eq_getElem il]
    have nxt : h'.SetOf (PySem.strKind prog w) D (within1 xs (i + 1)) (kinds xs (i + 1)) := by
      refine SetOf_congr now (fun y => ?_) ?_
      · show (decide (y ∈ xs.take i) || decide (y = xs.getD i Str.empty)) = decide (y ∈ xs.take (i + 1))
        rw [tk]
        simp
      · show (if decide (xs.getD i Str.empty ∈ xs.take i) = true then kinds xs i else kinds xs i + 1) = if xs.getD i Str.empty ∈ xs.take i then kinds xs i else kinds xs i + 1
        by_cases q : xs.getD i Str.empty ∈ xs.take i
        · rw [if_pos q, if_pos (decide_eq_true q)]
        · rw [if_neg q, if_neg (fun z => q (of_decide_eq_true z))]
    refine wpAny_pure ⟨plainId_quiet F.plain_set_update_loop _, ih (i + 1) _ (by omega) lt (W.frame _ s' _ _ hst' (Nat.le_succ _) fun b mb o e => ?_) nxt fun s2 mv2 now2 => ?_⟩
    · exact (same.2 b (fun q : b = D => nD (by rw [← q]; exact mb))).trans e
    · exact done s2 (Moved.trans W.gtrans ((mv.mono more).then_heap (Nat.le_succ _) fun b o mb e => (same.2 b (fun q : b = D => mb (by rw [q]; exact List.mem_cons_self))).trans e) mv2) now2
end
section
variable {prog : Program} {w : World} {A : Around} {E : Value → Shared → Prop} {s : Shared}
/-- an empty set, just made -/
abbrev noSet (led : Bool) : Obj := { cls := .type "set", dict := none, data := .set #[] 0 (.fresh 0 0 led) }
/-- what the walk over a list or a tuple of texts asks -/
theorem texts_at {us : Array Value} {xs : List Str} (h : StrsAre us.toList xs) : ∀ (i : Nat) (v : Value), us[i]? = some v → ∃ t, v = .str (xs.getD i Str.empty) t := fun i v e => SS.strs_at h i v (by rw [Array.getElem?_toList]; exact e)
theorem set_of_texts {l : Addr} {us : Array Value} {xs : List Str} {Q : Value → Shared → Prop} (hh : A.handled = none) (hl : s.heap.IsList l us ∨ s.heap.IsTuple l us) (hx : StrsAre us.toList xs) (room : xs.length + 1 < scanBound)
    (h : ∀ (h' : Heap) (tk : Nat), h'.SetOf (PySem.strKind prog w) s.heap.objs.size (within1 xs xs.length) (kinds xs xs.length) → (∀ b o, s.heap.get? b = some o → h'.get? b = some o) → Q (.ref s.heap.objs.size) { s with heap := h', toks := tk }) :
    wpAny (model prog w) A (call (.type "set") [.ref l]) Q E s := by
  have lz : us.size = xs.length := by
    have q := StrsAre.len_eq hx
    rw [Array.length_toList] at q
    omega
  obtain ⟨_, _, mro⟩ := F.called_set.mro
  have made := F.called_set.made
  have subt := F.called_set.sub
  have nty := F.called_set.notType
  have can := F.called_set.canCreate
  have chk := F.typeCall_set_1 (.ref l)
  refine wpAny_call (codeAny_of_tree (show wpAny _ _ (callAny (.type "set") _) _ _ _ from wpAny_pure ⟨Code.quiet_builtin _ (by decide +kernel), codeAny_builtin F.entry_type_call ?_⟩))
  rw [Around.under_plain (weight_type_call_type "set" [.ref l] []) rfl]
  repeat (any_goals (first | assumption | wp_step))
  refine codeAny_mono (code_set_new_1 (.ref l) (E := E) (Q₁ := fun r s1 => ∃ led : Bool, r = .ref s.heap.objs.size ∧ s1 = { s with heap := s.heap.push (noSet led) }) fun led => ⟨led, rfl, rfl⟩) fun r s1 hr => ?_
  match r, hr with
  | .error _, hr => exact hr
  | .ok .next, hr => exact hr.elim
  | .ok .brk, hr => exact hr.elim
  | .ok .cont, hr => exact hr.elim
  | .ok (.ret r), hr =>
    obtain ⟨led, rfl, rfl⟩ := hr
    have gS : (s.heap.push (noSet led)).get? s.heap.objs.size = some (noSet led) := Heap.get?_push_size _ rfl
    have tS : Shared.TypeIs { s with heap := s.heap.push (noSet led) } (.ref s.heap.objs.size) "set" := ⟨_, gS, rfl⟩
    have look := F.called_set.init.lookup
    have bnd := F.called_set.init.bind (.ref s.heap.objs.size)
    repeat (any_goals (first | assumption | wp_step))
    refine codeAny_mono (codeAny_call_builtin (R := wants (fun r s2 => r = .none ∧ ∃ h' tk, s2 = { s with heap := h', toks := tk } ∧ h'.SetOf (PySem.strKind prog w) s.heap.objs.size (within1 xs xs.length) (kinds xs xs.length) ∧
      ∀ b o, s.heap.get? b = some o → h'.get? b = some o) E) F.called_set.init.plain F.entry_set_init (check_set_init_1 tS ?_)) fun r2 s2 hr2 => ?_
    · have lS : l < s.heap.objs.size := by
        rcases hl with ⟨_, e, _⟩ | ⟨_, e, _⟩ <;> exact Heap.lt_size e
      have h3 : A.in1.in1.in1.handled = none := by simp [hh]
      have z1 : (s.heap.push (noSet led)).objs.size = s.heap.objs.size + 1 := Heap.size_push ..
      have lJ : l ≠ (s.heap.push (noSet led)).objs.size := by
        rw [z1]
        exact Nat.ne_of_lt (Nat.lt_succ_of_lt lS)
      have nD : s.heap.objs.size ∉ [(s.heap.push (noSet led)).objs.size, l] := by
        rw [z1]
        simp only [List.mem_cons, List.not_mem_nil, or_false, not_or]
        exact ⟨Nat.ne_of_lt (Nat.lt_succ_self _), Nat.ne_of_gt lS⟩
      have start : ∀ it : Obj, ((s.heap.push (noSet led)).push it).SetOf (PySem.strKind prog w) s.heap.objs.size (within1 xs 0) (kinds xs 0) := fun it => by
        have g2 : ((s.heap.push (noSet led)).push it).get? s.heap.objs.size = some (noSet led) := Heap.get?_push_of_some _ gS
        exact SetOf_congr ((setObjOf_fresh (knd := PySem.strKind prog w) led).setOf g2 (by unfold scanBound; omega)) (fun y => by simp [within1]) rfl
      have fin : ∀ (it : Obj) (sJ s' : Shared), Moved (s.heap.objs.size :: [(s.heap.push (noSet led)).objs.size]) (fun a b => b = a) sJ s' → sJ.heap = (s.heap.push (noSet led)).push it → sJ.gens = s.gens → sJ.drawn = s.drawn → sJ.os = s.os →
          s'.heap.SetOf (PySem.strKind prog w) s.heap.objs.size (within1 xs us.size) (kinds xs us.size) →
          ∃ h' tk, s' = { s with heap := h', toks := tk } ∧ h'.SetOf (PySem.strKind prog w) s.heap.objs.size (within1 xs xs.length) (kinds xs xs.length) ∧ ∀ b o, s.heap.get? b = some o → h'.get? b = some o := fun it sJ s' mv e1 e2 e3 e4 is_ => by
        obtain ⟨hp, g, d, tk, os⟩ := s'
        obtain rfl : g = s.gens := (show g = sJ.gens from mv.gens).trans e2
        obtain rfl : d = s.drawn := (show d = sJ.drawn from mv.drawn).trans e3
        obtain rfl : os = s.os := (show os = sJ.os from mv.os).trans e4
        refine ⟨hp, tk, rfl, by rw [← lz]; exact is_, fun b o e => ?_⟩
        have lb := Heap.lt_size e
        refine mv.heap b o (by
          rw [z1]
          simp only [List.mem_cons, List.not_mem_nil, or_false, not_or]
          exact ⟨Nat.ne_of_lt lb, Nat.ne_of_lt (Nat.lt_succ_of_lt lb)⟩) ?_
        rw [e1]
        exact Heap.get?_push_of_some _ (Heap.get?_push_of_some _ e)
      rcases hl with ⟨ol, gl, cl, nl, dl⟩ | ⟨ol, gl, cl, nl, dl⟩
      · obtain ⟨oc, od, oda, osl⟩ := ol
        simp only at cl dl
        subst cl; subst dl
        have gl2 : (s.heap.push (noSet led)).get? l = some { cls := .type "list", dict := od, data := .seq us nl, slots := osl } := Heap.get?_push_of_some _ gl
        have isL : (s.heap.push (noSet led)).IsList l us := ⟨_, gl2, rfl, nl, rfl⟩
        have q1 := F.sub_list_set
        have q2 := F.sub_list_frozenset
        have q3 : (Value.type "list" == Value.type "dict") = false := by decide
        unfold Builtin.«set.__init__» noKeywords Builtin.Frozenset.updateFrom
        generalize hPI : pyIter = PI
        wp_walk
        subst hPI
        refine wpAny_pyIter_list isL (wpAny_bind (wpAny_runValue ?_))
        refine fill_texts ((Walks.list h3 _ l lJ us).toS) s.heap.objs.size nD xs lz.symm (by rw [lz]; exact room) (texts_at hx) us.size 0 _ (by omega) (Nat.zero_le _)
          ⟨⟨_, Heap.get?_push_size _ rfl, rfl, rfl⟩, (isL.push _)⟩ (start _) fun s' mv is_ => ?_
        obtain ⟨h', tk, e, now, keep⟩ := fin _ _ s' mv rfl rfl rfl rfl is_
        subst e
        show wpAny _ _ _ _ _ _
        refine wpAny_pure ?_
        show wpAny _ _ (ret Value.none) _ _ _
        exact wpAny_pure ⟨rfl, h', tk, rfl, now, keep⟩
      · obtain ⟨oc, od, oda, osl⟩ := ol
        simp only at cl dl
        subst cl; subst dl
        have gl2 : (s.heap.push (noSet led)).get? l = some { cls := .type "tuple", dict := od, data := .seq us nl, slots := osl } := Heap.get?_push_of_some _ gl
        have isL : (s.heap.push (noSet led)).IsTuple l us := ⟨_, gl2, rfl, nl, rfl⟩
        have q1 := F.sub_tuple_set
        have q2 := F.sub_tuple_frozenset
        have q3 : (Value.type "tuple" == Value.type "dict") = false := by decide
        unfold Builtin.«set.__init__» noKeywords Builtin.Frozenset.updateFrom
        generalize hPI : pyIter = PI
        wp_walk
        subst hPI
        refine wpAny_pyIter_tuple isL (wpAny_bind (wpAny_runValue ?_))
        refine fill_texts ((Walks.tuple h3 _ l lJ us).toS) s.heap.objs.size nD xs lz.symm (by rw [lz]; exact room) (texts_at hx) us.size 0 _ (by omega) (Nat.zero_le _)
          ⟨⟨_, Heap.get?_push_size _ rfl, rfl, rfl⟩, (isL.push _)⟩ (start _) fun s' mv is_ => ?_
        obtain ⟨h', tk, e, now, keep⟩ := fin _ _ s' mv rfl rfl rfl rfl is_
        subst e
        show wpAny _ _ _ _ _ _
        refine wpAny_pure ?_
        show wpAny _ _ (ret Value.none) _ _ _
        exact wpAny_pure ⟨rfl, h', tk, rfl, now, keep⟩
    · match r2, hr2 with
      | .error _, hr2 => exact hr2
      | .ok .next, hr2 => exact hr2.elim
      | .ok .brk, hr2 => exact hr2.elim
      | .ok .cont, hr2 => exact hr2.elim
      | .ok (.ret r2), hr2 =>
        obtain ⟨rfl, h', tk, rfl, is_, keep⟩ := hr2
        repeat (any_goals (first | assumption | wp_step))
        exact h _ _ is_ keep
end
end Gd

/-! sorted(..) of data; what is sorted does not hang on the order in which it came -/
namespace Gd
open PySem PySem.Spec PyProof.Rows L2
open PySem.W (EachIs AllAlike Sortable dataLe keyToks keyToksAll alike alikeAll)
def sortD (ds : List PyData) : List PyData := ds.mergeSort (dataLe false fun d => d)
theorem zip_each {X : Cx} {pins : List (Addr × Obj)} {σ : L2.St} {H : Hp} {s : Shared} {F : List Addr} (I : Inv X pins σ H s) : ∀ (ds : List PyData) (vs : List V) (us : List Value), Das F H vs ds → Vals vs us →
    EachIs (fun u (b : V × PyData) => (RelV b.1 u ∧ Da F H b.1 b.2) ∧ ∃ as, Reads s.heap u b.2 as) us (vs.zip ds)
  | [], _, _, h, r => by
    cases h
    cases r
    exact .nil
  | d :: ds, _, _, h, r => by
    cases h with
    | cons h1 h2 =>
      cases r with
      | cons r1 r2 =>
        obtain ⟨as, q, _⟩ := Da.reads I d _ _ h1 r1
        exact .cons ⟨⟨r1, h1⟩, as, q⟩ (zip_each I ds _ _ h2 r2)
theorem each_back {F : List Addr} {H : Hp} : ∀ {out : List Value} {bs : List (V × PyData)}, EachIs (fun u (b : V × PyData) => RelV b.1 u ∧ Da F H b.1 b.2) out bs → Vals (bs.map Prod.fst) out ∧ Das F H (bs.map Prod.fst) (bs.map Prod.snd)
  | _, _, .nil => ⟨.nil, .nil⟩
  | _, _, .cons h t => ⟨.cons h.1 (each_back t).1, .cons h.2 (each_back t).2⟩
def rSortD : List V → Hp → VK → Prop := fun xs H Q => ∃ F v ds, xs = [v] ∧ Da F H v (.list ds) ∧ AllAlike ds ∧ Sortable ds ∧ (∀ d ∈ ds, d.depth ≤ 60) ∧
  ∀ p ys, H p = none → Das F H ys (sortD ds) → ys.length ≤ sizeLine → Q (.ref p) (upd H p (.lst ys))
theorem cr_sortD {X : Cx} (hu : X.A.units + 64 < cLine) : CallR X (.builtin "sorted") rSortD := by
  intro pins s σ H xs us Q I r h
  obtain ⟨F, v, ds, rfl, hd, al, so, dp, q⟩ := h
  obtain ⟨u, rfl, rx⟩ := vals1 r
  cases hd with
  | @lst a ys _ nf ha hb =>
    obtain rfl : u = Value.ref a := rx
    obtain ⟨its, rv, pl, hz⟩ := I.list (.inl (.inl ha))
    have e := zip_each I ds ys its hb rv
    have le := hb.length
    have ms : (ys.zip ds).map Prod.snd = ds := List.map_snd_zip (by omega)
    have lz : (ys.zip ds).length = ys.length := by rw [List.length_zip]; omega
    refine PySem.W.sorted_data (enc := Prod.snd) (bs := ys.zip ds) (R := fun u b => RelV b.1 u ∧ Da F H b.1 b.2) pl.isList (e.mono fun _ _ z => z.1) (e.mono fun _ _ z => z.2) (by rw [ms]; exact al) (by rw [ms]; exact so) (by rw [lz]; exact hz) (fun b mb => ?_) fun out lo eo => ?_
    · have := dp b.2 (by rw [← ms]; exact List.mem_map.mpr ⟨b, mb, rfl⟩)
      omega
    · obtain ⟨b1, b2⟩ := each_back eo
      obtain ⟨c, hc⟩ := sortedAll_at s.heap its out.toArray
      have mm : ((ys.zip ds).mergeSort (dataLe false Prod.snd)).map Prod.snd = sortD ds := by
        refine (PySem.W.sort_maps (r := dataLe false Prod.snd) (s := dataLe false fun d : PyData => d) Prod.snd (fun _ _ _ _ => rfl)).trans ?_
        rw [ms]
        rfl
      rw [mm] at b2
      have lq : (((ys.zip ds).mergeSort (dataLe false Prod.snd)).map Prod.fst).length ≤ sizeLine := by
        rw [List.length_map, (List.mergeSort_perm _ _).length_eq, lz]
        exact hz
      exact ⟨.ref (s.heap.objs.size + 1), _, I.laid (t' := s.toks) (o := .lst (((ys.zip ds).mergeSort (dataLe false Prod.snd)).map Prod.fst)) (fun b o h => sortedAll_old h) (Nat.le_succ _) ⟨lq, out, c, b1, hc⟩, rfl, q _ _ (I.hok.fresh (Nat.le_succ _)) b2 lq⟩
theorem sortD_perm (ds : List PyData) : (sortD ds).Perm ds := List.mergeSort_perm _ _
theorem cd_sort {ds : List PyData} (al : AllAlike ds) (so : Sortable ds) (dp : ∀ d ∈ ds, d.depth ≤ 60) : CaD rSortD [.list ds] (· = .list (sortD ds)) := fun F H vs Q tr a q => by
  cases a with
  | cons h1 h2 =>
    cases h2
    exact ⟨F, _, ds, rfl, h1, al, so, dp, fun p ys hp hb _ => q _ (.list (sortD ds)) _ (Gr.new hp) (.lst (fun m => tr p m hp) upd_same (hb.gr (Gr.new hp))) rfl⟩
theorem same_of_perm {α : Type} {l m : List α} (p : l.Perm m) (h : ∀ a ∈ l, ∀ b ∈ l, a = b) : l = m := by
  cases l with
  | nil => exact (List.nil_perm.mp p).symm
  | cons x l =>
    have e1 : (x :: l) = List.replicate (x :: l).length x := List.eq_replicate_of_mem fun b m => h b m x List.mem_cons_self
    have e2 : m = List.replicate m.length x := List.eq_replicate_of_mem fun b mb => h b (p.mem_iff.mpr mb) x List.mem_cons_self
    rw [e1, e2, p.length_eq]
theorem sortD_eq {ds es : List PyData} (p : ds.Perm es) (anti : ∀ d ∈ ds, ∀ e ∈ ds, keyToks d = keyToks e → d = e) : sortD ds = sortD es := by
  have tl := PySem.W.sortLe_total (listOrd itemOrd) false (fun d : PyData => keyToks d)
  refine PySem.W.sort_one tl _ _ (PySem.W.sort_pairwise tl ds) (PySem.W.sort_pairwise tl es) fun c => ?_
  have pq : (sortD ds).Perm (sortD es) := (sortD_perm ds).trans (p.trans (sortD_perm es).symm)
  refine same_of_perm (pq.filter _) fun a ma b mb => ?_
  have ia := List.mem_filter.mp ma
  have ib := List.mem_filter.mp mb
  have ka : keyToks a = keyToks c := by
    have h := ia.2
    simp only [PySem.W.sameRank, PySem.W.sortLe, cond_false, Bool.and_eq_true, Bool.not_eq_true'] at h
    exact (listOrd itemOrd).total _ _ h.1 h.2
  have kb : keyToks b = keyToks c := by
    have h := ib.2
    simp only [PySem.W.sameRank, PySem.W.sortLe, cond_false, Bool.and_eq_true, Bool.not_eq_true'] at h
    exact (listOrd itemOrd).total _ _ h.1 h.2
  exact anti a ((sortD_perm ds).mem_iff.mp ia.1) b ((sortD_perm ds).mem_iff.mp ib.1) (ka.trans kb.symm)
/-! tuples of texts -/
def tupS (xs : List Str) : PyData := .tuple (xs.map PyData.str)
theorem toks_strs : ∀ {xs ys : List Str}, keyToksAll (xs.map PyData.str) = keyToksAll (ys.map PyData.str) → xs = ys
  | [], [], _ => rfl
  | [], y :: ys, h => by simp [keyToksAll] at h
  | x :: xs, [], h => by simp [keyToksAll] at h
  | x :: xs, y :: ys, h => by
    simp only [List.map_cons, keyToksAll, keyToks, List.cons_append, List.nil_append, List.cons.injEq, Sum.inr.injEq, true_and] at h
    rw [PySem.W.str_of_cps h.1, toks_strs h.2]
theorem toks_tup {xs ys : List Str} (h : keyToks (tupS xs) = keyToks (tupS ys)) : tupS xs = tupS ys := by
  rw [toks_strs (xs := xs) (ys := ys) (by simpa only [tupS, keyToks] using h)]
theorem alike_strs : ∀ {xs ys : List Str}, xs.length = ys.length → alikeAll (xs.map PyData.str) (ys.map PyData.str) = true
  | [], _, _ => by simp [alikeAll]
  | x :: xs, [], h => nomatch h
  | x :: xs, y :: ys, h => by
    simp only [List.map_cons, alikeAll, alike, Bool.true_and]
    exact alike_strs (Nat.succ.inj h)
theorem alike_tups {n : Nat} {ls : List (List Str)} (h : ∀ l ∈ ls, l.length = n) : AllAlike (ls.map tupS) := by
  intro d md e me
  obtain ⟨x, mx, rfl⟩ := List.mem_map.mp md
  obtain ⟨y, my, rfl⟩ := List.mem_map.mp me
  simp only [tupS, alike]
  exact alike_strs (by rw [h x mx, h y my])
theorem sortable_tups {n : Nat} {ls : List (List Str)} (h : ∀ l ∈ ls, l.length = n + 1) : Sortable (ls.map tupS) := .inl fun d md => by
  obtain ⟨x, mx, rfl⟩ := List.mem_map.mp md
  have := h x mx
  cases x with
  | nil => exact nomatch this
  | cons a r => exact ⟨.str a, r.map PyData.str, rfl⟩
theorem depth_strs : ∀ xs : List Str, PyData.depthAll (xs.map PyData.str) = 0
  | [] => rfl
  | x :: xs => by simp only [List.map_cons, PyData.depthAll, depth_strs xs, PyData.depth]; rfl
theorem depth_tups {ls : List (List Str)} : ∀ d ∈ ls.map tupS, d.depth ≤ 60 := fun d md => by
  obtain ⟨x, mx, rfl⟩ := List.mem_map.mp md
  simp only [tupS, PyData.depth, depth_strs]
  decide
theorem cd_sortT {n : Nat} {ls : List (List Str)} (h : ∀ l ∈ ls, l.length = n + 1) : CaD rSortD [.list (ls.map tupS)] (· = .list (sortD (ls.map tupS))) := cd_sort (alike_tups h) (sortable_tups h) depth_tups
theorem sortD_tups {ls : List (List Str)} : ∃ ms : List (List Str), sortD (ls.map tupS) = ms.map tupS ∧ ms.Perm ls := by
  refine ⟨ls.mergeSort fun a b => dataLe false (fun d => d) (tupS a) (tupS b), ?_, List.mergeSort_perm _ _⟩
  unfold sortD
  rw [PySem.W.sort_maps (s := dataLe false fun d => d) tupS (fun _ _ _ _ => rfl)]
theorem sortD_tups_eq {ls ms : List (List Str)} (p : ls.Perm ms) : sortD (ls.map tupS) = sortD (ms.map tupS) := sortD_eq (p.map tupS) fun d md e me k => by
  obtain ⟨x, mx, rfl⟩ := List.mem_map.mp md
  obtain ⟨y, my, rfl⟩ := List.mem_map.mp me
  exact toks_tup k
/-! texts -/
theorem cd_sortS {xs : List Str} : CaD rSortD [.list (xs.map PyData.str)] (· = .list (sortD (xs.map PyData.str))) := cd_sort (fun d md e me => by
    obtain ⟨x, mx, rfl⟩ := List.mem_map.mp md
    obtain ⟨y, my, rfl⟩ := List.mem_map.mp me
    rfl) (.inr fun d md => by
    obtain ⟨x, mx, rfl⟩ := List.mem_map.mp md
    exact ⟨(fun z => nomatch z), (fun ys z => nomatch z)⟩) fun d md => by
    obtain ⟨x, mx, rfl⟩ := List.mem_map.mp md
    exact Nat.zero_le _
theorem sortD_strs {xs : List Str} : ∃ ys : List Str, sortD (xs.map PyData.str) = ys.map PyData.str ∧ ys.Perm xs := by
  refine ⟨xs.mergeSort fun a b => dataLe false (fun d => d) (PyData.str a) (PyData.str b), ?_, List.mergeSort_perm _ _⟩
  unfold sortD
  rw [PySem.W.sort_maps (s := dataLe false fun d => d) PyData.str (fun _ _ _ _ => rfl)]
end Gd

/-! {pair: v for ..}: a dict whose keys are tuples, made by a comprehension -/
namespace Gd
open PySem PySem.Spec PyProof.Rows L2
theorem dset_tup {X : Cx} {pins : List (Addr × Obj)} {σ : L2.St} {H : Hp} {s : Shared} {E : Value → Shared → Prop} {D b : Addr} {kvs : List (List L2.Key × V)} {k : List L2.Key} {v : V} {r : Value} {Q : Unit → Shared → Prop}
    (hu : X.A.units + 1 < cLine) (I : Inv X pins σ H s) (hD : H D = some (.dT kvs)) (hz : kvs.length < sizeLine) (eb : H b = some (.tup (k.map kV))) (rv : RelV v r)
    (h : ∀ s', Inv X pins σ (upd H D (.dT (putK kvs k v))) s' → Q () s') : wpAny (model X.prog X.w) X.A (dictSet D (.ref b) r) Q E s := by
  obtain ⟨z, hd, xs, rel, dd⟩ := dt_of I.hok hD
  have lx : xs.length ≤ sizeLine := Paired.length rel ▸ z
  have lp : (putK kvs k v).length ≤ sizeLine := Nat.le_trans (length_putK kvs k v) hz
  refine wpAny_dictSet_heap (hsz := lx) (show X.A.units < cLine by omega) (key_of I.hok eb) dd fun g dd2 hs => h _ ?_
  obtain ⟨q, es, ep, hq, c2, c3, c4, _, c5⟩ := dd2
  refine d_write I (hD ▸ True.intro) hs ⟨q, hq⟩ ⟨lp, hd, _, (rel.put k eb rv).keeps fun c ys ec => ?_, q, es, ep, hq, c2, c3, c4, c5⟩
  rw [upd_ne (ne_of ec hD fun z => nomatch z)]
  exact ec
/-- what {k: v for target in iter} asks, its keys tuples -/
def tDcT (wi : TI) (g : TG) (tk tv : TE) (vs : List Nat) : TE := fun σ H Q => wi σ H fun J H1 => ∀ D, H1 D = none → ∃ W : Nat → Nat → Hp → Prop, (∃ m, W 0 m (upd H1 D (.dT []))) ∧ ∀ i m G, W i m G →
  (J.stop i G ∧ Q (.ref D) G) ∨ (J.go i G ∧ ∃ Nx : Hp → Prop, (∀ G', Nx G' → ∃ m', m' < m ∧ W (i + 1) m' G') ∧ ∀ x G', J.yld i G x G' → g x (wipe σ vs) G' fun σ2 G2 => wipe σ2 vs = wipe σ vs ∧
    tk σ2 G2 fun y G4 => tv σ2 G4 fun z G5 => ∃ (kvs : List (List L2.Key × V)) (k : List L2.Key) (b : Addr), y = .ref b ∧ G5 b = some (.tup (k.map kV)) ∧ G5 D = some (.dT kvs) ∧ kvs.length < sizeLine ∧ Nx (upd G5 D (.dT (putK kvs k z))))
section
variable {X : Cx} {kx vx tg iter : Expr} {scope : Scope} {own : List (Str × Nat)} {pos pos' : Pos} {wi : TI} {g : TG} {tk tv : TE}
abbrev InBlk (X : Cx) (scope : Scope) (Φ : Cx → Prop) : Prop := ∀ (s : Shared) (H : Hp) (C : Addr) (cl : List (Str × Addr)) (fp : List Addr), Φ (X.blk s H scope (compEnvC scope cl C X.env) fp)
theorem dcT_core {pins : List (Addr × Obj)} {s : Shared} {σ : L2.St} {H : Hp} {Q : VK} {use : Option (Value → Sem Unit)} {Qf : Value → Shared → Prop}
    (hu : X.A.units + 1 < cLine) (hc : X.calm = true) (hN : X.N.Nodup) (I : Inv X pins σ H s) (hi : PI X tg iter wi) (ok : BlkOk X.N X.env.scope scope own)
    (hg : InBlk X scope fun Y => PG Y tg g) (hk : InBlk X scope fun Y => PE Y kx tk) (he : InBlk X scope fun Y => PE Y vx tv) (fs : ∀ x, foldedSetIterable iter X.env x = pure x) (h : tDcT wi g tk tv (own.map (·.2)) σ H Q)
    (fin : ∀ D C s' m H', Inv X pins σ H' s' → Q (.ref D) H' → s'.heap.Ns C m → FpOk X pins H' C → compPost (model X.prog X.w) X.A X.xe use Qf (.ref D) C (.ok .next) s') :
    wpAny (model X.prog X.w) X.A (comprehension (.DictComp kx vx [⟨tg, iter, [], 0⟩] scope pos) scope X.env pos' newDict false (eval iter X.env) use) Qf X.xe s := by
  have caught : ∀ y ∈ scope.names, y.2 = .free → ∃ c, X.env.cells.lookup y.1 = some c := fun y hy e =>
    (ok.free y hy e).elim (fun k => I.ok.has _ (.inl k)) fun k => I.ok.has _ (.inr k)
  refine wpAny_comprehension_free (use := use) rfl fs (closure_ok caught) ok.kind (fun y hy e => by rw [ok.uniq y hy, e])
    (thn (hi.run pins s σ H _ I h) fun xv s1 hx => thn hx fun itv s2 h2 => ?_)
  obtain ⟨it, fp, tn, J, H2, e, I2, T, t2, f2, q⟩ := h2
  subst e
  refine wpAny_newObj_type (newEnv_comp ?_)
  obtain ⟨D, hD⟩ : ∃ D, s2.heap.objs.size = D := ⟨_, rfl⟩
  rw [hD]
  have Dn : H2 D = none := I2.hok.fresh (by omega)
  obtain ⟨W, ⟨m0, w0⟩, turn⟩ := q D Dn
  obtain ⟨s3, e3⟩ : ∃ s3 : Shared, s3 = { s2 with heap := s2.heap.push { cls := .type "dict", data := .dict #[] } } := ⟨_, rfl⟩
  have h3 : s3.heap = s2.heap.push { cls := .type "dict", data := .dict #[] } := congrArg (·.heap) e3
  have keep3 : ∀ (b : Addr) (o : Obj), s2.heap.get? b = some o → s3.heap.get? b = some o := fun b o z => h3 ▸ Heap.get?_push_of_some _ z
  have I3 : Inv X pins σ (upd H2 D (.dT [])) s3 := by
    subst e3
    exact I2.laid (t' := s2.toks) (fun b o z => Heap.get?_push_of_some _ z) (Nat.le_of_eq hD) (hD ▸ dt_empty s2.heap I2.big)
  have below : ∀ b ∈ fp, b < s2.heap.objs.size := fun b mb => let ⟨_, z, _⟩ := T.obj _ _ t2 b mb; Heap.lt_size z
  have neD : ∀ b ∈ fp, b ≠ D := fun b mb => Nat.ne_of_lt (hD ▸ below b mb)
  have f3 : ∀ b ∈ fp, FpOk X pins (upd H2 D (.dT [])) b ∧ b < s3.heap.objs.size := fun b mb =>
    ⟨⟨(upd_ne (neD b mb)).trans (f2 b mb).1, (f2 b mb).2⟩, by rw [h3, Heap.size_push]; exact Nat.lt_succ_of_lt (below b mb)⟩
  have t3 : tn 0 s3.heap := T.keep _ _ _ t2 fun b _ o z => keep3 b o z
  have I4 := block_start I3 ok hN f3
  obtain ⟨cl, ecl⟩ : ∃ cl, cl = cellsFrom (s3.heap.objs.size + 1) scope.names (cloFrom X.env.cells scope.names []) := ⟨_, rfl⟩
  rw [← ecl] at I4
  have pg := hg s3 (upd H2 D (.dT [])) s3.heap.objs.size cl fp
  have pk := hk s3 (upd H2 D (.dT [])) s3.heap.objs.size cl fp
  have pv := he s3 (upd H2 D (.dT [])) s3.heap.objs.size cl fp
  obtain ⟨ce, hce⟩ : ∃ ce, ce = compEnvC scope cl s3.heap.objs.size X.env := ⟨_, rfl⟩
  have cL : ce.locals = s3.heap.objs.size := hce ▸ rfl
  rw [← hce] at I4 pg pk pv
  have nfp : ∀ b ∈ fp, (upd H2 D (.dT [])) b = none := fun b mb => (f3 b mb).1.1
  generalize upd H2 D (.dT []) = H3 at I3 I4 pg pk pv w0 nfp f3
  obtain ⟨s4, e4⟩ : ∃ s4 : Shared, s4 = { s3 with heap := pushCells (s3.heap.push { cls := .type "dict", data := .dict #[] }) scope.names } := ⟨_, rfl⟩
  rw [← e4] at I4
  have t4 : tn 0 s4.heap := T.keep _ _ _ t3 fun b _ o z => by
    rw [e4]
    exact pushCells_keeps _ _ _ _ (Heap.get?_push_of_some _ z)
  have stat : ∀ {σ' : L2.St} {H' : Hp} {s' : Shared}, Inv (X.blk s3 H3 scope ce fp) [] σ' H' s' → (∀ b ∈ fp, H' b = none) → ∀ b ∈ fp, FpOk (X.blk s3 H3 scope ce fp) [] H' b := fun {_ _ _} I' hn b mb =>
    ⟨hn b mb, (I'.ok.exf b mb).1, I'.ok.exfs b mb, .inl mb, fun x c e => (I'.ok.exf b mb).2 x c e, fun p hp => absurd (show p ∈ ([] : List (Addr × Obj)) ++ [] from hp) (by simp)⟩
  have loop : codeAny (model X.prog X.w) X.A (.compLoop (.DictComp kx vx [⟨tg, iter, [], 0⟩] scope pos) 0 (.ref it) (.ref D) ce) (compPost (model X.prog X.w) X.A X.xe use Qf (.ref D) s3.heap.objs.size) s4 := by
    refine compLoop_anyD (fun n s' => ∃ i G, Inv (X.blk s3 H3 scope ce fp) [] (wipe σ (own.map (·.2))) G s' ∧ tn i s'.heap ∧ (∀ b ∈ fp, G b = none) ∧ W i n G) ?_ m0 ⟨0, H3, I4, t4, nfp, w0⟩
    rintro n s5 ⟨i, H5, I5, t5, n5, w5⟩
    rcases turn i n H5 w5 with ⟨stop, qq⟩ | ⟨go, Nx, hNx, step⟩
    · refine thnF (T.done (X.blk s3 H3 scope ce fp) rfl rfl rfl hc i [] s5 _ H5 (fun _ _ => False) I5 (stat I5 n5) t5 stop) fun r s6 ⟨hr, I6⟩ => ?_
      subst hr
      have I7 : Inv X pins σ H5 s6 := I3.call' (ch := fp) I6.os I6.base I6.hok I6.bare fun b mb =>
        let z := (f3 b mb).1.2
        ⟨z.2.2.1, z.1, z.2.2.2.1, z.2.2.2.2⟩
      have nC : H5 s3.heap.objs.size = none := cL ▸ (show H5 ce.locals = none from I6.free)
      obtain ⟨m, hn, _⟩ := I6.loc
      exact fin D s3.heap.objs.size s6 m H5 I7 qq (cL ▸ (show s6.heap.Ns ce.locals m from hn)) (I3.fpOk (Nat.le_refl _) nC)
    · refine thnF (T.item (X.blk s3 H3 scope ce fp) rfl rfl rfl hc i [] s5 _ H5 (fun _ _ => False) I5 (stat I5 n5) t5 go) fun r s6 ⟨u, hr, h6⟩ => ?_
      subst hr
      refine thnF h6 fun _ s7 ⟨x, H7, I7, r7, y7, t7, n7⟩ => ?_
      refine thnF (pg.run _ s7 _ H7 x u _ (I7.pinned (stat I7 n7) (T.obj _ _ t7)) r7 (step x H7 y7)) fun _ s8 ⟨σ8, H8, I8, hw8, q8⟩ => ?_
      have back : ∀ {s' : Shared} {G : Hp}, Inv (X.blk s3 H3 scope ce fp) ([] ++ pinsAt fp s7.heap) σ8 G s' → Nx G →
          ∃ m, m < n ∧ ∃ i G, Inv (X.blk s3 H3 scope ce fp) [] (wipe σ (own.map (·.2))) G s' ∧ tn i s'.heap ∧ (∀ b ∈ fp, G b = none) ∧ W i m G := fun {s' G} I' nx => by
        obtain ⟨m', hm, w'⟩ := hNx G nx
        have pin : ∀ b ∈ fp, ∀ o, s7.heap.get? b = some o → s'.heap.get? b = some o ∧ G b = none := fun b mb o z =>
          let p := I'.pin (b, o) (List.mem_append_right _ (List.mem_append_right _ (mem_pinsAt mb z)))
          ⟨p.1, p.2.1⟩
        have hl : (wipe σ (own.map (·.2))).length = σ8.length := (congrArg List.length hw8).symm.trans (wipe_length _ _)
        exact ⟨m', hm, i + 1, G, (I'.unpinned (pins := [])).weak hl (fun j v z => (wipe_some (hw8 ▸ z)).1), T.keep _ _ _ t7 (fun b mb o z => (pin b mb o z).1), (fun b mb => let ⟨o, z, _⟩ := T.obj _ _ t7 b mb; (pin b mb o z).2), w'⟩
      -- no test stands in it
      refine wpAny_pure ?_
      show wpAny _ _ _ _ _ _
      refine thnF (pk.run _ s8 σ8 H8 _ I8 q8) fun z s10 ⟨yk, H10, I10, r10, q10⟩ => ?_
      refine thnF (pv.run _ s10 σ8 H10 _ I10 q10) fun z2 s11 ⟨yv, H11, I11, r11, kvs, k, b, ek, eb, hD11, hz11, nx⟩ => ?_
      subst ek
      obtain rfl : z = Value.ref b := r10
      exact dset_tup (X := X.blk s3 H3 scope ce fp) hu I11 hD11 hz11 eb r11 fun s12 I12 => back I12 nx
  have done := codeAny_compStart_dict loop (T.self X.A 0 _ _ _ t4 loop)
  subst e4 hce ecl
  subst e3
  exact done
/-- as a value -/
theorem pe_dcT (hu : X.A.units + 1 < cLine) (hc : X.calm = true) (hN : X.N.Nodup) (hi : PI X tg iter wi) (ok : BlkOk X.N X.env.scope scope own) (hg : InBlk X scope fun Y => PG Y tg g) (hk : InBlk X scope fun Y => PE Y kx tk)
    (he : InBlk X scope fun Y => PE Y vx tv) (fs : ∀ x, foldedSetIterable iter X.env x = pure x := by intro _; rfl) : PE X (.DictComp kx vx [⟨tg, iter, [], 0⟩] scope pos) (tDcT wi g tk tv (own.map (·.2))) := by
  refine ⟨fun pins s σ H Q I h => ?_⟩
  rw [arm_eval_DictComp]
  refine dcT_core hu hc hN I hi ok hg hk he fs h fun D C s' m G I' q hn f => ⟨m, hn, fun h2 sb => ?_⟩
  exact ⟨.ref D, G, I'.turned (t' := s'.toks) (fun b o hb z => (sb.2 b hb).trans z) f.1 f.2.1 f.2.2.2.1 f.2.2.2.2.1 f.2.2.2.2.2, rfl, q⟩
end
end Gd

/-! a list that a def makes and grows: p is barred, what stands there is told as data; loops over it -/
namespace Gd
open PySem PySem.Spec PyProof.Rows L2
/-- p is new: neither known ahead nor the bag -/
structure New (Hi : List Hp) (F : List Addr) (p : Addr) (B : Bag) : Prop where
  nh : ∀ A ∈ Hi, A p = none
  nb : ∀ b l, B = some (b, l) → b ≠ p ∧ l ≠ p
  nF : p ∉ F
def Acc (F : List Addr) (p : Addr) (H : Hp) (out : List PyData) : Prop := ∃ acc, H p = some (.lst acc) ∧ Das (p :: F) H acc out
/-- what else is known, whatever is done to p and the bag -/
def Std (p : Addr) (B : Bag) (Ψ : Hp → Prop) : Prop := ∀ H H', Gr (p :: ob B) H H' → Ψ H → Ψ H'
def OkA (Hi : List Hp) (F : List Addr) (p : Addr) (i : Nat) (B : Bag) (Ψ : Hp → Prop) (K : L2.St → Hp → Prop) (ab : List Ab) (out : List PyData) : Prop :=
  ∀ (σ : L2.St) (H : Hp), St Hi (p :: F) B H → Sl (p :: F) B H σ ab → σ[i]? = some (some (.ref p)) → Acc F p H out → Ψ H → K σ H
section
variable {Hi : List Hp} {H H' : Hp} {F : List Addr} {p : Addr} {i : Nat} {B : Bag} {Ψ : Hp → Prop} {ab : List Ab} {out : List PyData} {D : Ends} {te : TE} {ts us : TS} {φ : PyData → Prop} {t : TT} {K : PySem.W.Frag}
theorem New.ob (n : New Hi F p B) : p ∉ ob B := by
  match B, n with
  | some (b, l), n => simpa [Gd.ob] using (n.nb b l rfl).1.symm
  | none, _ => simp [Gd.ob]
theorem Acc.ch (n : New Hi F p B) (s : St Hi (p :: F) B H) (a : Acc F p H out) (c : Ch B H H') : Acc F p H' out := by
  obtain ⟨acc, e, k⟩ := a
  exact ⟨acc, c p _ n.ob e, k.gr (Ch.wide c s)⟩
theorem Std.ch (h : Std p B Ψ) (c : Ch B H H') (q : Ψ H) : Ψ H' := h _ _ (Gr.wide c fun _ m => List.mem_cons_of_mem _ m) q
theorem Std.at (h : Std p B Ψ) {o : HO} (q : Ψ H) : Ψ (upd H p o) := h _ _ (Gr.at List.mem_cons_self) q
theorem std_true : Std p B fun _ => True := fun _ _ _ _ => True.intro
/-- a store at p -/
theorem St.acc (n : New Hi F p B) {o : HO} (s : St Hi (p :: F) B H) : St Hi (p :: F) B (upd H p o) := St.put n.nh n.nb s
theorem St.unbar (n : New Hi F p B) (s : St Hi (p :: F) B H) : St Hi F B H := ⟨s.ch, fun q m => s.tr q (List.mem_cons_of_mem _ m), fun b l e => by
  obtain ⟨h1, h2, h3, h4⟩ := s.bag b l e
  exact ⟨(List.mem_cons.mp h1).elim (fun z => absurd z (n.nb b l e).1) id, (List.mem_cons.mp h2).elim (fun z => absurd z (n.nb b l e).2) id, h3, h4⟩⟩
theorem St.rebar (s0 : St Hi (p :: F) B H) (n : New Hi F p B) (s : St Hi F B H') (c : Ch B H H') : St Hi (p :: F) B H' := by
  refine ⟨s.ch, fun q m => ?_, fun b l e => ?_⟩
  · rcases List.mem_cons.mp m with e | m
    · rw [e]
      cases h : H p with
      | none => exact absurd h (s0.tr p List.mem_cons_self)
      | some u =>
        rw [c p u n.ob h]
        exact fun z => nomatch z
    · exact s.tr q m
  · obtain ⟨h1, h2, h3, h4⟩ := s.bag b l e
    exact ⟨List.mem_cons_of_mem _ h1, List.mem_cons_of_mem _ h2, h3, h4⟩
/-- slots without objects of other kinds -/
def dats (ab : List Ab) : List Ab := ab.map fun | .obj _ => .any | a => a
theorem Sl.dats {F : List Addr} {σ : L2.St} (h : Sl F B H σ ab) : Sl F B H σ (Gd.dats ab) := by
  refine ⟨by rw [h.len]; simp [Gd.dats], fun j a o e1 e2 => ?_⟩
  unfold Gd.dats at e1
  rw [List.getElem?_map] at e1
  cases q : ab[j]? with
  | none => rw [q] at e1; cases e1
  | some b =>
    rw [q] at e1
    cases (Option.some.inj e1)
    have k := h.ok j b o q e2
    cases b with
    | obj R => trivial
    | any => exact k
    | bag => exact k
    | dat d => exact k
    | fam R => exact k
theorem Sl.unbar {σ : L2.St} (pl : Plain ab) (h : Sl (p :: F) B H σ ab) : Sl F B H σ ab := ⟨h.len, fun j a o e1 e2 => by
  have k := h.ok j a o e1 e2
  cases a with
  | any => trivial
  | bag => exact k
  | dat d =>
    obtain ⟨v, e, q⟩ := k
    exact ⟨v, e, q.less fun _ m => List.mem_cons_of_mem _ m⟩
  | fam R =>
    obtain ⟨v, e, q⟩ := k
    exact ⟨v, e, R.less _ _ v H (fun _ m => List.mem_cons_of_mem _ m) q⟩
  | obj R => exact absurd rfl (pl.at e1 R)⟩
/-- a slot whose value is told -/
theorem Sl.tell {F : List Addr} {σ : L2.St} {a : Ab} {v : V} (h : Sl F B H σ ab) (e : σ[i]? = some (some v)) (k : SlOk F B H a (some v)) : Sl F B H σ (ab.set i a) := by
  have q := Sl.set (i := i) h k
  have z : σ.set i (some v) = σ := by
    apply List.ext_getElem?
    intro j
    by_cases ij : i = j
    · subst ij
      rw [List.getElem?_set_self (List.getElem?_eq_some_iff.mp e).1, e]
    · rw [List.getElem?_set_ne ij]
  rw [z] at q
  exact q
theorem Acc.da (n : New Hi F p B) (a : Acc F p H out) : Da F H (.ref p) (.list out) := by
  obtain ⟨acc, e, k⟩ := a
  exact .lst n.nF e (k.less fun _ m => List.mem_cons_of_mem _ m)
/-! statements -/
theorem oka_seq (h : OkA Hi F p i B Ψ (ts { D with nx := us D }) ab out) : OkA Hi F p i B Ψ (tSeq ts us D) ab out := h
theorem oka_next (h : OkA Hi F p i B Ψ D.nx ab out) : OkA Hi F p i B Ψ (tNext D) ab out := h
/-- x = [] -/
theorem oka_new {Φ : Hp → Prop} {Θ : Addr → Hp → Prop} (pl : ∀ (p : Addr) (H : Hp) (σ : L2.St), H p = none → Φ H → Sl F B H σ ab → Sl (p :: F) B H σ ab) (hi : i < ab.length) (sp : ∀ p H, H p = none → Φ H → Θ p (upd H p (.lst [])))
    (k : ∀ p, New Hi F p B → OkA Hi F p i B (Θ p) D.nx (ab.set i .any) []) : ∀ (σ : L2.St) (H : Hp), St Hi F B H → Sl F B H σ ab → Φ H → tAsg (tLst tNil) (gName i) D σ H := fun σ H s l hΦ => by
  refine ⟨Nat.zero_le _, fun p hp => ?_⟩
  have n : New Hi F p B := ⟨St.none (H' := H) s hp, fun b l e => ⟨fun z => s.tr b (s.bag b l e).1 (z ▸ hp), fun z => s.tr l (s.bag b l e).2.1 (z ▸ hp)⟩, s.nF hp⟩
  show D.nx (σ.set i (some (.ref p))) (upd H p (.lst []))
  refine k p n _ _ (s.bar hp) (Sl.set (a := .any) ((pl p H σ hp hΦ l).gr (Gr.new hp)) True.intro) ?_ ⟨[], upd_same, .nil⟩ (sp p H hp hΦ)
  rw [List.getElem?_set_self (by rw [l.len]; exact hi)]
/-- x.append(e) -/
theorem oka_append (n : New Hi F p B) (st : Std p B Ψ) (z : out.length < 100000) (h : Ev Hi (p :: F) B ab te φ) (k : ∀ d, φ d → OkA Hi F p i B Ψ D.nx ab (out ++ [d])) :
    OkA Hi F p i B Ψ (tDrop (tBM K "list" rAppend (tVar i) (tCons te tNil)) D) ab out := fun σ H s l e a q => by
  obtain ⟨acc0, e0, _⟩ := id a
  refine ⟨_, e, .inl ⟨rfl, _, .inl (.inl e0)⟩, h σ H _ s l fun v d H1 c1 s1 a1 p1 => ?_⟩
  obtain ⟨acc, ea, ka⟩ := a.ch n s c1
  have w : Gr (p :: F) H1 (upd H1 p (.lst (acc ++ [v]))) := Gr.at List.mem_cons_self
  refine ⟨p, acc, v, rfl, rfl, ea, by rw [ka.length]; exact Nat.lt_of_lt_of_le z (by decide), ?_⟩
  exact k d p1 σ _ (s1.acc n) ((l.gr (Ch.wide c1 s)).gr w) e ⟨_, upd_same, (ka.gr w).app (.cons (a1.gr w) .nil)⟩ (st.at (st.ch c1 q))
/-- x.extend(e) -/
theorem oka_extend (n : New Hi F p B) (st : Std p B Ψ) {χ : List PyData → Prop} (h : Ev Hi (p :: F) B ab te (fun d => ∃ ds, d = .list ds ∧ χ ds)) (z : ∀ ds, χ ds → out.length + ds.length ≤ 100000)
    (k : ∀ ds, χ ds → OkA Hi F p i B Ψ D.nx ab (out ++ ds)) : OkA Hi F p i B Ψ (tDrop (tBM K "list" rExtend (tVar i) (tCons te tNil)) D) ab out := fun σ H s l e a q => by
  obtain ⟨acc0, e0, _⟩ := id a
  refine ⟨_, e, .inl ⟨rfl, _, .inl (.inl e0)⟩, h σ H _ s l fun v d H1 c1 s1 a1 ⟨ds, ed, p1⟩ => ?_⟩
  subst ed
  obtain ⟨acc, ea, ka⟩ := a.ch n s c1
  cases a1 with
  | @lst b zs _ nb hb kb =>
    have w : Gr (p :: F) H1 (upd H1 p (.lst (acc ++ zs))) := Gr.at List.mem_cons_self
    refine ⟨p, b, acc, zs, rfl, rfl, ea, hb, by rw [ka.length, kb.length]; exact Nat.le_trans (z ds p1) (by decide), ?_⟩
    exact k ds p1 σ _ (s1.acc n) ((l.gr (Ch.wide c1 s)).gr w) e ⟨_, upd_same, (ka.gr w).app (kb.gr w)⟩ (st.at (st.ch c1 q))
theorem oka_if {χ : Bool → Prop} (n : New Hi F p B) (st : Std p B Ψ) (h : ∀ σ H (Q : Bool → Hp → Prop), St Hi (p :: F) B H → Sl (p :: F) B H σ ab → Ψ H → (∀ c H', Ch B H H' → St Hi (p :: F) B H' → χ c → Q c H') → t σ H Q)
    (h1 : χ true → OkA Hi F p i B Ψ (ts D) ab out) (h2 : χ false → OkA Hi F p i B Ψ (us D) ab out) : OkA Hi F p i B Ψ (tIfS t ts us D) ab out := fun σ H s l e a q =>
  h σ H _ s l q fun c H1 c1 s1 p1 => by
    cases c with
    | true => exact iteT (h1 p1 σ H1 s1 (l.gr (Ch.wide c1 s)) e (a.ch n s c1) (st.ch c1 q))
    | false => exact iteF (h2 p1 σ H1 s1 (l.gr (Ch.wide c1 s)) e (a.ch n s c1) (st.ch c1 q))
/-- a test that reads the list itself -/
theorem oka_ifR {χ : Bool → Prop} (n : New Hi F p B) (st : Std p B Ψ) (pl : Plain ab) (h : EvT Hi F B (ab.set i (.dat (.list out))) t χ)
    (h1 : χ true → OkA Hi F p i B Ψ (ts D) ab out) (h2 : χ false → OkA Hi F p i B Ψ (us D) ab out) : OkA Hi F p i B Ψ (tIfS t ts us D) ab out := fun σ H s l e a q =>
  h σ H _ (s.unbar n) ((l.unbar pl).tell e ⟨_, rfl, a.da n⟩) fun c H1 c1 s1 p1 => by
    have s2 := s.rebar n s1 c1
    cases c with
    | true => exact iteT (h1 p1 σ H1 s2 (l.gr (Ch.wide c1 s)) e (a.ch n s c1) (st.ch c1 q))
    | false => exact iteF (h2 p1 σ H1 s2 (l.gr (Ch.wide c1 s)) e (a.ch n s c1) (st.ch c1 q))
theorem oka_retR (n : New Hi F p B) (pl : Plain (dats ab)) (h : Ev Hi F B ((dats ab).set i (.dat (.list out))) te φ) (k : ∀ v d H, St Hi F B H → Da F H v d → φ d → D.rt v H) : OkA Hi F p i B Ψ (tRet te D) ab out := fun σ H s l e a q =>
  h σ H _ (s.unbar n) ((l.dats.unbar pl).tell e ⟨_, rfl, a.da n⟩) fun v d H1 c1 s1 a1 p1 => k v d H1 s1 a1 p1
/-- the list is left -/
theorem oka_end {K : L2.St → Hp → Prop} (n : New Hi F p B) (pl : Plain (dats ab)) (k : OkK Hi F B K (dats ab)) : OkA Hi F p i B Ψ K ab out := fun σ H s l e a q => k σ H (s.unbar n) (l.dats.unbar pl)
/-! loops -/
def hide (p : Addr) (H : Hp) : Hp := fun a => if a = p then none else H a
theorem hide_at : hide p H p = none := if_pos rfl
theorem hide_ne {a : Addr} (h : a ≠ p) : hide p H a = H a := if_neg h
theorem St.hide (s : St Hi F B H) : St (Gd.hide p H :: Hi) F B H := ⟨fun A m => by
  rcases List.mem_cons.mp m with e | m
  · subst e
    intro a u na e
    by_cases ap : a = p
    · subst ap
      rw [hide_at] at e
      cases e
    · rw [hide_ne ap] at e
      exact e
  · exact s.ch A m, s.tr, s.bag⟩
theorem New.hide (n : New Hi F p B) : New (Gd.hide p H :: Hi) F p B := ⟨fun A m => by
  rcases List.mem_cons.mp m with e | m
  · subst e
    exact hide_at
  · exact n.nh A m, n.nb, n.nF⟩
theorem oka_loop {J : It} {N : Nat} {g : TG} {tb : TS} {σ : L2.St} (n : New Hi F p B) (st : Std p B Ψ) (Y : Nat → V → Hp → Prop)
    (hJ : ∀ H2 k, Gr (p :: F) H H2 → Ψ H2 → (k < N → J.go k H2) ∧ (N ≤ k → J.stop k H2) ∧ ∀ x H3, k < N → J.yld k H2 x H3 → H3 = H2 ∧ Y k x H2)
    (fT : Nat → List Ab → List Ab)
    (hg : ∀ k x (σ : L2.St) (H2 : Hp) ab' (M : L2.St → Hp → Prop), k < N → Y k x H2 → Gr (p :: F) H H2 → Sl (p :: F) B H2 σ ab' → (∀ σ', Sl (p :: F) B H2 σ' (fT k ab') → σ'[i]? = σ[i]? → M σ' H2) → g x σ H2 M)
    (I : Nat → List Ab → List PyData → Prop) (h0 : I 0 ab out)
    (hb : ∀ k ab' out' Hj (M : L2.St → Hp → Prop), k < N → I k ab' out' → (∀ A ∈ Hi, A ∈ Hj) → New Hj F p B → (∀ ab2 out2, I (k + 1) ab2 out2 → OkA Hj F p i B Ψ M ab2 out2) → OkA Hj F p i B Ψ (tb { D with nx := M, ct := M, bk := D.nx }) (fT k ab') out')
    (hd : ∀ ab' out', I N ab' out' → OkA Hi F p i B Ψ D.nx ab' out')
    (s : St Hi (p :: F) B H) (l : Sl (p :: F) B H σ ab) (e : σ[i]? = some (some (.ref p))) (a : Acc F p H out) (q : Ψ H) :
    ∃ W : Nat → Nat → L2.St → Hp → Prop, (∃ m, W 0 m σ H) ∧ ∀ k m σ H, W k m σ H →
      (J.stop k H ∧ D.nx σ H) ∨ (J.go k H ∧ ∃ Nx : L2.St → Hp → Prop, (∀ σ' H', Nx σ' H' → ∃ m', m' < m ∧ W (k + 1) m' σ' H') ∧ ∀ x H', J.yld k H x H' → g x σ H' fun σ2 H2 => tb { D with nx := Nx, ct := Nx, bk := D.nx } σ2 H2) := by
  refine ⟨fun k m σ2 H2 => m = N - k ∧ k ≤ N ∧ ∃ ab' out', I k ab' out' ∧ St (Gd.hide p H :: Hi) (p :: F) B H2 ∧ Sl (p :: F) B H2 σ2 ab' ∧ σ2[i]? = some (some (.ref p)) ∧ Acc F p H2 out' ∧ Ψ H2,
    ⟨N, by simp, Nat.zero_le _, ab, out, h0, s.hide, l, e, a, q⟩, ?_⟩
  rintro k m σ2 H2 ⟨rfl, hk, ab', out', i1, s2, l2, e2, a2, q2⟩
  have g2 : Gr (p :: F) H H2 := fun b u nb z => by
    have bp : b ≠ p := fun y => nb (y ▸ List.mem_cons_self)
    refine s2.ch (Gd.hide p H) List.mem_cons_self b u (fun m => nb (ob_sub s b m)) ?_
    rw [hide_ne bp]
    exact z
  obtain ⟨j1, j2, j3⟩ := hJ H2 k g2 q2
  by_cases hlt : k < N
  · refine .inr ⟨j1 hlt, fun σ3 H3 => k + 1 ≤ N ∧ ∃ ab' out', I (k + 1) ab' out' ∧ St (Gd.hide p H :: Hi) (p :: F) B H3 ∧ Sl (p :: F) B H3 σ3 ab' ∧ σ3[i]? = some (some (.ref p)) ∧ Acc F p H3 out' ∧ Ψ H3,
      fun σ3 H3 ⟨a1, a2⟩ => ⟨N - (k + 1), by omega, rfl, a1, a2⟩, fun x H3 y => ?_⟩
    obtain ⟨e3, yk⟩ := j3 x H3 hlt y
    subst e3
    refine hg k x σ2 H3 ab' _ hlt yk g2 l2 fun σ' l' es => ?_
    exact hb k ab' out' (Gd.hide p H :: Hi) _ hlt i1 (fun A m => List.mem_cons_of_mem _ m) n.hide (fun ab3 out3 i3 σ4 H4 s4 l4 e4 a4 q4 => ⟨hlt, ab3, out3, i3, s4, l4, e4, a4, q4⟩) σ' H3 s2 l' (es.trans e2) a2 q2
  · have ek : k = N := by omega
    subst ek
    exact .inl ⟨j2 (Nat.le_refl _), hd ab' out' i1 σ2 H2 (s2.sub fun A m => List.mem_cons_of_mem _ m) l2 e2 a2 q2⟩
end
end Gd

/-! x in a list; dicts by names to ints; comprehensions over pairs -/
namespace Gd
open PySem PySem.Spec PyProof.Rows L2
section
variable {K : PySem.W.Frag} {d : PyData} {ds : List PyData}
theorem od_inD (h1 : Shp d) (h2 : Shp (.list ds)) : OpD (rInD K) d (.list ds) (· = .bool (ds.any fun z => PyData.eqv z d)) := fun F H x y Q _ a1 a2 q =>
  ⟨d, ds, a1.dp (SeqAt.canLay_of_shaped h1), a2.dp (SeqAt.canLay_of_shaped h2), h1, h2, q _ _ H (Gr.refl _ H) (.bl _) rfl⟩
theorem od_ninD (h1 : Shp d) (h2 : Shp (.list ds)) : OpD (rNotInD K) d (.list ds) (· = .bool (!ds.any fun z => PyData.eqv z d)) := fun F H x y Q _ a1 a2 q =>
  ⟨d, ds, a1.dp (SeqAt.canLay_of_shaped h1), a2.dp (SeqAt.canLay_of_shaped h2), h1, h2, q _ _ H (Gr.refl _ H) (.bl _) rfl⟩
end
/-! names to ints -/
def namD (zs : List (Str × Int)) : PyData := .dict (zs.map fun z => (.str z.1, .int z.2))
def pairL (zs : List (Str × Int)) : List PyData := zs.map fun z => .tuple [.str z.1, .int z.2]
theorem merge_nodup : ∀ {more kvs : List (L2.Key × V)}, ((kvs ++ more).map (·.1)).Nodup → mergeK kvs more = kvs ++ more
  | [], kvs, _ => (List.append_nil kvs).symm
  | kv :: more, kvs, h => by
    have nm : valV kvs kv.1 = none := by
      cases e : valV kvs kv.1 with
      | none => rfl
      | some v =>
        exfalso
        unfold valV at e
        obtain ⟨w, hw, _⟩ := Option.map_eq_some_iff.mp e
        have m := List.mem_of_find?_eq_some hw
        have k : w.1 = kv.1 := by simpa using List.find?_some hw
        rw [List.map_append, List.map_cons, List.nodup_append] at h
        exact h.2.2 w.1 (List.mem_map.mpr ⟨w, m, rfl⟩) kv.1 List.mem_cons_self k
    show mergeK (putK kvs kv.1 kv.2) more = _
    rw [putK_new kv.2 nm]
    have := merge_nodup (more := more) (kvs := kvs ++ [(kv.1, kv.2)]) (by simpa [List.append_assoc] using h)
    rw [this]
    simp
theorem pairs_back {K : PySem.W.Frag} {F : List Addr} {H : Hp} : ∀ {zs : List (Str × Int)} {xs : List V}, Das F H xs (pairL zs) → ∃ ps : List Addr, xs = ps.map V.ref ∧ Paired (fun p (kv : L2.Key × V) => SqT K H p [kV kv.1, kv.2]) ps (zs.map fun z => (Sum.inr z.1, V.int z.2))
  | [], _, h => by
    cases h
    exact ⟨[], rfl, .nil⟩
  | z :: zs, _, h => by
    cases h with
    | cons h1 h2 =>
      obtain ⟨ps, e, r⟩ := pairs_back h2
      cases h1 with
      | @tup a ys _ nf hy ky =>
        cases ky with
        | cons k1 ky =>
          cases ky with
          | cons k2 ky =>
            cases ky
            cases k1
            cases k2
            exact ⟨a :: ps, by rw [e]; rfl, .cons hy.seq r⟩
theorem das_ints {F : List Addr} {H : Hp} : ∀ zs : List (Str × Int), Das F H (zs.map fun z => V.int z.2) (zs.map fun z => PyData.int z.2)
  | [] => .nil
  | z :: zs => .cons (.int _) (das_ints zs)
abbrev rDictP (K : PySem.W.Frag) : List V → Hp → VK → Prop := fun xs H Q => ∃ (a : Addr) (ps : List Addr) (kvs : List (L2.Key × V)), xs = [.ref a] ∧ SqL K H a (ps.map V.ref) ∧ Paired (fun p kv => SqT K H p [kV kv.1, kv.2]) ps kvs ∧
  ∀ p, H p = none → Q (.ref p) (upd H p (.dK (mergeK [] kvs)))
theorem cr_dictP {X : Cx} (hc : X.calm = true) : CallR X (.type "dict") (rDictP X.K) := call_dictP hc
theorem cd_dict {K : PySem.W.Frag} {zs : List (Str × Int)} (nd : (zs.map (·.1)).Nodup) : CaD (rDictP K) [.list (pairL zs)] (· = namD zs) := fun F H vs Q tr a q => by
  cases a with
  | cons h1 h2 =>
    cases h2
    cases h1 with
    | @lst a xs _ nf ha hb =>
      obtain ⟨ps, e, r⟩ := pairs_back (K := K) hb
      subst e
      refine ⟨a, ps, _, rfl, .inl (.inl ha), r, fun p hp => ?_⟩
      have mm : mergeK [] (zs.map fun z => ((Sum.inr z.1 : L2.Key), V.int z.2)) = zs.map fun z => (Sum.inr z.1, V.int z.2) := by
        rw [merge_nodup]
        · rfl
        · rw [List.nil_append, List.map_map]
          have : (zs.map ((fun kv : L2.Key × V => kv.1) ∘ fun z : Str × Int => ((Sum.inr z.1 : L2.Key), V.int z.2))) = (zs.map (·.1)).map Sum.inr := by
            rw [List.map_map]
            rfl
          rw [this]
          exact (List.pairwise_map.mpr (nd.imp fun h z => h (by cases z; rfl)))
      rw [mm]
      refine q _ (namD zs) _ (Gr.new hp) (.dct (fun m => tr p m hp) upd_same ?_ ?_) rfl
      · rw [List.map_map, List.map_map]
        rfl
      · rw [List.map_map, List.map_map]
        exact das_ints zs
theorem keys_of {zs : List (Str × Int)} {kvs : List (L2.Key × V)} (e : (zs.map fun z => (PyData.str z.1, PyData.int z.2)).map (·.1) = kvs.map (fun kv => keyD kv.1)) : kvs.map (fun kv => kV kv.1) = zs.map fun z => V.str z.1 := by
  induction zs generalizing kvs with
  | nil =>
    cases kvs with
    | nil => rfl
    | cons _ _ => simp at e
  | cons z zs ih =>
    cases kvs with
    | nil => simp at e
    | cons kv kvs =>
      simp only [List.map_cons, List.cons.injEq] at e
      obtain ⟨e1, e2⟩ := e
      rw [List.map_cons, List.map_cons, ih (kvs := kvs) (by simpa using e2)]
      congr 1
      obtain ⟨k, v⟩ := kv
      cases k with
      | inl i => cases e1
      | inr x =>
        cases e1
        rfl
theorem das_texts {F : List Addr} {H : Hp} : ∀ zs : List (Str × Int), Das F H (zs.map fun z => V.str z.1) (zs.map fun z => PyData.str z.1)
  | [] => .nil
  | z :: zs => .cons (.str _) (das_texts zs)
theorem cd_listD {zs : List (Str × Int)} : CaD rListD [namD zs] (· = .list (zs.map fun z => PyData.str z.1)) := fun F H vs Q tr a q => by
  cases a with
  | cons h1 h2 =>
    cases h2
    cases h1 with
    | @dct a kvs _ nf ha hk hv =>
      refine ⟨a, kvs, rfl, ha, fun p hp => q _ (.list (zs.map fun z => PyData.str z.1)) _ (Gr.new hp) (.lst (fun m => tr p m hp) upd_same ?_) rfl⟩
      rw [keys_of hk]
      exact das_texts zs
section
variable {Hi : List Hp} {F : List Addr} {B : Bag} {ab : List Ab} {td ty : TE} {zs : List (Str × Int)} {x : Str}
theorem find_int {H : Hp} : ∀ {zs : List (Str × Int)} {kvs : List (L2.Key × V)}, (zs.map fun z => (PyData.str z.1, PyData.int z.2)).map (·.1) = kvs.map (fun kv => keyD kv.1) →
    Das F H (kvs.map (·.2)) ((zs.map fun z => (PyData.str z.1, PyData.int z.2)).map (·.2)) → x ∈ zs.map (·.1) → ∃ i, valV kvs (Sum.inr x) = some (V.int i)
  | [], _, _, _, m => nomatch m
  | z :: zs, [], e, _, _ => by simp at e
  | z :: zs, (k, v) :: kvs, e, h, m => by
    simp only [List.map_cons, List.cons.injEq] at e
    obtain ⟨e1, e2⟩ := e
    simp only [List.map_cons] at h
    cases h with
    | cons h1 h2 =>
      cases k with
      | inl i => cases e1
      | inr y =>
        have ey : z.1 = y := by
          have := e1
          cases this
          rfl
        by_cases xy : y = x
        · subst xy
          cases h1
          exact ⟨z.2, by rw [valV_pos rfl]⟩
        · rw [valV_neg (by intro q; exact xy (by cases q; rfl))]
          refine find_int (zs := zs) (by simpa using e2) (by simpa using h2) ?_
          rcases List.mem_cons.mp (show x ∈ z.1 :: zs.map (·.1) from m) with q | q
          · exact absurd (q.trans ey).symm xy
          · exact q
theorem ev_dgetI (h1 : Ek Hi F B ab td (namD zs)) (h2 : Ek Hi F B ab ty (.str x)) (m : x ∈ zs.map (·.1)) : Ev Hi F B ab (tDGet td ty) (fun d => ∃ i, d = .int i) := fun σ H Q s l q =>
  h1 σ H _ s l fun v d H1 c1 s1 a1 p1 => h2 σ H1 _ s1 (l.gr (Ch.wide c1 s)) fun y e H2 c2 s2 a2 p2 => by
    subst p1 p2
    have a3 := a1.gr (Ch.wide c2 s1)
    cases a2
    cases a3 with
    | @dct a kvs _ nf ha hk hv =>
      obtain ⟨i, hi⟩ := find_int hk hv m
      exact ⟨a, .int i, rfl, .inl ⟨kvs, Sum.inr x, .inl ha, rfl, hi.symm⟩, q _ _ H2 (c1.trans c2) s2 (.int i) ⟨i, rfl⟩⟩
end
/-! [e for x, y in src if t] -/
section
variable {Hi : List Hp} {F : List Addr} {B : Bag} {ab : List Ab} {K : PySem.W.Frag} {wi : TI} {tt : TT} {te : TE} {P : List PyData → Prop} {i j : Nat}
theorem wipe_two {σ : L2.St} {u v : V} : L2.wipe (((L2.wipe σ [i, j]).set i (some u)).set j (some v)) [i, j] = L2.wipe σ [i, j] := by
  show (((((σ.set j none).set i none).set i (some u)).set j (some v)).set j none).set i none = (σ.set j none).set i none
  by_cases ij : i = j
  · subst ij
    simp [List.set_set]
  · have e : ((((σ.set j none).set i none).set i (some u)).set j (some v)).set j none = (((σ.set j none).set i none).set i (some u)).set j none := List.set_set ..
    rw [e, List.set_set, List.set_comm _ _ (Ne.symm ij), List.set_set, List.set_comm _ _ ij, List.set_set]
theorem ev_lc2 (pl : Plain ab) (hs : Src Hi F B ab K wi P) (I : List PyData → Nat → List PyData → Prop) (h0 : ∀ ds, P ds → I ds 0 [])
    (hp : ∀ (ds : List PyData) (d : PyData), P ds → d ∈ ds → ∃ d1 d2, d = .tuple [d1, d2])
    (ht : ∀ (ds : List PyData) (k : Nat) (d1 d2 : PyData) (out : List PyData), P ds → ds[k]? = some (.tuple [d1, d2]) → I ds k out → ∀ F', EvT Hi F' B (((awipe ab [i, j]).set i (.dat d1)).set j (.dat d2)) tt
      (fun c => (c = true → ∀ F', Ev Hi F' B (((awipe ab [i, j]).set i (.dat d1)).set j (.dat d2)) te (fun e => I ds (k + 1) (out ++ [e]))) ∧ (c = false → I ds (k + 1) out))) :
    Ev Hi F B ab (tLc wi (gTup K 2 (gCons (gName i) (gCons (gName j) gNil))) tt te [i, j]) (fun r => ∃ ds out, P ds ∧ I ds ds.length out ∧ out.length ≤ ds.length ∧ ds.length ≤ 100000 ∧ r = .list out) := fun σ H Q s l q =>
  hs σ H _ s l fun J H1 ds c1 s1 p z hJ A nA => by
    have l1 : Sl F B H1 σ ab := l.gr (Ch.wide c1 s)
    refine ⟨fun k m H2 => m = ds.length - k ∧ k ≤ ds.length ∧ ∃ out acc, H2 A = some (.lst acc) ∧ Das (A :: F) H2 acc out ∧ I ds k out ∧ out.length ≤ k ∧ St Hi (A :: F) B H2 ∧ Gr (ob B) H1 H2,
      ⟨ds.length, by simp, Nat.zero_le _, [], [], upd_same, .nil, h0 ds p, Nat.le_refl _, s1.bar nA, (show Gr [] H1 _ from Gr.new nA).wide fun _ z => nomatch z⟩, ?_⟩
    rintro k m H2 ⟨rfl, hk, out, acc, e1, k1, i1, b1, s2, g2⟩
    obtain ⟨j1, j2, j3⟩ := hJ H2 k (g2.wide (ob_sub s1))
    have pA : A ∉ ob B := fun m => s1.tr A (ob_sub s1 A m) nA
    by_cases hlt : k < ds.length
    · refine .inr ⟨j1 hlt, fun H3 => k + 1 ≤ ds.length ∧ ∃ out acc, H3 A = some (.lst acc) ∧ Das (A :: F) H3 acc out ∧ I ds (k + 1) out ∧ out.length ≤ k + 1 ∧ St Hi (A :: F) B H3 ∧ Gr (ob B) H1 H3,
        fun H3 ⟨a1, a2⟩ => ⟨ds.length - (k + 1), by omega, rfl, a1, a2⟩, fun x H3 y => ?_⟩
      obtain ⟨e3, d, ed, kd⟩ := j3 x H3 hlt y
      subst e3
      obtain ⟨d1, d2, e4⟩ := hp ds d p (List.mem_of_getElem? ed)
      subst e4
      have g3 : Gr (A :: F) H1 H3 := g2.wide fun p m => List.mem_cons_of_mem _ (ob_sub s1 p m)
      have kd' := (kd.bar nA).gr g3
      cases kd' with
      | @tup a xs _ nf hx kx =>
        cases kx with
        | cons b1 kx =>
          cases kx with
          | cons b2 kx =>
            cases kx
            refine ⟨a, _, rfl, hx.seq, rfl, _, _, rfl, _, _, rfl, rfl, wipe_two, ?_⟩
            have l3 := Sl.set (i := j) (a := .dat d2) (Sl.set (i := i) (a := .dat d1) (((l1.bar nA pl).gr g3).wipe [i, j]) ⟨_, rfl, b1⟩) ⟨_, rfl, b2⟩
            refine ht ds k d1 d2 out p ed i1 (A :: F) _ H3 _ s2 l3 fun c H4 c4 s4 ⟨p1, p2⟩ => ?_
            have e4 : H4 A = some (.lst acc) := c4 A _ pA e1
            have k4 : Das (A :: F) H4 acc out := k1.gr (Ch.wide c4 s2)
            cases c with
            | false => exact iteF ⟨hlt, out, acc, e4, k4, p2 rfl, by omega, s4, g2.trans c4⟩
            | true =>
              refine iteT (p1 rfl (A :: F) _ H4 _ s4 (l3.gr (Ch.wide c4 s2)) fun v e H5 c5 s5 a5 p5 => ?_)
              have e5 : H5 A = some (.lst acc) := c5 A _ pA e4
              have k5 : Das (A :: F) H5 acc out := k4.gr (Ch.wide c5 s4)
              have w : Gr (A :: F) H5 (upd H5 A (.lst (acc ++ [v]))) := Gr.at List.mem_cons_self
              refine ⟨acc, e5, by rw [k4.length]; exact Nat.lt_of_le_of_lt (show out.length ≤ 100000 by omega) (by decide), hlt, out ++ [e], acc ++ [v], upd_same, (k5.gr w).app (.cons (a5.gr w) .nil), p5,
                by rw [List.length_append, List.length_singleton]; omega, St.write nA s1 s5, fun p u n e => ?_⟩
              rw [upd_ne (ne_of_none e nA)]
              exact ((g2.trans c4).trans c5) p u n e
    · have ek : k = ds.length := by omega
      subst ek
      exact .inl ⟨j2 (Nat.le_refl _), q _ (.list out) H2 (c1.trans g2) (s1.free s2) (.lst (fun m => s1.tr A m nA) e1 (k1.less fun p m => List.mem_cons_of_mem _ m)) ⟨ds, out, p, i1, b1, z, rfl⟩⟩
end
end Gd

/-! loops that grow a list; a dict of pairs, made, locked, walked, asked -/
namespace Gd
open PySem PySem.Spec PyProof.Rows L2
abbrev SP := Str × Str
def bt (B : List SP) (x y : Str) : Bool := decide ((x, y) ∈ B)
theorem rm1 {k : Nat} {A : Around} (r : Room k A) : A.units + 1 < cLine := by have := r.un; omega
theorem rm65 {k : Nat} {A : Around} (r : Room k A) : A.units + 65 < cLine := by have := r.un; omega
def pr (p : SP) : PyData := .tuple [.str p.1, .str p.2]
def prs (ps : List SP) : List PyData := ps.map pr
section
variable {Hi : List Hp} {H H' : Hp} {F : List Addr} {p d : Addr} {i j m : Nat} {B : Bag} {Ψ : Hp → Prop} {ab : List Ab} {out : List PyData} {D : Ends} {te ty : TE} {ta : TA} {ts us tb : TS} {φ : PyData → Prop} {t : TT} {K : PySem.W.Frag} {wi : TI} {P : List PyData → Prop}
/-! an object that is told by itself -/
def isD (d : Addr) (u : HO) : V → Hp → Prop := fun v H => v = .ref d ∧ H d = some u
theorem isD_stab {u : HO} (h : d ∉ F) : Stab F (isD d u) := fun v H H' g ⟨e, k⟩ => ⟨e, g d u h k⟩
/-- slots that stay told where a new address is barred -/
def BarOk (ab : List Ab) : Prop := ∀ (i : Nat) (R : V → Hp → Prop), ab[i]? = some (.obj R) → ∃ d u, R = isD d u
theorem Sl.barO {p : Addr} {σ : L2.St} (n : H p = none) (b : BarOk ab) (h : Sl F B H σ ab) : Sl (p :: F) B H σ ab := ⟨h.len, fun i a o e1 e2 => by
  have q := h.ok i a o e1 e2
  cases a with
  | any => trivial
  | bag => exact q
  | dat x =>
    obtain ⟨v, e, k⟩ := q
    exact ⟨v, e, k.bar n⟩
  | fam R =>
    obtain ⟨v, e, k⟩ := q
    exact ⟨v, e, R.bar F p v H n k⟩
  | obj R =>
    obtain ⟨d, u, rfl⟩ := b i R e1
    obtain ⟨s, v, e, k⟩ := q
    refine ⟨fun w G G' g ⟨e3, k3⟩ => ?_, v, e, k⟩
    have dp : d ≠ p := ne_of_none k.2 n
    have dF : d ∉ F := fun mF => by
      have z := s w G (fun a => if a = d then none else G a) (fun q x nq ex => by
        show (if q = d then none else G q) = some x
        rw [if_neg (fun y => nq (by rw [y]; exact mF))]
        exact ex) ⟨e3, k3⟩
      have z2 : (if d = d then none else G d) = some u := z.2
      rw [if_pos rfl] at z2
      cases z2
    exact ⟨e3, g d u (fun z => (List.mem_cons.mp z).elim dp dF) k3⟩⟩
theorem BarOk.plain (h : Plain ab) : BarOk ab := fun i R e => absurd rfl (h.at e R)
theorem BarOk.dat {x : PyData} (h : BarOk ab) : BarOk (ab.set i (.dat x)) := fun k R e => by
  by_cases ik : i = k
  · subst ik
    rw [List.getElem?_set] at e
    simp only [if_pos] at e
    split at e <;> cases e
  · rw [List.getElem?_set_ne ik] at e
    exact h k R e
theorem BarOk.any (h : BarOk ab) : BarOk (ab.set i .any) := fun k R e => by
  by_cases ik : i = k
  · subst ik
    rw [List.getElem?_set] at e
    simp only [if_pos] at e
    split at e <;> cases e
  · rw [List.getElem?_set_ne ik] at e
    exact h k R e
theorem BarOk.obj {u : HO} (h : BarOk ab) : BarOk (ab.set i (.obj (isD d u))) := fun k R e => by
  by_cases ik : i = k
  · subst ik
    rw [List.getElem?_set] at e
    simp only [if_pos] at e
    split at e
    · cases e
      exact ⟨d, u, rfl⟩
    · cases e
  · rw [List.getElem?_set_ne ik] at e
    exact h k R e
/-! data does not stand where another thing stands -/
def NoData (u : HO) : Prop := (∀ xs, u ≠ .lst xs) ∧ (∀ xs, u ≠ .tup xs) ∧ ∀ kvs, u ≠ .dK kvs
mutual
theorem Da.away {u v' : HO} (nu : NoData u) (e : H d = some u) : ∀ {v : V} {x : PyData}, Da F H v x → Da F (upd H d v') v x
  | _, _, .non => .non
  | _, _, .bl b => .bl b
  | _, _, .int i => .int i
  | _, _, .str x => .str x
  | _, _, .lst (a := a) n h k => .lst n (by rw [upd_ne (fun z => by have h2 : H a = some (.lst _) := h; rw [z, e] at h2; exact nu.1 _ (Option.some.inj h2))]; exact h) (Das.away nu e k)
  | _, _, .tup (a := a) n h k => .tup n (show upd H d v' a = _ by rw [upd_ne (fun z => by have h2 : H a = some (.tup _) := h; rw [z, e] at h2; exact nu.2.1 _ (Option.some.inj h2))]; exact h) (Das.away nu e k)
  | _, _, .dct (a := a) n h q k => .dct n (by rw [upd_ne (fun z => by have h2 : H a = some (.dK _) := h; rw [z, e] at h2; exact nu.2.2 _ (Option.some.inj h2))]; exact h) q (Das.away nu e k)
theorem Das.away {u v' : HO} (nu : NoData u) (e : H d = some u) : ∀ {vs : List V} {xs : List PyData}, Das F H vs xs → Das F (upd H d v') vs xs
  | _, _, .nil => .nil
  | _, _, .cons h k => .cons (Da.away nu e h) (Das.away nu e k)
end
theorem noData_T {kvs : List (List L2.Key × V)} : NoData (.dT kvs) := ⟨(fun _ z => nomatch z), (fun _ z => nomatch z), (fun _ z => nomatch z)⟩
theorem noData_F {o : Obj} {u : HO} : NoData (.frz o u) := ⟨(fun _ z => nomatch z), (fun _ z => nomatch z), (fun _ z => nomatch z)⟩
theorem Sl.away {u u' : HO} {σ : L2.St} (nu : NoData u) (e : H d = some u) (j : Nat) (hj : ∀ k R, ab[k]? = some (.obj R) → k = j) (hf : ∀ (k : Nat) (R : Fam), ab[k]? ≠ some (.fam R)) (dF : d ∉ F) (ej : σ[j]? = some (some (.ref d))) (h : Sl F B H σ ab) : Sl F B (upd H d u') σ (ab.set j (.obj (isD d u'))) := by
  refine ⟨by rw [List.length_set]; exact h.len, fun k a o e1 e2 => ?_⟩
  by_cases jk : j = k
  · subst jk
    rw [List.getElem?_set] at e1
    simp only [if_pos] at e1
    split at e1
    · cases e1
      rw [ej] at e2
      cases e2
      exact ⟨isD_stab dF, _, rfl, rfl, upd_same⟩
    · cases e1
  · rw [List.getElem?_set_ne jk] at e1
    have q := h.ok k a o e1 e2
    cases a with
    | any => trivial
    | bag => exact q
    | dat x =>
      obtain ⟨v, ev, kx⟩ := q
      exact ⟨v, ev, kx.away nu e⟩
    | fam R => exact absurd e1 (hf k R)
    | obj R => exact absurd (hj k R e1).symm jk
/-! [e for x in src if t], over slots that tell such an object -/
theorem ev_lcO {i : Nat} {tt : TT} (br : BarOk ab) (hs : Src Hi F B ab K wi P) (I : List PyData → Nat → List PyData → Prop) (h0 : ∀ ds, P ds → I ds 0 [])
    (ht : ∀ (ds : List PyData) (k : Nat) (x : PyData) (out : List PyData), P ds → ds[k]? = some x → I ds k out → ∀ F', EvT Hi F' B ((awipe ab [i]).set i (.dat x)) tt
      (fun c => (c = true → ∀ F', Ev Hi F' B ((awipe ab [i]).set i (.dat x)) te (fun e => I ds (k + 1) (out ++ [e]))) ∧ (c = false → I ds (k + 1) out))) :
    Ev Hi F B ab (tLc wi (gName i) tt te [i]) (fun r => ∃ ds out, P ds ∧ I ds ds.length out ∧ out.length ≤ ds.length ∧ ds.length ≤ 100000 ∧ r = .list out) := fun σ H Q s l q =>
  hs σ H _ s l fun J H1 ds c1 s1 p z hJ A nA => by
    have l1 : Sl F B H1 σ ab := l.gr (Ch.wide c1 s)
    have pA : A ∉ ob B := fun m => s1.tr A (ob_sub s1 A m) nA
    refine ⟨fun k m H2 => m = ds.length - k ∧ k ≤ ds.length ∧ ∃ out acc, H2 A = some (.lst acc) ∧ Das (A :: F) H2 acc out ∧ I ds k out ∧ out.length ≤ k ∧ St Hi (A :: F) B H2 ∧ Gr (ob B) H1 H2,
      ⟨ds.length, by simp, Nat.zero_le _, [], [], upd_same, .nil, h0 ds p, Nat.le_refl _, s1.bar nA, (show Gr [] H1 _ from Gr.new nA).wide fun _ z => nomatch z⟩, ?_⟩
    rintro k m H2 ⟨rfl, hk, out, acc, e1, k1, i1, b1, s2, g2⟩
    obtain ⟨j1, j2, j3⟩ := hJ H2 k (g2.wide (ob_sub s1))
    by_cases hlt : k < ds.length
    · refine .inr ⟨j1 hlt, fun H3 => k + 1 ≤ ds.length ∧ ∃ out acc, H3 A = some (.lst acc) ∧ Das (A :: F) H3 acc out ∧ I ds (k + 1) out ∧ out.length ≤ k + 1 ∧ St Hi (A :: F) B H3 ∧ Gr (ob B) H1 H3,
        fun H3 ⟨a1, a2⟩ => ⟨ds.length - (k + 1), by omega, rfl, a1, a2⟩, fun x H3 y => ?_⟩
      obtain ⟨e3, d, ed, kd⟩ := j3 x H3 hlt y
      subst e3
      refine ⟨wipe_one, ?_⟩
      have g3 : Gr (A :: F) H1 H3 := g2.wide fun p m => List.mem_cons_of_mem _ (ob_sub s1 p m)
      have l3 : Sl (A :: F) B H3 ((L2.wipe σ [i]).set i (some x)) ((awipe ab [i]).set i (.dat d)) := Sl.set (a := .dat d) (((l1.barO nA br).gr g3).wipe [i]) ⟨x, rfl, (kd.bar nA).gr g3⟩
      refine ht ds k d out p ed i1 (A :: F) _ H3 _ s2 l3 fun c H4 c4 s4 ⟨p1, p2⟩ => ?_
      have e4 : H4 A = some (.lst acc) := c4 A _ pA e1
      have k4 : Das (A :: F) H4 acc out := k1.gr (Ch.wide c4 s2)
      cases c with
      | false => exact iteF ⟨hlt, out, acc, e4, k4, p2 rfl, by omega, s4, g2.trans c4⟩
      | true =>
        refine iteT (p1 rfl (A :: F) _ H4 _ s4 (l3.gr (Ch.wide c4 s2)) fun v e H5 c5 s5 a5 p5 => ?_)
        have e5 : H5 A = some (.lst acc) := c5 A _ pA e4
        have k5 : Das (A :: F) H5 acc out := k4.gr (Ch.wide c5 s4)
        have w : Gr (A :: F) H5 (upd H5 A (.lst (acc ++ [v]))) := Gr.at List.mem_cons_self
        refine ⟨acc, e5, by rw [k4.length]; exact Nat.lt_of_le_of_lt (show out.length ≤ 100000 by omega) (by decide), hlt, out ++ [e], acc ++ [v], upd_same, (k5.gr w).app (.cons (a5.gr w) .nil), p5,
          by rw [List.length_append, List.length_singleton]; omega, St.write nA s1 s5, fun p u n e => ?_⟩
        rw [upd_ne (ne_of_none e nA)]
        exact ((g2.trans c4).trans c5) p u n e
    · have ek : k = ds.length := by omega
      subst ek
      exact .inl ⟨j2 (Nat.le_refl _), q _ (.list out) H2 (c1.trans g2) (s1.free s2) (.lst (fun m => s1.tr A m nA) e1 (k1.less fun p m => List.mem_cons_of_mem _ m)) ⟨ds, out, p, i1, b1, z, rfl⟩⟩
theorem ek_lcFilO {i : Nat} {tt : TT} {ds : List PyData} (br : BarOk ab) (hs : Src Hi F B ab K wi (· = ds)) (f : PyData → PyData) (t : PyData → Bool)
    (ht : ∀ (k : Nat) (x : PyData), ds[k]? = some x → ∀ F', EkT Hi F' B ((awipe ab [i]).set i (.dat x)) tt (t x))
    (he : ∀ (k : Nat) (x : PyData), ds[k]? = some x → ∀ F', Ek Hi F' B ((awipe ab [i]).set i (.dat x)) te (f x)) : Ek Hi F B ab (tLc wi (gName i) tt te [i]) (.list ((ds.filter t).map f)) := by
  refine (ev_lcO br hs (fun ds k out => out = ((ds.take k).filter t).map f) (fun ds p => rfl) (fun ds' k d out p ed i1 F' => ?_)).imp fun r ⟨ds', out, p, i1, b, z, e⟩ => by
    subst p
    rw [e, i1, List.take_length]
  subst p
  have tk : ds'.take (k + 1) = ds'.take k ++ [d] := by
    rw [List.take_succ, ed]
    rfl
  refine (ht k d ed F').imp fun c ec => ⟨fun z F2 => (he k d ed F2).imp fun e r => ?_, fun z => ?_⟩
  · rw [tk, List.filter_append, List.map_append, ← i1, r]
    congr 1
    simp [← ec, z]
  · rw [tk, List.filter_append, List.map_append, ← i1]
    simp [← ec, z]
/-! loops -/
def put1 (ds : List PyData) (j : Nat) (k : Nat) (ab : List Ab) : List Ab := match ds[k]? with
  | some x => ab.set j (.dat x)
  | none => ab
theorem oka_for (n : New Hi F p B) (st : Std p B Ψ) (hs : Src Hi (p :: F) B ab K wi P) (ij : j ≠ i) (I : List PyData → Nat → List Ab → List PyData → Prop) (h0 : ∀ ds, P ds → I ds 0 ab out)
    (hb : ∀ ds k x ab' out' Hj (M : L2.St → Hp → Prop), P ds → ds[k]? = some x → I ds k ab' out' → (∀ A ∈ Hi, A ∈ Hj) → New Hj F p B → (∀ ab2 out2, I ds (k + 1) ab2 out2 → OkA Hj F p i B Ψ M ab2 out2) → OkA Hj F p i B Ψ (tb { D with nx := M, ct := M, bk := D.nx }) (ab'.set j (.dat x)) out')
    (hd : ∀ ds ab' out', P ds → I ds ds.length ab' out' → OkA Hi F p i B Ψ D.nx ab' out') : OkA Hi F p i B Ψ (tFor wi (gName j) tb D) ab out := fun σ H s l e a q =>
  hs σ H _ s l fun J H1 ds c1 s1 p1 z hJ => by
    refine oka_loop (N := ds.length) n st (fun k x _ => ∃ y, ds[k]? = some y ∧ Da (p :: F) H1 x y) (fun H2 k g _ => hJ H2 k g) (put1 ds j) (fun k x σ H2 ab' M hk ⟨y, ey, ky⟩ g l2 c => ?_) (I ds) (h0 ds p1) (fun k ab' out' Hj M hk i1 sub nj c => ?_) (fun ab' out' i1 => hd ds ab' out' p1 i1)
      s1 (l.gr (Ch.wide c1 s)) e (a.ch n s c1) (st.ch c1 q)
    · refine c _ ?_ (List.getElem?_set_ne ij)
      unfold put1
      rw [ey]
      exact Sl.set (a := .dat y) l2 ⟨x, rfl, ky.gr g⟩
    · have ey := List.getElem?_eq_getElem hk
      unfold put1
      rw [ey]
      exact hb ds k _ ab' out' Hj M p1 ey i1 sub nj c
def put2 (Bs : List SP) (j m : Nat) (k : Nat) (ab : List Ab) : List Ab := match Bs[k]? with
  | some q => (ab.set j (.dat (.str q.1))).set m (.dat (.str q.2))
  | none => ab
/-- for x, y in a list of pairs -/
theorem oka_forP {Bs : List SP} (n : New Hi F p B) (st : Std p B Ψ) (hs : Src Hi (p :: F) B ab K wi (· = prs Bs)) (ij : j ≠ i) (im : m ≠ i) (I : Nat → List Ab → List PyData → Prop) (h0 : I 0 ab out)
    (hb : ∀ k q ab' out' Hj (M : L2.St → Hp → Prop), Bs[k]? = some q → I k ab' out' → (∀ A ∈ Hi, A ∈ Hj) → New Hj F p B → (∀ ab2 out2, I (k + 1) ab2 out2 → OkA Hj F p i B Ψ M ab2 out2) →
      OkA Hj F p i B Ψ (tb { D with nx := M, ct := M, bk := D.nx }) ((ab'.set j (.dat (.str q.1))).set m (.dat (.str q.2))) out')
    (hd : ∀ ab' out', I Bs.length ab' out' → OkA Hi F p i B Ψ D.nx ab' out') : OkA Hi F p i B Ψ (tFor wi (gTup K 2 (gCons (gName j) (gCons (gName m) gNil))) tb D) ab out := fun σ H s l e a q =>
  hs σ H _ s l fun J H1 ds c1 s1 p1 z hJ => by
    subst p1
    have lz : (prs Bs).length = Bs.length := List.length_map ..
    refine oka_loop (N := Bs.length) n st (fun k x _ => ∃ y, (prs Bs)[k]? = some y ∧ Da (p :: F) H1 x y) (fun H2 k g _ => by rw [← lz]; exact hJ H2 k g) (put2 Bs j m) (fun k x σ H2 ab' M hk ⟨y, ey, ky⟩ g l2 c => ?_) I h0 (fun k ab' out' Hj M hk i1 sub nj c => ?_) hd
      s1 (l.gr (Ch.wide c1 s)) e (a.ch n s c1) (st.ch c1 q)
    · have eq := List.getElem?_eq_getElem hk
      unfold prs at ey
      rw [List.getElem?_map, eq] at ey
      cases (Option.some.inj ey)
      have k2 := ky.gr g
      cases k2 with
      | @tup a xs _ nf hx kx =>
        cases kx with
        | cons b1 kx =>
          cases kx with
          | cons b2 kx =>
            cases kx
            refine ⟨a, _, rfl, hx.seq, rfl, _, _, rfl, _, _, rfl, rfl, c _ ?_ ?_⟩
            · unfold put2
              rw [eq]
              exact Sl.set (a := .dat _) (Sl.set (a := .dat _) l2 ⟨_, rfl, b1⟩) ⟨_, rfl, b2⟩
            · rw [List.getElem?_set_ne im, List.getElem?_set_ne ij]
    · have ey := List.getElem?_eq_getElem hk
      unfold put2
      rw [ey]
      exact hb k _ ab' out' Hj M ey i1 sub nj c
/-! a dict of pairs -/
def keyP (q : SP) : List L2.Key := [.inr q.1, .inr q.2]
def dicP (Bs : List SP) : List (List L2.Key × V) := Bs.map fun q => (keyP q, .bl true)
theorem keyP_inj {a b : SP} (h : keyP a = keyP b) : a = b := by
  unfold keyP at h
  simp only [List.cons.injEq, Sum.inr.injEq, and_true] at h
  exact Prod.ext h.1 h.2
theorem valP {Bs : List SP} {q : SP} : (valV (dicP Bs) (keyP q)).isSome = decide (q ∈ Bs) := by
  induction Bs with
  | nil => rfl
  | cons b Bs ih =>
    by_cases e : b = q
    · subst e
      show (valV ((keyP b, V.bl true) :: dicP Bs) (keyP b)).isSome = _
      rw [valV_pos rfl]
      simp
    · show (valV ((keyP b, V.bl true) :: dicP Bs) (keyP q)).isSome = _
      rw [valV_neg (fun z => e (keyP_inj z)), ih]
      simp [Ne.symm e]
theorem put_end {Bs : List SP} {q : SP} (h : q ∉ Bs) : putK (dicP Bs) (keyP q) (V.bl true) = dicP (Bs ++ [q]) := by
  rw [putK_new]
  · unfold dicP
    rw [List.map_append]
    rfl
  · have := valP (Bs := Bs) (q := q)
    rw [decide_eq_false h] at this
    cases e : valV (dicP Bs) (keyP q) with
    | none => rfl
    | some v => rw [e] at this; cases this
theorem take_nodup {Bs : List SP} {k : Nat} {q : SP} (nd : Bs.Nodup) (e : Bs[k]? = some q) : q ∉ Bs.take k := fun m => by
  obtain ⟨j, hj⟩ := List.mem_iff_getElem?.mp m
  have lj := (List.getElem?_eq_some_iff.mp hj).1
  rw [List.length_take] at lj
  rw [List.getElem?_take_of_lt (by omega)] at hj
  have h1 := (List.getElem?_eq_some_iff.mp hj)
  have h2 := (List.getElem?_eq_some_iff.mp e)
  have := (List.nodup_iff_pairwise_ne.mp nd)
  have := List.pairwise_iff_getElem.mp this j k h1.1 h2.1 (by omega)
  exact this (h1.2.trans h2.2.symm)
/-- x = {pair: True for pair in src} -/
theorem ok_dct {Bs : List SP} (nd : Bs.Nodup) (pl : Plain ab) (hs : Src Hi F B ab K wi (· = prs Bs)) (hj : j < ab.length)
    (k : ∀ d, d ∉ F → (∀ A ∈ Hi, A d = none) → (∀ b l, B = some (b, l) → b ≠ d ∧ l ≠ d) → OkK Hi F B D.nx (ab.set i (.obj (isD d (.dT (dicP Bs)))))) : Ok Hi F B (tAsg (tDcT wi (gName j) (tVar j) (tC (.bl true)) [j]) (gName i)) D ab := fun σ H s l =>
  hs σ H _ s l fun J H1 ds c1 s1 p z hJ A nA => by
    subst p
    have lz : (prs Bs).length = Bs.length := List.length_map ..
    have l1 : Sl F B H1 σ ab := l.gr (Ch.wide c1 s)
    have pA : A ∉ ob B := fun m => s1.tr A (ob_sub s1 A m) nA
    refine ⟨fun k m G => m = Bs.length - k ∧ k ≤ Bs.length ∧ G A = some (.dT (dicP (Bs.take k))) ∧ St Hi (A :: F) B G ∧ Gr (ob B) H1 G,
      ⟨Bs.length, by simp, Nat.zero_le _, upd_same, s1.bar nA, (show Gr [] H1 _ from Gr.new nA).wide fun _ z => nomatch z⟩, ?_⟩
    rintro k m G ⟨rfl, hk, eA, s2, g2⟩
    have hh := hJ G k (g2.wide (ob_sub s1))
    rw [lz] at hh
    obtain ⟨j1, j2, j3⟩ := hh
    by_cases hlt : k < Bs.length
    · refine .inr ⟨j1 hlt, fun G' => k + 1 ≤ Bs.length ∧ G' A = some (.dT (dicP (Bs.take (k + 1)))) ∧ St Hi (A :: F) B G' ∧ Gr (ob B) H1 G', fun G' ⟨a1, a2⟩ => ⟨Bs.length - (k + 1), by omega, rfl, a1, a2⟩, fun x G' y => ?_⟩
      obtain ⟨e3, d, ed, kd⟩ := j3 x G' hlt y
      subst e3
      refine ⟨wipe_one, ?_⟩
      have eq := List.getElem?_eq_getElem hlt
      unfold prs at ed
      rw [List.getElem?_map, eq] at ed
      cases (Option.some.inj ed)
      have lw : j < (L2.wipe σ [j]).length := by
        show j < (σ.set j none).length
        rw [List.length_set, l1.len]
        exact hj
      cases kd with
      | @tup a xs _ nf hx kx =>
        cases kx with
        | cons b1 kx =>
          cases kx with
          | cons b2 kx =>
            cases kx
            cases b1
            cases b2
            have ha : G' a = some (.tup ((keyP Bs[k]).map kV)) := g2.wide (ob_sub s1) a _ nf hx
            refine ⟨_, List.getElem?_set_self lw, dicP (Bs.take k), keyP Bs[k], a, rfl, ha, eA, ?_, hlt, ?_, St.write nA s1 s2, fun c u nc ec => ?_⟩
            · unfold dicP
              rw [List.length_map, List.length_take]
              have : Bs.length ≤ 100000 := by rw [← lz]; exact z
              exact Nat.lt_of_le_of_lt (show min k Bs.length ≤ 100000 by omega) (by decide)
            · rw [upd_same, put_end (take_nodup nd eq), List.take_succ, eq]
              rfl
            · rw [upd_ne (ne_of_none ec nA)]
              exact g2 c u nc ec
    · have ek : k = Bs.length := by omega
      subst ek
      rw [List.take_length] at eA
      refine .inl ⟨j2 (Nat.le_refl _), ?_⟩
      have dF : A ∉ F := fun m => s1.tr A m nA
      refine k A dF (St.none (H' := H1) s1 nA) (fun b l eb => ?_) _ G (s1.free s2) (Sl.set (a := .obj _) (l1.gr (g2.wide (ob_sub s1))) ⟨isD_stab dF, _, rfl, rfl, eA⟩)
      obtain ⟨m1, m2, _, _⟩ := s1.bag b l eb
      exact ⟨fun z => dF (z ▸ m1), fun z => dF (z ▸ m2)⟩
/-- the dict is locked while it is walked -/
theorem oka_lock {u : HO} (mu : Mut (some u)) (nu : NoData u) (n : New Hi F p B) (dF : d ∉ F) (nA : ∀ A ∈ Hi, A d = none) (nb : ∀ b l, B = some (b, l) → b ≠ d ∧ l ≠ d) (ej : ab[j]? = some (.obj (isD d u))) (hj : ∀ k R, ab[k]? = some (.obj R) → k = j) (hf : ∀ (k : Nat) (R : Fam), ab[k]? ≠ some (.fam R))
    (h : ∀ od, d ≠ p → OkA Hi F p i B (fun _ => True) (ts ⟨fun σ' H' => H' d = some (.frz od u) ∧ D.nx σ' (upd H' d u), fun v H' => H' d = some (.frz od u) ∧ D.rt v (upd H' d u), fun σ' H' => H' d = some (.frz od u) ∧ D.bk σ' (upd H' d u), fun σ' H' => H' d = some (.frz od u) ∧ D.ct σ' (upd H' d u)⟩) (ab.set j (.obj (isD d (.frz od u)))) out) :
    OkA Hi F p i B (fun _ => True) (tLock ts D) ab out := fun σ H s l e a q => by
  obtain ⟨v, ev, hv, hd⟩ := l.obj ej
  subst hv
  have dp : d ≠ p := fun z => by
    obtain ⟨acc, ea, _⟩ := a
    rw [← z, hd] at ea
    exact nu.1 _ (Option.some.inj ea)
  have dpF : d ∉ p :: F := fun z => (List.mem_cons.mp z).elim dp dF
  refine ⟨d, u, hd, mu, fun od => h od dp σ _ (s.put nA nb) (l.away nu hd j hj hf dpF ev) e ?_ True.intro⟩
  obtain ⟨acc, ea, ka⟩ := a
  exact ⟨acc, by rw [upd_ne dp.symm]; exact ea, ka.away nu hd⟩
theorem oka_unlock {u : HO} {od : Obj} {N : L2.St → Hp → Prop} (n : New Hi F p B) (dF : d ∉ F) (nA : ∀ A ∈ Hi, A d = none) (nb : ∀ b l, B = some (b, l) → b ≠ d ∧ l ≠ d) (ej : ab[j]? = some (.obj (isD d (.frz od u)))) (hj : ∀ k R, ab[k]? = some (.obj R) → k = j) (hf : ∀ (k : Nat) (R : Fam), ab[k]? ≠ some (.fam R))
    (h : OkA Hi F p i B (fun _ => True) N (ab.set j (.obj (isD d u))) out) : OkA Hi F p i B (fun _ => True) (fun σ' H' => H' d = some (.frz od u) ∧ N σ' (upd H' d u)) ab out := fun σ H s l e a q => by
  obtain ⟨v, ev, hv, hd⟩ := l.obj ej
  subst hv
  have dp : d ≠ p := fun z => by
    obtain ⟨acc, ea, _⟩ := a
    rw [← z, hd] at ea
    cases ea
  have dpF : d ∉ p :: F := fun z => (List.mem_cons.mp z).elim dp dF
  refine ⟨hd, h σ _ (s.put nA nb) (l.away noData_F hd j hj hf dpF ev) e ?_ True.intro⟩
  obtain ⟨acc, ea, ka⟩ := a
  exact ⟨acc, by rw [upd_ne dp.symm]; exact ea, ka.away noData_F hd⟩
/-- for x, y in the locked dict -/
theorem oka_forD {Bs : List SP} {od : Obj} {r : Nat} (n : New Hi F p B) (st : Std p B Ψ) (er : ab[r]? = some (.obj (isD d (.frz od (.dT (dicP Bs)))))) (dF : d ∉ p :: F) (ij : j ≠ i) (im : m ≠ i) (I : Nat → List Ab → List PyData → Prop) (h0 : I 0 ab out)
    (hb : ∀ k q ab' out' Hj (M : L2.St → Hp → Prop), Bs[k]? = some q → I k ab' out' → (∀ A ∈ Hi, A ∈ Hj) → New Hj F p B → (∀ ab2 out2, I (k + 1) ab2 out2 → OkA Hj F p i B Ψ M ab2 out2) →
      OkA Hj F p i B Ψ (tb { D with nx := M, ct := M, bk := D.nx }) ((ab'.set j (.dat (.str q.1))).set m (.dat (.str q.2))) out')
    (hd : ∀ ab' out', I Bs.length ab' out' → OkA Hi F p i B Ψ D.nx ab' out') : OkA Hi F p i B Ψ (tFor (iKeys (tVar r)) (gTup K 2 (gCons (gName j) (gCons (gName m) gNil))) tb D) ab out := fun σ H s l e a q => by
  obtain ⟨v, ev, hv, hk⟩ := l.obj er
  subst hv
  refine ⟨_, ev, d, od, rfl, .inr ⟨dicP Bs, hk, ?_⟩⟩
  have lz : (dicP Bs).length = Bs.length := List.length_map ..
  refine oka_loop (N := Bs.length) n st (fun k x H2 => ∃ a q, Bs[k]? = some q ∧ x = .ref a ∧ H2 a = some (.tup [.str q.1, .str q.2])) (fun H2 k g _ => ?_) (put2 Bs j m) (fun k x σ H2 ab' M hk ⟨a, q, eq, ex, hx⟩ g l2 c => ?_) I h0 (fun k ab' out' Hj M hk i1 sub nj c => ?_) hd s l e a q
  · have hd2 := g d _ dF hk
    refine ⟨fun lt => ⟨hd2, by rw [lz]; exact lt⟩, fun le => ⟨hd2, by rw [lz]; exact le⟩, fun x H3 lt y => ?_⟩
    obtain ⟨e3, ke, v, a, e4, e5, e6⟩ := y
    refine ⟨e3, ?_⟩
    have eq := List.getElem?_eq_getElem lt
    unfold dicP at e4
    rw [List.getElem?_map, eq] at e4
    cases (Option.some.inj e4)
    exact ⟨a, _, eq, e5, e6⟩
  · subst ex
    refine ⟨a, _, rfl, .inl (.inl hx), rfl, _, _, rfl, _, _, rfl, rfl, c _ ?_ ?_⟩
    · unfold put2
      rw [eq]
      exact Sl.set (a := .dat _) (Sl.set (a := .dat _) l2 ⟨_, rfl, .str _⟩) ⟨_, rfl, .str _⟩
    · rw [List.getElem?_set_ne im, List.getElem?_set_ne ij]
  · have ey := List.getElem?_eq_getElem hk
    unfold put2
    rw [ey]
    exact hb k _ ab' out' Hj M ey i1 sub nj c
/-- (x, y) in the locked dict -/
theorem et_din {Bs : List SP} {od : Obj} {r : Nat} {x y : Str} (er : ab[r]? = some (.obj (isD d (.frz od (.dT (dicP Bs)))))) (h : Eks Hi F B ab ta [.str x, .str y]) : EkT Hi F B ab (tB (tDIn (tTup ta) (tVar r))) (bt Bs x y) := fun σ H Q s l q =>
  h σ H _ s l fun vs ds H1 c1 s1 a1 p1 => by
    subst p1
    cases a1 with
    | cons b1 a1 =>
      cases a1 with
      | cons b2 a1 =>
        cases a1
        cases b1
        cases b2
        refine ⟨by show 2 ≤ sizeLine; decide, fun t ht => ?_⟩
        have g : Gr [] H1 (upd H1 t (.tup [.str x, .str y])) := Gr.new ht
        obtain ⟨v, ev, hv, hd⟩ := (l.gr (Ch.wide c1 s)).obj er
        subst hv
        refine ⟨_, ev, d, _, rfl, .inr ⟨dicP Bs, keyP (x, y), t, .inr ⟨od, g d _ (fun z => nomatch z) hd⟩, rfl, upd_same, rfl⟩, _, rfl, ?_⟩
        rw [valP]
        exact q _ _ (c1.trans (ch_of g)) (s1.same g) rfl
theorem et_dnin {Bs : List SP} {od : Obj} {r : Nat} {x y : Str} (er : ab[r]? = some (.obj (isD d (.frz od (.dT (dicP Bs)))))) (h : Eks Hi F B ab ta [.str x, .str y]) : EkT Hi F B ab (tB (tDNotIn (tTup ta) (tVar r))) (!bt Bs x y) := fun σ H Q s l q =>
  h σ H _ s l fun vs ds H1 c1 s1 a1 p1 => by
    subst p1
    cases a1 with
    | cons b1 a1 =>
      cases a1 with
      | cons b2 a1 =>
        cases a1
        cases b1
        cases b2
        refine ⟨by show 2 ≤ sizeLine; decide, fun t ht => ?_⟩
        have g : Gr [] H1 (upd H1 t (.tup [.str x, .str y])) := Gr.new ht
        obtain ⟨v, ev, hv, hd⟩ := (l.gr (Ch.wide c1 s)).obj er
        subst hv
        refine ⟨_, ev, d, _, rfl, .inr ⟨dicP Bs, keyP (x, y), t, .inr ⟨od, g d _ (fun z => nomatch z) hd⟩, rfl, upd_same, rfl⟩, _, rfl, ?_⟩
        rw [valP]
        exact q _ _ (c1.trans (ch_of g)) (s1.same g) rfl
/-! slots of which nothing is asked -/
def Junk (a : Ab) : Prop := a = .any ∨ ∃ x, a = .dat x
theorem Junk.plain {a : Ab} {r : List Ab} (h : Junk a) (k : Plain r) : Plain (a :: r) := by
  rcases h with rfl | ⟨x, rfl⟩ <;> exact k
theorem junk_any : Junk .any := .inl rfl
theorem junk_dat {x : PyData} : Junk (.dat x) := .inr ⟨x, rfl⟩
theorem plain_dats : ∀ ab : List Ab, Plain (dats ab)
  | [] => True.intro
  | .any :: r => plain_dats r
  | .bag :: r => plain_dats r
  | .dat _ :: r => plain_dats r
  | .obj _ :: r => plain_dats r
  | .fam _ :: r => plain_dats r
/-- what a statement does to the list and the slots -/
def Eff (Hi : List Hp) (F : List Addr) (p : Addr) (i : Nat) (B : Bag) (Ψ : Hp → Prop) (t : TS) (ab : List Ab) (out : List PyData) (ab' : List Ab) (out' : List PyData) : Prop := ∀ D : Ends, OkA Hi F p i B Ψ D.nx ab' out' → OkA Hi F p i B Ψ (t D) ab out
theorem oka_eff {ab' : List Ab} {out' : List PyData} (h : Eff Hi F p i B Ψ ts ab out ab' out') (k : OkA Hi F p i B Ψ (us D) ab' out') : OkA Hi F p i B Ψ (tSeq ts us D) ab out := h { D with nx := us D } k
theorem eff_append {x : PyData} (n : New Hi F p B) (st : Std p B Ψ) (z : out.length < 100000) (h : Ek Hi (p :: F) B ab te x) : Eff Hi F p i B Ψ (tDrop (tBM K "list" rAppend (tVar i) (tCons te tNil))) ab out ab (out ++ [x]) := fun D k => oka_append n st z h fun d e => e ▸ k
theorem eff_extend {xs : List PyData} (n : New Hi F p B) (st : Std p B Ψ) (z : out.length + xs.length ≤ 100000) (h : Ek Hi (p :: F) B ab te (.list xs)) : Eff Hi F p i B Ψ (tDrop (tBM K "list" rExtend (tVar i) (tCons te tNil))) ab out ab (out ++ xs) := fun D k =>
  oka_extend n st (χ := (· = xs)) (h.imp fun d e => ⟨xs, e, rfl⟩) (fun ds e => e ▸ z) fun ds e => e ▸ k
theorem eff_if {c : Bool} {out' : List PyData} (n : New Hi F p B) (st : Std p B Ψ) (h : EkT Hi (p :: F) B ab t c) (h1 : Eff Hi F p i B Ψ ts ab out ab out') : Eff Hi F p i B Ψ (tIfS t ts tNext) ab out ab (if c then out' else out) := fun D k =>
  oka_if n st (fun σ H Q s l _ q => h σ H Q s l q) (fun e => by subst e; exact h1 D k) (fun e => by subst e; exact k)
/-- y = e -/
theorem oka_asg (n : New Hi F p B) (st : Std p B Ψ) (ij : j ≠ i) (h : Ev Hi (p :: F) B ab te φ) (k : ∀ d, φ d → OkA Hi F p i B Ψ D.nx (ab.set j (.dat d)) out) : OkA Hi F p i B Ψ (tAsg te (gName j) D) ab out := fun σ H s l e a q =>
  h σ H _ s l fun v d H1 c1 s1 a1 p1 => k d p1 _ H1 s1 (Sl.set (a := .dat d) (l.gr (Ch.wide c1 s)) ⟨v, rfl, a1⟩) ((List.getElem?_set_ne ij).trans e) (a.ch n s c1) (st.ch c1 q)
theorem oka_asgK {x : PyData} (n : New Hi F p B) (st : Std p B Ψ) (ij : j ≠ i) (h : Ek Hi (p :: F) B ab te x) (k : OkA Hi F p i B Ψ D.nx (ab.set j (.dat x)) out) : OkA Hi F p i B Ψ (tAsg te (gName j) D) ab out := oka_asg n st ij h fun d e => e ▸ k
/-- return sorted(x) -/
theorem oka_retSort {H0 : Hp} (n : New Hi F p B) (m0 : H0 ∈ Hi) (eb : ob B = []) (al : PySem.W.AllAlike out) (so : PySem.W.Sortable out) (dp : ∀ d ∈ out, d.depth ≤ 60)
    (k : ∀ q ys H', Gr [] H0 H' → H0 q = none → H' q = some (.lst ys) → Das (q :: F) H' ys (sortD out) → D.rt (.ref q) H') : OkA Hi F p i B Ψ (tRet (tCB rSortD (tCons (tVar i) tNil)) D) ab out := fun σ H s l e a q => by
  have g : Gr [] H0 H := by
    have := s.ch H0 m0
    unfold Ch at this
    rw [eb] at this
    exact this
  refine ⟨_, e, F, .ref p, out, rfl, a.da n, al, so, dp, fun q ys hq das lz => ?_⟩
  have hq0 : H0 q = none := by
    cases h : H0 q with
    | none => rfl
    | some u =>
      have := g q u (fun z => nomatch z) h
      rw [hq] at this
      cases this
  exact k q ys _ (g.trans (Gr.new hq)) hq0 upd_same ((das.bar hq).gr (Gr.new hq))
/-- a pure def's promise: it gives a new list -/
def SpN (pre : List PyData → Prop) (post : List PyData → List PyData → Prop) : Sp := fun vs H Q _ => ∃ (F : List Addr) (ds : List PyData), (∀ p ∈ F, H p ≠ none) ∧ Das F H vs ds ∧ pre ds ∧
  ∀ q ys out H', Gr [] H H' → H q = none → H' q = some (.lst ys) → Das (q :: F) H' ys out → post ds out → Q (.ref q) H'
/-- a test of data, as a test in such a def -/
theorem oka_ifE {χ : Bool → Prop} (n : New Hi F p B) (st : Std p B Ψ) (h : EvT Hi (p :: F) B ab t χ) (h1 : χ true → OkA Hi F p i B Ψ (ts D) ab out) (h2 : χ false → OkA Hi F p i B Ψ (us D) ab out) : OkA Hi F p i B Ψ (tIfS t ts us D) ab out :=
  oka_if n st (fun σ H Q s l _ q => h σ H Q s l q) h1 h2
end
end Gd

/-! sets of texts, over slots -/
namespace Gd
open PySem PySem.Spec PyProof.Rows L2
def setX (P : Program) (w : World) (p : Addr) (xs : List Str) : HO := .ext fun h => h.SetOf (PySem.strKind P w) p (within1 xs xs.length) (kinds xs xs.length)
theorem setX_new {w : World} {P : Program} {H : Hp} {h : Heap} {p : Addr} {xs : List Str} (R : h.SetOf (PySem.strKind P w) p (within1 xs xs.length) (kinds xs xs.length)) : ObjOk P w H h p (setX P w p xs) := by
  have ⟨o, _, _, _, ho, _⟩ := R
  exact ⟨R, ⟨o, ho⟩, fun h1 h2 ⟨o, es, ep, t, ho, r⟩ k => ⟨o, es, ep, t, k o ho, r⟩⟩
section
variable {X : Cx}
def rSetT (P : Program) (w : World) (K : PySem.W.Frag) : List V → Hp → VK → Prop := fun xs H Q => ∃ (l : Addr) (ys : List Str), xs = [.ref l] ∧ (SqL K H l (ys.map V.str) ∨ SqT K H l (ys.map V.str)) ∧ ys.length ≤ 4000 ∧ ∀ p, H p = none → Q (.ref p) (upd H p (setX P w p ys))
theorem call_setT (hc : X.calm = true) : CallR X (.type "set") (rSetT X.prog X.w X.K) := by
  intro pins s σ H xs us Q I r h
  obtain ⟨l, ys, rfl, hq, hz, q⟩ := h
  obtain ⟨u, rfl, rx⟩ := vals1 r
  obtain rfl : u = Value.ref l := rx
  have main : ∀ us : List Value, Vals (ys.map V.str) us → (s.heap.IsList l us.toArray ∨ s.heap.IsTuple l us.toArray) → wpAny (model X.prog X.w) X.A (call (.type "set") [.ref l]) (EP X pins σ Q) X.xe s := fun us rv pl =>
    set_of_texts (I.ok.hd hc) pl (by simpa using strsAre_of rv) (by unfold scanBound; omega) fun h' tk new keep =>
      ⟨.ref _, upd H s.heap.objs.size (setX X.prog X.w s.heap.objs.size ys), I.laid (t' := tk) keep (Nat.le_refl _) (setX_new new), rfl, q _ (I.hok.fresh (Nat.le_refl _))⟩
  rcases hq with hq | hq
  · obtain ⟨its, rv, pl, _⟩ := I.list hq
    exact main its rv (.inl pl.isList)
  · obtain ⟨its, rv, pl, _⟩ := I.tuple hq
    exact main its rv (.inr pl)
def rLenZ (P : Program) (w : World) (K : PySem.W.Frag) : List V → Hp → VK → Prop := fun xs H Q => rLenA K xs H Q ∨ ∃ p ys, xs = [.ref p] ∧ H p = some (setX P w p ys) ∧ ys.length ≤ 4000 ∧ Q (.int (kinds ys ys.length)) H
theorem call_lenX : CallR X (.builtin "len") (fun xs H Q => ∃ p ys, xs = [V.ref p] ∧ H p = some (setX X.prog X.w p ys) ∧ ys.length ≤ 4000 ∧ Q (.int (kinds ys ys.length)) H) := by
  intro pins s σ H xs us Q I r h
  obtain ⟨p, ys, rfl, hp, hz, q⟩ := h
  obtain ⟨u, rfl, rx⟩ := vals1 r
  obtain rfl : u = Value.ref p := rx
  obtain ⟨o, es, ep, t, ho, hex, hd, _, _, hb, hf, hn⟩ := (I.hok p _ hp).1
  have kl := kinds_le ys ys.length
  exact call_len_set ho hex hd hf (by omega) ⟨.int (kinds ys ys.length), H, I.tok _, ⟨_, by rw [hn]⟩, q⟩
theorem call_lenZ : CallR X (.builtin "len") (rLenZ X.prog X.w X.K) := CallR.or call_lenA call_lenX
def rInX (P : Program) (w : World) (neg : Bool) : R2 := fun x y H Q => ∃ (k : Str) (p : Addr) (ys : List Str), x = .str k ∧ y = .ref p ∧ H p = some (setX P w p ys) ∧ Q (.bl (if neg then !decide (k ∈ ys) else decide (k ∈ ys))) H
theorem in_whole (k : Str) (ys : List Str) : within1 ys ys.length k = decide (k ∈ ys) := by simp [within1]
theorem op_inX : OpR X (compareOp .In) (rInX X.prog X.w false) := by
  intro pins s σ H x y v u Q I rx ry h
  obtain ⟨k, p, ys, rfl, rfl, hp, q⟩ := h
  cases ry
  obtain ⟨t, rfl⟩ := rx
  exact wpAny_inSet_of (knd := PySem.strKind X.prog X.w) (k := k) (strKind_is _ _ _ _) rfl (I.hok p _ hp).1 ⟨.bl (decide (k ∈ ys)), H, I.tok _, by rw [in_whole] <;> rfl, q⟩
theorem op_notInX : OpR X (compareOp .NotIn) (rInX X.prog X.w true) := by
  intro pins s σ H x y v u Q I rx ry h
  obtain ⟨k, p, ys, rfl, rfl, hp, q⟩ := h
  cases ry
  obtain ⟨t, rfl⟩ := rx
  exact wpAny_notInSet_of (knd := PySem.strKind X.prog X.w) (k := k) (strKind_is _ _ _ _) rfl (I.hok p _ hp).1 ⟨.bl (!decide (k ∈ ys)), H, I.tok _, by rw [in_whole] <;> rfl, q⟩
end
section
variable {P : Program} {w : World} {K : PySem.W.Frag} {Hi : List Hp} {F : List Addr} {B : Bag} {ab : List Ab} {te ta : TE} {ys : List Str}
/-- len(set(xs)) -/
theorem ek_lenSetX (h : Ev Hi F B ab te (fun d => d = .list (ys.map PyData.str) ∨ d = .tuple (ys.map PyData.str))) (z : ys.length ≤ 4000) :
    Ek Hi F B ab (tCB (rLenZ P w K) (tCons (tCB (rSetT P w K) (tCons te tNil)) tNil)) (.int (kinds ys ys.length)) := fun σ H Q s l q => h σ H _ s l fun v d H1 c1 s1 a1 e => by
  have sq : ∃ p, v = .ref p ∧ (SqL K H1 p (ys.map V.str) ∨ SqT K H1 p (ys.map V.str)) := by
    rcases e with rfl | rfl
    · cases a1 with
      | @lst p us _ nf hp k =>
        obtain rfl := das_strs k
        exact ⟨p, rfl, .inl (.inl (.inl hp))⟩
    · cases a1 with
      | @tup p us _ nf hp k =>
        obtain rfl := das_strs k
        exact ⟨p, rfl, .inr hp.seq⟩
  obtain ⟨p, rfl, hq⟩ := sq
  refine ⟨p, ys, rfl, hq, z, fun d hd => ?_⟩
  have g : Gr [] H1 (upd H1 d (setX P w d ys)) := Gr.new hd
  exact .inr ⟨d, ys, rfl, upd_same, z, q _ _ _ (c1.trans (ch_of g)) (s1.same g) (.int _) rfl⟩
/-- known = set(xs) -/
theorem ok_setX {i : Nat} {D : Ends} (h : Ev Hi F B ab te (fun d => d = .list (ys.map PyData.str) ∨ d = .tuple (ys.map PyData.str))) (z : ys.length ≤ 4000)
    (k : ∀ p, p ∉ F → OkK Hi F B D.nx (ab.set i (.obj (isD p (setX P w p ys))))) : Ok Hi F B (tAsg (tCB (rSetT P w K) (tCons te tNil)) (gName i)) D ab := fun σ H s l => h σ H _ s l fun v d H1 c1 s1 a1 e => by
  have sq : ∃ p, v = .ref p ∧ (SqL K H1 p (ys.map V.str) ∨ SqT K H1 p (ys.map V.str)) := by
    rcases e with rfl | rfl
    · cases a1 with
      | @lst p us _ nf hp k =>
        obtain rfl := das_strs k
        exact ⟨p, rfl, .inl (.inl (.inl hp))⟩
    · cases a1 with
      | @tup p us _ nf hp k =>
        obtain rfl := das_strs k
        exact ⟨p, rfl, .inr hp.seq⟩
  obtain ⟨p, rfl, hq⟩ := sq
  refine ⟨p, ys, rfl, hq, z, fun d hd => ?_⟩
  have g : Gr [] H1 (upd H1 d (setX P w d ys)) := Gr.new hd
  exact k d (s1.nF hd) _ _ (s1.same g) (((l.gr (Ch.wide c1 s)).gr (g.wide fun _ z => nomatch z)).set ⟨isD_stab (s1.nF hd), _, rfl, rfl, upd_same⟩)
theorem etk_notInX {i : Nat} {p : Addr} {k : Str} (h : Ek Hi F B ab ta (.str k)) (e : ab[i]? = some (.obj (isD p (setX P w p ys)))) : EkT Hi F B ab (tTest (tOp (rInX P w true) ta (tVar i))) (!decide (k ∈ ys)) := fun σ H Q s l q => by
  refine h σ H _ s l fun v d H1 c1 s1 a1 ed => ?_
  subst ed
  cases a1
  obtain ⟨v', e2, rfl, hp⟩ := (l.gr (Ch.wide c1 s)).obj e
  exact ⟨_, e2, k, p, ys, rfl, rfl, hp, _, rfl, q _ H1 c1 s1 rfl⟩
end
end Gd

/-! values as trees, with cells for what is changed; how they stand in the heap -/
namespace Vw
open PySem PySem.Spec PyProof.Rows L2 Gd
inductive T where
  | non | bl (b : Bool) | int (i : Int) | str (x : Str)
  | lst (xs : List T) | tup (xs : List T) | emp
  | dct (kvs : List (L2.Key × T)) | dtt (kvs : List (List L2.Key × T)) | set (xs : List Str) | scr (ns : List Int) | obj (C : Addr) (fs : List (Str × T)) | ref (n : Nat)
mutual
/-- all its cells are such -/
def T.refsIn (p : Nat → Bool) : T → Bool
  | .non | .bl _ | .int _ | .str _ | .emp | .set _ | .scr _ => true
  | .lst xs | .tup xs => refsInL p xs
  | .dct kvs => refsInK p kvs
  | .dtt kvs => refsInT p kvs
  | .obj _ fs => refsInF p fs
  | .ref n => p n
def refsInL (p : Nat → Bool) : List T → Bool
  | [] => true
  | x :: xs => x.refsIn p && refsInL p xs
def refsInK (p : Nat → Bool) : List (L2.Key × T) → Bool
  | [] => true
  | (_, x) :: xs => x.refsIn p && refsInK p xs
def refsInT (p : Nat → Bool) : List (List L2.Key × T) → Bool
  | [] => true
  | (_, x) :: xs => x.refsIn p && refsInT p xs
def refsInF (p : Nat → Bool) : List (Str × T) → Bool
  | [] => true
  | (_, x) :: xs => x.refsIn p && refsInF p xs
end
theorem refsInK_map {p : Nat → Bool} : ∀ kvs : List (L2.Key × T), refsInK p kvs = refsInL p (kvs.map (·.2))
  | [] => rfl
  | (_, x) :: xs => by
    show (x.refsIn p && refsInK p xs) = (x.refsIn p && refsInL p (xs.map (·.2)))
    rw [refsInK_map xs]
theorem refsInT_map {p : Nat → Bool} : ∀ kvs : List (List L2.Key × T), refsInT p kvs = refsInL p (kvs.map (·.2))
  | [] => rfl
  | (_, x) :: xs => by
    show (x.refsIn p && refsInT p xs) = (x.refsIn p && refsInL p (xs.map (·.2)))
    rw [refsInT_map xs]
theorem refsInF_map {p : Nat → Bool} : ∀ kvs : List (Str × T), refsInF p kvs = refsInL p (kvs.map (·.2))
  | [] => rfl
  | (_, x) :: xs => by
    show (x.refsIn p && refsInF p xs) = (x.refsIn p && refsInL p (xs.map (·.2)))
    rw [refsInF_map xs]
theorem refsInL_all {p : Nat → Bool} : ∀ xs : List T, refsInL p xs = xs.all (·.refsIn p)
  | [] => rfl
  | x :: xs => by
    show (x.refsIn p && refsInL p xs) = (x.refsIn p && xs.all (·.refsIn p))
    rw [refsInL_all xs]
mutual
theorem T.refsIn_mono {p q : Nat → Bool} (h : ∀ n, p n = true → q n = true) : ∀ t : T, t.refsIn p = true → t.refsIn q = true
  | .non, _ | .bl _, _ | .int _, _ | .str _, _ | .emp, _ | .set _, _ | .scr _, _ => by simp [T.refsIn]
  | .lst xs, k => by simp only [T.refsIn] at k ⊢; exact refsInL_mono h xs k
  | .tup xs, k => by simp only [T.refsIn] at k ⊢; exact refsInL_mono h xs k
  | .dct xs, k => by simp only [T.refsIn] at k ⊢; exact refsInK_mono h xs k
  | .dtt xs, k => by simp only [T.refsIn] at k ⊢; exact refsInT_mono h xs k
  | .obj _ xs, k => by simp only [T.refsIn] at k ⊢; exact refsInF_mono h xs k
  | .ref n, k => by simp only [T.refsIn] at k ⊢; exact h n k
theorem refsInL_mono {p q : Nat → Bool} (h : ∀ n, p n = true → q n = true) : ∀ t : List T, refsInL p t = true → refsInL q t = true
  | [], _ => rfl
  | x :: xs, k => by
    simp only [refsInL, Bool.and_eq_true] at k ⊢
    exact ⟨T.refsIn_mono h x k.1, refsInL_mono h xs k.2⟩
theorem refsInK_mono {p q : Nat → Bool} (h : ∀ n, p n = true → q n = true) : ∀ t : List (L2.Key × T), refsInK p t = true → refsInK q t = true
  | [], _ => rfl
  | (_, x) :: xs, k => by
    simp only [refsInK, Bool.and_eq_true] at k ⊢
    exact ⟨T.refsIn_mono h x k.1, refsInK_mono h xs k.2⟩
theorem refsInT_mono {p q : Nat → Bool} (h : ∀ n, p n = true → q n = true) : ∀ t : List (List L2.Key × T), refsInT p t = true → refsInT q t = true
  | [], _ => rfl
  | (_, x) :: xs, k => by
    simp only [refsInT, Bool.and_eq_true] at k ⊢
    exact ⟨T.refsIn_mono h x k.1, refsInT_mono h xs k.2⟩
theorem refsInF_mono {p q : Nat → Bool} (h : ∀ n, p n = true → q n = true) : ∀ t : List (Str × T), refsInF p t = true → refsInF q t = true
  | [], _ => rfl
  | (_, x) :: xs, k => by
    simp only [refsInF, Bool.and_eq_true] at k ⊢
    exact ⟨T.refsIn_mono h x k.1, refsInF_mono h xs k.2⟩
end
abbrev T.under (n : Nat) (t : T) : Bool := t.refsIn fun m => decide (m < n)
/-- no cell in it -/
abbrev T.pure (t : T) : Bool := t.refsIn fun _ => false
theorem T.pure_in {t : T} (h : t.pure = true) (p : Nat → Bool) : t.refsIn p = true := T.refsIn_mono (fun _ z => by cases z) t h
/-- the program, the world, the written part -/
structure Cf where
  P : Program
  w : World
  K : PySem.W.Frag
abbrev Ls := List (Option Addr)
def Bar (L : Ls) (F : List Addr) (a : Addr) : Prop := a ∈ F ∨ some a ∈ L
structure Dft (K : PySem.W.Frag) (a : Addr) : Prop where
  at_ : ∃ (o : Obj) (n : Nat), K.lookup a = some o ∧ o.cls = .type "tuple" ∧ o.data = .seq #[] n
theorem Dft.sq {K : PySem.W.Frag} {a : Addr} (h : Dft K a) (H : Hp) : SqT K H a [] := by
  obtain ⟨o, n, h1, h2, h3⟩ := h.at_
  exact .inr ⟨o, #[], n, h1, h2, h3, by show 0 ≤ sizeLine; exact Nat.zero_le _, .nil⟩
theorem Dft.ty {K : PySem.W.Frag} {a : Addr} (h : Dft K a) (H : Hp) : TyX K H (.ref a) (.type "tuple") := by
  obtain ⟨o, n, h1, h2, h3⟩ := h.at_
  exact .kTuple h1 h2
/-- the script, where it stands in the written part -/
def ScrK (K : PySem.W.Frag) (a : Addr) (ns : List Int) : Prop := ∃ (o : Obj) (its : Array Value) (n : Nat), K.lookup a = some o ∧ o.cls = .type "list" ∧ o.dict = none ∧ o.data = .seq its n ∧ its.size ≤ sizeLine ∧ Vals (ns.map V.int) its.toList
/-- the largest length of anything -/
abbrev big : Nat := 100000
mutual
inductive Ta (c : Cf) (L : Ls) (F : List Addr) (H : Hp) : V → T → Prop
  | non : Ta c L F H .non .non
  | bl (b : Bool) : Ta c L F H (.bl b) (.bl b)
  | int (i : Int) : Ta c L F H (.int i) (.int i)
  | str (x : Str) : Ta c L F H (.str x) (.str x)
  | lst {a : Addr} {vs : List V} {xs : List T} : ¬ Bar L F a → H a = some (.lst vs) → Tas c L F H vs xs → xs.length ≤ big → Ta c L F H (.ref a) (.lst xs)
  | tup {a : Addr} {vs : List V} {xs : List T} : ¬ Bar L F a → H a = some (.tup vs) → Tas c L F H vs xs → xs.length ≤ big → Ta c L F H (.ref a) (.tup xs)
  | emp {a : Addr} : Dft c.K a → Ta c L F H (.ref a) .emp
  | dK {a : Addr} {kvs : List (L2.Key × V)} {ps : List (L2.Key × T)} : ¬ Bar L F a → H a = some (.dK kvs) → ps.map (·.1) = kvs.map (·.1) → Tas c L F H (kvs.map (·.2)) (ps.map (·.2)) → ps.length ≤ big → Ta c L F H (.ref a) (.dct ps)
  | dT {a : Addr} {kvs : List (List L2.Key × V)} {ps : List (List L2.Key × T)} : ¬ Bar L F a → H a = some (.dT kvs) → ps.map (·.1) = kvs.map (·.1) → Tas c L F H (kvs.map (·.2)) (ps.map (·.2)) → ps.length ≤ big → Ta c L F H (.ref a) (.dtt ps)
  | set {a : Addr} {xs : List Str} : ¬ Bar L F a → H a = some (setX c.P c.w a xs) → xs.length ≤ 4000 → Ta c L F H (.ref a) (.set xs)
  | scrF {a : Addr} {o : Obj} {ns : List Int} : ¬ Bar L F a → H a = some (.frz o (.lst (ns.map V.int))) → ns.length ≤ big → Ta c L F H (.ref a) (.scr ns)
  | scrK {a : Addr} {ns : List Int} : ScrK c.K a ns → ns.length ≤ big → Ta c L F H (.ref a) (.scr ns)
  | obj {a C dx : Addr} {fs : List (Str × V)} {ps : List (Str × T)} : ¬ Bar L F a → H a = some (.ins C dx fs) → ps.map (·.1) = fs.map (·.1) → Tas c L F H (fs.map (·.2)) (ps.map (·.2)) → Ta c L F H (.ref a) (.obj C ps)
  | ref {n : Nat} {a : Addr} : L[n]? = some (some a) → Ta c L F H (.ref a) (.ref n)
inductive Tas (c : Cf) (L : Ls) (F : List Addr) (H : Hp) : List V → List T → Prop
  | nil : Tas c L F H [] []
  | cons {v : V} {vs : List V} {t : T} {ts : List T} : Ta c L F H v t → Tas c L F H vs ts → Tas c L F H (v :: vs) (t :: ts)
end
/-- what stands stays, as far as it is told -/
structure Mv (p : Nat → Bool) (L : Ls) (F : List Addr) (H : Hp) (L' : Ls) (F' : List Addr) (H' : Hp) : Prop where
  fr : ∀ a u, ¬ Bar L F a → H a = some u → ¬ Bar L' F' a ∧ H' a = some u
  rf : ∀ (n : Nat) (a : Addr), p n = true → L[n]? = some (some a) → L'[n]? = some (some a)
section
variable {c : Cf} {L L' : Ls} {F F' : List Addr} {H H' : Hp} {p : Nat → Bool}
mutual
theorem Ta.mv (m : Mv p L F H L' F' H') : ∀ {v : V} {t : T}, t.refsIn p = true → Ta c L F H v t → Ta c L' F' H' v t
  | _, _, _, .non => .non
  | _, _, _, .bl b => .bl b
  | _, _, _, .int i => .int i
  | _, _, _, .str x => .str x
  | _, _, k, .lst n h t z => .lst (m.fr _ _ n h).1 (m.fr _ _ n h).2 (Tas.mv m (by simpa only [T.refsIn] using k) t) z
  | _, _, k, .tup n h t z => .tup (m.fr _ _ n h).1 (m.fr _ _ n h).2 (Tas.mv m (by simpa only [T.refsIn] using k) t) z
  | _, _, _, .emp h => .emp h
  | _, _, k, .dK n h q t z => .dK (m.fr _ _ n h).1 (m.fr _ _ n h).2 q (Tas.mv m (by rw [← refsInK_map]; simpa only [T.refsIn] using k) t) z
  | _, _, k, .dT n h q t z => .dT (m.fr _ _ n h).1 (m.fr _ _ n h).2 q (Tas.mv m (by rw [← refsInT_map]; simpa only [T.refsIn] using k) t) z
  | _, _, _, .set n h z => .set (m.fr _ _ n h).1 (m.fr _ _ n h).2 z
  | _, _, _, .scrF n h z => .scrF (m.fr _ _ n h).1 (m.fr _ _ n h).2 z
  | _, _, _, .scrK h z => .scrK h z
  | _, _, k, .obj n h q t => .obj (m.fr _ _ n h).1 (m.fr _ _ n h).2 q (Tas.mv m (by rw [← refsInF_map]; simpa only [T.refsIn] using k) t)
  | _, _, k, .ref h => .ref (m.rf _ _ (by simpa only [T.refsIn] using k) h)
theorem Tas.mv (m : Mv p L F H L' F' H') : ∀ {vs : List V} {ts : List T}, refsInL p ts = true → Tas c L F H vs ts → Tas c L' F' H' vs ts
  | _, _, _, .nil => .nil
  | _, _, k, .cons h t => by
    have k' := Bool.and_eq_true_iff.mp (by simpa only [refsInL] using k)
    exact .cons (Ta.mv m k'.1 h) (Tas.mv m k'.2 t)
end
mutual
theorem T.refs_all : ∀ t : T, t.refsIn (fun _ => true) = true
  | .non | .bl _ | .int _ | .str _ | .emp | .set _ | .scr _ => by simp [T.refsIn]
  | .lst xs => by simp only [T.refsIn]; exact refsL_all xs
  | .tup xs => by simp only [T.refsIn]; exact refsL_all xs
  | .dct xs => by simp only [T.refsIn]; exact refsK_all xs
  | .dtt xs => by simp only [T.refsIn]; exact refsT_all xs
  | .obj _ xs => by simp only [T.refsIn]; exact refsF_all xs
  | .ref n => by simp [T.refsIn]
theorem refsL_all : ∀ t : List T, refsInL (fun _ => true) t = true
  | [] => rfl
  | x :: xs => by simp only [refsInL, Bool.and_eq_true]; exact ⟨T.refs_all x, refsL_all xs⟩
theorem refsK_all : ∀ t : List (L2.Key × T), refsInK (fun _ => true) t = true
  | [] => rfl
  | (_, x) :: xs => by simp only [refsInK, Bool.and_eq_true]; exact ⟨T.refs_all x, refsK_all xs⟩
theorem refsT_all : ∀ t : List (List L2.Key × T), refsInT (fun _ => true) t = true
  | [] => rfl
  | (_, x) :: xs => by simp only [refsInT, Bool.and_eq_true]; exact ⟨T.refs_all x, refsT_all xs⟩
theorem refsF_all : ∀ t : List (Str × T), refsInF (fun _ => true) t = true
  | [] => rfl
  | (_, x) :: xs => by simp only [refsInF, Bool.and_eq_true]; exact ⟨T.refs_all x, refsF_all xs⟩
end
theorem Tas.length : ∀ {vs : List V} {ts : List T}, Tas c L F H vs ts → vs.length = ts.length
  | _, _, .nil => rfl
  | _, _, .cons _ k => congrArg (· + 1) k.length
theorem Tas.app : ∀ {vs ws : List V} {ts us : List T}, Tas c L F H vs ts → Tas c L F H ws us → Tas c L F H (vs ++ ws) (ts ++ us)
  | _, _, _, _, .nil, k => k
  | _, _, _, _, .cons h t, k => .cons h (t.app k)
theorem Tas.of_get : ∀ {vs : List V} {ts : List T} {i : Nat} {t : T}, Tas c L F H vs ts → ts[i]? = some t → ∃ v, vs[i]? = some v ∧ Ta c L F H v t
  | _, _, 0, t, .cons (v := v) h _, e => ⟨v, rfl, by cases (show some _ = some t from e); exact h⟩
  | _, _, i + 1, t, .cons h k, e => k.of_get (i := i) e
theorem Tas.get : ∀ {vs : List V} {ts : List T} {i : Nat} {v : V}, Tas c L F H vs ts → vs[i]? = some v → ∃ t, ts[i]? = some t ∧ Ta c L F H v t
  | _, _, 0, v, .cons (t := t) h _, e => ⟨t, rfl, by cases (show some _ = some v from e); exact h⟩
  | _, _, i + 1, v, .cons h k, e => k.get (i := i) e
theorem Tas.drop : ∀ {vs : List V} {ts : List T}, Tas c L F H vs ts → ∀ n : Nat, Tas c L F H (vs.drop n) (ts.drop n)
  | _, _, h, 0 => h
  | _, _, .nil, n + 1 => .nil
  | _, _, .cons _ t, n + 1 => t.drop n
theorem Tas.take : ∀ {vs : List V} {ts : List T}, Tas c L F H vs ts → ∀ n : Nat, Tas c L F H (vs.take n) (ts.take n)
  | _, _, _, 0 => .nil
  | _, _, .nil, n + 1 => .nil
  | _, _, .cons h t, n + 1 => .cons h (t.take n)
theorem Tas.set : ∀ {vs : List V} {ts : List T}, Tas c L F H vs ts → ∀ {v : V} {t : T}, Ta c L F H v t → ∀ n : Nat, Tas c L F H (vs.set n v) (ts.set n t)
  | _, _, .nil, _, _, _, _ => .nil
  | _, _, .cons _ k, _, _, h, 0 => .cons h k
  | _, _, .cons a k, _, _, h, n + 1 => .cons a (k.set h n)
theorem Tas.erase : ∀ {vs : List V} {ts : List T}, Tas c L F H vs ts → ∀ k : Nat, Tas c L F H (vs.eraseIdx k) (ts.eraseIdx k)
  | _, _, .nil, _ => .nil
  | _, _, .cons h t, 0 => t
  | _, _, .cons h t, k + 1 => .cons h (t.erase k)
theorem Tas.rev : ∀ {vs : List V} {ts : List T}, Tas c L F H vs ts → Tas c L F H vs.reverse ts.reverse
  | _, _, .nil => .nil
  | _, _, .cons h t => by
    rw [List.reverse_cons, List.reverse_cons]
    exact t.rev.app (.cons h .nil)
theorem Tas.rep {v : V} {t : T} (h : Ta c L F H v t) : ∀ n : Nat, Tas c L F H (List.replicate n v) (List.replicate n t)
  | 0 => .nil
  | n + 1 => .cons h (Tas.rep h n)
end
/-! cells -/
inductive Cell where
  | lst (xs : List T) | dct (kvs : List (L2.Key × T)) | dtt (kvs : List (List L2.Key × T)) | obj (C : Addr) (fs : List (Str × T)) | gone
def Cell.refsIn (p : Nat → Bool) : Cell → Bool
  | .lst xs => refsInL p xs
  | .dct kvs => refsInK p kvs
  | .dtt kvs => refsInT p kvs
  | .obj _ fs => refsInF p fs
  | .gone => true
abbrev Cell.under (n : Nat) (x : Cell) : Bool := x.refsIn fun m => decide (m < n)
def CellOk (c : Cf) (L : Ls) (F : List Addr) (H : Hp) (a : Addr) : Cell → Prop
  | .lst xs => ∃ vs, H a = some (.lst vs) ∧ Tas c L F H vs xs ∧ xs.length ≤ big
  | .dct ps => ∃ kvs : List (L2.Key × V), H a = some (.dK kvs) ∧ ps.map (·.1) = kvs.map (·.1) ∧ Tas c L F H (kvs.map (·.2)) (ps.map (·.2)) ∧ ps.length ≤ big
  | .dtt ps => ∃ kvs : List (List L2.Key × V), H a = some (.dT kvs) ∧ ps.map (·.1) = kvs.map (·.1) ∧ Tas c L F H (kvs.map (·.2)) (ps.map (·.2)) ∧ ps.length ≤ big
  | .obj C ps => ∃ dx fs, H a = some (.ins C dx fs) ∧ ps.map (·.1) = fs.map (·.1) ∧ Tas c L F H (fs.map (·.2)) (ps.map (·.2))
  | .gone => False
abbrev Stt := List Cell
/-- something that is no tuple -/
def Br (o : Option HO) : Prop := o ≠ none ∧ ∀ vs, o ≠ some (.tup vs)
theorem Br.step {o o' : Option HO} (h : Br o) (k : ∀ u, o = some u → o' = some u) : Br o' := by
  cases e : o with
  | none => exact absurd e h.1
  | some u => rw [k u e, ← e]; exact h
theorem Br.lay {H : Hp} {a p : Addr} {o : HO} (n : H a = none) (h : Br (H p)) : Br (upd H a o p) := h.step fun u e => by
  rw [upd_ne (ne_of_none e n)]; exact e
theorem Br.of {o : HO} (h : ∀ vs, o ≠ .tup vs) : Br (some o) := ⟨(fun z => nomatch z), fun vs z => h vs (Option.some.inj z)⟩
structure Rl (c : Cf) (L : Ls) (F : List Addr) (st : Stt) (H : Hp) : Prop where
  len : L.length = st.length
  cell : ∀ (n : Nat) (a : Addr) x, L[n]? = some (some a) → st[n]? = some x → CellOk c L F H a x
  low : ∀ (n : Nat) x, st[n]? = some x → x.under n = true
  gone : ∀ (n : Nat), L[n]? = some none → st[n]? = some .gone
  nodup : ∀ (i j : Nat) (a : Addr), L[i]? = some (some a) → L[j]? = some (some a) → i = j
  trF : ∀ p ∈ F, Br (H p)
  dis : ∀ p ∈ F, some p ∉ L
theorem CellOk.tr {c : Cf} {L : Ls} {F : List Addr} {H : Hp} {a : Addr} {x : Cell} (h : CellOk c L F H a x) : H a ≠ none := by
  cases x with
  | lst xs => obtain ⟨vs, e, _⟩ := h; rw [e]; exact fun z => nomatch z
  | dct ps => obtain ⟨vs, e, _⟩ := h; rw [e]; exact fun z => nomatch z
  | dtt ps => obtain ⟨vs, e, _⟩ := h; rw [e]; exact fun z => nomatch z
  | obj C ps => obtain ⟨dx, fs, e, _⟩ := h; rw [e]; exact fun z => nomatch z
  | gone => exact h.elim
section
variable {c : Cf} {L L' : Ls} {F F' : List Addr} {H H' : Hp} {st st' : Stt} {p : Nat → Bool}
theorem Rl.trL (r : Rl c L F st H) {a : Addr} (h : some a ∈ L) : H a ≠ none := by
  obtain ⟨n, hn, e⟩ := List.getElem_of_mem h
  have e1 : L[n]? = some (some a) := by rw [List.getElem?_eq_getElem hn, e]
  have l2 : n < st.length := r.len ▸ hn
  exact (r.cell n a _ e1 (List.getElem?_eq_getElem l2)).tr
theorem Rl.fresh (r : Rl c L F st H) {a : Addr} (h : H a = none) : ¬ Bar L F a := fun b => b.elim (fun m => (r.trF a m).1 h) fun m => r.trL m h
theorem CellOk.mv (m : Mv p L F H L' F' H') {a : Addr} {x : Cell} (k : x.refsIn p = true) (e : H' a = H a) (h : CellOk c L F H a x) : CellOk c L' F' H' a x := by
  cases x with
  | lst xs => obtain ⟨vs, e1, t, z⟩ := h; exact ⟨vs, e.trans e1, t.mv m k, z⟩
  | dct ps => obtain ⟨kvs, e1, q, t, z⟩ := h; exact ⟨kvs, e.trans e1, q, t.mv m (by rw [← refsInK_map]; exact k), z⟩
  | dtt ps => obtain ⟨kvs, e1, q, t, z⟩ := h; exact ⟨kvs, e.trans e1, q, t.mv m (by rw [← refsInT_map]; exact k), z⟩
  | obj C ps =>
    obtain ⟨dx, fs, e1, q, t⟩ := h
    exact ⟨dx, fs, e.trans e1, q, t.mv m (by rw [← refsInF_map]; exact k)⟩
  | gone => exact h.elim
end
/-- from one state on to a later one -/
structure Go (L : Ls) (H : Hp) (L' : Ls) (H' : Hp) : Prop where
  gr : ∀ p u, some p ∉ L → H p = some u → H' p = some u
  keep : ∀ p, H p ≠ none → H' p ≠ none
  len : L.length ≤ L'.length
  old : ∀ (n : Nat) (a : Addr), n < L.length → L'[n]? = some (some a) → L[n]? = some (some a)
  new : ∀ (n : Nat) (a : Addr), L.length ≤ n → L'[n]? = some (some a) → H a = none
  stay : ∀ (n : Nat) (a : Addr), L[n]? = some (some a) → L'[n]? = some (some a)
theorem Go.refl (L : Ls) (H : Hp) : Go L H L H := ⟨fun _ _ _ h => h, fun _ h => h, Nat.le_refl _, fun _ _ _ h => h, fun n a h e => absurd (List.getElem?_eq_some_iff.mp e).1 (by omega), fun _ _ h => h⟩
theorem Go.notin {L L' : Ls} {H H' : Hp} (g : Go L H L' H') {p : Addr} (n : some p ∉ L) (h : H p ≠ none) : some p ∉ L' := fun m => by
  obtain ⟨i, hi, e⟩ := List.getElem_of_mem m
  have e1 : L'[i]? = some (some p) := by rw [List.getElem?_eq_getElem hi, e]
  by_cases q : i < L.length
  · exact n (List.mem_of_getElem? (g.old i p q e1))
  · exact h (g.new i p (by omega) e1)
theorem Go.trans {L L' L'' : Ls} {H H' H'' : Hp} (a : Go L H L' H') (b : Go L' H' L'' H'') : Go L H L'' H'' where
  gr := fun p u n h => b.gr p u (a.notin n (by rw [h]; exact fun z => nomatch z)) (a.gr p u n h)
  keep := fun p h => b.keep p (a.keep p h)
  len := Nat.le_trans a.len b.len
  old := fun n x l e => a.old n x l (b.old n x (Nat.lt_of_lt_of_le l a.len) e)
  new := fun n x l e => by
    by_cases q : n < L'.length
    · exact a.new n x l (b.old n x q e)
    · have := b.new n x (by omega) e
      cases z : H x with
      | none => rfl
      | some u => exact absurd this (a.keep x (by rw [z]; exact fun z => nomatch z))
  stay := fun n x e => b.stay n x (a.stay n x e)
section
variable {c : Cf} {L L' : Ls} {F F' : List Addr} {H H' : Hp} {st st' : Stt} {p : Nat → Bool}
theorem Go.mv (g : Go L H L' H') : Mv (fun _ => true) L F H L' F H' where
  fr := fun a u n h => ⟨fun b => b.elim (fun m => n (.inl m)) (g.notin (fun m => n (.inr m)) (by rw [h]; exact fun z => nomatch z)), g.gr a u (fun m => n (.inr m)) h⟩
  rf := fun n a _ h => g.stay n a h
theorem Ta.go (g : Go L H L' H') {v : V} {t : T} (h : Ta c L F H v t) : Ta c L' F H' v t := h.mv g.mv (T.refs_all t)
theorem Tas.go (g : Go L H L' H') {vs : List V} {ts : List T} (h : Tas c L F H vs ts) : Tas c L' F H' vs ts := h.mv g.mv (refsL_all ts)
/-- an object made, no cell -/
theorem Go.lay {a : Addr} {o : HO} (h : H a = none) : Go L H L (upd H a o) where
  gr := fun p u _ e => by rw [upd_ne (ne_of_none e h)]; exact e
  keep := fun p e => by
    by_cases q : p = a
    · rw [q]; rw [upd_same]; exact fun z => nomatch z
    · rw [upd_ne q]; exact e
  len := Nat.le_refl _
  old := fun _ _ _ e => e
  new := fun n x l e => absurd (List.getElem?_eq_some_iff.mp e).1 (by omega)
  stay := fun _ _ e => e
theorem Rl.lay (r : Rl c L F st H) {a : Addr} {o : HO} (h : H a = none) : Rl c L F st (upd H a o) where
  len := r.len
  cell := fun n b x e1 e2 => by
    have q := r.cell n b x e1 e2
    refine q.mv (p := fun _ => true) (Go.lay h).mv ?_ (upd_ne fun z => q.tr (by rw [z]; exact h))
    cases x with
    | lst xs => exact refsL_all xs
    | dct xs => exact refsK_all xs
    | dtt xs => exact refsT_all xs
    | obj _ xs => exact refsF_all xs
    | gone => rfl
  low := r.low
  gone := r.gone
  nodup := r.nodup
  trF := fun p m => (r.trF p m).lay h
  dis := r.dis
end
theorem Cell.refs_all (x : Cell) : x.refsIn (fun _ => true) = true := by
  cases x with
  | lst xs => exact refsL_all xs
  | dct xs => exact refsK_all xs
  | dtt xs => exact refsT_all xs
  | obj _ xs => exact refsF_all xs
  | gone => rfl
/-- the heap goes on, the cells stay as they are -/
theorem Rl.still {c : Cf} {L : Ls} {F : List Addr} {st : Stt} {H H' : Hp} (r : Rl c L F st H) (g : ∀ p u, H p = some u → H' p = some u) : Go L H L H' ∧ Rl c L F st H' := by
  have k : ∀ p, H p ≠ none → H' p ≠ none := fun p h => by
    cases e : H p with
    | none => exact absurd e h
    | some u => rw [g p u e]; exact fun z => nomatch z
  have go : Go L H L H' := ⟨fun p u _ e => g p u e, k, Nat.le_refl _, fun _ _ _ e => e, fun n x l e => absurd (List.getElem?_eq_some_iff.mp e).1 (by omega), fun _ _ e => e⟩
  refine ⟨go, r.len, fun n b x e1 e2 => ?_, r.low, r.gone, r.nodup, fun p m => (r.trF p m).step fun u e => g p u e, r.dis⟩
  have q := r.cell n b x e1 e2
  refine q.mv (p := fun _ => true) go.mv x.refs_all ?_
  cases e : H b with
  | none => exact absurd e q.tr
  | some u => exact g b u e
end Vw

/-! expressions and statements with what they do to trees -/
namespace Vw
open PySem PySem.Spec PyProof.Rows L2 Gd
abbrev En := List (Option T)
structure Se (c : Cf) (L : Ls) (F : List Addr) (H : Hp) (σ : L2.St) (env : En) : Prop where
  len : σ.length = env.length
  at_ : ∀ (i : Nat) (t : T), env[i]? = some (some t) → ∃ v, σ[i]? = some (some v) ∧ Ta c L F H v t
abbrev WE := En → Stt → (T → Stt → Prop) → Prop
abbrev WA := En → Stt → (List T → Stt → Prop) → Prop
abbrev WT := En → Stt → (Bool → Stt → Prop) → Prop
/-- what is wanted of values, by what is wanted of trees -/
def KE (c : Cf) (L : Ls) (F : List Addr) (H : Hp) (Qc : VK) (Q : T → Stt → Prop) : Prop :=
  ∀ v t st' H' L', Go L H L' H' → Rl c L' F st' H' → Ta c L' F H' v t → Q t st' → Qc v H'
def KA (c : Cf) (L : Ls) (F : List Addr) (H : Hp) (Qc : List V → Hp → Prop) (Q : List T → Stt → Prop) : Prop :=
  ∀ vs ts st' H' L', Go L H L' H' → Rl c L' F st' H' → Tas c L' F H' vs ts → Q ts st' → Qc vs H'
def KT (c : Cf) (L : Ls) (F : List Addr) (H : Hp) (Qc : Bool → Hp → Prop) (Q : Bool → Stt → Prop) : Prop :=
  ∀ b st' H' L', Go L H L' H' → Rl c L' F st' H' → Q b st' → Qc b H'
def SoE (c : Cf) (te : TE) (w : WE) : Prop := ∀ (L : Ls) (F : List Addr) (env : En) (st : Stt) (σ : L2.St) (H : Hp) (Qc : VK) (Q : T → Stt → Prop),
  Rl c L F st H → Se c L F H σ env → w env st Q → KE c L F H Qc Q → te σ H Qc
def SoA (c : Cf) (ta : TA) (w : WA) : Prop := ∀ (L : Ls) (F : List Addr) (env : En) (st : Stt) (σ : L2.St) (H : Hp) (Qc : List V → Hp → Prop) (Q : List T → Stt → Prop),
  Rl c L F st H → Se c L F H σ env → w env st Q → KA c L F H Qc Q → ta σ H Qc
def SoT (c : Cf) (tt : TT) (w : WT) : Prop := ∀ (L : Ls) (F : List Addr) (env : En) (st : Stt) (σ : L2.St) (H : Hp) (Qc : Bool → Hp → Prop) (Q : Bool → Stt → Prop),
  Rl c L F st H → Se c L F H σ env → w env st Q → KT c L F H Qc Q → tt σ H Qc
structure EX (c : Cf) where
  te : TE
  w : WE
  ok : SoE c te w
structure AX (c : Cf) where
  ta : TA
  w : WA
  ok : SoA c ta w
structure TX (c : Cf) where
  tt : TT
  w : WT
  ok : SoT c tt w
section
variable {c : Cf} {L L' : Ls} {F : List Addr} {H H' : Hp} {st : Stt} {σ : L2.St} {env : En} {Qc : VK} {Q : T → Stt → Prop}
theorem Se.go (s : Se c L F H σ env) (g : Go L H L' H') : Se c L' F H' σ env := ⟨s.len, fun i t e => let ⟨v, h1, h2⟩ := s.at_ i t e; ⟨v, h1, h2.go g⟩⟩
theorem Se.set (s : Se c L F H σ env) {i : Nat} {v : V} {t : T} (h : Ta c L F H v t) : Se c L F H (σ.set i (some v)) (env.set i (some t)) := by
  refine ⟨by rw [List.length_set, List.length_set]; exact s.len, fun j u e => ?_⟩
  by_cases ij : i = j
  · subst ij
    rw [List.getElem?_set] at e
    simp only [if_pos] at e
    split at e
    · cases e
      refine ⟨v, ?_, h⟩
      rw [List.getElem?_set]
      simp only [if_pos]
      rw [if_pos (by rw [s.len]; assumption)]
    · cases e
  · rw [List.getElem?_set_ne ij] at e
    rw [List.getElem?_set_ne ij]
    exact s.at_ j u e
theorem Se.setN (s : Se c L F H σ env) {i : Nat} {o : Option V} : Se c L F H (σ.set i o) (env.set i none) := by
  refine ⟨by rw [List.length_set, List.length_set]; exact s.len, fun j u e => ?_⟩
  by_cases ij : i = j
  · subst ij
    rw [List.getElem?_set] at e
    simp only [if_pos] at e
    split at e
    · cases e
    · cases e
  · rw [List.getElem?_set_ne ij] at e
    rw [List.getElem?_set_ne ij]
    exact s.at_ j u e
/-- fewer things are told -/
theorem Se.drop (s : Se c L F H σ env) {env' : En} (l : env'.length = env.length) (h : ∀ (i : Nat) (t : T), env'[i]? = some (some t) → env[i]? = some (some t)) : Se c L F H σ env' :=
  ⟨by rw [l]; exact s.len, fun i t e => s.at_ i t (h i t e)⟩
theorem KE.go (k : KE c L F H Qc Q) (g : Go L H L' H') : KE c L' F H' Qc Q := fun v t st' H'' L'' g' => k v t st' H'' L'' (g.trans g')
theorem KE.here (k : KE c L F H Qc Q) (r : Rl c L F st H) {v : V} {t : T} (a : Ta c L F H v t) (q : Q t st) : Qc v H := k v t st H L (Go.refl _ _) r a q
theorem KA.go {Qc : List V → Hp → Prop} {Q : List T → Stt → Prop} (k : KA c L F H Qc Q) (g : Go L H L' H') : KA c L' F H' Qc Q := fun v t st' H'' L'' g' => k v t st' H'' L'' (g.trans g')
theorem KT.go {Qc : Bool → Hp → Prop} {Q : Bool → Stt → Prop} (k : KT c L F H Qc Q) (g : Go L H L' H') : KT c L' F H' Qc Q := fun v st' H'' L'' g' => k v st' H'' L'' (g.trans g')
end
section
variable {c : Cf}
/-! names and constants -/
def eV (i : Nat) : EX c where
  te := tVar i
  w env st Q := match env[i]? with | some (some t) => Q t st | _ => False
  ok L F env st σ H Qc Q r s h k := by
    cases e : env[i]? with
    | none => simp [e] at h
    | some o =>
      cases o with
      | none => simp [e] at h
      | some t =>
        simp only [e] at h
        obtain ⟨v, h1, h2⟩ := s.at_ i t e
        exact ⟨v, h1, k.here r h2 h⟩
def eC (v : V) (t : T) (h : ∀ (c : Cf) (L : Ls) (F : List Addr) (H : Hp), Ta c L F H v t) : EX c where
  te := tC v
  w _ st Q := Q t st
  ok L F env st σ H Qc Q r s q k := k.here r (h c L F H) q
def eI (i : Int) : EX c := eC (.int i) (.int i) fun _ _ _ _ => .int i
def eS (x : Str) : EX c := eC (.str x) (.str x) fun _ _ _ _ => .str x
def eB (b : Bool) : EX c := eC (.bl b) (.bl b) fun _ _ _ _ => .bl b
def eN : EX c := eC .non .non fun _ _ _ _ => .non
/-! argument lists -/
def aN : AX c where
  ta := tNil
  w _ st Q := Q [] st
  ok L F env st σ H Qc Q r s q k := k [] [] st H L (Go.refl _ _) r .nil q
def aC (e : EX c) (a : AX c) : AX c where
  ta := tCons e.te a.ta
  w env st Q := e.w env st fun t st1 => a.w env st1 fun ts st2 => Q (t :: ts) st2
  ok L F env st σ H Qc Q r s h k := e.ok L F env st σ H _ _ r s h fun v t st1 H1 L1 g1 r1 a1 h1 =>
    a.ok L1 F env st1 σ H1 _ _ r1 (s.go g1) h1 fun vs ts st2 H2 L2 g2 r2 a2 h2 =>
      k (v :: vs) (t :: ts) st2 H2 L2 (g1.trans g2) r2 (.cons (a1.go g2) a2) h2
/-! displays -/
def eTup (a : AX c) : EX c where
  te := tTup a.ta
  w env st Q := a.w env st fun ts st1 => ts.length ≤ big ∧ Q (.tup ts) st1
  ok L F env st σ H Qc Q r s h k := a.ok L F env st σ H _ _ r s h fun vs ts st1 H1 L1 g1 r1 a1 ⟨z, h1⟩ =>
    ⟨by rw [a1.length]; exact Nat.le_trans z (by decide), fun p hp =>
      k _ (.tup ts) st1 _ L1 (g1.trans (Go.lay hp)) (r1.lay hp) (.tup (r1.fresh hp) upd_same (a1.go (Go.lay hp)) z) h1⟩
def eLst (a : AX c) : EX c where
  te := tLst a.ta
  w env st Q := a.w env st fun ts st1 => ts.length ≤ big ∧ Q (.lst ts) st1
  ok L F env st σ H Qc Q r s h k := a.ok L F env st σ H _ _ r s h fun vs ts st1 H1 L1 g1 r1 a1 ⟨z, h1⟩ =>
    ⟨by rw [a1.length]; exact Nat.le_trans z (by decide), fun p hp =>
      k _ (.lst ts) st1 _ L1 (g1.trans (Go.lay hp)) (r1.lay hp) (.lst (r1.fresh hp) upd_same (a1.go (Go.lay hp)) z) h1⟩
end
/-! a new cell -/
section
variable {c : Cf} {L L' : Ls} {F : List Addr} {H H' : Hp} {st : Stt}
theorem get_snoc {α : Type} {xs : List α} {x : α} : (xs ++ [x])[xs.length]? = some x := by simp
theorem get_snoc_cases {α : Type} {xs : List α} {x y : α} {n : Nat} (h : (xs ++ [x])[n]? = some y) : xs[n]? = some y ∨ (n = xs.length ∧ y = x) := by
  by_cases l : n < xs.length
  · rw [List.getElem?_append_left l] at h
    exact .inl h
  · have l2 := (List.getElem?_eq_some_iff.mp h).1
    simp at l2
    have e : n = xs.length := by omega
    subst e
    rw [get_snoc] at h
    exact .inr ⟨rfl, (Option.some.inj h).symm⟩
theorem Go.cell {a : Addr} {o : HO} (h : H a = none) : Go L H (L ++ [some a]) (upd H a o) where
  gr := fun p u _ e => by rw [upd_ne (ne_of_none e h)]; exact e
  keep := (Go.lay (L := L) h).keep
  len := by simp
  old := fun n b l e => by rw [List.getElem?_append_left l] at e; exact e
  new := fun n b l e => by
    rcases get_snoc_cases e with e | ⟨_, e⟩
    · exact absurd (List.getElem?_eq_some_iff.mp e).1 (by omega)
    · cases e; exact h
  stay := fun n b e => by
    rw [List.getElem?_append_left (List.getElem?_eq_some_iff.mp e).1]
    exact e
theorem Rl.newCell (r : Rl c L F st H) {a : Addr} {o : HO} {x : Cell} (h : H a = none) (ok : CellOk c (L ++ [some a]) F (upd H a o) a x) (low : x.under st.length = true) : Rl c (L ++ [some a]) F (st ++ [x]) (upd H a o) := by
  have nb := r.fresh h
  have nl : some a ∉ L := fun m => nb (.inr m)
  refine ⟨by simp [r.len], fun n b y e1 e2 => ?_, fun n y e => ?_, fun n e => ?_, fun i j b e1 e2 => ?_, fun p m => (r.trF p m).lay h, fun p m z => ?_⟩
  · rcases get_snoc_cases e1 with e1 | ⟨en, e1⟩
    · have l := (List.getElem?_eq_some_iff.mp e1).1
      rw [r.len] at l
      rw [List.getElem?_append_left l] at e2
      have q := r.cell n b y e1 e2
      exact q.mv (p := fun _ => true) (Go.cell h).mv y.refs_all (upd_ne fun z => q.tr (by rw [z]; exact h))
    · cases e1
      subst en
      rw [r.len, get_snoc] at e2
      cases e2
      exact ok
  · rcases get_snoc_cases e with e | ⟨en, e⟩
    · exact r.low n y e
    · subst e
      subst en
      exact low
  · rcases get_snoc_cases e with e | ⟨en, e⟩
    · have l := (List.getElem?_eq_some_iff.mp e).1
      rw [r.len] at l
      rw [List.getElem?_append_left l]
      exact r.gone n e
    · cases e
  · rcases get_snoc_cases e1 with e1 | ⟨en1, e1⟩
    · rcases get_snoc_cases e2 with e2 | ⟨en2, e2⟩
      · exact r.nodup i j b e1 e2
      · cases e2
        exact absurd (List.mem_of_getElem? e1) nl
    · cases e1
      rcases get_snoc_cases e2 with e2 | ⟨en2, e2⟩
      · exact absurd (List.mem_of_getElem? e2) nl
      · rw [en1, en2]
  · rcases List.mem_append.mp z with z | z
    · exact r.dis p m z
    · have : p = a := by simpa using z
      rw [this] at m
      exact (r.trF a m).1 h
/-- a cell written -/
theorem Rl.write (r : Rl c L F st H) {n : Nat} {a : Addr} {o : HO} {x : Cell} (e : L[n]? = some (some a)) (ok : CellOk c L F (upd H a o) a x) (low : x.under n = true) : Go L H L (upd H a o) ∧ Rl c L F (st.set n x) (upd H a o) := by
  have ha : some a ∈ L := List.mem_of_getElem? e
  have go : Go L H L (upd H a o) := {
    gr := fun p u np h => by rw [upd_ne fun z => np (by rw [z]; exact ha)]; exact h
    keep := fun p h => by
      by_cases q : p = a
      · rw [q, upd_same]; exact fun z => nomatch z
      · rw [upd_ne q]; exact h
    len := Nat.le_refl _
    old := fun _ _ _ e => e
    new := fun n x l e => absurd (List.getElem?_eq_some_iff.mp e).1 (by omega)
    stay := fun _ _ e => e }
  refine ⟨go, by rw [List.length_set]; exact r.len, fun m b y e1 e2 => ?_, fun m y e2 => ?_, fun m e1 => ?_, r.nodup, fun p m => (r.trF p m).step fun u e => go.gr p u (r.dis p m) e, r.dis⟩
  · by_cases mn : n = m
    · subst mn
      rw [e] at e1
      cases e1
      rw [List.getElem?_set] at e2
      simp only [if_pos] at e2
      split at e2
      · cases e2; exact ok
      · cases e2
    · rw [List.getElem?_set_ne mn] at e2
      have q := r.cell m b y e1 e2
      refine q.mv (p := fun _ => true) go.mv y.refs_all (upd_ne fun z => mn (r.nodup n m a e (z ▸ e1)))
  · by_cases mn : n = m
    · subst mn
      rw [List.getElem?_set] at e2
      simp only [if_pos] at e2
      split at e2
      · cases e2; exact low
      · cases e2
    · rw [List.getElem?_set_ne mn] at e2
      exact r.low m y e2
  · by_cases mn : n = m
    · subst mn
      rw [e] at e1
      cases e1
    · rw [List.getElem?_set_ne mn]
      exact r.gone m e1
theorem Ta.newRef {a : Addr} (r : Rl c L F st H) : Ta c (L ++ [some a]) F H' (.ref a) (.ref st.length) := .ref (by rw [← r.len]; exact get_snoc)
end
section
variable {c : Cf}
/-- a list that will be changed -/
def eLstC (a : AX c) : EX c where
  te := tLst a.ta
  w env st Q := a.w env st fun ts st1 => ts.length ≤ big ∧ refsInL (fun m => decide (m < st1.length)) ts = true ∧ Q (.ref st1.length) (st1 ++ [.lst ts])
  ok L F env st σ H Qc Q r s h k := a.ok L F env st σ H _ _ r s h fun vs ts st1 H1 L1 g1 r1 a1 ⟨z, lo, h1⟩ =>
    ⟨by rw [a1.length]; exact Nat.le_trans z (by decide), fun p hp =>
      k _ (.ref st1.length) _ _ (L1 ++ [some p]) (g1.trans (Go.cell hp)) (r1.newCell (x := .lst ts) hp ⟨vs, upd_same, a1.go (Go.cell hp), z⟩ lo) (Ta.newRef r1) h1⟩
/-- {} that will not be changed; a cell of its own -/
def eDK : EX c where
  te := tDNewK
  w _ st Q := Q (.dct []) st
  ok L F env st σ H Qc Q r s h k := fun p hp => k _ (.dct []) st _ L (Go.lay hp) (r.lay hp) (.dK (r.fresh hp) upd_same rfl .nil (Nat.zero_le _)) h
def eDKC : EX c where
  te := tDNewK
  w _ st Q := Q (.ref st.length) (st ++ [.dct []])
  ok L F env st σ H Qc Q r s h k := fun p hp => k _ (.ref st.length) _ _ (L ++ [some p]) (Go.cell hp) (r.newCell (x := .dct []) hp ⟨[], upd_same, rfl, .nil, Nat.zero_le _⟩ rfl) (Ta.newRef r) h
def eDTC : EX c where
  te := tDNewT
  w _ st Q := Q (.ref st.length) (st ++ [.dtt []])
  ok L F env st σ H Qc Q r s h k := fun p hp => k _ (.ref st.length) _ _ (L ++ [some p]) (Go.cell hp) (r.newCell (x := .dtt []) hp ⟨[], upd_same, rfl, .nil, Nat.zero_le _⟩ rfl) (Ta.newRef r) h
/-! operators -/
structure O2 (c : Cf) where
  r : R2
  w : Stt → T → T → (T → Stt → Prop) → Prop
  ok : ∀ (L : Ls) (F : List Addr) (st : Stt) (H : Hp) (x y : V) (a b : T) (Qc : VK) (Q : T → Stt → Prop), Rl c L F st H → Ta c L F H x a → Ta c L F H y b → w st a b Q → KE c L F H Qc Q → r x y H Qc
structure O1 (c : Cf) where
  r : V → Hp → VK → Prop
  w : Stt → T → (T → Stt → Prop) → Prop
  ok : ∀ (L : Ls) (F : List Addr) (st : Stt) (H : Hp) (x : V) (a : T) (Qc : VK) (Q : T → Stt → Prop), Rl c L F st H → Ta c L F H x a → w st a Q → KE c L F H Qc Q → r x H Qc
/-- a call by values: of a built-in, of a def -/
structure ON (c : Cf) where
  r : List V → Hp → VK → Prop
  w : Stt → List T → (T → Stt → Prop) → Prop
  ok : ∀ (L : Ls) (F : List Addr) (st : Stt) (H : Hp) (xs : List V) (as : List T) (Qc : VK) (Q : T → Stt → Prop), Rl c L F st H → Tas c L F H xs as → w st as Q → KE c L F H Qc Q → r xs H Qc
def eOp (o : O2 c) (a b : EX c) : EX c where
  te := tOp o.r a.te b.te
  w env st Q := a.w env st fun x st1 => b.w env st1 fun y st2 => o.w st2 x y Q
  ok L F env st σ H Qc Q r s h k := a.ok L F env st σ H _ _ r s h fun v t st1 H1 L1 g1 r1 a1 h1 =>
    b.ok L1 F env st1 σ H1 _ _ r1 (s.go g1) h1 fun v2 t2 st2 H2 L2 g2 r2 a2 h2 =>
      o.ok L2 F st2 H2 v v2 t t2 Qc Q r2 (a1.go g2) a2 h2 (k.go (g1.trans g2))
def eUn (o : O1 c) (a : EX c) : EX c where
  te := tUn o.r a.te
  w env st Q := a.w env st fun x st1 => o.w st1 x Q
  ok L F env st σ H Qc Q r s h k := a.ok L F env st σ H _ _ r s h fun v t st1 H1 L1 g1 r1 a1 h1 => o.ok L1 F st1 H1 v t Qc Q r1 a1 h1 (k.go g1)
def eCB (o : ON c) (a : AX c) : EX c where
  te := tCB o.r a.ta
  w env st Q := a.w env st fun xs st1 => o.w st1 xs Q
  ok L F env st σ H Qc Q r s h k := a.ok L F env st σ H _ _ r s h fun v t st1 H1 L1 g1 r1 a1 h1 => o.ok L1 F st1 H1 v t Qc Q r1 a1 h1 (k.go g1)
/-! and, or, not, if -/
def tE (e : EX c) : TX c where
  tt := tB e.te
  w env st Q := e.w env st fun t st1 => match t with | .bl b => Q b st1 | _ => False
  ok L F env st σ H Qc Q r s h k := e.ok L F env st σ H _ _ r s h fun v t st1 H1 L1 g1 r1 a1 h1 => by
    cases a1 with
    | bl b => exact ⟨b, rfl, k b st1 H1 L1 g1 r1 h1⟩
    | _ => exact h1.elim
def tTe (e : EX c) : TX c where
  tt := tTest e.te
  w env st Q := e.w env st fun t st1 => match t with | .bl b => Q b st1 | _ => False
  ok L F env st σ H Qc Q r s h k := e.ok L F env st σ H _ _ r s h fun v t st1 H1 L1 g1 r1 a1 h1 => by
    cases a1 with
    | bl b => exact ⟨b, rfl, k b st1 H1 L1 g1 r1 h1⟩
    | _ => exact h1.elim
def tNo (t : TX c) : TX c where
  tt := tNot t.tt
  w env st Q := t.w env st fun b st1 => Q (!b) st1
  ok L F env st σ H Qc Q r s h k := t.ok L F env st σ H _ _ r s h fun b st1 H1 L1 g1 r1 h1 => k (!b) st1 H1 L1 g1 r1 h1
def tAn (a b : TX c) : TX c where
  tt := tAnd a.tt b.tt
  w env st Q := a.w env st fun x st1 => if x = true then b.w env st1 Q else Q false st1
  ok L F env st σ H Qc Q r s h k := a.ok L F env st σ H _ _ r s h fun x st1 H1 L1 g1 r1 h1 => by
    cases x with
    | true => exact iteT (b.ok L1 F env st1 σ H1 _ _ r1 (s.go g1) h1 (k.go g1))
    | false => exact iteF (k false st1 H1 L1 g1 r1 h1)
def tOrr (a b : TX c) : TX c where
  tt := tOr a.tt b.tt
  w env st Q := a.w env st fun x st1 => if x = true then Q true st1 else b.w env st1 Q
  ok L F env st σ H Qc Q r s h k := a.ok L F env st σ H _ _ r s h fun x st1 H1 L1 g1 r1 h1 => by
    cases x with
    | true => exact iteT (k true st1 H1 L1 g1 r1 h1)
    | false => exact iteF (b.ok L1 F env st1 σ H1 _ _ r1 (s.go g1) h1 (k.go g1))
def tY : TX c where
  tt := tYes
  w _ st Q := Q true st
  ok L F env st σ H Qc Q r s h k := k true st H L (Go.refl _ _) r h
def eAnd (a b : EX c) : EX c where
  te := tAndV a.te b.te
  w env st Q := a.w env st fun x st1 => match x with | .bl p => if p = true then b.w env st1 Q else Q (.bl false) st1 | _ => False
  ok L F env st σ H Qc Q r s h k := a.ok L F env st σ H _ _ r s h fun v t st1 H1 L1 g1 r1 a1 h1 => by
    cases a1 with
    | bl p =>
      refine ⟨p, rfl, ?_⟩
      cases p with
      | true => exact iteT (b.ok L1 F env st1 σ H1 _ _ r1 (s.go g1) h1 (k.go g1))
      | false => exact iteF (k _ _ st1 H1 L1 g1 r1 (.bl false) h1)
    | _ => exact h1.elim
def eOr (a b : EX c) : EX c where
  te := tOrV a.te b.te
  w env st Q := a.w env st fun x st1 => match x with | .bl p => if p = true then Q (.bl true) st1 else b.w env st1 Q | _ => False
  ok L F env st σ H Qc Q r s h k := a.ok L F env st σ H _ _ r s h fun v t st1 H1 L1 g1 r1 a1 h1 => by
    cases a1 with
    | bl p =>
      refine ⟨p, rfl, ?_⟩
      cases p with
      | true => exact iteT (k _ _ st1 H1 L1 g1 r1 (.bl true) h1)
      | false => exact iteF (b.ok L1 F env st1 σ H1 _ _ r1 (s.go g1) h1 (k.go g1))
    | _ => exact h1.elim
def eNot (a : EX c) : EX c where
  te := tNotV a.te
  w env st Q := a.w env st fun x st1 => match x with | .bl p => Q (.bl (!p)) st1 | _ => False
  ok L F env st σ H Qc Q r s h k := a.ok L F env st σ H _ _ r s h fun v t st1 H1 L1 g1 r1 a1 h1 => by
    cases a1 with
    | bl p => exact ⟨p, rfl, k _ _ st1 H1 L1 g1 r1 (.bl (!p)) h1⟩
    | _ => exact h1.elim
def eIf (t : TX c) (a b : EX c) : EX c where
  te := tIf t.tt a.te b.te
  w env st Q := t.w env st fun x st1 => if x = true then a.w env st1 Q else b.w env st1 Q
  ok L F env st σ H Qc Q r s h k := t.ok L F env st σ H _ _ r s h fun x st1 H1 L1 g1 r1 h1 => by
    cases x with
    | true => exact iteT (a.ok L1 F env st1 σ H1 _ _ r1 (s.go g1) h1 (k.go g1))
    | false => exact iteF (b.ok L1 F env st1 σ H1 _ _ r1 (s.go g1) h1 (k.go g1))
def eChain (o o' : O2 c) (a b d : EX c) : EX c where
  te := tChain o.r o'.r a.te b.te d.te
  w env st Q := a.w env st fun x st1 => b.w env st1 fun y st2 => o.w st2 x y fun z st3 => match z with | .bl p => if p = true then d.w env st3 fun u st4 => o'.w st4 y u fun z st5 => match z with | .bl q => Q (.bl q) st5 | _ => False else Q (.bl false) st3 | _ => False
  ok L F env st σ H Qc Q r s h k := a.ok L F env st σ H _ _ r s h fun v t st1 H1 L1 g1 r1 a1 h1 => by
    refine b.ok L1 F env st1 σ H1 _ _ r1 (s.go g1) h1 fun v2 t2 st2 H2 L2 g2 r2 a2 h2 => ?_
    refine o.ok L2 F st2 H2 v v2 t t2 _ _ r2 (a1.go g2) a2 h2 fun v3 t3 st3 H3 L3 g3 r3 a3 h3 => ?_
    have g13 := (g1.trans g2).trans g3
    cases a3 with
    | bl p =>
      refine ⟨p, rfl, ?_⟩
      cases p with
      | true =>
        refine iteT ?_
        refine d.ok L3 F env st3 σ H3 _ _ r3 (s.go g13) h3 fun v4 t4 st4 H4 L4 g4 r4 a4 h4 => ?_
        refine o'.ok L4 F st4 H4 v2 v4 t2 t4 _ _ r4 (a2.go (g3.trans g4)) a4 h4 fun v5 t5 st5 H5 L5 g5 r5 a5 h5 => ?_
        cases a5 with
        | bl q => exact k _ _ st5 H5 L5 ((g13.trans g4).trans g5) r5 (.bl q) h5
        | _ => exact h5.elim
      | false => exact iteF (k _ _ st3 H3 L3 g13 r3 (.bl false) h3)
    | _ => exact h3.elim
end
end Vw

/-! statements, loops, comprehensions, calls of defs -/
namespace Vw
open PySem PySem.Spec PyProof.Rows L2 Gd
/-- from one statement on to a later one: cells made since n0 may have been let go -/
structure Gs (n0 : Nat) (L : Ls) (H : Hp) (L' : Ls) (H' : Hp) : Prop where
  gr : ∀ p u, some p ∉ L → H p = some u → H' p = some u
  keep : ∀ p, H p ≠ none → H' p ≠ none
  len : L.length ≤ L'.length
  old : ∀ (n : Nat) (a : Addr), n < L.length → L'[n]? = some (some a) → L[n]? = some (some a)
  new : ∀ (n : Nat) (a : Addr), L.length ≤ n → L'[n]? = some (some a) → H a = none
  stay : ∀ (n : Nat) (a : Addr), L[n]? = some (some a) → L'[n]? = some (some a) ∨ (n0 ≤ n ∧ L'[n]? = some none)
theorem Go.gs {n0 : Nat} {L L' : Ls} {H H' : Hp} (g : Go L H L' H') : Gs n0 L H L' H' := ⟨g.gr, g.keep, g.len, g.old, g.new, fun n a e => .inl (g.stay n a e)⟩
theorem Gs.refl {n0 : Nat} (L : Ls) (H : Hp) : Gs n0 L H L H := (Go.refl L H).gs
theorem Gs.go {n0 : Nat} {L L' : Ls} {H H' : Hp} (g : Gs n0 L H L' H') (l : L.length ≤ n0) : Go L H L' H' := ⟨g.gr, g.keep, g.len, g.old, g.new, fun n a e => (g.stay n a e).elim id fun ⟨h, _⟩ => absurd (List.getElem?_eq_some_iff.mp e).1 (by omega)⟩
theorem Gs.notin {n0 : Nat} {L L' : Ls} {H H' : Hp} (g : Gs n0 L H L' H') {p : Addr} (n : some p ∉ L) (h : H p ≠ none) : some p ∉ L' := fun m => by
  obtain ⟨i, hi, e⟩ := List.getElem_of_mem m
  have e1 : L'[i]? = some (some p) := by rw [List.getElem?_eq_getElem hi, e]
  by_cases q : i < L.length
  · exact n (List.mem_of_getElem? (g.old i p q e1))
  · exact h (g.new i p (by omega) e1)
theorem Gs.gone {n0 : Nat} {L L' : Ls} {H H' : Hp} {n : Nat} (g : Gs n0 L H L' H') (e : L[n]? = some none) : L'[n]? = some none := by
  have l := (List.getElem?_eq_some_iff.mp e).1
  have l2 : n < L'.length := Nat.lt_of_lt_of_le l g.len
  cases q : L'[n] with
  | none => rw [List.getElem?_eq_getElem l2, q]
  | some a =>
    have e2 : L'[n]? = some (some a) := by rw [List.getElem?_eq_getElem l2, q]
    have := g.old n a l e2
    rw [e] at this
    cases this
theorem Gs.trans {n0 : Nat} {L L' L'' : Ls} {H H' H'' : Hp} (a : Gs n0 L H L' H') (b : Gs n0 L' H' L'' H'') : Gs n0 L H L'' H'' where
  gr := fun p u n h => b.gr p u (a.notin n (by rw [h]; exact fun z => nomatch z)) (a.gr p u n h)
  keep := fun p h => b.keep p (a.keep p h)
  len := Nat.le_trans a.len b.len
  old := fun n x l e => a.old n x l (b.old n x (Nat.lt_of_lt_of_le l a.len) e)
  new := fun n x l e => by
    by_cases q : n < L'.length
    · exact a.new n x l (b.old n x q e)
    · have := b.new n x (by omega) e
      cases z : H x with
      | none => rfl
      | some u => exact absurd this (a.keep x (by rw [z]; exact fun z => nomatch z))
  stay := fun n x e => by
    rcases a.stay n x e with h | ⟨l, h⟩
    · exact b.stay n x h
    · exact .inr ⟨l, b.gone h⟩
/-- the cell stands -/
def alive (st : Stt) (n : Nat) : Bool := match st[n]? with | some .gone => false | none => false | _ => true
section
variable {c : Cf} {n0 : Nat} {L L' : Ls} {F : List Addr} {H H' : Hp} {st st' : Stt}
theorem Gs.mv (g : Gs n0 L H L' H') (r : Rl c L' F st' H') : Mv (alive st') L F H L' F H' where
  fr := fun a u n h => ⟨fun b => b.elim (fun m => n (.inl m)) (g.notin (fun m => n (.inr m)) (by rw [h]; exact fun z => nomatch z)), g.gr a u (fun m => n (.inr m)) h⟩
  rf := fun n a p h => by
    rcases g.stay n a h with e | ⟨_, e⟩
    · exact e
    · have := r.gone n e
      unfold alive at p
      rw [this] at p
      cases p
end
structure EN where
  nx : En → Stt → Prop
  rt : T → Stt → Prop
  bk : En → Stt → Prop := fun _ _ => False
  ct : En → Stt → Prop := fun _ _ => False
/-- what a block does: how many cells were there at the def's entry, what is wanted, names, cells -/
abbrev WS := Nat → EN → En → Stt → Prop
structure KS (c : Cf) (n0 : Nat) (L : Ls) (F : List Addr) (H : Hp) (D : Ends) (E : EN) : Prop where
  nx : ∀ σ' env' st' H' L', Gs n0 L H L' H' → Rl c L' F st' H' → Se c L' F H' σ' env' → E.nx env' st' → D.nx σ' H'
  rt : ∀ v t st' H' L', Gs n0 L H L' H' → Rl c L' F st' H' → Ta c L' F H' v t → E.rt t st' → D.rt v H'
  bk : ∀ σ' env' st' H' L', Gs n0 L H L' H' → Rl c L' F st' H' → Se c L' F H' σ' env' → E.bk env' st' → D.bk σ' H'
  ct : ∀ σ' env' st' H' L', Gs n0 L H L' H' → Rl c L' F st' H' → Se c L' F H' σ' env' → E.ct env' st' → D.ct σ' H'
def SoS (c : Cf) (ts : TS) (w : WS) : Prop := ∀ (n0 : Nat) (L : Ls) (F : List Addr) (env : En) (st : Stt) (σ : L2.St) (H : Hp) (D : Ends) (E : EN),
  Rl c L F st H → Se c L F H σ env → w n0 E env st → KS c n0 L F H D E → ts D σ H
structure SX (c : Cf) where
  ts : TS
  w : WS
  ok : SoS c ts w
section
variable {c : Cf} {n0 : Nat} {L L' : Ls} {F : List Addr} {H H' : Hp} {D : Ends} {E : EN}
theorem KS.go (k : KS c n0 L F H D E) (g : Gs n0 L H L' H') : KS c n0 L' F H' D E :=
  ⟨fun σ' env' st' H'' L'' g' => k.nx σ' env' st' H'' L'' (g.trans g'), fun σ' env' st' H'' L'' g' => k.rt σ' env' st' H'' L'' (g.trans g'),
    fun σ' env' st' H'' L'' g' => k.bk σ' env' st' H'' L'' (g.trans g'), fun σ' env' st' H'' L'' g' => k.ct σ' env' st' H'' L'' (g.trans g')⟩
end
section
variable {c : Cf}
def sNx : SX c where
  ts := tNext
  w _ E env st := E.nx env st
  ok n0 L F env st σ H D E r s h k := k.nx σ env st H L (Gs.refl _ _) r s h
def sSeq (a b : SX c) : SX c where
  ts := tSeq a.ts b.ts
  w n0 E env st := a.w n0 { E with nx := fun env' st' => b.w n0 E env' st' } env st
  ok n0 L F env st σ H D E r s h k := a.ok n0 L F env st σ H { D with nx := b.ts D } _ r s h
    ⟨fun σ' env' st' H' L' g r' s' h' => b.ok n0 L' F env' st' σ' H' D E r' s' h' (k.go g), k.rt, k.bk, k.ct⟩
def sNever : SX c where
  ts := tNever
  w _ _ _ _ := False
  ok n0 L F env st σ H D E r s h k := h.elim
def sBrk : SX c where
  ts := tBreak
  w _ E env st := E.bk env st
  ok n0 L F env st σ H D E r s h k := k.bk σ env st H L (Gs.refl _ _) r s h
def sCnt : SX c where
  ts := tCont
  w _ E env st := E.ct env st
  ok n0 L F env st σ H D E r s h k := k.ct σ env st H L (Gs.refl _ _) r s h
def sDrop (e : EX c) : SX c where
  ts := tDrop e.te
  w _ E env st := e.w env st fun _ st1 => E.nx env st1
  ok n0 L F env st σ H D E r s h k := e.ok L F env st σ H _ _ r s h fun v t st1 H1 L1 g1 r1 a1 h1 => k.nx σ env st1 H1 L1 g1.gs r1 (s.go g1) h1
def sRet (e : EX c) : SX c where
  ts := tRet e.te
  w _ E env st := e.w env st E.rt
  ok n0 L F env st σ H D E r s h k := e.ok L F env st σ H _ _ r s h fun v t st1 H1 L1 g1 r1 a1 h1 => k.rt v t st1 H1 L1 g1.gs r1 a1 h1
def sRetN : SX c where
  ts := tRetN
  w _ E env st := E.rt .non st
  ok n0 L F env st σ H D E r s h k := k.rt .non .non st H L (Gs.refl _ _) r .non h
def sIf (t : TX c) (a b : SX c) : SX c where
  ts := tIfS t.tt a.ts b.ts
  w n0 E env st := t.w env st fun x st1 => if x = true then a.w n0 E env st1 else b.w n0 E env st1
  ok n0 L F env st σ H D E r s h k := t.ok L F env st σ H _ _ r s h fun x st1 H1 L1 g1 r1 h1 => by
    cases x with
    | true => exact iteT (a.ok n0 L1 F env st1 σ H1 D E r1 (s.go g1) h1 (k.go g1.gs))
    | false => exact iteF (b.ok n0 L1 F env st1 σ H1 D E r1 (s.go g1) h1 (k.go g1.gs))
/-! targets that are names, or tuples of such -/
def wipeE (env : En) : List Nat → En
  | [] => env
  | v :: vs => (wipeE env vs).set v none
theorem Se.wipe {L : Ls} {F : List Addr} {H : Hp} {σ : L2.St} {env : En} (s : Se c L F H σ env) : ∀ vs : List Nat, Se c L F H (L2.wipe σ vs) (wipeE env vs)
  | [] => s
  | v :: vs => (s.wipe vs).setN
structure GX (c : Cf) where
  g : TG
  vs : List Nat
  w : T → En → (En → Prop) → Prop
  ok : ∀ (L : Ls) (F : List Addr) (st : Stt) (H : Hp) (σ : L2.St) (env : En) (v : V) (t : T) (Qc : L2.St → Hp → Prop) (Q : En → Prop), Rl c L F st H → Se c L F H σ env → Ta c L F H v t → w t env Q →
    (∀ σ' env', Se c L F H σ' env' → L2.wipe σ' vs = L2.wipe σ vs → Q env' → Qc σ' H) → g v σ H Qc
theorem wipe_get : ∀ (vs : List Nat) (σ : L2.St) (j : Nat), (L2.wipe σ vs)[j]? = if j ∈ vs then (σ[j]?).map fun _ => none else σ[j]?
  | [], σ, j => by simp [L2.wipe]
  | v :: vs, σ, j => by
    show ((L2.wipe σ vs).set v none)[j]? = _
    rw [List.getElem?_set]
    by_cases e : v = j
    · subst e
      have ih := wipe_get vs σ v
      simp only [if_pos, List.mem_cons, true_or]
      have ll : (L2.wipe σ vs).length = σ.length := by
        clear ih
        induction vs with
        | nil => rfl
        | cons u us ih => show ((L2.wipe σ us).set u none).length = _; rw [List.length_set, ih]
      rw [ll]
      by_cases h : v < σ.length
      · rw [if_pos h, List.getElem?_eq_getElem h]; rfl
      · rw [if_neg h, List.getElem?_eq_none (by omega)]; rfl
    · rw [if_neg e, wipe_get vs σ j]
      have : (j ∈ v :: vs) ↔ j ∈ vs := by simp [Ne.symm e]
      simp only [this]
theorem wipe_set {vs : List Nat} {σ : L2.St} {i : Nat} {o : Option V} (m : i ∈ vs) : L2.wipe (σ.set i o) vs = L2.wipe σ vs := by
  apply List.ext_getElem?
  intro j
  rw [wipe_get, wipe_get]
  by_cases h : j ∈ vs
  · rw [if_pos h, if_pos h, List.getElem?_set]
    by_cases e : i = j
    · subst e
      by_cases l : i < σ.length
      · simp [l]
      · simp [l]
    · simp [e]
  · rw [if_neg h, if_neg h, List.getElem?_set_ne (fun z : i = j => h (by rw [← z]; exact m))]
theorem wipe_wipe {vs : List Nat} {σ : L2.St} : L2.wipe (L2.wipe σ vs) vs = L2.wipe σ vs := by
  apply List.ext_getElem?
  intro j
  rw [wipe_get, wipe_get]
  by_cases h : j ∈ vs
  · rw [if_pos h, if_pos h]
    cases σ[j]? <;> rfl
  · rw [if_neg h, if_neg h]
def gN (i : Nat) : GX c where
  g := gName i
  vs := [i]
  w t env Q := Q (env.set i (some t))
  ok L F st H σ env v t Qc Q r s a h k := k _ _ (s.set a) (wipe_set (by simp)) h
/-- several names -/
structure GXs (c : Cf) where
  g : TGs
  vs : List Nat
  w : List T → En → (En → Prop) → Prop
  ok : ∀ (L : Ls) (F : List Addr) (st : Stt) (H : Hp) (σ : L2.St) (env : En) (us : List V) (ts : List T) (Qc : L2.St → Hp → Prop) (Q : En → Prop), Rl c L F st H → Se c L F H σ env → Tas c L F H us ts → w ts env Q →
    (∀ σ' env', Se c L F H σ' env' → L2.wipe σ' vs = L2.wipe σ vs → Q env' → Qc σ' H) → g us σ H Qc
def gsN : GXs c where
  g := gNil
  vs := []
  w ts env Q := ts = [] ∧ Q env
  ok L F st H σ env us ts Qc Q r s a h k := by
    obtain ⟨rfl, h⟩ := h
    cases a
    exact ⟨rfl, k σ env s rfl h⟩
theorem wipe_app {vs ws : List Nat} {σ σ' : L2.St} (h : L2.wipe σ vs = L2.wipe σ' vs) (hs : ∀ v ∈ vs, v ∈ ws) : L2.wipe σ ws = L2.wipe σ' ws := by
  apply List.ext_getElem?
  intro j
  have e : (L2.wipe σ vs)[j]? = (L2.wipe σ' vs)[j]? := by rw [h]
  rw [wipe_get, wipe_get] at e
  rw [wipe_get, wipe_get]
  by_cases m : j ∈ vs
  · rw [if_pos m, if_pos m] at e
    rw [if_pos (hs j m), if_pos (hs j m), e]
  · rw [if_neg m, if_neg m] at e
    rw [e]
def gsC (x : GX c) (xs : GXs c) : GXs c where
  g := gCons x.g xs.g
  vs := x.vs ++ xs.vs
  w ts env Q := match ts with | t :: r => x.w t env fun env' => xs.w r env' Q | [] => False
  ok L F st H σ env us ts Qc Q r s a h k := by
    cases a with
    | nil => exact h.elim
    | cons a1 a2 =>
      refine ⟨_, _, rfl, x.ok L F st H σ env _ _ _ _ r s a1 h fun σ1 env1 s1 w1 h1 => ?_⟩
      refine xs.ok L F st H σ1 env1 _ _ _ _ r s1 a2 h1 fun σ2 env2 s2 w2 h2 => k σ2 env2 s2 ?_ h2
      exact (wipe_app w2 fun v m => List.mem_append_right _ m).trans (wipe_app w1 fun v m => List.mem_append_left _ m)
def gT (n : Nat) (xs : GXs c) : GX c where
  g := gTup c.K n xs.g
  vs := xs.vs
  w t env Q := match t with | .tup ts => ts.length = n ∧ xs.w ts env Q | _ => False
  ok L F st H σ env v t Qc Q r s a h k := by
    cases a with
    | tup nb hp as z => exact ⟨_, _, rfl, .inl (.inl hp), by rw [as.length]; exact h.1, xs.ok L F st H σ env _ _ _ _ r s as h.2 k⟩
    | _ => exact h.elim
def sAsg (e : EX c) (x : GX c) : SX c where
  ts := tAsg e.te x.g
  w _ E env st := e.w env st fun t st1 => x.w t env fun env' => E.nx env' st1
  ok n0 L F env st σ H D E r s h k := e.ok L F env st σ H _ _ r s h fun v t st1 H1 L1 g1 r1 a1 h1 =>
    x.ok L1 F st1 H1 σ env v t _ _ r1 (s.go g1) a1 h1 fun σ2 env2 s2 _ h2 => k.nx σ2 env2 st1 H1 L1 g1.gs r1 s2 h2
def sPar (i j : Nat) (a : AX c) : SX c where
  ts := tPar i j a.ta
  w _ E env st := a.w env st fun ts st1 => match ts with | [x, y] => E.nx ((env.set i (some x)).set j (some y)) st1 | _ => False
  ok n0 L F env st σ H D E r s h k := a.ok L F env st σ H _ _ r s h fun vs ts st1 H1 L1 g1 r1 a1 h1 => by
    match vs, ts, a1, h1 with
    | _, [], _, h1 => exact h1.elim
    | _, [_], _, h1 => exact h1.elim
    | _, [x, y], .cons b1 (.cons b2 .nil), h1 => exact ⟨_, _, rfl, k.nx _ _ st1 H1 L1 g1.gs r1 (((s.go g1).set b1).set b2) h1⟩
    | _, _ :: _ :: _ :: _, _, h1 => exact h1.elim
/-! while -/
def whW (t : WT) (b : WS) (n0 : Nat) (E : EN) : Nat → En → Stt → Prop
  | 0, _, _ => False
  | k + 1, env, st => t env st fun x st1 => if x = true then b n0 { nx := whW t b n0 E k, ct := whW t b n0 E k, bk := E.nx, rt := E.rt } env st1 else E.nx env st1
def sWh (t : TX c) (b : SX c) : SX c where
  ts := tWhile t.tt b.ts
  w n0 E env st := ∃ k, whW t.w b.w n0 E k env st
  ok n0 L F env st σ H D E r s h k := by
    obtain ⟨m, h⟩ := h
    refine ⟨fun m σ' H' => ∃ L' env' st', Gs n0 L H L' H' ∧ Rl c L' F st' H' ∧ Se c L' F H' σ' env' ∧ whW t.w b.w n0 E m env' st', ⟨m, L, env, st, Gs.refl _ _, r, s, h⟩, ?_⟩
    rintro m σ1 H1 ⟨L1, env1, st1, g1, r1, s1, h1⟩
    cases m with
    | zero => exact h1.elim
    | succ m =>
      refine t.ok L1 F env1 st1 σ1 H1 _ _ r1 s1 h1 fun x st2 H2 L2 g2 r2 h2 => ?_
      cases x with
      | false => exact iteF (k.nx σ1 env1 st2 H2 L2 (g1.trans g2.gs) r2 (s1.go g2) h2)
      | true =>
        refine iteT ⟨fun σ' H' => ∃ L' env' st', Gs n0 L H L' H' ∧ Rl c L' F st' H' ∧ Se c L' F H' σ' env' ∧ whW t.w b.w n0 E m env' st', fun σ' H' h => ⟨m, Nat.lt_succ_self _, h⟩, ?_⟩
        have g12 := g1.trans (g2.gs (n0 := n0))
        exact b.ok n0 L2 F env1 st2 σ1 H2 _ _ r2 (s1.go g2) h2 ⟨fun σ' env' st' H' L' g r' s' h' => ⟨L', env', st', g12.trans g, r', s', h'⟩, fun v t st' H' L' g r' a' h' => k.rt v t st' H' L' (g12.trans g) r' a' h',
          fun σ' env' st' H' L' g r' s' h' => k.nx σ' env' st' H' L' (g12.trans g) r' s' h', fun σ' env' st' H' L' g r' s' h' => ⟨L', env', st', g12.trans g, r', s', h'⟩⟩
/-! what is walked -/
/-- what is told at one state is so at a later one -/
structure Gj (L : Ls) (F : List Addr) (H : Hp) (L' : Ls) (F' : List Addr) (H' : Hp) : Prop where
  fr : ∀ a u, ¬ Bar L F a → H a = some u → ¬ Bar L' F' a ∧ H' a = some u
  st : ∀ (n : Nat) (a : Addr), L[n]? = some (some a) → L'[n]? = some (some a) ∨ L'[n]? = some none
theorem Gs.gj {n0 : Nat} {L L' : Ls} {F F' : List Addr} {H H' : Hp} (g : Gs n0 L H L' H') (f : ∀ p ∈ F', p ∈ F ∨ H p = none) : Gj L F H L' F' H' :=
  ⟨fun a u n h => ⟨fun b => b.elim (fun m => (f a m).elim (fun m => n (.inl m)) fun e => by rw [h] at e; cases e) (g.notin (fun m => n (.inr m)) (by rw [h]; exact fun z => nomatch z)), g.gr a u (fun m => n (.inr m)) h⟩, fun n a e => (g.stay n a e).imp id (·.2)⟩
/-- the iterator gives these, as long as the cells are as pin says -/
def JOk (c : Cf) (L : Ls) (F : List Addr) (H : Hp) (J : It) (ts : List T) (pin : Stt → Prop) : Prop :=
  ∀ (L2 : Ls) (F2 : List Addr) (st2 : Stt) (H2 : Hp) (i : Nat), Gj L F H L2 F2 H2 → Rl c L2 F2 st2 H2 → pin st2 → (i < ts.length → J.go i H2) ∧ (ts.length ≤ i → J.stop i H2) ∧
    ∀ x H3, i < ts.length → J.yld i H2 x H3 → Go L2 H2 L2 H3 ∧ Rl c L2 F2 st2 H3 ∧ ∃ t, ts[i]? = some t ∧ ∀ p : Nat → Bool, (∀ (n : Nat) (a : Addr), p n = true → L[n]? = some (some a) → L2[n]? = some (some a)) → t.refsIn p = true → Ta c L2 F2 H3 x t
abbrev WI := En → Stt → (List T → (Stt → Prop) → Stt → Prop) → Prop
structure IX (c : Cf) where
  wi : TI
  w : WI
  ok : ∀ (L : Ls) (F : List Addr) (env : En) (st : Stt) (σ : L2.St) (H : Hp) (R : It → Hp → Prop) (Q : List T → (Stt → Prop) → Stt → Prop), Rl c L F st H → Se c L F H σ env → w env st Q →
    (∀ J ts pin st' H' L', Go L H L' H' → Rl c L' F st' H' → ts.length ≤ big → Q ts pin st' → JOk c L' F H' J ts pin → R J H') → wi σ H R
def forW (x : T → En → (En → Prop) → Prop) (b : WS) (n0 : Nat) (E : EN) (pin : Stt → Prop) : List T → En → Stt → Prop
  | [], env, st => pin st ∧ E.nx env st
  | t :: ts, env, st => pin st ∧ t.refsIn (alive st) = true ∧ x t env fun env' => b n0 { nx := forW x b n0 E pin ts, ct := forW x b n0 E pin ts, bk := E.nx, rt := E.rt } env' st
def sFor (i : IX c) (x : GX c) (b : SX c) : SX c where
  ts := tFor i.wi x.g b.ts
  w n0 E env st := i.w env st fun ts pin st1 => forW x.w b.w n0 E pin ts env st1
  ok n0 L F env st σ H D E r s h k := by
    refine i.ok L F env st σ H _ _ r s h fun J ts pin st1 H1 L1 g1 r1 _ h1 j1 => ?_
    refine ⟨fun i m σ' H' => m = ts.length - i ∧ i ≤ ts.length ∧ ∃ L' env' st', Gs n0 L1 H1 L' H' ∧ Rl c L' F st' H' ∧ Se c L' F H' σ' env' ∧ forW x.w b.w n0 E pin (ts.drop i) env' st',
      ⟨ts.length, by simp, Nat.zero_le _, L1, env, st1, Gs.refl _ _, r1, s.go g1, h1⟩, ?_⟩
    rintro i m σ2 H2 ⟨rfl, hi, L2, env2, st2, g2, r2, s2, h2⟩
    have g12 := (g1.gs (n0 := n0)).trans g2
    by_cases lt : i < ts.length
    · rw [List.drop_eq_getElem_cons lt] at h2
      obtain ⟨pn, al, h2⟩ := h2
      obtain ⟨q1, q2, q3⟩ := j1 L2 F st2 H2 i (g2.gj fun _ m => .inl m) r2 pn
      refine .inr ⟨q1 lt, fun σ' H' => i + 1 ≤ ts.length ∧ ∃ L' env' st', Gs n0 L1 H1 L' H' ∧ Rl c L' F st' H' ∧ Se c L' F H' σ' env' ∧ forW x.w b.w n0 E pin (ts.drop (i + 1)) env' st', fun σ' H' ⟨a1, a2⟩ => ⟨ts.length - (i + 1), by omega, rfl, a1, a2⟩, fun v H3 y => ?_⟩
      obtain ⟨g3, r3, t, et, at3⟩ := q3 v H3 lt y
      have et' : t = ts[i] := by rw [List.getElem?_eq_getElem lt] at et; exact (Option.some.inj et).symm
      subst et'
      refine x.ok L2 F st2 H3 σ2 env2 v _ _ _ r3 (s2.go g3) (at3 _ (fun n a p e => (g2.mv (F := F) r2).rf n a p e) al) h2 fun σ4 env4 s4 _ h4 => ?_
      have g23 := g2.trans (g3.gs (n0 := n0))
      exact b.ok n0 L2 F env4 st2 σ4 H3 _ _ r3 s4 h4 ⟨fun σ' env' st' H' L' g r' s' h' => ⟨lt, L', env', st', g23.trans g, r', s', h'⟩, fun v t st' H' L' g r' a' h' => k.rt v t st' H' L' ((g1.gs.trans g23).trans g) r' a' h',
          fun σ' env' st' H' L' g r' s' h' => k.nx σ' env' st' H' L' ((g1.gs.trans g23).trans g) r' s' h', fun σ' env' st' H' L' g r' s' h' => ⟨lt, L', env', st', g23.trans g, r', s', h'⟩⟩
    · have ei : i = ts.length := by omega
      subst ei
      rw [List.drop_length] at h2
      obtain ⟨pn, h2⟩ := h2
      obtain ⟨q1, q2, q3⟩ := j1 L2 F st2 H2 ts.length (g2.gj fun _ m => .inl m) r2 pn
      exact .inl ⟨q2 (Nat.le_refl _), k.nx σ2 env2 st2 H2 L2 g12 r2 s2 h2⟩
end
end Vw

/-! comprehensions; what walks; calls of defs; cells let go -/
namespace Vw
open PySem PySem.Spec PyProof.Rows L2 Gd
section
variable {c : Cf} {L L' : Ls} {F : List Addr} {H H' : Hp} {st : Stt} {σ : L2.St} {env : En}
/-! one address more that is barred -/
theorem Mv.bar {a : Addr} {o : HO} (h : H a = none) : Mv (fun _ => true) L F H L (a :: F) (upd H a o) where
  fr := fun b u n e => ⟨fun z => z.elim (fun m => (List.mem_cons.mp m).elim (ne_of_none e h) fun m => n (.inl m)) fun m => n (.inr m), by rw [upd_ne (ne_of_none e h)]; exact e⟩
  rf := fun _ _ _ e => e
theorem Rl.bar (r : Rl c L F st H) {a : Addr} {o : HO} (h : H a = none) (ho : ∀ vs, o ≠ .tup vs := by intro _ z; cases z) : Rl c L (a :: F) st (upd H a o) where
  len := r.len
  cell := fun n b x e1 e2 => by
    have q := r.cell n b x e1 e2
    exact q.mv (p := fun _ => true) (Mv.bar h) x.refs_all (upd_ne fun z => q.tr (by rw [z]; exact h))
  low := r.low
  gone := r.gone
  nodup := r.nodup
  trF := fun p m => by
    rcases List.mem_cons.mp m with rfl | m
    · rw [upd_same]; exact Br.of ho
    · exact (r.trF p m).lay h
  dis := fun p m => by
    rcases List.mem_cons.mp m with rfl | m
    · exact fun z => r.trL z h
    · exact r.dis p m
theorem Se.bar (s : Se c L F H σ env) {a : Addr} {o : HO} (h : H a = none) : Se c L (a :: F) (upd H a o) σ env := ⟨s.len, fun i t e => let ⟨v, h1, h2⟩ := s.at_ i t e; ⟨v, h1, h2.mv (Mv.bar h) (T.refs_all t)⟩⟩
theorem Mv.unbar {a : Addr} : Mv (fun _ => true) L (a :: F) H L F H := ⟨fun b u n e => ⟨fun z => n (z.imp (fun m => List.mem_cons_of_mem _ m) id), e⟩, fun _ _ _ e => e⟩
theorem Rl.unbar {a : Addr} (r : Rl c L (a :: F) st H) : Rl c L F st H := ⟨r.len, fun n b x e1 e2 => (r.cell n b x e1 e2).mv (p := fun _ => true) Mv.unbar x.refs_all rfl, r.low, r.gone, r.nodup, fun p m => r.trF p (List.mem_cons_of_mem _ m), fun p m => r.dis p (List.mem_cons_of_mem _ m)⟩
/-- the barred object is written -/
theorem Mv.atF {a : Addr} {o : HO} (m : a ∈ F) : Mv (fun _ => true) L F H L F (upd H a o) :=
  ⟨fun b u n e => ⟨n, by rw [upd_ne (fun z : b = a => n (.inl (by rw [z]; exact m)))]; exact e⟩, fun _ _ _ e => e⟩
theorem Rl.atF (r : Rl c L F st H) {a : Addr} {o : HO} (m : a ∈ F) (ho : ∀ vs, o ≠ .tup vs := by intro _ z; cases z) : Rl c L F st (upd H a o) := by
  have na : some a ∉ L := r.dis a m
  refine ⟨r.len, fun n b x e1 e2 => ?_, r.low, r.gone, r.nodup, fun p q => ?_, r.dis⟩
  · exact (r.cell n b x e1 e2).mv (p := fun _ => true) (Mv.atF m) x.refs_all (upd_ne fun z => na (by rw [← z]; exact List.mem_of_getElem? e1))
  · by_cases h : p = a
    · rw [h, upd_same]; exact Br.of ho
    · rw [upd_ne h]; exact r.trF p q
end
/-! [e for x in src if t] -/
def lcW (x : T → En → (En → Prop) → Prop) (t : WT) (e : WE) (env : En) (pin : Stt → Prop) : List T → List T → Stt → (List T → Stt → Prop) → Prop
  | [], out, st, K => pin st ∧ K out st
  | a :: as, out, st, K => pin st ∧ x a env fun env' => t env' st fun b st1 => if b = true then e env' st1 fun y st2 => lcW x t e env pin as (out ++ [y]) st2 K else lcW x t e env pin as out st1 K
section
variable {c : Cf}
/-- the heap seen from where the barred object is not yet -/
structure Gb (a : Addr) (L : Ls) (H : Hp) (L' : Ls) (H' : Hp) : Prop where
  gr : ∀ p u, p ≠ a → some p ∉ L → H p = some u → H' p = some u
  keep : ∀ p, H p ≠ none → H' p ≠ none
  len : L.length ≤ L'.length
  old : ∀ (n : Nat) (a : Addr), n < L.length → L'[n]? = some (some a) → L[n]? = some (some a)
  new : ∀ (n : Nat) (b : Addr), L.length ≤ n → L'[n]? = some (some b) → H b = none ∧ b ≠ a
  stay : ∀ (n : Nat) (a : Addr), L[n]? = some (some a) → L'[n]? = some (some a)
theorem Gb.go {a : Addr} {L L' : Ls} {H H' : Hp} (h : H a = none) (g : Gb a L H L' H') : Go L H L' H' :=
  ⟨fun p u n e => g.gr p u (ne_of_none e h) n e, g.keep, g.len, g.old, fun n b l e => (g.new n b l e).1, g.stay⟩
theorem Gb.first {a : Addr} {o : HO} {L : Ls} {H : Hp} (h : H a = none) : Gb a L H L (upd H a o) :=
  ⟨fun p u n _ e => by rw [upd_ne n]; exact e, (Go.lay (L := L) h).keep, Nat.le_refl _, fun _ _ _ e => e, fun n b l e => absurd (List.getElem?_eq_some_iff.mp e).1 (by omega), fun _ _ e => e⟩
theorem Gb.on {a : Addr} {L L' L'' : Ls} {H H' H'' : Hp} (b : Gb a L H L' H') (ha : H' a ≠ none) (g : Go L' H' L'' H'') (h : H a = none) : Gb a L H L'' H'' := by
  have g2 := (b.go h).trans g
  refine ⟨fun p u n m e => g2.gr p u m e, g2.keep, g2.len, g2.old, fun n x l e => ⟨g2.new n x l e, fun z => ?_⟩, g2.stay⟩
  subst z
  by_cases q : n < L'.length
  · exact (b.new n x l (g.old n x q e)).2 rfl
  · exact ha (g.new n x (by omega) e)
theorem Gb.at_ {a : Addr} {o : HO} {L L' : Ls} {H H' : Hp} (b : Gb a L H L' H') : Gb a L H L' (upd H' a o) :=
  ⟨fun p u n m e => by rw [upd_ne n]; exact b.gr p u n m e, fun p e => by
    by_cases q : p = a
    · rw [q, upd_same]; exact fun z => nomatch z
    · rw [upd_ne q]; exact b.keep p e, b.len, b.old, b.new, b.stay⟩
def eLc (i : IX c) (x : GX c) (t : TX c) (e : EX c) : EX c where
  te := tLc i.wi x.g t.tt e.te x.vs
  w env st Q := i.w env st fun ts pin st1 => lcW x.w t.w e.w (wipeE env x.vs) pin ts [] st1 fun out st2 => Q (.lst out) st2
  ok L F env st σ H Qc Q r s h k := by
    refine i.ok L F env st σ H _ _ r s h fun J ts pin st1 H1 L1 g1 r1 zt h1 j1 => ?_
    intro A nA
    have big' : big < sizeLine := by decide
    refine ⟨fun k m H2 => m = ts.length - k ∧ k ≤ ts.length ∧ ∃ M2 st2 acc out, Gb A L1 H1 M2 H2 ∧ Rl c M2 (A :: F) st2 H2 ∧ H2 A = some (.lst acc) ∧ Tas c M2 (A :: F) H2 acc out ∧ out.length ≤ k ∧
      lcW x.w t.w e.w (wipeE env x.vs) pin (ts.drop k) out st2 (fun out st2 => Q (.lst out) st2),
      ⟨ts.length, by simp, Nat.zero_le _, L1, st1, [], [], Gb.first nA, r1.bar nA, upd_same, .nil, Nat.le_refl _, h1⟩, ?_⟩
    rintro i m H2 ⟨rfl, hi, M2, st2, acc, out, g2, r2, e2, a2, z2, h2⟩
    have go2 := g2.go nA
    have s2 : Se c M2 (A :: F) H2 σ env := by
      refine ⟨s.len, fun j u e => ?_⟩
      obtain ⟨v, q1, q2⟩ := s.at_ j u e
      refine ⟨v, q1, (q2.go g1).mv (p := fun _ => true) ⟨fun b u n e => ⟨fun z => ?_, go2.gr b u (fun m => n (.inr m)) e⟩, fun n a _ e => go2.stay n a e⟩ (T.refs_all _)⟩
      rcases z with z | z
      · rcases List.mem_cons.mp z with z | z
        · exact ne_of_none e nA z
        · exact n (.inl z)
      · exact go2.notin (fun m => n (.inr m)) (by rw [e]; exact fun z => nomatch z) z
    by_cases lt : i < ts.length
    · rw [List.drop_eq_getElem_cons lt] at h2
      obtain ⟨pn, h2⟩ := h2
      have jj := j1 M2 (A :: F) st2 H2 i ((go2.gs (n0 := 0)).gj fun p m => (List.mem_cons.mp m).elim (fun z => .inr (z ▸ nA)) .inl) r2 pn
      obtain ⟨q1, q2, q3⟩ := jj
      refine .inr ⟨q1 lt, fun H' => i + 1 ≤ ts.length ∧ ∃ M2 st2 acc out, Gb A L1 H1 M2 H' ∧ Rl c M2 (A :: F) st2 H' ∧ H' A = some (.lst acc) ∧ Tas c M2 (A :: F) H' acc out ∧ out.length ≤ i + 1 ∧
        lcW x.w t.w e.w (wipeE env x.vs) pin (ts.drop (i + 1)) out st2 (fun out st2 => Q (.lst out) st2), fun H' ⟨a1, a2⟩ => ⟨ts.length - (i + 1), by omega, rfl, a1, a2⟩, fun v H3 y => ?_⟩
      obtain ⟨g3, r3, u, et, at3⟩ := q3 v H3 lt y
      have et' : u = ts[i] := by rw [List.getElem?_eq_getElem lt] at et; exact (Option.some.inj et).symm
      subst et'
      have eA : ∀ {L L' : Ls} {H H' : Hp} {w}, Go L H L' H' → Rl c L (A :: F) st2 H → H A = some w → H' A = some w := fun g r e => g.gr A _ (r.dis A List.mem_cons_self) e
      have e3 := g3.gr A _ (r2.dis A List.mem_cons_self) e2
      refine x.ok M2 (A :: F) st2 H3 (L2.wipe σ x.vs) (wipeE env x.vs) v _ _ _ r3 ((s2.go g3).wipe x.vs) (at3 (fun _ => true) (fun n a _ e => go2.stay n a e) (T.refs_all _)) h2 fun σ4 env4 s4 w4 h4 => ?_
      refine ⟨w4.trans wipe_wipe, ?_⟩
      refine t.ok M2 (A :: F) env4 st2 σ4 H3 _ _ r3 s4 h4 fun b st5 H5 L5 g5 r5 h5 => ?_
      have e5 := g5.gr A _ (r3.dis A List.mem_cons_self) e3
      have gb5 : Gb A L1 H1 L5 H5 := (g2.on (by rw [e2]; exact fun z => nomatch z) g3 nA).on (by rw [e3]; exact fun z => nomatch z) g5 nA
      cases b with
      | false => exact iteF ⟨lt, L5, st5, acc, out, gb5, r5, e5, (a2.go g3).go g5, Nat.le_succ_of_le z2, h5⟩
      | true =>
        refine iteT (e.ok L5 (A :: F) env4 st5 σ4 H5 _ _ r5 (s4.go g5) h5 fun v6 t6 st6 H6 L6 g6 r6 a6 h6 => ?_)
        have e6 := g6.gr A _ (r5.dis A List.mem_cons_self) e5
        have al6 : acc.length = out.length := a2.length
        refine ⟨acc, e6, by rw [al6]; omega, lt, L6, st6, acc ++ [v6], out ++ [t6], (gb5.on (by rw [e5]; exact fun z => nomatch z) g6 nA).at_, ?_, upd_same, ?_, by simp; omega, h6⟩
        · exact r6.atF List.mem_cons_self
        · exact (((a2.go g3).go g5).go g6 |>.app (.cons a6 .nil)).mv (Mv.atF List.mem_cons_self) (refsL_all _)
    · have ei : i = ts.length := by omega
      subst ei
      rw [List.drop_length] at h2
      obtain ⟨pn, h2⟩ := h2
      obtain ⟨q1, q2, q3⟩ := j1 M2 (A :: F) st2 H2 ts.length ((go2.gs (n0 := 0)).gj fun p m => (List.mem_cons.mp m).elim (fun z => .inr (z ▸ nA)) .inl) r2 pn
      refine .inl ⟨q2 (Nat.le_refl _), k _ (.lst out) st2 H2 M2 (g1.trans go2) r2.unbar (.lst ?_ e2 (a2.mv Mv.unbar (refsL_all _)) (by omega)) h2⟩
      exact fun z => z.elim (fun m => (r1.trF A m).1 nA) fun m => r2.dis A List.mem_cons_self m
end
end Vw

/-! isinstance, slices of tuples, texts asked, a list or a tuple walked; names, pairs, answers -/
namespace Gd
open PySem PySem.Spec PyProof.Rows L2
def tyN : PyData → String
  | .none => "NoneType"
  | .bool _ => "bool"
  | .int _ => "int"
  | .str _ => "str"
  | .list _ => "list"
  | .tuple _ => "tuple"
  | .dict _ => "dict"
theorem tyX_of {K : PySem.W.Frag} {F : List Addr} {H : Hp} {v : V} {d : PyData} (h : Da F H v d) : TyX K H v (.type (tyN d)) := by
  cases h with
  | non => exact .base .non
  | bl b => exact .base (.bl b)
  | int i => exact .base (.int i)
  | str x => exact .base (.str x)
  | lst _ h1 _ => exact .base (.lst h1)
  | tup _ h1 _ => exact .base (.tup h1)
  | dct _ h1 _ _ => exact .base (.dK h1)
section
variable {Hi : List Hp} {F : List Addr} {B : Bag} {ab : List Ab} {K : PySem.W.Frag} {te : TE} {d : PyData} {ds : List PyData} {φ : PyData → Prop}
/-- isinstance(x, T) -/
theorem ek_isi {n : String} {c : Bool} (h : Ek Hi F B ab te d) (k : kitB (tyN d) n = some c) : Ek Hi F B ab (tCB (rIsi K) (tCons te (tCons (tC (.ty n)) tNil))) (.bool c) := fun σ H Q s l q =>
  h σ H _ s l fun v d' H1 c1 s1 a1 p => by
    subst p
    exact ⟨v, .ty n, .type (tyN d'), .type n, c, rfl, .ty n, tyX_of a1, kit_ty k, q _ _ H1 c1 s1 (.bl c) rfl⟩
/-- isinstance(x, (T, U)) -/
theorem ek_isiT {n m : String} {c1 c2 : Bool} (h : Ek Hi F B ab te d) (k1 : kitB (tyN d) n = some c1) (k2 : kitB (tyN d) m = some c2) :
    Ek Hi F B ab (tCB (rIsiT K) (tCons te (tCons (tTup (tCons (tC (.ty n)) (tCons (tC (.ty m)) tNil))) tNil))) (.bool (c1 || c2)) := fun σ H Q s l q =>
  h σ H _ s l fun v d' H1 ch1 s1 a1 p => by
    subst p
    refine ⟨by show 2 ≤ sizeLine; decide, fun t ht => ?_⟩
    have g : Gr F H1 (upd H1 t (.tup [.ty n, .ty m])) := Gr.new ht
    have g0 : Gr [] H1 (upd H1 t (.tup [.ty n, .ty m])) := Gr.new ht
    refine ⟨v, t, [.ty n, .ty m], .type (tyN d'), [.type n, .type m], c1 || c2, rfl, upd_same, .cons (.ty n) (.cons (.ty m) .nil), tyX_of (a1.gr g), ?_, q _ _ _ (ch1.trans (ch_of g0)) (s1.same g0) (.bl _) rfl⟩
    refine kitAny_cons (kit_ty k1) (fun z => kitAny_cons (kit_ty k2) (fun z2 => ?_) fun z2 => ?_) fun z => ?_
    · subst z z2
      rfl
    · subst z z2
      rfl
    · subst z
      rfl
theorem isi_str (d : PyData) : kitB (tyN d) "str" = some (match d with | .str _ => true | _ => false) := by cases d <;> rfl
theorem isi_tup (d : PyData) : kitB (tyN d) "tuple" = some (match d with | .tuple _ => true | _ => false) := by cases d <;> rfl
theorem isi_bool (d : PyData) : kitB (tyN d) "bool" = some (match d with | .bool _ => true | _ => false) := by cases d <;> rfl
theorem isi_int (d : PyData) : kitB (tyN d) "int" = some (match d with | .int _ => true | .bool _ => true | _ => false) := by cases d <;> rfl
theorem isi_list (d : PyData) : kitB (tyN d) "list" = some (match d with | .list _ => true | _ => false) := by cases d <;> rfl
/-- t[lo:hi], not all of it -/
theorem ek_slT {tl th : TO} {lo hi : Option Int} (h : Ek Hi F B ab te (.tuple ds)) (h1 : Ep Hi F B ab tl lo) (h2 : Ep Hi F B ab th hi) (n : ¬ (HT.sIx ds.length 0 lo = 0 ∧ HT.sIx ds.length ds.length hi = ds.length)) :
    Ek Hi F B ab (tSl (rSlT K) te tl th) (.tuple (cutD ds lo hi)) := fun σ H Q s l q =>
  h σ H _ s l fun v d H1 c1 s1 a1 p1 => h1 σ H1 _ s1 (l.gr (Ch.wide c1 s)) fun H2 c2 s2 => h2 σ H2 _ s2 (l.gr (Ch.wide (c1.trans c2) s)) fun H3 c3 s3 => by
    subst p1
    have a3 := (a1.gr (Ch.wide c2 s1)).gr (Ch.wide c3 s2)
    have c := c1.trans (c2.trans c3)
    cases a3 with
    | @tup a xs _ nf hx kx =>
      refine ⟨a, xs, rfl, hx.seq, by rw [kx.length]; exact n, fun p hp => ?_⟩
      have g : Gr [] H3 (upd H3 p (.tup (cutV xs lo hi))) := Gr.new hp
      exact q _ (.tuple (cutD ds lo hi)) _ (c.trans (ch_of g)) (s3.same g) (.tup (s3.nF hp) upd_same ((kx.cut lo hi).gr (Gr.new hp))) rfl
/-- x.isascii() and the like -/
theorem ek_m0 {x : Str} {g : Str → Bool} (h : Ek Hi F B ab te (.str x)) : Ek Hi F B ab (tM0 (fun x xs H Q => ∃ a, x = .str a ∧ xs = [] ∧ True ∧ Q (.bl (g a)) H) te) (.bool (g x)) := fun σ H Q s l q =>
  h σ H _ s l fun v d H1 c1 s1 a1 e => by
    subst e
    cases a1
    exact ⟨⟨x, rfl⟩, x, rfl, rfl, trivial, q _ _ H1 c1 s1 (.bl _) rfl⟩
end
/-! a list or a tuple is walked -/
def iOr (wi wj : TI) : TI := fun σ H R => wi σ H R ∨ wj σ H R
theorem pi_or {X : Cx} {tg e : Expr} {wi wj : TI} (h : PI X tg e wi) (k : PI X tg e wj) : PI X tg e (iOr wi wj) := ⟨fun pins s σ H R I z => z.elim (h.run pins s σ H R I) (k.run pins s σ H R I)⟩
theorem pi_seq {X : Cx} {tg e : Expr} {te : TE} (h : PE X e te) : PI X tg e (iOr (iList X.K te) (iTup X.K te)) := pi_or (pi_list h) (pi_tup h)
section
variable {Hi : List Hp} {F : List Addr} {B : Bag} {ab : List Ab} {K : PySem.W.Frag} {te : TE}
def isSeq (d : PyData) (ds : List PyData) : Prop := d = .list ds ∨ d = .tuple ds
theorem src_seq {i : Nat} {d : PyData} {ds : List PyData} (e : ab[i]? = some (.dat d)) (h : isSeq d ds) (z : ds.length ≤ 100000) : Src Hi F B ab K (iOr (iList K (tVar i)) (iTup K (tVar i))) (· = ds) := fun σ H R s l q => by
  rcases h with rfl | rfl
  · exact .inl (src_list (K := K) (P := (· = ds)) ((ev_var e).imp fun d' ed => ⟨ds, ed, rfl, z⟩) σ H R s l q)
  · exact .inr (src_tup (K := K) (P := (· = ds)) ((ev_var e).imp fun d' ed => ⟨ds, ed, rfl, z⟩) σ H R s l q)
end
/-! names, pairs, answers -/
def abc : Str := "abcdefghijklmnopqrstuvwxyz"
def nameB : PyData → Bool
  | .str x => (decide ((1 : Int) ≤ x.length) && decide ((x.length : Int) ≤ 8)) && x.cps.toList.all fun c => decide (c ∈ abc.cps.toList)
  | _ => false
def pairB : PyData → Bool
  | .tuple [a, b] => nameB a && (nameB b && !PyData.eqv a b)
  | _ => false
def answerB : PyData → Bool
  | .tuple [a, b, .bool _] => pairB (.tuple [a, b])
  | _ => false
theorem ascii_tab : ∀ c : Fin 128, (Unicode.isAlpha c.val && !(Unicode.isUpper c.val || Unicode.isTitle c.val)) = decide (c.val ∈ abc.cps.toList) := by decide +kernel
theorem abc_tab : ∀ c ∈ abc.cps.toList, (decide (c < 128) && (Unicode.isAlpha c && (Unicode.isLower c && !(Unicode.isUpper c || Unicode.isTitle c)))) = true := by decide +kernel
theorem text_abc {x : Str} (z : 1 ≤ x.length) : (Txt.isascii x && (Txt.isalpha x && Txt.islower x)) = x.cps.toList.all fun c => decide (c ∈ abc.cps.toList) := by
  have zl : 0 < x.cps.toList.length := by
    have e : x.cps.toList.length = x.length := by simp [Str.length]
    omega
  obtain ⟨c0, m0⟩ := List.exists_mem_of_length_pos zl
  rw [Bool.eq_iff_iff]
  simp only [Txt.isascii, Txt.isalpha, Txt.islower, ← Array.all_toList, ← Array.any_toList, Bool.and_eq_true, Bool.not_eq_true', List.all_eq_true, List.any_eq_true, List.any_eq_false, decide_eq_true_eq, gt_iff_lt, Bool.not_eq_true]
  constructor
  · rintro ⟨h1, ⟨_, h2⟩, h3, h4⟩ c m
    have t := ascii_tab ⟨c, h1 c m⟩
    have a1 := h2 c m
    have a2 := h4 c m
    simp only [a1, a2, Bool.true_and, Bool.not_false] at t
    simpa using t.symm
  · intro h
    have q : ∀ c ∈ x.cps.toList, c < 128 ∧ Unicode.isAlpha c = true ∧ Unicode.isLower c = true ∧ (Unicode.isUpper c || Unicode.isTitle c) = false := fun c m => by
      have t := abc_tab c (h c m)
      simpa using t
    exact ⟨fun c m => (q c m).1, ⟨by omega, fun c m => (q c m).2.1⟩, ⟨c0, m0, (q c0 m0).2.2.1⟩, fun c m => (q c m).2.2.2⟩
theorem or_f {b : Bool} (h : (!true || !b) = true) : b = false := by cases b <;> first | rfl | exact nomatch h
theorem or_t {b : Bool} (h : (!true || !b) = false) : b = true := by cases b <;> first | rfl | exact nomatch h
theorem pairB_ne {xs : List PyData} (h : xs.length ≠ 2) : pairB (.tuple xs) = false := by
  match xs, h with
  | [], _ => rfl
  | [_], _ => rfl
  | [_, _], h => exact absurd rfl h
  | _ :: _ :: _ :: _, _ => rfl
theorem answerB_ne {xs : List PyData} (h : xs.length ≠ 3) : answerB (.tuple xs) = false := by
  match xs, h with
  | [], _ => rfl
  | [_], _ => rfl
  | [_, _], h => rfl
  | [_, _, _], h => exact absurd rfl h
  | _ :: _ :: _ :: _ :: _, _ => simp [answerB]
theorem nameB_str {d : PyData} (h : nameB d = true) : ∃ x, d = .str x := by
  cases d with
  | str x => exact ⟨x, rfl⟩
  | none | bool _ | int _ | list _ | tuple _ | dict _ => exact nomatch h
theorem eqv_str {x y : Str} : PyData.eqv (.str x) (.str y) = decide (x = y) := by
  simp [PyData.eqv]
  rfl
theorem od_neN {K : PySem.W.Frag} {a b : PyData} (h1 : nameB a = true) (h2 : nameB b = true) : OpD (rNeA K) a b (· = .bool (!PyData.eqv a b)) := by
  obtain ⟨x, rfl⟩ := nameB_str h1
  obtain ⟨y, rfl⟩ := nameB_str h2
  rw [eqv_str]
  exact od_neS
end Gd

/-! what walks -/
namespace Vw
open PySem PySem.Spec PyProof.Rows L2 Gd
/-- the items of a list, a cell or not; what keeps them -/
def asL (st : Stt) (t : T) (K : List T → (Stt → Prop) → Prop) : Prop :=
  match t with
  | .lst ts => K ts fun _ => True
  | .ref n => match st[n]? with
    | some (.lst ts) => K ts fun s => s[n]? = some (.lst ts)
    | _ => False
  | _ => False
def asT (t : T) (K : List T → Prop) : Prop :=
  match t with
  | .tup ts => K ts
  | _ => False
section
variable {c : Cf} {n0 : Nat} {L M : Ls} {F F2 : List Addr} {H H2 : Hp} {st st2 : Stt} {v : V} {t : T}
theorem mv_later {p : Nat → Bool} (g : Gj L F H M F2 H2) (hp : ∀ (n : Nat) (a : Addr), p n = true → L[n]? = some (some a) → M[n]? = some (some a)) : Mv p L F H M F2 H2 := ⟨g.fr, hp⟩
/-- a list later on -/
def LsOk (c : Cf) (L : Ls) (F : List Addr) (H : Hp) (a : Addr) (ts : List T) (pin : Stt → Prop) : Prop :=
  ∀ (M : Ls) (F2 : List Addr) (st2 : Stt) (H2 : Hp), Gj L F H M F2 H2 → Rl c M F2 st2 H2 → pin st2 →
    ∃ vs, H2 a = some (.lst vs) ∧ vs.length = ts.length ∧ ∀ (i : Nat) (x : V), vs[i]? = some x → ∃ t, ts[i]? = some t ∧ ∀ p : Nat → Bool, (∀ (n : Nat) (b : Addr), p n = true → L[n]? = some (some b) → M[n]? = some (some b)) → t.refsIn p = true → Ta c M F2 H2 x t
theorem asL_ok {K : List T → (Stt → Prop) → Prop} (r : Rl c L F st H) (a : Ta c L F H v t) (h : asL st t K) :
    ∃ b vs ts pin, v = .ref b ∧ K ts pin ∧ H b = some (.lst vs) ∧ Tas c L F H vs ts ∧ ts.length ≤ big ∧ pin st ∧ LsOk c L F H b ts pin := by
  cases a with
  | @lst b vs ts nb hb as z =>
    refine ⟨b, vs, ts, _, rfl, h, hb, as, z, trivial, fun M F2 st2 H2 g r2 _ => ⟨vs, (g.fr b _ nb hb).2, as.length, fun i x e => ?_⟩⟩
    obtain ⟨t, e2, a2⟩ := as.get e
    exact ⟨t, e2, fun p hp k => a2.mv (mv_later g hp) k⟩
  | @ref n b e =>
    cases q : st[n]? with
    | none => simp [asL, q] at h
    | some x =>
      cases x with
      | lst ts =>
        have h' : K ts fun s => s[n]? = some (.lst ts) := by simpa [asL, q] using h
        obtain ⟨vs, hb, as, z⟩ := r.cell n b _ e q
        refine ⟨b, vs, ts, _, rfl, h', hb, as, z, q, fun M F2 st2 H2 g r2 pn => ?_⟩
        rcases g.st n b e with e2 | e2
        · obtain ⟨vs2, hb2, as2, z2⟩ := r2.cell n b _ e2 pn
          refine ⟨vs2, hb2, as2.length, fun i x e => ?_⟩
          obtain ⟨t, e3, a3⟩ := as2.get e
          exact ⟨t, e3, fun _ _ _ => a3⟩
        · have := r2.gone n e2
          rw [pn] at this
          cases this
      | dct kvs => simp [asL, q] at h
      | dtt kvs => simp [asL, q] at h
      | obj C fs => simp [asL, q] at h
      | gone => simp [asL, q] at h
  | _ => exact h.elim
end
section
variable {c : Cf}
theorem jok_list {L : Ls} {F : List Addr} {H : Hp} {a : Addr} {ts : List T} {pin : Stt → Prop} (h : LsOk c L F H a ts pin) : JOk c L F H (Itl c.K a) ts pin := fun M F2 st2 H2 i g r pn => by
  obtain ⟨vs, e, l, k⟩ := h M F2 st2 H2 g r pn
  have sq : SqL c.K H2 a vs := .inl (.inl e)
  refine ⟨fun lt => ⟨vs, vs[i]'(by omega), sq, List.getElem?_eq_getElem _⟩, fun le => ⟨vs, sq, by omega⟩, fun x H3 lt y => ?_⟩
  obtain ⟨rfl, y⟩ := y
  obtain ⟨t, e2, k2⟩ := k i x (y vs sq)
  exact ⟨Go.refl _ _, r, t, e2, k2⟩
/-- a tuple, the written empty one too -/
def asTE (t : T) (K : List T → Prop) : Prop :=
  match t with
  | .tup ts => K ts
  | .emp => K []
  | _ => False
theorem asTE_ok {L : Ls} {F : List Addr} {H : Hp} {v : V} {t : T} {K : List T → Prop} (a : Ta c L F H v t) (h : asTE t K) :
    ∃ b vs ts, v = .ref b ∧ K ts ∧ SqT c.K H b vs ∧ Tas c L F H vs ts ∧ ts.length ≤ big ∧ ∀ M F2 H2, Gj L F H M F2 H2 → SqT c.K H2 b vs := by
  cases a with
  | @tup b vs ts nb hb as z => exact ⟨b, vs, ts, rfl, h, .inl (.inl hb), as, z, fun M F2 H2 g => .inl (.inl (g.fr b _ nb hb).2)⟩
  | @emp b d => exact ⟨b, [], [], rfl, h, d.sq H, .nil, Nat.zero_le _, fun _ _ H2 _ => d.sq H2⟩
  | _ => exact h.elim
theorem jok_tup {L : Ls} {F : List Addr} {H : Hp} {a : Addr} {vs : List V} {ts : List T} (as : Tas c L F H vs ts) (h : ∀ M F2 H2, Gj L F H M F2 H2 → SqT c.K H2 a vs) : JOk c L F H (Itt c.K a) ts fun _ => True := fun M F2 st2 H2 i g r pn => by
  have sq := h M F2 H2 g
  have l := as.length
  refine ⟨fun lt => ⟨vs, vs[i]'(by omega), sq, List.getElem?_eq_getElem _⟩, fun le => ⟨vs, sq, by omega⟩, fun x H3 lt y => ?_⟩
  obtain ⟨rfl, y⟩ := y
  obtain ⟨t, e2, a2⟩ := as.get (y vs sq)
  exact ⟨Go.refl _ _, r, t, e2, fun p hp k => a2.mv (mv_later g hp) k⟩
/-- a list, a tuple, the signs of a text -/
def iAny (K : PySem.W.Frag) (te : TE) : TI := fun σ H R => te σ H fun x H1 => (∃ a, x = .ref a ∧ (∃ xs, SqL K H1 a xs) ∧ R (Itl K a) H1) ∨ (∃ a, x = .ref a ∧ (∃ xs, SqT K H1 a xs) ∧ R (Itt K a) H1) ∨ ∃ z, x = .str z ∧ R (Its z) H1
theorem pi_any {X : Cx} {tg l : Expr} {tl : TE} (hl : PE X l tl) : PI X tg l (iAny X.K tl) := by
  refine ⟨fun pins s σ H R I h => ?_⟩
  refine thn (hl.run pins s σ H _ I h) fun v s1 ⟨x, H1, I1, r1, q1⟩ => ?_
  have back : ∀ {w : TI} (pp : PI X tg l w), True := fun _ => trivial
  rcases q1 with ⟨a, e, ⟨xs, hq⟩, q⟩ | ⟨a, e, ⟨xs, hq⟩, q⟩ | ⟨z, e, q⟩
  · subst e
    cases r1
    obtain ⟨its, rv, p, hz⟩ := I1.list hq
    refine wpAny_pyIter_list p.isList ?_
    refine ⟨s1.heap.objs.size, [s1.heap.objs.size], _, _, H1, rfl, I1.kept (t' := s1.toks) fun b o e => Heap.get?_push_of_some _ e, turn_list a _, ⟨_, Heap.get?_push_size _ rfl, rfl, rfl⟩, fun b hb => ?_, q⟩
    have e : b = s1.heap.objs.size := by simpa using hb
    subst e
    exact I1.fpOk (Nat.le_refl _) (I1.hok.fresh (Nat.le_refl _))
  · subst e
    cases r1
    obtain ⟨its, rv, p, hz⟩ := I1.tuple hq
    refine wpAny_pyIter_tuple (show s1.heap.IsTuple a its.toArray from p) ?_
    refine ⟨s1.heap.objs.size, [s1.heap.objs.size], _, _, H1, rfl, I1.kept (t' := s1.toks) fun b o e => Heap.get?_push_of_some _ e, turn_tuple a _, ⟨_, Heap.get?_push_size _ rfl, rfl, rfl⟩, fun b hb => ?_, q⟩
    have e : b = s1.heap.objs.size := by simpa using hb
    subst e
    exact I1.fpOk (Nat.le_refl _) (I1.hok.fresh (Nat.le_refl _))
  · subst e
    obtain ⟨t, rfl⟩ := r1
    cases ha : z.cps.all (· < 128)
    · exact wpAny_pyIter_wide ha (pi_one (tk := s1.toks) I1 _ (turn_str _ z t "str_iterator" (.inr rfl)) ⟨_, Heap.get?_push_size _ rfl, rfl, rfl⟩ q)
    · exact wpAny_pyIter_ascii ha (pi_one (tk := s1.toks) I1 _ (turn_str _ z t "str_ascii_iterator" (.inl rfl)) ⟨_, Heap.get?_push_size _ rfl, rfl, rfl⟩ q)
def signT (x : Str) : List T := x.cps.toList.map fun c => T.str ⟨#[c]⟩
def iA (e : EX c) : IX c where
  wi := iAny c.K e.te
  w env st Q := e.w env st fun t st1 => match t with
    | .tup ts => Q ts (fun _ => True) st1
    | .emp => Q [] (fun _ => True) st1
    | .str x => x.length ≤ big ∧ Q (signT x) (fun _ => True) st1
    | .lst ts => Q ts (fun _ => True) st1
    | .ref n => asL st1 (.ref n) fun ts pin => Q ts pin st1
    | _ => False
  ok L F env st σ H R Q r s h k := e.ok L F env st σ H _ _ r s h fun v t st1 H1 L1 g1 r1 a1 h1 => by
    cases t with
    | tup ts =>
      obtain ⟨b, vs, ts', rfl, q, sq, as, z, lo⟩ := asTE_ok (K := fun ts => Q ts (fun _ => True) st1) a1 h1
      exact .inr (.inl ⟨b, rfl, ⟨vs, sq⟩, k _ ts' _ st1 H1 L1 g1 r1 z q (jok_tup as lo)⟩)
    | emp =>
      obtain ⟨b, vs, ts', rfl, q, sq, as, z, lo⟩ := asTE_ok (K := fun ts => Q ts (fun _ => True) st1) a1 h1
      exact .inr (.inl ⟨b, rfl, ⟨vs, sq⟩, k _ ts' _ st1 H1 L1 g1 r1 z q (jok_tup as lo)⟩)
    | lst ts =>
      obtain ⟨b, vs, ts', pin, rfl, q, hb, as, z, pn, lo⟩ := asL_ok (K := fun ts pin => Q ts pin st1) r1 a1 h1
      exact .inl ⟨b, rfl, ⟨vs, .inl (.inl hb)⟩, k _ ts' pin st1 H1 L1 g1 r1 z q (jok_list lo)⟩
    | ref n =>
      obtain ⟨b, vs, ts', pin, rfl, q, hb, as, z, pn, lo⟩ := asL_ok (K := fun ts pin => Q ts pin st1) r1 a1 h1
      exact .inl ⟨b, rfl, ⟨vs, .inl (.inl hb)⟩, k _ ts' pin st1 H1 L1 g1 r1 z q (jok_list lo)⟩
    | str x =>
      cases a1
      have l : (signT x).length = x.cps.size := by simp [signT]
      refine .inr (.inr ⟨x, rfl, k _ _ _ st1 H1 L1 g1 r1 (by rw [l]; exact h1.1) h1.2 fun M F2 st2 H2 i g r pn => ?_⟩)
      rw [l]
      refine ⟨fun lt => lt, fun le => le, fun y H3 lt q => ?_⟩
      obtain ⟨rfl, c', e, rfl⟩ := q
      refine ⟨Go.refl _ _, r, .str ⟨#[c']⟩, ?_, fun _ _ _ => .str _⟩
      unfold signT
      rw [List.getElem?_map]
      have : x.cps.toList[i]? = some c' := by simpa using e
      rw [this]
      rfl
    | _ => exact h1.elim
def intT (lo : Int) (n : Nat) : List T := (List.range n).map fun i => T.int (lo + (i : Nat))
theorem jok_range {L : Ls} {F : List Addr} {H : Hp} {lo : Int} {n : Nat} : JOk c L F H (Itr lo n) (intT lo n) fun _ => True := fun M F2 st2 H2 i g r pn => by
  have l : (intT lo n).length = n := by simp [intT]
  rw [l]
  refine ⟨fun lt => lt, fun le => le, fun y H3 lt q => ?_⟩
  obtain ⟨rfl, rfl⟩ := q
  refine ⟨Go.refl _ _, r, .int (lo + (i : Nat)), ?_, fun _ _ _ => .int _⟩
  unfold intT
  rw [List.getElem?_map, List.getElem?_range lt]
  rfl
def iR1 (a : AX c) : IX c where
  wi := iRng1 a.ta
  w env st Q := a.w env st fun ts st1 => match ts with | [.int n] => -100000 ≤ n ∧ n ≤ 100000 ∧ Q (intT 0 n.toNat) (fun _ => True) st1 | _ => False
  ok L F env st σ H R Q r s h k := a.ok L F env st σ H _ _ r s h fun vs ts st1 H1 L1 g1 r1 a1 h1 => by
    match ts, a1, h1 with
    | [.int n], .cons (.int _) .nil, h1 =>
      exact ⟨n, rfl, by omega, by omega, k _ _ _ st1 H1 L1 g1 r1 (by simp [intT]; omega) h1.2.2 jok_range⟩
def iR2 (a : AX c) : IX c where
  wi := iRng2 a.ta
  w env st Q := a.w env st fun ts st1 => match ts with | [.int m, .int n] => -100000 ≤ m ∧ m ≤ 100000 ∧ -100000 ≤ n ∧ n ≤ 100000 ∧ n - m ≤ 100000 ∧ Q (intT m (n - m).toNat) (fun _ => True) st1 | _ => False
  ok L F env st σ H R Q r s h k := a.ok L F env st σ H _ _ r s h fun vs ts st1 H1 L1 g1 r1 a1 h1 => by
    match ts, a1, h1 with
    | [.int m, .int n], .cons (.int _) (.cons (.int _) .nil), h1 =>
      exact ⟨m, n, rfl, by omega, k _ _ _ st1 H1 L1 g1 r1 (by simp [intT]; omega) h1.2.2.2.2.2 jok_range⟩
/-- enumerate(xs) -/
def iEn (a : AX c) : IX c where
  wi := iEnum c.K a.ta
  w env st Q := a.w env st fun ts st1 => match ts with | [x] => asL st1 x fun ts pin => Q (ts.zipIdx.map fun p => T.tup [.int (p.2 : Nat), p.1]) pin st1 | _ => False
  ok L F env st σ H R Q r s h k := a.ok L F env st σ H _ _ r s h fun vs ts st1 H1 L1 g1 r1 a1 h1 => by
    match ts, a1, h1 with
    | [x], .cons b1 .nil, h1 =>
      obtain ⟨b, vs, ts', pin, rfl, q, hb, as, z, pn, lo⟩ := asL_ok (K := fun ts pin => Q (ts.zipIdx.map fun p => T.tup [.int (p.2 : Nat), p.1]) pin st1) r1 b1 h1
      refine ⟨b, vs, rfl, .inl (.inl hb), k _ _ pin st1 H1 L1 g1 r1 (by simp; exact z) q fun M F2 st2 H2 i g r pn => ?_⟩
      obtain ⟨vs2, e, l, kk⟩ := lo M F2 st2 H2 g r pn
      have sq : SqL c.K H2 b vs2 := .inl (.inl e)
      simp only [List.length_map, List.length_zipIdx]
      refine ⟨fun lt => ⟨vs2, vs2[i]'(by omega), sq, List.getElem?_eq_getElem _⟩, fun le => ⟨vs2, sq, by omega⟩, fun x H3 lt y => ?_⟩
      obtain ⟨tt, w, rfl, ht, rfl, hy⟩ := y
      obtain ⟨t, e2, k2⟩ := kk i w (hy vs2 sq)
      refine ⟨Go.lay ht, r.lay ht, .tup [.int (i : Nat), t], by simp [List.getElem?_zipIdx, e2], fun p hp kp => ?_⟩
      have kt : t.refsIn p = true := by simpa [T.refsIn, refsInL] using kp
      exact .tup (r.fresh ht) upd_same (.cons (.int _) (.cons ((k2 p hp kt).go (Go.lay ht)) .nil)) (by show 2 ≤ 100000; decide)
/-- zip(xs, ys) -/
def iZi (a : AX c) : IX c where
  wi := iZip c.K a.ta
  w env st Q := a.w env st fun ts st1 => match ts with | [x, y] => asL st1 x fun xs p1 => asL st1 y fun ys p2 => Q ((xs.zip ys).map fun p => T.tup [p.1, p.2]) (fun s => p1 s ∧ p2 s) st1 | _ => False
  ok L F env st σ H R Q r s h k := a.ok L F env st σ H _ _ r s h fun vs ts st1 H1 L1 g1 r1 a1 h1 => by
    match ts, a1, h1 with
    | [x, y], .cons b1 (.cons b2 .nil), h1 =>
      obtain ⟨b, vs, xs, p1, rfl, q, hb, as, z, pn, lo⟩ := asL_ok (K := fun xs p1 => asL st1 y fun ys p2 => Q ((xs.zip ys).map fun p => T.tup [p.1, p.2]) (fun s => p1 s ∧ p2 s) st1) r1 b1 h1
      obtain ⟨d, ws, ys, p2, rfl, q, hd, bs, z2, pn2, lo2⟩ := asL_ok (K := fun ys p2 => Q ((xs.zip ys).map fun p => T.tup [p.1, p.2]) (fun s => p1 s ∧ p2 s) st1) r1 b2 q
      refine ⟨b, d, vs, ws, rfl, .inl (.inl hb), .inl (.inl hd), k _ _ _ st1 H1 L1 g1 r1 (by rw [List.length_map, List.length_zip]; omega) q fun M F2 st2 H2 i g r pn => ?_⟩
      obtain ⟨vs2, e, l, kk⟩ := lo M F2 st2 H2 g r pn.1
      obtain ⟨ws2, e', l', kk'⟩ := lo2 M F2 st2 H2 g r pn.2
      have sq : SqL c.K H2 b vs2 := .inl (.inl e)
      have sq' : SqL c.K H2 d ws2 := .inl (.inl e')
      simp only [List.length_map, List.length_zip]
      refine ⟨fun lt => ⟨vs2, ws2, vs2[i]'(by omega), ws2[i]'(by omega), sq, sq', List.getElem?_eq_getElem _, List.getElem?_eq_getElem _⟩, fun le => ⟨vs2, ws2, sq, sq', by omega⟩, fun x H3 lt y => ?_⟩
      obtain ⟨tt, w, w', rfl, ht, rfl, hy, hy'⟩ := y
      obtain ⟨t, e2, k2⟩ := kk i w (hy vs2 sq)
      obtain ⟨t', e2', k2'⟩ := kk' i w' (hy' ws2 sq')
      refine ⟨Go.lay ht, r.lay ht, .tup [t, t'], by simp [List.getElem?_zip_eq_some, e2, e2'], fun p hp kp => ?_⟩
      have kt : t.refsIn p = true ∧ t'.refsIn p = true := by simpa [T.refsIn, refsInL] using kp
      exact .tup (r.fresh ht) upd_same (.cons ((k2 p hp kt.1).go (Go.lay ht)) (.cons ((k2' p hp kt.2).go (Go.lay ht)) .nil)) (by show 2 ≤ 100000; decide)
end
end Vw

/-! operators on values -/
namespace Vw
open PySem PySem.Spec PyProof.Rows L2 Gd
/-! trees as data -/
mutual
def T.toD : T → Option PyData
  | .non => some .none
  | .bl b => some (.bool b)
  | .int i => some (.int i)
  | .str x => some (.str x)
  | .lst xs => (toDL xs).map .list
  | .tup xs => (toDL xs).map .tuple
  | .dct kvs => (toDK kvs).map .dict
  | .dtt _ | .emp | .set _ | .scr _ | .obj _ _ | .ref _ => none
def toDL : List T → Option (List PyData)
  | [] => some []
  | x :: xs => match x.toD, toDL xs with
    | some d, some ds => some (d :: ds)
    | _, _ => none
def toDK : List (L2.Key × T) → Option (List (PyData × PyData))
  | [] => some []
  | (k, x) :: xs => match x.toD, toDK xs with
    | some d, some ds => some ((keyD k, d) :: ds)
    | _, _ => none
end
theorem toDL_map {α : Type} {f : α → T} {g : α → PyData} (h : ∀ x, (f x).toD = some (g x)) : ∀ xs : List α, toDL (xs.map f) = some (xs.map g)
  | [] => by simp [toDL]
  | x :: xs => by simp [toDL, h x, toDL_map h xs]
theorem toDL_app : ∀ {xs ys : List T} {ds es : List PyData}, toDL xs = some ds → toDL ys = some es → toDL (xs ++ ys) = some (ds ++ es)
  | [], ys, ds, es, h, k => by simp [toDL] at h; subst h; simpa using k
  | x :: xs, ys, ds, es, h, k => by
    simp only [toDL] at h
    split at h
    · rename_i d ds' h1 h2
      cases h
      simp [toDL, h1, toDL_app h2 k]
    · cases h
mutual
theorem Ta.da {c : Cf} {L : Ls} {F : List Addr} {H : Hp} : ∀ {v : V} {t : T} {d : PyData}, Ta c L F H v t → t.toD = some d → Da [] H v d
  | _, _, _, .non, e => by simp only [T.toD] at e; cases e; exact .non
  | _, _, _, .bl b, e => by simp only [T.toD] at e; cases e; exact .bl b
  | _, _, _, .int i, e => by simp only [T.toD] at e; cases e; exact .int i
  | _, _, _, .str x, e => by simp only [T.toD] at e; cases e; exact .str x
  | _, .lst xs, d, .lst n h k z, e => by
    simp only [T.toD, Option.map_eq_some_iff] at e
    obtain ⟨ds, e1, e2⟩ := e
    rw [← e2]
    exact .lst (fun m => nomatch m) h (Tas.da k e1)
  | _, .tup xs, d, .tup n h k z, e => by
    simp only [T.toD, Option.map_eq_some_iff] at e
    obtain ⟨ds, e1, e2⟩ := e
    rw [← e2]
    exact .tup (fun m => nomatch m) h (Tas.da k e1)
  | _, _, _, .emp h, e => by simp [T.toD] at e
  | _, _, _, .scrF _ _ _, e => by simp [T.toD] at e
  | _, _, _, .scrK _ _, e => by simp [T.toD] at e
  | _, _, d, .dK (kvs := kvs) (ps := ps) n h q k z, e => by
    simp only [T.toD, Option.map_eq_some_iff] at e
    obtain ⟨ds, e1, e2⟩ := e
    rw [← e2]
    have := Tas.daK (ps := ps) (vs := kvs.map (·.2)) k e1
    refine .dct (fun m => nomatch m) h ?_ this.2
    have q2 : ps.map (fun p => keyD p.1) = (ps.map (·.1)).map keyD := by simp
    rw [this.1, q2, q]
    simp
  | _, _, _, .dT n h q k z, e => by simp [T.toD] at e
  | _, _, _, .set n h z, e => by simp [T.toD] at e
  | _, _, _, .obj n h q k, e => by simp [T.toD] at e
  | _, _, _, .ref h, e => by simp [T.toD] at e
theorem Tas.da {c : Cf} {L : Ls} {F : List Addr} {H : Hp} : ∀ {vs : List V} {ts : List T} {ds : List PyData}, Tas c L F H vs ts → toDL ts = some ds → Das [] H vs ds
  | _, _, _, .nil, e => by simp only [toDL] at e; cases e; exact .nil
  | _, _, _, .cons (t := t) h k, e => by
    simp only [toDL] at e
    split at e
    · rename_i d ds h1 h2
      cases e
      exact .cons (Ta.da h h1) (Tas.da k h2)
    · cases e
theorem Tas.daK {c : Cf} {L : Ls} {F : List Addr} {H : Hp} : ∀ {ps : List (L2.Key × T)} {vs : List V} {ds : List (PyData × PyData)}, Tas c L F H vs (ps.map (·.2)) → toDK ps = some ds →
    ds.map (·.1) = ps.map (fun p => keyD p.1) ∧ Das [] H vs (ds.map (·.2))
  | [], _, _, h, e => by
    simp only [toDK] at e
    cases e
    cases h
    exact ⟨rfl, .nil⟩
  | (key, x) :: ps, _, _, h, e => by
    cases h with
    | cons h1 h2 =>
      simp only [toDK] at e
      split at e
      · rename_i d ds e1 e2
        cases e
        obtain ⟨q1, q2⟩ := Tas.daK (ps := ps) h2 e2
        exact ⟨by simp [q1], .cons (Ta.da h1 e1) q2⟩
      · cases e
end
/-- a value seen as data, a cell by what it holds -/
def view (st : Stt) (t : T) : Option PyData :=
  match t with
  | .ref n => match st[n]? with
    | some (.lst xs) => (toDL xs).map .list
    | some (.dct kvs) => (toDK kvs).map .dict
    | _ => none
  | t => t.toD
theorem view_ok {c : Cf} {L : Ls} {F : List Addr} {H : Hp} {st : Stt} {v : V} {t : T} {d : PyData} (r : Rl c L F st H) (a : Ta c L F H v t) (e : view st t = some d) : Da [] H v d := by
  cases a with
  | @ref n b eb =>
    cases q : st[n]? with
    | none => simp [view, q] at e
    | some x =>
      cases x with
      | lst xs =>
        have e' : (toDL xs).map PyData.list = some d := by simpa [view, q] using e
        simp only [Option.map_eq_some_iff] at e'
        obtain ⟨ds, e1, rfl⟩ := e'
        obtain ⟨vs, hb, as, z⟩ := r.cell n b _ eb q
        exact .lst (fun m => nomatch m) hb (as.da e1)
      | dct ps =>
        have e' : (toDK ps).map PyData.dict = some d := by simpa [view, q] using e
        simp only [Option.map_eq_some_iff] at e'
        obtain ⟨ds, e1, rfl⟩ := e'
        obtain ⟨kvs, hb, qk, as, z⟩ := r.cell n b _ eb q
        have := Tas.daK as e1
        refine .dct (fun m => nomatch m) hb ?_ this.2
        have q2 : ps.map (fun p => keyD p.1) = (ps.map (·.1)).map keyD := by simp
        rw [this.1, q2, qk]
        simp
      | dtt _ => simp [view, q] at e
      | obj _ _ => simp [view, q] at e
      | gone => simp [view, q] at e
  | non => exact Ta.da (t := .non) (.non : Ta c L F H _ _) e
  | bl b => exact Ta.da (.bl b : Ta c L F H _ _) e
  | int b => exact Ta.da (.int b : Ta c L F H _ _) e
  | str b => exact Ta.da (.str b : Ta c L F H _ _) e
  | lst a1 a2 a3 a4 => exact Ta.da (.lst a1 a2 a3 a4) e
  | tup a1 a2 a3 a4 => exact Ta.da (.tup a1 a2 a3 a4) e
  | emp a1 => exact Ta.da (F := F) (L := L) (c := c) (.emp a1) e
  | scrF _ _ _ => simp [view, T.toD] at e
  | scrK _ _ => simp [view, T.toD] at e
  | dK a1 a2 a3 a4 a5 => exact Ta.da (.dK a1 a2 a3 a4 a5) e
  | dT a1 a2 a3 a4 a5 => exact Ta.da (.dT a1 a2 a3 a4 a5) e
  | set a1 a2 a3 => exact Ta.da (.set a1 a2 a3) e
  | obj a1 a2 a3 a4 => exact Ta.da (.obj a1 a2 a3 a4) e
section
variable {c : Cf}
/-! numbers -/
def oII (g : Int → Int → Int) : O2 c where
  r := rI0 fun i j => .int (g i j)
  w st a b Q := match a, b with | .int i, .int j => Q (.int (g i j)) st | _, _ => False
  ok L F st H x y a b Qc Q r h1 h2 h k := by
    match a, b, h1, h2, h with
    | .int i, .int j, .int _, .int _, h => exact ⟨i, j, rfl, rfl, k.here r (.int _) h⟩
def oIB (g : Int → Int → Bool) : O2 c where
  r := rI0 fun i j => .bl (g i j)
  w st a b Q := match a, b with | .int i, .int j => Q (.bl (g i j)) st | _, _ => False
  ok L F st H x y a b Qc Q r h1 h2 h k := by
    match a, b, h1, h2, h with
    | .int i, .int j, .int _, .int _, h => exact ⟨i, j, rfl, rfl, k.here r (.bl _) h⟩
def oIC (C : Int → Int → Prop) (g : Int → Int → Int) : O2 c where
  r := rI C fun i j => .int (g i j)
  w st a b Q := match a, b with | .int i, .int j => C i j ∧ Q (.int (g i j)) st | _, _ => False
  ok L F st H x y a b Qc Q r h1 h2 h k := by
    match a, b, h1, h2, h with
    | .int i, .int j, .int _, .int _, h => exact ⟨i, j, rfl, rfl, h.1, k.here r (.int _) h.2⟩
abbrev oSub : O2 c := oII fun i j => i - j
abbrev oMod : O2 c := oIC (fun _ j => 0 < j) fun i j => i % j
abbrev oDiv : O2 c := oIC CDiv fun i j => i / j
abbrev oPow : O2 c := oIC CPow fun i j => i ^ j.toNat
abbrev oLt : O2 c := oIB fun i j => decide (i < j)
abbrev oLe : O2 c := oIB fun i j => decide (i ≤ j)
abbrev oGt : O2 c := oIB fun i j => decide (j < i)
abbrev oGe : O2 c := oIB fun i j => decide (j ≤ i)
def oNeg : O1 c where
  r := rU fun i => .int (-i)
  w st a Q := match a with | .int i => Q (.int (-i)) st | _ => False
  ok L F st H x a Qc Q r h1 h k := by
    match a, h1, h with
    | .int i, .int _, h => exact ⟨i, rfl, k.here r (.int _) h⟩
/-! + of numbers, texts, lists, tuples -/
theorem Rl.notin {L : Ls} {F : List Addr} {st : Stt} {H : Hp} (r : Rl c L F st H) {p : Addr} (h : H p = none) : ¬ Bar L F p := r.fresh h
def rAddV (K : PySem.W.Frag) : R2 := fun x y H Q => rAddA K x y H Q ∨ rCatT K x y H Q
theorem op_addV {X : Cx} : OpR X (binaryOp .Add) (rAddV X.K) := OpR.or op_addA op_catT
def oAdd : O2 c where
  r := rAddV c.K
  w st a b Q := match a, b with
    | .int i, .int j => Q (.int (i + j)) st
    | .str x, .str y => x.length + y.length ≤ big ∧ Q (.str (x ++ y)) st
    | .tup xs, .tup ys => xs ≠ [] ∧ xs.length + ys.length ≤ big ∧ Q (.tup (xs ++ ys)) st
    | a, b => asL st a fun xs _ => asL st b fun ys _ => xs.length + ys.length ≤ big ∧ Q (.lst (xs ++ ys)) st
  ok L F st H x y a b Qc Q r h1 h2 h k := by
    have lists : (asL st a fun xs _ => asL st b fun ys _ => xs.length + ys.length ≤ big ∧ Q (.lst (xs ++ ys)) st) → rAddV c.K x y H Qc := fun h => by
      obtain ⟨p, vs, xs, _, rfl, h, hp, as, z, _, _⟩ := asL_ok r h1 h
      obtain ⟨q, ws, ys, _, rfl, ⟨z2, h⟩, hq, bs, _, _, _⟩ := asL_ok r h2 h
      refine .inl (.inr (.inr ⟨p, q, vs, ws, rfl, rfl, hp, hq, ?_, fun d hd => ?_⟩))
      · rw [as.length, bs.length]; exact Nat.le_trans z2 (by decide)
      · exact k _ (.lst (xs ++ ys)) st _ L (Go.lay hd) (r.lay hd) (.lst (r.fresh hd) upd_same ((as.go (Go.lay hd)).app (bs.go (Go.lay hd))) (by rw [List.length_append]; exact z2)) h
    cases a with
    | int i =>
      cases b with
      | int j => cases h1; cases h2; exact .inl (.inl ⟨i, j, rfl, rfl, k.here r (.int _) h⟩)
      | _ => exact lists h
    | str u =>
      cases b with
      | str w => cases h1; cases h2; exact .inl (.inr (.inl ⟨u, w, rfl, rfl, Nat.le_trans h.1 (by decide), k.here r (.str _) h.2⟩))
      | _ => exact lists h
    | tup xs =>
      cases b with
      | tup ys =>
        obtain ⟨ne, z, h⟩ := h
        cases h1 with
        | @tup p vs _ n1 hp as z1 =>
          cases h2 with
          | @tup q ws _ n2 hq bs z2 =>
            have la := as.length
            have lb := bs.length
            refine .inr ⟨p, q, vs, ws, rfl, rfl, .inl (.inl hp), .inl (.inl hq), fun e => ne ?_, by rw [la, lb]; exact Nat.le_trans z (by decide), fun e => ?_, fun _ d hd => ?_⟩
            · rw [e] at la; exact List.eq_nil_of_length_eq_zero la.symm
            · rw [e] at lb
              have := List.eq_nil_of_length_eq_zero lb.symm
              subst this
              rw [List.append_nil] at h
              exact k.here r (.tup n1 hp as z1) h
            · exact k _ (.tup (xs ++ ys)) st _ L (Go.lay hd) (r.lay hd) (.tup (r.fresh hd) upd_same ((as.go (Go.lay hd)).app (bs.go (Go.lay hd))) (by rw [List.length_append]; exact z)) h
      | _ => exact lists h
    | _ => exact lists h
/-! * of numbers; of a list, of a text and a number -/
def oMul : O2 c where
  r := rMulA
  w st a b Q := match a, b with
    | .int i, .int j => L2.CMul i j ∧ Q (.int (i * j)) st
    | a, .int k => asL st a fun xs _ => -(2 ^ 63) ≤ k ∧ k < 2 ^ 63 ∧ xs.length * k.toNat ≤ big ∧ Q (.lst (List.replicate k.toNat xs).flatten) st
    | _, _ => False
  ok L F st H x y a b Qc Q r h1 h2 h k := by
    have lists : ∀ j, b = .int j → (asL st a fun xs _ => -(2 ^ 63) ≤ j ∧ j < 2 ^ 63 ∧ xs.length * j.toNat ≤ big ∧ Q (.lst (List.replicate j.toNat xs).flatten) st) → rMulA x y H Qc := fun j e hl => by
      subst e
      cases h2
      obtain ⟨p, vs, xs, _, rfl, ⟨j1, j2, z2, h⟩, hp, as, z, _, _⟩ := asL_ok r h1 hl
      refine .inr ⟨p, j, vs, rfl, rfl, hp, j1, j2, by rw [as.length]; exact Nat.le_trans z2 (by decide), fun d hd => ?_⟩
      have rep : ∀ n : Nat, Tas c L F (upd H d (.lst (List.replicate j.toNat vs).flatten)) (List.replicate n vs).flatten (List.replicate n xs).flatten := fun n => by
        induction n with
        | zero => exact .nil
        | succ n ih =>
          rw [List.replicate_succ, List.replicate_succ, List.flatten_cons, List.flatten_cons]
          exact (as.go (Go.lay hd)).app ih
      refine k _ (.lst (List.replicate j.toNat xs).flatten) st _ L (Go.lay hd) (r.lay hd) (.lst (r.fresh hd) upd_same (rep _) ?_) h
      have e : (List.replicate j.toNat xs).flatten.length = j.toNat * xs.length := by simp
      rw [e, Nat.mul_comm]
      exact z2
    cases b with
    | int j =>
      cases a with
      | int i => cases h1; cases h2; exact .inl ⟨i, j, rfl, rfl, h.1, k.here r (.int _) h.2⟩
      | _ => exact lists j rfl h
    | _ => cases a <;> exact h.elim
/-! ==, != of data -/
def EqS (d e : PyData) : Prop := match d, e with | .str _, .str _ => True | _, _ => False
theorem eqS_ok {d e : PyData} (h : EqS d e) : ∃ x y, d = .str x ∧ e = .str y := by
  cases d <;> cases e <;> first | exact h.elim | exact ⟨_, _, rfl, rfl⟩
theorem da_str {F : List Addr} {H : Hp} {v : V} {x : Str} (a : Da F H v (.str x)) : v = .str x := by cases a; rfl
def oEq : O2 c where
  r := rEqA c.K
  w st a b Q := match view st a, view st b with | some d, some e => (EqS d e ∨ (Shp d ∧ Shp e)) ∧ Q (.bl (PyData.eqv d e)) st | _, _ => False
  ok L F st H x y a b Qc Q r h1 h2 h k := by
    split at h
    · rename_i d e e1 e2
      have d1 := view_ok r h1 e1
      have d2 := view_ok r h2 e2
      obtain ⟨hs | hs, h⟩ := h
      · obtain ⟨u, z, rfl, rfl⟩ := eqS_ok hs
        obtain rfl := da_str d1
        obtain rfl := da_str d2
        refine .inl ⟨rfl, ?_⟩
        have e : decide (V.str u = V.str z) = PyData.eqv (.str u) (.str z) := by simp [PyData.eqv]; rfl
        rw [e]
        exact k.here r (.bl _) h
      · exact .inr (.inl ⟨d, e, d1.dp (SeqAt.canLay_of_shaped hs.1), d2.dp (SeqAt.canLay_of_shaped hs.2), hs.1, hs.2, k.here r (.bl _) h⟩)
    · exact h.elim
def oNe : O2 c where
  r := rNeA c.K
  w st a b Q := match view st a, view st b with | some d, some e => (EqS d e ∨ (Shp d ∧ Shp e)) ∧ Q (.bl (!PyData.eqv d e)) st | _, _ => False
  ok L F st H x y a b Qc Q r h1 h2 h k := by
    split at h
    · rename_i d e e1 e2
      have d1 := view_ok r h1 e1
      have d2 := view_ok r h2 e2
      obtain ⟨hs | hs, h⟩ := h
      · obtain ⟨u, z, rfl, rfl⟩ := eqS_ok hs
        obtain rfl := da_str d1
        obtain rfl := da_str d2
        refine .inl ⟨rfl, ?_⟩
        have e : (!decide (V.str u = V.str z)) = !PyData.eqv (.str u) (.str z) := by simp [PyData.eqv]; rfl
        rw [e]
        exact k.here r (.bl _) h
      · exact .inr (.inl ⟨d, e, d1.dp (SeqAt.canLay_of_shaped hs.1), d2.dp (SeqAt.canLay_of_shaped hs.2), hs.1, hs.2, k.here r (.bl _) h⟩)
    · exact h.elim
/-! is None, is not None -/
def isNon : T → Bool | .non => true | _ => false
theorem isNon_ok {L : Ls} {F : List Addr} {H : Hp} {v : V} {t : T} (a : Ta c L F H v t) : decide (v = .non) = isNon t := by
  cases a <;> simp [isNon]
def oIsN : O2 c where
  r := fun x y H Q => y = .non ∧ Q (.bl (decide (x = .non))) H
  w st a b Q := match b with | .non => Q (.bl (isNon a)) st | _ => False
  ok L F st H x y a b Qc Q r h1 h2 h k := by
    cases b with
    | non => cases h2; exact ⟨rfl, by rw [isNon_ok h1]; exact k.here r (.bl _) h⟩
    | _ => exact h.elim
def oNotN : O2 c where
  r := fun x y H Q => y = .non ∧ Q (.bl (!decide (x = .non))) H
  w st a b Q := match b with | .non => Q (.bl (!isNon a)) st | _ => False
  ok L F st H x y a b Qc Q r h1 h2 h k := by
    cases b with
    | non => cases h2; exact ⟨rfl, by rw [isNon_ok h1]; exact k.here r (.bl _) h⟩
    | _ => exact h.elim
/-! in a list of data -/
def itemsD : PyData → Option (List PyData)
  | .list es => some es
  | .tuple es => some es
  | _ => none
def rInL (K : PySem.W.Frag) : R2 := fun x y H Q => ∃ d e ds, Dp K H x d ∧ Dp K H y e ∧ itemsD e = some ds ∧ SeqAt.shaped d = true ∧ SeqAt.shaped e = true ∧ Q (.bl (ds.any fun z => PyData.eqv z d)) H
def rNotInL (K : PySem.W.Frag) : R2 := fun x y H Q => ∃ d e ds, Dp K H x d ∧ Dp K H y e ∧ itemsD e = some ds ∧ SeqAt.shaped d = true ∧ SeqAt.shaped e = true ∧ Q (.bl (!ds.any fun z => PyData.eqv z d)) H
theorem op_inL {X : Cx} (hu : X.A.units + 65 < cLine) : OpR X (compareOp .In) (rInL X.K) := by
  intro pins s σ H x y v u Q I rx ry h
  obtain ⟨d, e, ds, hd, he, ei, sd, se, q⟩ := h
  obtain ⟨as, r1⟩ := Dp.reads I d x v hd rx
  obtain ⟨bs, r2⟩ := Dp.reads I e y u he ry
  cases e with
  | list es => cases ei; exact SeqAt.in_list_reads r2 r1 (SeqAt.canLay_of_shaped se) (SeqAt.canLay_of_shaped sd) (room_in_shaped sd hu) ⟨.bl _, H, I, rfl, q⟩
  | tuple es => cases ei; exact SeqAt.in_tuple_reads r2 r1 (SeqAt.canLay_of_shaped se) (SeqAt.canLay_of_shaped sd) (room_in_shaped sd hu) ⟨.bl _, H, I, rfl, q⟩
  | _ => cases ei
theorem op_notInL {X : Cx} (hu : X.A.units + 65 < cLine) : OpR X (compareOp .NotIn) (rNotInL X.K) := by
  intro pins s σ H x y v u Q I rx ry h
  obtain ⟨d, e, ds, hd, he, ei, sd, se, q⟩ := h
  obtain ⟨as, r1⟩ := Dp.reads I d x v hd rx
  obtain ⟨bs, r2⟩ := Dp.reads I e y u he ry
  cases e with
  | list es => cases ei; exact SeqAt.notIn_list_reads r2 r1 (SeqAt.canLay_of_shaped se) (SeqAt.canLay_of_shaped sd) (room_in_shaped sd hu) ⟨.bl _, H, I, rfl, q⟩
  | tuple es => cases ei; exact SeqAt.notIn_tuple_reads r2 r1 (SeqAt.canLay_of_shaped se) (SeqAt.canLay_of_shaped sd) (room_in_shaped sd hu) ⟨.bl _, H, I, rfl, q⟩
  | _ => cases ei
def oIn : O2 c where
  r := rInL c.K
  w st a b Q := match view st a, view st b with | some d, some e => (match itemsD e with | some es => (Shp d ∧ Shp e) ∧ Q (.bl (es.any fun z => PyData.eqv z d)) st | none => False) | _, _ => False
  ok L F st H x y a b Qc Q r h1 h2 h k := by
    split at h
    · rename_i d e e1 e2
      split at h
      · rename_i es ee
        have d1 := view_ok r h1 e1
        have d2 := view_ok r h2 e2
        exact ⟨d, e, es, d1.dp (SeqAt.canLay_of_shaped h.1.1), d2.dp (SeqAt.canLay_of_shaped h.1.2), ee, h.1.1, h.1.2, k.here r (.bl _) h.2⟩
      · exact h.elim
    · exact h.elim
def oNin : O2 c where
  r := rNotInL c.K
  w st a b Q := match view st a, view st b with | some d, some e => (match itemsD e with | some es => (Shp d ∧ Shp e) ∧ Q (.bl (!es.any fun z => PyData.eqv z d)) st | none => False) | _, _ => False
  ok L F st H x y a b Qc Q r h1 h2 h k := by
    split at h
    · rename_i d e e1 e2
      split at h
      · rename_i es ee
        have d1 := view_ok r h1 e1
        have d2 := view_ok r h2 e2
        exact ⟨d, e, es, d1.dp (SeqAt.canLay_of_shaped h.1.1), d2.dp (SeqAt.canLay_of_shaped h.1.2), ee, h.1.1, h.1.2, k.here r (.bl _) h.2⟩
      · exact h.elim
    · exact h.elim
/-! [i] of a list, a tuple, a text -/
theorem ix_get {α : Type} {xs : List α} {i : Int} {z : α} (h : atI xs i = some z) : ∃ j, ixN xs.length i = some j ∧ xs[j]? = some z := by
  unfold atI at h
  cases e : ixN xs.length i with
  | none => rw [e] at h; cases h
  | some j => rw [e] at h; exact ⟨j, rfl, h⟩
theorem ix_of {α : Type} {xs : List α} {i : Int} {z : α} {n j : Nat} (l : xs.length = n) (h : ixN n i = some j) (e : xs[j]? = some z) : atI xs i = some z := by
  unfold atI
  rw [l, h]
  exact e
def oIx : O2 c where
  r := rIx c.K
  w st a b Q := match a, b with
    | .tup xs, .int i => match atI xs i with | some t => Q t st | none => False
    | .str x, .int i => x.length ≤ big ∧ match atI x.cps.toList i with | some t => Q (.str ⟨#[t]⟩) st | none => False
    | a, .int i => asL st a fun xs _ => match atI xs i with | some t => Q t st | none => False
    | _, _ => False
  ok L F st H x y a b Qc Q r h1 h2 h k := by
    have lists : ∀ j, b = .int j → (asL st a fun xs _ => match atI xs j with | some t => Q t st | none => False) → rIx c.K x y H Qc := fun j e hl => by
      subst e
      cases h2
      obtain ⟨p, vs, xs, _, rfl, h, hp, as, z, _, _⟩ := asL_ok r h1 hl
      split at h
      · rename_i t et
        obtain ⟨m, e1, e2⟩ := ix_get et
        obtain ⟨v, ev, av⟩ := as.of_get e2
        exact .inl ⟨p, vs, j, v, rfl, rfl, .inl (.inl hp), ix_of as.length e1 ev, k.here r av h⟩
      · exact h.elim
    cases b with
    | int j =>
      cases a with
      | tup xs =>
        cases h2
        cases h1 with
        | @tup p vs _ n1 hp as z1 =>
          cases et : atI xs j with
          | none => simp [et] at h
          | some t =>
            simp only [et] at h
            obtain ⟨m, e1, e2⟩ := ix_get et
            obtain ⟨v, ev, av⟩ := as.of_get e2
            exact .inr (.inl ⟨p, vs, j, v, rfl, rfl, .inl (.inl hp), ix_of as.length e1 ev, k.here r av h⟩)
      | str u =>
        cases h2
        cases h1
        cases et : atI u.cps.toList j with
        | none => simp [et] at h
        | some t =>
          simp only [et] at h
          exact .inr (.inr ⟨u, j, t, rfl, rfl, Nat.le_trans h.1 (by decide), et, k.here r (.str _) h.2⟩)
      | _ => exact lists j rfl h
    | _ => cases a <;> exact h.elim
/-! slices -/
structure PX (c : Cf) where
  to : TO
  w : En → Stt → (Option Int → Stt → Prop) → Prop
  ok : ∀ (L : Ls) (F : List Addr) (env : En) (st : Stt) (σ : L2.St) (H : Hp) (Qc : Option Int → Hp → Prop) (Q : Option Int → Stt → Prop), Rl c L F st H → Se c L F H σ env → w env st Q →
    (∀ b st' H' L', Go L H L' H' → Rl c L' F st' H' → Q b st' → Qc b H') → to σ H Qc
def pN : PX c where
  to := tNoPart
  w _ st Q := Q none st
  ok L F env st σ H Qc Q r s h k := k none st H L (Go.refl _ _) r h
def pS (e : EX c) : PX c where
  to := tPart e.te
  w env st Q := e.w env st fun t st1 => match t with | .int i => Q (some i) st1 | _ => False
  ok L F env st σ H Qc Q r s h k := e.ok L F env st σ H _ _ r s h fun v t st1 H1 L1 g1 r1 a1 h1 => by
    cases a1 with
    | int i => exact ⟨i, rfl, k _ st1 H1 L1 g1 r1 h1⟩
    | _ => exact h1.elim
def cutT (xs : List T) (lo hi : Option Int) : List T := (xs.drop (HT.sIx xs.length 0 lo)).take (HT.sIx xs.length xs.length hi - HT.sIx xs.length 0 lo)
theorem cutT_le (xs : List T) (lo hi : Option Int) : (cutT xs lo hi).length ≤ xs.length := by
  unfold cutT
  rw [List.length_take, List.length_drop]
  omega
theorem Tas.cut {L : Ls} {F : List Addr} {H : Hp} {vs : List V} {xs : List T} (h : Tas c L F H vs xs) (lo hi : Option Int) : Tas c L F H (cutV vs lo hi) (cutT xs lo hi) := by
  unfold cutV cutT
  rw [h.length]
  exact (h.drop _).take _
def rSlV (K : PySem.W.Frag) : V → Option Int → Option Int → Hp → VK → Prop := fun x lo hi H Q => rSlAll K x lo hi H Q ∨ rSlA K x lo hi H Q
theorem sl_V {X : Cx} : SlR X (rSlV X.K) := SlR.or sl_all sl_tupA
def eSl (e : EX c) (p q : PX c) : EX c where
  te := tSl (rSlV c.K) e.te p.to q.to
  w env st Q := e.w env st fun t st1 => p.w env st1 fun lo st2 => q.w env st2 fun hi st3 => match t with
    | .str x => x.length ≤ big ∧ Q (.str (cutS x lo hi)) st3
    | .tup xs => Q (.tup (cutT xs lo hi)) st3
    | .scr ns => Q (.lst (cutT (ns.map T.int) lo hi)) st3
    | t => asL st3 t fun xs _ => Q (.lst (cutT xs lo hi)) st3
  ok L F env st σ H Qc Q r s h k := e.ok L F env st σ H _ _ r s h fun v t st1 H1 L1 g1 r1 a1 h1 =>
    p.ok L1 F env st1 σ H1 _ _ r1 (s.go g1) h1 fun lo st2 H2 L2 g2 r2 h2 =>
    q.ok L2 F env st2 σ H2 _ _ r2 (s.go (g1.trans g2)) h2 fun hi st3 H3 L3 g3 r3 h3 => by
      have a3 := a1.go (g2.trans g3)
      have k3 := k.go ((g1.trans g2).trans g3)
      have lists : (asL st3 t fun xs _ => Q (.lst (cutT xs lo hi)) st3) → rSlV c.K v lo hi H3 Qc := fun h => by
        obtain ⟨p, vs, xs, _, rfl, h, hp, as, z, _, _⟩ := asL_ok r3 a3 h
        exact .inl (.inl ⟨p, vs, rfl, .inl (.inl hp), fun d hd => k3 _ (.lst (cutT xs lo hi)) st3 _ L3 (Go.lay hd) (r3.lay hd) (.lst (r3.fresh hd) upd_same ((as.go (Go.lay hd)).cut lo hi) (Nat.le_trans (cutT_le _ _ _) z)) h⟩)
      cases t with
      | str x => cases a3; exact .inl (.inr ⟨x, rfl, Nat.le_trans h3.1 (by decide), k3.here r3 (.str _) h3.2⟩)
      | tup xs =>
        cases a3 with
        | @tup p vs _ n1 hp as z1 =>
          refine .inr ⟨p, vs, rfl, .inl (.inl hp), fun ⟨e1, e2⟩ => ?_, fun _ d hd => ?_⟩
          · have : cutT xs lo hi = xs := by
              unfold cutT
              rw [← as.length, e1, e2, as.length]
              simp
            have h4 : Q (.tup (cutT xs lo hi)) st3 := h3
            rw [this] at h4
            exact k3.here r3 (.tup n1 hp as z1) h4
          · exact k3 _ (.tup (cutT xs lo hi)) st3 _ L3 (Go.lay hd) (r3.lay hd) (.tup (r3.fresh hd) upd_same ((as.go (Go.lay hd)).cut lo hi) (Nat.le_trans (cutT_le _ _ _) z1)) h3
      | scr ns =>
        have h3 : Q (.lst (cutT (ns.map T.int) lo hi)) st3 := h3
        have ta : ∀ (H' : Hp) (ms : List Int), Tas c L3 F H' (ms.map V.int) (ms.map T.int) := fun H' ms => by
          induction ms with
          | nil => exact .nil
          | cons m ms ih => exact .cons (.int m) ih
        cases a3 with
        | @scrF p o _ n1 hp z1 => exact .inl (.inl ⟨p, ns.map V.int, rfl, .inl (.inr ⟨o, hp⟩), fun d hd => k3 _ (.lst (cutT (ns.map T.int) lo hi)) st3 _ L3 (Go.lay hd) (r3.lay hd) (.lst (r3.fresh hd) upd_same ((ta _ ns).cut lo hi) (Nat.le_trans (cutT_le _ _ _) (by rw [List.length_map]; exact z1))) h3⟩)
        | @scrK p _ sk z1 => exact .inl (.inl ⟨p, ns.map V.int, rfl, .inr sk, fun d hd => k3 _ (.lst (cutT (ns.map T.int) lo hi)) st3 _ L3 (Go.lay hd) (r3.lay hd) (.lst (r3.fresh hd) upd_same ((ta _ ns).cut lo hi) (Nat.le_trans (cutT_le _ _ _) (by rw [List.length_map]; exact z1))) h3⟩)
      | _ => exact lists h3
end
end Vw

/-! a loop that fills a dict whose keys are tuples -/
namespace Gd
open PySem PySem.Spec PyProof.Rows L2
/-! a list, a tuple, or the empty tuple that is a default -/
structure Dft (K : PySem.W.Frag) (a : Addr) : Prop where
  at_ : ∃ (o : Obj) (n : Nat), K.lookup a = some o ∧ o.cls = .type "tuple" ∧ o.data = .seq #[] n
theorem Dft.sq {K : PySem.W.Frag} {a : Addr} (h : Dft K a) (H : Hp) : SqT K H a [] := by
  obtain ⟨o, n, h1, h2, h3⟩ := h.at_
  exact .inr ⟨o, #[], n, h1, h2, h3, by show 0 ≤ sizeLine; exact Nat.zero_le _, .nil⟩
theorem Dft.ty {K : PySem.W.Frag} {a : Addr} (h : Dft K a) (H : Hp) : TyX K H (.ref a) (.type "tuple") := by
  obtain ⟨o, n, h1, h2, h3⟩ := h.at_
  exact .kTuple h1 h2
def SeqR (K : PySem.W.Frag) (ds : List PyData) (F : List Addr) (v : V) (H : Hp) : Prop :=
  ∃ a, v = .ref a ∧ ((∃ xs, a ∉ F ∧ (H a = some (.lst xs) ∨ H a = some (.tup xs)) ∧ Das F H xs ds) ∨ (ds = [] ∧ Dft K a))
def SeqF (K : PySem.W.Frag) (ds : List PyData) : Fam :=
  ⟨SeqR K ds, fun F v H H' g ⟨a, e, h⟩ => ⟨a, e, h.imp (fun ⟨xs, n, h1, h2⟩ => ⟨xs, n, h1.imp (g a _ n) (g a _ n), h2.gr g⟩) id⟩,
    fun F p v H hp ⟨a, e, h⟩ => ⟨a, e, h.imp (fun ⟨xs, n, h1, h2⟩ => ⟨xs, fun m => (List.mem_cons.mp m).elim (fun z => by rcases h1 with h1 | h1 <;> exact ne_of_none h1 hp z) n, h1, h2.bar hp⟩) id⟩,
    fun F G v H s ⟨a, e, h⟩ => ⟨a, e, h.imp (fun ⟨xs, n, h1, h2⟩ => ⟨xs, fun m => n (s a m), h1, h2.less s⟩) id⟩⟩
theorem seqF_of {K : PySem.W.Frag} {F : List Addr} {H : Hp} {v : V} {d : PyData} {ds : List PyData} (h : Da F H v d) (q : isSeq d ds) : (SeqF K ds).R F v H := by
  rcases q with rfl | rfl
  · cases h with
    | lst n h k => exact ⟨_, rfl, .inl ⟨_, n, .inl h, k⟩⟩
  · cases h with
    | tup n h k => exact ⟨_, rfl, .inl ⟨_, n, .inr h, k⟩⟩
theorem seqF_dft {K : PySem.W.Frag} {F : List Addr} {H : Hp} {a : Addr} (h : Dft K a) : (SeqF K []).R F (.ref a) H := ⟨a, rfl, .inr ⟨rfl, h⟩⟩
def Flat (ab : List Ab) : Prop := ∀ (i : Nat) (a : Ab), ab[i]? = some a → a = .any ∨ a = .bag ∨ (∃ x, a = .dat x) ∨ ∃ K ds, a = .fam (SeqF K ds)
section
variable {Hi : List Hp} {H H' : Hp} {F : List Addr} {B : Bag} {σ : L2.St} {ab : List Ab} {d : Addr} {u u' : HO}
mutual
theorem Da.skip (nu : NoData u) (e : H d = some u) : ∀ {v : V} {x : PyData}, Da F H v x → Da (d :: F) H v x
  | _, _, .non => .non
  | _, _, .bl b => .bl b
  | _, _, .int i => .int i
  | _, _, .str x => .str x
  | _, _, .lst (a := a) n h k => .lst (fun m => (List.mem_cons.mp m).elim (fun z => by have h2 : H a = some (.lst _) := h; rw [z, e] at h2; exact nu.1 _ (Option.some.inj h2)) n) h (Das.skip nu e k)
  | _, _, .tup (a := a) n h k => .tup (fun m => (List.mem_cons.mp m).elim (fun z => by have h2 : H a = some (.tup _) := h; rw [z, e] at h2; exact nu.2.1 _ (Option.some.inj h2)) n) h (Das.skip nu e k)
  | _, _, .dct (a := a) n h q k => .dct (fun m => (List.mem_cons.mp m).elim (fun z => by have h2 : H a = some (.dK _) := h; rw [z, e] at h2; exact nu.2.2 _ (Option.some.inj h2)) n) h q (Das.skip nu e k)
theorem Das.skip (nu : NoData u) (e : H d = some u) : ∀ {vs : List V} {xs : List PyData}, Das F H vs xs → Das (d :: F) H vs xs
  | _, _, .nil => .nil
  | _, _, .cons h k => .cons (Da.skip nu e h) (Das.skip nu e k)
end
theorem Flat.plain : ∀ {ab : List Ab}, Flat ab → Plain ab
  | [], _ => trivial
  | a :: r, h => by
    have t : Plain r := Flat.plain fun i a e => h (i + 1) a e
    rcases h 0 a rfl with rfl | rfl | ⟨x, rfl⟩ | ⟨K, ds, rfl⟩ <;> exact t
theorem Sl.skip (f : Flat ab) (nu : NoData u) (e : H d = some u) (h : Sl F B H σ ab) : Sl (d :: F) B H σ ab := ⟨h.len, fun i a o e1 e2 => by
  have q := h.ok i a o e1 e2
  rcases f i a e1 with rfl | rfl | ⟨x, rfl⟩ | ⟨K, ds, rfl⟩
  · trivial
  · exact q
  · obtain ⟨v, ev, k⟩ := q
    exact ⟨v, ev, k.skip nu e⟩
  · obtain ⟨v, ev, b, eb, k⟩ := q
    refine ⟨v, ev, b, eb, k.imp (fun ⟨xs, n, h1, h2⟩ => ⟨xs, fun m => (List.mem_cons.mp m).elim (fun z => ?_) n, h1, h2.skip nu e⟩) id⟩
    rcases h1 with h1 | h1
    · rw [z, e] at h1; exact nu.1 _ (Option.some.inj h1)
    · rw [z, e] at h1; exact nu.2.1 _ (Option.some.inj h1)⟩
theorem Sl.awayF (f : Flat ab) (nu : NoData u) (e : H d = some u) (h : Sl F B H σ ab) : Sl F B (upd H d u') σ ab := ⟨h.len, fun i a o e1 e2 => by
  have q := h.ok i a o e1 e2
  rcases f i a e1 with rfl | rfl | ⟨x, rfl⟩ | ⟨K, ds, rfl⟩
  · trivial
  · exact q
  · obtain ⟨v, ev, k⟩ := q
    exact ⟨v, ev, k.away nu e⟩
  · obtain ⟨v, ev, b, eb, k⟩ := q
    refine ⟨v, ev, b, eb, k.imp (fun ⟨xs, n, h1, h2⟩ => ⟨xs, n, ?_, h2.away nu e⟩) id⟩
    have bd : b ≠ d := fun z => by
      rcases h1 with h1 | h1
      · rw [z, e] at h1; exact nu.1 _ (Option.some.inj h1)
      · rw [z, e] at h1; exact nu.2.1 _ (Option.some.inj h1)
    rw [upd_ne bd]
    exact h1⟩
theorem St.more (e : H d ≠ Option.none) (s : St Hi F B H) : St Hi (d :: F) B H := ⟨s.ch, fun p m => (List.mem_cons.mp m).elim (fun z => z ▸ e) (s.tr p), fun b l q => by
  obtain ⟨h1, h2, h3⟩ := s.bag b l q
  exact ⟨List.mem_cons_of_mem _ h1, List.mem_cons_of_mem _ h2, h3⟩⟩
theorem set_back {r : Nat} {a : Ab} (e : ab[r]? = some a) : ab.set r a = ab := by
  obtain ⟨h, e2⟩ := List.getElem?_eq_some_iff.mp e
  rw [← e2]
  exact List.set_getElem_self h
theorem ok_forG {K : PySem.W.Frag} {wi : TI} {tb : TS} {D : Ends} {i r : Nat} {kv : Nat → List (List L2.Key × V)} {ds : List PyData} (ir : i ≠ r) (er : ab[r]? = some (.obj (isD d (.dT (kv 0))))) (dF : d ∉ F) (nA : ∀ A ∈ Hi, A d = none)
    (nB : ∀ b l, B = some (b, l) → b ≠ d ∧ l ≠ d) (hs : Src Hi (d :: F) B (ab.set r .any) K wi (· = ds)) (I : Nat → List Ab → Prop) (h0 : I 0 (ab.set r .any)) (fl : ∀ k ab', I k ab' → Flat ab' ∧ ab'[r]? = some .any)
    (hb : ∀ (k : Nat) (x : PyData) (ab' : List Ab) (Hj : List Hp) (N : L2.St → Hp → Prop), ds[k]? = some x → I k ab' → (∀ A ∈ Hi, A ∈ Hj) →
      (∀ ab2 σ H, I (k + 1) ab2 → St Hj F B H → Sl F B H σ (ab2.set r (.obj (isD d (.dT (kv k))))) → N σ (upd H d (.dT (kv (k + 1))))) →
      Ok Hj F B tb { D with nx := N, ct := N, bk := D.nx } ((ab'.set i (.dat x)).set r (.obj (isD d (.dT (kv k))))))
    (hd : ∀ ab', I ds.length ab' → OkK Hi F B D.nx (ab'.set r (.obj (isD d (.dT (kv ds.length)))))) : Ok Hi F B (tFor wi (gName i) tb) D ab := fun σ H s l => by
  obtain ⟨v, ev, ed, eH⟩ := l.obj er
  subst ed
  have dob : d ∉ ob B := fun m => dF (ob_sub s d m)
  have l1 : Sl (d :: F) B H σ (ab.set r .any) := Sl.skip (fl 0 _ h0).1 (noData_T (kvs := kv 0)) eH (l.tell ev trivial)
  refine hs σ H _ (s.more (by rw [eH]; exact fun z => nomatch z)) l1 fun J H1 ds' c1 s1 p z hJ => ?_
  have p' : ds = ds' := Eq.symm p
  subst p'
  have eH1 : H1 d = some (.dT (kv 0)) := c1 d _ dob eH
  have s1' : St Hi F B H1 := ⟨s1.ch, fun q m => s1.tr q (List.mem_cons_of_mem _ m), fun b l e => ⟨(s.bag b l e).1, (s.bag b l e).2.1, (s.bag b l e).2.2.1, (s1.bag b l e).2.2.2⟩⟩
  refine ⟨fun k m σ2 H2 => m = ds.length - k ∧ k ≤ ds.length ∧ σ2[r]? = some (some (.ref d)) ∧ H2 d = some (.dT (kv k)) ∧ Gr (d :: ob B) H1 H2 ∧ St Hi F B H2 ∧ ∃ ab', I k ab' ∧ Sl (d :: F) B H2 σ2 ab',
    ⟨ds.length, by simp, Nat.zero_le _, ev, eH1, Gr.refl _ _, s1', _, h0, l1.gr (Gr.wide c1 fun q m => List.mem_cons_of_mem _ (ob_sub s q m))⟩, ?_⟩
  rintro k m σ2 H2 ⟨rfl, hk, e2, eH2, g2, s2, ab', i1, l2⟩
  have gw : Gr (d :: F) H1 H2 := g2.wide fun q m => (List.mem_cons.mp m).elim (fun z => z ▸ List.mem_cons_self) fun m => List.mem_cons_of_mem _ (ob_sub s q m)
  obtain ⟨j1, j2, j3⟩ := hJ H2 k gw
  obtain ⟨f1, r1⟩ := fl k ab' i1
  by_cases hlt : k < ds.length
  · refine .inr ⟨j1 hlt, fun σ3 H3 => k + 1 ≤ ds.length ∧ σ3[r]? = some (some (.ref d)) ∧ H3 d = some (.dT (kv (k + 1))) ∧ Gr (d :: ob B) H1 H3 ∧ St Hi F B H3 ∧ ∃ ab', I (k + 1) ab' ∧ Sl (d :: F) B H3 σ3 ab',
      fun σ3 H3 ⟨a1, a2⟩ => ⟨ds.length - (k + 1), by omega, rfl, a1, a2⟩, fun x H3 y => ?_⟩
    obtain ⟨e3, dx, ex, kx⟩ := j3 x H3 hlt y
    subst e3
    refine hb k dx ab' (H3 :: Hi) _ ex i1 (fun A m => List.mem_cons_of_mem _ m) (fun ab2 σ4 H4 i2 s4 l4 => ?_) _ H3 s2.push ?_
    · obtain ⟨f2, r2⟩ := fl (k + 1) ab2 i2
      have lr : r < ab2.length := (List.getElem?_eq_some_iff.mp r2).1
      obtain ⟨v4, e4, q4, eH4⟩ := l4.obj (List.getElem?_set_self lr)
      subst q4
      have l5 : Sl F B H4 σ4 ab2 := by
        have t := l4.tell (i := r) (a := .any) e4 trivial
        rw [List.set_set, set_back r2] at t
        exact t
      have g4 : Gr (ob B) H3 H4 := s4.ch H3 List.mem_cons_self
      refine ⟨hlt, e4, upd_same, (g2.trans (g4.wide fun q m => List.mem_cons_of_mem _ m)).trans (Gr.at List.mem_cons_self), St.put nA nB (s4.sub fun A m => List.mem_cons_of_mem _ m), ab2, i2, ?_⟩
      exact Sl.skip f2 (noData_T (kvs := kv (k + 1))) upd_same (l5.awayF f2 (noData_T (kvs := kv k)) eH4)
    · have l3 : Sl F B H3 (σ2.set i (some x)) (ab'.set i (.dat dx)) := Sl.set (a := .dat dx) (l2.unbar f1.plain) ⟨x, rfl, (kx.gr gw).less fun q m => List.mem_cons_of_mem _ m⟩
      refine l3.tell (v := .ref d) ?_ ⟨isD_stab dF, _, rfl, rfl, eH2⟩
      rw [List.getElem?_set_ne ir]
      exact e2
  · have ek : k = ds.length := by omega
    subst ek
    exact .inl ⟨j2 (Nat.le_refl _), hd ab' i1 σ2 H2 s2 ((l2.unbar f1.plain).tell e2 ⟨isD_stab dF, _, rfl, rfl, eH2⟩)⟩
theorem src_fam {K : PySem.W.Frag} {i : Nat} {ds : List PyData} (e : ab[i]? = some (.fam (SeqF K ds))) (z : ds.length ≤ 100000) : Src Hi F B ab K (iOr (iList K (tVar i)) (iTup K (tVar i))) (· = ds) := fun σ H R s l q => by
  obtain ⟨v, ev, a, rfl, k⟩ := l.fam e
  rcases k with ⟨xs, nf, h1, kx⟩ | ⟨rfl, df⟩
  · rcases h1 with h1 | h1
    · refine .inl ⟨_, ev, a, rfl, ⟨xs, .inl (.inl h1)⟩, q _ H ds (Gr.refl _ H) s rfl z fun H2 i g => ?_⟩
      have h2 : SqL K H2 a xs := .inl (.inl (g _ _ nf h1))
      refine ⟨fun lt => ⟨xs, xs[i]'(by rw [kx.length]; exact lt), h2, List.getElem?_eq_getElem _⟩, fun le => ⟨xs, h2, by rw [kx.length]; exact le⟩, fun x H3 lt y => ?_⟩
      obtain ⟨e3, y⟩ := y
      exact ⟨e3, kx.get (y xs h2)⟩
    · refine .inr ⟨_, ev, a, rfl, ⟨xs, .inl (.inl h1)⟩, q _ H ds (Gr.refl _ H) s rfl z fun H2 i g => ?_⟩
      have h2 : SqT K H2 a xs := .inl (.inl (g _ _ nf h1))
      refine ⟨fun lt => ⟨xs, xs[i]'(by rw [kx.length]; exact lt), h2, List.getElem?_eq_getElem _⟩, fun le => ⟨xs, h2, by rw [kx.length]; exact le⟩, fun x H3 lt y => ?_⟩
      obtain ⟨e3, y⟩ := y
      exact ⟨e3, kx.get (y xs h2)⟩
  · refine .inr ⟨_, ev, a, rfl, ⟨[], df.sq H⟩, q _ H [] (Gr.refl _ H) s rfl (Nat.zero_le _) fun H2 i g => ?_⟩
    exact ⟨fun lt => absurd lt (Nat.not_lt_zero _), fun le => ⟨[], df.sq H2, Nat.zero_le _⟩, fun x H3 lt y => absurd lt (Nat.not_lt_zero _)⟩
/-- isinstance(x, (list, tuple)) of such a thing -/
theorem ek_isiF {K : PySem.W.Frag} {i : Nat} {ds : List PyData} (e : ab[i]? = some (.fam (SeqF K ds))) : Ek Hi F B ab (tCB (rIsiT K) (tCons (tVar i) (tCons (tTup (tCons (tC (.ty "list")) (tCons (tC (.ty "tuple")) tNil))) tNil))) (.bool true) := fun σ H Q s l q => by
  obtain ⟨v, ev, a, rfl, k⟩ := l.fam e
  refine ⟨_, ev, by show 2 ≤ sizeLine; decide, fun t ht => ?_⟩
  have g : Gr F H (upd H t (.tup [.ty "list", .ty "tuple"])) := Gr.new ht
  have g0 : Gr [] H (upd H t (.tup [.ty "list", .ty "tuple"])) := Gr.new ht
  have ty : TyX K (upd H t (.tup [.ty "list", .ty "tuple"])) (.ref a) (.type "list") ∨ TyX K (upd H t (.tup [.ty "list", .ty "tuple"])) (.ref a) (.type "tuple") := by
    rcases k with ⟨xs, nf, h1, kx⟩ | ⟨_, df⟩
    · rcases h1 with h1 | h1
      · exact .inl (.base (.lst (g _ _ nf h1)))
      · exact .inr (.base (.tup (g _ _ nf h1)))
    · exact .inr (df.ty _)
  rcases ty with ty | ty
  · exact ⟨.ref a, t, [.ty "list", .ty "tuple"], .type "list", [.type "list", .type "tuple"], true, rfl, upd_same, .cons (.ty "list") (.cons (.ty "tuple") .nil), ty, kitAny_cons (kit_ty (r := true) rfl) (fun z => nomatch z) (fun _ => rfl), q _ _ _ (ch_of g0) (s.same g0) (.bl _) rfl⟩
  · exact ⟨.ref a, t, [.ty "list", .ty "tuple"], .type "tuple", [.type "list", .type "tuple"], true, rfl, upd_same, .cons (.ty "list") (.cons (.ty "tuple") .nil), ty, kitAny_cons (kit_ty (r := false) rfl) (fun _ => kitAny_cons (kit_ty (r := true) rfl) (fun z => nomatch z) fun _ => rfl) (fun z => nomatch z), q _ _ _ (ch_of g0) (s.same g0) (.bl _) rfl⟩
/-- a def of one value that is told as a family -/
def SpF (R : Fam → Prop) (post : PyData → Prop) : Sp := fun vs H Q _ => ∃ (F : List Addr) (v : V) (M : Fam), (∀ p ∈ F, H p ≠ Option.none) ∧ vs = [v] ∧ R M ∧ M.R F v H ∧ ∀ v' d H', Gr [] H H' → Da F H' v' d → post d → Q v' H'
theorem fam_body {R : Fam → Prop} {post : PyData → Prop} {N : List Str} {t : TS} {vs : List V} {H : Hp} {Q : VK} {E : XK} (h : SpF R post vs H Q E) (n : Nat) (e : N.length = 1 + n)
    (k : ∀ (F : List Addr) (M : Fam), R M → (∀ v d H', St [H] F Option.none H' → Da F H' v d → post d → Q v H') → Ok [H] F Option.none t { nx := fun _ H' => Q .non H', rt := Q } (.fam M :: List.replicate n .any)) :
    t { nx := fun _ H' => Q .non H', rt := Q } (L2.start N vs) H := by
  obtain ⟨F, v, M, tr, rfl, hr, mv, q⟩ := h
  refine k F M hr (fun v d H' s a p => q v d H' (s.ch H List.mem_cons_self) a p) _ H ⟨fun A m => ?_, tr, fun b l z => (nomatch z)⟩ ⟨?_, fun i a o e1 e2 => ?_⟩
  · have e : A = H := by simpa using m
    rw [e]
    exact Gr.refl _ _
  · unfold L2.start
    simp
    omega
  · cases i with
    | zero =>
      cases (Option.some.inj e1)
      have e3 : (L2.start N [v])[0]? = some (some v) := rfl
      rw [e3] at e2
      cases (Option.some.inj e2)
      exact ⟨v, rfl, mv⟩
    | succ i =>
      have z : a = .any := by
        have e4 : (List.replicate n Ab.any)[i]? = some a := e1
        rw [List.getElem?_replicate] at e4
        split at e4
        · exact (Option.some.inj e4).symm
        · cases e4
      subst z
      trivial
theorem ev_callF {R : Fam → Prop} {post φ : PyData → Prop} {E : XK} {i : Nat} {M : Fam} (e : ab[i]? = some (.fam M)) (hR : R M) (hq : ∀ d, post d → φ d) : Ev Hi F B ab (tCall (SpF R post) [] E (tCons (tVar i) tNil)) φ := fun σ H Q s l q => by
  obtain ⟨v, ev, mv⟩ := l.fam e
  refine ⟨v, ev, ?_⟩
  show SpF R post ([v] ++ []) H Q E
  exact ⟨F, v, M, s.tr, rfl, hR, mv, fun v' d H' g a p => q v' d H' (ch_of g) (s.same g) a (hq d p)⟩
/-- d[pair] = truth, the last of a block -/
theorem ok_dput {D : Ends} {ty tv : TE} {r : Nat} {kvs : List (List L2.Key × V)} {p : SP} {t : Bool} (er : ab[r]? = some (.obj (isD d (.dT kvs)))) (h1 : Ek Hi F B ab tv (.bool t)) (h2 : Ek Hi F B ab ty (pr p)) (z : kvs.length ≤ 100000)
    (k : ∀ σ H, St Hi F B H → Sl F B H σ ab → D.nx σ (upd H d (.dT (putK kvs (keyP p) (V.bl t))))) : Ok Hi F B (sDPut (tVar r) ty tv) D ab := fun σ H s l =>
  h1 σ H _ s l fun v x H1 c1 s1 a1 e1 => by
    subst e1
    cases a1
    have l1 := l.gr (Ch.wide c1 s)
    obtain ⟨v1, e2, q1, eH⟩ := l1.obj er
    subst q1
    refine ⟨_, e2, h2 σ H1 _ s1 l1 fun y dy H2 c2 s2 a2 e3 => ?_⟩
    subst e3
    have l2 := l1.gr (Ch.wide c2 s1)
    obtain ⟨v3, e4, q3, eH2⟩ := l2.obj er
    rw [e2] at e4
    cases e4
    cases a2 with
    | @tup a xs _ nf hx kx =>
      cases kx with
      | cons b1 kx =>
        cases kx with
        | cons b2 kx =>
          cases kx
          cases b1
          cases b2
          exact ⟨d, _, rfl, .inr ⟨kvs, keyP p, a, eH2, rfl, hx, Nat.lt_of_le_of_lt z (by decide), rfl⟩, k σ H2 s2 l2⟩
/-- pair in d -/
theorem etk_dT {ty : TE} {r : Nat} {kvs : List (List L2.Key × V)} {p : SP} (er : ab[r]? = some (.obj (isD d (.dT kvs)))) (h : Ek Hi F B ab ty (pr p)) : EkT Hi F B ab (tB (tDIn ty (tVar r))) (valV kvs (keyP p)).isSome := fun σ H Q s l q =>
  h σ H _ s l fun y dy H2 c2 s2 a2 e3 => by
    subst e3
    obtain ⟨v3, e4, q3, eH2⟩ := (l.gr (Ch.wide c2 s)).obj er
    subst q3
    cases a2 with
    | @tup a xs _ nf hx kx =>
      cases kx with
      | cons b1 kx =>
        cases kx with
        | cons b2 kx =>
          cases kx
          cases b1
          cases b2
          exact ⟨_, e4, d, _, rfl, .inr ⟨kvs, keyP p, a, .inl eH2, rfl, hx, rfl⟩, _, rfl, q _ H2 c2 s2 rfl⟩
/-- d[pair] -/
theorem ek_dgetT {ty : TE} {r : Nat} {kvs : List (List L2.Key × V)} {p : SP} {t : Bool} (er : ab[r]? = some (.obj (isD d (.dT kvs)))) (h : Ek Hi F B ab ty (pr p)) (e : valV kvs (keyP p) = some (V.bl t)) : Ek Hi F B ab (tDGet (tVar r) ty) (.bool t) := fun σ H Q s l q => by
  obtain ⟨v1, e2, q1, eH⟩ := l.obj er
  subst q1
  refine ⟨_, e2, h σ H _ s l fun y dy H2 c2 s2 a2 e3 => ?_⟩
  subst e3
  obtain ⟨v3, e4, q3, eH2⟩ := (l.gr (Ch.wide c2 s)).obj er
  rw [e2] at e4
  cases e4
  cases a2 with
  | @tup a xs _ nf hx kx =>
    cases kx with
    | cons b1 kx =>
      cases kx with
      | cons b2 kx =>
        cases kx
        cases b1
        cases b2
        exact ⟨d, V.bl t, rfl, .inr ⟨kvs, keyP p, a, .inl eH2, rfl, hx, e.symm⟩, q _ _ H2 c2 s2 (.bl t) rfl⟩
end
end Gd

/-! answers as data, and what a dict by their pairs gathers -/
namespace Gd
open PySem PySem.Spec PyProof.Rows L2
abbrev SA := SP × Bool
/-- an answer -/
def an (a : SA) : PyData := .tuple [.str a.1.1, .str a.1.2, .bool a.2]
def ans (As : List SA) : List PyData := As.map an
def kvA (L : List SA) : List (List L2.Key × V) := L.map fun a => (keyP a.1, V.bl a.2)
def addA (L : List SA) (a : SA) : List SA := if a.1 ∈ L.map (·.1) then L else L ++ [a]
def gather (As : List SA) : List SA := As.foldl addA []
/-- no two of them contradict each other -/
def Cons (As : List SA) : Prop := ∀ a ∈ As, ∀ b ∈ As, a.1 = b.1 → a.2 = b.2
theorem valV_kvA {p : SP} : ∀ {L : List SA}, valV (kvA L) (keyP p) = (L.find? fun a => decide (a.1 = p)).map fun a => V.bl a.2
  | [] => rfl
  | a :: L => by
    show valV ((keyP a.1, V.bl a.2) :: kvA L) (keyP p) = _
    by_cases e : a.1 = p
    · subst e
      rw [valV_pos rfl]
      simp
    · rw [valV_neg (fun z => e (keyP_inj z)), valV_kvA]
      simp [e]
theorem has_kvA {p : SP} {L : List SA} : (valV (kvA L) (keyP p)).isSome = decide (p ∈ L.map (·.1)) := by
  rw [valV_kvA, Option.isSome_map]
  by_cases h : p ∈ L.map (·.1)
  · rw [decide_eq_true h]
    obtain ⟨a, m, e⟩ := List.mem_map.mp h
    rw [List.find?_isSome]
    exact ⟨a, m, by simpa using e⟩
  · rw [decide_eq_false h, Bool.eq_false_iff]
    intro z
    rw [List.find?_isSome] at z
    obtain ⟨a, m, e⟩ := z
    exact h (List.mem_map.mpr ⟨a, m, by simpa using e⟩)
theorem get_kvA {a : SA} {L : List SA} (c : ∀ b ∈ L, b.1 = a.1 → b.2 = a.2) (h : a.1 ∈ L.map (·.1)) : valV (kvA L) (keyP a.1) = some (V.bl a.2) := by
  have t := has_kvA (p := a.1) (L := L)
  rw [decide_eq_true h, valV_kvA, Option.isSome_map] at t
  rw [valV_kvA]
  obtain ⟨b, e⟩ := Option.isSome_iff_exists.mp t
  rw [e]
  have m := List.mem_of_find?_eq_some e
  have k : b.1 = a.1 := by simpa using List.find?_some e
  show some (V.bl b.2) = _
  rw [c b m k]
theorem put_kvA {a : SA} {L : List SA} (c : ∀ b ∈ L, b.1 = a.1 → b.2 = a.2) : putK (kvA L) (keyP a.1) (V.bl a.2) = kvA (addA L a) := by
  unfold addA
  by_cases h : a.1 ∈ L.map (·.1)
  · rw [if_pos h]
    unfold putK
    rw [valV_any, has_kvA, decide_eq_true h, if_pos rfl]
    unfold kvA
    rw [List.map_map]
    refine List.map_congr_left fun b m => ?_
    show (if keyP b.1 = keyP a.1 then (keyP b.1, V.bl a.2) else (keyP b.1, V.bl b.2)) = _
    split
    · rename_i e
      rw [c b m (keyP_inj e)]
    · rfl
  · rw [if_neg h, putK_new]
    · unfold kvA
      rw [List.map_append]
      rfl
    · have t := has_kvA (p := a.1) (L := L)
      rw [decide_eq_false h] at t
      cases e : valV (kvA L) (keyP a.1) with
      | none => rfl
      | some v => rw [e] at t; cases t
theorem mem_add {b a : SA} {L : List SA} (h : b ∈ addA L a) : b ∈ L ∨ b = a := by
  unfold addA at h
  split at h
  · exact .inl h
  · rcases List.mem_append.mp h with h | h
    · exact .inl h
    · exact .inr (by simpa using h)
theorem mem_fold {b : SA} : ∀ {As L : List SA}, b ∈ As.foldl addA L → b ∈ L ∨ b ∈ As
  | [], _, h => .inl h
  | a :: As, L, h => by
    rcases mem_fold (As := As) h with h | h
    · rcases mem_add h with h | h
      · exact .inl h
      · exact .inr (h ▸ List.mem_cons_self)
    · exact .inr (List.mem_cons_of_mem _ h)
theorem gather_mem {b : SA} {As : List SA} (h : b ∈ gather As) : b ∈ As := (mem_fold h).elim (fun z => nomatch z) id
theorem gather_succ {As : List SA} {k : Nat} {a : SA} (e : As[k]? = some a) : gather (As.take (k + 1)) = addA (gather (As.take k)) a := by
  unfold gather
  rw [List.take_succ, e, List.foldl_append]
  rfl
theorem len_fold : ∀ {As L : List SA}, (As.foldl addA L).length ≤ L.length + As.length
  | [], _ => Nat.le_refl _
  | a :: As, L => by
    have h := len_fold (As := As) (L := addA L a)
    have g : (addA L a).length ≤ L.length + 1 := by
      unfold addA
      split
      · omega
      · simp
    simp only [List.foldl_cons, List.length_cons]
    omega
theorem gather_len {As : List SA} : (gather As).length ≤ As.length := by
  have h := len_fold (As := As) (L := [])
  simpa [gather] using h
theorem keys_fold : ∀ {As L : List SA}, (L.map (·.1)).Nodup → ((As.foldl addA L).map (·.1)).Nodup
  | [], _, h => h
  | a :: As, L, h => by
    refine keys_fold (As := As) ?_
    unfold addA
    split
    · exact h
    · rename_i n
      rw [List.map_append, List.nodup_append]
      refine ⟨h, by simp, fun p m q mq e => n ?_⟩
      have eq : q = a.1 := by simpa using mq
      rw [← eq, ← e]
      exact m
theorem gather_nodup {As : List SA} : ((gather As).map (·.1)).Nodup := keys_fold (by simp)
theorem fold_has : ∀ {As L : List SA} {p : SP}, p ∈ L.map (·.1) ∨ p ∈ As.map (·.1) → p ∈ (As.foldl addA L).map (·.1)
  | [], _, _, h => h.elim id fun z => nomatch z
  | a :: As, L, p, h => by
    refine fold_has (As := As) ?_
    by_cases m : p ∈ As.map (·.1)
    · exact .inr m
    · refine .inl ?_
      unfold addA
      split
      · rename_i q
        rcases h with h | h
        · exact h
        · rcases List.mem_cons.mp (by simpa only [List.map_cons] using h) with e | e
          · exact e ▸ q
          · exact absurd e m
      · rw [List.map_append, List.mem_append]
        rcases h with h | h
        · exact .inl h
        · rcases List.mem_cons.mp (by simpa only [List.map_cons] using h) with e | e
          · exact .inr (by simp [e])
          · exact absurd e m
/-- of answers that contradict each other nowhere all are gathered -/
theorem mem_gather {As : List SA} (c : Cons As) {a : SA} : a ∈ gather As ↔ a ∈ As := by
  refine ⟨gather_mem, fun m => ?_⟩
  obtain ⟨b, mb, e⟩ := List.mem_map.mp (fold_has (As := As) (L := []) (p := a.1) (.inr (List.mem_map.mpr ⟨a, m, rfl⟩)))
  have h2 : b.2 = a.2 := c b (gather_mem mb) a m e
  have eb : b = a := Prod.ext e h2
  exact eb ▸ mb
theorem Cons.take {As : List SA} (c : Cons As) {k : Nat} {a : SA} (e : As[k]? = some a) : ∀ b ∈ gather (As.take k), b.1 = a.1 → b.2 = a.2 := fun b m h =>
  c b (List.mem_of_mem_take (gather_mem m)) a (List.mem_of_getElem? e) h
theorem ok_dnewT {Hi : List Hp} {F : List Addr} {B : Bag} {ab : List Ab} {D : Ends} {i : Nat} (k : ∀ p, p ∉ F → (∀ A ∈ Hi, A p = none) → (∀ b l, B = some (b, l) → b ≠ p ∧ l ≠ p) → OkK Hi F B D.nx (ab.set i (.obj (isD p (.dT []))))) :
    Ok Hi F B (tAsg tDNewT (gName i)) D ab := fun σ H s l p hp =>
  k p (s.nF hp) (St.none (H' := H) s hp) (fun b l e => ⟨fun z => s.nF hp (z ▸ (s.bag b l e).1), fun z => s.nF hp (z ▸ (s.bag b l e).2.1)⟩) _ _ (s.same (Gr.new hp)) (Sl.set (a := .obj _) (l.gr (Gr.new hp)) ⟨isD_stab (s.nF hp), _, rfl, rfl, upd_same⟩)
end Gd

/-! sorted(d) of a dict whose keys are pairs of texts -/
namespace Gd
open PySem PySem.Spec PyProof.Rows L2
open PySem.W (EachIs AllAlike Sortable dataLe keyToks keyToksAll alike alikeAll)
def atP (H : Hp) (b : Addr) (z : SP) : Prop := H b = some (.tup [.str z.1, .str z.2])
def rSortT : List V → Hp → VK → Prop := fun xs H Q => ∃ (d : Addr) (kvs : List (List L2.Key × V)) (ks : List SP), xs = [.ref d] ∧ H d = some (.dT kvs) ∧ kvs.map (·.1) = ks.map keyP ∧ ks.length ≤ 1000 ∧
  ∀ (p : Addr) (bs : List Addr) (zs : List SP), H p = none → prs zs = sortD (prs ks) → Paired (atP H) bs zs → Q (.ref p) (upd H p (.lst (bs.map V.ref)))
theorem keys_at {H : Hp} : ∀ {kvs : List (List L2.Key × V)} {xs : List (List L2.Key × Addr × Value)} {ks : List SP}, Paired (fun (p : List L2.Key × V) (q : List L2.Key × Addr × Value) => p.1 = q.1 ∧ H q.2.1 = some (.tup (p.1.map kV)) ∧ RelV p.2 q.2.2) kvs xs →
    kvs.map (·.1) = ks.map keyP → Paired (atP H) (xs.map fun x => x.2.1) ks
  | [], [], [], _, _ => .nil
  | p :: kvs, x :: xs, k :: ks, .cons h t, e => by
    have e2 := List.cons.inj (show p.1 :: kvs.map (·.1) = keyP k :: ks.map keyP from e)
    refine .cons ?_ (keys_at t e2.2)
    show H x.2.1 = some (.tup [.str k.1, .str k.2])
    rw [h.2.1, e2.1]
    rfl
  | [], _ :: _, _, h, _ => nomatch h
  | _ :: _, [], _, h, _ => nomatch h
  | [], [], _ :: _, _, e => nomatch e
  | _ :: _, _ :: _, [], _, e => nomatch e
theorem pair_reads {X : Cx} {pins : List (Addr × Obj)} {σ : L2.St} {H : Hp} {s : Shared} (I : Inv X pins σ H s) {b : Addr} {z : SP} (h : atP H b z) : ∃ as, Reads s.heap (.ref b) (pr z) as ∧ ∀ a ∈ as, a < s.heap.objs.size := by
  obtain ⟨its, rv, pl, _⟩ := I.tuple (show SqT X.K H b [.str z.1, .str z.2] from .inl (.inl h))
  have lt : b < s.heap.objs.size := by
    obtain ⟨o, ho, _⟩ := pl
    exact Heap.lt_size ho
  cases rv with
  | cons r1 rv =>
    cases rv with
    | cons r2 rv =>
      cases rv
      obtain ⟨t1, rfl⟩ := r1
      obtain ⟨t2, rfl⟩ := r2
      obtain ⟨o, ho, hc, n, hdt⟩ := pl
      exact ⟨_, Reads.tuple ho hc hdt (ReadsAll.cons (Reads.str _ _) (ReadsAll.cons (Reads.str _ _) ReadsAll.nil)), fun a m => by simp at m⟩
theorem each_pairs {X : Cx} {pins : List (Addr × Obj)} {σ : L2.St} {H : Hp} {s : Shared} (I : Inv X pins σ H s) : ∀ {bs : List Addr} {ks : List SP}, Paired (atP H) bs ks →
    EachIs (fun u (c : Addr × SP) => (u = .ref c.1 ∧ atP H c.1 c.2) ∧ ∃ as, Reads s.heap u (pr c.2) as ∧ ∀ a ∈ as, a < s.heap.objs.size) (bs.map Value.ref) (bs.zip ks)
  | [], [], .nil => .nil
  | b :: bs, k :: ks, .cons h t => .cons ⟨⟨rfl, h⟩, pair_reads I h⟩ (each_pairs I t)
theorem zip_snd : ∀ {bs : List Addr} {ks : List SP} {H : Hp}, Paired (atP H) bs ks → ((bs.zip ks).map fun c => pr c.2) = prs ks ∧ (bs.zip ks).length = ks.length ∧ bs.length = ks.length
  | [], [], _, .nil => ⟨rfl, rfl, rfl⟩
  | b :: bs, k :: ks, _, .cons h t => by
    obtain ⟨h1, h2, h3⟩ := zip_snd t
    exact ⟨congrArg (pr k :: ·) h1, by simp only [List.zip_cons_cons, List.length_cons, h2], by simp only [List.length_cons, h3]⟩
theorem each_refs {H : Hp} : ∀ {out : List Value} {cs : List (Addr × SP)}, EachIs (fun u (c : Addr × SP) => u = .ref c.1 ∧ atP H c.1 c.2) out cs → out = (cs.map (·.1)).map Value.ref ∧ Paired (atP H) (cs.map (·.1)) (cs.map (·.2))
  | _, _, .nil => ⟨rfl, .nil⟩
  | _, _, .cons h t => ⟨by rw [h.1, (each_refs t).1]; rfl, .cons h.2 (each_refs t).2⟩
theorem alike_prs (ks : List SP) : AllAlike (prs ks) := by
  have e : prs ks = (ks.map fun k => [k.1, k.2]).map tupS := by rw [List.map_map]; rfl
  rw [e]
  exact alike_tups (n := 2) fun l m => by
    obtain ⟨k, _, e⟩ := List.mem_map.mp m
    rw [← e]
    rfl
theorem sortable_prs (ks : List SP) : Sortable (prs ks) := by
  have e : prs ks = (ks.map fun k => [k.1, k.2]).map tupS := by rw [List.map_map]; rfl
  rw [e]
  exact sortable_tups (n := 1) fun l m => by
    obtain ⟨k, _, e⟩ := List.mem_map.mp m
    rw [← e]
    rfl
theorem cr_sortT {X : Cx} (hc : X.calm = true) (hu : X.A.units + 64 < cLine) : CallR X (.builtin "sorted") rSortT := by
  intro pins s σ H xs us Q I r h
  obtain ⟨d, kvs, ks, rfl, hd, hks, hz, q⟩ := h
  obtain ⟨u, rfl, rx⟩ := vals1 r
  obtain rfl : u = Value.ref d := rx
  obtain ⟨z, hs, xs, pr1, o, es, ep, ho, hx, hdt, he, hn⟩ := (show ObjOk X.prog X.w H s.heap d (.dT kvs) from I.hok d _ hd)
  have l1 : es.size = xs.length := size_of_entries he
  have at1 := keys_at pr1 hks
  obtain ⟨m1, m2, m3⟩ := zip_snd at1
  have lx : xs.length = ks.length := by simpa using m3
  refine Calls.call_function_entry PyProof.Rows.kind_sorted PyProof.Rows.plain_sorted PyProof.Rows.entry_sorted (PyProof.Rows.args_sorted1 _) ?_
  unfold Builtin.«sorted»
  refine wpAny_bind (m := checkCount "sorted" 1 1 _) (wpAny_pure ?_)
  refine wpAny_bind (PySem.W.kdu_collect (A := X.A.in1) (kdl_raw hs hx hdt) (I.ok.hd hc) ho (by rw [l1, lx]; exact Nat.le_trans hz (by decide)) fun h' tk acc keep items => ?_)
  have ea : acc.toList = (xs.map fun x => x.2.1).map Value.ref := by
    apply List.ext_getElem?
    intro j
    rw [List.map_map, List.getElem?_map]
    have hl : acc.toList.length = xs.length := by rw [Array.length_toList, items.1]; exact l1
    cases hj : acc.toList[j]? with
    | none =>
      have h1 := List.getElem?_eq_none_iff.mp hj
      rw [List.getElem?_eq_none (by omega)]
      rfl
    | some v =>
      obtain ⟨en, hen, hv⟩ := items.2 j v (by rw [← Array.getElem?_toList]; exact hj)
      have qe := entry_at he j
      rw [hen] at qe
      cases hb : xs[j]? with
      | none => rw [hb] at qe; exact nomatch qe
      | some b =>
        rw [hb] at qe
        rw [hv, Option.some.inj qe]
        rfl
  have I1 : Inv X pins σ H { s with heap := h', toks := tk } := I.kept keep
  have la : acc.toList.length = ks.length := by rw [ea, List.length_map, List.length_map]; exact lx
  refine wpAny_bind (wpAny_newList ?_ (by rw [la]; exact Nat.le_trans hz (by decide)))
  have gL : (h'.push (seqObj "list" acc.toList.toArray 0)).get? h'.objs.size = some (seqObj "list" acc.toList.toArray 0) := Heap.get?_push_size _ rfl
  have eq1 := each_pairs I1 at1
  rw [← ea] at eq1
  have I2 : Inv X pins σ H { s with heap := h'.push (seqObj "list" acc.toList.toArray 0), toks := tk } := I1.kept fun b o e => Heap.get?_push_of_some _ e
  show wpAny _ _ _ _ _ { s with heap := h'.push (seqObj "list" acc.toList.toArray 0), toks := tk }
  refine wpAny_bind (wpAny_holding (PySem.W.list_sort_data (s := { s with heap := h'.push (seqObj "list" acc.toList.toArray 0), toks := tk }) (R := fun u (c : Addr × SP) => u = .ref c.1 ∧ atP H c.1 c.2) (enc := fun c => pr c.2) (bs := (xs.map fun x => x.2.1).zip ks) gL
    (eq1.mono fun _ _ z => z.1) (eq1.mono fun u c z => ?_) (by rw [m1]; exact alike_prs ks) (by rw [m1]; exact sortable_prs ks) (by rw [m2]; exact Nat.le_trans hz (by decide)) (fun c _ => ?_) fun out lo eo => ?_))
  · obtain ⟨as, ra, lt⟩ := z.2
    exact ⟨as, PyProof.Rows.Reads.keeps (fun b o e => Heap.get?_push_of_some _ e) ra, fun m => Nat.lt_irrefl _ (lt _ m)⟩
  · show _ + 1 + PyData.depth (pr c.2) < cLine
    have : PyData.depth (pr c.2) ≤ 2 := by
      show PyData.depth (.tuple [.str c.2.1, .str c.2.2]) ≤ 2
      simp [PyData.depth, PyData.depthAll]
    have eu : X.A.in1.units = X.A.units + 1 := rfl
    rw [eu]
    omega
  · obtain ⟨e1, e2⟩ := each_refs eo
    obtain ⟨c', at'⟩ := PyProof.Rows.sortedHeap_at (vs := acc.toList) (out := List.toArray out) gL
    have perm := List.mergeSort_perm ((xs.map fun x => x.2.1).zip ks) (dataLe false fun c : Addr × SP => pr c.2)
    have mm : prs ((((xs.map fun x => x.2.1).zip ks).mergeSort (dataLe false fun c : Addr × SP => pr c.2)).map (·.2)) = sortD (prs ks) := by
      unfold prs sortD
      rw [List.map_map]
      refine (PySem.W.sort_maps (r := dataLe false fun c : Addr × SP => pr c.2) (s := dataLe false fun d : PyData => d) (fun c : Addr × SP => pr c.2) (fun _ _ _ _ => rfl)).trans ?_
      rw [m1]
      rfl
    have lq : (((((xs.map fun x => x.2.1).zip ks).mergeSort (dataLe false fun c : Addr × SP => pr c.2)).map (·.1)).map V.ref).length ≤ sizeLine := by
      rw [List.length_map, List.length_map, perm.length_eq, m2]
      exact Nat.le_trans hz (by decide)
    refine wpAny_pure ⟨_, rfl, .ref h'.objs.size, _, I1.laid (t' := tk) (o := .lst ((((xs.map fun x => x.2.1).zip ks).mergeSort (dataLe false fun c : Addr × SP => pr c.2)).map (·.1) |>.map V.ref)) (fun b u e => ?_) (Nat.le_refl _) ⟨lq, out, c', by rw [e1]; exact vals_refs _, at'⟩, rfl, q _ _ _ (I1.hok.fresh (Nat.le_refl _)) mm e2⟩
    have hb : b < h'.objs.size := Heap.lt_size e
    rw [PyProof.Rows.sortedHeap_old (Nat.ne_of_lt hb) (by rw [size_push']; exact Nat.lt_succ_of_lt hb)]
    exact Heap.get?_push_of_some _ e
end Gd

/-! making an object of answers: its dict, its list, its fields -/
namespace Gd
open PySem PySem.Spec PyProof.Rows L2
section
variable {Hi : List Hp} {H H' : Hp} {F : List Addr} {B : Bag} {σ : L2.St} {ab : List Ab} {d x : Addr} {u u' : HO} {K : PySem.W.Frag} {wi : TI} {tk tv : TE} {D : Ends} {i j r : Nat}
/-- x = {pair_of(answer): answer[2] for answer in answers} -/
theorem ok_dctA {As : List SA} (con : Cons As) (br : BarOk ab) (few : As.length ≤ 1000) (hs : Src Hi F B ab K wi (· = ans As))
    (hk : ∀ (k : Nat) (a : SA), As[k]? = some a → ∀ F', Ek Hi F' B ((awipe ab [j]).set j (.dat (an a))) tk (pr a.1))
    (hv : ∀ (k : Nat) (a : SA), As[k]? = some a → ∀ F', Ek Hi F' B ((awipe ab [j]).set j (.dat (an a))) tv (.bool a.2))
    (k : ∀ d, d ∉ F → (∀ A ∈ Hi, A d = none) → (∀ b l, B = some (b, l) → b ≠ d ∧ l ≠ d) → OkK Hi F B D.nx (ab.set i (.obj (isD d (.dT (kvA (gather As))))))) : Ok Hi F B (tAsg (tDcT wi (gName j) tk tv [j]) (gName i)) D ab := fun σ H s l =>
  hs σ H _ s l fun J H1 ds c1 s1 p z hJ A nA => by
    subst p
    have lz : (ans As).length = As.length := List.length_map ..
    have l1 : Sl F B H1 σ ab := l.gr (Ch.wide c1 s)
    have pA : A ∉ ob B := fun m => s1.tr A (ob_sub s1 A m) nA
    refine ⟨fun k m G => m = As.length - k ∧ k ≤ As.length ∧ G A = some (.dT (kvA (gather (As.take k)))) ∧ St Hi (A :: F) B G ∧ Gr (ob B) H1 G,
      ⟨As.length, by simp, Nat.zero_le _, upd_same, s1.bar nA, (show Gr [] H1 _ from Gr.new nA).wide fun _ z => nomatch z⟩, ?_⟩
    rintro k m G ⟨rfl, hk', eA, s2, g2⟩
    have hh := hJ G k (g2.wide (ob_sub s1))
    rw [lz] at hh
    obtain ⟨j1, j2, j3⟩ := hh
    by_cases hlt : k < As.length
    · refine .inr ⟨j1 hlt, fun G' => k + 1 ≤ As.length ∧ G' A = some (.dT (kvA (gather (As.take (k + 1))))) ∧ St Hi (A :: F) B G' ∧ Gr (ob B) H1 G', fun G' ⟨a1, a2⟩ => ⟨As.length - (k + 1), by omega, rfl, a1, a2⟩, fun x G' y => ?_⟩
      obtain ⟨e3, dx, ed, kd⟩ := j3 x G' hlt y
      subst e3
      refine ⟨wipe_one, ?_⟩
      have ea := List.getElem?_eq_getElem hlt
      unfold ans at ed
      rw [List.getElem?_map, ea] at ed
      cases (Option.some.inj ed)
      have g3 : Gr (A :: F) H1 G' := g2.wide fun p m => List.mem_cons_of_mem _ (ob_sub s1 p m)
      have l3 : Sl (A :: F) B G' ((L2.wipe σ [j]).set j (some x)) ((awipe ab [j]).set j (.dat (an As[k]))) := Sl.set (a := .dat _) (((l1.barO nA br).gr g3).wipe [j]) ⟨x, rfl, (kd.bar nA).gr g3⟩
      refine hk k _ ea (A :: F) _ G' _ s2 l3 fun v dv G4 c4 s4 a4 e4 => ?_
      subst e4
      refine hv k _ ea (A :: F) _ G4 _ s4 (l3.gr (Ch.wide c4 s2)) fun w dw G5 c5 s5 a5 e5 => ?_
      subst e5
      cases a5
      have a4' := a4.gr (Ch.wide c5 s4)
      cases a4' with
      | @tup a xs _ nf hx kx =>
        cases kx with
        | cons b1 kx =>
          cases kx with
          | cons b2 kx =>
            cases kx
            cases b1
            cases b2
            have e5 : G5 A = some (.dT (kvA (gather (As.take k)))) := c5 A _ pA (c4 A _ pA eA)
            refine ⟨kvA (gather (As.take k)), keyP As[k].1, a, rfl, hx, e5, ?_, hlt, ?_, St.write nA s1 s5, fun c u nc ec => ?_⟩
            · unfold kvA
              rw [List.length_map]
              have := gather_len (As := As.take k)
              rw [List.length_take] at this
              exact Nat.lt_of_le_of_lt (show (gather (As.take k)).length ≤ 1000 by omega) (by decide)
            · rw [upd_same, put_kvA (con.take ea), gather_succ ea]
            · rw [upd_ne (ne_of_none ec nA)]
              exact ((g2.trans c4).trans c5) c u nc ec
    · have ek : k = As.length := by omega
      subst ek
      rw [List.take_length] at eA
      refine .inl ⟨j2 (Nat.le_refl _), ?_⟩
      have dF : A ∉ F := fun m => s1.tr A m nA
      exact k A dF (St.none (H' := H1) s1 nA) (fun b l eb => ⟨fun z => dF (z ▸ (s1.bag b l eb).1), fun z => dF (z ▸ (s1.bag b l eb).2.1)⟩) _ G (s1.free s2) (Sl.set (a := .obj _) (l1.gr (g2.wide (ob_sub s1))) ⟨isD_stab dF, _, rfl, rfl, eA⟩)
/-- what is said of a pair -/
def look (L : List SA) (z : SP) : Bool := ((L.find? fun a => decide (a.1 = z)).map (·.2)).getD false
def lookA (L : List SA) (zs : List SP) : List SA := zs.map fun z => (z, look L z)
theorem look_val {L : List SA} {z : SP} (h : z ∈ L.map (·.1)) : valV (kvA L) (keyP z) = some (V.bl (look L z)) := by
  have t := has_kvA (p := z) (L := L)
  rw [decide_eq_true h, valV_kvA, Option.isSome_map] at t
  rw [valV_kvA]
  unfold look
  obtain ⟨b, e⟩ := Option.isSome_iff_exists.mp t
  rw [e]
  rfl
theorem paired_get {α β : Type} {R : α → β → Prop} : ∀ {as : List α} {bs : List β} {k : Nat}, Paired R as bs → k < bs.length → ∃ a b, as[k]? = some a ∧ bs[k]? = some b ∧ R a b
  | [], [], _, .nil, l => absurd l (Nat.not_lt_zero _)
  | a :: as, b :: bs, 0, .cons h t, _ => ⟨a, b, rfl, rfl, h⟩
  | a :: as, b :: bs, k + 1, .cons h t, l => paired_get (k := k) t (Nat.lt_of_succ_lt_succ l)
theorem paired_len {α β : Type} {R : α → β → Prop} : ∀ {as : List α} {bs : List β}, Paired R as bs → as.length = bs.length
  | [], [], .nil => rfl
  | _ :: _, _ :: _, .cons _ t => congrArg (· + 1) (paired_len t)
theorem St.notTup {b : Addr} {xs : List V} (s : St Hi F B H) (h : H b = some (.tup xs)) : b ∉ ob B := fun m => by
  cases B with
  | none => exact nomatch m
  | some cl =>
    obtain ⟨c, l⟩ := cl
    have e : b = c := by simpa [ob] using m
    obtain ⟨_, _, _, n0, n1, n2, ns, hb, _⟩ := s.bag c l rfl
    rw [← e, h] at hb
    cases hb
/-- [(x, y, truths[x, y]) for x, y in sorted(truths)] -/
theorem ev_ansC {L : List SA} (er : ab[r]? = some (.obj (isD d (.dT (kvA L))))) (few : L.length ≤ 1000) (br : BarOk ab) (ij : i ≠ j) (ri : r ≠ i) (rj : r ≠ j) (hi : i < ab.length) (hj : j < ab.length) :
    Ev Hi F B ab (tLc (iList K (tCB rSortT (tCons (tVar r) tNil))) (gTup K 2 (gCons (gName i) (gCons (gName j) gNil))) tYes (tTup (tCons (tVar i) (tCons (tVar j) (tCons (tDGet (tVar r) (tTup (tCons (tVar i) (tCons (tVar j) tNil)))) tNil)))) [i, j])
      (fun e => ∃ zs : List SP, prs zs = sortD (prs (L.map (·.1))) ∧ e = .list (ans (lookA L zs))) := fun σ H Q s l q => by
  obtain ⟨v0, e0, q0, eH⟩ := l.obj er
  subst q0
  refine ⟨_, e0, d, kvA L, L.map (·.1), rfl, eH, by unfold kvA; rw [List.map_map, List.map_map]; rfl, by rw [List.length_map]; exact few, fun p bs zs np ez pz => ?_⟩
  have zl : zs.length = L.length := by
    have h1 := congrArg List.length ez
    rw [(sortD_perm _).length_eq] at h1
    simpa [prs] using h1
  have zin : ∀ z ∈ zs, z ∈ L.map (·.1) := fun z m => by
    have : pr z ∈ prs (L.map (·.1)) := (sortD_perm _).mem_iff.mp (ez ▸ List.mem_map.mpr ⟨z, m, rfl⟩)
    obtain ⟨y, my, e⟩ := List.mem_map.mp this
    have ey : y = z := by
      unfold pr at e
      simp only [PyData.tuple.injEq, List.cons.injEq, PyData.str.injEq, and_true] at e
      exact Prod.ext e.1 e.2
    exact ey ▸ my
  have bl := paired_len pz
  have g1 : Gr [] H (upd H p (.lst (bs.map V.ref))) := Gr.new np
  have s1 := s.same g1
  have l1 := l.gr (F := F) (g1.wide fun _ z => nomatch z)
  refine ⟨p, rfl, ⟨_, .inl (.inl upd_same)⟩, fun A nA => ?_⟩
  generalize eqH1 : upd H p (.lst (bs.map V.ref)) = H1 at *
  have pH1 : H1 p = some (.lst (bs.map V.ref)) := by rw [← eqH1]; exact upd_same
  have pob : p ∉ ob B := fun m => s.tr p (ob_sub s p m) np
  have pA : A ∉ ob B := fun m => s1.tr A (ob_sub s1 A m) nA
  refine ⟨fun k m H2 => m = zs.length - k ∧ k ≤ zs.length ∧ ∃ acc, H2 A = some (.lst acc) ∧ Das (A :: F) H2 acc (ans (lookA L (zs.take k))) ∧ St Hi (A :: F) B H2 ∧ Gr (ob B) H1 H2,
    ⟨zs.length, by simp, Nat.zero_le _, [], upd_same, .nil, s1.bar nA, (show Gr [] H1 _ from Gr.new nA).wide fun _ z => nomatch z⟩, ?_⟩
  rintro k m H2 ⟨rfl, hk, acc, e1, k1, s2, g2⟩
  have p2 : H2 p = some (.lst (bs.map V.ref)) := g2 p _ pob pH1
  by_cases hlt : k < zs.length
  · obtain ⟨b, z, eb, ezk, hb⟩ := paired_get pz hlt
    have ebs : (bs.map V.ref)[k]? = some (.ref b) := by rw [List.getElem?_map, eb]; rfl
    refine .inr ⟨⟨_, _, .inl (.inl p2), ebs⟩, fun H3 => k + 1 ≤ zs.length ∧ ∃ acc, H3 A = some (.lst acc) ∧ Das (A :: F) H3 acc (ans (lookA L (zs.take (k + 1)))) ∧ St Hi (A :: F) B H3 ∧ Gr (ob B) H1 H3,
      fun H3 ⟨a1, a2⟩ => ⟨zs.length - (k + 1), by omega, rfl, a1, a2⟩, fun x H3 y => ?_⟩
    obtain ⟨e3, hy⟩ := y
    subst e3
    have ex : x = .ref b := by
      have t := hy _ (.inl (.inl p2))
      rw [ebs] at t
      exact (Option.some.inj t).symm
    subst ex
    have hb2 : H3 b = some (.tup [.str z.1, .str z.2]) := g2 b _ (s.notTup hb) (g1 b _ (fun m => nomatch m) hb)
    refine ⟨b, _, rfl, (show SqT K H3 b [.str z.1, .str z.2] from .inl (.inl hb2)), rfl, _, _, rfl, _, _, rfl, rfl, wipe_two, ?_⟩
    have g3 : Gr (A :: F) H1 H3 := g2.wide fun p m => List.mem_cons_of_mem _ (ob_sub s1 p m)
    have la : (awipe ab [i, j]).length = ab.length := by simp [awipe]
    have l3 := Sl.set (i := j) (a := .dat (.str z.2)) (v := .str z.2) (Sl.set (i := i) (a := .dat (.str z.1)) (v := .str z.1) (((l1.barO nA br).gr g3).wipe [i, j]) ⟨_, rfl, .str _⟩) ⟨_, rfl, .str _⟩
    have ei : (((awipe ab [i, j]).set i (.dat (.str z.1))).set j (.dat (.str z.2)))[i]? = some (.dat (.str z.1)) := by
      rw [List.getElem?_set_ne ij.symm, List.getElem?_set_self (by rw [la]; exact hi)]
    have ej : (((awipe ab [i, j]).set i (.dat (.str z.1))).set j (.dat (.str z.2)))[j]? = some (.dat (.str z.2)) := by
      rw [List.getElem?_set_self (by rw [List.length_set, la]; exact hj)]
    have er3 : (((awipe ab [i, j]).set i (.dat (.str z.1))).set j (.dat (.str z.2)))[r]? = some (.obj (isD d (.dT (kvA L)))) := by
      rw [List.getElem?_set_ne rj.symm, List.getElem?_set_ne ri.symm]
      show ((ab.set j .any).set i .any)[r]? = _
      rw [List.getElem?_set_ne ri.symm, List.getElem?_set_ne rj.symm]
      exact er
    have zm : z ∈ zs := List.mem_of_getElem? ezk
    have el : Ek Hi (A :: F) B (((awipe ab [i, j]).set i (.dat (.str z.1))).set j (.dat (.str z.2))) (tTup (tCons (tVar i) (tCons (tVar j) (tCons (tDGet (tVar r) (tTup (tCons (tVar i) (tCons (tVar j) tNil)))) tNil)))) (an (z, look L z)) :=
      ek_tup (eks_cons (ev_var ei) (eks_cons (ev_var ej) (eks_cons (ek_dgetT (d := d) (p := z) (t := look L z) er3 (ek_tup (eks_cons (ev_var ei) (eks_cons (ev_var ej) evs_nil))) (look_val (zin z zm))) evs_nil)))
    unfold tYes
    dsimp only
    rw [if_pos rfl]
    refine el _ H3 _ s2 l3 fun v e H5 c5 s5 a5 p5 => ?_
    subst p5
    have e5 : H5 A = some (.lst acc) := c5 A _ pA e1
    have k5 : Das (A :: F) H5 acc (ans (lookA L (zs.take k))) := k1.gr (Ch.wide c5 s2)
    have w : Gr (A :: F) H5 (upd H5 A (.lst (acc ++ [v]))) := Gr.at List.mem_cons_self
    refine ⟨acc, e5, ?_, hlt, acc ++ [v], upd_same, ?_, St.write nA s1 s5, fun p u n e => ?_⟩
    · rw [k5.length]
      unfold ans lookA
      rw [List.length_map, List.length_map, List.length_take]
      exact Nat.lt_of_le_of_lt (show min k zs.length ≤ 1000 by omega) (by decide)
    · have tk : ans (lookA L (zs.take (k + 1))) = ans (lookA L (zs.take k)) ++ [an (z, look L z)] := by
        unfold ans lookA
        rw [List.take_succ, ezk, List.map_append, List.map_append]
        rfl
      rw [tk]
      exact (k5.gr w).app (.cons (a5.gr w) .nil)
    · rw [upd_ne (ne_of_none e nA)]
      exact (g2.trans c5) p u n e
  · have ek : k = zs.length := by omega
    subst ek
    rw [List.take_length] at k1
    refine .inl ⟨⟨_, .inl (.inl p2), by rw [List.length_map]; omega⟩, q _ _ H2 ((ch_of g1).trans g2) (s1.free s2) (.lst (fun m => s1.tr A m nA) e1 (k1.less fun p m => List.mem_cons_of_mem _ m)) ⟨zs, ez, rfl⟩⟩
end
end Gd

/-! sorted(xs) of a list or a tuple of texts -/
namespace Gd
open PySem PySem.Spec PyProof.Rows L2
open PySem.W (EachIs AllAlike Sortable dataLe keyToks keyToksAll alike alikeAll)
def strD (ys : List Str) : List PyData := ys.map PyData.str
def rSortS : List V → Hp → VK → Prop := fun xs H Q => ∃ (a : Addr) (ys : List Str), xs = [.ref a] ∧ (H a = some (.lst (ys.map V.str)) ∨ H a = some (.tup (ys.map V.str))) ∧ ys.length ≤ 1000 ∧
  ∀ (p : Addr) (zs : List Str), H p = none → strD zs = sortD (strD ys) → Q (.ref p) (upd H p (.lst (zs.map V.str)))
theorem each_strs : ∀ {us : List Value} {ys : List Str} {h : Heap}, StrsAre us ys → EachIs (fun u (y : Str) => (∃ t, u = .str y t) ∧ ∃ as, Reads h u (.str y) as ∧ as = []) us ys
  | [], [], _, .nil => .nil
  | _ :: us, _ :: ys, _, .cons y t r => .cons ⟨⟨t, rfl⟩, _, Reads.str y t, rfl⟩ (each_strs r)
theorem strs_each : ∀ {us : List Value} {ys : List Str}, EachIs (fun u (y : Str) => ∃ t, u = .str y t) us ys → Vals (ys.map V.str) us
  | _, _, .nil => .nil
  | _, _, .cons h t => .cons h (strs_each t)
theorem alike_strD (ys : List Str) : AllAlike (strD ys) := fun d md e me => by
  obtain ⟨x, _, rfl⟩ := List.mem_map.mp md
  obtain ⟨y, _, rfl⟩ := List.mem_map.mp me
  rfl
theorem sortable_strD (ys : List Str) : Sortable (strD ys) := .inr fun d md => by
  obtain ⟨x, _, rfl⟩ := List.mem_map.mp md
  exact ⟨(fun z => nomatch z), fun xs z => nomatch z⟩
theorem cr_sortS {X : Cx} (hu : X.A.units + 64 < cLine) : CallR X (.builtin "sorted") rSortS := by
  intro pins s σ H xs us Q I r h
  obtain ⟨a, ys, rfl, ha, hz, q⟩ := h
  obtain ⟨u, rfl, rx⟩ := vals1 r
  obtain rfl : u = Value.ref a := rx
  have ob' : ∃ (T : String) (o : Obj) (its : List Value) (n : Nat), (T = "list" ∨ T = "tuple") ∧ s.heap.get? a = some o ∧ o.cls = .type T ∧ o.data = .seq its.toArray n ∧ Vals (ys.map V.str) its := by
    rcases ha with ha | ha
    · obtain ⟨its, rv, pl, _⟩ := I.list (.inl (.inl ha))
      obtain ⟨o, ho, hc, n, hd⟩ := pl.isList
      exact ⟨"list", o, its, n, .inl rfl, ho, hc, hd, rv⟩
    · obtain ⟨its, rv, pl, _⟩ := I.tuple (.inl (.inl ha))
      obtain ⟨o, ho, hc, n, hd⟩ := pl
      exact ⟨"tuple", o, its, n, .inr rfl, ho, hc, hd, rv⟩
  obtain ⟨T, o, its, n, hT, ho, hc, hd, rv⟩ := ob'
  have sz : its.length = ys.length := by rw [← rv.length, List.length_map]
  refine Calls.call_function_entry PyProof.Rows.kind_sorted PyProof.Rows.plain_sorted PyProof.Rows.entry_sorted (PyProof.Rows.args_sorted1 _) ?_
  unfold Builtin.«sorted»
  refine wpAny_bind (m := checkCount "sorted" 1 1 _) (wpAny_pure ?_)
  refine wpAny_bind (wpAny_collect_seq (A := X.A.in1) a hT ho hc hd (fun h' keep => ?_) (by rw [List.size_toArray, sz]; exact Nat.le_trans hz (by decide)))
  have I1 : Inv X pins σ H { s with heap := h' } := I.kept keep
  show wpAny _ _ _ _ _ { s with heap := h' }
  have e0 : its.toArray.toList = its := List.toList_toArray ..
  rw [e0]
  refine wpAny_bind (wpAny_newList ?_ (by rw [sz]; exact Nat.le_trans hz (by decide)))
  have gL : (h'.push (seqObj "list" its.toArray 0)).get? h'.objs.size = some (seqObj "list" its.toArray 0) := Heap.get?_push_size _ rfl
  have eq1 := each_strs (h := h'.push (seqObj "list" its.toArray 0)) (strsAre_of rv)
  show wpAny _ _ _ _ _ { s with heap := h'.push (seqObj "list" its.toArray 0) }
  refine wpAny_bind (wpAny_holding (PySem.W.list_sort_data (s := { s with heap := h'.push (seqObj "list" its.toArray 0) }) (R := fun u (y : Str) => ∃ t, u = .str y t) (enc := PyData.str) (bs := ys) gL
    (eq1.mono fun _ _ z => z.1) (eq1.mono fun u c z => ?_) (alike_strD ys) (sortable_strD ys) (Nat.le_trans hz (by decide)) (fun c _ => ?_) fun out lo eo => ?_))
  · obtain ⟨as, ra, rfl⟩ := z.2
    exact ⟨_, ra, fun m => nomatch m⟩
  · show _ + 1 + PyData.depth (.str c) < cLine
    have eu : X.A.in1.units = X.A.units + 1 := rfl
    have : PyData.depth (.str c) = 0 := rfl
    omega
  · obtain ⟨c', at'⟩ := PyProof.Rows.sortedHeap_at (vs := its) (out := List.toArray out) gL
    have perm := List.mergeSort_perm ys (dataLe false PyData.str)
    have mm : strD (ys.mergeSort (dataLe false PyData.str)) = sortD (strD ys) :=
      (PySem.W.sort_maps (r := dataLe false PyData.str) (s := dataLe false fun d : PyData => d) PyData.str (fun _ _ _ _ => rfl))
    have lq : ((ys.mergeSort (dataLe false PyData.str)).map V.str).length ≤ sizeLine := by
      rw [List.length_map, perm.length_eq]
      exact Nat.le_trans hz (by decide)
    refine wpAny_pure ⟨_, rfl, .ref h'.objs.size, _, I1.laid (t' := s.toks) (o := .lst ((ys.mergeSort (dataLe false PyData.str)).map V.str)) (fun b u e => ?_) (Nat.le_refl _) ⟨lq, out, c', strs_each eo, at'⟩, rfl, q _ _ (I1.hok.fresh (Nat.le_refl _)) mm⟩
    have hb : b < h'.objs.size := Heap.lt_size e
    rw [PyProof.Rows.sortedHeap_old (Nat.ne_of_lt hb) (by rw [size_push']; exact Nat.lt_succ_of_lt hb)]
    exact Heap.get?_push_of_some _ e
/-- sorted(xs) of names -/
theorem ev_sortS {Hi : List Hp} {F : List Addr} {B : Bag} {ab : List Ab} {te : TE} {ys : List Str} (h : Ev Hi F B ab te (fun d => isSeq d (strD ys))) (z : ys.length ≤ 1000) : Ev Hi F B ab (tCB rSortS (tCons te tNil)) (fun d => ∃ zs : List Str, strD zs = sortD (strD ys) ∧ d = .list (strD zs)) := fun σ H Q s l q => h σ H _ s l fun v d H1 c1 s1 a1 e => by
  have sq : ∃ p, v = .ref p ∧ (H1 p = some (.lst (ys.map V.str)) ∨ H1 p = some (.tup (ys.map V.str))) := by
    rcases e with rfl | rfl
    · cases a1 with
      | @lst p us _ nf hp k =>
        obtain rfl := das_strs k
        exact ⟨p, rfl, .inl hp⟩
    · cases a1 with
      | @tup p us _ nf hp k =>
        obtain rfl := das_strs k
        exact ⟨p, rfl, .inr hp⟩
  obtain ⟨p, rfl, hq⟩ := sq
  refine ⟨p, ys, rfl, hq, z, fun b zs nb ez => ?_⟩
  have g : Gr [] H1 (upd H1 b (.lst (zs.map V.str))) := Gr.new nb
  have dz : ∀ ws : List Str, Das F (upd H1 b (.lst (zs.map V.str))) (ws.map V.str) (strD ws) := fun ws => by
    induction ws with
    | nil => exact .nil
    | cons y r ih => exact .cons (.str y) ih
  exact q _ _ _ (c1.trans (ch_of g)) (s1.same g) (.lst (s1.nF nb) upd_same (dz zs)) ⟨zs, ez, rfl⟩
end Gd

/-! built-in functions, methods, what is written to cells -/
namespace Vw
open PySem PySem.Spec PyProof.Rows L2 Gd
open PySem.W (EachIs AllAlike Sortable dataLe keyToks keyToksAll alike alikeAll)
section
variable {c : Cf}
/-! built-in functions -/
def on1 (r : List V → Hp → VK → Prop) (w1 : Stt → T → (T → Stt → Prop) → Prop)
    (ok1 : ∀ (L : Ls) (F : List Addr) (st : Stt) (H : Hp) (x : V) (t : T) (Qc : VK) (Q : T → Stt → Prop), Rl c L F st H → Ta c L F H x t → w1 st t Q → KE c L F H Qc Q → r [x] H Qc) : ON c where
  r := r
  w st as Q := match as with | [t] => w1 st t Q | _ => False
  ok L F st H xs as Qc Q hr hs h k := by
    cases hs with
    | nil => exact h.elim
    | cons b1 b2 =>
      cases b2 with
      | nil => exact ok1 L F st H _ _ Qc Q hr b1 h k
      | cons _ _ => exact h.elim
/-- the items of a list, a tuple, a text -/
def anyW (st : Stt) (t : T) (K : List T → Prop) : Prop := match t with
  | .tup ts => K ts
  | .emp => K []
  | .str x => x.length ≤ big ∧ K (signT x)
  | .lst ts => K ts
  | .ref n => asL st (.ref n) fun ts _ => K ts
  | _ => False
theorem anyW_ok {L : Ls} {F : List Addr} {st : Stt} {H : Hp} {v : V} {t : T} {K : List T → Prop} (r : Rl c L F st H) (a : Ta c L F H v t) (h : anyW st t K) :
    (∃ b vs ts, v = .ref b ∧ K ts ∧ H b = some (.lst vs) ∧ Tas c L F H vs ts ∧ ts.length ≤ big) ∨
    (∃ b vs ts, v = .ref b ∧ t = .tup ts ∧ K ts ∧ H b = some (.tup vs) ∧ ¬ Bar L F b ∧ Tas c L F H vs ts ∧ ts.length ≤ big) ∨
    (∃ b, v = .ref b ∧ K [] ∧ t = .emp ∧ Dft c.K b) ∨ ∃ x, v = .str x ∧ t = .str x ∧ x.length ≤ big ∧ K (signT x) := by
  cases t with
  | tup ts =>
    cases a with
    | @tup p vs _ n1 hp as z1 => exact .inr (.inl ⟨p, vs, ts, rfl, rfl, h, hp, n1, as, z1⟩)
  | emp =>
    cases a with
    | @emp p d => exact .inr (.inr (.inl ⟨p, rfl, h, rfl, d⟩))
  | str x => cases a; exact .inr (.inr (.inr ⟨x, rfl, rfl, h.1, h.2⟩))
  | lst ts =>
    cases a with
    | @lst p vs _ n1 hp as z1 => exact .inl ⟨p, vs, ts, rfl, h, hp, as, z1⟩
  | ref n =>
    obtain ⟨p, vs, xs, _, rfl, h, hp, as, z, _, _⟩ := asL_ok (K := fun ts _ => K ts) r a h
    exact .inl ⟨p, vs, xs, rfl, h, hp, as, z⟩
  | _ => exact h.elim
theorem signT_len (x : Str) : (signT x).length = x.length := by simp [signT, Str.length]
theorem signT_vs {L : Ls} {F : List Addr} {H : Hp} (x : Str) : Tas c L F H (x.cps.toList.map fun c => V.str ⟨#[c]⟩) (signT x) := by
  unfold signT
  generalize x.cps.toList = cs
  induction cs with
  | nil => exact .nil
  | cons a cs ih => exact .cons (.str _) ih
def oLen : ON c := on1 (rLenA c.K) (fun st t Q => anyW st t fun ts => Q (.int ts.length) st) fun L F st H x t Qc Q r a h k => by
  rcases anyW_ok r a h with ⟨p, vs, ts, rfl, h, hp, as, z⟩ | ⟨p, vs, ts, rfl, _, h, hp, nb, as, z⟩ | ⟨p, rfl, h, _, d⟩ | ⟨x, rfl, _, z, h⟩
  · exact .inl ⟨p, vs, rfl, .inl (.inl (.inl hp)), by rw [as.length]; exact k.here r (.int _) h⟩
  · exact .inl ⟨p, vs, rfl, .inr (.inl (.inl hp)), by rw [as.length]; exact k.here r (.int _) h⟩
  · exact .inl ⟨p, [], rfl, .inr (d.sq H), k.here r (.int _) h⟩
  · rw [signT_len] at h
    exact .inr ⟨x, rfl, Nat.le_trans z (by decide), k.here r (.int _) h⟩
def oAbs : ON c := on1 (fun xs H Q => ∃ i, xs = [.int i] ∧ Q (.int (if i < 0 then -i else i)) H) (fun st t Q => match t with | .int i => Q (.int (if i < 0 then -i else i)) st | _ => False) fun L F st H x t Qc Q r a h k => by
  cases a with
  | int i => exact ⟨i, rfl, k.here r (.int _) h⟩
  | _ => exact h.elim
def rIntA : List V → Hp → VK → Prop := fun xs H Q => (∃ i, xs = [.int i] ∧ Q (.int i) H) ∨ ∃ k, xs = [.bl k] ∧ Q (.int (if k then 1 else 0)) H
theorem call_intA {X : Cx} : CallR X (.type "int") rIntA := call_int1
def oInt : ON c := on1 rIntA (fun st t Q => match t with | .int i => Q (.int i) st | .bl k => Q (.int (if k then 1 else 0)) st | _ => False) fun L F st H x t Qc Q r a h k => by
  cases a with
  | int i => exact .inl ⟨i, rfl, k.here r (.int _) h⟩
  | bl i => exact .inr ⟨i, rfl, k.here r (.int _) h⟩
  | _ => exact h.elim
/-- list(x): frozen; a cell -/
theorem list_ok {L : Ls} {F : List Addr} {st : Stt} {H : Hp} {x : V} {t : T} {Qc : VK} {K : List T → Prop} (r : Rl c L F st H) (a : Ta c L F H x t) (h : anyW st t K)
    (k : ∀ ts vs d, K ts → ts.length ≤ big → H d = none → Tas c L F H vs ts → Qc (.ref d) (upd H d (.lst vs))) : rListA c.K [x] H Qc := by
  rcases anyW_ok r a h with ⟨p, vs, ts, rfl, h, hp, as, z⟩ | ⟨p, vs, ts, rfl, _, h, hp, nb, as, z⟩ | ⟨p, rfl, h, _, d⟩ | ⟨x, rfl, _, z, h⟩
  · exact .inl ⟨p, vs, rfl, .inl (.inl (.inl hp)), fun d hd => k ts vs d h z hd as⟩
  · exact .inl ⟨p, vs, rfl, .inr (.inl (.inl hp)), fun d hd => k ts vs d h z hd as⟩
  · exact .inl ⟨p, [], rfl, .inr (d.sq H), fun d hd => k [] [] d h (Nat.zero_le _) hd .nil⟩
  · exact .inr ⟨x, rfl, Nat.le_trans z (by decide), fun d hd => k _ _ d h (by rw [signT_len]; exact z) hd (signT_vs x)⟩
def oList : ON c := on1 (rListA c.K) (fun st t Q => anyW st t fun ts => Q (.lst ts) st) fun L F st H x t Qc Q r a h k =>
  list_ok r a h fun ts vs d h z hd as => k _ (.lst ts) st _ L (Go.lay hd) (r.lay hd) (.lst (r.fresh hd) upd_same (as.go (Go.lay hd)) z) h
def oListC : ON c := on1 (rListA c.K) (fun st t Q => anyW st t fun ts => refsInL (fun m => decide (m < st.length)) ts = true ∧ Q (.ref st.length) (st ++ [.lst ts])) fun L F st H x t Qc Q r a h k =>
  list_ok r a h fun ts vs d ⟨lo, h⟩ z hd as => k _ (.ref st.length) _ _ (L ++ [some d]) (Go.cell hd) (r.newCell (x := .lst ts) hd ⟨vs, upd_same, as.go (Go.cell hd), z⟩ lo) (Ta.newRef r) h
/-- tuple(x) of a list or a tuple -/
def oTuple : ON c := on1 (fun xs H Q => ∃ p ys, xs = [.ref p] ∧ ((SqL c.K H p ys ∧ ∀ l, H l = none → Q (.ref l) (upd H l (.tup ys))) ∨ (SqT c.K H p ys ∧ Q (.ref p) H)))
    (fun st t Q => (t.toD ≠ some (.str (match t with | .str x => x | _ => "")) ∧ t ≠ .emp) ∧ anyW st t fun ts => Q (.tup ts) st) fun L F st H x t Qc Q r a ⟨h0, h⟩ k => by
  rcases anyW_ok r a h with ⟨p, vs, ts, rfl, h, hp, as, z⟩ | ⟨p, vs, ts, rfl, e, h, hp, nb, as, z⟩ | ⟨p, rfl, h, e, d⟩ | ⟨x, rfl, e, z, h⟩
  · exact ⟨p, vs, rfl, .inl ⟨.inl (.inl hp), fun d hd => k _ (.tup ts) st _ L (Go.lay hd) (r.lay hd) (.tup (r.fresh hd) upd_same (as.go (Go.lay hd)) z) h⟩⟩
  · exact ⟨p, vs, rfl, .inr ⟨.inl (.inl hp), k.here r (.tup nb hp as z) h⟩⟩
  · exact absurd e h0.2
  · subst e; exact absurd rfl h0.1
/-- all, any of bools -/
def bools : List T → Option (List Bool)
  | [] => some []
  | .bl b :: r => (bools r).map (b :: ·)
  | _ :: _ => none
theorem bools_map {α : Type} (f : α → Bool) : ∀ xs : List α, bools (xs.map fun x => T.bl (f x)) = some (xs.map f)
  | [] => rfl
  | x :: xs => by simp [bools, bools_map f xs]
theorem bools_vs {L : Ls} {F : List Addr} {H : Hp} : ∀ {ts : List T} {vs : List V} {bs : List Bool}, Tas c L F H vs ts → bools ts = some bs → vs = bs.map V.bl
  | [], _, _, .nil, e => by cases e; rfl
  | .bl b :: ts, _, bs, .cons (.bl _) k, e => by
    simp only [bools, Option.map_eq_some_iff] at e
    obtain ⟨r, e1, rfl⟩ := e
    rw [bools_vs k e1]
    rfl
  | .non :: _, _, _, _, e | .int _ :: _, _, _, _, e | .str _ :: _, _, _, _, e | .lst _ :: _, _, _, _, e | .tup _ :: _, _, _, _, e | .emp :: _, _, _, _, e | .scr _ :: _, _, _, _, e | .dct _ :: _, _, _, _, e | .dtt _ :: _, _, _, _, e | .set _ :: _, _, _, _, e | .obj _ _ :: _, _, _, _, e | .ref _ :: _, _, _, _, e => by simp [bools] at e
def oAll : ON c := on1 (rAll c.K) (fun st t Q => asL st t fun xs _ => match bools xs with | some bs => Q (.bl (bs.all id)) st | none => False) fun L F st H x t Qc Q r a h k => by
  obtain ⟨p, vs, xs, _, rfl, h, hp, as, z, _, _⟩ := asL_ok r a h
  split at h
  · rename_i bs e
    exact ⟨p, bs, rfl, .inl (.inl (by rw [← bools_vs as e]; exact hp)), k.here r (.bl _) h⟩
  · exact h.elim
def oAny : ON c := on1 (rAny c.K) (fun st t Q => asL st t fun xs _ => match bools xs with | some bs => Q (.bl (bs.any id)) st | none => False) fun L F st H x t Qc Q r a h k => by
  obtain ⟨p, vs, xs, _, rfl, h, hp, as, z, _, _⟩ := asL_ok r a h
  split at h
  · rename_i bs e
    exact ⟨p, bs, rfl, .inl (.inl (by rw [← bools_vs as e]; exact hp)), k.here r (.bl _) h⟩
  · exact h.elim
def oRepr : ON c := on1 rRepr (fun st t Q => match view st t with | some d => Shown d ∧ Q (.str d.shown) st | none => False) fun L F st H x t Qc Q r a h k => by
  split at h
  · rename_i d e
    exact ⟨[], _, d, rfl, view_ok r a e, h.1, k.here r (.str _) h.2⟩
  · exact h.elim
/-! sorted -/
/-- a list sorted by data that goes with each item -/
def rSortG : List V → Hp → VK → Prop := fun xs H Q => ∃ (a : Addr) (vs : List V) (ds : List PyData), xs = [.ref a] ∧ (H a = some (.lst vs) ∨ H a = some (.tup vs)) ∧ Das [] H vs ds ∧ AllAlike ds ∧ Sortable ds ∧ (∀ d ∈ ds, d.depth ≤ 60) ∧
  ∀ p, H p = none → Q (.ref p) (upd H p (.lst (((vs.zip ds).mergeSort (dataLe false Prod.snd)).map Prod.fst)))
mutual
theorem reads_lt {h : Heap} : ∀ (d : PyData) (v : Value) (as : List Addr), alike d d = true → Reads h v d as → ∀ a ∈ as, a < h.objs.size
  | .none, _, _, _, r => by cases r; exact fun _ m => nomatch m
  | .bool _, _, _, _, r => by cases r; exact fun _ m => nomatch m
  | .int _, _, _, _, r => by cases r; exact fun _ m => nomatch m
  | .str _, _, _, _, r => by cases r; exact fun _ m => nomatch m
  | .list xs, _, _, hal, r => by
    cases r with
    | list h1 h2 h3 h4 =>
      intro a m
      rcases List.mem_cons.mp m with rfl | m
      · exact Heap.lt_size h1
      · exact readsAll_lt xs _ _ (by simpa [alike] using hal) h4 a m
  | .tuple xs, _, _, hal, r => by
    cases r with
    | tuple h1 h2 h3 h4 => exact readsAll_lt xs _ _ (by simpa [alike] using hal) h4
  | .dict _, _, _, hal, _ => absurd hal (by simp [alike])
theorem readsAll_lt {h : Heap} : ∀ (ds : List PyData) (vs : List Value) (as : List Addr), alikeAll ds ds = true → ReadsAll h vs ds as → ∀ a ∈ as, a < h.objs.size
  | [], _, _, _, r => by cases r; exact fun _ m => nomatch m
  | d :: ds, _, _, hal, r => by
    cases r with
    | cons h1 h2 =>
      intro a m
      rcases List.mem_append.mp m with m | m
      · exact reads_lt d _ _ (PySem.W.alike_all_cons hal).1 h1 a m
      · exact readsAll_lt ds _ _ (PySem.W.alike_all_cons hal).2 h2 a m
end
theorem cr_sortG {X : Cx} (hu : X.A.units + 64 < cLine) : CallR X (.builtin "sorted") rSortG := by
  intro pins s σ H xs us Q I r h
  obtain ⟨a, ys, ds, rfl, ha, hb, al, so, dp, q⟩ := h
  obtain ⟨u, rfl, rx⟩ := vals1 r
  obtain rfl : u = Value.ref a := rx
  have le := hb.length
  have ms : (ys.zip ds).map Prod.snd = ds := List.map_snd_zip (by omega)
  have lz : (ys.zip ds).length = ys.length := by rw [List.length_zip]; omega
  rcases ha with ha | ha
  · obtain ⟨its, rv, pl, hz⟩ := I.list (.inl (.inl ha))
    have e := zip_each I ds ys its hb rv
    refine PySem.W.sorted_data (enc := Prod.snd) (bs := ys.zip ds) (R := fun u b => RelV b.1 u ∧ Da [] H b.1 b.2) pl.isList (e.mono fun _ _ z => z.1) (e.mono fun _ _ z => z.2) (by rw [ms]; exact al) (by rw [ms]; exact so) (by rw [lz]; exact hz) (fun b mb => ?_) fun out lo eo => ?_
    · have := dp b.2 (by rw [← ms]; exact List.mem_map.mpr ⟨b, mb, rfl⟩)
      omega
    · obtain ⟨b1, b2⟩ := each_back eo
      obtain ⟨c, hc⟩ := sortedAll_at s.heap its out.toArray
      have lq : (((ys.zip ds).mergeSort (dataLe false Prod.snd)).map Prod.fst).length ≤ sizeLine := by
        rw [List.length_map, (List.mergeSort_perm _ _).length_eq, lz]
        exact hz
      exact ⟨.ref (s.heap.objs.size + 1), _, I.laid (t' := s.toks) (o := .lst (((ys.zip ds).mergeSort (dataLe false Prod.snd)).map Prod.fst)) (fun b o h => sortedAll_old h) (Nat.le_succ _) ⟨lq, out, c, b1, hc⟩, rfl, q _ (I.hok.fresh (Nat.le_succ _))⟩
  · obtain ⟨its, rv, pl, hz⟩ := I.tuple (.inl (.inl ha))
    obtain ⟨o, ho, hc, n, hd⟩ := pl
    have sz : its.length = ys.length := rv.length.symm
    refine Calls.call_function_entry PyProof.Rows.kind_sorted PyProof.Rows.plain_sorted PyProof.Rows.entry_sorted (PyProof.Rows.args_sorted1 _) ?_
    unfold Builtin.«sorted»
    refine wpAny_bind (m := checkCount "sorted" 1 1 _) (wpAny_pure ?_)
    refine wpAny_bind (wpAny_collect_seq (A := X.A.in1) (T := "tuple") a (.inr rfl) ho hc hd (fun h' keep => ?_) (by rw [List.size_toArray, sz]; exact hz))
    have I1 : Inv X pins σ H { s with heap := h' } := I.kept keep
    show wpAny _ _ _ _ _ { s with heap := h' }
    have e0 : its.toArray.toList = its := List.toList_toArray ..
    rw [e0]
    refine wpAny_bind (wpAny_newList ?_ (by rw [sz]; exact hz))
    have gL : (h'.push (seqObj "list" its.toArray 0)).get? h'.objs.size = some (seqObj "list" its.toArray 0) := Heap.get?_push_size _ rfl
    have nb : H h'.objs.size = none := I1.hok.fresh (Nat.le_refl _)
    have e := zip_each I1 ds ys its hb rv
    show wpAny _ _ _ _ _ { s with heap := h'.push (seqObj "list" its.toArray 0) }
    refine wpAny_bind (wpAny_holding (PySem.W.list_sort_data (s := { s with heap := h'.push (seqObj "list" its.toArray 0) }) (R := fun u b => RelV b.1 u ∧ Da [] H b.1 b.2) (enc := Prod.snd) (bs := ys.zip ds) gL
      (e.mono fun _ _ z => z.1) ((PySem.W.each_mem e).mono fun u c z => ?_) (by rw [ms]; exact al) (by rw [ms]; exact so) (by rw [lz]; exact hz) (fun b mb => ?_) fun out lo eo => ?_))
    · obtain ⟨⟨_, as, ra⟩, mc⟩ := z
      have md : c.2 ∈ ds := by rw [← ms]; exact List.mem_map.mpr ⟨c, mc, rfl⟩
      exact ⟨as, PyProof.Rows.Reads.keeps (fun _ _ x => Heap.get?_push_of_some _ x) ra, fun m => Nat.lt_irrefl _ (reads_lt _ _ _ (al _ md _ md) ra _ m)⟩
    · have := dp b.2 (by rw [← ms]; exact List.mem_map.mpr ⟨b, mb, rfl⟩)
      show _ + 1 + _ < cLine
      have eu : X.A.in1.units = X.A.units + 1 := rfl
      omega
    · obtain ⟨b1, b2⟩ := each_back eo
      obtain ⟨c', at'⟩ := PyProof.Rows.sortedHeap_at (vs := its) (out := List.toArray out) gL
      have lq : (((ys.zip ds).mergeSort (dataLe false Prod.snd)).map Prod.fst).length ≤ sizeLine := by
        rw [List.length_map, (List.mergeSort_perm _ _).length_eq, lz]
        exact hz
      refine wpAny_pure ⟨_, rfl, .ref h'.objs.size, _, I1.laid (t' := s.toks) (o := .lst (((ys.zip ds).mergeSort (dataLe false Prod.snd)).map Prod.fst)) (fun b u e => ?_) (Nat.le_refl _) ⟨lq, out, c', b1, at'⟩, rfl, q _ nb⟩
      have hb : b < h'.objs.size := Heap.lt_size e
      rw [PyProof.Rows.sortedHeap_old (Nat.ne_of_lt hb) (by rw [size_push']; exact Nat.lt_succ_of_lt hb)]
      exact Heap.get?_push_of_some _ e
/-- the trees in the order of their data -/
def sortT (ts : List T) (ds : List PyData) : List T := ((ts.zip ds).mergeSort (dataLe false Prod.snd)).map Prod.fst
theorem sortT_map {α : Type} (f : α → T) (g : α → PyData) (xs : List α) : sortT (xs.map f) (xs.map g) = (xs.mergeSort (dataLe false g)).map f := by
  unfold sortT
  have e : (xs.map f).zip (xs.map g) = xs.map fun x => (f x, g x) := by
    induction xs with
    | nil => rfl
    | cons x xs ih => simp [ih]
  rw [e, ← PySem.W.sort_maps (r := dataLe false g) (s := dataLe false Prod.snd) (fun x => (f x, g x)) (fun _ _ _ _ => rfl), List.map_map]
  rfl
theorem Tas.sort {L : Ls} {F : List Addr} {H : Hp} {vs : List V} {ts : List T} {ds : List PyData} (h : Tas c L F H vs ts) (l : ds.length = ts.length) :
    Tas c L F H (((vs.zip ds).mergeSort (dataLe false Prod.snd)).map Prod.fst) (sortT ts ds) := by
  -- triples
  have main : ∀ bs : List (V × T × PyData), (∀ b ∈ bs, Ta c L F H b.1 b.2.1) → Tas c L F H (bs.map (·.1)) (bs.map (·.2.1)) := fun bs => by
    induction bs with
    | nil => intro _; exact .nil
    | cons b bs ih => exact fun h => .cons (h b List.mem_cons_self) (ih fun x m => h x (List.mem_cons_of_mem _ m))
  have e1 : vs.zip ds = (vs.zip (ts.zip ds)).map fun b => (b.1, b.2.2) := by
    have l2 := h.length
    clear main h
    induction vs generalizing ts ds with
    | nil => rfl
    | cons v vs ih =>
      cases ts with
      | nil => cases l2
      | cons t ts =>
        cases ds with
        | nil => cases l
        | cons d ds => simp; exact ih (by simpa using l) (by simpa using l2)
  have e2 : ts.zip ds = (vs.zip (ts.zip ds)).map fun b => (b.2.1, b.2.2) := by
    have l2 := h.length
    have : (vs.zip (ts.zip ds)).map (fun b => (b.2.1, b.2.2)) = (vs.zip (ts.zip ds)).map Prod.snd := by simp
    rw [this, List.map_snd_zip (by rw [List.length_zip]; omega)]
  obtain ⟨Z, hZ⟩ : ∃ Z, Z = vs.zip (ts.zip ds) := ⟨_, rfl⟩
  rw [← hZ] at e1 e2
  have s1 : (((vs.zip ds).mergeSort (dataLe false Prod.snd)).map Prod.fst) = (Z.mergeSort (dataLe false fun b => b.2.2)).map (·.1) := by
    rw [e1, ← PySem.W.sort_maps (r := dataLe false fun b : V × T × PyData => b.2.2) (s := dataLe false Prod.snd) (fun b : V × T × PyData => (b.1, b.2.2)) (fun _ _ _ _ => rfl), List.map_map]
    rfl
  have s2 : sortT ts ds = (Z.mergeSort (dataLe false fun b => b.2.2)).map (·.2.1) := by
    unfold sortT
    rw [e2, ← PySem.W.sort_maps (r := dataLe false fun b : V × T × PyData => b.2.2) (s := dataLe false Prod.snd) (fun b : V × T × PyData => (b.2.1, b.2.2)) (fun _ _ _ _ => rfl), List.map_map]
    rfl
  rw [s1, s2]
  refine main _ fun b m => ?_
  have m' := (List.mergeSort_perm _ _).subset m
  rw [hZ] at m'
  have zz : ∀ {vs : List V} {ts : List T} {ds : List PyData}, Tas c L F H vs ts → ∀ b, b ∈ vs.zip (ts.zip ds) → Ta c L F H b.1 b.2.1 := fun {vs ts ds} h => by
    induction vs generalizing ts ds with
    | nil => intro b m; simp at m
    | cons v vs ih =>
      cases h with
      | cons a k =>
        cases ds with
        | nil => intro b m; simp at m
        | cons d ds =>
          intro b m
          rcases List.mem_cons.mp (show b ∈ (v, _, d) :: vs.zip (_ : List (T × PyData)) from m) with rfl | m
          · exact a
          · exact ih k b m
  exact zz h b m'
theorem toDL_len : ∀ {ts : List T} {ds : List PyData}, toDL ts = some ds → ds.length = ts.length
  | [], _, e => by simp only [toDL] at e; cases e; rfl
  | t :: ts, _, e => by
    simp only [toDL] at e
    split at e
    · rename_i d ds e1 e2
      cases e
      exact congrArg (· + 1) (toDL_len e2)
    · cases e
theorem sortT_len {ts : List T} {ds : List PyData} (l : ds.length = ts.length) : (sortT ts ds).length = ts.length := by
  unfold sortT
  rw [List.length_map, (List.mergeSort_perm _ _).length_eq, List.length_zip]
  omega
/-- the items of a list or a tuple -/
def seqW (st : Stt) (t : T) (K : List T → Prop) : Prop := match t with
  | .tup ts => K ts
  | t => asL st t fun ts _ => K ts
theorem seqW_ok {L : Ls} {F : List Addr} {st : Stt} {H : Hp} {v : V} {t : T} {K : List T → Prop} (r : Rl c L F st H) (a : Ta c L F H v t) (h : seqW st t K) :
    ∃ b vs ts, v = .ref b ∧ K ts ∧ (H b = some (.lst vs) ∨ H b = some (.tup vs)) ∧ Tas c L F H vs ts ∧ ts.length ≤ big := by
  cases t with
  | tup ts =>
    cases a with
    | @tup b vs _ nb hp as z => exact ⟨b, vs, ts, rfl, h, .inr hp, as, z⟩
  | _ =>
    obtain ⟨b, vs, ts, pin, e, q, hp, as, z, _, _⟩ := asL_ok (K := fun ts _ => K ts) r a h
    exact ⟨b, vs, ts, e, q, .inl hp, as, z⟩
def oSort : ON c := on1 rSortG (fun st t Q => seqW st t fun xs => match toDL xs with | some ds => AllAlike ds ∧ Sortable ds ∧ (∀ d ∈ ds, d.depth ≤ 60) ∧ Q (.lst (sortT xs ds)) st | none => False) fun L F st H x t Qc Q r a h k => by
  obtain ⟨p, vs, xs, rfl, h, hp, as, z⟩ := seqW_ok r a h
  split at h
  · rename_i ds e
    obtain ⟨h1, h2, h3, h⟩ := h
    have l := toDL_len e
    exact ⟨p, vs, ds, rfl, hp, as.da e, h1, h2, h3, fun d hd => k _ (.lst (sortT xs ds)) st _ L (Go.lay hd) (r.lay hd) (.lst (r.fresh hd) upd_same ((as.go (Go.lay hd)).sort l) (by rw [sortT_len l]; exact z)) h⟩
  · exact h.elim
end
end Vw

/-! methods; what is written to cells -/
namespace Vw
open PySem PySem.Spec PyProof.Rows L2 Gd
structure MX (c : Cf) where
  T : String
  r : V → List V → Hp → VK → Prop
  ty : Stt → Vw.T → Prop
  w : Stt → Vw.T → List Vw.T → (Vw.T → Stt → Prop) → Prop
  okT : ∀ (L : Ls) (F : List Addr) (st : Stt) (H : Hp) (x : V) (t : Vw.T), Rl c L F st H → Ta c L F H x t → ty st t → tyV c.K T x H
  ok : ∀ (L : Ls) (F : List Addr) (st : Stt) (H : Hp) (x : V) (t : Vw.T) (xs : List V) (ts : List Vw.T) (Qc : VK) (Q : Vw.T → Stt → Prop), Rl c L F st H → Ta c L F H x t → Tas c L F H xs ts → w st t ts Q → KE c L F H Qc Q → r x xs H Qc
section
variable {c : Cf}
def eBM (m : MX c) (o : EX c) (a : AX c) : EX c where
  te := tBM c.K m.T m.r o.te a.ta
  w env st Q := o.w env st fun t st1 => m.ty st1 t ∧ a.w env st1 fun ts st2 => m.w st2 t ts Q
  ok L F env st σ H Qc Q r s h k := o.ok L F env st σ H _ _ r s h fun v t st1 H1 L1 g1 r1 a1 ⟨y1, h1⟩ =>
    ⟨m.okT L1 F st1 H1 v t r1 a1 y1, a.ok L1 F env st1 σ H1 _ _ r1 (s.go g1) h1 fun vs ts st2 H2 L2 g2 r2 a2 h2 => m.ok L2 F st2 H2 v t vs ts Qc Q r2 (a1.go g2) a2 h2 (k.go (g1.trans g2))⟩
def eBM0 (m : MX c) (o : EX c) : EX c where
  te := tBM0 c.K m.T m.r o.te
  w env st Q := o.w env st fun t st1 => m.ty st1 t ∧ m.w st1 t [] Q
  ok L F env st σ H Qc Q r s h k := o.ok L F env st σ H _ _ r s h fun v t st1 H1 L1 g1 r1 a1 ⟨y1, h1⟩ =>
    ⟨m.okT L1 F st1 H1 v t r1 a1 y1, m.ok L1 F st1 H1 v t [] [] Qc Q r1 a1 .nil h1 (k.go g1)⟩
/-! lists that are cells -/
def cellL (st : Stt) (t : T) (K : Nat → List T → Prop) : Prop := match t with
  | .ref n => match st[n]? with | some (.lst xs) => K n xs | _ => False
  | _ => False
theorem cellL_ok {L : Ls} {F : List Addr} {st : Stt} {H : Hp} {v : V} {t : T} {K : Nat → List T → Prop} (r : Rl c L F st H) (a : Ta c L F H v t) (h : cellL st t K) :
    ∃ n b vs xs, v = .ref b ∧ t = .ref n ∧ L[n]? = some (some b) ∧ st[n]? = some (.lst xs) ∧ K n xs ∧ H b = some (.lst vs) ∧ Tas c L F H vs xs ∧ xs.length ≤ big ∧ refsInL (fun m => decide (m < n)) xs = true := by
  cases a with
  | @ref n b e =>
    cases q : st[n]? with
    | none => simp [cellL, q] at h
    | some x =>
      cases x with
      | lst xs =>
        obtain ⟨vs, hb, as, z⟩ := r.cell n b _ e q
        exact ⟨n, b, vs, xs, rfl, rfl, e, q, by simpa [cellL, q] using h, hb, as, z, r.low n _ q⟩
      | _ => simp [cellL, q] at h
  | _ => exact h.elim
theorem refsInL_app {p : Nat → Bool} {xs ys : List T} : refsInL p (xs ++ ys) = (refsInL p xs && refsInL p ys) := by
  rw [refsInL_all, refsInL_all, refsInL_all, List.all_append]
theorem refsInL_sub {p : Nat → Bool} {xs ys : List T} (h : ∀ x ∈ ys, x ∈ xs) (k : refsInL p xs = true) : refsInL p ys = true := by
  rw [refsInL_all] at k ⊢
  rw [List.all_eq_true] at k ⊢
  exact fun x m => k x (h x m)
def isLs (st : Stt) (t : T) : Prop := cellL st t fun _ _ => True
theorem isLs_ok {L : Ls} {F : List Addr} {st : Stt} {H : Hp} {v : V} {t : T} (r : Rl c L F st H) (a : Ta c L F H v t) (h : isLs st t) : tyV c.K "list" v H := by
  obtain ⟨n, b, vs, xs, rfl, rfl, _, _, _, hb, _⟩ := cellL_ok r a h
  exact .inl ⟨rfl, vs, .inl (.inl hb)⟩
theorem KE.wrote {L : Ls} {F : List Addr} {st : Stt} {H : Hp} {Qc : VK} {Q : T → Stt → Prop} (k : KE c L F H Qc Q) (r : Rl c L F st H) {n : Nat} {b : Addr} {o : HO} {x : Cell} (e : L[n]? = some (some b)) (ok : CellOk c L F (upd H b o) b x) (low : x.under n = true)
    {v : V} {t : T} (a : Ta c L F (upd H b o) v t) (q : Q t (st.set n x)) : Qc v (upd H b o) := by
  obtain ⟨g, r2⟩ := r.write e ok low
  exact k v t _ _ L g r2 a q
theorem Go.at_ {L : Ls} {F : List Addr} {st : Stt} {H : Hp} (r : Rl c L F st H) {n : Nat} {b : Addr} {o : HO} (e : L[n]? = some (some b)) : Go L H L (upd H b o) := by
  have ha : some b ∈ L := List.mem_of_getElem? e
  exact { gr := fun p u np h => by rw [upd_ne fun z => np (by rw [z]; exact ha)]; exact h
          keep := fun p h => by
            by_cases q : p = b
            · rw [q, upd_same]; exact fun z => nomatch z
            · rw [upd_ne q]; exact h
          len := Nat.le_refl _
          old := fun _ _ _ e => e
          new := fun n x l e => absurd (List.getElem?_eq_some_iff.mp e).1 (by omega)
          stay := fun _ _ e => e }
def mAppend : MX c where
  T := "list"
  r := rAppend
  ty := isLs
  w st t ts Q := match ts with | [y] => cellL st t fun n xs => xs.length < big ∧ y.under n = true ∧ Q .non (st.set n (.lst (xs ++ [y]))) | _ => False
  okT _ _ _ _ _ _ r a h := isLs_ok r a h
  ok L F st H x t vs ts Qc Q r a as h k := by
    match ts, as, h with
    | [y], .cons (v := u) a1 .nil, h =>
      obtain ⟨n, b, vs, xs, rfl, rfl, e, es, ⟨z, lo, h⟩, hb, as, z2, lw⟩ := cellL_ok r a h
      have g := Go.at_ (o := .lst (vs ++ [u])) r e
      exact ⟨b, vs, _, rfl, rfl, hb, by rw [as.length]; exact Nat.lt_trans z (by decide), k.wrote r e (x := .lst (xs ++ [y])) ⟨_, upd_same, (as.go g).app (.cons (a1.go g) .nil), by rw [List.length_append]; exact z⟩
        (by show refsInL _ _ = true; rw [refsInL_app, lw]; simpa [refsInL] using lo) .non h⟩
def mExtend : MX c where
  T := "list"
  r := rExtend
  ty := isLs
  w st t ts Q := match ts with | [y] => cellL st t fun n xs => asL st y fun ys _ => xs.length + ys.length ≤ big ∧ refsInL (fun m => decide (m < n)) ys = true ∧ Q .non (st.set n (.lst (xs ++ ys))) | _ => False
  okT _ _ _ _ _ _ r a h := isLs_ok r a h
  ok L F st H x t vs ts Qc Q r a as h k := by
    match ts, as, h with
    | [y], .cons a1 .nil, h =>
      obtain ⟨n, b, vs, xs, rfl, rfl, e, es, h, hb, as, z2, lw⟩ := cellL_ok r a h
      obtain ⟨d, ws, ys, _, rfl, ⟨z, lo, h⟩, hd, bs, _, _, _⟩ := asL_ok r a1 h
      have g := Go.at_ (o := .lst (vs ++ ws)) r e
      exact ⟨b, d, vs, ws, rfl, rfl, hb, hd, by rw [as.length, bs.length]; exact Nat.le_trans z (by decide), k.wrote r e (x := .lst (xs ++ ys)) ⟨_, upd_same, (as.go g).app (bs.go g), by rw [List.length_append]; exact z⟩
        (by show refsInL _ _ = true; rw [refsInL_app, lw, lo]; rfl) .non h⟩
def mClear : MX c where
  T := "list"
  r := rClear
  ty := isLs
  w st t ts Q := match ts with | [] => cellL st t fun n xs => Q .non (st.set n (.lst [])) | _ => False
  okT _ _ _ _ _ _ r a h := isLs_ok r a h
  ok L F st H x t vs ts Qc Q r a as h k := by
    match ts, as, h with
    | [], .nil, h =>
      obtain ⟨n, b, vs, xs, rfl, rfl, e, es, h, hb, as, z2, lw⟩ := cellL_ok r a h
      exact ⟨b, vs, rfl, rfl, hb, k.wrote r e (x := .lst []) ⟨_, upd_same, .nil, Nat.zero_le _⟩ rfl .non h⟩
def mReverse : MX c where
  T := "list"
  r := rReverse
  ty := isLs
  w st t ts Q := match ts with | [] => cellL st t fun n xs => Q .non (st.set n (.lst xs.reverse)) | _ => False
  okT _ _ _ _ _ _ r a h := isLs_ok r a h
  ok L F st H x t vs ts Qc Q r a as h k := by
    match ts, as, h with
    | [], .nil, h =>
      obtain ⟨n, b, vs, xs, rfl, rfl, e, es, h, hb, as, z2, lw⟩ := cellL_ok r a h
      have g := Go.at_ (o := .lst vs.reverse) r e
      exact ⟨b, vs, rfl, rfl, hb, k.wrote r e (x := .lst xs.reverse) ⟨_, upd_same, (as.go g).rev, by rw [List.length_reverse]; exact z2⟩ (refsInL_sub (fun x m => List.mem_reverse.mp m) lw) .non h⟩
def mPop : MX c where
  T := "list"
  r := rPop
  ty := isLs
  w st t ts Q := match ts with | [] => cellL st t fun n xs => (match xs[xs.length - 1]? with | some y => Q y (st.set n (.lst xs.dropLast)) | none => False) | _ => False
  okT _ _ _ _ _ _ r a h := isLs_ok r a h
  ok L F st H x t vs ts Qc Q r a as h k := by
    match ts, as, h with
    | [], .nil, h =>
      obtain ⟨n, b, vs, xs, rfl, rfl, e, es, h, hb, as, z2, lw⟩ := cellL_ok r a h
      split at h
      · rename_i y ey
        have g := Go.at_ (o := .lst vs.dropLast) r e
        obtain ⟨v, ev, av⟩ := as.of_get ey
        have dl : Tas c L F (upd H b (.lst vs.dropLast)) vs.dropLast xs.dropLast := by
          have q := (as.go g).take (xs.length - 1)
          have e1 : vs.dropLast = vs.take (xs.length - 1) := by rw [List.dropLast_eq_take, as.length]
          rw [← e1, ← List.dropLast_eq_take] at q
          exact q
        exact ⟨b, vs, v, rfl, rfl, hb, by rw [as.length]; exact ev, k.wrote r e (x := .lst xs.dropLast) ⟨_, upd_same, dl, by rw [List.length_dropLast]; omega⟩ (refsInL_sub (fun x m => List.dropLast_subset _ m) lw) (av.go g) h⟩
      · exact h.elim
def mPopAt : MX c where
  T := "list"
  r := rPopAt
  ty := isLs
  w st t ts Q := match ts with | [.int i] => cellL st t fun n xs => (-(2 ^ 63) ≤ i ∧ i < 2 ^ 63) ∧ (match seqIndex? i xs.length with | some j => (match xs[j]? with | some y => Q y (st.set n (.lst (xs.eraseIdx j))) | none => False) | none => False) | _ => False
  okT _ _ _ _ _ _ r a h := isLs_ok r a h
  ok L F st H x t vs ts Qc Q r a as h k := by
    match ts, as, h with
    | [.int i], .cons (.int _) .nil, h =>
      obtain ⟨n, b, vs, xs, rfl, rfl, e, es, ⟨⟨i1, i2⟩, h⟩, hb, as, z2, lw⟩ := cellL_ok r a h
      split at h
      · rename_i j ej
        split at h
        · rename_i y ey
          have g := Go.at_ (o := .lst (vs.eraseIdx j)) r e
          obtain ⟨v, ev, av⟩ := as.of_get ey
          exact ⟨b, vs, i, j, v, rfl, rfl, hb, i1, i2, by rw [as.length]; exact ej, ev, k.wrote r e (x := .lst (xs.eraseIdx j)) ⟨_, upd_same, (as.go g).erase j, Nat.le_trans (List.length_eraseIdx_le _ _) z2⟩ (refsInL_sub (fun x m => List.mem_of_mem_eraseIdx m) lw) (av.go g) h⟩
        · exact h.elim
      · exact h.elim
/-! texts -/
def isSt (st : Stt) (t : T) : Prop := match t with | .str _ => True | _ => False
theorem isSt_ok {L : Ls} {F : List Addr} {st : Stt} {H : Hp} {v : V} {t : T} (r : Rl c L F st H) (a : Ta c L F H v t) (h : isSt st t) : tyV c.K "str" v H := by
  cases a with
  | str x => exact rfl
  | _ => exact h.elim
/-- a text's own test -/
def mS0 (C : Str → Prop) (g : Str → Bool) : MX c where
  T := "str"
  r := fun x xs H Q => ∃ a, x = .str a ∧ xs = [] ∧ C a ∧ Q (.bl (g a)) H
  ty := isSt
  w st t ts Q := match t with | .str x => ts = [] ∧ C x ∧ Q (.bl (g x)) st | _ => False
  okT _ _ _ _ _ _ r a h := isSt_ok r a h
  ok L F st H x t vs ts Qc Q r a as h k := by
    cases a with
    | str x =>
      obtain ⟨rfl, hc, h⟩ := h
      cases as
      exact ⟨x, rfl, rfl, hc, k.here r (.bl _) h⟩
    | _ => exact h.elim
def texts : List T → Option (List Str)
  | [] => some []
  | .str b :: r => (texts r).map (b :: ·)
  | _ :: _ => none
theorem texts_map {α : Type} (f : α → Str) : ∀ xs : List α, texts (xs.map fun x => T.str (f x)) = some (xs.map f)
  | [] => rfl
  | x :: xs => by simp [texts, texts_map f xs]
theorem texts_str : ∀ xs : List Str, texts (xs.map T.str) = some xs
  | [] => rfl
  | x :: xs => by simp [texts, texts_str xs]
theorem texts_vs {L : Ls} {F : List Addr} {H : Hp} : ∀ {ts : List T} {vs : List V} {bs : List Str}, Tas c L F H vs ts → texts ts = some bs → vs = bs.map V.str
  | [], _, _, .nil, e => by cases e; rfl
  | .str b :: ts, _, bs, .cons (.str _) k, e => by
    simp only [texts, Option.map_eq_some_iff] at e
    obtain ⟨r, e1, rfl⟩ := e
    rw [texts_vs k e1]
    rfl
  | .non :: _, _, _, _, e | .int _ :: _, _, _, _, e | .bl _ :: _, _, _, _, e | .lst _ :: _, _, _, _, e | .tup _ :: _, _, _, _, e | .emp :: _, _, _, _, e | .scr _ :: _, _, _, _, e | .dct _ :: _, _, _, _, e | .dtt _ :: _, _, _, _, e | .set _ :: _, _, _, _, e | .obj _ _ :: _, _, _, _, e | .ref _ :: _, _, _, _, e => by simp [texts] at e
def mJoin : MX c where
  T := "str"
  r := fun x xs H Q => ∃ a p, ∃ ys : List Str, x = .str a ∧ xs = [.ref p] ∧ (SqL c.K H p (ys.map V.str) ∨ SqT c.K H p (ys.map V.str)) ∧
    (ys.map (·.length)).sum + ys.length * a.length ≤ 16777216 ∧ Q (.str (Txt.join a ys)) H
  ty := isSt
  w st t ts Q := match t, ts with | .str a, [y] => anyW st y fun zs => (match texts zs with | some ys => y.toD ≠ some (.str (match y with | .str x => x | _ => "")) ∧ (ys.map (·.length)).sum + ys.length * a.length ≤ 16777216 ∧ Q (.str (Txt.join a ys)) st | none => False) | _, _ => False
  okT _ _ _ _ _ _ r a h := isSt_ok r a h
  ok L F st H x t vs ts Qc Q r a as h k := by
    match t, ts, a, as, h with
    | .str x, [y], .str _, .cons a1 .nil, h =>
      rcases anyW_ok r a1 h with ⟨p, vs, ts, rfl, h, hp, as, z⟩ | ⟨p, vs, ts, rfl, e, h, hp, nb, as, z⟩ | ⟨p, rfl, h, e, d⟩ | ⟨u, rfl, e, z, h⟩
      · split at h
        · rename_i ys ey
          exact ⟨x, p, ys, rfl, rfl, .inl (.inl (.inl (by rw [← texts_vs as ey]; exact hp))), h.2.1, k.here r (.str _) h.2.2⟩
        · exact h.elim
      · split at h
        · rename_i ys ey
          exact ⟨x, p, ys, rfl, rfl, .inr (.inl (.inl (by rw [← texts_vs as ey]; exact hp))), h.2.1, k.here r (.str _) h.2.2⟩
        · exact h.elim
      · exact ⟨x, p, [], rfl, rfl, .inr (d.sq H), h.2.1, k.here r (.str _) h.2.2⟩
      · split at h
        · subst e; exact absurd rfl h.1
        · exact h.elim
/-! targets that change cells -/
structure GH (c : Cf) where
  g : TG
  w : T → En → Stt → (En → Stt → Prop) → Prop
  ok : ∀ (L : Ls) (F : List Addr) (st : Stt) (H : Hp) (σ : L2.St) (env : En) (v : V) (t : T) (Qc : L2.St → Hp → Prop) (Q : En → Stt → Prop), Rl c L F st H → Se c L F H σ env → Ta c L F H v t → w t env st Q →
    (∀ σ' env' st' H' L', Go L H L' H' → Rl c L' F st' H' → Se c L' F H' σ' env' → Q env' st' → Qc σ' H') → g v σ H Qc
structure GHs (c : Cf) where
  g : TGs
  w : List T → En → Stt → (En → Stt → Prop) → Prop
  ok : ∀ (L : Ls) (F : List Addr) (st : Stt) (H : Hp) (σ : L2.St) (env : En) (us : List V) (ts : List T) (Qc : L2.St → Hp → Prop) (Q : En → Stt → Prop), Rl c L F st H → Se c L F H σ env → Tas c L F H us ts → w ts env st Q →
    (∀ σ' env' st' H' L', Go L H L' H' → Rl c L' F st' H' → Se c L' F H' σ' env' → Q env' st' → Qc σ' H') → g us σ H Qc
def hN (i : Nat) : GH c where
  g := gName i
  w t env st Q := Q (env.set i (some t)) st
  ok L F st H σ env v t Qc Q r s a h k := k _ _ st H L (Go.refl _ _) r (s.set a) h
def hsN : GHs c where
  g := gNil
  w ts env st Q := ts = [] ∧ Q env st
  ok L F st H σ env us ts Qc Q r s a h k := by
    obtain ⟨rfl, h⟩ := h
    cases a
    exact ⟨rfl, k σ env st H L (Go.refl _ _) r s h⟩
def hsC (x : GH c) (xs : GHs c) : GHs c where
  g := gCons x.g xs.g
  w ts env st Q := match ts with | t :: r => x.w t env st fun env' st' => xs.w r env' st' Q | [] => False
  ok L F st H σ env us ts Qc Q r s a h k := by
    cases a with
    | nil => exact h.elim
    | cons a1 a2 =>
      refine ⟨_, _, rfl, x.ok L F st H σ env _ _ _ _ r s a1 h fun σ1 env1 st1 H1 L1 g1 r1 s1 h1 => ?_⟩
      exact xs.ok L1 F st1 H1 σ1 env1 _ _ _ _ r1 s1 (a2.go g1) h1 fun σ2 env2 st2 H2 L2 g2 r2 s2 h2 => k σ2 env2 st2 H2 L2 (g1.trans g2) r2 s2 h2
def hT (n : Nat) (xs : GHs c) : GH c where
  g := gTup c.K n xs.g
  w t env st Q := match t with | .tup ts => ts.length = n ∧ xs.w ts env st Q | _ => False
  ok L F st H σ env v t Qc Q r s a h k := by
    cases a with
    | tup nb hp as z => exact ⟨_, _, rfl, .inl (.inl hp), by rw [as.length]; exact h.1, xs.ok L F st H σ env _ _ _ _ r s as h.2 k⟩
    | _ => exact h.elim
/-- xs[i] = v -/
def hSub (o i : EX c) : GH c where
  g := gSub o.te i.te rSetL
  w t env st Q := o.w env st fun x st1 => i.w env st1 fun j st2 => match j with
    | .int j => cellL st2 x fun n xs => (match ixN xs.length j with | some m => t.under n = true ∧ Q env (st2.set n (.lst (xs.set m t))) | none => False)
    | _ => False
  ok L F st H σ env v t Qc Q r s a h k := o.ok L F env st σ H _ _ r s h fun ov ot st1 H1 L1 g1 r1 a1 h1 => i.ok L1 F env st1 σ H1 _ _ r1 (s.go g1) h1 fun iv it st2 H2 L2 g2 r2 a2 h2 => by
    cases a2 with
    | int j =>
      obtain ⟨n, b, vs, xs, rfl, rfl, e, es, h, hb, as, z2, lw⟩ := cellL_ok r2 (a1.go g2) h2
      split at h
      · rename_i m em
        have go := Go.at_ (o := .lst (vs.set m v)) r2 e
        obtain ⟨g3, r3⟩ := r2.write (o := .lst (vs.set m v)) (x := .lst (xs.set m t)) e ⟨_, upd_same, (as.go go).set (((a.go g1).go g2).go go) m, by rw [List.length_set]; exact z2⟩ (by
          show refsInL _ _ = true
          rw [refsInL_all, List.all_eq_true]
          intro x mx
          rcases List.mem_or_eq_of_mem_set mx with q | rfl
          · rw [refsInL_all, List.all_eq_true] at lw; exact lw x q
          · exact h.1)
        have g123 := (g1.trans g2).trans g3
        exact ⟨b, vs, j, m, rfl, rfl, hb, by rw [as.length]; exact em, k σ env _ _ L2 g123 r3 (s.go g123) h.2⟩
      · exact h.elim
    | _ => exact h2.elim
def sAsH (e : EX c) (x : GH c) : SX c where
  ts := tAsg e.te x.g
  w _ E env st := e.w env st fun t st1 => x.w t env st1 E.nx
  ok n0 L F env st σ H D E r s h k := e.ok L F env st σ H _ _ r s h fun v t st1 H1 L1 g1 r1 a1 h1 =>
    x.ok L1 F st1 H1 σ env v t _ _ r1 (s.go g1) a1 h1 fun σ2 env2 st2 H2 L2 g2 r2 s2 h2 => k.nx σ2 env2 st2 H2 L2 (g1.trans g2).gs r2 s2 h2
/-- xs[i] += e, of numbers -/
def sAugS (o i e : EX c) : SX c where
  ts := tAugS o.te i.te e.te rGetL (ipI fun i j => i + j) rSetL
  w _ E env st := o.w env st fun x st1 => i.w env st1 fun j st2 => match j with
    | .int j => 0 ≤ j ∧ j < 1000000 ∧ cellL st2 x fun n xs => (match xs[j.toNat]? with | some (.int a) => e.w env st2 fun y st3 => (match y with | .int b => cellL st3 x fun n xs => (match ixN xs.length j with | some m => E.nx env (st3.set n (.lst (xs.set m (.int (a + b))))) | none => False) | _ => False) | _ => False)
    | _ => False
  ok n0 L F env st σ H D E r s h k := o.ok L F env st σ H _ _ r s h fun ov ot st1 H1 L1 g1 r1 a1 h1 => i.ok L1 F env st1 σ H1 _ _ r1 (s.go g1) h1 fun iv it st2 H2 L2 g2 r2 a2 h2 => by
    cases a2 with
    | int j =>
      obtain ⟨j0, j1, h2⟩ := h2
      obtain ⟨n, b, vs, xs, rfl, rfl, el, es, h, hb, as, z2, lw⟩ := cellL_ok r2 (a1.go g2) h2
      have ej : ((j.toNat : Nat) : Int) = j := by omega
      cases ex : xs[j.toNat]? with
      | none => simp [ex] at h
      | some t =>
        cases t with
        | int a =>
          simp only [ex] at h
          obtain ⟨v, ev, av⟩ := as.of_get ex
          cases av
          refine ⟨b, vs, j.toNat, .int a, rfl, by rw [ej], hb, by omega, ev, ?_⟩
          have g12 := g1.trans g2
          refine e.ok L2 F env st2 σ H2 _ _ r2 (s.go g12) h fun yv yt st3 H3 L3 g3 r3 a3 h3 => ?_
          cases a3 with
          | int d =>
            obtain ⟨n', b', vs', xs', q1, q2, el', es', h', hb', as', z2', lw'⟩ := cellL_ok r3 ((a1.go g2).go g3) h3
            cases q1
            cases q2
            split at h'
            · rename_i m em
              have go := Go.at_ (o := .lst (vs'.set m (.int (a + d)))) r3 el'
              obtain ⟨g4, r4⟩ := r3.write (o := .lst (vs'.set m (.int (a + d)))) (x := .lst (xs'.set m (.int (a + d)))) el' ⟨_, upd_same, (as'.go go).set (.int _) m, by rw [List.length_set]; exact z2'⟩ (by
                show refsInL _ _ = true
                rw [refsInL_all, List.all_eq_true]
                intro x mx
                rcases List.mem_or_eq_of_mem_set mx with q | rfl
                · rw [refsInL_all, List.all_eq_true] at lw'; exact lw' x q
                · simp [T.refsIn])
              have g1234 := (g12.trans g3).trans g4
              exact ⟨a, d, rfl, rfl, b, vs', j, m, rfl, rfl, hb', by rw [as'.length]; exact em, k.nx σ env _ _ L3 g1234.gs r4 (s.go g1234) h'⟩
            · exact h'.elim
          | _ => exact h3.elim
        | _ => simp [ex] at h
    | _ => exact h2.elim
end
end Vw

/-! calls of defs; cells let go; objects -/
namespace Vw
open PySem PySem.Spec PyProof.Rows L2 Gd
/-- a def's promise, by what its body does to trees -/
abbrev Mn := List T → Stt → (T → Stt → Prop) → Prop
def SpT (c : Cf) (m : Mn) : Sp := fun vs H Q _ => ∃ (L : Ls) (F : List Addr) (st : Stt) (ts : List T) (Qt : T → Stt → Prop), Rl c L F st H ∧ Tas c L F H vs ts ∧ m ts st Qt ∧ KE c L F H Q Qt
/-- a body with np parameters and n more names -/
def mD {c : Cf} (D : SX c) (np n : Nat) : Mn := fun ts st Q => ts.length = np ∧ D.w st.length { nx := fun _ st' => Q .non st', rt := Q } (ts.map some ++ List.replicate n none) st
section
variable {c : Cf}
theorem start_se {L : Ls} {F : List Addr} {H : Hp} {N : List Str} : ∀ {vs : List V} {ts : List T} {n : Nat}, N.length = ts.length + n → Tas c L F H vs ts → Se c L F H (L2.start N vs) (ts.map some ++ List.replicate n none) := fun {vs ts n} e h => by
  have l := h.length
  have e2 : N.length - vs.length = n := by omega
  refine ⟨by unfold L2.start; simp; omega, fun i t q => ?_⟩
  unfold L2.start
  rw [e2]
  by_cases lt : i < ts.length
  · rw [List.getElem?_append_left (by rw [List.length_map]; exact lt), List.getElem?_map] at q
    cases et : ts[i]? with
    | none => rw [et] at q; cases q
    | some u =>
      rw [et] at q
      cases q
      obtain ⟨v, ev, av⟩ := h.of_get et
      refine ⟨v, ?_, av⟩
      rw [List.getElem?_append_left (by rw [List.length_map]; omega), List.getElem?_map, ev]
      rfl
  · rw [List.getElem?_append_right (by rw [List.length_map]; omega), List.getElem?_replicate] at q
    split at q <;> cases q
theorem spT_body {D : SX c} {np n : Nat} {N : List Str} {vs : List V} {H : Hp} {Q : VK} {E : XK} (eN : N.length = np + n) (h : SpT c (mD D np n) vs H Q E) : D.ts { nx := fun _ H' => Q .non H', rt := Q } (L2.start N vs) H := by
  obtain ⟨L, F, st, ts, Qt, r, a, ⟨l, h⟩, k⟩ := h
  refine D.ok st.length L F _ st _ H _ _ r (start_se (by omega) a) h ⟨?_, ?_, fun _ _ _ _ _ _ _ _ z => z.elim, fun _ _ _ _ _ _ _ _ z => z.elim⟩
  · exact fun σ' env' st' H' L' g r' s' h' => k .non .non st' H' L' (g.go (by rw [r.len]; exact Nat.le_refl _)) r' .non h'
  · exact fun v t st' H' L' g r' a' h' => k v t st' H' L' (g.go (by rw [r.len]; exact Nat.le_refl _)) r' a' h'
theorem spT_len {D : SX c} {np n : Nat} {vs : List V} {H : Hp} {Q : VK} {E : XK} (h : SpT c (mD D np n) vs H Q E) : vs.length = np := by
  obtain ⟨L, F, st, ts, Qt, r, a, ⟨l, h⟩, k⟩ := h
  rw [a.length, l]
/-! what stands behind a call: cells of the callee's own are let go -/
def exitF (n0 : Nat) (st' : Stt) (t : T) (Q : T → Prop) : Prop := match t with
  | .ref n => if n < n0 then Q (.ref n) else match st'[n]? with
    | some (.lst xs) => refsInL (fun m => decide (m < n0)) xs = true ∧ Q (.lst xs)
    | some (.dct xs) => refsInK (fun m => decide (m < n0)) xs = true ∧ Q (.dct xs)
    | some (.dtt xs) => refsInT (fun m => decide (m < n0)) xs = true ∧ Q (.dtt xs)
    | some (.obj C xs) => refsInF (fun m => decide (m < n0)) xs = true ∧ Q (.obj C xs)
    | _ => False
  | t => t.under n0 = true ∧ Q t
theorem take_get {α : Type} {xs : List α} {n m : Nat} {x : α} (h : (xs.take n)[m]? = some x) : m < n ∧ xs[m]? = some x := by
  rw [List.getElem?_take] at h
  split at h
  · exact ⟨by assumption, h⟩
  · cases h
theorem take_of {α : Type} {xs : List α} {n m : Nat} {x : α} (l : m < n) (h : xs[m]? = some x) : (xs.take n)[m]? = some x := by
  rw [List.getElem?_take, if_pos l]
  exact h
section
variable {L L' : Ls} {F : List Addr} {st st' : Stt} {H H' : Hp} {v : V} {t : T}
theorem Mv.cut (n0 : Nat) : Mv (fun m => decide (m < n0)) L F H (L.take n0) F H :=
  ⟨fun a u n h => ⟨fun z => n (z.imp id fun m => List.mem_of_mem_take m), h⟩, fun n a p h => take_of (of_decide_eq_true p) h⟩
theorem Rl.cut (r : Rl c L F st H) (n0 : Nat) : Rl c (L.take n0) F (st.take n0) H where
  len := by rw [List.length_take, List.length_take, r.len]
  cell := fun n a x e1 e2 => by
    obtain ⟨l, e1⟩ := take_get e1
    obtain ⟨_, e2⟩ := take_get e2
    have low := r.low n x e2
    refine (r.cell n a x e1 e2).mv (Mv.cut n0) ?_ rfl
    cases x with
    | lst xs => exact refsInL_mono (fun m h => by have := of_decide_eq_true h; exact decide_eq_true (by omega)) _ low
    | dct xs => exact refsInK_mono (fun m h => by have := of_decide_eq_true h; exact decide_eq_true (by omega)) _ low
    | dtt xs => exact refsInT_mono (fun m h => by have := of_decide_eq_true h; exact decide_eq_true (by omega)) _ low
    | obj C xs => exact refsInF_mono (fun m h => by have := of_decide_eq_true h; exact decide_eq_true (by omega)) _ low
    | gone => rfl
  low := fun n x e => r.low n x (take_get e).2
  gone := fun n e => by
    obtain ⟨l, e⟩ := take_get e
    exact take_of l (r.gone n e)
  nodup := fun i j a e1 e2 => r.nodup i j a (take_get e1).2 (take_get e2).2
  trF := r.trF
  dis := fun p m z => r.dis p m (List.mem_of_mem_take z)
theorem Go.cut (g : Go L H L' H') : Go L H (L'.take L.length) H' where
  gr := g.gr
  keep := g.keep
  len := by rw [List.length_take]; have := g.len; omega
  old := fun n a l e => g.old n a l (take_get e).2
  new := fun n a l e => absurd (take_get e).1 (by omega)
  stay := fun n a e => take_of (List.getElem?_eq_some_iff.mp e).1 (g.stay n a e)
theorem exit_ok {K : T → Prop} (n0 : Nat) (r : Rl c L F st H) (a : Ta c L F H v t) (h : exitF n0 st t K) : ∃ t', Ta c (L.take n0) F H v t' ∧ K t' := by
  have nb : ∀ {n b}, ¬ n < n0 → L[n]? = some (some b) → ¬ Bar (L.take n0) F b := fun {n b} l e z => by
    rcases z with m | m
    · exact r.dis b m (List.mem_of_getElem? e)
    · obtain ⟨i, hi, ei⟩ := List.getElem_of_mem m
      have e1 : (L.take n0)[i]? = some (some b) := by rw [List.getElem?_eq_getElem hi, ei]
      obtain ⟨l2, e2⟩ := take_get e1
      have := r.nodup i n b e2 e
      omega
  cases a with
  | @ref n b e =>
    by_cases l : n < n0
    · rw [exitF, if_pos l] at h
      exact ⟨.ref n, .ref (take_of l e), h⟩
    · rw [exitF, if_neg l] at h
      cases q : st[n]? with
      | none => simp [q] at h
      | some x =>
        cases x with
        | lst xs =>
          obtain ⟨h1, h2⟩ : refsInL (fun m => decide (m < n0)) xs = true ∧ K (.lst xs) := by simpa [q] using h
          obtain ⟨vs, hb, as, z⟩ := r.cell n b _ e q
          exact ⟨.lst xs, .lst (nb l e) hb (as.mv (Mv.cut n0) h1) z, h2⟩
        | dct xs =>
          obtain ⟨h1, h2⟩ : refsInK (fun m => decide (m < n0)) xs = true ∧ K (.dct xs) := by simpa [q] using h
          obtain ⟨vs, hb, qk, as, z⟩ := r.cell n b _ e q
          exact ⟨.dct xs, .dK (nb l e) hb qk (as.mv (Mv.cut n0) (by rw [← refsInK_map]; exact h1)) z, h2⟩
        | dtt xs =>
          obtain ⟨h1, h2⟩ : refsInT (fun m => decide (m < n0)) xs = true ∧ K (.dtt xs) := by simpa [q] using h
          obtain ⟨vs, hb, qk, as, z⟩ := r.cell n b _ e q
          exact ⟨.dtt xs, .dT (nb l e) hb qk (as.mv (Mv.cut n0) (by rw [← refsInT_map]; exact h1)) z, h2⟩
        | obj C xs =>
          obtain ⟨h1, h2⟩ : refsInF (fun m => decide (m < n0)) xs = true ∧ K (.obj C xs) := by simpa [q] using h
          obtain ⟨dx, fs, hb, qk, as⟩ := r.cell n b _ e q
          exact ⟨.obj C xs, .obj (nb l e) hb qk (as.mv (Mv.cut n0) (by rw [← refsInF_map]; exact h1)), h2⟩
        | gone => simp [q] at h
  | non => exact ⟨_, .non, h.2⟩
  | bl b => exact ⟨_, .bl b, h.2⟩
  | int b => exact ⟨_, .int b, h.2⟩
  | str b => exact ⟨_, .str b, h.2⟩
  | lst a1 a2 a3 a4 => exact ⟨_, (Ta.lst a1 a2 a3 a4).mv (Mv.cut n0) h.1, h.2⟩
  | tup a1 a2 a3 a4 => exact ⟨_, (Ta.tup a1 a2 a3 a4).mv (Mv.cut n0) h.1, h.2⟩
  | emp a1 => exact ⟨_, .emp a1, h.2⟩
  | scrF a1 a2 a3 => exact ⟨_, (Ta.scrF a1 a2 a3).mv (Mv.cut n0) h.1, h.2⟩
  | scrK sk z => exact ⟨_, .scrK sk z, h.2⟩
  | dK a1 a2 a3 a4 a5 => exact ⟨_, (Ta.dK a1 a2 a3 a4 a5).mv (Mv.cut n0) h.1, h.2⟩
  | dT a1 a2 a3 a4 a5 => exact ⟨_, (Ta.dT a1 a2 a3 a4 a5).mv (Mv.cut n0) h.1, h.2⟩
  | set a1 a2 a3 => exact ⟨_, (Ta.set a1 a2 a3).mv (Mv.cut n0) h.1, h.2⟩
  | obj a1 a2 a3 a4 => exact ⟨_, (Ta.obj a1 a2 a3 a4).mv (Mv.cut n0) h.1, h.2⟩
end
/-- a def called, its own cells let go -/
def callF (m : Mn) : Mn := fun ts st Q => m ts st fun t st' => exitF st.length st' t fun t' => Q t' (st'.take st.length)
theorem KE.exit {L : Ls} {F : List Addr} {st : Stt} {H : Hp} {Qc : VK} {Q : T → Stt → Prop} (r : Rl c L F st H) (k : KE c L F H Qc Q) : KE c L F H Qc fun t st' => exitF st.length st' t fun t' => Q t' (st'.take st.length) :=
  fun v t st' H' L' g r' a h => by
    rw [← r.len] at h
    obtain ⟨t', a', q⟩ := exit_ok L.length r' a h
    exact k v t' _ H' _ g.cut (r'.cut _) a' q
/-- f(..), with the defaults ds -/
def eCl (m : Mn) (dvs : List V) (ds : List T) (hd : ∀ L F H, Tas c L F H dvs ds) (E : XK) (a : AX c) : EX c where
  te := tCall (SpT c m) dvs E a.ta
  w env st Q := a.w env st fun ts st1 => callF m (ts ++ ds) st1 Q
  ok L F env st σ H Qc Q r s h k := a.ok L F env st σ H _ _ r s h fun vs ts st1 H1 L1 g1 r1 a1 h1 =>
    ⟨L1, F, st1, ts ++ ds, _, r1, a1.app (hd _ _ _), h1, (k.go g1).exit r1⟩
/-- .. its cells kept -/
def eClK (m : Mn) (dvs : List V) (ds : List T) (hd : ∀ L F H, Tas c L F H dvs ds) (E : XK) (a : AX c) : EX c where
  te := tCall (SpT c m) dvs E a.ta
  w env st Q := a.w env st fun ts st1 => m (ts ++ ds) st1 Q
  ok L F env st σ H Qc Q r s h k := a.ok L F env st σ H _ _ r s h fun vs ts st1 H1 L1 g1 r1 a1 h1 =>
    ⟨L1, F, st1, ts ++ ds, _, r1, a1.app (hd _ _ _), h1, k.go g1⟩
abbrev eC0 (m : Mn) (a : AX c) : EX c := eCl m [] [] (fun _ _ _ => .nil) C8.E0 a
abbrev eC0K (m : Mn) (a : AX c) : EX c := eClK m [] [] (fun _ _ _ => .nil) C8.E0 a
/-! a cell let go: the name i holds it alone -/
def sFrz (i : Nat) (s : SX c) : SX c where
  ts := s.ts
  w n0 E env st := match env[i]? with
    | some (some (.ref n)) => n0 ≤ n ∧ (env.zipIdx.all fun p => p.2 == i || (match p.1 with | some t => t.refsIn fun m => m != n | none => true)) = true ∧ (st.all fun x => x.refsIn fun m => m != n) = true ∧
      (match st[n]? with
        | some (.lst xs) => s.w n0 E (env.set i (some (.lst xs))) (st.set n .gone)
        | some (.dct xs) => s.w n0 E (env.set i (some (.dct xs))) (st.set n .gone)
        | some (.dtt xs) => s.w n0 E (env.set i (some (.dtt xs))) (st.set n .gone)
        | some (.obj C xs) => s.w n0 E (env.set i (some (.obj C xs))) (st.set n .gone)
        | _ => False)
    | _ => False
  ok n0 L F env st σ H D E r sl h k := by
    cases e : env[i]? with
    | none => simp [e] at h
    | some o =>
      cases o with
      | none => simp [e] at h
      | some t =>
        cases t with
        | ref n =>
          simp only [e] at h
          obtain ⟨ln, h1, h2, h⟩ := h
          obtain ⟨v, ev, av⟩ := sl.at_ i _ e
          cases av with
          | @ref _ b eb =>
            have lL : n < L.length := (List.getElem?_eq_some_iff.mp eb).1
            have nb : ¬ Bar (L.set n none) F b := fun z => by
              rcases z with m | m
              · exact r.dis b m (List.mem_of_getElem? eb)
              · obtain ⟨j, hj, ej⟩ := List.getElem_of_mem m
                have e1 : (L.set n none)[j]? = some (some b) := by rw [List.getElem?_eq_getElem hj, ej]
                by_cases nj : n = j
                · subst nj
                  rw [List.getElem?_set_self lL] at e1
                  cases e1
                · rw [List.getElem?_set_ne nj] at e1
                  exact nj (r.nodup n j b eb e1)
            have mv : Mv (fun m => m != n) L F H (L.set n none) F H := ⟨fun a u na ha => ⟨fun z => na (z.imp id fun m => by
              obtain ⟨j, hj, ej⟩ := List.getElem_of_mem m
              have e1 : (L.set n none)[j]? = some (some a) := by rw [List.getElem?_eq_getElem hj, ej]
              by_cases nj : n = j
              · subst nj
                rw [List.getElem?_set_self lL] at e1
                cases e1
              · rw [List.getElem?_set_ne nj] at e1
                exact List.mem_of_getElem? e1), ha⟩, fun m a p ha => by
                have nm : n ≠ m := fun z => by subst z; simp at p
                rw [List.getElem?_set_ne nm]
                exact ha⟩
            have g : Gs n0 L H (L.set n none) H := {
              gr := fun _ _ _ e => e
              keep := fun _ e => e
              len := by rw [List.length_set]; exact Nat.le_refl _
              old := fun m a l e => by
                by_cases nm : n = m
                · subst nm
                  rw [List.getElem?_set_self lL] at e
                  cases e
                · rw [List.getElem?_set_ne nm] at e; exact e
              new := fun m a l e => absurd (List.getElem?_eq_some_iff.mp e).1 (by rw [List.length_set]; omega)
              stay := fun m a e => by
                by_cases nm : n = m
                · subst nm; exact .inr ⟨ln, List.getElem?_set_self lL⟩
                · exact .inl (by rw [List.getElem?_set_ne nm]; exact e) }
            have r2 : Rl c (L.set n none) F (st.set n .gone) H := {
              len := by rw [List.length_set, List.length_set]; exact r.len
              cell := fun m a x e1 e2 => by
                have nm : n ≠ m := fun z => by
                  subst z
                  rw [List.getElem?_set_self lL] at e1
                  cases e1
                rw [List.getElem?_set_ne nm] at e1 e2
                rw [List.all_eq_true] at h2
                exact (r.cell m a x e1 e2).mv mv (h2 x (List.mem_of_getElem? e2)) rfl
              low := fun m x e => by
                by_cases nm : n = m
                · subst nm
                  rw [List.getElem?_set_self (by rw [← r.len]; exact lL)] at e
                  cases e
                  rfl
                · rw [List.getElem?_set_ne nm] at e; exact r.low m x e
              gone := fun m e => by
                by_cases nm : n = m
                · subst nm
                  exact List.getElem?_set_self (by rw [← r.len]; exact lL)
                · rw [List.getElem?_set_ne nm] at e ⊢; exact r.gone m e
              nodup := fun p q a e1 e2 => by
                have n1 : n ≠ p := fun z => by subst z; rw [List.getElem?_set_self lL] at e1; cases e1
                have n2 : n ≠ q := fun z => by subst z; rw [List.getElem?_set_self lL] at e2; cases e2
                rw [List.getElem?_set_ne n1] at e1
                rw [List.getElem?_set_ne n2] at e2
                exact r.nodup p q a e1 e2
              trF := r.trF
              dis := fun p m z => r.dis p m (by
                obtain ⟨j, hj, ej⟩ := List.getElem_of_mem z
                have e1 : (L.set n none)[j]? = some (some p) := by rw [List.getElem?_eq_getElem hj, ej]
                by_cases nj : n = j
                · subst nj
                  rw [List.getElem?_set_self lL] at e1
                  cases e1
                · rw [List.getElem?_set_ne nj] at e1
                  exact List.mem_of_getElem? e1) }
            have slx : ∀ t', Ta c (L.set n none) F H (.ref b) t' → Se c (L.set n none) F H σ (env.set i (some t')) := fun t' at' => by
              refine ⟨by rw [List.length_set]; exact sl.len, fun j u eu => ?_⟩
              by_cases ij : i = j
              · subst ij
                rw [List.getElem?_set] at eu
                simp only [if_pos] at eu
                split at eu
                · cases eu; exact ⟨_, ev, at'⟩
                · cases eu
              · rw [List.getElem?_set_ne ij] at eu
                obtain ⟨v', e1, a1⟩ := sl.at_ j u eu
                refine ⟨v', e1, a1.mv mv ?_⟩
                rw [List.all_eq_true] at h1
                have lj := (List.getElem?_eq_some_iff.mp eu).1
                have mj : (env[j], j) ∈ env.zipIdx := by
                  rw [List.mem_iff_getElem?]
                  exact ⟨j, by rw [List.getElem?_zipIdx, List.getElem?_eq_getElem lj]; simp⟩
                have q := h1 _ mj
                have ej : env[j] = some u := by rw [List.getElem?_eq_getElem lj] at eu; exact Option.some.inj eu
                simp only [ej, Bool.or_eq_true, beq_iff_eq] at q
                rcases q with q | q
                · exact absurd q.symm ij
                · exact q
            have low := fun x q => r.low n x q
            have lt2 : ∀ {p : Nat → Bool} , (∀ m, m < n → p m = true) → ∀ m, decide (m < n) = true → p m = true := fun h m hm => h m (of_decide_eq_true hm)
            have up : ∀ m, decide (m < n) = true → (m != n) = true := fun m hm => by have := of_decide_eq_true hm; simp; omega
            cases q : st[n]? with
            | none => simp [q] at h
            | some x =>
              cases x with
              | lst xs =>
                simp only [q] at h
                obtain ⟨vs, hb, as, z⟩ := r.cell n b _ eb q
                exact s.ok n0 _ F _ _ σ H D E r2 (slx _ (.lst nb hb (as.mv mv (refsInL_mono up _ (low _ q))) z)) h (k.go g)
              | dct xs =>
                simp only [q] at h
                obtain ⟨vs, hb, qk, as, z⟩ := r.cell n b _ eb q
                exact s.ok n0 _ F _ _ σ H D E r2 (slx _ (.dK nb hb qk (as.mv mv (by rw [← refsInK_map]; exact refsInK_mono up _ (low _ q))) z)) h (k.go g)
              | dtt xs =>
                simp only [q] at h
                obtain ⟨vs, hb, qk, as, z⟩ := r.cell n b _ eb q
                exact s.ok n0 _ F _ _ σ H D E r2 (slx _ (.dT nb hb qk (as.mv mv (by rw [← refsInT_map]; exact refsInT_mono up _ (low _ q))) z)) h (k.go g)
              | obj C xs =>
                simp only [q] at h
                obtain ⟨dx, fs, hb, qk, as⟩ := r.cell n b _ eb q
                exact s.ok n0 _ F _ _ σ H D E r2 (slx _ (.obj nb hb qk (as.mv mv (by rw [← refsInF_map]; exact refsInF_mono up _ (low _ q))))) h (k.go g)
              | gone => simp [q] at h
        | _ => simp [e] at h
end
end Vw

/-! dicts, sets, isinstance, comprehensions with two clauses -/
namespace Vw
open PySem PySem.Spec PyProof.Rows L2 Gd
section
variable {κ : Type} [DecidableEq κ]
def valP (kvs : List (κ × T)) (k : κ) : Option T := (kvs.find? fun kv => decide (kv.1 = k)).map (·.2)
def putP (kvs : List (κ × T)) (k : κ) (v : T) : List (κ × T) :=
  if (kvs.any fun kv => decide (kv.1 = k)) = true then kvs.map (fun kv => if kv.1 = k then (kv.1, v) else kv) else kvs ++ [(k, v)]
end
section
variable {c : Cf} {L : Ls} {F : List Addr} {H : Hp} {κ : Type}
/-- pairs with equal keys and values that stand for trees -/
inductive Prs (c : Cf) (L : Ls) (F : List Addr) (H : Hp) : List (κ × V) → List (κ × T) → Prop
  | nil : Prs c L F H [] []
  | cons {k : κ} {v : V} {t : T} {kvs : List (κ × V)} {ps : List (κ × T)} : Ta c L F H v t → Prs c L F H kvs ps → Prs c L F H ((k, v) :: kvs) ((k, t) :: ps)
theorem prs_of : ∀ {kvs : List (κ × V)} {ps : List (κ × T)}, ps.map (·.1) = kvs.map (·.1) → Tas c L F H (kvs.map (·.2)) (ps.map (·.2)) → Prs c L F H kvs ps
  | [], [], _, _ => .nil
  | [], _ :: _, e, _ => nomatch e
  | _ :: _, [], e, _ => nomatch e
  | (k, v) :: kvs, (k', t) :: ps, e, .cons a as => by
    have e' := List.cons.inj (show k' :: ps.map (·.1) = k :: kvs.map (·.1) from e)
    obtain ⟨rfl, e2⟩ := e'
    exact .cons a (prs_of e2 as)
theorem Prs.keys : ∀ {kvs : List (κ × V)} {ps : List (κ × T)}, Prs c L F H kvs ps → ps.map (·.1) = kvs.map (·.1)
  | _, _, .nil => rfl
  | _, _, .cons (k := k) _ t => congrArg (k :: ·) t.keys
theorem Prs.vals : ∀ {kvs : List (κ × V)} {ps : List (κ × T)}, Prs c L F H kvs ps → Tas c L F H (kvs.map (·.2)) (ps.map (·.2))
  | _, _, .nil => .nil
  | _, _, .cons a t => .cons a t.vals
theorem Prs.length {kvs : List (κ × V)} {ps : List (κ × T)} (h : Prs c L F H kvs ps) : kvs.length = ps.length := by
  have := congrArg List.length h.keys
  simpa using this.symm
theorem Prs.mv {p : Nat → Bool} {L' : Ls} {F' : List Addr} {H' : Hp} (m : Mv p L F H L' F' H') : ∀ {kvs : List (κ × V)} {ps : List (κ × T)}, refsInL p (ps.map (·.2)) = true → Prs c L F H kvs ps → Prs c L' F' H' kvs ps
  | _, _, _, .nil => .nil
  | _, _, k, .cons a t => by
    have k' := Bool.and_eq_true_iff.mp (by simpa only [List.map_cons, refsInL] using k)
    exact .cons (a.mv m k'.1) (t.mv m k'.2)
theorem Prs.app : ∀ {kvs ls : List (κ × V)} {ps qs : List (κ × T)}, Prs c L F H kvs ps → Prs c L F H ls qs → Prs c L F H (kvs ++ ls) (ps ++ qs)
  | _, _, _, _, .nil, k => k
  | _, _, _, _, .cons a t, k => .cons a (t.app k)
variable [DecidableEq κ]
theorem Prs.any {k : κ} : ∀ {kvs : List (κ × V)} {ps : List (κ × T)}, Prs c L F H kvs ps → (kvs.any fun kv => decide (kv.1 = k)) = (ps.any fun kv => decide (kv.1 = k))
  | _, _, .nil => rfl
  | _, _, .cons _ t => by simp only [List.any_cons]; rw [t.any]
theorem Prs.val {k : κ} : ∀ {kvs : List (κ × V)} {ps : List (κ × T)}, Prs c L F H kvs ps → (valV kvs k = none ∧ valP ps k = none) ∨ ∃ v t, valV kvs k = some v ∧ valP ps k = some t ∧ Ta c L F H v t
  | _, _, .nil => .inl ⟨rfl, rfl⟩
  | _, _, .cons (k := k') (v := v) (t := t) a h => by
    unfold valV valP
    by_cases e : k' = k
    · subst e
      exact .inr ⟨v, t, by simp, by simp, a⟩
    · have := h.val (k := k)
      unfold valV valP at this
      simpa [e] using this
theorem Prs.put {k : κ} {v : V} {t : T} (b : Ta c L F H v t) {kvs : List (κ × V)} {ps : List (κ × T)} (h : Prs c L F H kvs ps) : Prs c L F H (putK kvs k v) (putP ps k t) := by
  unfold putK putP
  rw [h.any]
  split
  · rename_i hh
    clear hh
    induction h with
    | nil => exact .nil
    | @cons k' v' t' kvs ps a r ih =>
      simp only [List.map_cons]
      by_cases e : k' = k
      · rw [if_pos e, if_pos e]; exact .cons b ih
      · rw [if_neg e, if_neg e]; exact .cons a ih
  · exact h.app (.cons b .nil)
omit [DecidableEq κ] in
theorem len_put [DecidableEq κ] {k : κ} {t : T} {ps : List (κ × T)} : (putP ps k t).length ≤ ps.length + 1 := by
  unfold putP
  split
  · rw [List.length_map]; omega
  · rw [List.length_append]; simp
theorem refs_put {p : Nat → Bool} {k : κ} {t : T} {ps : List (κ × T)} (h : refsInL p (ps.map (·.2)) = true) (ht : t.refsIn p = true) : refsInL p ((putP ps k t).map (·.2)) = true := by
  rw [refsInL_all, List.all_eq_true] at h ⊢
  intro x m
  obtain ⟨⟨k', x'⟩, m', rfl⟩ := List.mem_map.mp m
  unfold putP at m'
  split at m'
  · obtain ⟨q, mq, e⟩ := List.mem_map.mp m'
    split at e
    · cases e; exact ht
    · subst e; exact h _ (List.mem_map.mpr ⟨_, mq, rfl⟩)
  · rcases List.mem_append.mp m' with m' | m'
    · exact h _ (List.mem_map.mpr ⟨_, m', rfl⟩)
    · simp at m'; obtain ⟨rfl, rfl⟩ := m'; exact ht
end
/-! keys -/
def T.sk : T → Option L2.Key | .int i => some (.inl i) | .str x => some (.inr x) | _ => none
def skL : List T → Option (List L2.Key)
  | [] => some []
  | t :: ts => match t.sk, skL ts with | some k, some ks => some (k :: ks) | _, _ => none
def T.tk : T → Option (List L2.Key) | .tup ts => skL ts | _ => none
theorem sk_ok {c : Cf} {L : Ls} {F : List Addr} {H : Hp} {v : V} {t : T} {k : L2.Key} (a : Ta c L F H v t) (e : t.sk = some k) : v = kV k := by
  cases a with
  | int i => cases e; rfl
  | str x => cases e; rfl
  | _ => cases e
theorem skL_ok {c : Cf} {L : Ls} {F : List Addr} {H : Hp} : ∀ {ts : List T} {vs : List V} {ks : List L2.Key}, Tas c L F H vs ts → skL ts = some ks → vs = ks.map kV
  | [], _, _, .nil, e => by cases e; rfl
  | t :: ts, _, ks, .cons a as, e => by
    simp only [skL] at e
    split at e
    · rename_i k ks' e1 e2
      cases e
      rw [sk_ok a e1, skL_ok as e2]
      rfl
    · cases e
theorem tk_ok {c : Cf} {L : Ls} {F : List Addr} {H : Hp} {v : V} {t : T} {k : List L2.Key} (a : Ta c L F H v t) (e : t.tk = some k) : ∃ b, v = .ref b ∧ H b = some (.tup (k.map kV)) := by
  cases a with
  | tup nb hb as z => exact ⟨_, rfl, by rw [← skL_ok as e]; exact hb⟩
  | _ => cases e
/-- what a dict says of a key -/
def dctW (st : Stt) (d y : T) (K : Option T → Prop) : Prop := match d with
  | .dct ps => (match y.sk with | some k => K (valP ps k) | none => False)
  | .dtt ps => (match y.tk with | some k => K (valP ps k) | none => False)
  | .ref n => (match st[n]? with
    | some (.dct ps) => (match y.sk with | some k => K (valP ps k) | none => False)
    | some (.dtt ps) => (match y.tk with | some k => K (valP ps k) | none => False)
    | _ => False)
  | _ => False
theorem dctW_ok {c : Cf} {L : Ls} {F : List Addr} {st : Stt} {H : Hp} {v u : V} {d y : T} {K : Option T → Prop} (r : Rl c L F st H) (a : Ta c L F H v d) (b : Ta c L F H u y) (h : dctW st d y K) :
    ∃ p, v = .ref p ∧ IsD H p ∧ ((DGet H p u none ∧ K none) ∨ ∃ w t, DGet H p u (some w) ∧ Ta c L F H w t ∧ K (some t)) := by
  have kk : ∀ {p : Addr} {kvs : List (L2.Key × V)} {ps : List (L2.Key × T)} {k : L2.Key}, H p = some (.dK kvs) → Prs c L F H kvs ps → y.sk = some k → K (valP ps k) → IsD H p ∧ ((DGet H p u none ∧ K none) ∨ ∃ w t, DGet H p u (some w) ∧ Ta c L F H w t ∧ K (some t)) := fun {p kvs ps k} hp q ek hk => by
    refine ⟨.inl ⟨kvs, .inl hp⟩, ?_⟩
    rcases q.val (k := k) with ⟨e1, e2⟩ | ⟨w, t, e1, e2, at'⟩
    · rw [e2] at hk
      exact .inl ⟨.inl ⟨kvs, k, .inl hp, sk_ok b ek, e1.symm⟩, hk⟩
    · rw [e2] at hk
      exact .inr ⟨w, t, .inl ⟨kvs, k, .inl hp, sk_ok b ek, e1.symm⟩, at', hk⟩
  have kt : ∀ {p : Addr} {kvs : List (List L2.Key × V)} {ps : List (List L2.Key × T)} {k : List L2.Key}, H p = some (.dT kvs) → Prs c L F H kvs ps → y.tk = some k → K (valP ps k) → IsD H p ∧ ((DGet H p u none ∧ K none) ∨ ∃ w t, DGet H p u (some w) ∧ Ta c L F H w t ∧ K (some t)) := fun {p kvs ps k} hp q ek hk => by
    refine ⟨.inr ⟨kvs, .inl hp⟩, ?_⟩
    obtain ⟨bb, e3, e4⟩ := tk_ok b ek
    rcases q.val (k := k) with ⟨e1, e2⟩ | ⟨w, t, e1, e2, at'⟩
    · rw [e2] at hk
      exact .inl ⟨.inr ⟨kvs, k, bb, .inl hp, e3, e4, e1.symm⟩, hk⟩
    · rw [e2] at hk
      exact .inr ⟨w, t, .inr ⟨kvs, k, bb, .inl hp, e3, e4, e1.symm⟩, at', hk⟩
  cases a with
  | @dK p kvs ps nb hp qk as z =>
    cases e : y.sk with
    | none => simp [dctW, e] at h
    | some k => exact ⟨p, rfl, kk hp (prs_of qk as) e (by simpa [dctW, e] using h)⟩
  | @dT p kvs ps nb hp qk as z =>
    cases e : y.tk with
    | none => simp [dctW, e] at h
    | some k => exact ⟨p, rfl, kt hp (prs_of qk as) e (by simpa [dctW, e] using h)⟩
  | @ref n p e =>
    cases q : st[n]? with
    | none => simp [dctW, q] at h
    | some x =>
      cases x with
      | dct ps =>
        obtain ⟨kvs, hp, qk, as, z⟩ := r.cell n p _ e q
        cases e : y.sk with
        | none => simp [dctW, q, e] at h
        | some k => exact ⟨p, rfl, kk hp (prs_of qk as) e (by simpa [dctW, q, e] using h)⟩
      | dtt ps =>
        obtain ⟨kvs, hp, qk, as, z⟩ := r.cell n p _ e q
        cases e : y.tk with
        | none => simp [dctW, q, e] at h
        | some k => exact ⟨p, rfl, kt hp (prs_of qk as) e (by simpa [dctW, q, e] using h)⟩
      | _ => simp [dctW, q] at h
  | _ => exact h.elim
section
variable {c : Cf}
/-- d[k], there -/
def eDGet (d k : EX c) : EX c where
  te := tDGet d.te k.te
  w env st Q := d.w env st fun x st1 => k.w env st1 fun y st2 => dctW st2 x y fun o => match o with | some t => Q t st2 | none => False
  ok L F env st σ H Qc Q r s h kk := d.ok L F env st σ H _ _ r s h fun v t st1 H1 L1 g1 r1 a1 h1 => k.ok L1 F env st1 σ H1 _ _ r1 (s.go g1) h1 fun u y st2 H2 L2 g2 r2 a2 h2 => by
    obtain ⟨p, rfl, _, ⟨_, h⟩ | ⟨w, t, dg, at', h⟩⟩ := dctW_ok r2 (a1.go g2) a2 h2
    · exact h.elim
    · exact ⟨p, w, rfl, dg, (kk.go (g1.trans g2)).here r2 at' h⟩
/-- d.get(k), d.get(k, x) -/
def eDGet1 (d k : EX c) : EX c where
  te := tDGet1 d.te k.te
  w env st Q := d.w env st fun x st1 => (∃ y, dctW st1 x y fun _ => True) ∧ k.w env st1 fun y st2 => dctW st2 x y fun o => Q (o.getD .non) st2
  ok L F env st σ H Qc Q r s h kk := d.ok L F env st σ H _ _ r s h fun v t st1 H1 L1 g1 r1 a1 ⟨h0, h1⟩ => by
    have isd : ∃ p, v = .ref p ∧ IsD H1 p := by
      obtain ⟨y, hy⟩ := h0
      cases a1 with
      | @dK p kvs ps nb hp qk as z => exact ⟨p, rfl, .inl ⟨kvs, .inl hp⟩⟩
      | @dT p kvs ps nb hp qk as z => exact ⟨p, rfl, .inr ⟨kvs, .inl hp⟩⟩
      | @ref n p e =>
        cases q : st1[n]? with
        | none => simp [dctW, q] at hy
        | some x =>
          cases x with
          | dct ps => obtain ⟨kvs, hp, _⟩ := r1.cell n p _ e q; exact ⟨p, rfl, .inl ⟨kvs, .inl hp⟩⟩
          | dtt ps => obtain ⟨kvs, hp, _⟩ := r1.cell n p _ e q; exact ⟨p, rfl, .inr ⟨kvs, .inl hp⟩⟩
          | _ => simp [dctW, q] at hy
      | _ => exact hy.elim
    obtain ⟨p, rfl, isd⟩ := isd
    refine ⟨p, rfl, isd, k.ok L1 F env st1 σ H1 _ _ r1 (s.go g1) h1 fun u y st2 H2 L2 g2 r2 a2 h2 => ?_⟩
    obtain ⟨p', e, _, ⟨dg, h⟩ | ⟨w, t, dg, at', h⟩⟩ := dctW_ok r2 (a1.go g2) a2 h2
    · cases e; exact ⟨none, dg, (kk.go (g1.trans g2)).here r2 .non h⟩
    · cases e; exact ⟨some w, dg, (kk.go (g1.trans g2)).here r2 at' h⟩
def eDGet2 (d k x : EX c) : EX c where
  te := tDGet2 d.te k.te x.te
  w env st Q := d.w env st fun z st1 => (∃ y, dctW st1 z y fun _ => True) ∧ k.w env st1 fun y st2 => x.w env st2 fun f st3 => dctW st3 z y fun o => Q (o.getD f) st3
  ok L F env st σ H Qc Q r s h kk := d.ok L F env st σ H _ _ r s h fun v t st1 H1 L1 g1 r1 a1 ⟨h0, h1⟩ => by
    have isd : ∃ p, v = .ref p ∧ IsD H1 p := by
      obtain ⟨y, hy⟩ := h0
      cases a1 with
      | @dK p kvs ps nb hp qk as z => exact ⟨p, rfl, .inl ⟨kvs, .inl hp⟩⟩
      | @dT p kvs ps nb hp qk as z => exact ⟨p, rfl, .inr ⟨kvs, .inl hp⟩⟩
      | @ref n p e =>
        cases q : st1[n]? with
        | none => simp [dctW, q] at hy
        | some x =>
          cases x with
          | dct ps => obtain ⟨kvs, hp, _⟩ := r1.cell n p _ e q; exact ⟨p, rfl, .inl ⟨kvs, .inl hp⟩⟩
          | dtt ps => obtain ⟨kvs, hp, _⟩ := r1.cell n p _ e q; exact ⟨p, rfl, .inr ⟨kvs, .inl hp⟩⟩
          | _ => simp [dctW, q] at hy
      | _ => exact hy.elim
    obtain ⟨p, rfl, isd⟩ := isd
    refine ⟨p, rfl, isd, k.ok L1 F env st1 σ H1 _ _ r1 (s.go g1) h1 fun u y st2 H2 L2 g2 r2 a2 h2 => x.ok L2 F env st2 σ H2 _ _ r2 (s.go (g1.trans g2)) h2 fun u3 f st3 H3 L3 g3 r3 a3 h3 => ?_⟩
    have g := (g1.trans g2).trans g3
    obtain ⟨p', e, _, ⟨dg, h⟩ | ⟨w, t, dg, at', h⟩⟩ := dctW_ok r3 ((a1.go g2).go g3) (a2.go g3) h3
    · cases e; exact ⟨none, dg, (kk.go g).here r3 a3 h⟩
    · cases e; exact ⟨some w, dg, (kk.go g).here r3 at' h⟩
/-- k in d, k not in d -/
def eDIn (k d : EX c) : EX c where
  te := tDIn k.te d.te
  w env st Q := k.w env st fun y st1 => d.w env st1 fun x st2 => dctW st2 x y fun o => Q (.bl o.isSome) st2
  ok L F env st σ H Qc Q r s h kk := k.ok L F env st σ H _ _ r s h fun u y st1 H1 L1 g1 r1 a1 h1 => d.ok L1 F env st1 σ H1 _ _ r1 (s.go g1) h1 fun v t st2 H2 L2 g2 r2 a2 h2 => by
    obtain ⟨p, rfl, _, ⟨dg, h⟩ | ⟨w, t, dg, at', h⟩⟩ := dctW_ok r2 a2 (a1.go g2) h2
    · exact ⟨p, none, rfl, dg, (kk.go (g1.trans g2)).here r2 (.bl _) h⟩
    · exact ⟨p, some w, rfl, dg, (kk.go (g1.trans g2)).here r2 (.bl _) h⟩
def eDNin (k d : EX c) : EX c where
  te := tDNotIn k.te d.te
  w env st Q := k.w env st fun y st1 => d.w env st1 fun x st2 => dctW st2 x y fun o => Q (.bl (!o.isSome)) st2
  ok L F env st σ H Qc Q r s h kk := k.ok L F env st σ H _ _ r s h fun u y st1 H1 L1 g1 r1 a1 h1 => d.ok L1 F env st1 σ H1 _ _ r1 (s.go g1) h1 fun v t st2 H2 L2 g2 r2 a2 h2 => by
    obtain ⟨p, rfl, _, ⟨dg, h⟩ | ⟨w, t, dg, at', h⟩⟩ := dctW_ok r2 a2 (a1.go g2) h2
    · exact ⟨p, none, rfl, dg, (kk.go (g1.trans g2)).here r2 (.bl _) h⟩
    · exact ⟨p, some w, rfl, dg, (kk.go (g1.trans g2)).here r2 (.bl _) h⟩
/-- d[k] = v, d a cell -/
def dcellW (st : Stt) (x y t : T) (K : Stt → Prop) : Prop := match x with
  | .ref n => t.under n = true ∧ (match st[n]? with
    | some (.dct ps) => (match y.sk with | some k => ps.length < big ∧ K (st.set n (.dct (putP ps k t))) | none => False)
    | some (.dtt ps) => (match y.tk with | some k => ps.length < big ∧ K (st.set n (.dtt (putP ps k t))) | none => False)
    | _ => False)
  | _ => False
def sDPt (d k v : EX c) : SX c where
  ts := sDPut d.te k.te v.te
  w _ E env st := v.w env st fun t st1 => d.w env st1 fun x st2 => k.w env st2 fun y st3 => dcellW st3 x y t fun st4 => E.nx env st4
  ok n0 L F env st σ H D E r s h kk := v.ok L F env st σ H _ _ r s h fun w t st1 H1 L1 g1 r1 a1 h1 => d.ok L1 F env st1 σ H1 _ _ r1 (s.go g1) h1 fun v x st2 H2 L2 g2 r2 a2 h2 =>
    k.ok L2 F env st2 σ H2 _ _ r2 (s.go (g1.trans g2)) h2 fun u y st3 H3 L3 g3 r3 a3 h3 => by
    have g := (g1.trans g2).trans g3
    have a1' := (a1.go g2).go g3
    cases a2.go g3 with
    | @ref n p e =>
      obtain ⟨lo, h3⟩ := h3
      cases q : st3[n]? with
      | none => simp [q] at h3
      | some x =>
        cases x with
        | dct ps =>
          obtain ⟨kvs, hp, qk, as, z⟩ := r3.cell n p _ e q
          cases ek : y.sk with
          | none => simp [q, ek] at h3
          | some k' =>
            obtain ⟨z3, h3⟩ : ps.length < big ∧ E.nx env (st3.set n (.dct (putP ps k' t))) := by simpa [q, ek] using h3
            have go := Go.at_ (o := .dK (putK kvs k' w)) r3 e
            have pp : Prs c L3 F (upd H3 p (.dK (putK kvs k' w))) (putK kvs k' w) (putP ps k' t) := ((prs_of qk as).put a1').mv go.mv (refsL_all _)
            have lw : refsInL (fun m => decide (m < n)) (ps.map (·.2)) = true := by
              have := r3.low n _ q
              rw [← refsInK_map]; exact this
            obtain ⟨g4, r4⟩ := r3.write (o := .dK (putK kvs k' w)) (x := .dct (putP ps k' t)) e ⟨_, upd_same, pp.keys, pp.vals, Nat.le_trans len_put z3⟩ (by show refsInK _ _ = true; rw [refsInK_map]; exact refs_put lw lo)
            have lk : kvs.length = ps.length := (prs_of qk as).length
            exact ⟨p, _, rfl, .inl ⟨kvs, k', hp, sk_ok a3 ek, by rw [lk]; exact Nat.lt_trans z3 (by decide), rfl⟩, kk.nx σ env _ _ L3 (g.trans g4).gs r4 (s.go (g.trans g4)) h3⟩
        | dtt ps =>
          obtain ⟨kvs, hp, qk, as, z⟩ := r3.cell n p _ e q
          cases ek : y.tk with
          | none => simp [q, ek] at h3
          | some k' =>
            obtain ⟨z3, h3⟩ : ps.length < big ∧ E.nx env (st3.set n (.dtt (putP ps k' t))) := by simpa [q, ek] using h3
            have go := Go.at_ (o := .dT (putK kvs k' w)) r3 e
            have pp : Prs c L3 F (upd H3 p (.dT (putK kvs k' w))) (putK kvs k' w) (putP ps k' t) := ((prs_of qk as).put a1').mv go.mv (refsL_all _)
            have lw : refsInL (fun m => decide (m < n)) (ps.map (·.2)) = true := by
              have := r3.low n _ q
              rw [← refsInT_map]; exact this
            obtain ⟨g4, r4⟩ := r3.write (o := .dT (putK kvs k' w)) (x := .dtt (putP ps k' t)) e ⟨_, upd_same, pp.keys, pp.vals, Nat.le_trans len_put z3⟩ (by show refsInT _ _ = true; rw [refsInT_map]; exact refs_put lw lo)
            have lk : kvs.length = ps.length := (prs_of qk as).length
            obtain ⟨bb, e3, e4⟩ := tk_ok a3 ek
            exact ⟨p, _, rfl, .inr ⟨kvs, k', bb, hp, e3, e4, by rw [lk]; exact Nat.lt_trans z3 (by decide), rfl⟩, kk.nx σ env _ _ L3 (g.trans g4).gs r4 (s.go (g.trans g4)) h3⟩
        | _ => simp [q] at h3
    | _ => exact h3.elim
/-! sets of texts -/
def oSet : ON c := on1 (rSetT c.P c.w c.K) (fun st t Q => anyW st t fun ts => (match texts ts with | some ys => (match t with | .str _ => False | _ => True) ∧ ys.length ≤ 4000 ∧ Q (.set ys) st | none => False)) fun L F st H x t Qc Q r a h k => by
  have fin : ∀ (ys : List Str), ys.length ≤ 4000 → Q (.set ys) st → ∀ p, H p = none → Qc (.ref p) (upd H p (setX c.P c.w p ys)) := fun ys z h p hp => k _ (.set ys) st _ L (Go.lay hp) (r.lay hp) (.set (r.fresh hp) upd_same z) h
  rcases anyW_ok r a h with ⟨p, vs, ts, rfl, h, hp, as, z⟩ | ⟨p, vs, ts, rfl, e, h, hp, nb, as, z⟩ | ⟨p, rfl, h, e, d⟩ | ⟨u, rfl, e, z, h⟩
  · split at h
    · rename_i ys ey
      exact ⟨p, ys, rfl, .inl (.inl (.inl (by rw [← texts_vs as ey]; exact hp))), h.2.1, fin ys h.2.1 h.2.2⟩
    · exact h.elim
  · split at h
    · rename_i ys ey
      exact ⟨p, ys, rfl, .inr (.inl (.inl (by rw [← texts_vs as ey]; exact hp))), h.2.1, fin ys h.2.1 h.2.2⟩
    · exact h.elim
  · exact ⟨p, [], rfl, .inr (d.sq H), h.2.1, fin [] h.2.1 h.2.2⟩
  · split at h
    · subst e; exact h.1.elim
    · exact h.elim
def oInS : O2 c where
  r := rInX c.P c.w false
  w st a b Q := match a, b with | .str k, .set ys => Q (.bl (decide (k ∈ ys))) st | _, _ => False
  ok L F st H x y a b Qc Q r h1 h2 h k := by
    match a, b, h1, h2, h with
    | .str k', .set ys, .str _, .set nb hp z, h => exact ⟨k', _, ys, rfl, rfl, hp, k.here r (.bl _) h⟩
def oNinS : O2 c where
  r := rInX c.P c.w true
  w st a b Q := match a, b with | .str k, .set ys => Q (.bl (!decide (k ∈ ys))) st | _, _ => False
  ok L F st H x y a b Qc Q r h1 h2 h k := by
    match a, b, h1, h2, h with
    | .str k', .set ys, .str _, .set nb hp z, h => exact ⟨k', _, ys, rfl, rfl, hp, k.here r (.bl _) h⟩
def oLenZ : ON c := on1 (rLenZ c.P c.w c.K) (fun st t Q => match t with | .set ys => Q (.int (kinds ys ys.length)) st | _ => False) fun L F st H x t Qc Q r a h k => by
  cases a with
  | set nb hp z => exact .inr ⟨_, _, rfl, hp, z, k.here r (.int _) h⟩
  | _ => exact h.elim
/-! isinstance -/
def kindT : T → String
  | .non => "NoneType" | .bl _ => "bool" | .int _ => "int" | .str _ => "str" | .lst _ => "list" | .tup _ => "tuple" | .emp => "tuple" | .scr _ => "" | .dct _ => "dict" | .dtt _ => "dict" | .set _ => "set" | .obj _ _ => "" | .ref _ => ""
def kindS (st : Stt) : T → String
  | .ref n => match st[n]? with | some (.lst _) => "list" | some (.dct _) => "dict" | some (.dtt _) => "dict" | _ => ""
  | .set _ => ""
  | t => kindT t
theorem kind_ok {L : Ls} {F : List Addr} {st : Stt} {H : Hp} {v : V} {t : T} {m : String} (r : Rl c L F st H) (a : Ta c L F H v t) (e : kindS st t = m) (ne : m ≠ "") : TyX c.K H v (.type m) := by
  cases a with
  | non => subst e; exact .base .non
  | bl b => subst e; exact .base (.bl b)
  | int i => subst e; exact .base (.int i)
  | str x => subst e; exact .base (.str x)
  | lst nb hp as z => subst e; exact .base (.lst hp)
  | tup nb hp as z => subst e; exact .base (.tup hp)
  | emp d => subst e; exact d.ty H
  | scrF _ _ _ => exact absurd e.symm ne
  | scrK _ _ => exact absurd e.symm ne
  | dK nb hp qk as z => subst e; exact .base (.dK hp)
  | dT nb hp qk as z => subst e; exact .base (.dT hp)
  | set nb hp z => exact absurd e.symm ne
  | obj nb hp qk as => exact absurd e.symm ne
  | @ref n b eb =>
    cases q : st[n]? with
    | none => simp [kindS, q] at e; exact absurd e ne
    | some x =>
      cases x with
      | lst xs => simp [kindS, q] at e; subst e; obtain ⟨vs, hb, _⟩ := r.cell n b _ eb q; exact .base (.lst hb)
      | dct xs => simp [kindS, q] at e; subst e; obtain ⟨vs, hb, _⟩ := r.cell n b _ eb q; exact .base (.dK hb)
      | dtt xs => simp [kindS, q] at e; subst e; obtain ⟨vs, hb, _⟩ := r.cell n b _ eb q; exact .base (.dT hb)
      | obj C xs => simp [kindS, q] at e; exact absurd e ne
      | gone => simp [kindS, q] at e; exact absurd e ne
/-- isinstance(x, a built-in class) -/
def isA (m n : String) : Bool := m == n || (m == "bool" && n == "int")
theorem kit_isA {K : PySem.W.Frag} {m n : String} (hm : m ∈ ["NoneType", "bool", "int", "str", "list", "tuple", "dict"]) (hn : n ∈ ["int", "bool", "str", "list", "tuple", "dict"]) : PySem.W.kitOne K (.type m) (.type n) = some (isA m n) := by
  simp at hm hn
  rcases hm with rfl | rfl | rfl | rfl | rfl | rfl | rfl <;> rcases hn with rfl | rfl | rfl | rfl | rfl | rfl <;> exact kit_ty rfl
def eIsi (e : EX c) (n : String) (hn : n ∈ ["int", "bool", "str", "list", "tuple", "dict"]) : EX c where
  te := tCB (rIsi c.K) (tCons e.te (tCons (tC (.ty n)) tNil))
  w env st Q := e.w env st fun t st1 => kindS st1 t ∈ ["NoneType", "bool", "int", "str", "list", "tuple", "dict"] ∧ Q (.bl (isA (kindS st1 t) n)) st1
  ok L F env st σ H Qc Q r s h k := e.ok L F env st σ H _ _ r s h fun v t st1 H1 L1 g1 r1 a1 ⟨hm, h1⟩ =>
    ⟨v, .ty n, _, _, _, rfl, .ty n, kind_ok r1 a1 rfl (fun z => by rw [z] at hm; simp at hm), kit_isA hm hn, (k.go g1).here r1 (.bl _) h1⟩
def eIsi2 (e : EX c) (n m : String) (hn : n ∈ ["int", "bool", "str", "list", "tuple", "dict"]) (hn' : m ∈ ["int", "bool", "str", "list", "tuple", "dict"]) : EX c where
  te := tCB (rIsiT c.K) (tCons e.te (tCons (tTup (tCons (tC (.ty n)) (tCons (tC (.ty m)) tNil))) tNil))
  w env st Q := e.w env st fun t st1 => kindS st1 t ∈ ["NoneType", "bool", "int", "str", "list", "tuple", "dict"] ∧ Q (.bl (isA (kindS st1 t) n || isA (kindS st1 t) m)) st1
  ok L F env st σ H Qc Q r s h k := e.ok L F env st σ H _ _ r s h fun v t st1 H1 L1 g1 r1 a1 ⟨hm, h1⟩ =>
    ⟨by show 2 ≤ sizeLine; decide, fun p hp => by
      have g := Go.lay (L := L1) (o := .tup [.ty n, .ty m]) hp
      refine ⟨v, p, [.ty n, .ty m], _, [.type n, .type m], _, rfl, upd_same, .cons (.ty n) (.cons (.ty m) .nil), kind_ok (r1.lay hp) (a1.go g) rfl (fun z => by rw [z] at hm; simp at hm), ?_, k _ _ st1 _ L1 (g1.trans g) (r1.lay hp) (.bl _) h1⟩
      have e1 := kit_isA (K := c.K) hm hn
      have e2 := kit_isA (K := c.K) hm hn'
      cases b1 : isA (kindS st1 t) n with
      | true =>
        rw [b1] at e1
        exact kitAny_cons e1 (fun z => nomatch z) fun _ => rfl
      | false =>
        rw [b1] at e1
        cases b2 : isA (kindS st1 t) m with
        | true =>
          rw [b2] at e2
          exact kitAny_cons e1 (fun _ => kitAny_cons e2 (fun z => nomatch z) fun _ => rfl) fun z => nomatch z
        | false =>
          rw [b2] at e2
          exact kitAny_cons e1 (fun _ => kitAny_cons e2 (fun _ => rfl) fun z => nomatch z) fun z => nomatch z⟩
end
end Vw

/-! comprehensions with two clauses; dicts by comprehensions -/
namespace Vw
open PySem PySem.Spec PyProof.Rows L2 Gd
section
variable {c : Cf} {L L' L'' : Ls} {F : List Addr} {H H' H'' : Hp} {st st' : Stt} {σ : L2.St} {env : En} {A : Addr}
theorem Gb.trans (a : Gb A L H L' H') (b : Gb A L' H' L'' H'') : Gb A L H L'' H'' where
  gr := fun p u np n h => b.gr p u np (fun m => by
    obtain ⟨i, hi, e⟩ := List.getElem_of_mem m
    have e1 : L'[i]? = some (some p) := by rw [List.getElem?_eq_getElem hi, e]
    by_cases q : i < L.length
    · exact n (List.mem_of_getElem? (a.old i p q e1))
    · have := (a.new i p (by omega) e1).1
      rw [h] at this
      cases this) (a.gr p u np n h)
  keep := fun p h => b.keep p (a.keep p h)
  len := Nat.le_trans a.len b.len
  old := fun n x l e => a.old n x l (b.old n x (Nat.lt_of_lt_of_le l a.len) e)
  new := fun n x l e => by
    by_cases q : n < L'.length
    · exact a.new n x l (b.old n x q e)
    · have := b.new n x (by omega) e
      refine ⟨?_, this.2⟩
      cases z : H x with
      | none => rfl
      | some u => exact absurd this.1 (a.keep x (by rw [z]; exact fun z => nomatch z))
  stay := fun n x e => b.stay n x (a.stay n x e)
theorem Gb.refl : Gb A L H L H := ⟨fun _ _ _ _ h => h, fun _ h => h, Nat.le_refl _, fun _ _ _ h => h, fun n a h e => absurd (List.getElem?_eq_some_iff.mp e).1 (by omega), fun _ _ h => h⟩
theorem Go.gb (g : Go L H L' H') (ha : H A ≠ none) : Gb A L H L' H' := ⟨fun p u _ n h => g.gr p u n h, g.keep, g.len, g.old, fun n b l e => ⟨g.new n b l e, fun z => ha (z ▸ g.new n b l e)⟩, g.stay⟩
theorem Gb.gj (g : Gb A L H L' H') (hA : some A ∉ L) : Gj L (A :: F) H L' (A :: F) H' :=
  ⟨fun a u n h => (by
    have na : a ≠ A := fun z => n (.inl (z ▸ List.mem_cons_self))
    refine ⟨fun z => z.elim (fun m => n (.inl m)) fun m => ?_, g.gr a u na (fun m => n (.inr m)) h⟩
    obtain ⟨i, hi, e⟩ := List.getElem_of_mem m
    have e1 : L'[i]? = some (some a) := by rw [List.getElem?_eq_getElem hi, e]
    by_cases q : i < L.length
    · exact n (.inr (List.mem_of_getElem? (g.old i a q e1)))
    · have := (g.new i a (by omega) e1).1
      rw [h] at this
      cases this), fun n a e => .inl (g.stay n a e)⟩
theorem Gb.mv (g : Gb A L H L' H') (hA : some A ∉ L) : Mv (fun _ => true) L (A :: F) H L' (A :: F) H' := ⟨(g.gj (F := F) hA).fr, fun n a _ e => g.stay n a e⟩
theorem Gb.mv0 (g : Gb A L H L' H') (hA : some A ∉ L) (nA : H A = none) : Mv (fun _ => true) L F H L' (A :: F) H' :=
  ⟨fun a u n h => (g.gj (F := F) hA).fr a u (fun z => z.elim (fun m => (List.mem_cons.mp m).elim (ne_of_none h nA) fun m => n (.inl m)) fun m => n (.inr m)) h, fun n a _ e => g.stay n a e⟩
theorem Se.mv {F' : List Addr} (m : Mv (fun _ => true) L F H L' F' H') (s : Se c L F H σ env) : Se c L' F' H' σ env := ⟨s.len, fun i t e => let ⟨v, h1, h2⟩ := s.at_ i t e; ⟨v, h1, h2.mv m (T.refs_all t)⟩⟩
end
section
variable {c : Cf}
/-- one clause's loop, the list at A grows -/
theorem lc_loop {x : GX c} {t : TX c} {e : EX c} {A : Addr} {F : List Addr} {M : Ls} {H : Hp} {st : Stt} {σ : L2.St} {env : En} {acc : List V} {out : List T} {J : It} {ts : List T} {pin : Stt → Prop} {K : List T → Stt → Prop} {Nx : Hp → Prop}
    (r : Rl c M (A :: F) st H) (s : Se c M (A :: F) H σ env) (e0 : H A = some (.lst acc)) (a0 : Tas c M (A :: F) H acc out) (z0 : out.length + ts.length ≤ big) (j : JOk c M (A :: F) H J ts pin)
    (h : lcW x.w t.w e.w (wipeE env x.vs) pin ts out st K)
    (fin : ∀ M' H' st' acc' out', Gb A M H M' H' → Rl c M' (A :: F) st' H' → H' A = some (.lst acc') → Tas c M' (A :: F) H' acc' out' → out'.length ≤ out.length + ts.length → K out' st' → Nx H') :
    ∃ W : Nat → Nat → Hp → Prop, (∃ m, W 0 m H) ∧ ∀ i k H, W i k H → (J.stop i H ∧ Nx H) ∨ (J.go i H ∧ ∃ Nx1 : Hp → Prop, (∀ H', Nx1 H' → ∃ k', k' < k ∧ W (i + 1) k' H') ∧ ∀ y H', J.yld i H y H' → x.g y (L2.wipe σ x.vs) H' fun σ3 H5 => L2.wipe σ3 x.vs = L2.wipe σ x.vs ∧ t.tt σ3 H5 fun b H6 =>
        if b = true then e.te σ3 H6 fun y H7 => ∃ acc, H7 A = some (.lst acc) ∧ acc.length < sizeLine ∧ Nx1 (upd H7 A (.lst (acc ++ [y]))) else Nx1 H6) := by
  have hA : some A ∉ M := r.dis A List.mem_cons_self
  have big' : big < sizeLine := by decide
  refine ⟨fun i m H2 => m = ts.length - i ∧ i ≤ ts.length ∧ ∃ M2 st2 acc2 out2, Gb A M H M2 H2 ∧ Rl c M2 (A :: F) st2 H2 ∧ H2 A = some (.lst acc2) ∧ Tas c M2 (A :: F) H2 acc2 out2 ∧ out2.length ≤ out.length + i ∧
    lcW x.w t.w e.w (wipeE env x.vs) pin (ts.drop i) out2 st2 K, ⟨ts.length, by simp, Nat.zero_le _, M, st, acc, out, Gb.refl, r, e0, a0, Nat.le_refl _, h⟩, ?_⟩
  rintro i m H2 ⟨rfl, hi, M2, st2, acc2, out2, g2, r2, e2, a2, z2, h2⟩
  have s2 : Se c M2 (A :: F) H2 σ env := s.mv (g2.mv hA)
  by_cases lt : i < ts.length
  · rw [List.drop_eq_getElem_cons lt] at h2
    obtain ⟨pn, h2⟩ := h2
    obtain ⟨q1, q2, q3⟩ := j M2 (A :: F) st2 H2 i (g2.gj hA) r2 pn
    refine .inr ⟨q1 lt, fun H' => i + 1 ≤ ts.length ∧ ∃ M2 st2 acc2 out2, Gb A M H M2 H' ∧ Rl c M2 (A :: F) st2 H' ∧ H' A = some (.lst acc2) ∧ Tas c M2 (A :: F) H' acc2 out2 ∧ out2.length ≤ out.length + (i + 1) ∧
      lcW x.w t.w e.w (wipeE env x.vs) pin (ts.drop (i + 1)) out2 st2 K, fun H' ⟨a1, a2⟩ => ⟨ts.length - (i + 1), by omega, rfl, a1, a2⟩, fun v H3 y => ?_⟩
    obtain ⟨g3, r3, u, et, at3⟩ := q3 v H3 lt y
    have et' : u = ts[i] := by rw [List.getElem?_eq_getElem lt] at et; exact (Option.some.inj et).symm
    subst et'
    have e3 := g3.gr A _ (r2.dis A List.mem_cons_self) e2
    refine x.ok M2 (A :: F) st2 H3 (L2.wipe σ x.vs) (wipeE env x.vs) v _ _ _ r3 ((s2.go g3).wipe x.vs) (at3 (fun _ => true) (fun n a _ e => g2.stay n a e) (T.refs_all _)) h2 fun σ4 env4 s4 w4 h4 => ?_
    refine ⟨w4.trans wipe_wipe, ?_⟩
    refine t.ok M2 (A :: F) env4 st2 σ4 H3 _ _ r3 s4 h4 fun b st5 H5 L5 g5 r5 h5 => ?_
    have e5 := g5.gr A _ (r3.dis A List.mem_cons_self) e3
    have gb5 : Gb A M H L5 H5 := (g2.trans (g3.gb (by rw [e2]; exact fun z => nomatch z))).trans (g5.gb (by rw [e3]; exact fun z => nomatch z))
    cases b with
    | false => exact iteF ⟨lt, L5, st5, acc2, out2, gb5, r5, e5, (a2.go g3).go g5, by omega, h5⟩
    | true =>
      refine iteT (e.ok L5 (A :: F) env4 st5 σ4 H5 _ _ r5 (s4.go g5) h5 fun v6 t6 st6 H6 L6 g6 r6 a6 h6 => ?_)
      have e6 := g6.gr A _ (r5.dis A List.mem_cons_self) e5
      have al6 : acc2.length = out2.length := a2.length
      have gb6 := gb5.trans (g6.gb (by rw [e5]; exact fun z => nomatch z))
      refine ⟨acc2, e6, by rw [al6]; omega, lt, L6, st6, acc2 ++ [v6], out2 ++ [t6], gb6.at_, r6.atF List.mem_cons_self, upd_same, ?_, by simp; omega, h6⟩
      exact (((a2.go g3).go g5).go g6 |>.app (.cons a6 .nil)).mv (Mv.atF List.mem_cons_self) (refsL_all _)
  · have ei : i = ts.length := by omega
    subst ei
    rw [List.drop_length] at h2
    obtain ⟨pn, h2⟩ := h2
    obtain ⟨q1, q2, q3⟩ := j M2 (A :: F) st2 H2 ts.length (g2.gj hA) r2 pn
    exact .inl ⟨q2 (Nat.le_refl _), fin M2 H2 st2 acc2 out2 g2 r2 e2 a2 z2 h2⟩
def lc2W (x : T → En → (En → Prop) → Prop) (t : WT) (i1 : WI) (x1 : T → En → (En → Prop) → Prop) (vs1 : List Nat) (t1 : WT) (e : WE) (env : En) (pin : Stt → Prop) : List T → List T → Stt → (List T → Stt → Prop) → Prop
  | [], out, st, K => pin st ∧ K out st
  | a :: as, out, st, K => pin st ∧ x a env fun env' => t env' st fun b st1 => if b = true then i1 env' st1 fun ts1 pin1 st2 => out.length + ts1.length ≤ big ∧ lcW x1 t1 e (wipeE env' vs1) pin1 ts1 out st2 fun out st3 => lc2W x t i1 x1 vs1 t1 e env pin as out st3 K
      else lc2W x t i1 x1 vs1 t1 e env pin as out st1 K
def eLc2 (i : IX c) (x : GX c) (t : TX c) (i1 : IX c) (x1 : GX c) (t1 : TX c) (e : EX c) (vs : List Nat) (hv : ∀ v ∈ x.vs, v ∈ vs) : EX c where
  te := tLc2 i.wi x.g t.tt i1.wi x1.g t1.tt e.te vs x1.vs
  w env st Q := i.w env st fun ts pin st1 => lc2W x.w t.w i1.w x1.w x1.vs t1.w e.w (wipeE env vs) pin ts [] st1 fun out st2 => Q (.lst out) st2
  ok L F env st σ H Qc Q r s h k := by
    refine i.ok L F env st σ H _ _ r s h fun J ts pin st1 H1 L1 g1 r1 zt h1 j1 => ?_
    intro A nA
    have hA : some A ∉ L1 := fun m => r1.trL m nA
    have rb := r1.bar (o := .lst []) nA
    have gf : Gb A L1 H1 L1 (upd H1 A (.lst [])) := Gb.first nA
    refine ⟨fun i m H2 => m = ts.length - i ∧ i ≤ ts.length ∧ ∃ M2 st2 acc2 out2, Gb A L1 H1 M2 H2 ∧ Rl c M2 (A :: F) st2 H2 ∧ H2 A = some (.lst acc2) ∧ Tas c M2 (A :: F) H2 acc2 out2 ∧ out2.length ≤ big ∧
      lc2W x.w t.w i1.w x1.w x1.vs t1.w e.w (wipeE env vs) pin (ts.drop i) out2 st2 (fun out st2 => Q (.lst out) st2), ⟨ts.length, by simp, Nat.zero_le _, L1, st1, [], [], gf, rb, upd_same, .nil, Nat.zero_le _, h1⟩, ?_⟩
    rintro i m H2 ⟨rfl, hi, M2, st2, acc2, out2, g2, r2, e2, a2, z2, h2⟩
    have s2 : Se c M2 (A :: F) H2 σ env := (s.go g1).mv (g2.mv0 hA nA)
    have jj : Gj L1 F H1 M2 (A :: F) H2 := ⟨(g2.mv0 (F := F) hA nA).fr, fun n a e => .inl (g2.stay n a e)⟩
    by_cases lt : i < ts.length
    · rw [List.drop_eq_getElem_cons lt] at h2
      obtain ⟨pn, h2⟩ := h2
      obtain ⟨q1, q2, q3⟩ := j1 M2 (A :: F) st2 H2 i jj r2 pn
      refine .inr ⟨q1 lt, fun H' => i + 1 ≤ ts.length ∧ ∃ M2 st2 acc2 out2, Gb A L1 H1 M2 H' ∧ Rl c M2 (A :: F) st2 H' ∧ H' A = some (.lst acc2) ∧ Tas c M2 (A :: F) H' acc2 out2 ∧ out2.length ≤ big ∧
        lc2W x.w t.w i1.w x1.w x1.vs t1.w e.w (wipeE env vs) pin (ts.drop (i + 1)) out2 st2 (fun out st2 => Q (.lst out) st2), fun H' ⟨a1, a2⟩ => ⟨ts.length - (i + 1), by omega, rfl, a1, a2⟩, fun v H3 y => ?_⟩
      obtain ⟨g3, r3, u, et, at3⟩ := q3 v H3 lt y
      have et' : u = ts[i] := by rw [List.getElem?_eq_getElem lt] at et; exact (Option.some.inj et).symm
      subst et'
      have e3 := g3.gr A _ (r2.dis A List.mem_cons_self) e2
      refine x.ok M2 (A :: F) st2 H3 (L2.wipe σ vs) (wipeE env vs) v _ _ _ r3 ((s2.go g3).wipe vs) (at3 (fun _ => true) (fun n a _ e => g2.stay n a e) (T.refs_all _)) h2 fun σ4 env4 s4 w4 h4 => ?_
      refine ⟨(wipe_app w4 hv).trans wipe_wipe, ?_⟩
      refine t.ok M2 (A :: F) env4 st2 σ4 H3 _ _ r3 s4 h4 fun b st5 H5 L5 g5 r5 h5 => ?_
      have e5 := g5.gr A _ (r3.dis A List.mem_cons_self) e3
      have gb5 : Gb A L1 H1 L5 H5 := (g2.trans (g3.gb (by rw [e2]; exact fun z => nomatch z))).trans (g5.gb (by rw [e3]; exact fun z => nomatch z))
      cases b with
      | false => exact iteF ⟨lt, L5, st5, acc2, out2, gb5, r5, e5, (a2.go g3).go g5, z2, h5⟩
      | true =>
        refine iteT (i1.ok L5 (A :: F) env4 st5 σ4 H5 _ _ r5 (s4.go g5) h5 fun J1 ts1 pin1 st6 H6 L6 g6 r6 z6 ⟨zz, h6⟩ j6 => ?_)
        have e6 := g6.gr A _ (r5.dis A List.mem_cons_self) e5
        have gb6 := gb5.trans (g6.gb (by rw [e5]; exact fun z => nomatch z))
        exact lc_loop r6 ((s4.go g5).go g6) e6 (((a2.go g3).go g5).go g6) zz j6 h6 fun M' H' st' acc' out' g' r' e' a' z' h' => ⟨lt, M', st', acc', out', gb6.trans g', r', e', a', Nat.le_trans z' zz, h'⟩
    · have ei : i = ts.length := by omega
      subst ei
      rw [List.drop_length] at h2
      obtain ⟨pn, h2⟩ := h2
      obtain ⟨q1, q2, q3⟩ := j1 M2 (A :: F) st2 H2 ts.length jj r2 pn
      refine .inl ⟨q2 (Nat.le_refl _), k _ (.lst out2) st2 H2 M2 (g1.trans (g2.go nA)) r2.unbar (.lst ?_ e2 (a2.mv Mv.unbar (refsL_all _)) z2) h2⟩
      exact fun z => z.elim (fun m => (r1.trF A m).1 nA) fun m => r2.dis A List.mem_cons_self m
/-! {k: v for x in src}, the keys tuples -/
def dcW (x : T → En → (En → Prop) → Prop) (kk : WE) (e : WE) (env : En) (pin : Stt → Prop) : List T → List (List L2.Key × T) → Stt → (List (List L2.Key × T) → Stt → Prop) → Prop
  | [], out, st, K => pin st ∧ K out st
  | a :: as, out, st, K => pin st ∧ x a env fun env' => kk env' st fun y st1 => e env' st1 fun z st2 => (match y.tk with | some k => dcW x kk e env pin as (putP out k z) st2 K | none => False)
def eDcT (i : IX c) (x : GX c) (kk e : EX c) : EX c where
  te := tDcT i.wi x.g kk.te e.te x.vs
  w env st Q := i.w env st fun ts pin st1 => dcW x.w kk.w e.w (wipeE env x.vs) pin ts [] st1 fun out st2 => Q (.dtt out) st2
  ok L F env st σ H Qc Q r s h k := by
    refine i.ok L F env st σ H _ _ r s h fun J ts pin st1 H1 L1 g1 r1 zt h1 j1 => ?_
    intro A nA
    have hA : some A ∉ L1 := fun m => r1.trL m nA
    have rb := r1.bar (o := .dT []) nA
    have gf : Gb A L1 H1 L1 (upd H1 A (.dT [])) := Gb.first nA
    have big' : big < sizeLine := by decide
    refine ⟨fun i m H2 => m = ts.length - i ∧ i ≤ ts.length ∧ ∃ M2 st2 kvs out2, Gb A L1 H1 M2 H2 ∧ Rl c M2 (A :: F) st2 H2 ∧ H2 A = some (.dT kvs) ∧ Prs c M2 (A :: F) H2 kvs out2 ∧ out2.length ≤ i ∧
      dcW x.w kk.w e.w (wipeE env x.vs) pin (ts.drop i) out2 st2 (fun out st2 => Q (.dtt out) st2), ⟨ts.length, by simp, Nat.zero_le _, L1, st1, [], [], gf, rb, upd_same, .nil, Nat.zero_le _, h1⟩, ?_⟩
    rintro i m H2 ⟨rfl, hi, M2, st2, kvs, out2, g2, r2, e2, a2, z2, h2⟩
    have s2 : Se c M2 (A :: F) H2 σ env := (s.go g1).mv (g2.mv0 hA nA)
    have jj : Gj L1 F H1 M2 (A :: F) H2 := ⟨(g2.mv0 (F := F) hA nA).fr, fun n a e => .inl (g2.stay n a e)⟩
    by_cases lt : i < ts.length
    · rw [List.drop_eq_getElem_cons lt] at h2
      obtain ⟨pn, h2⟩ := h2
      obtain ⟨q1, q2, q3⟩ := j1 M2 (A :: F) st2 H2 i jj r2 pn
      refine .inr ⟨q1 lt, fun H' => i + 1 ≤ ts.length ∧ ∃ M2 st2 kvs out2, Gb A L1 H1 M2 H' ∧ Rl c M2 (A :: F) st2 H' ∧ H' A = some (.dT kvs) ∧ Prs c M2 (A :: F) H' kvs out2 ∧ out2.length ≤ i + 1 ∧
        dcW x.w kk.w e.w (wipeE env x.vs) pin (ts.drop (i + 1)) out2 st2 (fun out st2 => Q (.dtt out) st2), fun H' ⟨a1, a2⟩ => ⟨ts.length - (i + 1), by omega, rfl, a1, a2⟩, fun v H3 y => ?_⟩
      obtain ⟨g3, r3, u, et, at3⟩ := q3 v H3 lt y
      have et' : u = ts[i] := by rw [List.getElem?_eq_getElem lt] at et; exact (Option.some.inj et).symm
      subst et'
      have e3 := g3.gr A _ (r2.dis A List.mem_cons_self) e2
      refine x.ok M2 (A :: F) st2 H3 (L2.wipe σ x.vs) (wipeE env x.vs) v _ _ _ r3 ((s2.go g3).wipe x.vs) (at3 (fun _ => true) (fun n a _ e => g2.stay n a e) (T.refs_all _)) h2 fun σ4 env4 s4 w4 h4 => ?_
      refine ⟨w4.trans wipe_wipe, ?_⟩
      refine kk.ok M2 (A :: F) env4 st2 σ4 H3 _ _ r3 s4 h4 fun yv yt st5 H5 L5 g5 r5 a5 h5 => ?_
      have e5 := g5.gr A _ (r3.dis A List.mem_cons_self) e3
      refine e.ok L5 (A :: F) env4 st5 σ4 H5 _ _ r5 (s4.go g5) h5 fun v6 t6 st6 H6 L6 g6 r6 a6 h6 => ?_
      have e6 := g6.gr A _ (r5.dis A List.mem_cons_self) e5
      have gb6 : Gb A L1 H1 L6 H6 := ((g2.trans (g3.gb (by rw [e2]; exact fun z => nomatch z))).trans (g5.gb (by rw [e3]; exact fun z => nomatch z))).trans (g6.gb (by rw [e5]; exact fun z => nomatch z))
      cases ek : yt.tk with
      | none => simp [ek] at h6
      | some key =>
        simp only [ek] at h6
        obtain ⟨bb, q4, q5⟩ := tk_ok (a5.go g6) ek
        have al6 : kvs.length = out2.length := a2.length
        have p6 : Prs c L6 (A :: F) H6 kvs out2 := ((a2.mv g3.mv (refsL_all _)).mv g5.mv (refsL_all _)).mv g6.mv (refsL_all _)
        refine ⟨kvs, key, bb, q4, q5, e6, by rw [al6]; omega, lt, L6, st6, putK kvs key v6, putP out2 key t6, gb6.at_, r6.atF List.mem_cons_self, upd_same, ?_, Nat.le_trans len_put (by omega), h6⟩
        exact (p6.put a6).mv (Mv.atF List.mem_cons_self) (refsL_all _)
    · have ei : i = ts.length := by omega
      subst ei
      rw [List.drop_length] at h2
      obtain ⟨pn, h2⟩ := h2
      obtain ⟨q1, q2, q3⟩ := j1 M2 (A :: F) st2 H2 ts.length jj r2 pn
      have p3 : Prs c M2 F H2 kvs out2 := a2.mv Mv.unbar (refsL_all _)
      refine .inl ⟨q2 (Nat.le_refl _), k _ (.dtt out2) st2 H2 M2 (g1.trans (g2.go nA)) r2.unbar (.dT ?_ e2 p3.keys p3.vals (by omega)) h2⟩
      exact fun z => z.elim (fun m => (r1.trF A m).1 nA) fun m => r2.dis A List.mem_cons_self m
end
end Vw

/-! own len, in, [ ] and == of an instance -/
namespace Gd
open PySem PySem.Spec PyProof.Rows L2
/-- the class's own function for a word keeps a promise -/
def OwnF (P : Program) (w : World) (K : PySem.W.Frag) (mg : Str → Option Value) (base : Heap) (k : Nat) (C : Addr) (m : Str) (sp : Sp) : Prop :=
  ∃ (f : Addr) (fd : FuncData) (ps : List Str), PySem.W.findIn K (.ref C) m = some (some (.ref f)) ∧ PySem.W.isFn K (.ref f) = true ∧ Binds K fd ps [] ∧ FnOk P w K mg base CX0 k f fd ps sp
section
variable {X : Cx} {pins : List (Addr × Obj)} {σ : L2.St} {H : Hp} {s : Shared} {k : Nat} {sp : Sp} {C : Addr} {m : Str}
/-- such a function run in a surrounding of the body's frames -/
theorem own_run {A : Around} {f : Addr} {fd : FuncData} {ps : List Str} {Q : VK} {us : List Value} {vs : List V} (F : FnOk X.prog X.w X.K X.mg X.base CX0 k f fd ps sp) (hb : Binds X.K fd ps []) (hr : Room k A) (e0 : Env0 X.prog X.w X.K X.mg X.base A X.stack s H)
    (I : Inv X pins σ H s) (r : Vals vs us) (h : sp vs H Q E0) : wpAny (model X.prog X.w) A (call (.ref f) us) (EP X pins σ Q) X.xe s := by
  have ll : us.length = ps.length := by
    have := F.len _ _ _ _ h
    rw [← r.length]
    exact this
  refine wpAny_call (codeAny_mono (F.run A X.stack s H ⟨us, []⟩ us vs Q E0 hr e0 (by
    have := hb s us I.kIn (by simpa using ll)
    simpa using this) r h) fun res s' hq => ?_)
  match res, hq with
  | .error e, hq => exact (pass0 pins σ H s e s' I hq)
  | .ok (.ret u), hq => exact I.after hq
  | .ok .next, hq => exact False.elim hq
  | .ok .brk, hq => exact False.elim hq
  | .ok .cont, hq => exact False.elim hq
/-- len(x) -/
def rLenO (C : Addr) (sp : Sp) : List V → Hp → VK → Prop := fun xs H Q => ∃ x dx fs, xs = [.ref x] ∧ H x = some (.ins C dx fs) ∧ sp [.ref x] H (fun v H' => ∃ n : Int, v = .int n ∧ 0 ≤ n ∧ n < 2 ^ 63 ∧ Q (.int n) H') E0
theorem call_lenO (O : OwnF X.prog X.w X.K X.mg X.base k C "__len__" sp) (hr : Room (k + 1) X.A) : CallR X (.builtin "len") (rLenO C sp) := by
  intro pins s σ H xs us Q I r h
  obtain ⟨x, dx, fs, rfl, hx, q⟩ := h
  obtain ⟨u, rfl, rx⟩ := vals1 r
  obtain rfl : u = Value.ref x := rx
  obtain ⟨f, fd, ps, h1, h2, hb, F⟩ := O
  obtain ⟨mA, J, _⟩ := ins_get I.hok hx
  obtain ⟨od, J, _⟩ := J.look
  obtain ⟨m, hF⟩ := I.fr
  refine PySem.W.len_K hF I.ok.mod.kin J h1 h2 (wpAny_mono (own_run (us := [.ref x]) (vs := [.ref x]) F hb hr.in1 I.env0.in1 I (.cons rfl .nil) q) (fun v s' z => ?_) fun _ _ z => z)
  obtain ⟨v', H', I', rv, n, e, n0, n1, qn⟩ := z
  subst e
  obtain ⟨t, rfl⟩ := rv
  exact ⟨⟨n0, n1⟩, .int n, H', I'.tok _, ⟨_, rfl⟩, qn⟩
/-- y in x -/
def rInO (C : Addr) (sp : Sp) : R2 := fun y v H Q => ∃ x dx fs, v = .ref x ∧ H x = some (.ins C dx fs) ∧ sp [.ref x, y] H (fun b H' => ∃ c, b = .bl c ∧ Q (.bl c) H') E0
theorem op_inO (O : OwnF X.prog X.w X.K X.mg X.base k C "__contains__" sp) (hr : Room k X.A) : OpR X (compareOp .In) (rInO C sp) := by
  intro pins s σ H y v u w Q I ry rv h
  obtain ⟨x, dx, fs, rfl, hx, q⟩ := h
  obtain rfl : w = Value.ref x := rv
  obtain ⟨f, fd, ps, h1, h2, hb, F⟩ := O
  obtain ⟨mA, J, _⟩ := ins_get I.hok hx
  obtain ⟨od, J, _⟩ := J.look
  obtain ⟨m, hF⟩ := I.fr
  refine PySem.W.in_K hF I.ok.mod.kin J h1 h2 (wpAny_mono (own_run (us := [.ref x, u]) (vs := [.ref x, y]) F hb hr I.env0 I (.cons rfl (.cons ry .nil)) q) (fun r s' z => ?_) fun _ _ z => z)
  obtain ⟨r', H', I', rr, c, e, qc⟩ := z
  subst e
  cases (show r = Value.bool c from rr)
  exact wpAny_pure ⟨.bl c, H', I', rfl, qc⟩
/-- x[y] -/
def rIxO (C : Addr) (sp : Sp) : R2 := fun v y H Q => ∃ x dx fs, v = .ref x ∧ H x = some (.ins C dx fs) ∧ sp [.ref x, y] H Q E0
theorem sub_O (O : OwnF X.prog X.w X.K X.mg X.base k C "__getitem__" sp) (fnk : ∀ f, PySem.W.findIn X.K (.ref C) "__getitem__" = some (some (.ref f)) → PySem.W.fnIn X.K f = true) (hr : Room (k + 1) X.A) {value slice : Expr} {x : Addr} {dx : Addr} {fs : List (Str × V)} {y : V} {i : Value} {Q : VK}
    (I : Inv X pins σ H s) (ry : RelV y i) (hx : H x = some (.ins C dx fs)) (q : sp [.ref x, y] H Q E0) (hsl : subscripted slice true (.ref x) i = runValue (.builtin "lifetime.subscript" ⟨[.ref x, i], []⟩)) :
    wpAny (model X.prog X.w) X.A (subscriptTail value slice (.ref x) i) (EP X pins σ Q) X.xe s := by
  obtain ⟨f, fd, ps, h1, h2, hb, F⟩ := O
  obtain ⟨mA, J, _⟩ := ins_get I.hok hx
  obtain ⟨od, J, _⟩ := J.look
  obtain ⟨m, hF⟩ := I.fr
  exact PySem.W.sub_K hF I.ok.mod.kin J h1 (fnk f h1) h2 (own_run (us := [.ref x, i]) (vs := [.ref x, y]) F hb hr.in1 I.env0.in1 I (.cons rfl (.cons ry .nil)) q) hsl
theorem pe_subO (O : OwnF X.prog X.w X.K X.mg X.base k C "__getitem__" sp) (fnk : ∀ f, PySem.W.findIn X.K (.ref C) "__getitem__" = some (some (.ref f)) → PySem.W.fnIn X.K f = true) (hr : Room (k + 1) X.A) {o i : Expr} {ta tb : TE} {pos : Pos} (ho : PE X o ta) (hi : PE X i tb)
    (hsl : ∀ x iv, subscripted i true (.ref x) iv = runValue (.builtin "lifetime.subscript" ⟨[.ref x, iv], []⟩) := by intro _ _; with_unfolding_all rfl) : PE X (.Subscript o i pos) (tOp (rIxO C sp) ta tb) := by
  refine ⟨fun pins s σ H Q I h => Subscript_ (thn (ho.run pins s σ H _ I h) fun v s1 ⟨x, H1, I1, r1, q1⟩ => thn (hi.run pins s1 σ H1 _ I1 q1) fun iv s2 ⟨y, H2, I2, r2, q2⟩ => ?_)⟩
  obtain ⟨a, dx, fs, rfl, hx, q3⟩ := q2
  obtain rfl : v = Value.ref a := r1
  exact sub_O O fnk hr I2 r2 hx q3 (hsl _ _)
/-- x == y, x != y of instances of one class -/
def rEqO (C : Addr) (sp : Sp) : R2 := fun v y H Q => ∃ x dx fs z dz gs, v = .ref x ∧ y = .ref z ∧ H x = some (.ins C dx fs) ∧ H z = some (.ins C dz gs) ∧ sp [.ref x, .ref z] H (fun b H' => ∃ c, b = .bl c ∧ Q (.bl c) H') E0
theorem op_eqO (O : OwnF X.prog X.w X.K X.mg X.base k C "__eq__" sp) (hr : Room k X.A) : OpR X (compareOp .Eq) (rEqO C sp) := by
  intro pins s σ H v y u t Q I rv ry h
  obtain ⟨x, dx, fs, z, dz, gs, rfl, rfl, hx, hz, q⟩ := h
  obtain rfl : u = Value.ref x := rv
  obtain rfl : t = Value.ref z := ry
  obtain ⟨f, fd, ps, h1, h2, hb, F⟩ := O
  obtain ⟨mA, J, _⟩ := ins_get I.hok hx
  obtain ⟨mB, J', _⟩ := ins_get I.hok hz
  obtain ⟨od, J, _⟩ := J.look
  obtain ⟨od', J', _⟩ := J'.look
  obtain ⟨m, hF⟩ := I.fr
  refine PySem.W.cmp_K (op := .Eq) (tb := .ref C) hr.units0 hF I.ok.mod.kin J J'.type (by simp [PySem.W.notFirst]) h1 h2 (wpAny_mono (own_run (us := [.ref x, .ref z]) (vs := [.ref x, .ref z]) F hb hr I.env0 I (.cons rfl (.cons rfl .nil)) q) (fun r s' w => ?_) fun _ _ z => z)
  obtain ⟨r', H', I', rr, c, e, qc⟩ := w
  subst e
  exact SlX.cmpback rr ⟨.bl c, H', I', rr, qc⟩
end
end Gd

/-! an instance beside data: == and isinstance -/
namespace Gd
open PySem PySem.Spec PyProof.Rows L2
def SpOr (a b : Sp) : Sp := fun vs H Q E => a vs H Q E ∨ b vs H Q E
/-- no data is of the class at C -/
structure NoKin (K : PySem.W.Frag) (C : Addr) : Prop where
  isi : ∀ d : PyData, PySem.W.kitOne K (.type (tyN d)) (.ref C) = some false
  sub : ∀ d : PyData, PySem.W.subIn K (.type (tyN d)) (.ref C) = some false
section
variable {X : Cx} {pins : List (Addr × Obj)} {σ : L2.St} {H : Hp} {s : Shared} {F : List Addr} {k : Nat} {sp : Sp} {C : Addr}
theorem looks_da {M : Model} (I : Inv X pins σ H s) {v : V} {u : Value} {d : PyData} (h : Da F H v d) (r : RelV v u) : PySem.W.Looks M s.heap (typeOf u) (.type (tyN d)) := by
  have at_ : ∀ {a : Addr} {o : Obj} {n : String}, s.heap.get? a = some o → o.cls = .type n → PySem.W.Looks M s.heap (typeOf (.ref a)) (.type n) := fun ho hc => hc ▸ (PySem.W.Looks.ld ho).andThen .now
  cases h with
  | non => cases (show u = Value.none from r); exact .of_pure rfl
  | bl b => cases (show u = Value.bool b from r); exact .of_pure rfl
  | int i => obtain ⟨t, rfl⟩ := r; exact .of_pure rfl
  | str x => obtain ⟨t, rfl⟩ := r; exact .of_pure rfl
  | @lst a xs ds nf h1 k1 =>
    obtain rfl : u = Value.ref a := r
    obtain ⟨its, rv, pl, _⟩ := I.list (.inl (.inl h1))
    obtain ⟨o, ho, hc, _⟩ := pl.isList
    exact at_ ho hc
  | @tup a xs ds nf h1 k1 =>
    obtain rfl : u = Value.ref a := r
    obtain ⟨its, rv, pl, _⟩ := I.tuple h1.seq
    obtain ⟨o, ho, hc, _⟩ := pl
    exact at_ ho hc
  | @dct a kvs ps nf h1 q1 k1 =>
    obtain rfl : u = Value.ref a := r
    obtain ⟨_, nm, vs, kv, o, es, ep, ho, hx, _⟩ := (show ObjOk X.prog X.w H s.heap a (.dK kvs) from I.hok a _ h1)
    exact at_ ho hx.1
/-- x == y, y data -/
def rEqOD (C : Addr) (sp : Sp) : R2 := fun v y H Q => ∃ x dx fs F d, v = .ref x ∧ H x = some (.ins C dx fs) ∧ Da F H y d ∧ sp [.ref x, y] H (fun b H' => ∃ c, b = .bl c ∧ Q (.bl c) H') E0
theorem op_eqOD (O : OwnF X.prog X.w X.K X.mg X.base k C "__eq__" sp) (nk : NoKin X.K C) (hr : Room k X.A) : OpR X (compareOp .Eq) (rEqOD C sp) := by
  intro pins s σ H v y u t Q I rv ry h
  obtain ⟨x, dx, fs, F, d, rfl, hx, hd, q⟩ := h
  obtain rfl : u = Value.ref x := rv
  obtain ⟨f, fd, ps, h1, h2, hb, Fn⟩ := O
  obtain ⟨mA, J, _⟩ := ins_get I.hok hx
  obtain ⟨od, J, _⟩ := J.look
  obtain ⟨m, hF⟩ := I.fr
  refine PySem.W.cmp_K (op := .Eq) (tb := .type (tyN d)) hr.units0 hF I.ok.mod.kin J (looks_da I hd ry) (by simp [PySem.W.notFirst, nk.sub d]) h1 h2 (wpAny_mono (own_run (us := [.ref x, t]) (vs := [.ref x, y]) Fn hb hr I.env0 I (.cons rfl (.cons ry .nil)) q) (fun r s' w => ?_) fun _ _ z => z)
  obtain ⟨r', H', I', rr, c, e, qc⟩ := w
  subst e
  exact SlX.cmpback rr ⟨.bl c, H', I', rr, qc⟩
end
end Gd

/-! x != y where the class has == alone -/
namespace Gd
open PySem PySem.Spec PyProof.Rows L2
open PySem.W (Looks findIn isFn looks_findIn looks_mroIn ifBound_K notFirst subIn looks_subIn)
theorem ne_bind (self : Value) : bindSpecial (.builtin "object.__ne__") self = pure (.builtin "object.__ne__", [self]) :=
  (Slot.of (T := "object") (name := "__ne__") (owner := "object") (n := "__ne__") (by rw [typeLookup_type, builtinLookup_eq_fast]; kernel_rfl) (by decide +kernel) (by decide +kernel) (by decide +kernel)
    (.inl (by decide +kernel)) (by rw [isSubtype_type]; kernel_rfl)).bind self
section
variable {prog : Program} {w : World} {A : Around} {E : Value → Shared → Prop} {s : Shared} {K : PySem.W.Frag} {x C L f : Addr} {h₀ : Heap} {m : Str → Option Value} {ox : Obj} {od : Option Obj} {b : Value}
theorem bound_ne {M : Model} {args : List Value} {Q : Option Value → Shared → Prop} (X : K.In s.heap) (I : PySem.W.InstAt s.heap x ox C od) (hs : findIn K (.ref C) "__ne__" = some (some (.builtin "object.__ne__")))
    (h : wpAny M A (call (.builtin "object.__ne__") (.ref x :: args)) (fun v => Q (some v)) E s) : wpAny M A (callSpecialIfBound? (.ref x) "__ne__" args) Q E s := by
  simp only [callSpecialIfBound?, bindSpecialIfBound?]
  refine wpAny_holding (wpAny_bind (wpAny_bind (wpAny_bind (I.type.here ((looks_findIn X hs).here ?_)))))
  refine wpAny_bind (wpAny_askSetting (wpAny_ite ?_))
  have go : wpAny M A (call (.builtin "object.__ne__") ([.ref x] ++ args) >>= fun v => pure (some v)) Q E s := wpAny_bind (wpAny_mono h (fun v s' z => wpAny_pure z) fun _ _ z => z)
  split
  · exact wpAny_bind (wpAny_of_eq (ne_bind _) (wpAny_pure (by exact go)))
  · exact wpAny_tryCatch (wpAny_bind (wpAny_of_eq (ne_bind _) (wpAny_pure (by exact go))))
theorem entry_ne {Q : Fin → Shared → Prop} (hu : A.units < cLine) (X : K.In s.heap) (I : PySem.W.InstAt s.heap x ox C od) (hs : findIn K (.ref C) "__eq__" = some (some (.ref f))) (hf : isFn K (.ref f) = true)
    (h : wpAny (model prog w) A (call (.ref f) [.ref x, b]) (fun v s' => ∃ c, v = .bool c ∧ Q (.done (.ret (.bool (!c)))) s') E s) : wpAny (model prog w) A (Builtin.«object.__ne__» ⟨[.ref x, b], []⟩) Q E s := by
  unfold Builtin.«object.__ne__»
  repeat (first | with_reducible refine wpAny_cRoomFor hu ?_ | with_reducible refine ifBound_K X I hs hf (wpAny_mono h (fun v s' z => ?_) fun _ _ z => z) | wp_step)
  obtain ⟨c, rfl, q⟩ := z
  show wpAny _ _ (truthy (.bool c) >>= fun t => ret (.bool (!t))) Q E s'
  exact wpAny_bind (wpAny_pure (wpAny_pure q))
theorem cmp_ne {tb : Value} {Q : Value → Shared → Prop} (hu : A.units + 1 < cLine) (X : K.In s.heap) (I : PySem.W.InstAt s.heap x ox C od) (hb : Looks (model prog w) s.heap (typeOf b) tb) (hn : notFirst K C tb = true)
    (hs : findIn K (.ref C) "__eq__" = some (some (.ref f))) (hf : isFn K (.ref f) = true) (hne : findIn K (.ref C) "__ne__" = some (some (.builtin "object.__ne__"))) (hm : PySem.W.mroIn K C (.type "object") = some true)
    (h : wpAny (model prog w) A.in1 (call (.ref f) [.ref x, b]) (fun v s' => ∃ c, v = .bool c ∧ Q (.bool (!c)) s') E s) : wpAny (model prog w) A (richCompare .NotEq (.ref x) b) Q E s := by
  have one : wpAny (model prog w) A (tryCompare (.ref x) "__ne__" b) (fun r s' => ∃ v, r = some v ∧ Q v s') E s := by
    unfold tryCompare
    have inst : Looks (model prog w) s.heap (isInstance (.ref x) (.type "object")) true := I.type.andThen (looks_mroIn X hm)
    refine wpAny_bind (bound_ne X I hne (wpAny_call (codeAny_call_builtin (by decide +kernel) PySem.F.cmpEntry_ne (PySem.W.check_slot PySem.F.cmpKind_ne PySem.F.cmpSplit_ne inst (PySem.F.cmpArgs_ne _ _)
      (entry_ne (A := A.in1) hu X I hs hf (wpAny_mono h (fun v s' z => ?_) fun _ _ z => z))))))
    obtain ⟨c, e, q⟩ := z
    exact ⟨c, e, wpAny_pure ⟨_, rfl, q⟩⟩
  unfold richCompare
  simp only [oneThing_ref]
  refine wpAny_holding (wpAny_bind (wpAny_cRoomFor (by omega) ?_))
  refine wpAny_bind (I.type.here (wpAny_bind (hb.here ?_)))
  split
  · rename_i q
    have e : subIn K tb (.ref C) = some false := by
      rcases Bool.or_eq_true_iff.mp hn with e | e
      · rw [beq_iff_eq.mp e] at q; simp at q
      · exact beq_iff_eq.mp e
    refine wpAny_bind ((looks_subIn X e).here ?_)
    simp only [Bool.false_eq_true, if_false]
    refine wpAny_bind (wpAny_mono one (fun r s' ⟨v, e, q⟩ => ?_) fun _ _ z => z)
    subst e
    exact wpAny_pure q
  · refine wpAny_bind (wpAny_pure ?_)
    simp only [Bool.false_eq_true, if_false]
    refine wpAny_bind (wpAny_mono one (fun r s' ⟨v, e, q⟩ => ?_) fun _ _ z => z)
    subst e
    exact wpAny_pure q
end
section
variable {X : Cx} {k : Nat} {sp : Sp} {C : Addr}
/-- x != y of instances of one class -/
def rNeO (C : Addr) (sp : Sp) : R2 := fun v y H Q => ∃ x dx fs z dz gs, v = .ref x ∧ y = .ref z ∧ H x = some (.ins C dx fs) ∧ H z = some (.ins C dz gs) ∧ sp [.ref x, .ref z] H (fun b H' => ∃ c, b = .bl c ∧ Q (.bl (!c)) H') E0
theorem op_neO (O : OwnF X.prog X.w X.K X.mg X.base k C "__eq__" sp) (hne : findIn X.K (.ref C) "__ne__" = some (some (.builtin "object.__ne__"))) (hm : PySem.W.mroIn X.K C (.type "object") = some true) (hr : Room (k + 1) X.A) : OpR X (compareOp .NotEq) (rNeO C sp) := by
  intro pins s σ H v y u t Q I rv ry h
  obtain ⟨x, dx, fs, z, dz, gs, rfl, rfl, hx, hz, q⟩ := h
  obtain rfl : u = Value.ref x := rv
  obtain rfl : t = Value.ref z := ry
  obtain ⟨f, fd, ps, h1, h2, hb, F⟩ := O
  obtain ⟨mA, J, _⟩ := ins_get I.hok hx
  obtain ⟨mB, J', _⟩ := ins_get I.hok hz
  obtain ⟨od, J, _⟩ := J.look
  obtain ⟨od', J', _⟩ := J'.look
  refine cmp_ne (tb := .ref C) (by have := hr.un; omega) I.kIn J J'.type (by simp [PySem.W.notFirst]) h1 h2 hne hm (wpAny_mono (own_run (us := [.ref x, .ref z]) (vs := [.ref x, .ref z]) F hb hr.in1 I.env0.in1 I (.cons rfl (.cons rfl .nil)) q) (fun r s' w => ?_) fun _ _ z => z)
  obtain ⟨r', H', I', rr, c, e, qc⟩ := w
  subst e
  exact ⟨c, rr, .bl (!c), H', I', rfl, qc⟩
/-- x != y, y data -/
def rNeOD (C : Addr) (sp : Sp) : R2 := fun v y H Q => ∃ x dx fs F d, v = .ref x ∧ H x = some (.ins C dx fs) ∧ Da F H y d ∧ sp [.ref x, y] H (fun b H' => ∃ c, b = .bl c ∧ Q (.bl (!c)) H') E0
theorem op_neOD (O : OwnF X.prog X.w X.K X.mg X.base k C "__eq__" sp) (nk : NoKin X.K C) (hne : findIn X.K (.ref C) "__ne__" = some (some (.builtin "object.__ne__"))) (hm : PySem.W.mroIn X.K C (.type "object") = some true) (hr : Room (k + 1) X.A) : OpR X (compareOp .NotEq) (rNeOD C sp) := by
  intro pins s σ H v y u t Q I rv ry h
  obtain ⟨x, dx, fs, F, d, rfl, hx, hd, q⟩ := h
  obtain rfl : u = Value.ref x := rv
  obtain ⟨f, fd, ps, h1, h2, hb, Fn⟩ := O
  obtain ⟨mA, J, _⟩ := ins_get I.hok hx
  obtain ⟨od, J, _⟩ := J.look
  refine cmp_ne (tb := .type (tyN d)) (by have := hr.un; omega) I.kIn J (looks_da I hd ry) (by simp [PySem.W.notFirst, nk.sub d]) h1 h2 hne hm (wpAny_mono (own_run (us := [.ref x, t]) (vs := [.ref x, y]) Fn hb hr.in1 I.env0.in1 I (.cons rfl (.cons ry .nil)) q) (fun r s' w => ?_) fun _ _ z => z)
  obtain ⟨r', H', I', rr, c, e, qc⟩ := w
  subst e
  exact ⟨c, rr, .bl (!c), H', I', rfl, qc⟩
end
end Gd

/-! objects -/
namespace Vw
open PySem PySem.Spec PyProof.Rows L2 Gd
section
variable {c : Cf} {L : Ls} {F : List Addr} {H : Hp} {st : Stt}
theorem Prs.look {f : Str} : ∀ {kvs : List (Str × V)} {ps : List (Str × T)}, Prs c L F H kvs ps → (kvs.lookup f = none ∧ ps.lookup f = none) ∨ ∃ v t, kvs.lookup f = some v ∧ ps.lookup f = some t ∧ Ta c L F H v t
  | _, _, .nil => .inl ⟨rfl, rfl⟩
  | _, _, .cons (k := g) (v := v) (t := t) a h => by
    simp only [List.lookup]
    cases e : f == g with
    | true => exact .inr ⟨v, t, rfl, rfl, a⟩
    | false => exact h.look
/-- the fields of an object of the class at C -/
def objW (C : Addr) (st : Stt) (t : T) (K : List (Str × T) → Prop) : Prop := match t with
  | .obj C' fs => C' = C ∧ K fs
  | .ref n => match st[n]? with | some (.obj C' fs) => C' = C ∧ K fs | _ => False
  | _ => False
theorem objW_ok {C : Addr} {v : V} {t : T} {K : List (Str × T) → Prop} (r : Rl c L F st H) (a : Ta c L F H v t) (h : objW C st t K) : ∃ x dx fs ps, v = .ref x ∧ H x = some (.ins C dx fs) ∧ K ps ∧ Prs c L F H fs ps := by
  cases a with
  | @obj x C' dx fs ps nb hp qk as =>
    obtain ⟨rfl, h⟩ := h
    exact ⟨x, dx, fs, ps, rfl, hp, h, prs_of qk as⟩
  | @ref n b e =>
    cases q : st[n]? with
    | none => simp [objW, q] at h
    | some x =>
      cases x with
      | obj C' ps =>
        obtain ⟨rfl, hk⟩ : C' = C ∧ K ps := by simpa [objW, q] using h
        obtain ⟨dx, fs, hp, qk, as⟩ := r.cell n b _ e q
        exact ⟨b, dx, fs, ps, rfl, hp, hk, prs_of qk as⟩
      | _ => simp [objW, q] at h
  | _ => exact h.elim
end
def putFT (f : Str) (v : T) : List (Str × T) → List (Str × T)
  | [] => [(f, v)]
  | (g, x) :: r => if g = f then (g, v) :: r else (g, x) :: putFT f v r
theorem Prs.putF {c : Cf} {L : Ls} {F : List Addr} {H : Hp} {f : Str} {v : V} {t : T} (b : Ta c L F H v t) : ∀ {kvs : List (Str × V)} {ps : List (Str × T)}, Prs c L F H kvs ps → Prs c L F H (L2.putF f v kvs) (putFT f t ps)
  | _, _, .nil => .cons b .nil
  | _, _, .cons (k := g) a h => by
    unfold L2.putF putFT
    by_cases e : g = f
    · rw [if_pos e, if_pos e]; exact .cons b h
    · rw [if_neg e, if_neg e]; exact .cons a (h.putF b)
theorem refs_putFT {p : Nat → Bool} {f : Str} {t : T} (ht : t.refsIn p = true) : ∀ {ps : List (Str × T)}, refsInF p ps = true → refsInF p (putFT f t ps) = true
  | [], _ => by simp [putFT, refsInF, ht]
  | (g, x) :: r, h => by
    simp only [refsInF, Bool.and_eq_true] at h
    unfold putFT
    split
    · simp only [refsInF, Bool.and_eq_true]; exact ⟨ht, h.2⟩
    · simp only [refsInF, Bool.and_eq_true]; exact ⟨h.1, refs_putFT ht h.2⟩
section
variable {c : Cf}
/-- o.f -/
def eFld (C : Addr) (f : Str) (cl : Cls c.K C) (na : NoAttr c.K C f) (o : EX c) : EX c where
  te := tFld c.K o.te f
  w env st Q := o.w env st fun t st1 => objW C st1 t fun fs => match fs.lookup f with | some x => Q x st1 | none => False
  ok L F env st σ H Qc Q r s h k := o.ok L F env st σ H _ _ r s h fun v t st1 H1 L1 g1 r1 a1 h1 => by
    obtain ⟨x, dx, fs, ps, rfl, hp, h, pr⟩ := objW_ok r1 a1 h1
    rcases pr.look (f := f) with ⟨e1, e2⟩ | ⟨w, t, e1, e2, at'⟩
    · rw [e2] at h; exact h.elim
    · rw [e2] at h; exact ⟨x, C, dx, fs, w, rfl, hp, cl, na, e1, (k.go g1).here r1 at' h⟩
/-- o.f = v, o a cell -/
def sFldC (C : Addr) (f : Str) (cl : Cls c.K C) (na : NoAttr c.K C f) (o v : EX c) : SX c where
  ts := sFld c.K o.te v.te f
  w _ E env st := v.w env st fun y st1 => o.w env st1 fun t st2 => match t with
    | .ref n => match st2[n]? with
      | some (.obj C' fs) => C' = C ∧ fs.length < 1000 ∧ y.under n = true ∧ E.nx env (st2.set n (.obj C (putFT f y fs)))
      | _ => False
    | _ => False
  ok n0 L F env st σ H D E r s h k := v.ok L F env st σ H _ _ r s h fun yv y st1 H1 L1 g1 r1 a1 h1 => o.ok L1 F env st1 σ H1 _ _ r1 (s.go g1) h1 fun ov t st2 H2 L2 g2 r2 a2 h2 => by
    cases a2 with
    | @ref n b e =>
      cases q : st2[n]? with
      | none => simp [q] at h2
      | some x =>
        cases x with
        | obj C' ps =>
          obtain ⟨rfl, z, lo, h⟩ : C' = C ∧ ps.length < 1000 ∧ y.under n = true ∧ E.nx env (st2.set n (.obj C (putFT f y ps))) := by simpa [q] using h2
          obtain ⟨dx, fs, hp, qk, as⟩ := r2.cell n b _ e q
          have pr := prs_of qk as
          have go := Go.at_ (o := .ins C' dx (_root_.L2.putF f yv fs)) r2 e
          have pp : Prs c L2 F (upd H2 b (.ins C' dx (_root_.L2.putF f yv fs))) (_root_.L2.putF f yv fs) (putFT f y ps) := (pr.putF (a1.go g2)).mv go.mv (refsL_all _)
          obtain ⟨g3, r3⟩ := r2.write (o := .ins C' dx (_root_.L2.putF f yv fs)) (x := .obj C' (putFT f y ps)) e ⟨dx, _, upd_same, pp.keys, pp.vals⟩ (refs_putFT lo (r2.low n _ q))
          have g := (g1.trans g2).trans g3
          exact ⟨b, C', dx, fs, rfl, hp, cl, na, by rw [pr.length]; exact z, k.nx σ env _ _ L2 g.gs r3 (s.go g) h⟩
        | _ => simp [q] at h2
    | _ => exact h2.elim
/-- C(..): made and let go; made and kept as a cell -/
def makeW (C : Addr) (m : Mn) (ts : List T) (st : Stt) (K : Stt → Prop) : Prop := m (.ref st.length :: ts) (st ++ [.obj C []]) fun r st2 => (match r with | .non => True | _ => False) ∧ K st2
theorem make_ok {C : Addr} {m : Mn} {L : Ls} {F : List Addr} {st : Stt} {H : Hp} {vs : List V} {ts : List T} {K : Stt → Prop} {Qc : VK} {E : XK} (r : Rl c L F st H) (a : Tas c L F H vs ts) (h : makeW C m ts st K)
    (k : ∀ x H' L' st', Go L H L' H' → Rl c L' F st' H' → Ta c L' F H' (.ref x) (.ref st.length) → K st' → Qc (.ref x) H') :
    ∀ x dx, H x = none → H dx = none → dx ≠ x → SpT c m (.ref x :: vs) (upd (upd H dx (.own x)) x (.ins C dx [])) (fun v H2 => v = .non ∧ Qc (.ref x) H2) E := fun x dx hx hdx ne => by
  have hx2 : upd H dx (.own x) x = none := by rw [upd_ne (Ne.symm ne)]; exact hx
  have g1 : Go L H L (upd H dx (.own x)) := Go.lay hdx
  have r1 := r.lay (o := .own x) hdx
  have g2 : Go L (upd H dx (.own x)) (L ++ [some x]) (upd (upd H dx (.own x)) x (.ins C dx [])) := Go.cell hx2
  have r2 := r1.newCell (a := x) (o := .ins C dx []) (x := .obj C []) hx2 ⟨dx, [], upd_same, rfl, .nil⟩ rfl
  refine ⟨L ++ [some x], F, st ++ [.obj C []], .ref st.length :: ts, _, r2, .cons (Ta.newRef r) ((a.go g1).go g2), (show m (.ref st.length :: ts) (st ++ [.obj C []]) (fun r st2 => (match r with | .non => True | _ => False) ∧ K st2) from h), fun v t st' H' L' g r' a' ⟨e, h'⟩ => ?_⟩
  cases a' with
  | non => exact ⟨rfl, k x H' L' st' ((g1.trans g2).trans g) r' (.ref (g.stay _ _ (by rw [← r.len]; exact get_snoc))) h'⟩
  | _ => exact e.elim
def eMk (C : Addr) (m : Mn) (dvs : List V) (ds : List T) (hd : ∀ L F H, Tas c L F H dvs ds) (a : AX c) : EX c where
  te := tMake C (SpT c m) dvs C8.E0 a.ta
  w env st Q := a.w env st fun ts st1 => makeW C m (ts ++ ds) st1 fun st2 => exitF st1.length st2 (.ref st1.length) fun t => Q t (st2.take st1.length)
  ok L F env st σ H Qc Q r s h k := a.ok L F env st σ H _ _ r s h fun vs ts st1 H1 L1 g1 r1 a1 h1 =>
    make_ok r1 (a1.app (hd _ _ _)) h1 fun x H' L' st' g r' a' h' => (k.go g1).exit r1 _ _ st' H' L' g r' a' h'
def eMkK (C : Addr) (m : Mn) (dvs : List V) (ds : List T) (hd : ∀ L F H, Tas c L F H dvs ds) (a : AX c) : EX c where
  te := tMake C (SpT c m) dvs C8.E0 a.ta
  w env st Q := a.w env st fun ts st1 => makeW C m (ts ++ ds) st1 fun st2 => Q (.ref st1.length) st2
  ok L F env st σ H Qc Q r s h k := a.ok L F env st σ H _ _ r s h fun vs ts st1 H1 L1 g1 r1 a1 h1 =>
    make_ok r1 (a1.app (hd _ _ _)) h1 fun x H' L' st' g r' a' h' => k.go g1 _ _ st' H' L' g r' a' h'
/-- o.m(..) -/
def eMt (C : Addr) (n : Str) (m : Mn) (o : EX c) (a : AX c) : EX c where
  te := tMeth C n (SpT c m) [] C8.E0 o.te a.ta
  w env st Q := o.w env st fun t st1 => (objW C st1 t fun fs => fs.lookup n = none) ∧ a.w env st1 fun ts st2 => callF m (t :: ts) st2 Q
  ok L F env st σ H Qc Q r s h k := o.ok L F env st σ H _ _ r s h fun v t st1 H1 L1 g1 r1 a1 ⟨h0, h1⟩ => by
    obtain ⟨x, dx, fs, ps, rfl, hp, h, pr⟩ := objW_ok r1 a1 h0
    have lk : fs.lookup n = none := by
      rcases pr.look (f := n) with ⟨e1, _⟩ | ⟨w, t, _, e2, _⟩
      · exact e1
      · rw [e2] at h; cases h
    refine ⟨x, dx, fs, rfl, hp, lk, a.ok L1 F env st1 σ H1 _ _ r1 (s.go g1) h1 fun vs ts st2 H2 L2 g2 r2 a2 h2 => ?_⟩
    rw [List.append_nil]
    exact ⟨L2, F, st2, t :: ts, _, r2, .cons (a1.go g2) a2, h2, (k.go (g1.trans g2)).exit r2⟩
/-! the class's own operators -/
def isO (C : Addr) (st : Stt) (t : T) : Prop := objW C st t fun _ => True
def oLenO (C : Addr) (m : Mn) : ON c := on1 (rLenO C (SpT c m)) (fun st t Q => isO C st t ∧ callF m [t] st fun r st' => match r with | .int n => 0 ≤ n ∧ n < 2 ^ 63 ∧ Q (.int n) st' | _ => False) fun L F st H x t Qc Q r a ⟨h0, h⟩ k => by
  obtain ⟨x, dx, fs, ps, rfl, hp, _, pr⟩ := objW_ok r a h0
  have kk : KE c L F H (fun v H' => ∃ n : Int, v = .int n ∧ 0 ≤ n ∧ n < 2 ^ 63 ∧ Qc (.int n) H') (fun r st' => match r with | .int n => 0 ≤ n ∧ n < 2 ^ 63 ∧ Q (.int n) st' | _ => False) := fun v u st' H' L' g r' a' h' => by
    cases a' with
    | int n => exact ⟨n, rfl, h'.1, h'.2.1, k _ _ st' H' L' g r' (.int n) h'.2.2⟩
    | _ => exact h'.elim
  exact ⟨x, dx, fs, rfl, hp, L, F, st, [t], _, r, .cons a .nil, h, kk.exit r⟩
def blQ (Q : T → Stt → Prop) : T → Stt → Prop := fun r st' => match r with | .bl b => Q (.bl b) st' | _ => False
theorem blK {L : Ls} {F : List Addr} {H : Hp} {Qc : VK} {Q : T → Stt → Prop} (k : KE c L F H Qc Q) : KE c L F H (fun b H' => ∃ c, b = .bl c ∧ Qc (.bl c) H') (blQ Q) := fun v u st' H' L' g r' a' h' => by
  cases a' with
  | bl n => exact ⟨n, rfl, k _ _ st' H' L' g r' (.bl n) h'⟩
  | _ => exact h'.elim
theorem blKn {L : Ls} {F : List Addr} {H : Hp} {Qc : VK} {Q : T → Stt → Prop} (k : KE c L F H Qc Q) : KE c L F H (fun b H' => ∃ c, b = .bl c ∧ Qc (.bl (!c)) H') (blQ fun r st' => match r with | .bl b => Q (.bl (!b)) st' | _ => False) := fun v u st' H' L' g r' a' h' => by
  cases a' with
  | bl n => exact ⟨n, rfl, k _ _ st' H' L' g r' (.bl (!n)) h'⟩
  | _ => exact h'.elim
def oInO (C : Addr) (m : Mn) : O2 c where
  r := rInO C (SpT c m)
  w st y x Q := isO C st x ∧ callF m [x, y] st (blQ Q)
  ok L F st H v u y x Qc Q r h1 h2 h k := by
    obtain ⟨p, dx, fs, ps, rfl, hp, _, pr⟩ := objW_ok r h2 h.1
    exact ⟨p, dx, fs, rfl, hp, L, F, st, [x, y], _, r, .cons h2 (.cons h1 .nil), h.2, (blK k).exit r⟩
def oIxO (C : Addr) (m : Mn) : O2 c where
  r := rIxO C (SpT c m)
  w st x y Q := isO C st x ∧ callF m [x, y] st Q
  ok L F st H v u x y Qc Q r h1 h2 h k := by
    obtain ⟨p, dx, fs, ps, rfl, hp, _, pr⟩ := objW_ok r h1 h.1
    exact ⟨p, dx, fs, rfl, hp, L, F, st, [x, y], _, r, .cons h1 (.cons h2 .nil), h.2, k.exit r⟩
/-- x == y, y of the class or data -/
def rEqV (C : Addr) (sp : Sp) : R2 := fun v y H Q => rEqO C sp v y H Q ∨ rEqOD C sp v y H Q
theorem op_eqV {X : Cx} {k : Nat} {sp : Sp} {C : Addr} (O : OwnF X.prog X.w X.K X.mg X.base k C "__eq__" sp) (nk : NoKin X.K C) (hr : Room k X.A) : OpR X (compareOp .Eq) (rEqV C sp) := OpR.or (op_eqO O hr) (op_eqOD O nk hr)
def oEqO (C : Addr) (m : Mn) : O2 c where
  r := rEqV C (SpT c m)
  w st x y Q := isO C st x ∧ (isO C st y ∨ (view st y).isSome = true) ∧ callF m [x, y] st (blQ Q)
  ok L F st H v u x y Qc Q r h1 h2 h k := by
    obtain ⟨p, dx, fs, ps, rfl, hp, _, pr⟩ := objW_ok r h1 h.1
    rcases h.2.1 with hy | hy
    · obtain ⟨q, dz, gs, qs, rfl, hq, _, _⟩ := objW_ok r h2 hy
      exact .inl ⟨p, dx, fs, q, dz, gs, rfl, rfl, hp, hq, L, F, st, [x, y], _, r, .cons h1 (.cons h2 .nil), h.2.2, (blK k).exit r⟩
    · cases ev : view st y with
      | none => rw [ev] at hy; cases hy
      | some d => exact .inr ⟨p, dx, fs, [], d, rfl, hp, view_ok r h2 ev, L, F, st, [x, y], _, r, .cons h1 (.cons h2 .nil), h.2.2, (blK k).exit r⟩
def rNeV (C : Addr) (sp : Sp) : R2 := fun v y H Q => rNeO C sp v y H Q ∨ rNeOD C sp v y H Q
theorem op_neV {X : Cx} {k : Nat} {sp : Sp} {C : Addr} (O : OwnF X.prog X.w X.K X.mg X.base k C "__eq__" sp) (nk : NoKin X.K C) (hne : PySem.W.findIn X.K (.ref C) "__ne__" = some (some (.builtin "object.__ne__"))) (hm : PySem.W.mroIn X.K C (.type "object") = some true) (hr : Room (k + 1) X.A) : OpR X (compareOp .NotEq) (rNeV C sp) := OpR.or (op_neO O hne hm hr) (op_neOD O nk hne hm hr)
def oNeO (C : Addr) (m : Mn) : O2 c where
  r := rNeV C (SpT c m)
  w st x y Q := isO C st x ∧ (isO C st y ∨ (view st y).isSome = true) ∧ callF m [x, y] st (blQ fun r st' => match r with | .bl b => Q (.bl (!b)) st' | _ => False)
  ok L F st H v u x y Qc Q r h1 h2 h k := by
    obtain ⟨p, dx, fs, ps, rfl, hp, _, pr⟩ := objW_ok r h1 h.1
    rcases h.2.1 with hy | hy
    · obtain ⟨q, dz, gs, qs, rfl, hq, _, _⟩ := objW_ok r h2 hy
      exact .inl ⟨p, dx, fs, q, dz, gs, rfl, rfl, hp, hq, L, F, st, [x, y], _, r, .cons h1 (.cons h2 .nil), h.2.2, (blKn k).exit r⟩
    · cases ev : view st y with
      | none => rw [ev] at hy; cases hy
      | some d => exact .inr ⟨p, dx, fs, [], d, rfl, hp, view_ok r h2 ev, L, F, st, [x, y], _, r, .cons h1 (.cons h2 .nil), h.2.2, (blKn k).exit r⟩
/-- isinstance(x, C), C a class of one's own -/
def eIsiO (C : Addr) (ic : C8.InsC c.K C) (nk : NoKin c.K C) (e : EX c) : EX c where
  te := tCB (rIsi c.K) (tCons e.te (tCons (tC (.ref C)) tNil))
  w env st Q := e.w env st fun t st1 => (isO C st1 t ∧ Q (.bl true) st1) ∨ ((view st1 t).isSome = true ∧ Q (.bl false) st1)
  ok L F env st σ H Qc Q r s h k := e.ok L F env st σ H _ _ r s h fun v t st1 H1 L1 g1 r1 a1 h1 => by
    rcases h1 with ⟨ho, h⟩ | ⟨hv, h⟩
    · obtain ⟨p, dx, fs, ps, rfl, hp, _, pr⟩ := objW_ok r1 a1 ho
      exact ⟨.ref p, .ref C, .ref C, .ref C, true, rfl, .own C, .base (.ins hp ic.cl ic.ha ic.hn ic.htk ic.hm), ic.me, (k.go g1).here r1 (.bl _) h⟩
    · cases ev : view st1 t with
      | none => rw [ev] at hv; cases hv
      | some d => exact ⟨v, .ref C, .type (tyN d), .ref C, false, rfl, .own C, tyX_of (view_ok r1 a1 ev), nk.isi d, (k.go g1).here r1 (.bl _) h⟩
end
end Vw

/-! a class whose __iter__ returns the iterator of a list that it holds: for, list(x) -/
namespace Gd
open PySem PySem.Spec PyProof.Rows L2 ItX
/-- the promise of __iter__, of a state with n objects -/
def SpIt (C : Addr) (f : Str) (n : Nat) : Sp := fun vs H Q _ => ∃ x dx fs l ys, vs = [V.ref x] ∧ H x = some (.ins C dx fs) ∧ fs.lookup f = some (.ref l) ∧ H l = some (.lst ys) ∧ ∀ it, H it = Option.none → n ≤ it → Q (.ref it) (upd H it (ItO l it 0))
/-- a promise that may speak of how many objects there are -/
structure FnS (P : Program) (w : World) (K : PySem.W.Frag) (mg : Str → Option Value) (base : Heap) (k : Nat) (f : Addr) (fd : FuncData) (ps : List Str) (sp : Nat → Sp) : Prop where
  run : ∀ (A : Around) (outer : List Env) (s : Shared) (H : Hp) (args : Args) (us : List Value) (vs : List V) (Q : VK) (E : XK), Room k A → Env0 P w K mg base A outer s H → BindsTo s fd args (ps.zip us) → Vals vs us → vs.length = ps.length →
    sp s.heap.objs.size vs H Q E → codeAny (model P w) A (.call (.ref f) args) (CR CX0 outer P w H s Q E) s
theorem fn_ofS {P : Program} {w : World} {K : PySem.W.Frag} {mg : Str → Option Value} {base : Heap} {k : Nat}
    {f : Addr} {name qual : Str} {params : Arguments} {body : List Stmt} {scope : Scope}
    {dV kV doc pm cdv ct oc : Value} {an od : Option Addr} {osl : Array (Option Value)} {N ps : List Str} {sp : Nat → Sp}
    (lk : K.lookup f = some ⟨oc, od, .func (PySem.W.fnOf name qual params body scope dV kV doc pm an cdv ct), osl⟩)
    (hcd : PySem.W.codeIn K cdv qual = true) (S : FnScope N ps scope)
    (hbody : ∀ (A : Around) (outer : List Env) (s : Shared) (H : Hp) (vs : List V) (Q : VK) (E : XK),
      Room k (A.deeper (envOfC qual scope s.heap.objs.size f cdv)) → sp s.heap.objs.size vs H Q E →
      ∃ t, PSs (cxOf CX0 P w K mg base N qual scope f cdv A outer s H E) body t ∧
        t { nx := fun _ H' => Q .non H', rt := Q } (start N vs) H) :
    FnS P w K mg base (k + 1) f (PySem.W.fnOf name qual params body scope dV kV doc pm an cdv ct) ps sp := by
  refine ⟨fun A outer s H args us vs Q E hr e0 hb r ll hsp => ?_⟩
  have kx : K.In s.heap := e0.mod.kin.keeps fun b o e => (e0.bs b o e).1
  have nl : s.heap.NoLimit := e0.mod.nolimit.keeps fun b o e => (e0.bs b o e).1
  have kinds : ∀ y ∈ ps.zip us, scope.names.lookup y.1 = some .local ∨
      (scope.names.lookup y.1 = some .cell ∧
        ((cellsFrom (s.heap.objs.size + 1) scope.names []).lookup y.1).isSome = true) := by
    intro y hy
    obtain ⟨n, v⟩ := y
    rcases S.par n (List.of_mem_zip hy).1 with q | q
    · exact .inl q
    · exact .inr ⟨q, PySem.W.cellsFrom_some _ _ _ (.inl q)⟩
  refine codeAny_call_function hr.depth (kx _ _ lk) rfl S.co S.gen rfl
    (PySem.W.codeRec_of kx hcd) (hb _ _ _ _ ?_)
  refine wpAny_newFunctionEnv_cells S.kind kinds fun env ee s1 z => ?_
  cases ee
  refine ⟨nl.keeps z.toInCall.keep, codeAny_func ?_⟩
  obtain ⟨t, ht, hq⟩ := hbody A outer s H vs Q E (hr.deeper _) hsp
  have J0 : Inv (cxOf CX0 P w K mg base N qual scope f cdv A outer s H E) [] (start N vs) H s1 :=
    inv_start S hr.hd e0 ll r z
  refine wpAny_mono (ht.run [] s1 (start N vs) H _ J0 hq) (fun fl s2 hs => ?_) fun e s2 hs => hs
  match fl, hs with
  | .ret u, ⟨v, σ', H', J, rv, q⟩ => exact ⟨v, H', J.os, J.bare, J.base, J.hok, rv, q⟩
  | .next, ⟨σ', H', J, q⟩ => exact ⟨V.non, H', J.os, J.bare, J.base, J.hok, rfl, q⟩
  | .brk, ⟨_, _, _, q⟩ => exact False.elim q
  | .cont, ⟨_, _, _, q⟩ => exact False.elim q
/-- __iter__ of a class -/
def OwnI (P : Program) (w : World) (K : PySem.W.Frag) (mg : Str → Option Value) (base : Heap) (k : Nat) (C : Addr) (f : Str) : Prop :=
  ∃ (fa : Addr) (fd : FuncData), PySem.W.findIn K (.ref C) "__iter__" = some (some (.ref fa)) ∧ PySem.W.isFn K (.ref fa) = true ∧ Binds K fd ["self"] [] ∧ FnS P w K mg base k fa fd ["self"] (SpIt C f)
section
variable {X : Cx} {pins : List (Addr × Obj)} {σ : L2.St} {H : Hp} {s : Shared} {k : Nat} {sp : Sp} {C : Addr} {fn : Str}
/-- __iter__ runs -/
theorem own_iter {A : Around} {x dx l : Addr} {fs : List (Str × V)} {ys : List V} {Q : Value → Shared → Prop} (O : OwnI X.prog X.w X.K X.mg X.base k C fn) (hr : Room k A) (e0 : Env0 X.prog X.w X.K X.mg X.base A X.stack s H) (I : Inv X pins σ H s) (hx : H x = some (.ins C dx fs))
    (lk : fs.lookup fn = some (.ref l)) (hl : H l = some (.lst ys))
    (q : ∀ it s2, Inv X pins σ H s2 → FpOk X pins H it → s2.heap.get? it = some (GNX.itObj l 0) → Q (.ref it) s2) : wpAny (model X.prog X.w) A (pyIter (.ref x)) Q X.xe s := by
  obtain ⟨f, fd, h1, h2, hb, F⟩ := O
  obtain ⟨mA, J, _⟩ := ins_get I.hok hx
  obtain ⟨od, J, _⟩ := J.look
  obtain ⟨m, hF⟩ := I.fr
  refine PySem.W.owit_iter hF I.ok.mod.kin J h1 h2 ?_
  refine wpAny_call (codeAny_mono (F.run A X.stack s H ⟨[.ref x], []⟩ [.ref x] [.ref x] (fun v H' => ∃ it, v = .ref it ∧ H it = Option.none ∧ s.heap.objs.size ≤ it ∧ H' = upd H it (ItO l it 0)) E0 hr e0 (by
    have := hb s [.ref x] I.kIn rfl
    simpa using this) (.cons rfl .nil) rfl ⟨x, dx, fs, l, ys, rfl, hx, lk, hl, fun it hn young => ⟨it, rfl, hn, young, rfl⟩⟩) fun res s' hq => ?_)
  match res, hq with
  | .error e, hq => exact (pass0 pins σ H s e s' I hq)
  | .ok .next, hq => exact False.elim hq
  | .ok .brk, hq => exact False.elim hq
  | .ok .cont, hq => exact False.elim hq
  | .ok (.ret u), hq =>
    obtain ⟨v, H2, I2, rv, it, ev, hn, young, eH⟩ := I.after hq
    subst ev
    subst eH
    cases rv
    have hi : upd H it (ItO l it 0) it = some (ItO l it 0) := upd_same
    have I3 := inv_drop I2 (show upd H it (ItO l it 0) it = some (.ext _) from hi)
    have fp := inv_fp I2 hi (Nat.le_trans I.sz young)
    rw [dropH_upd hn] at I3 fp
    have go := itO_get I2 hi
    unfold PySem.W.OwitIt
    have hT : s'.TypeIs (.ref it) "list_iterator" := ⟨_, go, rfl⟩
    exact wpAny_specialOf (name := Str.ofString "__next__") hT slot_listiter_next.lookup (q it s' I3 fp go)
theorem own_runE {A : Around} {f : Addr} {fd : FuncData} {ps : List Str} {Q : VK} {us : List Value} {vs : List V} {E' : Value → Shared → Prop} (F : FnOk X.prog X.w X.K X.mg X.base CX0 k f fd ps sp) (hb : Binds X.K fd ps []) (hr : Room k A) (e0 : Env0 X.prog X.w X.K X.mg X.base A X.stack s H)
    (I : Inv X pins σ H s) (r : Vals vs us) (h : sp vs H Q E0) : wpAny (model X.prog X.w) A (call (.ref f) us) (EP X pins σ Q) E' s := by
  have ll : us.length = ps.length := by
    have := F.len _ _ _ _ h
    rw [← r.length]
    exact this
  refine wpAny_call (codeAny_mono (F.run A X.stack s H ⟨us, []⟩ us vs Q E0 hr e0 (by
    have := hb s us I.kIn (by simpa using ll)
    simpa using this) r h) fun res s' hq => ?_)
  match res, hq with
  | .error e, hq => exact (show False from hq).elim
  | .ok (.ret u), hq => exact I.after hq
  | .ok .next, hq => exact False.elim hq
  | .ok .brk, hq => exact False.elim hq
  | .ok .cont, hq => exact False.elim hq
/-- for x in o -/
def iOwn (K : PySem.W.Frag) (C : Addr) (f : Str) (te : TE) : TI := fun σ H R => te σ H fun v H1 => ∃ x dx fs l ys, v = .ref x ∧ H1 x = some (.ins C dx fs) ∧ fs.lookup f = some (.ref l) ∧ H1 l = some (.lst ys) ∧ R (Itl K l) H1
theorem pi_own {tg e : Expr} {te : TE} (O : OwnI X.prog X.w X.K X.mg X.base k C fn) (hr : Room k X.A) (he : PE X e te) : PI X tg e (iOwn X.K C fn te) := by
  refine ⟨fun pins s σ H R I h => ?_⟩
  refine thn (he.run pins s σ H _ I h) fun v s1 ⟨x, H1, I1, r1, a, dx, fs, l, ys, ev, hx, lk, hl, q⟩ => ?_
  subst ev
  cases r1
  refine own_iter O hr I1.env0 I1 hx lk hl fun it s2 I2 fp go => ?_
  refine ⟨it, [it], _, _, H1, rfl, I2, turn_list l it, ⟨_, go, rfl, rfl⟩, fun b hb => ?_, q⟩
  have e : b = it := by simpa using hb
  rw [e]
  exact fp
/-- list(o) -/
def rListI (C : Addr) (f : Str) (spL : Sp) : List V → Hp → VK → Prop := fun xs H Q => ∃ x dx fs l ys, xs = [V.ref x] ∧ H x = some (.ins C dx fs) ∧ fs.lookup f = some (.ref l) ∧ H l = some (.lst ys) ∧ ∀ q, H q = Option.none →
  spL [.ref x] (upd H q (.lst [])) (fun v H3 => ∃ n : Int, v = .int n ∧ 0 ≤ n ∧ n < 16777216 ∧ H3 q = some (.lst []) ∧ H3 l = some (.lst ys) ∧ Q (.ref q) (upd H3 q (.lst ys))) E0
theorem ext_loop {A1 : Around} {q it l : Addr} {ys : List V} {Hb : Hp} {Rs : Result → Shared → Prop} (hh : A1.in1.handled = Option.none) (hne : q ≠ it) (hlq : l ≠ q)
    (hdone : ∀ s2, Inv X pins σ (upd Hb q (.lst ys)) s2 → Rs (.ok (.ret .none)) s2) (fp0 : ∀ xs, FpOk X pins (upd Hb q (.lst xs)) it) (hl : Hb l = some (.lst ys)) (hz : ys.length ≤ sizeLine) : ∀ (m i : Nat) (s : Shared), m = ys.length - i → i ≤ ys.length →
    Inv X pins σ (upd Hb q (.lst (ys.take i))) s → s.heap.IsListIter it l i → codeAny (model X.prog X.w) A1 (.builtin "list.extend.loop" ⟨[.ref q, .ref it, .none], []⟩) Rs s := by
  intro m
  induction m with
  | zero =>
    intro i s em hi I st
    have ei : i = ys.length := by omega
    subst ei
    have hl2 : upd Hb q (.lst (ys.take ys.length)) l = some (.lst ys) := by rw [upd_ne hlq]; exact hl
    obtain ⟨its, rv, p, _⟩ := I.list (.inl (.inl hl2))
    obtain ⟨f0, f1, f2, f3, f4, f5⟩ := fp0 (ys.take ys.length)
    refine codeAny_builtin PySem.F.entry_extend_loop ?_
    rw [Around.under_plainId PySem.F.plain_extend_loop _]
    show wpAny _ A1.in1 (pyNext (.ref it) >>= _) _ _ s
    have ll := rv.length
    refine wpAny_bind (wpAny_pyNext_list_end hh st p.isList (by simp; omega) fun h' eb => ?_)
    have I2 := I.turned (t' := s.toks) (fun b o hb e => eb b o hb e) f0 f1 f3 f4 f5
    rw [List.take_length] at I2
    exact wpAny_pure (hdone _ I2)
  | succ m ih =>
    intro i s em hi I st
    have lt : i < ys.length := by omega
    have hl2 : upd Hb q (.lst (ys.take i)) l = some (.lst ys) := by rw [upd_ne hlq]; exact hl
    obtain ⟨its, rv, p, _⟩ := I.list (.inl (.inl hl2))
    obtain ⟨f0, f1, f2, f3, f4, f5⟩ := fp0 (ys.take i)
    obtain ⟨u, hu, ru⟩ := rv.get (List.getElem?_eq_getElem lt)
    refine codeAny_builtin PySem.F.entry_extend_loop ?_
    rw [Around.under_plainId PySem.F.plain_extend_loop _]
    show wpAny _ A1.in1 (pyNext (.ref it) >>= _) _ _ s
    refine wpAny_bind (wpAny_pyNext_list_item st p.isList (x := u) (by simpa using hu) fun h' st' sb => ?_)
    have I1 : Inv X pins σ (upd Hb q (.lst (ys.take i))) { s with heap := h' } := I.turned (t' := s.toks) (fun b o hb e => (sb.2 b hb).trans e) f0 f1 f3 f4 f5
    show wpAny _ A1.in1 (updateSeq q (·.push u) >>= _) _ _ _
    obtain ⟨z, its2, k2, r2, hl3, e⟩ := I1.lstM upd_same
    refine wpAny_bind (wpAny_updateSeq e rfl (wpAny_pure ⟨plainId_quiet PySem.F.plain_extend_loop _, ?_⟩) (by rw [List.size_toArray]; rw [List.length_take] at hl3; omega) (by show (its2.toArray.push u).size ≤ sizeLine + 1; rw [Array.size_push, List.size_toArray]; rw [List.length_take] at hl3; omega))
    have I2 := I1.lset (its' := its2 ++ [u]) (ys := ys.take i ++ [ys[i]]) (f := (·.push u)) (t' := s.toks) upd_same e (by simp) (r2.append (.cons ru .nil)) (by rw [List.length_append, List.length_take, List.length_singleton]; omega)
    rw [upd_upd] at I2
    have et : ys.take i ++ [ys[i]] = ys.take (i + 1) := by rw [List.take_succ, List.getElem?_eq_getElem lt]; rfl
    rw [et] at I2
    refine ih (i + 1) _ (by omega) lt I2 ?_
    obtain ⟨o, e1, e2, e3⟩ := st'
    refine ⟨o, ?_, e2, e3⟩
    show (Heap.update h' q _).get? it = some o
    rw [Heap.get?_update_ne _ _ _ _ (Ne.symm hne)]
    exact e1
theorem call_listI (O : OwnI X.prog X.w X.K X.mg X.base k C fn) (OL : OwnF X.prog X.w X.K X.mg X.base k C "__len__" sp) (hcalm : X.calm = true) (hr : Room (k + 4) X.A) : CallR X (.type "list") (rListI C fn sp) := by
  intro pins s σ H xs us Q I rv h
  obtain ⟨x, dx, fs, l, ys, rfl, hx, lk, hl, hq⟩ := h
  obtain ⟨u, rfl, ru⟩ := rv.one
  cases ru
  have sb : Sub X (k + 2) X.A.in1.in1 := (Sub.in1 (Sub.in1 (⟨hr, rfl⟩ : Sub X (k + 4) X.A)))
  refine callType_codes (Q₁ := fun obj s₁ => obj = .ref s.heap.objs.size ∧ s₁ = { s with heap := s.heap.push { cls := .type "list", data := .seq #[] } }) PySem.F.called_list (PySem.F.typeCall_list_1 _) PySem.F.entry_list_init
    (code_list_new _ ⟨rfl, rfl⟩) fun obj s₁ h₁ => ?_
  obtain ⟨rfl, rfl⟩ := h₁
  generalize eq : s.heap.objs.size = q
  have hS : (s.heap.push { cls := .type "list", data := .seq #[] }).get? q = some { cls := .type "list", data := .seq #[] } := by rw [← eq]; exact Heap.get?_push_size _ rfl
  refine ⟨⟨_, hS, rfl⟩, PySem.F.args_list_init_2 _ _, ?_⟩
  have fr : H q = none := by rw [← eq]; exact I.hok.fresh (Nat.le_refl _)
  have hrun := hq _ fr
  have I1 : Inv X pins σ (upd H q (.lst [])) { s with heap := s.heap.push { cls := .type "list", data := .seq #[] } } := by rw [← eq]; exact I.lnew (its := []) (t' := s.toks) .nil (Nat.zero_le _)
  show wpAny _ _ (do let old ← Builtin.List.listItems (.ref q); Builtin.List.listUpdate (.ref q) (fun _ => #[]); letGo old.toList.reverse; Builtin.List.listExtendWith (.ref q) (.ref x) .none) _ _ _
  refine wpAny_bind ?_
  unfold Builtin.List.listItems
  refine wpAny_bind (wpAny_seqItems hS rfl (wpAny_pure ?_))
  show wpAny _ _ (updateSeq q (fun _ => #[]) >>= fun _ => letGo (#[] : Array Value).toList.reverse >>= fun _ => Builtin.List.listExtendWith (.ref q) (.ref x) .none) _ _ _
  refine wpAny_bind (wpAny_updateSeq hS rfl ?_)
  have I2 := I1.lset (f := fun _ => #[]) (its := []) (its' := []) (ys := []) (t' := s.toks) upd_same hS rfl .nil (Nat.zero_le _)
  rw [upd_upd] at I2
  refine wpAny_bind (wpAny_letGo ?_)
  have qx : q ≠ x := Ne.symm (ne_of_none hx fr)
  have ql : l ≠ q := ne_of_none hl fr
  have hx2 : upd H q (.lst []) x = some (.ins C dx fs) := by rw [upd_ne (Ne.symm qx)]; exact hx
  have hl2 : upd H q (.lst []) l = some (.lst ys) := by rw [upd_ne ql]; exact hl
  obtain ⟨mA, J, _⟩ := ins_get I2.hok hx2
  obtain ⟨od, J, _⟩ := J.look
  unfold Builtin.List.listExtendWith
  refine wpAny_bind (J.type.here ?_)
  have h1 : Builtin.List.listSameRef (.ref q) (.ref x) = false := by simp [Builtin.List.listSameRef, qx]
  have h2 : (Value.ref C == Value.type "list") = false := rfl
  have h3 : (Value.ref C == Value.type "tuple") = false := rfl
  simp only [h1, h2, h3, Bool.or_false, Bool.false_eq_true, if_false]
  have e0 : ∀ {H' : Hp} {s' : Shared}, Inv X pins σ H' s' → Env0 X.prog X.w X.K X.mg X.base X.A.in1.in1 X.stack s' H' := fun I' => by
    have e := I'.env0
    exact ⟨by rw [sb.fr]; exact e.frames, e.mod, e.bs, e.bsz, e.funs, e.frf, e.hok, e.bare⟩
  refine wpAny_bind (own_iter O (sb.room.mono (by omega)) (e0 I2) I2 hx2 lk hl2 fun it s2 I3 fp go => ?_)
  have Ip := I3.pinned (fp := [it]) (fun b m => by have e : b = it := by simpa using m
                                                   rw [e]; exact fp) (fun b m => by have e : b = it := by simpa using m
                                                                                    rw [e]; exact ⟨_, go, fun v z => by cases z⟩)
  have pinIt : ∀ {H' : Hp} {s' : Shared}, Inv X (pins ++ pinsAt [it] s2.heap) σ H' s' → s'.heap.get? it = some (GNX.itObj l 0) ∧ H' it = Option.none := fun I' => by
    have := I'.pin (it, GNX.itObj l 0) (List.mem_append_right _ (List.mem_append_right _ (mem_pinsAt (by simp) go)))
    exact ⟨this.1, this.2.1⟩
  have e0' : ∀ {H' : Hp} {s' : Shared}, Inv X (pins ++ pinsAt [it] s2.heap) σ H' s' → Env0 X.prog X.w X.K X.mg X.base X.A.in1.in1 X.stack s' H' := fun I' => by
    have e := I'.env0
    exact ⟨by rw [sb.fr]; exact e.frames, e.mod, e.bs, e.bsz, e.funs, e.frf, e.hok, e.bare⟩
  have neq : q ≠ it := fun z => by have := fp.1; rw [← z, upd_same] at this; cases this
  obtain ⟨f, fd, ps, g1, g2, hb, F⟩ := OL
  obtain ⟨mA', J', _⟩ := ins_get Ip.hok hx2
  obtain ⟨od', J', _⟩ := J'.look
  obtain ⟨m', hF'⟩ := Ip.fr
  refine wpAny_bind (wpAny_holding ?_)
  unfold Builtin.List.listLengthHint
  refine wpAny_bind (wpAny_bind (J'.type.here ((PySem.W.looks_findIn Ip.kIn g1).here ?_)))
  refine PySem.W.KFB.if_not rfl ?_
  refine PySem.W.KFB.if_so rfl ?_
  refine wpAny_bind (wpAny_rule ?_)
  have lenc : wpAny (model X.prog X.w) X.A.in1.in1 (call (.builtin "len") [.ref x]) (fun v s' => ∃ (n : Int) (t : Tok) (H3 : Hp), v = .int n t ∧ 0 ≤ n ∧ n < 16777216 ∧ Inv X (pins ++ pinsAt [it] s2.heap) σ H3 s' ∧ H3 q = some (.lst []) ∧ H3 l = some (.lst ys) ∧ Q (.ref q) (upd H3 q (.lst ys))) (fun _ _ => False) s2 := by
    refine PySem.W.len_K hF' Ip.ok.mod.kin J' g1 g2 (wpAny_mono (own_runE (us := [.ref x]) (vs := [.ref x]) F hb (sb.room.in1.mono (by omega)) (e0' Ip).in1 Ip (.cons rfl .nil) hrun) (fun v s' z => ?_) fun _ _ z => z)
    obtain ⟨v', H', I', rv', n, e, n0, n1, b1, b2, qn⟩ := z
    subst e
    obtain ⟨t, rfl⟩ := rv'
    exact ⟨⟨n0, by omega⟩, n, _, H', rfl, n0, n1, I'.tok _, b1, b2, qn⟩
  refine wpAny_bind (wpAny_attempt (wpAny_mono lenc (fun v s3 hv => ?_) fun e s3 he => ?_))
  · obtain ⟨n, t, H3, rfl, n0, n1, I4, b1, b2, qn⟩ := hv
    refine wpAny_bind (m := asInt? _) (wpAny_pure ?_)
    dsimp only
    have nl : Builtin.List.listTooLong n.toNat = false := by
      unfold Builtin.List.listTooLong
      simp [sizeLine_eq]
      omega
    refine PySem.W.KFB.if_not nl ?_
    refine wpAny_pure ?_
    obtain ⟨p1, p2⟩ := pinIt I4
    have b1' : upd H3 q (.lst []) = H3 := by
      funext b
      by_cases hb : b = q
      · rw [hb, upd_same, b1]
      · rw [upd_ne hb]
    have I4' : Inv X pins σ H3 s3 := I4.unpinned
    have st4 : s3.heap.IsListIter it l 0 := ⟨_, p1, rfl, rfl⟩
    have z4 := (I4'.list (.inl (.inl b2))).choose_spec.2.2
    have I5 : Inv X pins σ (upd H3 q (.lst (ys.take 0))) s3 := by
      rw [show ys.take 0 = [] from rfl, b1']
      exact I4'
    refine wpAny_ite_split (fun _ => ?_) (fun _ => wpAny_pure ⟨plainId_quiet PySem.F.plain_extend_loop _, ext_loop (A1 := X.A.in1) (Hb := H3) (hh := I.ok.hd hcalm) neq ql (fun s6 I6 => ⟨rfl, .ref q, _, I6, rfl, qn⟩) (fun xs => ⟨by rw [upd_ne (Ne.symm neq)]; exact p2, fp.2⟩) b2 z4 ys.length 0 s3 (by omega) (Nat.zero_le _) I5 st4⟩)
    refine wpAny_bind (wpAny_rule ?_)
    refine wpAny_bind ?_
    show wpAny _ _ (updateSeq q (·.push .none) >>= fun _ => updateSeq q (·.pop)) _ _ _
    obtain ⟨z, its, k3, r3, hl3, e3⟩ := I4'.lstM b1
    cases r3
    refine wpAny_bind (wpAny_updateSeq e3 rfl ?_)
    have I6 := I4'.lset (f := (·.push Value.none)) (its' := [Value.none]) (ys := [.non]) (t' := s3.toks) b1 e3 (by simp) (.cons rfl .nil) (by rw [List.length_singleton, sizeLine_eq]; decide)
    obtain ⟨z5, its4, k4, r4, hl4, e4⟩ := I6.lstM upd_same
    obtain ⟨u4, rfl, ru4⟩ := r4.one
    refine wpAny_updateSeq e4 rfl ?_ (by show 1 ≤ sizeLine; rw [sizeLine_eq]; decide) (by show 0 ≤ sizeLine + 1; exact Nat.zero_le _)
    have I7 := I6.lset (f := (·.pop)) (its := [u4]) (its' := []) (ys := []) (t' := s3.toks) upd_same e4 (by rfl) .nil (Nat.zero_le _)
    rw [upd_upd] at I7
    refine wpAny_pure ⟨plainId_quiet PySem.F.plain_extend_loop _, ext_loop (A1 := X.A.in1) (Hb := H3) (hh := I.ok.hd hcalm) neq ql (fun s6 I6 => ⟨rfl, .ref q, _, I6, rfl, qn⟩) (fun xs => ⟨by rw [upd_ne (Ne.symm neq)]; exact p2, fp.2⟩) b2 z4 ys.length 0 _ (by omega) (Nat.zero_le _) I7 ?_⟩
    obtain ⟨o, e1, e2, e5⟩ := st4
    refine ⟨o, ?_, e2, e5⟩
    show (Heap.update (Heap.update s3.heap q _) q _).get? it = some o
    rw [Heap.get?_update_ne _ _ _ _ (Ne.symm neq), Heap.get?_update_ne _ _ _ _ (Ne.symm neq)]
    exact e1
  · exact he.elim
end
end Gd

/-! results kept as cells; own iteration; dicts made of pairs -/
namespace Vw
open PySem PySem.Spec PyProof.Rows L2 Gd
section
variable {c : Cf} {L L' M : Ls} {F : List Addr} {H H' H2 : Hp} {st st' : Stt} {A : Addr}
/-- the barred object becomes a cell -/
theorem Mv.adopt : Mv (fun _ => true) L (A :: F) H (L ++ [some A]) F H :=
  ⟨fun b u n e => ⟨fun z => n (z.elim (fun m => .inl (List.mem_cons_of_mem _ m)) fun m => (List.mem_append.mp m).elim .inr fun m => .inl (by
    have : b = A := by simpa using m
    rw [this]; exact List.mem_cons_self)), e⟩, fun n a _ e => by
      rw [List.getElem?_append_left (List.getElem?_eq_some_iff.mp e).1]
      exact e⟩
theorem Rl.adopt (r : Rl c L (A :: F) st H) {x : Cell} (nF : A ∉ F) (ok : CellOk c (L ++ [some A]) F H A x) (low : x.under st.length = true) : Rl c (L ++ [some A]) F (st ++ [x]) H := by
  have nl : some A ∉ L := r.dis A List.mem_cons_self
  refine ⟨by simp [r.len], fun n b y e1 e2 => ?_, fun n y e => ?_, fun n e => ?_, fun i j b e1 e2 => ?_, fun p m => r.trF p (List.mem_cons_of_mem _ m), fun p m z => ?_⟩
  · rcases get_snoc_cases e1 with e1 | ⟨en, e1⟩
    · have l := (List.getElem?_eq_some_iff.mp e1).1
      rw [r.len] at l
      rw [List.getElem?_append_left l] at e2
      exact (r.cell n b y e1 e2).mv (p := fun _ => true) Mv.adopt y.refs_all rfl
    · cases e1
      subst en
      rw [r.len, get_snoc] at e2
      cases e2
      exact ok
  · rcases get_snoc_cases e with e | ⟨en, e⟩
    · exact r.low n y e
    · subst e
      subst en
      exact low
  · rcases get_snoc_cases e with e | ⟨en, e⟩
    · have l := (List.getElem?_eq_some_iff.mp e).1
      rw [r.len] at l
      rw [List.getElem?_append_left l]
      exact r.gone n e
    · cases e
  · rcases get_snoc_cases e1 with e1 | ⟨en1, e1⟩
    · rcases get_snoc_cases e2 with e2 | ⟨en2, e2⟩
      · exact r.nodup i j b e1 e2
      · cases e2
        exact absurd (List.mem_of_getElem? e1) nl
    · cases e1
      rcases get_snoc_cases e2 with e2 | ⟨en2, e2⟩
      · exact absurd (List.mem_of_getElem? e2) nl
      · rw [en1, en2]
  · rcases List.mem_append.mp z with z | z
    · exact r.dis p (List.mem_cons_of_mem _ m) z
    · have e : p = A := by simpa using z
      exact nF (e ▸ m)
theorem Go.adopt (h : H A = none) (g : Gb A L H L' H') : Go L H (L' ++ [some A]) H' where
  gr := fun p u n e => g.gr p u (ne_of_none e h) n e
  keep := g.keep
  len := by rw [List.length_append]; exact Nat.le_trans g.len (Nat.le_add_right _ _)
  old := fun n b l e => g.old n b l (by
    rw [List.getElem?_append_left (Nat.lt_of_lt_of_le l g.len)] at e; exact e)
  new := fun n b l e => by
    rcases get_snoc_cases e with e | ⟨_, e⟩
    · exact (g.new n b l e).1
    · cases e; exact h
  stay := fun n b e => by
    have := g.stay n b e
    rw [List.getElem?_append_left (List.getElem?_eq_some_iff.mp this).1]
    exact this
end
section
variable {c : Cf}
/-- [..] that will be changed -/
def eLcC (i : IX c) (x : GX c) (t : TX c) (e : EX c) : EX c where
  te := tLc i.wi x.g t.tt e.te x.vs
  w env st Q := i.w env st fun ts pin st1 => lcW x.w t.w e.w (wipeE env x.vs) pin ts [] st1 fun out st2 => refsInL (fun m => decide (m < st2.length)) out = true ∧ Q (.ref st2.length) (st2 ++ [.lst out])
  ok L F env st σ H Qc Q r s h k := by
    refine i.ok L F env st σ H _ _ r s h fun J ts pin st1 H1 L1 g1 r1 zt h1 j1 => ?_
    intro A nA
    have hA : some A ∉ L1 := fun m => r1.trL m nA
    have hF : A ∉ F := fun m => (r1.trF A m).1 nA
    have rb := r1.bar (o := .lst []) nA
    have gf : Gb A L1 H1 L1 (upd H1 A (.lst [])) := Gb.first nA
    have s1 : Se c L1 (A :: F) (upd H1 A (.lst [])) σ env := (s.go g1).mv (gf.mv0 hA nA)
    have j : JOk c L1 (A :: F) (upd H1 A (.lst [])) J ts pin := fun M F2 st2 H2 i g r pn => j1 M F2 st2 H2 i ⟨fun a u n e => by
      have ne : a ≠ A := ne_of_none e nA
      exact g.fr a u (fun b => b.elim (fun m => (List.mem_cons.mp m).elim ne fun m => n (.inl m)) fun m => n (.inr m)) (by rw [upd_ne ne]; exact e), g.st⟩ r pn
    exact lc_loop (acc := []) (out := []) rb s1 upd_same .nil (by simpa using zt) j h1 fun M' H' st' acc out g r e a z h => k _ (.ref st'.length) _ H' (M' ++ [some A]) (g1.trans (Go.adopt nA (gf.trans g))) (r.adopt (x := .lst out) hF ⟨acc, e, a.mv Mv.adopt (refsL_all _), by simp at z; omega⟩ h.1) (.ref (by rw [← r.len]; exact get_snoc)) h.2
/-! a call whose result is a cell of the callee's: kept as the next cell -/
def keepF (n0 : Nat) (st' : Stt) (t : T) (Q : T → Stt → Prop) : Prop := match t with
  | .ref n => if n < n0 then Q (.ref n) (st'.take n0) else match st'[n]? with
    | some x => (match x with | .gone => False | _ => True) ∧ x.under n0 = true ∧ Q (.ref n0) (st'.take n0 ++ [x])
    | none => False
  | t => t.under n0 = true ∧ Q t (st'.take n0)
theorem Rl.pick {L : Ls} {F : List Addr} {st : Stt} {H : Hp} (r : Rl c L F st H) {n n0 : Nat} {b : Addr} {x : Cell} (ln : n0 ≤ n) (l0 : n0 ≤ L.length) (e : L[n]? = some (some b)) (ex : st[n]? = some x) (low : x.under n0 = true) :
    Rl c (L.take n0 ++ [some b]) F (st.take n0 ++ [x]) H := by
  have rc := r.cut n0
  have tl : (L.take n0).length = n0 := by rw [List.length_take]; omega
  have nb : ∀ i, i < n0 → L[i]? ≠ some (some b) := fun i l e1 => by
    have := r.nodup i n b e1 e
    omega
  have mv : Mv (fun m => decide (m < n0)) L F H (L.take n0 ++ [some b]) F H := ⟨fun a u na h => ⟨fun z => na (z.imp id fun m => (List.mem_append.mp m).elim List.mem_of_mem_take fun m => by
    have : a = b := by simpa using m
    rw [this]; exact List.mem_of_getElem? e), h⟩, fun i a p h => by
      have l := of_decide_eq_true p
      rw [List.getElem?_append_left (by rw [tl]; exact l)]
      exact take_of l h⟩
  refine ⟨by simp [rc.len], fun i a y e1 e2 => ?_, fun i y e2 => ?_, fun i e1 => ?_, fun i j a e1 e2 => ?_, r.trF, fun p m z => ?_⟩
  · rcases get_snoc_cases e1 with e1 | ⟨en, e1⟩
    · obtain ⟨l, e1⟩ := take_get e1
      rw [List.getElem?_append_left (by rw [← rc.len, tl]; exact l)] at e2
      obtain ⟨_, e2⟩ := take_get e2
      have low' := r.low i y e2
      refine (r.cell i a y e1 e2).mv mv ?_ rfl
      cases y with
      | lst xs => exact refsInL_mono (fun m h => by have := of_decide_eq_true h; exact decide_eq_true (by omega)) _ low'
      | dct xs => exact refsInK_mono (fun m h => by have := of_decide_eq_true h; exact decide_eq_true (by omega)) _ low'
      | dtt xs => exact refsInT_mono (fun m h => by have := of_decide_eq_true h; exact decide_eq_true (by omega)) _ low'
      | obj C xs => exact refsInF_mono (fun m h => by have := of_decide_eq_true h; exact decide_eq_true (by omega)) _ low'
      | gone => rfl
    · cases e1
      subst en
      rw [rc.len, get_snoc] at e2
      cases e2
      exact (r.cell n b x e ex).mv mv low rfl
  · rcases get_snoc_cases e2 with e2 | ⟨en, e2⟩
    · exact r.low i y (take_get e2).2
    · subst e2
      subst en
      rw [← rc.len, tl]
      exact low
  · rcases get_snoc_cases e1 with e1 | ⟨en, e1⟩
    · obtain ⟨l, e1⟩ := take_get e1
      rw [List.getElem?_append_left (by rw [← rc.len, tl]; exact l)]
      exact take_of l (r.gone i e1)
    · cases e1
  · rcases get_snoc_cases e1 with e1 | ⟨en1, e1⟩
    · rcases get_snoc_cases e2 with e2 | ⟨en2, e2⟩
      · exact r.nodup i j a (take_get e1).2 (take_get e2).2
      · cases e2
        exact absurd (take_get e1).2 (nb i (take_get e1).1)
    · cases e1
      rcases get_snoc_cases e2 with e2 | ⟨en2, e2⟩
      · exact absurd (take_get e2).2 (nb j (take_get e2).1)
      · rw [en1, en2]
  · rcases List.mem_append.mp z with z | z
    · exact r.dis p m (List.mem_of_mem_take z)
    · have : p = b := by simpa using z
      rw [this] at m
      exact r.dis b m (List.mem_of_getElem? e)
theorem KE.keep {L : Ls} {F : List Addr} {st : Stt} {H : Hp} {Qc : VK} {Q : T → Stt → Prop} (r : Rl c L F st H) (k : KE c L F H Qc Q) : KE c L F H Qc fun t st' => keepF st.length st' t Q :=
  fun v t st' H' L' g r' a h => by
    have plain : exitF st.length st' t (fun t' => Q t' (st'.take st.length)) → Qc v H' := fun h => by
      rw [← r.len] at h
      obtain ⟨t', a', q⟩ := exit_ok L.length r' a h
      exact k v t' _ H' _ g.cut (r'.cut _) a' q
    cases a with
    | @ref n b e =>
      by_cases l : n < st.length
      · simp only [keepF, if_pos l] at h
        exact plain (by simpa only [exitF, if_pos l] using h)
      · simp only [keepF, if_neg l] at h
        cases q : st'[n]? with
        | none => simp [q] at h
        | some x =>
          simp only [q] at h
          obtain ⟨_, lo, h⟩ := h
          rw [← r.len] at lo h
          have ll : ¬ n < L.length := by rw [r.len]; exact l
          have tl : (L'.take L.length).length = L.length := by rw [List.length_take]; have := g.len; omega
          have go : Go L H (L'.take L.length ++ [some b]) H' := {
            gr := g.gr
            keep := g.keep
            len := by rw [List.length_append, tl]; exact Nat.le_add_right _ _
            old := fun i a l e1 => by rw [List.getElem?_append_left (by rw [tl]; exact l)] at e1; exact g.old i a l (take_get e1).2
            new := fun i a l e1 => by
              rcases get_snoc_cases e1 with e1 | ⟨_, e1⟩
              · exact absurd (take_get e1).1 (by omega)
              · cases e1; exact g.new n b (by omega) e
            stay := fun i a e1 => by
              have l1 := (List.getElem?_eq_some_iff.mp e1).1
              rw [List.getElem?_append_left (by rw [tl]; exact l1)]
              exact take_of l1 (g.stay i a e1) }
          refine k _ (.ref L.length) _ H' _ go (r'.pick (by omega) g.len e q lo) (.ref ?_) h
          have e2 := get_snoc (xs := L'.take L.length) (x := some b)
          rw [tl] at e2
          exact e2
    | non => exact plain h
    | bl b => exact plain h
    | int b => exact plain h
    | str b => exact plain h
    | lst a1 a2 a3 a4 => exact plain h
    | tup a1 a2 a3 a4 => exact plain h
    | emp a1 => exact plain h
    | scrF _ _ _ => exact plain h
    | scrK _ _ => exact plain h
    | dK a1 a2 a3 a4 a5 => exact plain h
    | dT a1 a2 a3 a4 a5 => exact plain h
    | set a1 a2 a3 => exact plain h
    | obj a1 a2 a3 a4 => exact plain h
def callT (m : Mn) : Mn := fun ts st Q => m ts st fun t st' => keepF st.length st' t Q
/-- f(..), its result a cell -/
def eClT (m : Mn) (dvs : List V) (ds : List T) (hd : ∀ L F H, Tas c L F H dvs ds) (E : XK) (a : AX c) : EX c where
  te := tCall (SpT c m) dvs E a.ta
  w env st Q := a.w env st fun ts st1 => callT m (ts ++ ds) st1 Q
  ok L F env st σ H Qc Q r s h k := a.ok L F env st σ H _ _ r s h fun vs ts st1 H1 L1 g1 r1 a1 h1 =>
    ⟨L1, F, st1, ts ++ ds, _, r1, a1.app (hd _ _ _), h1, (k.go g1).keep r1⟩
abbrev eC0T (m : Mn) (a : AX c) : EX c := eClT m [] [] (fun _ _ _ => .nil) C8.E0 a
/-- o.m(..), its result a cell -/
def eMtT (C : Addr) (n : Str) (m : Mn) (o : EX c) (a : AX c) : EX c where
  te := tMeth C n (SpT c m) [] C8.E0 o.te a.ta
  w env st Q := o.w env st fun t st1 => (objW C st1 t fun fs => fs.lookup n = none) ∧ a.w env st1 fun ts st2 => callT m (t :: ts) st2 Q
  ok L F env st σ H Qc Q r s h k := o.ok L F env st σ H _ _ r s h fun v t st1 H1 L1 g1 r1 a1 ⟨h0, h1⟩ => by
    obtain ⟨x, dx, fs, ps, rfl, hp, h, pr⟩ := objW_ok r1 a1 h0
    have lk : fs.lookup n = none := by
      rcases pr.look (f := n) with ⟨e1, _⟩ | ⟨w, t, _, e2, _⟩
      · exact e1
      · rw [e2] at h; cases h
    refine ⟨x, dx, fs, rfl, hp, lk, a.ok L1 F env st1 σ H1 _ _ r1 (s.go g1) h1 fun vs ts st2 H2 L2 g2 r2 a2 h2 => ?_⟩
    rw [List.append_nil]
    exact ⟨L2, F, st2, t :: ts, _, r2, .cons (a1.go g2) a2, h2, (k.go (g1.trans g2)).keep r2⟩
/-! own iteration -/
def iOwnX (C : Addr) (f : Str) (e : EX c) : IX c where
  wi := iOwn c.K C f e.te
  w env st Q := e.w env st fun t st1 => objW C st1 t fun fs => match fs.lookup f with | some x => (match x with | .lst ts => Q ts (fun _ => True) st1 | _ => False) | none => False
  ok L F env st σ H R Q r s h k := e.ok L F env st σ H _ _ r s h fun v t st1 H1 L1 g1 r1 a1 h1 => by
    obtain ⟨x, dx, fs, ps, rfl, hp, h, pr⟩ := objW_ok r1 a1 h1
    rcases pr.look (f := f) with ⟨e1, e2⟩ | ⟨w, t, e1, e2, at'⟩
    · rw [e2] at h; exact h.elim
    · rw [e2] at h
      cases t with
      | lst ts =>
        obtain ⟨b, vs, ts', pin, rfl, q, hb, as, z, pn, lo⟩ := asL_ok (K := fun ts pin => Q ts pin st1) r1 at' h
        exact ⟨x, dx, fs, b, vs, rfl, hp, e1, hb, k _ ts' pin st1 H1 L1 g1 r1 z q (jok_list lo)⟩
      | _ => exact h.elim
/-- list(o) -/
def lstOW (C : Addr) (f : Str) (m : Mn) (st : Stt) (t : T) (Q : List T → Stt → Prop) : Prop := match t with
  | .obj C' fs => C' = C ∧ match fs.lookup f with
    | some (.lst ts) => callF m [t] st fun r st' => match r with | .int n => 0 ≤ n ∧ n < 16777216 ∧ Q ts st' | _ => False
    | _ => False
  | _ => False
theorem listO_ok {C : Addr} {f : Str} {m : Mn} {L : Ls} {F : List Addr} {st : Stt} {H : Hp} {v : V} {t : T} {Qc : VK} {Q : List T → Stt → Prop} (r : Rl c L F st H) (a : Ta c L F H v t) (h : lstOW C f m st t Q)
    (k : ∀ q vs ts st' H' L', H q = none → Gb q L H L' H' → Rl c L' (q :: F) st' H' → H' q = some (.lst vs) → Tas c L' (q :: F) H' vs ts → ts.length ≤ big → Q ts st' → Qc (.ref q) H') : rListI C f (SpT c m) [v] H Qc := by
  cases a with
  | @obj x C' dx fs ps nb hp qk as =>
    obtain ⟨rfl, h⟩ := h
    have pr := prs_of qk as
    rcases pr.look (f := f) with ⟨e1, e2⟩ | ⟨w, u, e1, e2, au⟩
    · rw [e2] at h; exact h.elim
    · rw [e2] at h
      cases au with
      | @lst l vs ts nl hl bs z =>
        refine ⟨x, dx, fs, l, vs, rfl, hp, e1, hl, fun q hq => ?_⟩
        have rb := r.bar (o := .lst []) hq
        have mb : Mv (fun _ => true) L F H L (q :: F) (upd H q (.lst [])) := Mv.bar hq
        have go : Gb q L H L (upd H q (.lst [])) := Gb.first hq
        have kk : KE c L (q :: F) (upd H q (.lst [])) (fun v H3 => ∃ n : Int, v = .int n ∧ 0 ≤ n ∧ n < 16777216 ∧ H3 q = some (.lst []) ∧ H3 l = some (.lst vs) ∧ Qc (.ref q) (upd H3 q (.lst vs))) (fun r st' => match r with | .int n => 0 ≤ n ∧ n < 16777216 ∧ Q ts st' | _ => False) := fun v u st' H' L' g r' a' h' => by
          cases a' with
          | int n =>
            have hq2 := g.gr q _ (rb.dis q List.mem_cons_self) upd_same
            have lq : l ≠ q := ne_of_none hl hq
            have hl2 : H' l = some (.lst vs) := g.gr l _ (fun m => nl (.inr m)) (by rw [upd_ne lq]; exact hl)
            have gb : Gb q L H L' H' := go.on (by rw [upd_same]; exact fun z => nomatch z) g hq
            have bs' : Tas c L' (q :: F) H' vs ts := (bs.mv mb (refsL_all _)).go g
            exact ⟨n, rfl, h'.1, h'.2.1, hq2, hl2, k q vs ts st' _ L' hq gb.at_ (r'.atF List.mem_cons_self) upd_same (bs'.mv (Mv.atF List.mem_cons_self) (refsL_all _)) z h'.2.2⟩
          | _ => exact h'.elim
        exact ⟨L, q :: F, st, [.obj C' ps], _, rb, .cons ((Ta.obj nb hp qk as).mv mb (T.refs_all _)) .nil, h, kk.exit rb⟩
      | _ => exact h.elim
  | _ => exact h.elim
def oListO (C : Addr) (f : Str) (m : Mn) : ON c := on1 (rListI C f (SpT c m)) (fun st t Q => lstOW C f m st t fun ts st' => Q (.lst ts) st') fun L F st H x t Qc Q r a h k =>
  listO_ok r a h fun q vs ts st' H' L' hq gb r' e as z h' => k _ (.lst ts) st' H' L' (gb.go hq) r'.unbar (.lst (fun z => z.elim (fun m => (r.trF q m).1 hq) fun m => r'.dis q List.mem_cons_self m) e (as.mv Mv.unbar (refsL_all _)) z) h'
def oListOC (C : Addr) (f : Str) (m : Mn) : ON c := on1 (rListI C f (SpT c m)) (fun st t Q => lstOW C f m st t fun ts st' => refsInL (fun m => decide (m < st'.length)) ts = true ∧ Q (.ref st'.length) (st' ++ [.lst ts])) fun L F st H x t Qc Q r a h k =>
  listO_ok r a h fun q vs ts st' H' L' hq gb r' e as z h' => k _ (.ref st'.length) _ H' (L' ++ [some q]) (Go.adopt hq gb) (r'.adopt (x := .lst ts) (fun m => (r.trF q m).1 hq) ⟨vs, e, as.mv Mv.adopt (refsL_all _), z⟩ h'.1) (.ref (by rw [← r'.len]; exact get_snoc)) h'.2
end
end Vw

/-! texts times a number, dict displays, join -/
namespace Gd
open PySem PySem.Spec PyProof.Rows L2
/-- x * n of a text of one sign -/
def repS (x : Str) (n : Int) : Str := if n < 1 then Str.empty else if (n == 1 || x.length == 0) = true then x else ⟨(List.replicate n.toNat x.cps).foldl (· ++ ·) #[]⟩
def rRepS : R2 := fun x y H Q => ∃ (z : Str) (n : Int), x = .str z ∧ y = .int n ∧ z.length = 1 ∧ 0 ≤ n ∧ n ≤ 100 ∧ Q (.str (repS z n)) H
theorem fold_cat (x : Array Nat) : ∀ (n : Nat) (a : Array Nat), ((List.replicate n x).foldl (· ++ ·) a).size = a.size + n * x.size
  | 0, a => by simp
  | n + 1, a => by
    rw [List.replicate_succ, List.foldl_cons, fold_cat x n, Array.size_append, Nat.add_mul]
    omega
theorem op_repS {X : Cx} : OpR X (binaryOp .Mult) rRepS := by
  intro pins s σ H x y v u Q I rx ry h
  obtain ⟨z, n, rfl, rfl, hz, n0, n1, q⟩ := h
  obtain ⟨t, rfl⟩ := rx
  obtain ⟨t2, rfl⟩ := ry
  refine P.mul_str ?_ (fun _ _ => ?_) (fun _ _ => ?_) ?_
  · rw [decide_eq_false (by omega), decide_eq_false (by omega)]
    rfl
  · have h1 : (1 : Int) ≤ n := by omega
    have : (2 : Int) ≤ (2 ^ 63 - 1) / n := by
      rw [Int.le_ediv_iff_mul_le (by omega)]
      omega
    rw [hz]
    omega
  · have e : z.length * n.toNat ≤ 100 := by rw [hz]; omega
    show decide (_ > sizeLine) = false
    have := sizeLine_eq
    exact decide_eq_false (by omega)
  · unfold repS at q
    by_cases h1 : n < 1
    · rw [if_pos h1] at q ⊢
      exact ⟨by decide, ⟨.str Str.empty, H, I.tok _, ⟨_, rfl⟩, q⟩⟩
    · rw [if_neg h1] at q ⊢
      by_cases h2 : (n == 1 || z.length == 0) = true
      · rw [if_pos h2] at q ⊢
        exact ⟨.str z, H, I, ⟨_, rfl⟩, q⟩
      · rw [if_neg h2] at q ⊢
        refine ⟨?_, ⟨.str _, H, I.tok _, ⟨_, rfl⟩, q⟩⟩
        show (((List.replicate n.toNat z.cps).foldl (· ++ ·) #[]).size) ≤ sizeLine
        rw [fold_cat]
        have e : z.cps.size = 1 := hz
        have := sizeLine_eq
        rw [e]
        simp
        omega
end Gd

/-! dicts made and walked; texts to numbers -/
namespace Vw
open PySem PySem.Spec PyProof.Rows L2 Gd
open PySem.W (dataLe)

def T.ofK : L2.Key → T | .inl i => .int i | .inr x => .str x
def mergeP (kvs more : List (L2.Key × T)) : List (L2.Key × T) := more.foldl (fun acc kv => putP acc kv.1 kv.2) kvs
/-- pairs, as tuples of two -/
def pairsT : List T → Option (List (L2.Key × T))
  | [] => some []
  | .tup [k, v] :: r => match k.sk, pairsT r with | some q, some l => some ((q, v) :: l) | _, _ => none
  | _ :: _ => none
section
variable {c : Cf} {L : Ls} {F : List Addr} {H : Hp} {st : Stt}
theorem pairs_ok : ∀ {ts : List T} {vs : List V} {ps : List (L2.Key × T)}, Tas c L F H vs ts → pairsT ts = some ps → ∃ (as : List Addr) (kvs : List (L2.Key × V)), vs = as.map V.ref ∧ Paired (fun p kv => SqT c.K H p [kV kv.1, kv.2]) as kvs ∧ Prs c L F H kvs ps
  | [], _, _, .nil, e => by cases e; exact ⟨[], [], rfl, .nil, .nil⟩
  | .tup [k, v] :: ts, _, ps, .cons a as, e => by
    simp only [pairsT] at e
    split at e
    · rename_i q l eq el
      cases e
      obtain ⟨bs, kvs, e1, e2, e3⟩ := pairs_ok as el
      cases a with
      | @tup b ws _ nb hb cs z =>
        cases cs with
        | cons c1 cs =>
          cases cs with
          | cons c2 cs =>
            cases cs
            have := sk_ok c1 eq
            subst this
            exact ⟨b :: bs, (q, _) :: kvs, by rw [e1]; rfl, .cons (.inl (.inl hb)) e2, .cons c2 e3⟩
    · cases e
  | .tup [] :: _, _, _, _, e | .tup [_] :: _, _, _, _, e | .tup (_ :: _ :: _ :: _) :: _, _, _, _, e | .non :: _, _, _, _, e | .bl _ :: _, _, _, _, e | .int _ :: _, _, _, _, e | .str _ :: _, _, _, _, e | .lst _ :: _, _, _, _, e | .emp :: _, _, _, _, e | .scr _ :: _, _, _, _, e | .dct _ :: _, _, _, _, e | .dtt _ :: _, _, _, _, e | .set _ :: _, _, _, _, e | .obj _ _ :: _, _, _, _, e | .ref _ :: _, _, _, _, e => by simp [pairsT] at e
theorem Prs.merge : ∀ {ms : List (L2.Key × V)} {qs : List (L2.Key × T)}, Prs c L F H ms qs → ∀ {kvs : List (L2.Key × V)} {ps : List (L2.Key × T)}, Prs c L F H kvs ps → Prs c L F H (mergeK kvs ms) (mergeP ps qs)
  | _, _, .nil, _, _, h => h
  | _, _, .cons a m, _, _, h => m.merge (h.put a)
theorem mergeP_len : ∀ (qs ps : List (L2.Key × T)), (mergeP ps qs).length ≤ ps.length + qs.length
  | [], ps => by simp [mergeP]
  | q :: qs, ps => by
    have := mergeP_len qs (putP ps q.1 q.2)
    have := len_put (k := q.1) (t := q.2) (ps := ps)
    show (mergeP (putP ps q.1 q.2) qs).length ≤ _
    rw [List.length_cons]
    omega
theorem pairsT_len : ∀ {ts : List T} {ps : List (L2.Key × T)}, pairsT ts = some ps → ps.length = ts.length
  | [], _, e => by cases e; rfl
  | .tup [k, v] :: ts, ps, e => by
    simp only [pairsT] at e
    split at e
    · rename_i q l eq el
      cases e
      rw [List.length_cons, List.length_cons, pairsT_len el]
    · cases e
  | .tup [] :: _, _, e | .tup [_] :: _, _, e | .tup (_ :: _ :: _ :: _) :: _, _, e | .non :: _, _, e | .bl _ :: _, _, e | .int _ :: _, _, e | .str _ :: _, _, e | .lst _ :: _, _, e | .emp :: _, _, e | .scr _ :: _, _, e | .dct _ :: _, _, e | .dtt _ :: _, _, e | .set _ :: _, _, e | .obj _ _ :: _, _, e | .ref _ :: _, _, e => by simp [pairsT] at e
end
section
variable {c : Cf}
/-- dict(pairs) -/
def oDict : ON c := on1 (rDictP c.K) (fun st t Q => asL st t fun ts _ => match pairsT ts with | some ps => Q (.dct (mergeP [] ps)) st | none => False) fun L F st H x t Qc Q r a h k => by
  obtain ⟨b, vs, ts, pin, rfl, h, hb, as, z, pn, lo⟩ := asL_ok r a h
  split at h
  · rename_i ps ep
    obtain ⟨bs, kvs, rfl, pr, ps'⟩ := pairs_ok as ep
    refine ⟨b, bs, kvs, rfl, .inl (.inl hb), pr, fun p hp => ?_⟩
    have m := (ps'.merge .nil).mv (p := fun _ => true) (Go.lay (o := .dK (mergeK [] kvs)) hp).mv (refsL_all _)
    exact k _ (.dct (mergeP [] ps)) st _ L (Go.lay hp) (r.lay hp) (.dK (r.fresh hp) upd_same m.keys m.vals (by
      have := mergeP_len ps []
      have := pairsT_len ep
      simp at *
      omega)) h
  · exact h.elim
/-- the keys of a dict -/
def dctL (st : Stt) (t : T) (K : List (L2.Key × T) → Prop) : Prop := match t with
  | .dct ps => K ps
  | .ref n => match st[n]? with | some (.dct ps) => K ps | _ => False
  | _ => False
theorem dctL_ok {L : Ls} {F : List Addr} {st : Stt} {H : Hp} {v : V} {t : T} {K : List (L2.Key × T) → Prop} (r : Rl c L F st H) (a : Ta c L F H v t) (h : dctL st t K) : ∃ b kvs ps, v = .ref b ∧ H b = some (.dK kvs) ∧ Prs c L F H kvs ps ∧ K ps ∧ ps.length ≤ big := by
  cases a with
  | @dK b kvs ps nb hb q as z => exact ⟨b, kvs, ps, rfl, hb, prs_of q as, h, z⟩
  | @ref n b e =>
    cases q : st[n]? with
    | none => simp [dctL, q] at h
    | some x =>
      cases x with
      | dct ps =>
        obtain ⟨kvs, hb, qk, as, z⟩ := r.cell n b _ e q
        exact ⟨b, kvs, ps, rfl, hb, prs_of qk as, by simpa [dctL, q] using h, z⟩
      | _ => simp [dctL, q] at h
  | _ => exact h.elim
theorem keys_tas {L : Ls} {F : List Addr} {H : Hp} : ∀ {kvs : List (L2.Key × V)} {ps : List (L2.Key × T)}, Prs c L F H kvs ps → Tas c L F H (kvs.map fun kv => kV kv.1) (ps.map fun kv => T.ofK kv.1)
  | _, _, .nil => .nil
  | _, _, .cons (k := k) a h => .cons (by cases k <;> constructor) (keys_tas h)
/-- list(d) -/
def oListD : ON c := on1 rListD (fun st t Q => dctL st t fun ps => Q (.lst (ps.map fun kv => T.ofK kv.1)) st) fun L F st H x t Qc Q r a h k => by
  obtain ⟨b, kvs, ps, rfl, hb, pr, h, z⟩ := dctL_ok r a h
  exact ⟨b, kvs, rfl, hb, fun p hp => k _ (.lst _) st _ L (Go.lay hp) (r.lay hp) (.lst (r.fresh hp) upd_same ((keys_tas pr).go (Go.lay hp)) (by simpa using z)) h⟩
/-- sorted(d), the keys pairs of texts -/
def pairK : List L2.Key → Option SP | [.inr x, .inr y] => some (x, y) | _ => none
def pairsK : List (List L2.Key) → Option (List SP)
  | [] => some []
  | k :: r => match pairK k, pairsK r with | some z, some l => some (z :: l) | _, _ => none
theorem pairsK_map : ∀ ks : List SP, pairsK (ks.map fun z => [.inr z.1, .inr z.2]) = some ks
  | [] => rfl
  | k :: ks => by simp [pairsK, pairK, pairsK_map ks]
theorem pairsK_ok : ∀ {ks : List (List L2.Key)} {l : List SP}, pairsK ks = some l → ks = l.map keyP
  | [], _, e => by cases e; rfl
  | k :: r, l, e => by
    simp only [pairsK] at e
    split at e
    · rename_i z l' e1 e2
      cases e
      rw [pairsK_ok e2]
      match k, e1 with
      | [.inr x, .inr y], e1 => cases e1; rfl
    · cases e
def dttL (st : Stt) (t : T) (K : List (List L2.Key × T) → Prop) : Prop := match t with
  | .dtt ps => K ps
  | .ref n => match st[n]? with | some (.dtt ps) => K ps | _ => False
  | _ => False
theorem dttL_ok {L : Ls} {F : List Addr} {st : Stt} {H : Hp} {v : V} {t : T} {K : List (List L2.Key × T) → Prop} (r : Rl c L F st H) (a : Ta c L F H v t) (h : dttL st t K) : ∃ b kvs ps, v = .ref b ∧ H b = some (.dT kvs) ∧ Prs c L F H kvs ps ∧ K ps ∧ ps.length ≤ big := by
  cases a with
  | @dT b kvs ps nb hb q as z => exact ⟨b, kvs, ps, rfl, hb, prs_of q as, h, z⟩
  | @ref n b e =>
    cases q : st[n]? with
    | none => simp [dttL, q] at h
    | some x =>
      cases x with
      | dtt ps =>
        obtain ⟨kvs, hb, qk, as, z⟩ := r.cell n b _ e q
        exact ⟨b, kvs, ps, rfl, hb, prs_of qk as, by simpa [dttL, q] using h, z⟩
      | _ => simp [dttL, q] at h
  | _ => exact h.elim
def spT (z : SP) : T := .tup [.str z.1, .str z.2]
/-- the pairs in order -/
def sortP (ks : List SP) : List SP := ks.mergeSort (dataLe false fun z : SP => pr z)
theorem prs_inj : ∀ {zs ws : List SP}, prs zs = prs ws → zs = ws
  | [], [], _ => rfl
  | z :: zs, w :: ws, e => by
    have e2 := List.cons.inj (show pr z :: prs zs = pr w :: prs ws from e)
    have e3 : z = w := by
      have e4 := e2.1
      unfold pr at e4
      cases z; cases w
      simp at e4
      simp [e4]
    rw [e3, prs_inj e2.2]
  | [], _ :: _, e => nomatch e
  | _ :: _, [], e => nomatch e
theorem at_tas {L : Ls} {F : List Addr} {H H' : Hp} (nf : ∀ b z, atP H b z → ¬ Bar L F b ∧ H' b = H b) : ∀ {bs : List Addr} {zs : List SP}, Paired (atP H) bs zs → Tas c L F H' (bs.map V.ref) (zs.map spT)
  | _, _, .nil => .nil
  | b :: _, z :: _, .cons h t => .cons (.tup (nf b z h).1 ((nf b z h).2.trans h) (.cons (.str _) (.cons (.str _) .nil)) (by show 2 ≤ 100000; decide)) (at_tas nf t)
def oSortDT : ON c := on1 rSortT (fun st t Q => dttL st t fun ps => match pairsK (ps.map (·.1)) with | some ks => ks.length ≤ 1000 ∧ Q (.lst ((sortP ks).map spT)) st | none => False) fun L F st H x t Qc Q r a h k => by
  obtain ⟨b, kvs, ps, rfl, hb, pr', h, z⟩ := dttL_ok r a h
  split at h
  · rename_i ks ek
    refine ⟨b, kvs, ks, rfl, hb, by rw [← pr'.keys]; exact pairsK_ok ek, h.1, fun p bs zs hp ez pz => ?_⟩
    have e1 : zs = sortP ks := prs_inj (by
      rw [ez]
      unfold sortP sortD prs
      exact ((PySem.W.sort_maps (r := dataLe false fun z : SP => Gd.pr z) (s := dataLe false fun d : PyData => d) (fun z : SP => Gd.pr z) (fun _ _ _ _ => rfl)).symm))
    subst e1
    have nf : ∀ b z, atP H b z → ¬ Bar L F b ∧ (upd H p (.lst (bs.map V.ref))) b = H b := fun b z h => ⟨fun bar => by
      rcases bar with m | m
      · exact (r.trF b m).2 _ h
      · obtain ⟨n, hn, e⟩ := List.getElem_of_mem m
        have e1 : L[n]? = some (some b) := by rw [List.getElem?_eq_getElem hn, e]
        have l2 : n < st.length := r.len ▸ hn
        have q := r.cell n b _ e1 (List.getElem?_eq_getElem l2)
        have h' : H b = some (.tup [.str z.1, .str z.2]) := h
        cases hx : st[n] with
        | lst xs => rw [hx] at q; obtain ⟨vs, e, _⟩ := q; rw [h'] at e; cases e
        | dct xs => rw [hx] at q; obtain ⟨vs, e, _⟩ := q; rw [h'] at e; cases e
        | dtt xs => rw [hx] at q; obtain ⟨vs, e, _⟩ := q; rw [h'] at e; cases e
        | obj C xs => rw [hx] at q; obtain ⟨dx, fs, e, _⟩ := q; rw [h'] at e; cases e
        | gone => rw [hx] at q; exact q.elim, upd_ne (ne_of_none h hp)⟩
    exact k _ (.lst _) st _ L (Go.lay hp) (r.lay hp) (.lst (r.fresh hp) upd_same (at_tas nf pz) (by
      rw [List.length_map]
      unfold sortP
      rw [List.length_mergeSort]
      exact Nat.le_trans h.1 (by decide))) h.2
  · exact h.elim
/-! int(text); a text so many times -/
def oIntS : ON c := on1 (fun xs H Q => ∃ a n, xs = [.str a] ∧ PySem.intText? a = some n ∧ a.length ≤ 640 ∧ Q (.int n) H) (fun st t Q => match t with | .str x => (match PySem.intText? x with | some n => x.length ≤ 640 ∧ Q (.int n) st | none => False) | _ => False) fun L F st H x t Qc Q r a h k => by
  cases a with
  | str x =>
    cases e : PySem.intText? x with
    | none => simp [e] at h
    | some n => simp only [e] at h; exact ⟨x, n, rfl, e, h.1, k.here r (.int _) h.2⟩
  | _ => exact h.elim
def oRepS : O2 c where
  r := rRepS
  w st a b Q := match a, b with | .str z, .int n => z.length = 1 ∧ 0 ≤ n ∧ n ≤ 100 ∧ Q (.str (repS z n)) st | _, _ => False
  ok L F st H x y a b Qc Q r h1 h2 h k := by
    match a, b, h1, h2, h with
    | .str z, .int n, .str _, .int _, h => exact ⟨z, n, rfl, rfl, h.1, h.2.1, h.2.2.1, k.here r (.str _) h.2.2.2⟩
/-! {k: v}, one entry -/
def eDisp (a b : EX c) : EX c where
  te := tDisp [(a.te, b.te)]
  w env st Q := a.w env st fun x st1 => b.w env st1 fun y st2 => match x.sk with | some k => Q (.dct [(k, y)]) st2 | none => False
  ok L F env st σ H Qc Q r s h k := fun p hp => by
    have rb := r.bar (o := .dK []) hp
    have sb : Se c L (p :: F) (upd H p (.dK [])) σ env := s.bar hp
    refine a.ok L (p :: F) env st σ _ _ _ rb sb h fun v t st1 H1 L1 g1 r1 a1 h1 => ?_
    refine b.ok L1 (p :: F) env st1 σ H1 _ _ r1 (sb.go g1) h1 fun v2 t2 st2 H2 L2 g2 r2 a2 h2 => ?_
    have e1 := g1.gr p _ (rb.dis p List.mem_cons_self) upd_same
    have e2 := g2.gr p _ (r1.dis p List.mem_cons_self) e1
    cases ek : t.sk with
    | none => simp [ek] at h2
    | some key =>
      simp only [ek] at h2
      have kk := sk_ok a1 ek
      subst kk
      refine ⟨e2, [(key, v2)], rfl, (by show 1 ≤ 15; decide), ?_⟩
      have gb : Gb p L H L2 H2 := ((Gb.first hp).on (by rw [upd_same]; exact fun z => nomatch z) g1 hp).on (by rw [e1]; exact fun z => nomatch z) g2 hp
      have r3 := (r2.atF (a := p) (o := .dK (mergeK [] [(key, v2)])) List.mem_cons_self)
      refine k _ (.dct [(key, t2)]) st2 _ L2 (gb.at_.go hp) r3.unbar (.dK (fun z => z.elim (fun m => (r.trF p m).1 hp) fun m => r2.dis p List.mem_cons_self m) upd_same rfl ?_ (by show 1 ≤ 100000; decide)) h2
      exact (Tas.cons (a2.mv (Mv.atF List.mem_cons_self) (T.refs_all _)) .nil).mv Mv.unbar (refsL_all _)
end
end Vw

/-! defs and methods of a text, by what they do to trees -/
namespace Vw
open PySem PySem.Spec PyProof.Rows L2 Gd
def inCls : Stmt → Nat → Stmt
  | .ClassDef (body := b) .., i => b.getD i (.Pass ⟨0, 0, 0, 0⟩)
  | s, _ => s
/-- a def's promise in every surrounding, by its name -/
def CalR (P : Program) (w : World) (K : PySem.W.Frag) (mg : Str → Option Value) (base : Heap) (k : Nat) (x : Str) (sp : Sp) : Prop :=
  ∃ (f : Addr) (fd : FuncData) (ps : List Str), mg x = some (.ref f) ∧ PySem.W.keepIn K (.ref f) = true ∧ Binds K fd ps [] ∧ FnOk P w K mg base CX0 k f fd ps sp
section
variable {P : Program} {w : World} {K : PySem.W.Frag} {mg : Str → Option Value} {base : Heap}
theorem CalR.g {k : Nat} {x : Str} {sp : Sp} (h : CalR P w K mg base k x sp) : CalG P w K mg base k x sp := by
  obtain ⟨f, fd, ps, h1, h2, h3, h4⟩ := h
  exact ⟨f, fd, ps, h1, h2, h3, FnG.of h4⟩
theorem calR_of {x : Str} {st : Stmt} {N ps : List Str} {k : Nat} {sp : Sp} (X : K.In base) (G : base.Ns mainGlobals mg) (D : DefAt K x st) (S : FnScope N ps (defScope st))
    (hb : ∀ (kV doc pm : Value) (an : Option Addr) (cdv ct : Value) (us : List Value), us.length = ps.length → bindArgs (PySem.W.fnOf x x (defArgs st) (defBody st) (defScope st) .none kV doc pm an cdv ct) ⟨us, []⟩ = pure (ps.zip us))
    (len : ∀ vs H Q E, sp vs H Q E → vs.length = ps.length)
    (hbody : ∀ (f : Addr) (cdv : Value) (A : Around) (outer : List Env) (s : Shared) (H : Hp) (vs : List V) (Q : VK) (E : XK), Room k (A.deeper (envOfC x (defScope st) s.heap.objs.size f cdv)) → sp vs H Q E →
      ∃ t, PSs (cxOf CX0 P w K mg base N x (defScope st) f cdv A outer s H E).nox (defBody st) t ∧ t { nx := fun _ H' => Q .non H', rt := Q } (L2.start N vs) H) : CalR P w K mg base (k + 1) x sp := by
  obtain ⟨f, oc, od, an, sl, kV, dc, pm, cd, ct, h1, h2, h3, h4⟩ := D
  have FF : L2.Fun K x x st f _ := fun_mk h2 h3 h4
  exact ⟨f, _, ps, PySem.W.mg_of X G h1, h4, FF.binds hb, FF.ok S len fun cdv A outer s H vs Q E hr h => by
    obtain ⟨t, p, q⟩ := hbody f cdv A outer s H vs Q E hr h
    exact ⟨t, p, q⟩⟩
/-- the body's tree is the def's -/
theorem defR {x : Str} {st : Stmt} {N ps : List Str} {k n : Nat} {D : SX ⟨P, w, K⟩} (X : K.In base) (G : base.Ns mainGlobals mg) (A : DefAt K x st) (S : FnScope N ps (defScope st)) (eN : N.length = ps.length + n)
    (hb : ∀ (kV doc pm : Value) (an : Option Addr) (cdv ct : Value) (us : List Value), us.length = ps.length → bindArgs (PySem.W.fnOf x x (defArgs st) (defBody st) (defScope st) .none kV doc pm an cdv ct) ⟨us, []⟩ = pure (ps.zip us))
    (hbody : ∀ (f : Addr) (cdv : Value) (A : Around) (outer : List Env) (s : Shared) (H : Hp) (E : XK), Room k (A.deeper (envOfC x (defScope st) s.heap.objs.size f cdv)) →
      PSs (cxOf CX0 P w K mg base N x (defScope st) f cdv A outer s H E).nox (defBody st) D.ts) : CalR P w K mg base (k + 1) x (SpT ⟨P, w, K⟩ (mD D ps.length n)) :=
  calR_of X G A S hb (fun vs H Q E h => spT_len h) fun f cdv A outer s H vs Q E hr h => ⟨_, hbody f cdv A outer s H E hr, spT_body eN h⟩
theorem defG {x : Str} {st : Stmt} {N ps : List Str} {k n : Nat} {D : SX ⟨P, w, K⟩} (X : K.In base) (G : base.Ns mainGlobals mg) (A : DefAt K x st) (S : FnScope N ps (defScope st)) (eN : N.length = ps.length + n)
    (hb : ∀ (kV doc pm : Value) (an : Option Addr) (cdv ct : Value) (us : List Value), us.length = ps.length → bindArgs (PySem.W.fnOf x x (defArgs st) (defBody st) (defScope st) .none kV doc pm an cdv ct) ⟨us, []⟩ = pure (ps.zip us))
    (hbody : ∀ (f : Addr) (cdv : Value) (A : Around) (outer : List Env) (s : Shared) (H : Hp) (E : XK), Ng A → Room k (A.deeper (envOfC x (defScope st) s.heap.objs.size f cdv)) →
      PSs (cxOf CX0 P w K mg base N x (defScope st) f cdv A outer s H E).nox (defBody st) D.ts) : CalG P w K mg base (k + 1) x (SpT ⟨P, w, K⟩ (mD D ps.length n)) :=
  calG_of X G A S hb (fun vs H Q E h => spT_len h) fun f cdv A outer s H vs Q E ng hr h => ⟨_, hbody f cdv A outer s H E ng hr, spT_body eN h⟩
/-- the law itself -/
theorem defF {x : Str} {st : Stmt} {f : Addr} {fd : FuncData} {N ps : List Str} {k n : Nat} {D : SX ⟨P, w, K⟩} (FF : L2.Fun K x x st f fd) (S : FnScope N ps (defScope st)) (eN : N.length = ps.length + n)
    (hbody : ∀ (cdv : Value) (A : Around) (outer : List Env) (s : Shared) (H : Hp) (E : XK), Ng A → Room k (A.deeper (envOfC x (defScope st) s.heap.objs.size f cdv)) →
      PSs (cxOf CX0 P w K mg base N x (defScope st) f cdv A outer s H E).nox (defBody st) D.ts) : FnG P w K mg base CX0 (k + 1) f fd ps (SpT ⟨P, w, K⟩ (mD D ps.length n)) :=
  okG FF S (fun vs H Q E h => spT_len h) fun cdv A outer s H vs Q E ng hr h => ⟨_, hbody cdv A outer s H E ng hr, spT_body eN h⟩
theorem pe_cr {X : Cx} {k j : Nat} {sp : Sp} {x : Str} {p pos : Pos} {e : Expr} {es : List Expr} {t : TA} (c : CalR X.prog X.w X.K X.mg X.base k x sp) (hr : Room j X.A) (hk : k ≤ j) (ha : PA X (e :: es) t) (hg : Gl X x := by rfl)
    (hdb : (x == ("__debug__" : Str)) = false := by decide) (he : starEach (e :: es) X.env = (false, eval e X.env) :: starEach es X.env := by rfl) (hpl : (backTo pos (starEach es X.env)).any (·.1) = false := by rfl) :
    PE X (.Call (.Name x p) (e :: es) [] pos) (tCall sp [] C8.E0 t) := by
  obtain ⟨f, fd, ps, h1, h2, h3, h4⟩ := c
  exact pe_call h4 (hr.mono hk) hg h1 h2 h3 .nil pass0 ha hdb he hpl
theorem ps_nev {X : Cx} {e : Stmt} : PS X e (fun _ _ _ => False) := ⟨fun pins s σ H Q I h => h.elim⟩
/-! methods -/
def MDef (K : PySem.W.Frag) (C : Addr) (m qual : Str) (st : Stmt) : Prop := ∃ (f : Addr) (fd : FuncData), PySem.W.findIn K (.ref C) m = some (some (.ref f)) ∧ PySem.W.isFn K (.ref f) = true ∧ PySem.W.keepIn K (.ref f) = true ∧ C8.Fun K m qual st f fd ∧ fd.defaults = .none
theorem metR {m qual : Str} {C : Addr} {st : Stmt} {N ps : List Str} {k n : Nat} {D : SX ⟨P, w, K⟩} (A : MDef K C m qual st) (S : FnScope N ps (C8.fnScope st)) (eN : N.length = ps.length + n)
    (hb : ∀ (kV doc pm : Value) (an : Option Addr) (cdv ct : Value) (us : List Value), us.length = ps.length → bindArgs (PySem.W.fnOf m qual (C8.fnArgs st) (C8.fnBody st) (C8.fnScope st) .none kV doc pm an cdv ct) ⟨us, []⟩ = pure (ps.zip us))
    (hbody : ∀ (cdv : Value) (A : Around) (outer : List Env) (s : Shared) (H : Hp) (E : XK) (f : Addr), Room k (A.deeper (envOfC qual (C8.fnScope st) s.heap.objs.size f cdv)) →
      PSs (cxOf CX0 P w K mg base N qual (C8.fnScope st) f cdv A outer s H E).nox (C8.fnBody st) D.ts) :
    OwnF P w K mg base (k + 1) C m (SpT ⟨P, w, K⟩ (mD D ps.length n)) ∧ (Cls K C → C8.Met P w K mg base (k + 1) C m (SpT ⟨P, w, K⟩ (mD D ps.length n)) []) := by
  obtain ⟨f, fd, h1, h2, h3, F, df⟩ := A
  have fn := C8.fn0 (sp := SpT ⟨P, w, K⟩ (mD D ps.length n)) F S (fun vs H Q E h => spT_len h) fun cdv A outer s H vs Q E hr h => ⟨_, hbody cdv A outer s H E f hr, spT_body eN h⟩
  have b := F.binds df hb
  exact ⟨⟨f, fd, ps, h1, h2, b, fn⟩, fun cl => ⟨⟨f, fd, ps, [], cl, ⟨h1, h2, h3⟩, fn, b, .nil⟩⟩⟩
theorem makR {x qual : Str} {C f : Addr} {st : Stmt} {fd : FuncData} {N ps : List Str} {ds : List Value} {dvs : List V} {k n : Nat} {D : SX ⟨P, w, K⟩} (M : Mk K C f) (hm : mg x = some (.ref C)) (F : C8.Fun K "__init__" qual st f fd) (b : Binds K fd ps ds) (dv : Vals dvs ds)
    (S : FnScope N ps (C8.fnScope st)) (eN : N.length = ps.length + n)
    (hbody : ∀ (cdv : Value) (A : Around) (outer : List Env) (s : Shared) (H : Hp) (E : XK), Room k (A.deeper (envOfC qual (C8.fnScope st) s.heap.objs.size f cdv)) →
      PSs (cxOf CX0 P w K mg base N qual (C8.fnScope st) f cdv A outer s H E).nox (C8.fnBody st) D.ts) : C8.Mak P w K mg base (k + 1) x C (SpT ⟨P, w, K⟩ (mD D ps.length n)) dvs :=
  C8.mak0 M hm F b dv S (fun vs H Q E h => spT_len h) fun cdv A outer s H vs Q E hr h => ⟨_, hbody cdv A outer s H E hr, spT_body eN h⟩
/-- __iter__: the iterator of a field's list -/
theorem iterR {qual : Str} {C : Addr} {st : Stmt} {fn : Str} {k : Nat} (A : MDef K C "__iter__" qual st) (S : FnScope ["self"] ["self"] (C8.fnScope st)) (cl : Cls K C) (na : NoAttr K C fn)
    (hb : ∀ (kV doc pm : Value) (an : Option Addr) (cdv ct : Value) (us : List Value), us.length = 1 → bindArgs (PySem.W.fnOf "__iter__" qual (C8.fnArgs st) (C8.fnBody st) (C8.fnScope st) .none kV doc pm an cdv ct) ⟨us, []⟩ = pure ((["self"] : List Str).zip us))
    (hbody : ∀ (cdv : Value) (A : Around) (outer : List Env) (s : Shared) (H : Hp) (E : XK) (f : Addr), Room k (A.deeper (envOfC qual (C8.fnScope st) s.heap.objs.size f cdv)) →
      PSs (cxOf CX0 P w K mg base ["self"] qual (C8.fnScope st) f cdv A outer s H E) (C8.fnBody st) (tRet (tCB (ItX.rIterN K s.heap.objs.size) (tCons (tFld K (tVar 0) fn) tNil)))) : OwnI P w K mg base (k + 1) C fn := by
  obtain ⟨f, fd, h1, h2, h3, F, df⟩ := A
  have b := F.binds (ps := ["self"]) df hb
  obtain ⟨oc, od, dV, kV, doc, pm, an, cdv, ct, osl, rfl, lk, cd⟩ := F.ex
  refine ⟨f, _, h1, h2, b, fn_ofS lk cd S fun A outer s H vs Q E hr h => ⟨_, hbody cdv A outer s H E f hr, ?_⟩⟩
  obtain ⟨x, dx, fs, l, ys, rfl, hx, lk, hl, q⟩ := h
  refine ⟨_, rfl, x, C, dx, fs, .ref l, rfl, hx, cl, na, lk, l, ys, rfl, .inl (.inl hl), fun it h1 h2 => q it h1 h2⟩
theorem _root_.Gd.OwnF.mono {j k : Nat} {C : Addr} {m : Str} {sp : Sp} (h : OwnF P w K mg base j C m sp) (l : j ≤ k) : OwnF P w K mg base k C m sp := by
  obtain ⟨f, fd, ps, h1, h2, h3, h4⟩ := h
  exact ⟨f, fd, ps, h1, h2, h3, h4.mono l⟩
theorem _root_.Gd.OwnI.mono {j k : Nat} {C : Addr} {fn : Str} (h : OwnI P w K mg base j C fn) (l : j ≤ k) : OwnI P w K mg base k C fn := by
  obtain ⟨f, fd, h1, h2, h3, h4⟩ := h
  exact ⟨f, fd, h1, h2, h3, ⟨fun A outer s H args us vs Q E hr => h4.run A outer s H args us vs Q E (hr.mono l)⟩⟩
/-! lists made longer, to be changed -/
def oMulC {c : Cf} : O2 c where
  r := rMulA
  w st a b Q := match b with
    | .int k => asL st a fun xs _ => -(2 ^ 63) ≤ k ∧ k < 2 ^ 63 ∧ xs.length * k.toNat ≤ big ∧ refsInL (fun m => decide (m < st.length)) xs = true ∧ Q (.ref st.length) (st ++ [.lst (List.replicate k.toNat xs).flatten])
    | _ => False
  ok L F st H x y a b Qc Q r h1 h2 h k := by
    cases b with
    | int j =>
      cases h2
      obtain ⟨p, vs, xs, _, rfl, ⟨j1, j2, z2, lo, h⟩, hp, as, z, _, _⟩ := asL_ok r h1 h
      refine .inr ⟨p, j, vs, rfl, rfl, hp, j1, j2, by rw [as.length]; exact Nat.le_trans z2 (by decide), fun d hd => ?_⟩
      have rep : ∀ n : Nat, Tas c (L ++ [some d]) F (upd H d (.lst (List.replicate j.toNat vs).flatten)) (List.replicate n vs).flatten (List.replicate n xs).flatten := fun n => by
        induction n with
        | zero => exact .nil
        | succ n ih =>
          rw [List.replicate_succ, List.replicate_succ, List.flatten_cons, List.flatten_cons]
          exact (as.go (Go.cell hd)).app ih
      refine k _ (.ref st.length) _ _ (L ++ [some d]) (Go.cell hd) (r.newCell (x := .lst (List.replicate j.toNat xs).flatten) hd ⟨_, upd_same, rep _, ?_⟩ ?_) (Ta.newRef r) h
      · have e : (List.replicate j.toNat xs).flatten.length = j.toNat * xs.length := by simp
        rw [e, Nat.mul_comm]
        exact z2
      · refine refsInL_sub (xs := xs) (fun x m => ?_) lo
        obtain ⟨l, ml, mx⟩ := List.mem_flatten.mp m
        rw [List.eq_of_mem_replicate ml] at mx
        exact mx
    | _ => exact h.elim
end
end Vw

/-! sorted(d.values()) -/
namespace Vw
open PySem PySem.Spec PyProof.Rows L2 Gd
open PySem.W (EachIs AllAlike Sortable dataLe)
section
variable {X : Cx} {pins : List (Addr × Obj)} {σ : L2.St} {H : Hp} {s : Shared}
def rVals : V → List V → Hp → VK → Prop := fun x xs H Q => ∃ (a : Addr) (kvs : List (L2.Key × V)), x = .ref a ∧ xs = [] ∧ H a = some (.dK kvs) ∧ ∀ p, H p = none → Q (.ref p) (upd H p (viewO "dict_values" p a))
theorem mt_values : MtR X "dict.values" rVals := by
  intro pins s σ H x xs v us Q I rx rs h
  obtain ⟨a, kvs, rfl, rfl, hd, q⟩ := h
  obtain rfl : v = Value.ref a := rx
  cases rs
  have ok := I.hok a _ hd
  have ok' := (show ObjOk X.prog X.w H s.heap a (.dK kvs) from ok)
  obtain ⟨z, hs, xs, pr1, o, es, ep, ho, hx, hdt, hk, hp, hn⟩ := ok'
  have hT : s.TypeIs (.ref a) "dict" := ⟨o, ho, hx.1⟩
  refine wpAny_call_entry PySem.F.slot_dict_values hT PySem.F.entry_dict_values ?_ (PySem.F.args_dict_values_1 _)
  show wpAny _ _ (do let d ← Builtin.Dict.noArgs "values" ⟨[.ref a], []⟩; Builtin.Dict.showsAll d; let r ← newFields "dict_values" [Value.ref d]; PySem.ret r) _ _ _
  refine wpAny_bind ?_
  unfold Builtin.Dict.noArgs
  refine wpAny_bind ?_
  unfold Builtin.Dict.notOrdered
  refine PySem.W.KFB.if_so (by decide) ?_
  refine wpAny_bind (wpAny_typeOf hT ?_)
  refine PySem.W.KFB.if_not (by rfl) ?_
  refine wpAny_pure ?_
  refine wpAny_bind ?_
  unfold Builtin.Dict.nameIsSure
  refine PySem.W.KFB.if_not (by rfl) ?_
  refine wpAny_pure ?_
  refine wpAny_bind (wpAny_pure ?_)
  refine wpAny_pure ?_
  refine wpAny_bind ?_
  unfold Builtin.Dict.showsAll
  refine PySem.W.KFB.if_not hs ?_
  refine wpAny_pure ?_
  refine wpAny_bind ?_
  unfold newFields
  refine wpAny_newObj_type ?_ (by show 1 ≤ sizeLine + 2; omega)
  refine wpAny_pure ⟨_, rfl, .ref s.heap.objs.size, _, I.laid (t' := s.toks) (fun b u e => Heap.get?_push_of_some _ e) (Nat.le_refl _) (viewO_ok (Heap.get?_push_size _ rfl)), rfl, q _ (I.hok.fresh (Nat.le_refl _))⟩
theorem kv_vals : ∀ {kvs : List (L2.Key × V)} {xs : List (L2.Key × Value)}, KV kvs xs → Vals (kvs.map (·.2)) (xs.map (·.2)) := by
  intro kvs xs h
  induction h with
  | nil => exact .nil
  | cons r _ ih => exact .cons r.2 ih
theorem strD_inj : ∀ {xs ys : List Str}, strD xs = strD ys → xs = ys
  | [], [], _ => rfl
  | x :: xs, y :: ys, e => by
    have e2 := List.cons.inj (show PyData.str x :: strD xs = PyData.str y :: strD ys from e)
    rw [PyData.str.inj e2.1, strD_inj e2.2]
  | [], _ :: _, e => nomatch e
  | _ :: _, [], e => nomatch e
def rSortV : List V → Hp → VK → Prop := fun xs H Q => ∃ (p a : Addr) (kvs : List (L2.Key × V)) (ys : List Str), xs = [.ref p] ∧ H p = some (viewO "dict_values" p a) ∧ H a = some (.dK kvs) ∧ kvs.map (·.2) = ys.map V.str ∧ ys.length ≤ 1000 ∧
  ∀ (q : Addr) (zs : List Str), H q = none → strD zs = sortD (strD ys) → Q (.ref q) (upd H q (.lst (zs.map V.str)))
theorem cr_sortV {X : Cx} (hc : X.calm = true) (hu : X.A.units + 64 < cLine) : CallR X (.builtin "sorted") rSortV := by
  intro pins s σ H xs us Q I r h
  obtain ⟨p, a, kvs, ys, rfl, hp, hd, hks, hz, q⟩ := h
  obtain ⟨u, rfl, rx⟩ := vals1 r
  obtain rfl : u = Value.ref p := rx
  have okd := I.hok a _ hd
  have okd' := (show ObjOk X.prog X.w H s.heap a (.dK kvs) from okd)
  obtain ⟨z, hs, xs, pr1, o, es, ep, ho, hx, hdt, hk, hpp, hn⟩ := okd'
  have okv : s.heap.get? p = some (DSub.viewOb "dict_values" a) := by
    have w := I.hok p _ hp
    simp only [viewO, ObjOk] at w
    exact w.1
  have rv : Vals (ys.map V.str) (xs.map (·.2)) := by rw [← hks]; exact kv_vals pr1
  have sz : xs.length = ys.length := by have := rv.length; simpa using this.symm
  refine Calls.call_function_entry PyProof.Rows.kind_sorted PyProof.Rows.plain_sorted PyProof.Rows.entry_sorted (PyProof.Rows.args_sorted1 _) ?_
  unfold Builtin.«sorted»
  refine wpAny_bind (m := checkCount "sorted" 1 1 _) (wpAny_pure ?_)
  refine wpAny_bind (PySem.W.kdu_collect (A := X.A.in1) (PySem.W.kdl_values (knd := mixKind X.prog X.w) (d := a) (r := p) (kvs := xs) (ep := ep)) (I.ok.hd hc) ⟨⟨_, okv, rfl, rfl⟩, o, es, ho, hx, hdt, hk, hpp, hn⟩ (by rw [sz]; exact Nat.le_trans hz (by decide)) fun h' tk acc keep items => ?_)
  have ea : acc.toList = xs.map (·.2) := by
    apply List.ext_getElem?
    intro j
    rw [List.getElem?_map]
    have hl : acc.toList.length = xs.length := by rw [Array.length_toList, items.1]
    cases hj : acc.toList[j]? with
    | none =>
      have h1 := List.getElem?_eq_none_iff.mp hj
      rw [List.getElem?_eq_none (by omega)]
      rfl
    | some v =>
      obtain ⟨k, hk⟩ := items.2 j v (by rw [← Array.getElem?_toList]; exact hj)
      rw [hk]
      rfl
  have I1 : Inv X pins σ H { s with heap := h', toks := tk } := I.kept keep
  rw [ea]
  generalize xs.map (·.2) = its at rv ea
  have sz : its.length = ys.length := by have := rv.length; simpa using this.symm
  refine wpAny_bind (wpAny_newList ?_ (by rw [sz]; exact Nat.le_trans hz (by decide)))
  have gL : (h'.push (seqObj "list" its.toArray 0)).get? h'.objs.size = some (seqObj "list" its.toArray 0) := Heap.get?_push_size _ rfl
  have eq1 := each_strs (h := h'.push (seqObj "list" its.toArray 0)) (strsAre_of rv)
  show wpAny _ _ _ _ _ { s with heap := h'.push (seqObj "list" its.toArray 0), toks := tk }
  refine wpAny_bind (wpAny_holding (PySem.W.list_sort_data (s := { s with heap := h'.push (seqObj "list" its.toArray 0), toks := tk }) (R := fun u (y : Str) => ∃ t, u = .str y t) (enc := PyData.str) (bs := ys) gL
    (eq1.mono fun _ _ z => z.1) (eq1.mono fun u c z => ?_) (alike_strD ys) (sortable_strD ys) (Nat.le_trans hz (by decide)) (fun c _ => ?_) fun out lo eo => ?_))
  · obtain ⟨as, ra, rfl⟩ := z.2
    exact ⟨_, ra, fun m => nomatch m⟩
  · show _ + 1 + PyData.depth (.str c) < cLine
    have eu : X.A.in1.units = X.A.units + 1 := rfl
    have : PyData.depth (.str c) = 0 := rfl
    omega
  · obtain ⟨c', at'⟩ := PyProof.Rows.sortedHeap_at (vs := its) (out := List.toArray out) gL
    have perm := List.mergeSort_perm ys (dataLe false PyData.str)
    have mm : strD (ys.mergeSort (dataLe false PyData.str)) = sortD (strD ys) :=
      (PySem.W.sort_maps (r := dataLe false PyData.str) (s := dataLe false fun d : PyData => d) PyData.str (fun _ _ _ _ => rfl))
    have lq : ((ys.mergeSort (dataLe false PyData.str)).map V.str).length ≤ sizeLine := by
      rw [List.length_map, perm.length_eq]
      exact Nat.le_trans hz (by decide)
    refine wpAny_pure ⟨_, rfl, .ref h'.objs.size, _, I1.laid (t' := tk) (o := .lst ((ys.mergeSort (dataLe false PyData.str)).map V.str)) (fun b u e => ?_) (Nat.le_refl _) ⟨lq, out, c', strs_each eo, at'⟩, rfl, q _ _ (I1.hok.fresh (Nat.le_refl _)) mm⟩
    have hb : b < h'.objs.size := Heap.lt_size e
    rw [PyProof.Rows.sortedHeap_old (Nat.ne_of_lt hb) (by rw [size_push']; exact Nat.lt_succ_of_lt hb)]
    exact Heap.get?_push_of_some _ e
end
/-- sorted(d.values()), the values texts -/
def eSortV {c : Cf} (d : EX c) : EX c where
  te := tCB rSortV (tCons (tBM0 c.K "dict" rVals d.te) tNil)
  w env st Q := d.w env st fun t st1 => dctL st1 t fun ps => match texts (ps.map (·.2)) with | some ys => ys.length ≤ 1000 ∧ Q (.lst ((ys.mergeSort (dataLe false PyData.str)).map .str)) st1 | none => False
  ok L F env st σ H Qc Q r s h k := d.ok L F env st σ H _ _ r s h fun v t st1 H1 L1 g1 r1 a1 h1 => by
    obtain ⟨b, kvs, ps, rfl, hb, pr, h, z⟩ := dctL_ok r1 a1 h1
    split at h
    · rename_i ys ey
      refine ⟨?_, b, kvs, rfl, rfl, hb, fun p hp => ⟨p, b, kvs, ys, rfl, upd_same, by rw [upd_ne (ne_of_none hb hp)]; exact hb, texts_vs pr.vals ey, h.1, fun q zs hq ez => ?_⟩⟩
      · show tyV c.K "dict" _ _
        exact .inr (.inr (.inl ⟨rfl, .inl ⟨kvs, hb⟩⟩))
      · have e1 : zs = ys.mergeSort (dataLe false PyData.str) := by
          have e2 : strD zs = strD (ys.mergeSort (dataLe false PyData.str)) := by
            rw [ez]
            exact (PySem.W.sort_maps (r := dataLe false PyData.str) (s := dataLe false fun d : PyData => d) PyData.str (fun _ _ _ _ => rfl)).symm
          exact strD_inj e2
        subst e1
        have go : Go L1 H1 L1 (upd (upd H1 p (viewO "dict_values" p b)) q (.lst ((ys.mergeSort (dataLe false PyData.str)).map V.str))) := (Go.lay hp).trans (Go.lay hq)
        have r2 := (r1.lay (o := viewO "dict_values" p b) hp).lay (o := .lst ((ys.mergeSort (dataLe false PyData.str)).map V.str)) hq
        have ts : ∀ l : List Str, Tas c L1 F (upd (upd H1 p (viewO "dict_values" p b)) q (.lst ((ys.mergeSort (dataLe false PyData.str)).map V.str))) (l.map V.str) (l.map T.str) := fun l => by
          induction l with
          | nil => exact .nil
          | cons x l ih => exact .cons (.str x) ih
        exact k _ (.lst _) st1 _ L1 (g1.trans go) r2 (.lst ((r1.lay (o := viewO "dict_values" p b) hp).fresh hq) upd_same (ts _) (by rw [List.length_map, List.length_mergeSort]; exact Nat.le_trans h.1 (by decide))) h.2
    · exact h.elim
end Vw

/-! xs[::-1], is of bools, isinstance of an object and a class of the language, + to be changed -/
namespace Vw
open PySem PySem.Spec PyProof.Rows L2 Gd
section
variable {c : Cf}
/-- xs[::-1] -/
def eRev (e : EX c) : EX c where
  te := tRevL c.K e.te
  w env st Q := e.w env st fun t st1 => asL st1 t fun xs _ => Q (.lst xs.reverse) st1
  ok L F env st σ H Qc Q r s h k := e.ok L F env st σ H _ _ r s h fun v t st1 H1 L1 g1 r1 a1 h1 => by
    obtain ⟨p, vs, xs, _, rfl, h, hp, as, z, _, _⟩ := asL_ok r1 a1 h1
    exact ⟨p, vs, rfl, .inl (.inl hp), fun d hd => k _ (.lst xs.reverse) st1 _ L1 (g1.trans (Go.lay hd)) (r1.lay hd) (.lst (r1.fresh hd) upd_same (as.go (Go.lay hd)).rev (by rw [List.length_reverse]; exact z)) h⟩
/-- is, both bools -/
def oIsB : O2 c where
  r := rIsB
  w st a b Q := match a, b with | .bl p, .bl q => Q (.bl (decide (p = q))) st | _, _ => False
  ok L F st H x y a b Qc Q r h1 h2 h k := by
    match a, b, h1, h2, h with
    | .bl p, .bl q, .bl _, .bl _, h => exact ⟨p, q, rfl, rfl, k.here r (.bl _) h⟩
/-- isinstance(x, a class of the language), x perhaps an object of the class at C -/
def eIsiB (C : Addr) (ic : C8.InsC c.K C) (e : EX c) (n : String) (hn : n ∈ ["int", "bool", "str", "list", "tuple", "dict"]) (ni : PySem.W.kitOne c.K (.ref C) (.type n) = some false) : EX c where
  te := tCB (rIsi c.K) (tCons e.te (tCons (tC (.ty n)) tNil))
  w env st Q := e.w env st fun t st1 => (isO C st1 t ∧ Q (.bl false) st1) ∨ (kindS st1 t ∈ ["NoneType", "bool", "int", "str", "list", "tuple", "dict"] ∧ Q (.bl (isA (kindS st1 t) n)) st1)
  ok L F env st σ H Qc Q r s h k := e.ok L F env st σ H _ _ r s h fun v t st1 H1 L1 g1 r1 a1 h1 => by
    rcases h1 with ⟨ho, h⟩ | ⟨hm, h⟩
    · obtain ⟨p, dx, fs, ps, rfl, hp, _, pr⟩ := objW_ok r1 a1 ho
      exact ⟨.ref p, .ty n, .ref C, .type n, false, rfl, .ty n, .base (.ins hp ic.cl ic.ha ic.hn ic.htk ic.hm), ni, (k.go g1).here r1 (.bl _) h⟩
    · exact ⟨v, .ty n, _, _, _, rfl, .ty n, kind_ok r1 a1 rfl (fun z => by rw [z] at hm; simp at hm), kit_isA hm hn, (k.go g1).here r1 (.bl _) h⟩
/-- + of lists, to be changed -/
def oAddC : O2 c where
  r := rAddV c.K
  w st a b Q := asL st a fun xs _ => asL st b fun ys _ => xs.length + ys.length ≤ big ∧ refsInL (fun m => decide (m < st.length)) (xs ++ ys) = true ∧ Q (.ref st.length) (st ++ [.lst (xs ++ ys)])
  ok L F st H x y a b Qc Q r h1 h2 h k := by
    obtain ⟨p, vs, xs, _, rfl, h, hp, as, z, _, _⟩ := asL_ok r h1 h
    obtain ⟨q, ws, ys, _, rfl, ⟨z2, lo, h⟩, hq, bs, _, _, _⟩ := asL_ok r h2 h
    refine .inl (.inr (.inr ⟨p, q, vs, ws, rfl, rfl, hp, hq, ?_, fun d hd => ?_⟩))
    · rw [as.length, bs.length]; exact Nat.le_trans z2 (by decide)
    · exact k _ (.ref st.length) _ _ (L ++ [some d]) (Go.cell hd) (r.newCell (x := .lst (xs ++ ys)) hd ⟨_, upd_same, (as.go (Go.cell hd)).app (bs.go (Go.cell hd)), by rw [List.length_append]; exact z2⟩ lo) (Ta.newRef r) h
end
end Vw

/-! what the program does to trees -/
namespace LW
open PySem PySem.Spec PyProof.Rows L2 Gd Vw
structure Bk (c : Cf) where
  C : Addr
  cl : Cls c.K C
  ic : C8.InsC c.K C
  nk : NoKin c.K C
  n__things : NoAttr c.K C "_things"
  n__truths : NoAttr c.K C "_truths"
  n__answers : NoAttr c.K C "_answers"
  n_kept : NoAttr c.K C "kept"
  df : Addr
  dft : Vw.Dft c.K df
  ni_list : PySem.W.kitOne c.K (.ref C) (.type "list") = some false
-- is_name: 0 thing
def Dis_name (c : Cf) : SX c :=
    (sSeq (sIf (tOrr (tNo (tE (eIsi (eV 0) "str" (by decide)))) (tNo (tTe (eChain oLe oLe (eI 1) (eCB oLen (aC (eV 0) aN)) (eI 8)))))
      (sRet (eB false))
      sNx)
    (sRet (eAnd (eBM0 (mS0 (fun _ => True) Txt.isascii) (eV 0)) (eAnd (eBM0 (mS0 (fun _ => True) Txt.isalpha) (eV 0)) (eBM0 (mS0 (fun _ => True) Txt.islower) (eV 0))))))
abbrev mis_name (c : Cf) : Mn := mD (Dis_name c) 1 0
-- is_pair: 0 thing
def Dis_pair (c : Cf) : SX c :=
    (sSeq (sIf (tOrr (tNo (tE (eIsi (eV 0) "tuple" (by decide)))) (tTe (eOp oNe (eCB oLen (aC (eV 0) aN)) (eI 2))))
      (sRet (eB false))
      sNx)
    (sRet (eAnd (eC0 (mis_name c) (aC (eOp oIx (eV 0) (eI 0)) aN)) (eAnd (eC0 (mis_name c) (aC (eOp oIx (eV 0) (eI 1)) aN)) (eOp oNe (eOp oIx (eV 0) (eI 0)) (eOp oIx (eV 0) (eI 1)))))))
abbrev mis_pair (c : Cf) : Mn := mD (Dis_pair c) 1 0
-- is_answer: 0 thing
def Dis_answer (c : Cf) : SX c :=
    (sSeq (sIf (tOrr (tNo (tE (eIsi (eV 0) "tuple" (by decide)))) (tTe (eOp oNe (eCB oLen (aC (eV 0) aN)) (eI 3))))
      (sRet (eB false))
      sNx)
    (sRet (eAnd (eC0 (mis_pair c) (aC (eSl (eV 0) pN (pS (eI 2))) aN)) (eIsi (eOp oIx (eV 0) (eI 2)) "bool" (by decide)))))
abbrev mis_answer (c : Cf) : Mn := mD (Dis_answer c) 1 0
-- are_names: 0 thing, 1 name
def Dare_names (c : Cf) : SX c :=
    (sSeq (sIf (tNo (tE (eIsi2 (eV 0) "list" "tuple" (by decide) (by decide))))
      (sRet (eB false))
      sNx)
    (sRet (eAnd (eCB oAll (aC (eLc (iA (eV 0)) (gN 1) tY (eC0 (mis_name c) (aC (eV 1) aN))) aN)) (eOp oEq (eCB oLenZ (aC (eCB oSet (aC (eV 0) aN)) aN)) (eCB oLen (aC (eV 0) aN))))))
abbrev mare_names (c : Cf) : Mn := mD (Dare_names c) 1 1
-- are_answers: 0 thing, 1 answer
def Dare_answers (c : Cf) : SX c :=
    (sRet (eAnd (eIsi2 (eV 0) "list" "tuple" (by decide) (by decide)) (eCB oAll (aC (eLc (iA (eV 0)) (gN 1) tY (eC0 (mis_answer c) (aC (eV 1) aN))) aN))))
abbrev mare_answers (c : Cf) : Mn := mD (Dare_answers c) 1 1
-- first_stranger: 0 things, 1 pairs, 2 known, 3 pair, 4 name
def Dfirst_stranger (c : Cf) : SX c :=
    (sSeq (sAsg (eCB oSet (aC (eV 0) aN)) (gN 2))
    (sSeq (sFor (iA (eV 1)) (gN 3)
      (sFor (iA (eV 3)) (gN 4)
        (sIf (tTe (eOp oNinS (eV 4) (eV 2)))
          (sRet (eV 4))
          sNx)))
    (sRet eN)))
abbrev mfirst_stranger (c : Cf) : Mn := mD (Dfirst_stranger c) 2 3
-- pair_of: 0 answer, 1 x, 2 y, 3 _
def Dpair_of (c : Cf) : SX c :=
    (sSeq (sAsg (eV 0) (gT 3 (gsC (gN 1) (gsC (gN 2) (gsC (gN 3) gsN)))))
    (sRet (eTup (aC (eV 1) (aC (eV 2) aN)))))
abbrev mpair_of (c : Cf) : Mn := mD (Dpair_of c) 1 3
-- ends_of: 0 answer, 1 x, 2 y, 3 truth
def Dends_of (c : Cf) : SX c :=
    (sSeq (sAsg (eV 0) (gT 3 (gsC (gN 1) (gsC (gN 2) (gsC (gN 3) gsN)))))
    (sSeq (sIf (tE (eV 3))
      (sRet (eTup (aC (eV 1) (aC (eV 2) aN))))
      sNx)
    (sRet (eTup (aC (eV 2) (aC (eV 1) aN))))))
abbrev mends_of (c : Cf) : Mn := mD (Dends_of c) 1 3
-- Book.__contains__: 0 self, 1 x
def DBook__contains__ {c : Cf} (B : Bk c) : SX c :=
    (sRet (eAnd (eC0 (mis_answer c) (aC (eV 1) aN)) (eOp oEq (eDGet1 (eFld B.C "_truths" B.cl B.n__truths (eV 0)) (eC0 (mpair_of c) (aC (eV 1) aN))) (eOp oIx (eV 1) (eI 2)))))
abbrev mBook__contains__ {c : Cf} (B : Bk c) : Mn := mD (DBook__contains__ B) 2 0
-- is_walk: 0 book, 1 thing, 2 ends, 3 answer, 4 ahead, 5 behind
def Dis_walk {c : Cf} (B : Bk c) : SX c :=
    (sSeq (sIf (tOrr (tNo (tE (eIsiB B.C B.ic (eV 1) "list" (by decide) B.ni_list))) (tNo (tE (eCB oAll (aC (eLc (iA (eV 1)) (gN 3) tY (eOp (oInO B.C (mBook__contains__ B)) (eV 3) (eV 0))) aN)))))
      (sRet (eB false))
      sNx)
    (sSeq (sAsg (eLc (iA (eV 1)) (gN 3) tY (eC0 (mends_of c) (aC (eV 3) aN))) (gN 2))
    (sRet (eCB oAll (aC (eLc (iZi (aC (eV 2) (aC (eSl (eV 2) (pS (eI 1)) pN) aN))) (gT 2 (gsC (gN 4) (gsC (gN 5) gsN))) tY (eOp oEq (eOp oIx (eV 4) (eI 1)) (eOp oIx (eV 5) (eI 0)))) aN)))))
abbrev mis_walk {c : Cf} (B : Bk c) : Mn := mD (Dis_walk B) 2 4
-- weight_of: 0 walk, 1 betters, 2 answer
def Dweight_of (c : Cf) : SX c :=
    (sSeq (sAsg (eCB oLen (aC (eLc (iA (eV 0)) (gN 2) (tE (eOp oIx (eV 2) (eI 2))) (eV 2)) aN)) (gN 1))
    (sRet (eTup (aC (eOp oSub (eV 1) (eOp oSub (eCB oLen (aC (eV 0) aN)) (eV 1))) (aC (eV 1) aN)))))
abbrev mweight_of (c : Cf) : Mn := mD (Dweight_of c) 1 2
-- things_through: 0 walk, 1 answer
def Dthings_through (c : Cf) : SX c :=
    (sRet (eOp oAddC (eLst (aC (eOp oIx (eC0 (mends_of c) (aC (eOp oIx (eV 0) (eI 0)) aN)) (eI 0)) aN)) (eLc (iA (eV 0)) (gN 1) tY (eOp oIx (eC0 (mends_of c) (aC (eV 1) aN)) (eI 1)))))
abbrev mthings_through (c : Cf) : Mn := mD (Dthings_through c) 1 1
-- Book.__init__: 0 self, 1 things, 2 answers, 3 stranger, 4 truths, 5 answer, 6 pair, 7 truth, 8 x, 9 y
def DBook__init__ {c : Cf} (B : Bk c) : SX c :=
    (sSeq (sIf (tNo (tE (eC0 (mare_names c) (aC (eV 1) aN))))
      sNever
      sNx)
    (sSeq (sIf (tNo (tE (eC0 (mare_answers c) (aC (eV 2) aN))))
      sNever
      sNx)
    (sSeq (sAsg (eC0 (mfirst_stranger c) (aC (eV 1) (aC (eLc (iA (eV 2)) (gN 5) tY (eC0 (mpair_of c) (aC (eV 5) aN))) aN))) (gN 3))
    (sSeq (sIf (tTe (eOp oNotN (eV 3) eN))
      sNever
      sNx)
    (sSeq (sAsg eDTC (gN 4))
    (sSeq (sFor (iA (eV 2)) (gN 5)
      (sSeq (sPar 6 7 (aC (eC0 (mpair_of c) (aC (eV 5) aN)) (aC (eOp oIx (eV 5) (eI 2)) aN)))
      (sSeq (sIf (tTe (eOp oNe (eDGet2 (eV 4) (eV 6) (eV 7)) (eV 7)))
        sNever
        sNx)
      (sDPt (eV 4) (eV 6) (eV 7)))))
    (sSeq (sFldC B.C "_things" B.cl B.n__things (eV 0) (eCB oSort (aC (eV 1) aN)))
    (sSeq (sFrz 4 (sFldC B.C "_truths" B.cl B.n__truths (eV 0) (eV 4)))
    (sSeq (sFldC B.C "_answers" B.cl B.n__answers (eV 0) (eLc (iA (eCB oSortDT (aC (eV 4) aN))) (gT 2 (gsC (gN 8) (gsC (gN 9) gsN))) tY (eTup (aC (eV 8) (aC (eV 9) (aC (eDGet (eV 4) (eTup (aC (eV 8) (aC (eV 9) aN)))) aN))))))
    (sFldC B.C "kept" B.cl B.n_kept (eV 0) eDK))))))))))
abbrev mBook__init__ {c : Cf} (B : Bk c) : Mn := mD (DBook__init__ B) 3 7
end LW

/-! what the law does to trees -/
namespace LW
open PySem PySem.Spec PyProof.Rows L2 Gd Vw
-- _law_bag: 0 _law_script, 1 _law_cell
def D_law_bag (c : Cf) : SX c :=
    (sRet (eLstC (aC (eI 0) (aC (eI 1234567891) (aC (eI 0) (aC (eLc (iA (eSl (eV 0) pN (pS (eI 63)))) (gN 1) tY (eCB oAbs (aC (eV 1) aN))) aN))))))
abbrev m_law_bag (c : Cf) : Mn := mD (D_law_bag c) 1 1
-- _law_take: 0 _law_bag_here, 1 _law_many, 2 _law_early, 3 _law_second, 4 _law_cell, 5 _law_mixed, 6 _law_drawn
def D_law_take (c : Cf) : SX c :=
    (sSeq (sIf (tTe (eOp oEq (eOp oIx (eV 0) (eI 0)) (eI 0)))
      (sSeq (sAsg (eOp oIx (eOp oAdd (eSl (eOp oIx (eV 0) (eI 3)) (pS (eOp oIx (eV 0) (eI 2))) pN) (eLst (aC (eI 0) aN))) (eI 0)) (gN 4))
      (sSeq (sAugS (eV 0) (eI 2) (eI 1))
      (sSeq (sAsH (eOp oMul (eV 4) (eCB oInt (aC (eOp oGe (eV 4) (eOp oPow (eI 10) (eI 18))) aN))) (hSub (eV 0) (eI 0)))
      (sSeq (sAsg (eOp oAdd (eOp oAdd (eOp oMul (eOp oIx (eV 0) (eI 1)) (eI 48271)) (eOp oMod (eCB oInt (aC (eV 4) aN)) (eI 2147483647))) (eOp oMul (eI 7919) (eOp oIx (eV 0) (eI 2)))) (gN 5))
      (sAsH (eOp oMod (eCB oInt (aC (eV 5) aN)) (eI 2147483647)) (hSub (eV 0) (eI 1)))))))
      sNx)
    (sSeq (sIf (tTe (eOp oGt (eOp oIx (eV 0) (eI 0)) (eI 0)))
      (sSeq (sAsH (eTup (aC (eOp oMod (eCB oInt (aC (eOp oIx (eV 0) (eI 0)) aN)) (eV 1)) (aC (eOp oDiv (eCB oInt (aC (eOp oIx (eV 0) (eI 0)) aN)) (eV 1)) aN))) (hT 2 (hsC (hN 6) (hsC (hSub (eV 0) (eI 0)) hsN))))
      (sRet (eV 6)))
      sNx)
    (sSeq (sAsg (eOp oMod (eCB oInt (aC (eOp oMul (eOp oAdd (eOp oIx (eV 0) (eI 1)) (eI 1)) (eI 39373)) aN)) (eI 1000000007)) (gN 2))
    (sSeq (sAsg (eOp oMod (eCB oInt (aC (eOp oMul (eOp oMod (eCB oInt (aC (eOp oMul (eV 2) (eV 2)) aN)) (eI 998244353)) (eI 30011)) aN)) (eI 998244353)) (gN 3))
    (sRet (eOp oMod (eCB oInt (aC (eOp oDiv (eV 3) (eI 7)) aN)) (eV 1)))))))
abbrev m_law_take (c : Cf) : Mn := mD (D_law_take c) 2 5
-- _law_alike: 0 _law_found, 1 _law_due
def D_law_alike (c : Cf) : SX c :=
    (sRet (eAnd (eOp oEq (eV 0) (eV 1)) (eOp oEq (eCB oRepr (aC (eV 0) aN)) (eCB oRepr (aC (eV 1) aN)))))
abbrev m_law_alike (c : Cf) : Mn := mD (D_law_alike c) 2 0
-- _law_pick: 0 _law_bag_here, 1 _law_some
def D_law_pick (c : Cf) : SX c :=
    (sRet (eOp oIx (eV 1) (eC0 (m_law_take c) (aC (eV 0) (aC (eCB oLen (aC (eV 1) aN)) aN)))))
abbrev m_law_pick (c : Cf) : Mn := mD (D_law_pick c) 2 0
-- _law_mix: 0 _law_bag_here, 1 _law_some, 2 _law_rest, 3 _law_found
def D_law_mix (c : Cf) : SX c :=
    (sSeq (sPar 2 3 (aC (eCB oListC (aC (eV 1) aN)) (aC (eLstC aN) aN)))
    (sSeq (sWh (tTe (eOp oNe (eV 2) (eLst aN)))
      (sDrop (eBM mAppend (eV 3) (aC (eBM mPopAt (eV 2) (aC (eC0 (m_law_take c) (aC (eV 0) (aC (eCB oLen (aC (eV 2) aN)) aN))) aN)) aN))))
    (sRet (eV 3))))
abbrev m_law_mix (c : Cf) : Mn := mD (D_law_mix c) 2 2
-- _law_names: 0 _law_bag_here, 1 _law_many, 2 _law_letters, 3 _law_words, 4 _law_stem, 5 _law_way, 6 _law_turn, 7 _law_k
def D_law_names (c : Cf) : SX c :=
    (sSeq (sAsg (eTup (aC (eC0 (m_law_take c) (aC (eV 0) (aC (eI 3) aN))) (aC (eC0 (m_law_take c) (aC (eV 0) (aC (eI 26) aN))) aN))) (gT 2 (gsC (gN 5) (gsC (gN 6) gsN))))
    (sSeq (sAsg (eS "abcdefghijklmnopqrstuvwxyz") (gN 2))
    (sSeq (sAsg (eLst (aC (eS "better") (aC (eS "not") (aC (eS "things") (aC (eS "step") (aC (eS "say") (aC (eS "a") (aC (eS "aa") (aC (eS "none") (aC (eS "reached") (aC (eS "open") (aC (eS "zzzzzzzz") aN)))))))))))) (gN 3))
    (sSeq (sIf (tTe (eOp oEq (eV 5) (eI 0)))
      (sRet (eC0 (m_law_mix c) (aC (eV 0) (aC (eSl (eCB oList (aC (eS "abcdef") aN)) pN (pS (eV 1))) aN))))
      sNx)
    (sSeq (sIf (tTe (eOp oEq (eV 5) (eI 1)))
      (sRet (eC0 (m_law_mix c) (aC (eV 0) (aC (eSl (eSl (eOp oAdd (eV 3) (eV 3)) (pS (eOp oMod (eCB oInt (aC (eV 6) aN)) (eI 11))) pN) pN (pS (eV 1))) aN))))
      sNx)
    (sSeq (sAsg (eBM mJoin (eS "") (aC (eLc (iR1 (aC (eC0 (m_law_take c) (aC (eV 0) (aC (eI 8) aN))) aN)) (gN 7) tY (eOp oIx (eV 2) (eC0 (m_law_take c) (aC (eV 0) (aC (eI 26) aN))))) aN)) (gN 4))
    (sRet (eC0 (m_law_mix c) (aC (eV 0) (aC (eLc (iR1 (aC (eV 1) aN)) (gN 7) tY (eOp oAdd (eV 4) (eOp oIx (eV 2) (eOp oMod (eCB oInt (aC (eOp oAdd (eV 6) (eOp oMul (eI 5) (eV 7))) aN)) (eI 26))))) aN))))))))))
abbrev m_law_names (c : Cf) : Mn := mD (D_law_names c) 2 6
-- _law_pairs: 0 _law_things, 1 _law_found, 2 _law_x, 3 _law_y
def D_law_pairs (c : Cf) : SX c :=
    (sSeq (sAsg (eLstC aN) (gN 1))
    (sSeq (sFor (iA (eCB oSort (aC (eV 0) aN))) (gN 2)
      (sDrop (eBM mExtend (eV 1) (aC (eLc (iA (eCB oSort (aC (eV 0) aN))) (gN 3) (tTe (eOp oNe (eV 3) (eV 2))) (eTup (aC (eV 2) (aC (eV 3) aN)))) aN))))
    (sRet (eV 1))))
abbrev m_law_pairs (c : Cf) : Mn := mD (D_law_pairs c) 1 3
-- _law_any: 0 _law_bag_here, 1 _law_things, 2 _law_many, 3 _law_told_here, 4 _law_x, 5 _law_y
def D_law_any (c : Cf) : SX c :=
    (sSeq (sAsg (eSl (eC0 (m_law_mix c) (aC (eV 0) (aC (eC0 (m_law_pairs c) (aC (eV 1) aN)) aN))) pN (pS (eV 2))) (gN 3))
    (sRet (eLc (iA (eV 3)) (gT 2 (gsC (gN 4) (gsC (gN 5) gsN))) tY (eTup (aC (eV 4) (aC (eV 5) (aC (eOp oLt (eC0 (m_law_take c) (aC (eV 0) (aC (eI 5) aN))) (eI 3)) aN)))))))
abbrev m_law_any (c : Cf) : Mn := mD (D_law_any c) 3 3
-- _law_leads: 0 _law_answer
def D_law_leads (c : Cf) : SX c :=
    (sRet (eIf (tE (eOp oIx (eV 0) (eI 2))) (eTup (aC (eOp oIx (eV 0) (eI 0)) (aC (eOp oIx (eV 0) (eI 1)) aN))) (eTup (aC (eOp oIx (eV 0) (eI 1)) (aC (eOp oIx (eV 0) (eI 0)) aN)))))
abbrev m_law_leads (c : Cf) : Mn := mD (D_law_leads c) 1 0
-- _law_weight: 0 _law_walk_here, 1 _law_betters, 2 _law_answer
def D_law_weight (c : Cf) : SX c :=
    (sSeq (sAsg (eCB oLen (aC (eLc (iA (eV 0)) (gN 2) (tE (eOp oIx (eV 2) (eI 2))) (eV 2)) aN)) (gN 1))
    (sRet (eTup (aC (eOp oSub (eV 1) (eOp oSub (eCB oLen (aC (eV 0) aN)) (eV 1))) (aC (eV 1) aN)))))
abbrev m_law_weight (c : Cf) : Mn := mD (D_law_weight c) 1 2
-- _law_walk: 0 _law_bag_here, 1 _law_answers, 2 _law_many, 3 _law_walk_here, 4 _law_k, 5 _law_after, 6 _law_one
def D_law_walk (c : Cf) : SX c :=
    (sSeq (sAsg (eLstC aN) (gN 3))
    (sSeq (sFor (iR1 (aC (eC0 (m_law_take c) (aC (eV 0) (aC (eOp oAdd (eV 2) (eI 1)) aN))) aN)) (gN 4)
      (sSeq (sAsg (eLc (iA (eV 1)) (gN 6) (tOrr (tTe (eOp oEq (eV 3) (eLst aN))) (tTe (eOp oEq (eOp oIx (eC0 (m_law_leads c) (aC (eV 6) aN)) (eI 0)) (eOp oIx (eC0 (m_law_leads c) (aC (eOp oIx (eV 3) (eUn oNeg (eI 1))) aN)) (eI 1))))) (eV 6)) (gN 5))
      (sIf (tTe (eOp oNe (eV 5) (eLst aN)))
        (sDrop (eBM mAppend (eV 3) (aC (eC0 (m_law_pick c) (aC (eV 0) (aC (eV 5) aN))) aN)))
        sNx)))
    (sRet (eV 3))))
abbrev m_law_walk (c : Cf) : Mn := mD (D_law_walk c) 3 4
-- _law_is_walk: 0 _law_answers, 1 _law_thing, 2 _law_texts, 3 _law_answer, 4 _law_item, 5 _law_k
def D_law_is_walk {c : Cf} (B : Bk c) : SX c :=
    (sSeq (sIf (tNo (tE (eIsiB B.C B.ic (eV 1) "list" (by decide) B.ni_list)))
      (sRet (eB false))
      sNx)
    (sSeq (sAsg (eLc (iA (eV 0)) (gN 3) tY (eCB oRepr (aC (eV 3) aN))) (gN 2))
    (sSeq (sIf (tTe (eOp oNe (eLc (iA (eV 1)) (gN 4) (tTe (eOp oNin (eCB oRepr (aC (eV 4) aN)) (eV 2))) (eV 4)) (eLst aN)))
      (sRet (eB false))
      sNx)
    (sRet (eOp oEq (eLc (iR2 (aC (eI 1) (aC (eCB oLen (aC (eV 1) aN)) aN))) (gN 5) (tTe (eOp oNe (eOp oIx (eC0 (m_law_leads c) (aC (eOp oIx (eV 1) (eOp oSub (eV 5) (eI 1))) aN)) (eI 1)) (eOp oIx (eC0 (m_law_leads c) (aC (eOp oIx (eV 1) (eV 5)) aN)) (eI 0)))) (eV 5)) (eLst aN))))))
abbrev m_law_is_walk {c : Cf} (B : Bk c) : Mn := mD (D_law_is_walk B) 2 4
-- _law_odd_walk: 0 _law_bag_here, 1 _law_walk_here, 2 _law_things, 3 _law_odd, 4 _law_deep, 5 _law_k, 6 _law_x, 7 _law_y, 8 _law_way, 9 _law_at, 10 _law_one, 11 _law_other, 12 _law_truth
def D_law_odd_walk (c : Cf) : SX c :=
    (sSeq (sAsg (eC0 (m_law_pick c) (aC (eV 0) (aC (eC0 (m_law_pairs c) (aC (eV 2) aN)) aN))) (gT 2 (gsC (gN 6) (gsC (gN 7) gsN))))
    (sSeq (sAsg (eLstC (aC eN (aC (eI 5) (aC (eB true) (aC (eS "walk") (aC (eTup aN) (aC (eLst (aC (eTup aN) aN)) (aC eDK (aC (eOp oMul (eLst (aC eN aN)) (eI 9000)) (aC (eLst (aC (eTup (aC (eV 6) (aC (eV 7) aN))) aN)) (aC (eLst (aC (eTup (aC (eV 6) (aC (eV 7) (aC (eI 1) aN)))) aN)) (aC (eLst (aC (eTup (aC (eV 6) (aC (eV 7) (aC (eS "True") aN)))) aN)) aN)))))))))))) (gN 3))
    (sSeq (sAsg (eOp oAddC (eV 3) (eLst (aC (eLst (aC (eLst (aC (eV 6) (aC (eV 7) (aC (eB true) aN)))) aN)) (aC (eLst (aC (eTup (aC (eV 6) (aC (eV 6) (aC (eB true) aN)))) aN)) (aC (eLst (aC (eTup (aC (eV 6) (aC (eS "nobody") (aC (eB false) aN)))) aN)) (aC (eLst (aC (eTup (aC (eV 6) (aC (eV 7) (aC (eB true) (aC (eV 6) aN))))) aN)) (aC (eLst (aC (eTup (aC (eV 6) (aC (eV 7) (aC eN aN)))) aN)) aN))))))) (gN 3))
    (sSeq (sAsg (eLst (aC (eTup (aC (eV 6) (aC (eV 7) (aC (eB true) aN)))) aN)) (gN 4))
    (sSeq (sFor (iR1 (aC (eI 30) aN)) (gN 5)
      (sAsg (eLst (aC (eV 4) aN)) (gN 4)))
    (sSeq (sAsg (eOp oAddC (eV 3) (eLst (aC (eCB oTuple (aC (eV 1) aN)) (aC (eLst (aC (eV 1) aN)) (aC (eLst (aC (eV 6) aN)) (aC (eV 4) (aC (eLst (aC (eTup (aC (eV 6) (aC (eLst aN) (aC (eB true) aN)))) aN)) (aC (eLst (aC (eTup (aC (eLst (aC (eV 6) aN)) (aC (eV 7) (aC (eB true) aN)))) aN)) (aC (eLst (aC (eTup (aC (eV 6) (aC (eV 7) (aC (eLst aN) aN)))) aN)) aN))))))))) (gN 3))
    (sSeq (sDrop (eBM mAppend (eV 3) (aC (eOp oAdd (eOp oAdd (eSl (eV 1) pN (pS (eI 1))) (eLc (iA (eSl (eV 1) (pS (eI 1)) (pS (eI 2)))) (gT 3 (gsC (gN 10) (gsC (gN 11) (gsC (gN 12) gsN)))) tY (eTup (aC (eV 10) (aC (eV 11) (aC (eCB oInt (aC (eV 12) aN)) aN)))))) (eSl (eV 1) (pS (eI 2)) pN)) aN)))
    (sSeq (sDrop (eBM mAppend (eV 3) (aC (eOp oAdd (eLc (iA (eSl (eV 1) pN (pS (eI 1)))) (gT 3 (gsC (gN 10) (gsC (gN 11) (gsC (gN 12) gsN)))) tY (eTup (aC (eV 10) (aC (eV 11) (aC (eCB oInt (aC (eV 12) aN)) aN))))) (eSl (eV 1) (pS (eI 1)) pN)) aN)))
    (sSeq (sPar 8 9 (aC (eC0 (m_law_take c) (aC (eV 0) (aC (eI 8) aN))) (aC (eC0 (m_law_take c) (aC (eV 0) (aC (eOp oAdd (eCB oLen (aC (eV 1) aN)) (eI 1)) aN))) aN)))
    (sSeq (sIf (tTe (eOp oLt (eV 8) (eI 2)))
      (sRet (eOp oIx (eV 3) (eC0 (m_law_take c) (aC (eV 0) (aC (eI 25) aN)))))
      sNx)
    (sSeq (sIf (tTe (eOp oEq (eV 8) (eI 2)))
      (sRet (eRev (eV 1)))
      sNx)
    (sSeq (sIf (tTe (eOp oEq (eV 8) (eI 3)))
      (sRet (eOp oAdd (eOp oAdd (eSl (eV 1) pN (pS (eV 9))) (eLst (aC (eTup (aC (eV 6) (aC (eV 7) (aC (eOp oEq (eC0 (m_law_take c) (aC (eV 0) (aC (eI 2) aN))) (eI 0)) aN)))) aN))) (eSl (eV 1) (pS (eV 9)) pN)))
      sNx)
    (sSeq (sIf (tTe (eOp oEq (eV 8) (eI 4)))
      (sRet (eOp oAdd (eSl (eV 1) pN (pS (eV 9))) (eSl (eV 1) (pS (eOp oAdd (eV 9) (eI 1))) pN)))
      sNx)
    (sSeq (sIf (tTe (eOp oEq (eV 8) (eI 5)))
      (sRet (eOp oAdd (eV 1) (eSl (eV 1) pN (pS (eV 9)))))
      sNx)
    (sSeq (sIf (tTe (eOp oEq (eV 8) (eI 6)))
      (sRet (eOp oAdd (eOp oAdd (eSl (eV 1) pN (pS (eV 9))) (eLc (iA (eSl (eV 1) (pS (eV 9)) (pS (eOp oAdd (eV 9) (eI 1))))) (gT 3 (gsC (gN 10) (gsC (gN 11) (gsC (gN 12) gsN)))) tY (eTup (aC (eV 10) (aC (eV 11) (aC (eNot (eV 12)) aN)))))) (eSl (eV 1) (pS (eOp oAdd (eV 9) (eI 1))) pN)))
      sNx)
    (sRet (eOp oAdd (eSl (eV 1) (pS (eV 9)) pN) (eSl (eV 1) pN (pS (eV 9))))))))))))))))))))
abbrev m_law_odd_walk (c : Cf) : Mn := mD (D_law_odd_walk c) 3 10
-- _law_told: 0 _law_walk_here, 1 _law_answer
def D_law_told (c : Cf) : SX c :=
    (sRet (eOp oAdd (eLst (aC (eOp oIx (eC0 (m_law_leads c) (aC (eOp oIx (eV 0) (eI 0)) aN)) (eI 0)) aN)) (eLc (iA (eV 0)) (gN 1) tY (eOp oIx (eC0 (m_law_leads c) (aC (eV 1) aN)) (eI 1)))))
abbrev m_law_told (c : Cf) : Mn := mD (D_law_told c) 1 1
-- law: 0 _law_script, 1 _law_bag_here, 2 _law_turn, 3 _law_things, 4 _law_answers, 5 _law_book, 6 _law_k, 7 _law_walk_here, 8 _law_again, 9 _law_thing, 10 _law_looked, 11 _law_weight_here, 12 _law_told_here, 13 _law_due, 14 _law_shown
def Dlaw {c : Cf} (B : Bk c) : SX c :=
    (sSeq (sAsg (eC0T (m_law_bag c) (aC (eV 0) aN)) (gN 1))
    (sSeq (sFor (iR1 (aC (eI 4) aN)) (gN 2)
      (sSeq (sAsg (eC0 (m_law_names c) (aC (eV 1) (aC (eOp oAdd (eI 2) (eC0 (m_law_take c) (aC (eV 1) (aC (eI 5) aN)))) aN))) (gN 3))
      (sSeq (sAsg (eC0 (m_law_any c) (aC (eV 1) (aC (eV 3) (aC (eOp oAdd (eI 2) (eC0 (m_law_take c) (aC (eV 1) (aC (eI 14) aN)))) aN)))) (gN 4))
      (sSeq (sAsg (eMk B.C (mBook__init__ B) [] [] (fun _ _ _ => .nil) (aC (eV 3) (aC (eV 4) aN))) (gN 5))
      (sFor (iR1 (aC (eI 6) aN)) (gN 6)
        (sSeq (sAsg (eC0 (m_law_walk c) (aC (eV 1) (aC (eV 4) (aC (eI 9) aN)))) (gN 7))
        (sSeq (sPar 10 11 (aC (eCB oRepr (aC (eV 7) aN)) (aC (eC0 (m_law_weight c) (aC (eV 7) aN)) aN)))
        (sSeq (sIf (tOrr (tNo (tE (eC0 (m_law_alike c) (aC (eC0 (mweight_of c) (aC (eV 7) aN)) (aC (eV 11) aN))))) (tTe (eOp oNe (eCB oRepr (aC (eV 7) aN)) (eV 10))))
          (sRet (eB false))
          sNx)
        (sSeq (sFor (iR1 (aC (eOp oMul (eI 2) (eCB oInt (aC (eOp oNe (eV 7) (eLst aN)) aN))) aN)) (gN 8)
          (sSeq (sAsg (eC0T (mthings_through c) (aC (eV 7) aN)) (gN 12))
          (sSeq (sIf (tNo (tE (eC0 (m_law_alike c) (aC (eV 12) (aC (eC0 (m_law_told c) (aC (eV 7) aN)) aN)))))
            (sRet (eB false))
            sNx)
          (sDrop (eBM mAppend (eV 12) (aC eN aN))))))
        (sSeq (sIf (tTe (eOp oNe (eCB oRepr (aC (eV 7) aN)) (eV 10)))
          (sRet (eB false))
          sNx)
        (sFor (iA (eLst (aC (eV 7) (aC (eC0 (m_law_odd_walk c) (aC (eV 1) (aC (eV 7) (aC (eV 3) aN)))) (aC (eC0 (m_law_odd_walk c) (aC (eV 1) (aC (eV 7) (aC (eV 3) aN)))) (aC (eV 5) aN)))))) (gN 9)
          (sSeq (sPar 13 14 (aC (eC0 (m_law_is_walk B) (aC (eV 4) (aC (eV 9) aN))) (aC (eS "") aN)))
          (sSeq (sIf (tNo (tE (eIsiO B.C B.ic B.nk (eV 9))))
            (sAsg (eCB oRepr (aC (eV 9) aN)) (gN 14))
            sNx)
          (sSeq (sFor (iR1 (aC (eI 2) aN)) (gN 8)
            (sIf (tNo (tE (eC0 (m_law_alike c) (aC (eC0 (mis_walk B) (aC (eV 5) (aC (eV 9) aN))) (aC (eV 13) aN)))))
              (sRet (eB false))
              sNx))
          (sIf (tAn (tTe (eOp oNe (eV 14) (eS ""))) (tTe (eOp oNe (eCB oRepr (aC (eV 9) aN)) (eV 14))))
            (sRet (eB false))
            sNx)))))))))))))))
    (sRet (eAnd (eOp oIsB (eC0 (mis_walk B) (aC (eMk B.C (mBook__init__ B) [.ref B.df] [.emp] (fun _ _ _ => .cons (.emp B.dft) .nil) (aC (eLst aN) aN)) (aC (eLst aN) aN))) (eB true)) (eOp oIsB (eC0 (mis_walk B) (aC (eMk B.C (mBook__init__ B) [.ref B.df] [.emp] (fun _ _ _ => .cons (.emp B.dft) .nil) (aC (eLst aN) aN)) (aC (eLst (aC (eTup aN) aN)) aN))) (eB false))))))
abbrev mlaw {c : Cf} (B : Bk c) : Mn := mD (Dlaw B) 1 14
end LW

/-! what each combinator does, as equations -/
namespace Vw
open PySem PySem.Spec PyProof.Rows L2 Gd
open PySem.W (dataLe AllAlike Sortable)
section
variable {c : Cf}
theorem w_eV (i : Nat) : ∀ env st Q, (eV i : EX c).w env st Q = (match env[i]? with | some (some t) => Q t st | _ => False) := fun _ _ _ => rfl
theorem w_aN  : ∀ x0 st Q, (aN  : AX c).w x0 st Q = (Q [] st) := fun _ _ _ => rfl
theorem w_aC (e : EX c) (a : AX c) : ∀ env st Q, (aC e a : AX c).w env st Q = (e.w env st fun t st1 => a.w env st1 fun ts st2 => Q (t :: ts) st2) := fun _ _ _ => rfl
theorem w_eTup (a : AX c) : ∀ env st Q, (eTup a : EX c).w env st Q = (a.w env st fun ts st1 => ts.length ≤ big ∧ Q (.tup ts) st1) := fun _ _ _ => rfl
theorem w_eLst (a : AX c) : ∀ env st Q, (eLst a : EX c).w env st Q = (a.w env st fun ts st1 => ts.length ≤ big ∧ Q (.lst ts) st1) := fun _ _ _ => rfl
theorem w_eLstC (a : AX c) : ∀ env st Q, (eLstC a : EX c).w env st Q = (a.w env st fun ts st1 => ts.length ≤ big ∧ refsInL (fun m => decide (m < st1.length)) ts = true ∧ Q (.ref st1.length) (st1 ++ [.lst ts])) := fun _ _ _ => rfl
theorem w_eDK  : ∀ x0 st Q, (eDK  : EX c).w x0 st Q = (Q (.dct []) st) := fun _ _ _ => rfl
theorem w_eDKC  : ∀ x0 st Q, (eDKC  : EX c).w x0 st Q = (Q (.ref st.length) (st ++ [.dct []])) := fun _ _ _ => rfl
theorem w_eDTC  : ∀ x0 st Q, (eDTC  : EX c).w x0 st Q = (Q (.ref st.length) (st ++ [.dtt []])) := fun _ _ _ => rfl
theorem w_eOp (o : O2 c) (a b : EX c) : ∀ env st Q, (eOp o a b : EX c).w env st Q = (a.w env st fun x st1 => b.w env st1 fun y st2 => o.w st2 x y Q) := fun _ _ _ => rfl
theorem w_eUn (o : O1 c) (a : EX c) : ∀ env st Q, (eUn o a : EX c).w env st Q = (a.w env st fun x st1 => o.w st1 x Q) := fun _ _ _ => rfl
theorem w_eCB (o : ON c) (a : AX c) : ∀ env st Q, (eCB o a : EX c).w env st Q = (a.w env st fun xs st1 => o.w st1 xs Q) := fun _ _ _ => rfl
theorem w_tE (e : EX c) : ∀ env st Q, (tE e : TX c).w env st Q = (e.w env st fun t st1 => match t with | .bl b => Q b st1 | _ => False) := fun _ _ _ => rfl
theorem w_tTe (e : EX c) : ∀ env st Q, (tTe e : TX c).w env st Q = (e.w env st fun t st1 => match t with | .bl b => Q b st1 | _ => False) := fun _ _ _ => rfl
theorem w_tNo (t : TX c) : ∀ env st Q, (tNo t : TX c).w env st Q = (t.w env st fun b st1 => Q (!b) st1) := fun _ _ _ => rfl
theorem w_tAn (a b : TX c) : ∀ env st Q, (tAn a b : TX c).w env st Q = (a.w env st fun x st1 => if x = true then b.w env st1 Q else Q false st1) := fun _ _ _ => rfl
theorem w_tOrr (a b : TX c) : ∀ env st Q, (tOrr a b : TX c).w env st Q = (a.w env st fun x st1 => if x = true then Q true st1 else b.w env st1 Q) := fun _ _ _ => rfl
theorem w_tY  : ∀ x0 st Q, (tY  : TX c).w x0 st Q = (Q true st) := fun _ _ _ => rfl
theorem w_eAnd (a b : EX c) : ∀ env st Q, (eAnd a b : EX c).w env st Q = (a.w env st fun x st1 => match x with | .bl p => if p = true then b.w env st1 Q else Q (.bl false) st1 | _ => False) := fun _ _ _ => rfl
theorem w_eOr (a b : EX c) : ∀ env st Q, (eOr a b : EX c).w env st Q = (a.w env st fun x st1 => match x with | .bl p => if p = true then Q (.bl true) st1 else b.w env st1 Q | _ => False) := fun _ _ _ => rfl
theorem w_eNot (a : EX c) : ∀ env st Q, (eNot a : EX c).w env st Q = (a.w env st fun x st1 => match x with | .bl p => Q (.bl (!p)) st1 | _ => False) := fun _ _ _ => rfl
theorem w_eIf (t : TX c) (a b : EX c) : ∀ env st Q, (eIf t a b : EX c).w env st Q = (t.w env st fun x st1 => if x = true then a.w env st1 Q else b.w env st1 Q) := fun _ _ _ => rfl
theorem w_eChain (o o' : O2 c) (a b d : EX c) : ∀ env st Q, (eChain o o' a b d : EX c).w env st Q = (a.w env st fun x st1 => b.w env st1 fun y st2 => o.w st2 x y fun z st3 => match z with | .bl p => if p = true then d.w env st3 fun u st4 => o'.w st4 y u fun z st5 => match z with | .bl q => Q (.bl q) st5 | _ => False else Q (.bl false) st3 | _ => False) := fun _ _ _ => rfl
theorem w_sNx  : ∀ x0 E env st, (sNx  : SX c).w x0 E env st = (E.nx env st) := fun _ _ _ _ => rfl
theorem w_sSeq (a b : SX c) : ∀ n0 E env st, (sSeq a b : SX c).w n0 E env st = (a.w n0 { E with nx := fun env' st' => b.w n0 E env' st' } env st) := fun _ _ _ _ => rfl
theorem w_sNever  : ∀ x0 x1 x2 x3, (sNever  : SX c).w x0 x1 x2 x3 = (False) := fun _ _ _ _ => rfl
theorem w_sBrk  : ∀ x0 E env st, (sBrk  : SX c).w x0 E env st = (E.bk env st) := fun _ _ _ _ => rfl
theorem w_sCnt  : ∀ x0 E env st, (sCnt  : SX c).w x0 E env st = (E.ct env st) := fun _ _ _ _ => rfl
theorem w_sDrop (e : EX c) : ∀ x0 E env st, (sDrop e : SX c).w x0 E env st = (e.w env st fun _ st1 => E.nx env st1) := fun _ _ _ _ => rfl
theorem w_sRet (e : EX c) : ∀ x0 E env st, (sRet e : SX c).w x0 E env st = (e.w env st E.rt) := fun _ _ _ _ => rfl
theorem w_sRetN  : ∀ x0 E env st, (sRetN  : SX c).w x0 E env st = (E.rt .non st) := fun _ _ _ _ => rfl
theorem w_sIf (t : TX c) (a b : SX c) : ∀ n0 E env st, (sIf t a b : SX c).w n0 E env st = (t.w env st fun x st1 => if x = true then a.w n0 E env st1 else b.w n0 E env st1) := fun _ _ _ _ => rfl
theorem w_gN (i : Nat) : ∀ t env Q, (gN i : GX c).w t env Q = (Q (env.set i (some t))) := fun _ _ _ => rfl
theorem w_gsN  : ∀ ts env Q, (gsN  : GXs c).w ts env Q = (ts = [] ∧ Q env) := fun _ _ _ => rfl
theorem w_gsC (x : GX c) (xs : GXs c) : ∀ ts env Q, (gsC x xs : GXs c).w ts env Q = (match ts with | t :: r => x.w t env fun env' => xs.w r env' Q | [] => False) := fun _ _ _ => rfl
theorem w_gT (n : Nat) (xs : GXs c) : ∀ t env Q, (gT n xs : GX c).w t env Q = (match t with | .tup ts => ts.length = n ∧ xs.w ts env Q | _ => False) := fun _ _ _ => rfl
theorem w_sAsg (e : EX c) (x : GX c) : ∀ x0 E env st, (sAsg e x : SX c).w x0 E env st = (e.w env st fun t st1 => x.w t env fun env' => E.nx env' st1) := fun _ _ _ _ => rfl
theorem w_sPar (i j : Nat) (a : AX c) : ∀ x0 E env st, (sPar i j a : SX c).w x0 E env st = (a.w env st fun ts st1 => match ts with | [x, y] => E.nx ((env.set i (some x)).set j (some y)) st1 | _ => False) := fun _ _ _ _ => rfl
theorem w_sWh (t : TX c) (b : SX c) : ∀ n0 E env st, (sWh t b : SX c).w n0 E env st = (∃ k, whW t.w b.w n0 E k env st) := fun _ _ _ _ => rfl
theorem w_sFor (i : IX c) (x : GX c) (b : SX c) : ∀ n0 E env st, (sFor i x b : SX c).w n0 E env st = (i.w env st fun ts pin st1 => forW x.w b.w n0 E pin ts env st1) := fun _ _ _ _ => rfl
theorem w_eLc (i : IX c) (x : GX c) (t : TX c) (e : EX c) : ∀ env st Q, (eLc i x t e : EX c).w env st Q = (i.w env st fun ts pin st1 => lcW x.w t.w e.w (wipeE env x.vs) pin ts [] st1 fun out st2 => Q (.lst out) st2) := fun _ _ _ => rfl
theorem w_iA (e : EX c) : ∀ env st Q, (iA e : IX c).w env st Q = (e.w env st fun t st1 => match t with
    | .tup ts => Q ts (fun _ => True) st1
    | .emp => Q [] (fun _ => True) st1
    | .str x => x.length ≤ big ∧ Q (signT x) (fun _ => True) st1
    | .lst ts => Q ts (fun _ => True) st1
    | .ref n => asL st1 (.ref n) fun ts pin => Q ts pin st1
    | _ => False) := fun _ _ _ => rfl
theorem w_iR1 (a : AX c) : ∀ env st Q, (iR1 a : IX c).w env st Q = (a.w env st fun ts st1 => match ts with | [.int n] => -100000 ≤ n ∧ n ≤ 100000 ∧ Q (intT 0 n.toNat) (fun _ => True) st1 | _ => False) := fun _ _ _ => rfl
theorem w_iR2 (a : AX c) : ∀ env st Q, (iR2 a : IX c).w env st Q = (a.w env st fun ts st1 => match ts with | [.int m, .int n] => -100000 ≤ m ∧ m ≤ 100000 ∧ -100000 ≤ n ∧ n ≤ 100000 ∧ n - m ≤ 100000 ∧ Q (intT m (n - m).toNat) (fun _ => True) st1 | _ => False) := fun _ _ _ => rfl
theorem w_iEn (a : AX c) : ∀ env st Q, (iEn a : IX c).w env st Q = (a.w env st fun ts st1 => match ts with | [x] => asL st1 x fun ts pin => Q (ts.zipIdx.map fun p => T.tup [.int (p.2 : Nat), p.1]) pin st1 | _ => False) := fun _ _ _ => rfl
theorem w_iZi (a : AX c) : ∀ env st Q, (iZi a : IX c).w env st Q = (a.w env st fun ts st1 => match ts with | [x, y] => asL st1 x fun xs p1 => asL st1 y fun ys p2 => Q ((xs.zip ys).map fun p => T.tup [p.1, p.2]) (fun s => p1 s ∧ p2 s) st1 | _ => False) := fun _ _ _ => rfl
theorem w_oII (g : Int → Int → Int) : ∀ st a b Q, (oII g : O2 c).w st a b Q = (match a, b with | .int i, .int j => Q (.int (g i j)) st | _, _ => False) := fun _ _ _ _ => rfl
theorem w_oIB (g : Int → Int → Bool) : ∀ st a b Q, (oIB g : O2 c).w st a b Q = (match a, b with | .int i, .int j => Q (.bl (g i j)) st | _, _ => False) := fun _ _ _ _ => rfl
theorem w_oIC (C : Int → Int → Prop) (g : Int → Int → Int) : ∀ st a b Q, (oIC C g : O2 c).w st a b Q = (match a, b with | .int i, .int j => C i j ∧ Q (.int (g i j)) st | _, _ => False) := fun _ _ _ _ => rfl
theorem w_oNeg  : ∀ st a Q, (oNeg  : O1 c).w st a Q = (match a with | .int i => Q (.int (-i)) st | _ => False) := fun _ _ _ => rfl
theorem w_oAdd  : ∀ st a b Q, (oAdd  : O2 c).w st a b Q = (match a, b with
    | .int i, .int j => Q (.int (i + j)) st
    | .str x, .str y => x.length + y.length ≤ big ∧ Q (.str (x ++ y)) st
    | .tup xs, .tup ys => xs ≠ [] ∧ xs.length + ys.length ≤ big ∧ Q (.tup (xs ++ ys)) st
    | a, b => asL st a fun xs _ => asL st b fun ys _ => xs.length + ys.length ≤ big ∧ Q (.lst (xs ++ ys)) st) := fun _ _ _ _ => rfl
theorem w_oMul  : ∀ st a b Q, (oMul  : O2 c).w st a b Q = (match a, b with
    | .int i, .int j => L2.CMul i j ∧ Q (.int (i * j)) st
    | a, .int k => asL st a fun xs _ => -(2 ^ 63) ≤ k ∧ k < 2 ^ 63 ∧ xs.length * k.toNat ≤ big ∧ Q (.lst (List.replicate k.toNat xs).flatten) st
    | _, _ => False) := fun _ _ _ _ => rfl
theorem w_oEq  : ∀ st a b Q, (oEq  : O2 c).w st a b Q = (match view st a, view st b with | some d, some e => (EqS d e ∨ (Shp d ∧ Shp e)) ∧ Q (.bl (PyData.eqv d e)) st | _, _ => False) := fun _ _ _ _ => rfl
theorem w_oNe  : ∀ st a b Q, (oNe  : O2 c).w st a b Q = (match view st a, view st b with | some d, some e => (EqS d e ∨ (Shp d ∧ Shp e)) ∧ Q (.bl (!PyData.eqv d e)) st | _, _ => False) := fun _ _ _ _ => rfl
theorem w_oIsN  : ∀ st a b Q, (oIsN  : O2 c).w st a b Q = (match b with | .non => Q (.bl (isNon a)) st | _ => False) := fun _ _ _ _ => rfl
theorem w_oNotN  : ∀ st a b Q, (oNotN  : O2 c).w st a b Q = (match b with | .non => Q (.bl (!isNon a)) st | _ => False) := fun _ _ _ _ => rfl
theorem w_oIn  : ∀ st a b Q, (oIn  : O2 c).w st a b Q = (match view st a, view st b with | some d, some e => (match itemsD e with | some es => (Shp d ∧ Shp e) ∧ Q (.bl (es.any fun z => PyData.eqv z d)) st | none => False) | _, _ => False) := fun _ _ _ _ => rfl
theorem w_oNin  : ∀ st a b Q, (oNin  : O2 c).w st a b Q = (match view st a, view st b with | some d, some e => (match itemsD e with | some es => (Shp d ∧ Shp e) ∧ Q (.bl (!es.any fun z => PyData.eqv z d)) st | none => False) | _, _ => False) := fun _ _ _ _ => rfl
theorem w_oIx  : ∀ st a b Q, (oIx  : O2 c).w st a b Q = (match a, b with
    | .tup xs, .int i => match atI xs i with | some t => Q t st | none => False
    | .str x, .int i => x.length ≤ big ∧ match atI x.cps.toList i with | some t => Q (.str ⟨#[t]⟩) st | none => False
    | a, .int i => asL st a fun xs _ => match atI xs i with | some t => Q t st | none => False
    | _, _ => False) := fun _ _ _ _ => rfl
theorem w_pN  : ∀ x0 st Q, (pN  : PX c).w x0 st Q = (Q none st) := fun _ _ _ => rfl
theorem w_pS (e : EX c) : ∀ env st Q, (pS e : PX c).w env st Q = (e.w env st fun t st1 => match t with | .int i => Q (some i) st1 | _ => False) := fun _ _ _ => rfl
theorem w_eSl (e : EX c) (p q : PX c) : ∀ env st Q, (eSl e p q : EX c).w env st Q = (e.w env st fun t st1 => p.w env st1 fun lo st2 => q.w env st2 fun hi st3 => match t with
    | .str x => x.length ≤ big ∧ Q (.str (cutS x lo hi)) st3
    | .tup xs => Q (.tup (cutT xs lo hi)) st3
    | .scr ns => Q (.lst (cutT (ns.map T.int) lo hi)) st3
    | t => asL st3 t fun xs _ => Q (.lst (cutT xs lo hi)) st3) := fun _ _ _ => rfl
theorem w_eBM (m : MX c) (o : EX c) (a : AX c) : ∀ env st Q, (eBM m o a : EX c).w env st Q = (o.w env st fun t st1 => m.ty st1 t ∧ a.w env st1 fun ts st2 => m.w st2 t ts Q) := fun _ _ _ => rfl
theorem w_eBM0 (m : MX c) (o : EX c) : ∀ env st Q, (eBM0 m o : EX c).w env st Q = (o.w env st fun t st1 => m.ty st1 t ∧ m.w st1 t [] Q) := fun _ _ _ => rfl
theorem w_mAppend  : ∀ st t ts Q, (mAppend  : MX c).w st t ts Q = (match ts with | [y] => cellL st t fun n xs => xs.length < big ∧ y.under n = true ∧ Q .non (st.set n (.lst (xs ++ [y]))) | _ => False) := fun _ _ _ _ => rfl
theorem w_mExtend  : ∀ st t ts Q, (mExtend  : MX c).w st t ts Q = (match ts with | [y] => cellL st t fun n xs => asL st y fun ys _ => xs.length + ys.length ≤ big ∧ refsInL (fun m => decide (m < n)) ys = true ∧ Q .non (st.set n (.lst (xs ++ ys))) | _ => False) := fun _ _ _ _ => rfl
theorem w_mClear  : ∀ st t ts Q, (mClear  : MX c).w st t ts Q = (match ts with | [] => cellL st t fun n xs => Q .non (st.set n (.lst [])) | _ => False) := fun _ _ _ _ => rfl
theorem w_mReverse  : ∀ st t ts Q, (mReverse  : MX c).w st t ts Q = (match ts with | [] => cellL st t fun n xs => Q .non (st.set n (.lst xs.reverse)) | _ => False) := fun _ _ _ _ => rfl
theorem w_mPop  : ∀ st t ts Q, (mPop  : MX c).w st t ts Q = (match ts with | [] => cellL st t fun n xs => (match xs[xs.length - 1]? with | some y => Q y (st.set n (.lst xs.dropLast)) | none => False) | _ => False) := fun _ _ _ _ => rfl
theorem w_mPopAt  : ∀ st t ts Q, (mPopAt  : MX c).w st t ts Q = (match ts with | [.int i] => cellL st t fun n xs => (-(2 ^ 63) ≤ i ∧ i < 2 ^ 63) ∧ (match seqIndex? i xs.length with | some j => (match xs[j]? with | some y => Q y (st.set n (.lst (xs.eraseIdx j))) | none => False) | none => False) | _ => False) := fun _ _ _ _ => rfl
theorem w_mS0 (C : Str → Prop) (g : Str → Bool) : ∀ st t ts Q, (mS0 C g : MX c).w st t ts Q = (match t with | .str x => ts = [] ∧ C x ∧ Q (.bl (g x)) st | _ => False) := fun _ _ _ _ => rfl
theorem w_mJoin  : ∀ st t ts Q, (mJoin  : MX c).w st t ts Q = (match t, ts with | .str a, [y] => anyW st y fun zs => (match texts zs with | some ys => y.toD ≠ some (.str (match y with | .str x => x | _ => "")) ∧ (ys.map (·.length)).sum + ys.length * a.length ≤ 16777216 ∧ Q (.str (Txt.join a ys)) st | none => False) | _, _ => False) := fun _ _ _ _ => rfl
theorem w_hN (i : Nat) : ∀ t env st Q, (hN i : GH c).w t env st Q = (Q (env.set i (some t)) st) := fun _ _ _ _ => rfl
theorem w_hsN  : ∀ ts env st Q, (hsN  : GHs c).w ts env st Q = (ts = [] ∧ Q env st) := fun _ _ _ _ => rfl
theorem w_hsC (x : GH c) (xs : GHs c) : ∀ ts env st Q, (hsC x xs : GHs c).w ts env st Q = (match ts with | t :: r => x.w t env st fun env' st' => xs.w r env' st' Q | [] => False) := fun _ _ _ _ => rfl
theorem w_hT (n : Nat) (xs : GHs c) : ∀ t env st Q, (hT n xs : GH c).w t env st Q = (match t with | .tup ts => ts.length = n ∧ xs.w ts env st Q | _ => False) := fun _ _ _ _ => rfl
theorem w_hSub (o i : EX c) : ∀ t env st Q, (hSub o i : GH c).w t env st Q = (o.w env st fun x st1 => i.w env st1 fun j st2 => match j with
    | .int j => cellL st2 x fun n xs => (match ixN xs.length j with | some m => t.under n = true ∧ Q env (st2.set n (.lst (xs.set m t))) | none => False)
    | _ => False) := fun _ _ _ _ => rfl
theorem w_sAsH (e : EX c) (x : GH c) : ∀ x0 E env st, (sAsH e x : SX c).w x0 E env st = (e.w env st fun t st1 => x.w t env st1 E.nx) := fun _ _ _ _ => rfl
theorem w_sAugS (o i e : EX c) : ∀ x0 E env st, (sAugS o i e : SX c).w x0 E env st = (o.w env st fun x st1 => i.w env st1 fun j st2 => match j with
    | .int j => 0 ≤ j ∧ j < 1000000 ∧ cellL st2 x fun n xs => (match xs[j.toNat]? with | some (.int a) => e.w env st2 fun y st3 => (match y with | .int b => cellL st3 x fun n xs => (match ixN xs.length j with | some m => E.nx env (st3.set n (.lst (xs.set m (.int (a + b))))) | none => False) | _ => False) | _ => False)
    | _ => False) := fun _ _ _ _ => rfl
theorem w_eCl (m : Mn) (dvs : List V) (ds : List T) (hd : ∀ L F H, Tas c L F H dvs ds) (E : XK) (a : AX c) : ∀ env st Q, (eCl m dvs ds hd E a : EX c).w env st Q = (a.w env st fun ts st1 => callF m (ts ++ ds) st1 Q) := fun _ _ _ => rfl
theorem w_eClK (m : Mn) (dvs : List V) (ds : List T) (hd : ∀ L F H, Tas c L F H dvs ds) (E : XK) (a : AX c) : ∀ env st Q, (eClK m dvs ds hd E a : EX c).w env st Q = (a.w env st fun ts st1 => m (ts ++ ds) st1 Q) := fun _ _ _ => rfl
theorem w_sFrz (i : Nat) (s : SX c) : ∀ n0 E env st, (sFrz i s : SX c).w n0 E env st = (match env[i]? with
    | some (some (.ref n)) => n0 ≤ n ∧ (env.zipIdx.all fun p => p.2 == i || (match p.1 with | some t => t.refsIn fun m => m != n | none => true)) = true ∧ (st.all fun x => x.refsIn fun m => m != n) = true ∧
      (match st[n]? with
        | some (.lst xs) => s.w n0 E (env.set i (some (.lst xs))) (st.set n .gone)
        | some (.dct xs) => s.w n0 E (env.set i (some (.dct xs))) (st.set n .gone)
        | some (.dtt xs) => s.w n0 E (env.set i (some (.dtt xs))) (st.set n .gone)
        | some (.obj C xs) => s.w n0 E (env.set i (some (.obj C xs))) (st.set n .gone)
        | _ => False)
    | _ => False) := fun _ _ _ _ => rfl
theorem w_eDGet (d k : EX c) : ∀ env st Q, (eDGet d k : EX c).w env st Q = (d.w env st fun x st1 => k.w env st1 fun y st2 => dctW st2 x y fun o => match o with | some t => Q t st2 | none => False) := fun _ _ _ => rfl
theorem w_eDGet1 (d k : EX c) : ∀ env st Q, (eDGet1 d k : EX c).w env st Q = (d.w env st fun x st1 => (∃ y, dctW st1 x y fun _ => True) ∧ k.w env st1 fun y st2 => dctW st2 x y fun o => Q (o.getD .non) st2) := fun _ _ _ => rfl
theorem w_eDGet2 (d k x : EX c) : ∀ env st Q, (eDGet2 d k x : EX c).w env st Q = (d.w env st fun z st1 => (∃ y, dctW st1 z y fun _ => True) ∧ k.w env st1 fun y st2 => x.w env st2 fun f st3 => dctW st3 z y fun o => Q (o.getD f) st3) := fun _ _ _ => rfl
theorem w_eDIn (k d : EX c) : ∀ env st Q, (eDIn k d : EX c).w env st Q = (k.w env st fun y st1 => d.w env st1 fun x st2 => dctW st2 x y fun o => Q (.bl o.isSome) st2) := fun _ _ _ => rfl
theorem w_eDNin (k d : EX c) : ∀ env st Q, (eDNin k d : EX c).w env st Q = (k.w env st fun y st1 => d.w env st1 fun x st2 => dctW st2 x y fun o => Q (.bl (!o.isSome)) st2) := fun _ _ _ => rfl
theorem w_sDPt (d k v : EX c) : ∀ x0 E env st, (sDPt d k v : SX c).w x0 E env st = (v.w env st fun t st1 => d.w env st1 fun x st2 => k.w env st2 fun y st3 => dcellW st3 x y t fun st4 => E.nx env st4) := fun _ _ _ _ => rfl
theorem w_oInS  : ∀ st a b Q, (oInS  : O2 c).w st a b Q = (match a, b with | .str k, .set ys => Q (.bl (decide (k ∈ ys))) st | _, _ => False) := fun _ _ _ _ => rfl
theorem w_oNinS  : ∀ st a b Q, (oNinS  : O2 c).w st a b Q = (match a, b with | .str k, .set ys => Q (.bl (!decide (k ∈ ys))) st | _, _ => False) := fun _ _ _ _ => rfl
theorem w_eIsi (e : EX c) (n : String) (hn : n ∈ ["int", "bool", "str", "list", "tuple", "dict"]) : ∀ env st Q, (eIsi e n hn : EX c).w env st Q = (e.w env st fun t st1 => kindS st1 t ∈ ["NoneType", "bool", "int", "str", "list", "tuple", "dict"] ∧ Q (.bl (isA (kindS st1 t) n)) st1) := fun _ _ _ => rfl
theorem w_eIsi2 (e : EX c) (n m : String) (hn : n ∈ ["int", "bool", "str", "list", "tuple", "dict"]) (hn' : m ∈ ["int", "bool", "str", "list", "tuple", "dict"]) : ∀ env st Q, (eIsi2 e n m hn hn' : EX c).w env st Q = (e.w env st fun t st1 => kindS st1 t ∈ ["NoneType", "bool", "int", "str", "list", "tuple", "dict"] ∧ Q (.bl (isA (kindS st1 t) n || isA (kindS st1 t) m)) st1) := fun _ _ _ => rfl
theorem w_eLc2 (i : IX c) (x : GX c) (t : TX c) (i1 : IX c) (x1 : GX c) (t1 : TX c) (e : EX c) (vs : List Nat) (hv : ∀ v ∈ x.vs, v ∈ vs) : ∀ env st Q, (eLc2 i x t i1 x1 t1 e vs hv : EX c).w env st Q = (i.w env st fun ts pin st1 => lc2W x.w t.w i1.w x1.w x1.vs t1.w e.w (wipeE env vs) pin ts [] st1 fun out st2 => Q (.lst out) st2) := fun _ _ _ => rfl
theorem w_eDcT (i : IX c) (x : GX c) (kk e : EX c) : ∀ env st Q, (eDcT i x kk e : EX c).w env st Q = (i.w env st fun ts pin st1 => dcW x.w kk.w e.w (wipeE env x.vs) pin ts [] st1 fun out st2 => Q (.dtt out) st2) := fun _ _ _ => rfl
theorem w_eFld (C : Addr) (f : Str) (cl : Cls c.K C) (na : NoAttr c.K C f) (o : EX c) : ∀ env st Q, (eFld C f cl na o : EX c).w env st Q = (o.w env st fun t st1 => objW C st1 t fun fs => match fs.lookup f with | some x => Q x st1 | none => False) := fun _ _ _ => rfl
theorem w_sFldC (C : Addr) (f : Str) (cl : Cls c.K C) (na : NoAttr c.K C f) (o v : EX c) : ∀ x0 E env st, (sFldC C f cl na o v : SX c).w x0 E env st = (v.w env st fun y st1 => o.w env st1 fun t st2 => match t with
    | .ref n => match st2[n]? with
      | some (.obj C' fs) => C' = C ∧ fs.length < 1000 ∧ y.under n = true ∧ E.nx env (st2.set n (.obj C (putFT f y fs)))
      | _ => False
    | _ => False) := fun _ _ _ _ => rfl
theorem w_eMk (C : Addr) (m : Mn) (dvs : List V) (ds : List T) (hd : ∀ L F H, Tas c L F H dvs ds) (a : AX c) : ∀ env st Q, (eMk C m dvs ds hd a : EX c).w env st Q = (a.w env st fun ts st1 => makeW C m (ts ++ ds) st1 fun st2 => exitF st1.length st2 (.ref st1.length) fun t => Q t (st2.take st1.length)) := fun _ _ _ => rfl
theorem w_eMkK (C : Addr) (m : Mn) (dvs : List V) (ds : List T) (hd : ∀ L F H, Tas c L F H dvs ds) (a : AX c) : ∀ env st Q, (eMkK C m dvs ds hd a : EX c).w env st Q = (a.w env st fun ts st1 => makeW C m (ts ++ ds) st1 fun st2 => Q (.ref st1.length) st2) := fun _ _ _ => rfl
theorem w_eMt (C : Addr) (n : Str) (m : Mn) (o : EX c) (a : AX c) : ∀ env st Q, (eMt C n m o a : EX c).w env st Q = (o.w env st fun t st1 => (objW C st1 t fun fs => fs.lookup n = none) ∧ a.w env st1 fun ts st2 => callF m (t :: ts) st2 Q) := fun _ _ _ => rfl
theorem w_oInO (C : Addr) (m : Mn) : ∀ st y x Q, (oInO C m : O2 c).w st y x Q = (isO C st x ∧ callF m [x, y] st (blQ Q)) := fun _ _ _ _ => rfl
theorem w_oIxO (C : Addr) (m : Mn) : ∀ st x y Q, (oIxO C m : O2 c).w st x y Q = (isO C st x ∧ callF m [x, y] st Q) := fun _ _ _ _ => rfl
theorem w_oEqO (C : Addr) (m : Mn) : ∀ st x y Q, (oEqO C m : O2 c).w st x y Q = (isO C st x ∧ (isO C st y ∨ (view st y).isSome = true) ∧ callF m [x, y] st (blQ Q)) := fun _ _ _ _ => rfl
theorem w_oNeO (C : Addr) (m : Mn) : ∀ st x y Q, (oNeO C m : O2 c).w st x y Q = (isO C st x ∧ (isO C st y ∨ (view st y).isSome = true) ∧ callF m [x, y] st (blQ fun r st' => match r with | .bl b => Q (.bl (!b)) st' | _ => False)) := fun _ _ _ _ => rfl
theorem w_eIsiO (C : Addr) (ic : C8.InsC c.K C) (nk : NoKin c.K C) (e : EX c) : ∀ env st Q, (eIsiO C ic nk e : EX c).w env st Q = (e.w env st fun t st1 => (isO C st1 t ∧ Q (.bl true) st1) ∨ ((view st1 t).isSome = true ∧ Q (.bl false) st1)) := fun _ _ _ => rfl
theorem w_eLcC (i : IX c) (x : GX c) (t : TX c) (e : EX c) : ∀ env st Q, (eLcC i x t e : EX c).w env st Q = (i.w env st fun ts pin st1 => lcW x.w t.w e.w (wipeE env x.vs) pin ts [] st1 fun out st2 => refsInL (fun m => decide (m < st2.length)) out = true ∧ Q (.ref st2.length) (st2 ++ [.lst out])) := fun _ _ _ => rfl
theorem w_eClT (m : Mn) (dvs : List V) (ds : List T) (hd : ∀ L F H, Tas c L F H dvs ds) (E : XK) (a : AX c) : ∀ env st Q, (eClT m dvs ds hd E a : EX c).w env st Q = (a.w env st fun ts st1 => callT m (ts ++ ds) st1 Q) := fun _ _ _ => rfl
theorem w_eMtT (C : Addr) (n : Str) (m : Mn) (o : EX c) (a : AX c) : ∀ env st Q, (eMtT C n m o a : EX c).w env st Q = (o.w env st fun t st1 => (objW C st1 t fun fs => fs.lookup n = none) ∧ a.w env st1 fun ts st2 => callT m (t :: ts) st2 Q) := fun _ _ _ => rfl
theorem w_iOwnX (C : Addr) (f : Str) (e : EX c) : ∀ env st Q, (iOwnX C f e : IX c).w env st Q = (e.w env st fun t st1 => objW C st1 t fun fs => match fs.lookup f with | some x => (match x with | .lst ts => Q ts (fun _ => True) st1 | _ => False) | none => False) := fun _ _ _ => rfl
theorem w_oRepS  : ∀ st a b Q, (oRepS  : O2 c).w st a b Q = (match a, b with | .str z, .int n => z.length = 1 ∧ 0 ≤ n ∧ n ≤ 100 ∧ Q (.str (repS z n)) st | _, _ => False) := fun _ _ _ _ => rfl
theorem w_eDisp (a b : EX c) : ∀ env st Q, (eDisp a b : EX c).w env st Q = (a.w env st fun x st1 => b.w env st1 fun y st2 => match x.sk with | some k => Q (.dct [(k, y)]) st2 | none => False) := fun _ _ _ => rfl
theorem w_oMulC  : ∀ st a b Q, (oMulC  : O2 c).w st a b Q = (match b with
    | .int k => asL st a fun xs _ => -(2 ^ 63) ≤ k ∧ k < 2 ^ 63 ∧ xs.length * k.toNat ≤ big ∧ refsInL (fun m => decide (m < st.length)) xs = true ∧ Q (.ref st.length) (st ++ [.lst (List.replicate k.toNat xs).flatten])
    | _ => False) := fun _ _ _ _ => rfl
theorem w_eSortV (d : EX c) : ∀ env st Q, (eSortV d : EX c).w env st Q = (d.w env st fun t st1 => dctL st1 t fun ps => match texts (ps.map (·.2)) with | some ys => ys.length ≤ 1000 ∧ Q (.lst ((ys.mergeSort (dataLe false PyData.str)).map .str)) st1 | none => False) := fun _ _ _ => rfl
theorem w_oLen  : ∀ st t Q, (oLen  : ON c).w st [t] Q = (anyW st t fun ts => Q (.int ts.length) st) := fun _ _ _ => rfl
theorem w_oAbs  : ∀ st t Q, (oAbs  : ON c).w st [t] Q = (match t with | .int i => Q (.int (if i < 0 then -i else i)) st | _ => False) := fun _ _ _ => rfl
theorem w_oInt  : ∀ st t Q, (oInt  : ON c).w st [t] Q = (match t with | .int i => Q (.int i) st | .bl k => Q (.int (if k then 1 else 0)) st | _ => False) := fun _ _ _ => rfl
theorem w_oList  : ∀ st t Q, (oList  : ON c).w st [t] Q = (anyW st t fun ts => Q (.lst ts) st) := fun _ _ _ => rfl
theorem w_oListC  : ∀ st t Q, (oListC  : ON c).w st [t] Q = (anyW st t fun ts => refsInL (fun m => decide (m < st.length)) ts = true ∧ Q (.ref st.length) (st ++ [.lst ts])) := fun _ _ _ => rfl
theorem w_oTuple  : ∀ st t Q, (oTuple  : ON c).w st [t] Q = ((t.toD ≠ some (.str (match t with | .str x => x | _ => "")) ∧ t ≠ .emp) ∧ anyW st t fun ts => Q (.tup ts) st) := fun _ _ _ => rfl
theorem w_oAll  : ∀ st t Q, (oAll  : ON c).w st [t] Q = (asL st t fun xs _ => match bools xs with | some bs => Q (.bl (bs.all id)) st | none => False) := fun _ _ _ => rfl
theorem w_oAny  : ∀ st t Q, (oAny  : ON c).w st [t] Q = (asL st t fun xs _ => match bools xs with | some bs => Q (.bl (bs.any id)) st | none => False) := fun _ _ _ => rfl
theorem w_oRepr  : ∀ st t Q, (oRepr  : ON c).w st [t] Q = (match view st t with | some d => Shown d ∧ Q (.str d.shown) st | none => False) := fun _ _ _ => rfl
theorem w_oSort  : ∀ st t Q, (oSort  : ON c).w st [t] Q = (seqW st t fun xs => match toDL xs with | some ds => AllAlike ds ∧ Sortable ds ∧ (∀ d ∈ ds, d.depth ≤ 60) ∧ Q (.lst (sortT xs ds)) st | none => False) := fun _ _ _ => rfl
theorem w_oSet  : ∀ st t Q, (oSet  : ON c).w st [t] Q = (anyW st t fun ts => (match texts ts with | some ys => (match t with | .str _ => False | _ => True) ∧ ys.length ≤ 4000 ∧ Q (.set ys) st | none => False)) := fun _ _ _ => rfl
theorem w_oLenZ  : ∀ st t Q, (oLenZ  : ON c).w st [t] Q = (match t with | .set ys => Q (.int (kinds ys ys.length)) st | _ => False) := fun _ _ _ => rfl
theorem w_oLenO (C : Addr) (m : Mn) : ∀ st t Q, (oLenO C m : ON c).w st [t] Q = (isO C st t ∧ callF m [t] st fun r st' => match r with | .int n => 0 ≤ n ∧ n < 2 ^ 63 ∧ Q (.int n) st' | _ => False) := fun _ _ _ => rfl
theorem w_oListO (C : Addr) (f : Str) (m : Mn) : ∀ st t Q, (oListO C f m : ON c).w st [t] Q = (lstOW C f m st t fun ts st' => Q (.lst ts) st') := fun _ _ _ => rfl
theorem w_oListOC (C : Addr) (f : Str) (m : Mn) : ∀ st t Q, (oListOC C f m : ON c).w st [t] Q = (lstOW C f m st t fun ts st' => refsInL (fun m => decide (m < st'.length)) ts = true ∧ Q (.ref st'.length) (st' ++ [.lst ts])) := fun _ _ _ => rfl
theorem w_oDict  : ∀ st t Q, (oDict  : ON c).w st [t] Q = (asL st t fun ts _ => match pairsT ts with | some ps => Q (.dct (mergeP [] ps)) st | none => False) := fun _ _ _ => rfl
theorem w_oListD  : ∀ st t Q, (oListD  : ON c).w st [t] Q = (dctL st t fun ps => Q (.lst (ps.map fun kv => T.ofK kv.1)) st) := fun _ _ _ => rfl
theorem w_oSortDT  : ∀ st t Q, (oSortDT  : ON c).w st [t] Q = (dttL st t fun ps => match pairsK (ps.map (·.1)) with | some ks => ks.length ≤ 1000 ∧ Q (.lst ((sortP ks).map spT)) st | none => False) := fun _ _ _ => rfl
theorem w_oIntS  : ∀ st t Q, (oIntS  : ON c).w st [t] Q = (match t with | .str x => (match PySem.intText? x with | some n => x.length ≤ 640 ∧ Q (.int n) st | none => False) | _ => False) := fun _ _ _ => rfl
theorem w_eI (i : Int) : ∀ env st Q, (eI i : EX c).w env st Q = Q (.int i) st := fun _ _ _ => rfl
theorem w_eS (i : Str) : ∀ env st Q, (eS i : EX c).w env st Q = Q (.str i) st := fun _ _ _ => rfl
theorem w_eB (i : Bool) : ∀ env st Q, (eB i : EX c).w env st Q = Q (.bl i) st := fun _ _ _ => rfl
theorem w_eN  : ∀ env st Q, (eN : EX c).w env st Q = Q (.non) st := fun _ _ _ => rfl
end
end Vw

/-! steps through what a body does -/
namespace Vw
open PySem PySem.Spec PyProof.Rows L2 Gd
open PySem.W (dataLe AllAlike Sortable)
section
variable {c : Cf} {st : Stt} {Q : T → Stt → Prop} {n : Nat} {xs ys ts : List T} {t u a b : T} {i j : Int} {d e : PyData}
/-! names -/
theorem x_eV {k : Nat} {env : En} (h : env[k]? = some (some t)) (q : Q t st) : (eV k : EX c).w env st Q := by
  rw [w_eV, h]
  exact q
/-! numbers -/
theorem v_oII (g : Int → Int → Int) : (oII g : O2 c).w st (.int i) (.int j) Q = Q (.int (g i j)) st := rfl
theorem v_oIB (g : Int → Int → Bool) : (oIB g : O2 c).w st (.int i) (.int j) Q = Q (.bl (g i j)) st := rfl
theorem v_oIC (C : Int → Int → Prop) (g : Int → Int → Int) : (oIC C g : O2 c).w st (.int i) (.int j) Q = (C i j ∧ Q (.int (g i j)) st) := rfl
theorem v_oNeg : (oNeg : O1 c).w st (.int i) Q = Q (.int (-i)) st := rfl
theorem v_addI : (oAdd : O2 c).w st (.int i) (.int j) Q = Q (.int (i + j)) st := rfl
theorem v_addS {x y : Str} : (oAdd : O2 c).w st (.str x) (.str y) Q = (x.length + y.length ≤ big ∧ Q (.str (x ++ y)) st) := rfl
theorem v_addT : (oAdd : O2 c).w st (.tup xs) (.tup ys) Q = (xs ≠ [] ∧ xs.length + ys.length ≤ big ∧ Q (.tup (xs ++ ys)) st) := rfl
theorem v_addL : (oAdd : O2 c).w st (.lst xs) (.lst ys) Q = (xs.length + ys.length ≤ big ∧ Q (.lst (xs ++ ys)) st) := rfl
theorem x_addRL (h : st[n]? = some (.lst xs)) (z : xs.length + ys.length ≤ big) (q : Q (.lst (xs ++ ys)) st) : (oAdd : O2 c).w st (.ref n) (.lst ys) Q := by
  rw [w_oAdd]
  simp only [asL, h]
  exact ⟨z, q⟩
theorem x_addLR (h : st[n]? = some (.lst ys)) (z : xs.length + ys.length ≤ big) (q : Q (.lst (xs ++ ys)) st) : (oAdd : O2 c).w st (.lst xs) (.ref n) Q := by
  rw [w_oAdd]
  simp only [asL, h]
  exact ⟨z, q⟩
theorem v_mulI : (oMul : O2 c).w st (.int i) (.int j) Q = (L2.CMul i j ∧ Q (.int (i * j)) st) := rfl
theorem v_mulL : (oMul : O2 c).w st (.lst xs) (.int j) Q = (-(2 ^ 63) ≤ j ∧ j < 2 ^ 63 ∧ xs.length * j.toNat ≤ big ∧ Q (.lst (List.replicate j.toNat xs).flatten) st) := rfl
theorem v_intI : (oInt : ON c).w st [.int i] Q = Q (.int i) st := rfl
theorem v_intB {k : Bool} : (oInt : ON c).w st [.bl k] Q = Q (.int (if k then 1 else 0)) st := rfl
theorem v_absI : (oAbs : ON c).w st [.int i] Q = Q (.int (if i < 0 then -i else i)) st := rfl
theorem v_repS {z : Str} : (oRepS : O2 c).w st (.str z) (.int i) Q = (z.length = 1 ∧ 0 ≤ i ∧ i ≤ 100 ∧ Q (.str (repS z i)) st) := rfl
/-! lists as they are, or as cells -/
theorem x_asR {K : List T → (Stt → Prop) → Prop} (h : st[n]? = some (.lst ts)) (k : K ts fun s => s[n]? = some (.lst ts)) : asL st (.ref n) K := by
  simp only [asL, h]
  exact k
theorem v_asL {K : List T → (Stt → Prop) → Prop} : asL st (.lst ts) K = K ts fun _ => True := rfl
theorem x_cell {K : Nat → List T → Prop} (h : st[n]? = some (.lst xs)) (k : K n xs) : cellL st (.ref n) K := by
  simp only [cellL, h]
  exact k
theorem v_anyL {K : List T → Prop} : anyW st (.lst ts) K = K ts := rfl
theorem v_anyT {K : List T → Prop} : anyW st (.tup ts) K = K ts := rfl
theorem v_anyE {K : List T → Prop} : anyW st .emp K = K [] := rfl
theorem v_anyS {x : Str} {K : List T → Prop} : anyW st (.str x) K = (x.length ≤ big ∧ K (signT x)) := rfl
theorem x_anyR {K : List T → Prop} (h : st[n]? = some (.lst ts)) (k : K ts) : anyW st (.ref n) K := x_asR (K := fun ts _ => K ts) h k
/-! x[i] -/
theorem x_ixR (h : st[n]? = some (.lst xs)) (e : atI xs i = some t) (q : Q t st) : (oIx : O2 c).w st (.ref n) (.int i) Q := by
  rw [w_oIx]
  simp only [asL, h, e]
  exact q
theorem x_ixL (e : atI xs i = some t) (q : Q t st) : (oIx : O2 c).w st (.lst xs) (.int i) Q := by
  show (match atI xs i with | some t => Q t st | none => False)
  rw [e]
  exact q
theorem x_ixT (e : atI xs i = some t) (q : Q t st) : (oIx : O2 c).w st (.tup xs) (.int i) Q := by
  show (match atI xs i with | some t => Q t st | none => False)
  rw [e]
  exact q
theorem x_ixS {x : Str} {k : Nat} (z : x.length ≤ big) (e : atI x.cps.toList i = some k) (q : Q (.str ⟨#[k]⟩) st) : (oIx : O2 c).w st (.str x) (.int i) Q := by
  refine ⟨z, ?_⟩
  rw [e]
  exact q
/-! ==, in, repr -/
theorem view_ref (h : st[n]? = some (.lst xs)) {ds : List PyData} (k : toDL xs = some ds) : view st (.ref n) = some (.list ds) := by
  simp only [view, h, k, Option.map]
theorem x_eq (h1 : view st a = some d) (h2 : view st b = some e) (s : Shp d ∧ Shp e) (q : Q (.bl (PyData.eqv d e)) st) : (oEq : O2 c).w st a b Q := by
  rw [w_oEq, h1, h2]
  exact ⟨.inr s, q⟩
theorem x_eqS (h1 : view st a = some d) (h2 : view st b = some e) (s : EqS d e) (q : Q (.bl (PyData.eqv d e)) st) : (oEq : O2 c).w st a b Q := by
  rw [w_oEq, h1, h2]
  exact ⟨.inl s, q⟩
theorem x_ne (h1 : view st a = some d) (h2 : view st b = some e) (s : Shp d ∧ Shp e) (q : Q (.bl (!PyData.eqv d e)) st) : (oNe : O2 c).w st a b Q := by
  rw [w_oNe, h1, h2]
  exact ⟨.inr s, q⟩
theorem x_neS (h1 : view st a = some d) (h2 : view st b = some e) (s : EqS d e) (q : Q (.bl (!PyData.eqv d e)) st) : (oNe : O2 c).w st a b Q := by
  rw [w_oNe, h1, h2]
  exact ⟨.inl s, q⟩
theorem x_repr (h : view st a = some d) (s : Shown d) (q : Q (.str d.shown) st) : (oRepr : ON c).w st [a] Q := by
  rw [w_oRepr, h]
  exact ⟨s, q⟩
theorem v_isN : (oIsN : O2 c).w st a .non Q = Q (.bl (isNon a)) st := rfl
theorem v_notN : (oNotN : O2 c).w st a .non Q = Q (.bl (!isNon a)) st := rfl
/-! a sequence of statements, cut -/
theorem seq_cut {n0 : Nat} {E : EN} {env : En} {a b : SX c} (P : En → Stt → Prop) (h : ∀ K : En → Stt → Prop, (∀ env' st', P env' st' → K env' st') → a.w n0 { E with nx := K } env st) (h2 : ∀ env' st', P env' st' → b.w n0 E env' st') : (sSeq a b).w n0 E env st := h _ h2
/-- xs[i] += y, xs[i] = y of a cell -/
theorem x_augS {o i' e' : EX c} {n0 : Nat} {E : EN} {env : En} {k : Nat} {x y : Int} (ho : ∀ R : T → Stt → Prop, R (.ref n) st → o.w env st R) (hi : ∀ R : T → Stt → Prop, R (.int k) st → i'.w env st R) (he : ∀ R : T → Stt → Prop, R (.int y) st → e'.w env st R)
    (h : st[n]? = some (.lst xs)) (kk : k < 1000000) (hx : xs[k]? = some (.int x)) (q : E.nx env (st.set n (.lst (xs.set k (.int (x + y)))))) : (sAugS o i' e').w n0 E env st := by
  have lk := (List.getElem?_eq_some_iff.mp hx).1
  have ej : ixN xs.length (k : Int) = some k := by
    unfold ixN
    simp
    omega
  rw [w_sAugS]
  refine ho _ (hi _ ⟨by omega, by omega, x_cell h ?_⟩)
  simp only [Int.toNat_natCast, hx]
  refine he _ (x_cell h ?_)
  simp only [ej]
  exact q
theorem x_hSub {o i' : EX c} {env : En} {k : Nat} {R : En → Stt → Prop} (ho : ∀ R : T → Stt → Prop, R (.ref n) st → o.w env st R) (hi : ∀ R : T → Stt → Prop, R (.int k) st → i'.w env st R)
    (h : st[n]? = some (.lst xs)) (lk : k < xs.length) (lo : t.under n = true) (q : R env (st.set n (.lst (xs.set k t)))) : (hSub o i').w t env st R := by
  have ej : ixN xs.length (k : Int) = some k := by
    unfold ixN
    simp
    omega
  rw [w_hSub]
  refine ho _ (hi _ (x_cell h ?_))
  simp only [ej]
  exact ⟨lo, q⟩
theorem x_tt {A B : Prop} (h : A) : if true = true then A else B := by rw [if_pos rfl]; exact h
theorem x_ff {A B : Prop} (h : B) : if false = true then A else B := by rw [if_neg (by decide)]; exact h
theorem x_ite {p : Prop} [Decidable p] {A B : Prop} (h : p → A) (k : ¬ p → B) : if p then A else B := by
  by_cases e : p
  · rw [if_pos e]; exact h e
  · rw [if_neg e]; exact k e
/-! comprehensions and loops, by what holds at each turn -/
theorem lc_ind {x : T → En → (En → Prop) → Prop} {t : WT} {e : WE} {env : En} {pin : Stt → Prop} {K : List T → Stt → Prop} (I : List T → List T → Stt → Prop)
    (step : ∀ a as out st, I (a :: as) out st → ∀ (C1 : T → Stt → Prop) (C0 : Stt → Prop), (∀ y st', I as (out ++ [y]) st' → C1 y st') → (∀ st', I as out st' → C0 st') → pin st ∧ x a env fun env' => t env' st fun b st1 => if b = true then e env' st1 C1 else C0 st1)
    (fin : ∀ out st, I [] out st → pin st ∧ K out st) : ∀ (ts out : List T) (st : Stt), I ts out st → lcW x t e env pin ts out st K
  | [], out, st, h => fin out st h
  | a :: as, out, st, h => step a as out st h _ _ (fun y st' h' => lc_ind I step fin as (out ++ [y]) st' h') fun st' h' => lc_ind I step fin as out st' h'
/-- .. that changes nothing -/
theorem lc_pure {x : T → En → (En → Prop) → Prop} {t : WT} {e : WE} {env : En} {pin : Stt → Prop} {K : List T → Stt → Prop} (p : T → Bool) (f : T → T) {ts : List T}
    (step : ∀ a ∈ ts, ∀ (C1 : T → Stt → Prop) (C0 : Stt → Prop), (p a = true → C1 (f a) st) → (p a = false → C0 st) → x a env fun env' => t env' st fun b st1 => if b = true then e env' st1 C1 else C0 st1)
    (pn : pin st) (k : K ((ts.filter p).map f) st) : lcW x t e env pin ts [] st K := by
  refine lc_ind (fun as out st' => st' = st ∧ ∃ bs, ts = bs ++ as ∧ out = (bs.filter p).map f) ?_ ?_ ts [] st ⟨rfl, [], rfl, rfl⟩
  · rintro a as out st' ⟨rfl, bs, e1, rfl⟩ C1 C0 k1 k0
    refine ⟨pn, step a (by rw [e1]; simp) C1 C0 (fun h => k1 _ _ ⟨rfl, bs ++ [a], by rw [e1]; simp, ?_⟩) fun h => k0 _ ⟨rfl, bs ++ [a], by rw [e1]; simp, ?_⟩⟩
    · simp [List.filter_append, h]
    · simp [List.filter_append, h]
  · rintro out st' ⟨rfl, bs, e1, rfl⟩
    rw [List.append_nil] at e1
    subst e1
    exact ⟨pn, k⟩
theorem for_ind {x : T → En → (En → Prop) → Prop} {b : WS} {n0 : Nat} {E : EN} {pin : Stt → Prop} (I : List T → En → Stt → Prop)
    (step : ∀ a as env st, I (a :: as) env st → ∀ C : En → Stt → Prop, (∀ env' st', I as env' st' → C env' st') → pin st ∧ a.refsIn (alive st) = true ∧ x a env fun env' => b n0 { nx := C, ct := C, bk := E.nx, rt := E.rt } env' st)
    (fin : ∀ env st, I [] env st → pin st ∧ E.nx env st) : ∀ (ts : List T) (env : En) (st : Stt), I ts env st → forW x b n0 E pin ts env st
  | [], env, st, h => fin env st h
  | a :: as, env, st, h => step a as env st h _ fun env' st' h' => for_ind I step fin as env' st' h'
theorem x_augI {v k : Nat} {kz y x : Int} {n0 : Nat} {E : EN} {env : En} (hv : env[v]? = some (some (.ref n))) (h : st[n]? = some (.lst xs)) (hk : kz = (k : Int)) (kk : k < 1000000) (hx : xs[k]? = some (.int x)) (q : E.nx env (st.set n (.lst (xs.set k (.int (x + y)))))) :
    (sAugS (eV v) (eI kz) (eI y) : SX c).w n0 E env st := by
  subst hk
  exact x_augS (y := y) (fun R r => x_eV hv r) (fun R r => r) (fun R r => r) h kk hx q
theorem x_hSubI {v k : Nat} {kz : Int} {env : En} {R : En → Stt → Prop} (hv : env[v]? = some (some (.ref n))) (h : st[n]? = some (.lst xs)) (hk : kz = (k : Int)) (lk : k < xs.length) (lo : t.under n = true) (q : R env (st.set n (.lst (xs.set k t)))) :
    (hSub (eV v) (eI kz) : GH c).w t env st R := by
  subst hk
  exact x_hSub (fun R r => x_eV hv r) (fun R r => r) h lk lo q
theorem set_same {α : Type} {xs : List α} {n : Nat} {x : α} (h : xs[n]? = some x) : xs.set n x = xs := by
  apply List.ext_getElem?
  intro j
  rw [List.getElem?_set]
  by_cases e : n = j
  · subst e
    have l := (List.getElem?_eq_some_iff.mp h).1
    simp only [if_pos, l, h]
  · simp [e]
end
end Vw

/-! what each combinator does, as steps -/
namespace Vw
open PySem PySem.Spec PyProof.Rows L2 Gd
open PySem.W (dataLe AllAlike Sortable)
section
variable {c : Cf}
theorem y_aN  : ∀ x0 st Q, (Q [] st) → (aN  : AX c).w x0 st Q := fun _ _ _ h => h
theorem y_aC (e : EX c) (a : AX c) : ∀ env st Q, (e.w env st fun t st1 => a.w env st1 fun ts st2 => Q (t :: ts) st2) → (aC e a : AX c).w env st Q := fun _ _ _ h => h
theorem y_eTup (a : AX c) : ∀ env st Q, (a.w env st fun ts st1 => ts.length ≤ big ∧ Q (.tup ts) st1) → (eTup a : EX c).w env st Q := fun _ _ _ h => h
theorem y_eLst (a : AX c) : ∀ env st Q, (a.w env st fun ts st1 => ts.length ≤ big ∧ Q (.lst ts) st1) → (eLst a : EX c).w env st Q := fun _ _ _ h => h
theorem y_eLstC (a : AX c) : ∀ env st Q, (a.w env st fun ts st1 => ts.length ≤ big ∧ refsInL (fun m => decide (m < st1.length)) ts = true ∧ Q (.ref st1.length) (st1 ++ [.lst ts])) → (eLstC a : EX c).w env st Q := fun _ _ _ h => h
theorem y_eDK  : ∀ x0 st Q, (Q (.dct []) st) → (eDK  : EX c).w x0 st Q := fun _ _ _ h => h
theorem y_eDKC  : ∀ x0 st Q, (Q (.ref st.length) (st ++ [.dct []])) → (eDKC  : EX c).w x0 st Q := fun _ _ _ h => h
theorem y_eDTC  : ∀ x0 st Q, (Q (.ref st.length) (st ++ [.dtt []])) → (eDTC  : EX c).w x0 st Q := fun _ _ _ h => h
theorem y_eOp (o : O2 c) (a b : EX c) : ∀ env st Q, (a.w env st fun x st1 => b.w env st1 fun y st2 => o.w st2 x y Q) → (eOp o a b : EX c).w env st Q := fun _ _ _ h => h
theorem y_eUn (o : O1 c) (a : EX c) : ∀ env st Q, (a.w env st fun x st1 => o.w st1 x Q) → (eUn o a : EX c).w env st Q := fun _ _ _ h => h
theorem y_eCB (o : ON c) (a : AX c) : ∀ env st Q, (a.w env st fun xs st1 => o.w st1 xs Q) → (eCB o a : EX c).w env st Q := fun _ _ _ h => h
theorem y_tE (e : EX c) : ∀ env st Q, (e.w env st fun t st1 => match t with | .bl b => Q b st1 | _ => False) → (tE e : TX c).w env st Q := fun _ _ _ h => h
theorem y_tTe (e : EX c) : ∀ env st Q, (e.w env st fun t st1 => match t with | .bl b => Q b st1 | _ => False) → (tTe e : TX c).w env st Q := fun _ _ _ h => h
theorem y_tNo (t : TX c) : ∀ env st Q, (t.w env st fun b st1 => Q (!b) st1) → (tNo t : TX c).w env st Q := fun _ _ _ h => h
theorem y_tAn (a b : TX c) : ∀ env st Q, (a.w env st fun x st1 => if x = true then b.w env st1 Q else Q false st1) → (tAn a b : TX c).w env st Q := fun _ _ _ h => h
theorem y_tOrr (a b : TX c) : ∀ env st Q, (a.w env st fun x st1 => if x = true then Q true st1 else b.w env st1 Q) → (tOrr a b : TX c).w env st Q := fun _ _ _ h => h
theorem y_tY  : ∀ x0 st Q, (Q true st) → (tY  : TX c).w x0 st Q := fun _ _ _ h => h
theorem y_eAnd (a b : EX c) : ∀ env st Q, (a.w env st fun x st1 => match x with | .bl p => if p = true then b.w env st1 Q else Q (.bl false) st1 | _ => False) → (eAnd a b : EX c).w env st Q := fun _ _ _ h => h
theorem y_eOr (a b : EX c) : ∀ env st Q, (a.w env st fun x st1 => match x with | .bl p => if p = true then Q (.bl true) st1 else b.w env st1 Q | _ => False) → (eOr a b : EX c).w env st Q := fun _ _ _ h => h
theorem y_eNot (a : EX c) : ∀ env st Q, (a.w env st fun x st1 => match x with | .bl p => Q (.bl (!p)) st1 | _ => False) → (eNot a : EX c).w env st Q := fun _ _ _ h => h
theorem y_eIf (t : TX c) (a b : EX c) : ∀ env st Q, (t.w env st fun x st1 => if x = true then a.w env st1 Q else b.w env st1 Q) → (eIf t a b : EX c).w env st Q := fun _ _ _ h => h
theorem y_eChain (o o' : O2 c) (a b d : EX c) : ∀ env st Q, (a.w env st fun x st1 => b.w env st1 fun y st2 => o.w st2 x y fun z st3 => match z with | .bl p => if p = true then d.w env st3 fun u st4 => o'.w st4 y u fun z st5 => match z with | .bl q => Q (.bl q) st5 | _ => False else Q (.bl false) st3 | _ => False) → (eChain o o' a b d : EX c).w env st Q := fun _ _ _ h => h
theorem y_sNx  : ∀ x0 E env st, (E.nx env st) → (sNx  : SX c).w x0 E env st := fun _ _ _ _ h => h
theorem y_sSeq (a b : SX c) : ∀ n0 E env st, (a.w n0 { E with nx := fun env' st' => b.w n0 E env' st' } env st) → (sSeq a b : SX c).w n0 E env st := fun _ _ _ _ h => h
theorem y_sNever  : ∀ x0 x1 x2 x3, (False) → (sNever  : SX c).w x0 x1 x2 x3 := fun _ _ _ _ h => h
theorem y_sBrk  : ∀ x0 E env st, (E.bk env st) → (sBrk  : SX c).w x0 E env st := fun _ _ _ _ h => h
theorem y_sCnt  : ∀ x0 E env st, (E.ct env st) → (sCnt  : SX c).w x0 E env st := fun _ _ _ _ h => h
theorem y_sDrop (e : EX c) : ∀ x0 E env st, (e.w env st fun _ st1 => E.nx env st1) → (sDrop e : SX c).w x0 E env st := fun _ _ _ _ h => h
theorem y_sRet (e : EX c) : ∀ x0 E env st, (e.w env st E.rt) → (sRet e : SX c).w x0 E env st := fun _ _ _ _ h => h
theorem y_sRetN  : ∀ x0 E env st, (E.rt .non st) → (sRetN  : SX c).w x0 E env st := fun _ _ _ _ h => h
theorem y_sIf (t : TX c) (a b : SX c) : ∀ n0 E env st, (t.w env st fun x st1 => if x = true then a.w n0 E env st1 else b.w n0 E env st1) → (sIf t a b : SX c).w n0 E env st := fun _ _ _ _ h => h
theorem y_gN (i : Nat) : ∀ t env Q, (Q (env.set i (some t))) → (gN i : GX c).w t env Q := fun _ _ _ h => h
theorem y_gsN  : ∀ ts env Q, (ts = [] ∧ Q env) → (gsN  : GXs c).w ts env Q := fun _ _ _ h => h
theorem y_gsC (x : GX c) (xs : GXs c) : ∀ ts env Q, (match ts with | t :: r => x.w t env fun env' => xs.w r env' Q | [] => False) → (gsC x xs : GXs c).w ts env Q := fun _ _ _ h => h
theorem y_gT (n : Nat) (xs : GXs c) : ∀ t env Q, (match t with | .tup ts => ts.length = n ∧ xs.w ts env Q | _ => False) → (gT n xs : GX c).w t env Q := fun _ _ _ h => h
theorem y_sAsg (e : EX c) (x : GX c) : ∀ x0 E env st, (e.w env st fun t st1 => x.w t env fun env' => E.nx env' st1) → (sAsg e x : SX c).w x0 E env st := fun _ _ _ _ h => h
theorem y_sPar (i j : Nat) (a : AX c) : ∀ x0 E env st, (a.w env st fun ts st1 => match ts with | [x, y] => E.nx ((env.set i (some x)).set j (some y)) st1 | _ => False) → (sPar i j a : SX c).w x0 E env st := fun _ _ _ _ h => h
theorem y_sWh (t : TX c) (b : SX c) : ∀ n0 E env st, (∃ k, whW t.w b.w n0 E k env st) → (sWh t b : SX c).w n0 E env st := fun _ _ _ _ h => h
theorem y_sFor (i : IX c) (x : GX c) (b : SX c) : ∀ n0 E env st, (i.w env st fun ts pin st1 => forW x.w b.w n0 E pin ts env st1) → (sFor i x b : SX c).w n0 E env st := fun _ _ _ _ h => h
theorem y_eLc (i : IX c) (x : GX c) (t : TX c) (e : EX c) : ∀ env st Q, (i.w env st fun ts pin st1 => lcW x.w t.w e.w (wipeE env x.vs) pin ts [] st1 fun out st2 => Q (.lst out) st2) → (eLc i x t e : EX c).w env st Q := fun _ _ _ h => h
theorem y_iA (e : EX c) : ∀ env st Q, (e.w env st fun t st1 => match t with
    | .tup ts => Q ts (fun _ => True) st1
    | .emp => Q [] (fun _ => True) st1
    | .str x => x.length ≤ big ∧ Q (signT x) (fun _ => True) st1
    | .lst ts => Q ts (fun _ => True) st1
    | .ref n => asL st1 (.ref n) fun ts pin => Q ts pin st1
    | _ => False) → (iA e : IX c).w env st Q := fun _ _ _ h => h
theorem y_iR1 (a : AX c) : ∀ env st Q, (a.w env st fun ts st1 => match ts with | [.int n] => -100000 ≤ n ∧ n ≤ 100000 ∧ Q (intT 0 n.toNat) (fun _ => True) st1 | _ => False) → (iR1 a : IX c).w env st Q := fun _ _ _ h => h
theorem y_iR2 (a : AX c) : ∀ env st Q, (a.w env st fun ts st1 => match ts with | [.int m, .int n] => -100000 ≤ m ∧ m ≤ 100000 ∧ -100000 ≤ n ∧ n ≤ 100000 ∧ n - m ≤ 100000 ∧ Q (intT m (n - m).toNat) (fun _ => True) st1 | _ => False) → (iR2 a : IX c).w env st Q := fun _ _ _ h => h
theorem y_iEn (a : AX c) : ∀ env st Q, (a.w env st fun ts st1 => match ts with | [x] => asL st1 x fun ts pin => Q (ts.zipIdx.map fun p => T.tup [.int (p.2 : Nat), p.1]) pin st1 | _ => False) → (iEn a : IX c).w env st Q := fun _ _ _ h => h
theorem y_iZi (a : AX c) : ∀ env st Q, (a.w env st fun ts st1 => match ts with | [x, y] => asL st1 x fun xs p1 => asL st1 y fun ys p2 => Q ((xs.zip ys).map fun p => T.tup [p.1, p.2]) (fun s => p1 s ∧ p2 s) st1 | _ => False) → (iZi a : IX c).w env st Q := fun _ _ _ h => h
theorem y_pN  : ∀ x0 st Q, (Q none st) → (pN  : PX c).w x0 st Q := fun _ _ _ h => h
theorem y_pS (e : EX c) : ∀ env st Q, (e.w env st fun t st1 => match t with | .int i => Q (some i) st1 | _ => False) → (pS e : PX c).w env st Q := fun _ _ _ h => h
theorem y_eSl (e : EX c) (p q : PX c) : ∀ env st Q, (e.w env st fun t st1 => p.w env st1 fun lo st2 => q.w env st2 fun hi st3 => match t with
    | .str x => x.length ≤ big ∧ Q (.str (cutS x lo hi)) st3
    | .tup xs => Q (.tup (cutT xs lo hi)) st3
    | .scr ns => Q (.lst (cutT (ns.map T.int) lo hi)) st3
    | t => asL st3 t fun xs _ => Q (.lst (cutT xs lo hi)) st3) → (eSl e p q : EX c).w env st Q := fun _ _ _ h => h
theorem y_eBM (m : MX c) (o : EX c) (a : AX c) : ∀ env st Q, (o.w env st fun t st1 => m.ty st1 t ∧ a.w env st1 fun ts st2 => m.w st2 t ts Q) → (eBM m o a : EX c).w env st Q := fun _ _ _ h => h
theorem y_eBM0 (m : MX c) (o : EX c) : ∀ env st Q, (o.w env st fun t st1 => m.ty st1 t ∧ m.w st1 t [] Q) → (eBM0 m o : EX c).w env st Q := fun _ _ _ h => h
theorem y_mAppend  : ∀ st t ts Q, (match ts with | [y] => cellL st t fun n xs => xs.length < big ∧ y.under n = true ∧ Q .non (st.set n (.lst (xs ++ [y]))) | _ => False) → (mAppend  : MX c).w st t ts Q := fun _ _ _ _ h => h
theorem y_mExtend  : ∀ st t ts Q, (match ts with | [y] => cellL st t fun n xs => asL st y fun ys _ => xs.length + ys.length ≤ big ∧ refsInL (fun m => decide (m < n)) ys = true ∧ Q .non (st.set n (.lst (xs ++ ys))) | _ => False) → (mExtend  : MX c).w st t ts Q := fun _ _ _ _ h => h
theorem y_mClear  : ∀ st t ts Q, (match ts with | [] => cellL st t fun n xs => Q .non (st.set n (.lst [])) | _ => False) → (mClear  : MX c).w st t ts Q := fun _ _ _ _ h => h
theorem y_mReverse  : ∀ st t ts Q, (match ts with | [] => cellL st t fun n xs => Q .non (st.set n (.lst xs.reverse)) | _ => False) → (mReverse  : MX c).w st t ts Q := fun _ _ _ _ h => h
theorem y_mPop  : ∀ st t ts Q, (match ts with | [] => cellL st t fun n xs => (match xs[xs.length - 1]? with | some y => Q y (st.set n (.lst xs.dropLast)) | none => False) | _ => False) → (mPop  : MX c).w st t ts Q := fun _ _ _ _ h => h
theorem y_mPopAt  : ∀ st t ts Q, (match ts with | [.int i] => cellL st t fun n xs => (-(2 ^ 63) ≤ i ∧ i < 2 ^ 63) ∧ (match seqIndex? i xs.length with | some j => (match xs[j]? with | some y => Q y (st.set n (.lst (xs.eraseIdx j))) | none => False) | none => False) | _ => False) → (mPopAt  : MX c).w st t ts Q := fun _ _ _ _ h => h
theorem y_mS0 (C : Str → Prop) (g : Str → Bool) : ∀ st t ts Q, (match t with | .str x => ts = [] ∧ C x ∧ Q (.bl (g x)) st | _ => False) → (mS0 C g : MX c).w st t ts Q := fun _ _ _ _ h => h
theorem y_mJoin  : ∀ st t ts Q, (match t, ts with | .str a, [y] => anyW st y fun zs => (match texts zs with | some ys => y.toD ≠ some (.str (match y with | .str x => x | _ => "")) ∧ (ys.map (·.length)).sum + ys.length * a.length ≤ 16777216 ∧ Q (.str (Txt.join a ys)) st | none => False) | _, _ => False) → (mJoin  : MX c).w st t ts Q := fun _ _ _ _ h => h
theorem y_hN (i : Nat) : ∀ t env st Q, (Q (env.set i (some t)) st) → (hN i : GH c).w t env st Q := fun _ _ _ _ h => h
theorem y_hsN  : ∀ ts env st Q, (ts = [] ∧ Q env st) → (hsN  : GHs c).w ts env st Q := fun _ _ _ _ h => h
theorem y_hsC (x : GH c) (xs : GHs c) : ∀ ts env st Q, (match ts with | t :: r => x.w t env st fun env' st' => xs.w r env' st' Q | [] => False) → (hsC x xs : GHs c).w ts env st Q := fun _ _ _ _ h => h
theorem y_hT (n : Nat) (xs : GHs c) : ∀ t env st Q, (match t with | .tup ts => ts.length = n ∧ xs.w ts env st Q | _ => False) → (hT n xs : GH c).w t env st Q := fun _ _ _ _ h => h
theorem y_hSub (o i : EX c) : ∀ t env st Q, (o.w env st fun x st1 => i.w env st1 fun j st2 => match j with
    | .int j => cellL st2 x fun n xs => (match ixN xs.length j with | some m => t.under n = true ∧ Q env (st2.set n (.lst (xs.set m t))) | none => False)
    | _ => False) → (hSub o i : GH c).w t env st Q := fun _ _ _ _ h => h
theorem y_sAsH (e : EX c) (x : GH c) : ∀ x0 E env st, (e.w env st fun t st1 => x.w t env st1 E.nx) → (sAsH e x : SX c).w x0 E env st := fun _ _ _ _ h => h
theorem y_sAugS (o i e : EX c) : ∀ x0 E env st, (o.w env st fun x st1 => i.w env st1 fun j st2 => match j with
    | .int j => 0 ≤ j ∧ j < 1000000 ∧ cellL st2 x fun n xs => (match xs[j.toNat]? with | some (.int a) => e.w env st2 fun y st3 => (match y with | .int b => cellL st3 x fun n xs => (match ixN xs.length j with | some m => E.nx env (st3.set n (.lst (xs.set m (.int (a + b))))) | none => False) | _ => False) | _ => False)
    | _ => False) → (sAugS o i e : SX c).w x0 E env st := fun _ _ _ _ h => h
theorem y_eCl (m : Mn) (dvs : List V) (ds : List T) (hd : ∀ L F H, Tas c L F H dvs ds) (E : XK) (a : AX c) : ∀ env st Q, (a.w env st fun ts st1 => callF m (ts ++ ds) st1 Q) → (eCl m dvs ds hd E a : EX c).w env st Q := fun _ _ _ h => h
theorem y_eClK (m : Mn) (dvs : List V) (ds : List T) (hd : ∀ L F H, Tas c L F H dvs ds) (E : XK) (a : AX c) : ∀ env st Q, (a.w env st fun ts st1 => m (ts ++ ds) st1 Q) → (eClK m dvs ds hd E a : EX c).w env st Q := fun _ _ _ h => h
theorem y_eDGet (d k : EX c) : ∀ env st Q, (d.w env st fun x st1 => k.w env st1 fun y st2 => dctW st2 x y fun o => match o with | some t => Q t st2 | none => False) → (eDGet d k : EX c).w env st Q := fun _ _ _ h => h
theorem y_eDGet1 (d k : EX c) : ∀ env st Q, (d.w env st fun x st1 => (∃ y, dctW st1 x y fun _ => True) ∧ k.w env st1 fun y st2 => dctW st2 x y fun o => Q (o.getD .non) st2) → (eDGet1 d k : EX c).w env st Q := fun _ _ _ h => h
theorem y_eDGet2 (d k x : EX c) : ∀ env st Q, (d.w env st fun z st1 => (∃ y, dctW st1 z y fun _ => True) ∧ k.w env st1 fun y st2 => x.w env st2 fun f st3 => dctW st3 z y fun o => Q (o.getD f) st3) → (eDGet2 d k x : EX c).w env st Q := fun _ _ _ h => h
theorem y_eDIn (k d : EX c) : ∀ env st Q, (k.w env st fun y st1 => d.w env st1 fun x st2 => dctW st2 x y fun o => Q (.bl o.isSome) st2) → (eDIn k d : EX c).w env st Q := fun _ _ _ h => h
theorem y_eDNin (k d : EX c) : ∀ env st Q, (k.w env st fun y st1 => d.w env st1 fun x st2 => dctW st2 x y fun o => Q (.bl (!o.isSome)) st2) → (eDNin k d : EX c).w env st Q := fun _ _ _ h => h
theorem y_sDPt (d k v : EX c) : ∀ x0 E env st, (v.w env st fun t st1 => d.w env st1 fun x st2 => k.w env st2 fun y st3 => dcellW st3 x y t fun st4 => E.nx env st4) → (sDPt d k v : SX c).w x0 E env st := fun _ _ _ _ h => h
theorem y_eIsi (e : EX c) (n : String) (hn : n ∈ ["int", "bool", "str", "list", "tuple", "dict"]) : ∀ env st Q, (e.w env st fun t st1 => kindS st1 t ∈ ["NoneType", "bool", "int", "str", "list", "tuple", "dict"] ∧ Q (.bl (isA (kindS st1 t) n)) st1) → (eIsi e n hn : EX c).w env st Q := fun _ _ _ h => h
theorem y_eIsi2 (e : EX c) (n m : String) (hn : n ∈ ["int", "bool", "str", "list", "tuple", "dict"]) (hn' : m ∈ ["int", "bool", "str", "list", "tuple", "dict"]) : ∀ env st Q, (e.w env st fun t st1 => kindS st1 t ∈ ["NoneType", "bool", "int", "str", "list", "tuple", "dict"] ∧ Q (.bl (isA (kindS st1 t) n || isA (kindS st1 t) m)) st1) → (eIsi2 e n m hn hn' : EX c).w env st Q := fun _ _ _ h => h
theorem y_eLc2 (i : IX c) (x : GX c) (t : TX c) (i1 : IX c) (x1 : GX c) (t1 : TX c) (e : EX c) (vs : List Nat) (hv : ∀ v ∈ x.vs, v ∈ vs) : ∀ env st Q, (i.w env st fun ts pin st1 => lc2W x.w t.w i1.w x1.w x1.vs t1.w e.w (wipeE env vs) pin ts [] st1 fun out st2 => Q (.lst out) st2) → (eLc2 i x t i1 x1 t1 e vs hv : EX c).w env st Q := fun _ _ _ h => h
theorem y_eDcT (i : IX c) (x : GX c) (kk e : EX c) : ∀ env st Q, (i.w env st fun ts pin st1 => dcW x.w kk.w e.w (wipeE env x.vs) pin ts [] st1 fun out st2 => Q (.dtt out) st2) → (eDcT i x kk e : EX c).w env st Q := fun _ _ _ h => h
theorem y_eFld (C : Addr) (f : Str) (cl : Cls c.K C) (na : NoAttr c.K C f) (o : EX c) : ∀ env st Q, (o.w env st fun t st1 => objW C st1 t fun fs => match fs.lookup f with | some x => Q x st1 | none => False) → (eFld C f cl na o : EX c).w env st Q := fun _ _ _ h => h
theorem y_sFldC (C : Addr) (f : Str) (cl : Cls c.K C) (na : NoAttr c.K C f) (o v : EX c) : ∀ x0 E env st, (v.w env st fun y st1 => o.w env st1 fun t st2 => match t with
    | .ref n => match st2[n]? with
      | some (.obj C' fs) => C' = C ∧ fs.length < 1000 ∧ y.under n = true ∧ E.nx env (st2.set n (.obj C (putFT f y fs)))
      | _ => False
    | _ => False) → (sFldC C f cl na o v : SX c).w x0 E env st := fun _ _ _ _ h => h
theorem y_eMk (C : Addr) (m : Mn) (dvs : List V) (ds : List T) (hd : ∀ L F H, Tas c L F H dvs ds) (a : AX c) : ∀ env st Q, (a.w env st fun ts st1 => makeW C m (ts ++ ds) st1 fun st2 => exitF st1.length st2 (.ref st1.length) fun t => Q t (st2.take st1.length)) → (eMk C m dvs ds hd a : EX c).w env st Q := fun _ _ _ h => h
theorem y_eMkK (C : Addr) (m : Mn) (dvs : List V) (ds : List T) (hd : ∀ L F H, Tas c L F H dvs ds) (a : AX c) : ∀ env st Q, (a.w env st fun ts st1 => makeW C m (ts ++ ds) st1 fun st2 => Q (.ref st1.length) st2) → (eMkK C m dvs ds hd a : EX c).w env st Q := fun _ _ _ h => h
theorem y_eMt (C : Addr) (n : Str) (m : Mn) (o : EX c) (a : AX c) : ∀ env st Q, (o.w env st fun t st1 => (objW C st1 t fun fs => fs.lookup n = none) ∧ a.w env st1 fun ts st2 => callF m (t :: ts) st2 Q) → (eMt C n m o a : EX c).w env st Q := fun _ _ _ h => h
theorem y_eIsiO (C : Addr) (ic : C8.InsC c.K C) (nk : NoKin c.K C) (e : EX c) : ∀ env st Q, (e.w env st fun t st1 => (isO C st1 t ∧ Q (.bl true) st1) ∨ ((view st1 t).isSome = true ∧ Q (.bl false) st1)) → (eIsiO C ic nk e : EX c).w env st Q := fun _ _ _ h => h
theorem y_eLcC (i : IX c) (x : GX c) (t : TX c) (e : EX c) : ∀ env st Q, (i.w env st fun ts pin st1 => lcW x.w t.w e.w (wipeE env x.vs) pin ts [] st1 fun out st2 => refsInL (fun m => decide (m < st2.length)) out = true ∧ Q (.ref st2.length) (st2 ++ [.lst out])) → (eLcC i x t e : EX c).w env st Q := fun _ _ _ h => h
theorem y_eClT (m : Mn) (dvs : List V) (ds : List T) (hd : ∀ L F H, Tas c L F H dvs ds) (E : XK) (a : AX c) : ∀ env st Q, (a.w env st fun ts st1 => callT m (ts ++ ds) st1 Q) → (eClT m dvs ds hd E a : EX c).w env st Q := fun _ _ _ h => h
theorem y_eMtT (C : Addr) (n : Str) (m : Mn) (o : EX c) (a : AX c) : ∀ env st Q, (o.w env st fun t st1 => (objW C st1 t fun fs => fs.lookup n = none) ∧ a.w env st1 fun ts st2 => callT m (t :: ts) st2 Q) → (eMtT C n m o a : EX c).w env st Q := fun _ _ _ h => h
theorem y_iOwnX (C : Addr) (f : Str) (e : EX c) : ∀ env st Q, (e.w env st fun t st1 => objW C st1 t fun fs => match fs.lookup f with | some x => (match x with | .lst ts => Q ts (fun _ => True) st1 | _ => False) | none => False) → (iOwnX C f e : IX c).w env st Q := fun _ _ _ h => h
theorem y_eDisp (a b : EX c) : ∀ env st Q, (a.w env st fun x st1 => b.w env st1 fun y st2 => match x.sk with | some k => Q (.dct [(k, y)]) st2 | none => False) → (eDisp a b : EX c).w env st Q := fun _ _ _ h => h
theorem y_eSortV (d : EX c) : ∀ env st Q, (d.w env st fun t st1 => dctL st1 t fun ps => match texts (ps.map (·.2)) with | some ys => ys.length ≤ 1000 ∧ Q (.lst ((ys.mergeSort (dataLe false PyData.str)).map .str)) st1 | none => False) → (eSortV d : EX c).w env st Q := fun _ _ _ h => h
theorem y_NoLen  : ∀ st t Q, (anyW st t fun ts => Q (.int ts.length) st) → (oLen  : ON c).w st [t] Q := fun _ _ _ h => h
theorem y_NoList  : ∀ st t Q, (anyW st t fun ts => Q (.lst ts) st) → (oList  : ON c).w st [t] Q := fun _ _ _ h => h
theorem y_NoListC  : ∀ st t Q, (anyW st t fun ts => refsInL (fun m => decide (m < st.length)) ts = true ∧ Q (.ref st.length) (st ++ [.lst ts])) → (oListC  : ON c).w st [t] Q := fun _ _ _ h => h
theorem y_NoTuple  : ∀ st t Q, ((t.toD ≠ some (.str (match t with | .str x => x | _ => "")) ∧ t ≠ .emp) ∧ anyW st t fun ts => Q (.tup ts) st) → (oTuple  : ON c).w st [t] Q := fun _ _ _ h => h
theorem y_NoAll  : ∀ st t Q, (asL st t fun xs _ => match bools xs with | some bs => Q (.bl (bs.all id)) st | none => False) → (oAll  : ON c).w st [t] Q := fun _ _ _ h => h
theorem y_NoAny  : ∀ st t Q, (asL st t fun xs _ => match bools xs with | some bs => Q (.bl (bs.any id)) st | none => False) → (oAny  : ON c).w st [t] Q := fun _ _ _ h => h
theorem y_NoSort  : ∀ st t Q, (seqW st t fun xs => match toDL xs with | some ds => AllAlike ds ∧ Sortable ds ∧ (∀ d ∈ ds, d.depth ≤ 60) ∧ Q (.lst (sortT xs ds)) st | none => False) → (oSort  : ON c).w st [t] Q := fun _ _ _ h => h
theorem y_NoSet  : ∀ st t Q, (anyW st t fun ts => (match texts ts with | some ys => (match t with | .str _ => False | _ => True) ∧ ys.length ≤ 4000 ∧ Q (.set ys) st | none => False)) → (oSet  : ON c).w st [t] Q := fun _ _ _ h => h
theorem y_NoLenO (C : Addr) (m : Mn) : ∀ st t Q, (isO C st t ∧ callF m [t] st fun r st' => match r with | .int n => 0 ≤ n ∧ n < 2 ^ 63 ∧ Q (.int n) st' | _ => False) → (oLenO C m : ON c).w st [t] Q := fun _ _ _ h => h
theorem y_NoListO (C : Addr) (f : Str) (m : Mn) : ∀ st t Q, (lstOW C f m st t fun ts st' => Q (.lst ts) st') → (oListO C f m : ON c).w st [t] Q := fun _ _ _ h => h
theorem y_NoListOC (C : Addr) (f : Str) (m : Mn) : ∀ st t Q, (lstOW C f m st t fun ts st' => refsInL (fun m => decide (m < st'.length)) ts = true ∧ Q (.ref st'.length) (st' ++ [.lst ts])) → (oListOC C f m : ON c).w st [t] Q := fun _ _ _ h => h
theorem y_NoDict  : ∀ st t Q, (asL st t fun ts _ => match pairsT ts with | some ps => Q (.dct (mergeP [] ps)) st | none => False) → (oDict  : ON c).w st [t] Q := fun _ _ _ h => h
theorem y_NoListD  : ∀ st t Q, (dctL st t fun ps => Q (.lst (ps.map fun kv => T.ofK kv.1)) st) → (oListD  : ON c).w st [t] Q := fun _ _ _ h => h
theorem y_NoSortDT  : ∀ st t Q, (dttL st t fun ps => match pairsK (ps.map (·.1)) with | some ks => ks.length ≤ 1000 ∧ Q (.lst ((sortP ks).map spT)) st | none => False) → (oSortDT  : ON c).w st [t] Q := fun _ _ _ h => h
theorem y_eI (i : Int) : ∀ env st Q, (Q (.int i) st) → (eI i : EX c).w env st Q := fun _ _ _ h => h
theorem y_eS (i : Str) : ∀ env st Q, (Q (.str i) st) → (eS i : EX c).w env st Q := fun _ _ _ h => h
theorem y_eB (i : Bool) : ∀ env st Q, (Q (.bl i) st) → (eB i : EX c).w env st Q := fun _ _ _ h => h
theorem y_eN  : ∀ env st Q, (Q (.non) st) → (eN : EX c).w env st Q := fun _ _ _ h => h
end
end Vw

/-! steps of the walk -/
local macro_rules
  | `(tactic| walk_at "go1") => `(tactic| first
  | rw [if_pos (rfl : true = true)]
  | rw [if_neg Bool.false_ne_true]
  | with_reducible apply Vw.y_eOp
  | with_reducible apply Vw.y_eCB
  | with_reducible apply Vw.y_aC
  | with_reducible apply Vw.y_aN
  | with_reducible apply Vw.y_eI
  | with_reducible apply Vw.y_eS
  | with_reducible apply Vw.y_eB
  | with_reducible apply Vw.y_eN
  | ((with_reducible apply Vw.x_eV); rfl)
  | with_reducible apply Vw.y_eTup
  | with_reducible apply Vw.y_eLst
  | with_reducible apply Vw.y_eLstC
  | with_reducible apply Vw.y_eDK
  | with_reducible apply Vw.y_eDKC
  | with_reducible apply Vw.y_eDTC
  | with_reducible apply Vw.y_eUn
  | with_reducible apply Vw.y_tE
  | with_reducible apply Vw.y_tTe
  | with_reducible apply Vw.y_tNo
  | with_reducible apply Vw.y_tAn
  | with_reducible apply Vw.y_tOrr
  | with_reducible apply Vw.y_tY
  | with_reducible apply Vw.y_eAnd
  | with_reducible apply Vw.y_eOr
  | with_reducible apply Vw.y_eNot
  | with_reducible apply Vw.y_eIf
  | with_reducible apply Vw.y_eChain
  | with_reducible apply Vw.y_sNx
  | with_reducible apply Vw.y_sSeq
  | with_reducible apply Vw.y_sNever
  | with_reducible apply Vw.y_sBrk
  | with_reducible apply Vw.y_sCnt
  | with_reducible apply Vw.y_sDrop
  | with_reducible apply Vw.y_sRet
  | with_reducible apply Vw.y_sRetN
  | with_reducible apply Vw.y_sIf
  | with_reducible apply Vw.y_gN
  | with_reducible apply Vw.y_gsN
  | with_reducible apply Vw.y_gsC
  | with_reducible apply Vw.y_gT
  | with_reducible apply Vw.y_sAsg
  | with_reducible apply Vw.y_sPar
  | with_reducible apply Vw.y_sWh
  | with_reducible apply Vw.y_sFor
  | with_reducible apply Vw.y_eLc
  | with_reducible apply Vw.y_iA
  | with_reducible apply Vw.y_iR1
  | with_reducible apply Vw.y_iR2
  | with_reducible apply Vw.y_iEn
  | with_reducible apply Vw.y_iZi
  | with_reducible apply Vw.y_pN
  | with_reducible apply Vw.y_pS
  | with_reducible apply Vw.y_eSl
  | with_reducible apply Vw.y_eBM
  | with_reducible apply Vw.y_eBM0
  | with_reducible apply Vw.y_mAppend
  | with_reducible apply Vw.y_mExtend
  | with_reducible apply Vw.y_mClear
  | with_reducible apply Vw.y_mReverse
  | with_reducible apply Vw.y_mPop
  | with_reducible apply Vw.y_mPopAt
  | with_reducible apply Vw.y_mS0
  | with_reducible apply Vw.y_mJoin
  | with_reducible apply Vw.y_hN
  | with_reducible apply Vw.y_hsN
  | with_reducible apply Vw.y_hsC
  | with_reducible apply Vw.y_hT
  | with_reducible apply Vw.y_sAsH
  | with_reducible apply Vw.y_eCl
  | with_reducible apply Vw.y_eClK
  | with_reducible apply Vw.y_eDGet
  | with_reducible apply Vw.y_eDGet1
  | with_reducible apply Vw.y_eDGet2
  | with_reducible apply Vw.y_eDIn
  | with_reducible apply Vw.y_eDNin
  | with_reducible apply Vw.y_sDPt
  | with_reducible apply Vw.y_eIsi
  | with_reducible apply Vw.y_eIsi2
  | with_reducible apply Vw.y_eLc2
  | with_reducible apply Vw.y_eDcT
  | with_reducible apply Vw.y_eFld
  | with_reducible apply Vw.y_sFldC
  | with_reducible apply Vw.y_eMk
  | with_reducible apply Vw.y_eMkK
  | with_reducible apply Vw.y_eMt
  | with_reducible apply Vw.y_eIsiO
  | with_reducible apply Vw.y_eLcC
  | with_reducible apply Vw.y_eClT
  | with_reducible apply Vw.y_eMtT
  | with_reducible apply Vw.y_iOwnX
  | with_reducible apply Vw.y_eDisp
  | with_reducible apply Vw.y_eSortV
  | with_reducible apply Vw.y_NoLen
  | with_reducible apply Vw.y_NoList
  | with_reducible apply Vw.y_NoListC
  | with_reducible apply Vw.y_NoTuple
  | with_reducible apply Vw.y_NoLenO
  | with_reducible apply Vw.y_NoListO
  | with_reducible apply Vw.y_NoListOC
  | with_reducible apply Vw.y_NoListD
  | rw [Vw.v_oII]
  | rw [Vw.v_oIB]
  | rw [Vw.v_oIC]
  | rw [Vw.v_oNeg]
  | rw [Vw.v_addI]
  | rw [Vw.v_addS]
  | rw [Vw.v_addT]
  | rw [Vw.v_addL]
  | rw [Vw.v_mulI]
  | rw [Vw.v_mulL]
  | rw [Vw.v_intI]
  | rw [Vw.v_intB]
  | rw [Vw.v_absI]
  | rw [Vw.v_repS]
  | rw [Vw.v_asL]
  | rw [Vw.v_anyL]
  | rw [Vw.v_anyT]
  | rw [Vw.v_anyE]
  | rw [Vw.v_anyS]
  | rw [Vw.v_isN]
  | rw [Vw.v_notN]
  | dsimp only)
local macro_rules
  | `(tactic| walk_at "go") => `(tactic| repeat walk_at "go1")
/-! the law's own helpers -/
namespace LW
open PySem PySem.Spec PyProof.Rows L2 Gd Vw

def bagT (a b i : Int) (ns : List Int) : List T := [.int a, .int b, .int i, .lst (ns.map .int)]
section
variable {c : Cf} {n : Nat} {st : Stt} {Q : T → Stt → Prop}
theorem first_cellT (ns : List Int) (lo hi : Option Int) : ∃ c : Int, atI (cutT (ns.map T.int) lo hi ++ [T.int 0]) 0 = some (T.int c) := by
  have e : ∃ ms : List Int, cutT (ns.map T.int) lo hi = ms.map T.int := ⟨_, by unfold cutT; rw [← List.map_drop, ← List.map_take]⟩
  obtain ⟨ms, e⟩ := e
  rw [e]
  cases ms with
  | nil => exact ⟨0, rfl⟩
  | cons c r => exact ⟨c, atI_nat (j := 0) rfl⟩
theorem take_spec {a b i m : Int} {ns : List Int} (hb : st[n]? = some (.lst (bagT a b i ns))) (z : ns.length ≤ 63) (m0 : 0 < m) (m1 : m < 1073741824)
    (k : ∀ r a' b' i', 0 ≤ r → r < m → Q (.int r) (st.set n (.lst (bagT a' b' i' ns)))) : m_law_take c [.ref n, .int m] st Q := by
  refine ⟨rfl, ?_⟩
  obtain ⟨c0, hc⟩ := first_cellT ns (some i) none
  have ln : n < st.length := (List.getElem?_eq_some_iff.mp hb).1
  refine seq_cut (fun env' st' => ∃ a' b' i' o4 o5, st' = st.set n (.lst (bagT a' b' i' ns)) ∧ env' = [some (.ref n), some (.int m), none, none, o4, o5, none]) (fun K hK => ?_) ?_
  · walk_at "go"
    refine x_ixR hb rfl ?_
    walk_at "go"
    refine x_eq rfl rfl ⟨rfl, rfl⟩ ?_
    walk_at "go"
    refine ite2 (fun z0 => ?_) (fun z0 => ?_)
    · walk_at "go"
      refine x_ixR hb rfl ?_
      walk_at "go"
      refine x_ixR hb rfl ?_
      walk_at "go"
      refine ⟨by decide, ?_⟩
      walk_at "go"
      refine ⟨by have := cutT_le (ns.map T.int) (some i) none; simp [big] at this ⊢; omega, ?_⟩
      walk_at "go"
      refine x_ixL hc ?_
      walk_at "go"
      refine x_augI (k := 2) rfl hb rfl (by decide) rfl ?_
      walk_at "go"
      refine ⟨⟨by decide, by decide, by decide⟩, ?_⟩
      walk_at "go"
      refine ⟨.inr (by split <;> decide), ?_⟩
      refine x_hSubI (n := n) (k := 0) rfl (List.getElem?_set_self ln) rfl (by show 0 < 4; decide) rfl ?_
      walk_at "go"
      simp only [List.set_set]
      refine x_ixR (List.getElem?_set_self ln) rfl ?_
      walk_at "go"
      refine ⟨.inr ⟨by decide, by decide⟩, ?_⟩
      walk_at "go"
      refine ⟨by decide, ?_⟩
      walk_at "go"
      refine x_ixR (List.getElem?_set_self ln) rfl ?_
      walk_at "go"
      refine ⟨.inl ⟨by decide, by decide⟩, ?_⟩
      walk_at "go"
      refine ⟨by decide, ?_⟩
      walk_at "go"
      refine x_hSubI (n := n) (k := 1) rfl (List.getElem?_set_self ln) rfl (by show 1 < 4; decide) rfl ?_
      simp only [List.set_set]
      exact hK _ _ ⟨_, _, _, _, _, rfl, rfl⟩
    · walk_at "go"
      exact hK _ _ ⟨a, b, i, none, none, (set_same hb).symm, rfl⟩
  · rintro env' st' ⟨a', b', i', o4, o5, rfl, rfl⟩
    have hb' : (st.set n (.lst (bagT a' b' i' ns)))[n]? = some (.lst (bagT a' b' i' ns)) := List.getElem?_set_self ln
    walk_at "go"
    refine x_ixR hb' rfl ?_
    walk_at "go"
    refine ite2 (fun z0 => ?_) (fun z0 => ?_)
    · walk_at "go"
      refine x_ixR hb' rfl ?_
      walk_at "go"
      refine ⟨m0, ?_⟩
      walk_at "go"
      refine x_ixR hb' rfl ?_
      walk_at "go"
      refine ⟨⟨m0, m1⟩, ?_⟩
      walk_at "go"
      refine ⟨(by show 2 ≤ 100000; decide), ?_⟩
      walk_at "go"
      refine ⟨rfl, ?_⟩
      walk_at "go"
      refine x_hSubI (n := n) (k := 0) rfl hb' rfl (by show 0 < 4; decide) rfl ?_
      walk_at "go"
      refine ⟨rfl, ?_⟩
      walk_at "go"
      simp only [List.set_set]
      exact k _ _ _ _ (Int.emod_nonneg _ (by omega)) (Int.emod_lt_of_pos _ m0)
    · walk_at "go"
      refine x_ixR hb' rfl ?_
      walk_at "go"
      refine ⟨.inr ⟨by decide, by decide⟩, ?_⟩
      walk_at "go"
      refine ⟨by decide, ?_⟩
      walk_at "go"
      have e0 := Int.emod_nonneg ((b' + 1) * 39373) (b := 1000000007) (by decide)
      have e1 := Int.emod_lt_of_pos ((b' + 1) * 39373) (b := 1000000007) (by decide)
      refine ⟨.inl ⟨by omega, by omega⟩, ?_⟩
      walk_at "go"
      refine ⟨by decide, ?_⟩
      walk_at "go"
      refine ⟨.inr ⟨by decide, by decide⟩, ?_⟩
      walk_at "go"
      refine ⟨by decide, ?_⟩
      walk_at "go"
      refine ⟨⟨by decide, by decide⟩, ?_⟩
      walk_at "go"
      refine ⟨m0, ?_⟩
      exact k _ _ _ _ (Int.emod_nonneg _ (by omega)) (Int.emod_lt_of_pos _ m0)
/-! the bag as a cell -/
def BagOk (st : Stt) (n : Nat) : Prop := ∃ a b i ns, st[n]? = some (.lst (bagT a b i ns)) ∧ ns.length ≤ 63
/-- only the bag is another -/
def Bg (st : Stt) (n : Nat) (st' : Stt) : Prop := ∃ a b i ns, st' = st.set n (.lst (bagT a b i ns)) ∧ ns.length ≤ 63
theorem BagOk.lt (h : BagOk st n) : n < st.length := by
  obtain ⟨a, b, i, ns, e, _⟩ := h
  exact (List.getElem?_eq_some_iff.mp e).1
theorem BagOk.bg (h : BagOk st n) : Bg st n st := by
  obtain ⟨a, b, i, ns, e, z⟩ := h
  exact ⟨a, b, i, ns, (set_same e).symm, z⟩
theorem Bg.len {st' : Stt} (h : Bg st n st') : st'.length = st.length := by
  obtain ⟨a, b, i, ns, rfl, z⟩ := h
  exact List.length_set
theorem Bg.ok {st' : Stt} (h : Bg st n st') (l : n < st.length) : BagOk st' n := by
  obtain ⟨a, b, i, ns, rfl, z⟩ := h
  exact ⟨a, b, i, ns, List.getElem?_set_self l, z⟩
theorem Bg.trans {st' st'' : Stt} (h : Bg st n st') (k : Bg st' n st'') : Bg st n st'' := by
  obtain ⟨a, b, i, ns, rfl, z⟩ := h
  obtain ⟨a', b', i', ns', rfl, z'⟩ := k
  exact ⟨a', b', i', ns', List.set_set .., z'⟩
theorem Bg.at_ {st' : Stt} (h : Bg st n st') {m : Nat} (ne : n ≠ m) : st'[m]? = st[m]? := by
  obtain ⟨a, b, i, ns, rfl, z⟩ := h
  exact List.getElem?_set_ne ne
theorem Bg.app {s0 s1 st' : Stt} (l : n < s0.length) (h : Bg (s0 ++ s1) n st') : ∃ s0', st' = s0' ++ s1 ∧ Bg s0 n s0' := by
  obtain ⟨a, b, i, ns, rfl, z⟩ := h
  exact ⟨_, by rw [List.set_append_left _ _ l], a, b, i, ns, rfl, z⟩
theorem BagOk.app {s0 s1 : Stt} (h : BagOk s0 n) : BagOk (s0 ++ s1) n := by
  have l := h.lt
  obtain ⟨a, b, i, ns, e, z⟩ := h
  exact ⟨a, b, i, ns, by rw [List.getElem?_append_left l]; exact e, z⟩
theorem take_call {m : Int} (hb : BagOk st n) (m0 : 0 < m) (m1 : m < 1073741824) (k : ∀ r st', 0 ≤ r → r < m → Bg st n st' → Q (.int r) st') : callF (m_law_take c) [.ref n, .int m] st Q := by
  obtain ⟨a, b, i, ns, e, z⟩ := hb
  refine take_spec e z m0 m1 fun r a' b' i' r0 r1 => ⟨rfl, ?_⟩
  rw [List.take_of_length_le (by rw [List.length_set]; exact Nat.le_refl _)]
  exact k r _ r0 r1 ⟨_, _, _, _, rfl, z⟩
/-! data that can be mixed, compared, shown -/
structure Mx (t : T) : Prop where
  pure : t.pure = true
  dat : ∃ d, t.toD = some d ∧ d.canLay0 = true ∧ d.depth ≤ 60
theorem toDL_all {xs : List T} (h : ∀ t ∈ xs, ∃ d, t.toD = some d ∧ d.canLay0 = true ∧ d.depth ≤ 60) : ∃ ds, toDL xs = some ds ∧ PyData.canLayAll0 ds = true ∧ PyData.depthAll ds ≤ 60 := by
  induction xs with
  | nil => exact ⟨[], rfl, rfl, Nat.zero_le _⟩
  | cons x xs ih =>
    obtain ⟨d, e1, c1, p1⟩ := h x List.mem_cons_self
    obtain ⟨ds, e2, c2, p2⟩ := ih fun t m => h t (List.mem_cons_of_mem _ m)
    exact ⟨d :: ds, by simp [toDL, e1, e2], by simp [PyData.canLayAll0, c1, c2], by simp [PyData.depthAll]; omega⟩
theorem shp_list {ds : List PyData} (c1 : PyData.canLayAll0 ds = true) (p1 : PyData.depthAll ds ≤ 60) : Shp (.list ds) := by
  show (PyData.canLay0 (.list ds) && decide (PyData.depth (.list ds) ≤ 64)) = true
  have h1 : PyData.canLay0 (.list ds) = true := by simp only [PyData.canLay0]; exact c1
  have h2 : PyData.depth (.list ds) = PyData.depthAll ds + 1 := by simp only [PyData.depth]
  rw [h1, h2, Bool.true_and, decide_eq_true_eq]
  omega
theorem eqv_nil {ds : List PyData} : PyData.eqv (.list ds) (.list []) = decide (ds = []) := by
  cases ds with
  | nil => rfl
  | cons d ds => simp [PyData.eqv, PyData.eqvAll]
theorem pure_all {xs : List T} (h : ∀ t ∈ xs, t.pure = true) (p : Nat → Bool) : refsInL p xs = true := by
  rw [refsInL_all, List.all_eq_true]
  exact fun t m => T.pure_in (h t m) p
theorem seqIx {r : Int} {k : Nat} (r0 : 0 ≤ r) (r1 : r < k) : seqIndex? r k = some r.toNat := by
  have h : ¬ r < 0 := by omega
  simp [seqIndex?, h, r0, r1]
end
end LW

/-! drawn, mixed -/
namespace LW
open PySem PySem.Spec PyProof.Rows L2 Gd Vw

section
variable {c : Cf} {n : Nat} {st : Stt} {Q : T → Stt → Prop}
theorem x_isLs {xs : List T} (h : st[n]? = some (.lst xs)) : isLs st (.ref n) := x_cell h trivial
/-- a list, a cell or not -/
def IsL (st : Stt) (t : T) (xs : List T) : Prop := t = .lst xs ∨ ∃ m, t = .ref m ∧ st[m]? = some (.lst xs)
theorem IsL.any {t : T} {xs : List T} (h : IsL st t xs) {K : List T → Prop} (k : K xs) : anyW st t K := by
  rcases h with rfl | ⟨m, rfl, e⟩
  · exact k
  · exact x_anyR e k
theorem perm_erase {α : Type} : ∀ {xs : List α} {i : Nat} (h : i < xs.length), (xs[i] :: xs.eraseIdx i).Perm xs
  | x :: xs, 0, _ => List.Perm.refl _
  | x :: xs, i + 1, h => by
    have h' : i < xs.length := by simpa using h
    have ih := perm_erase h'
    show (xs[i]'h' :: x :: xs.eraseIdx i).Perm (x :: xs)
    exact (List.Perm.swap _ _ _).trans (ih.cons x)
theorem mix_loop {xs : List T} (hx : ∀ t ∈ xs, Mx t) (z : xs.length ≤ 1000) {L : Nat} (hL : st.length = L) (hn : n < L) {n0 : Nat} {E : EN} {env : En} (e0 : env[0]? = some (some (.ref n))) (e2 : env[2]? = some (some (.ref L))) (e3 : env[3]? = some (some (.ref (L + 1))))
    (fin : ∀ st' ys, Bg st n st' → ys.Perm xs → E.nx env (st' ++ [.lst [], .lst ys])) : ∀ (k : Nat) (rest found : List T) (s0 : Stt), rest.length < k → Bg st n s0 → (found ++ rest).Perm xs →
      whW (tTe (eOp oNe (eV 2) (eLst aN)) : TX c).w (sDrop (eBM mAppend (eV 3) (aC (eBM mPopAt (eV 2) (aC (eC0 (m_law_take c) (aC (eV 0) (aC (eCB oLen (aC (eV 2) aN)) aN))) aN)) aN)) : SX c).w n0 E k env (s0 ++ [.lst rest, .lst found])
  | 0, rest, found, s0, h, _, _ => absurd h (Nat.not_lt_zero _)
  | k + 1, rest, found, s0, h, g, p => by
    have l0 : s0.length = L := by rw [g.len, hL]
    have at1 : ∀ a b : Cell, (s0 ++ [a, b])[L]? = some a := fun a b => by rw [List.getElem?_append_right (by omega), l0]; simp
    have at2 : ∀ a b : Cell, (s0 ++ [a, b])[L + 1]? = some b := fun a b => by rw [List.getElem?_append_right (by omega), l0]; simp
    have sub : ∀ t ∈ rest, t ∈ xs := fun t m => p.mem_iff.mp (List.mem_append_right _ m)
    have subf : ∀ t ∈ found, t ∈ xs := fun t m => p.mem_iff.mp (List.mem_append_left _ m)
    obtain ⟨ds, ed, cd, dd⟩ := toDL_all fun t m => (hx t (sub t m)).dat
    unfold whW
    walk_at "go"
    refine x_eV e2 ?_
    walk_at "go"
    refine ⟨Nat.zero_le _, ?_⟩
    walk_at "go"
    refine x_ne (view_ref (at1 _ _) ed) rfl ⟨shp_list cd dd, rfl⟩ ?_
    walk_at "go"
    rw [eqv_nil]
    have en : (ds = []) ↔ rest = [] := by
      have := toDL_len ed
      constructor
      · intro h; rw [h] at this; exact List.eq_nil_of_length_eq_zero this.symm
      · intro h; rw [h] at this; exact List.eq_nil_of_length_eq_zero this
    refine ite2 (fun z0 => ?_) (fun z0 => ?_)
    · have ne : rest ≠ [] := by
        intro h
        simp [en.mpr h] at z0
      have lr : 0 < rest.length := List.length_pos_iff.mpr ne
      have lx := p.length_eq
      rw [List.length_append] at lx
      walk_at "go"
      refine x_eV e3 ?_
      refine ⟨x_isLs (at2 _ _), ?_⟩
      walk_at "go"
      refine x_eV e2 ?_
      refine ⟨x_isLs (at1 _ _), ?_⟩
      walk_at "go"
      refine x_eV e0 ?_
      walk_at "go"
      refine x_eV e2 ?_
      walk_at "go"
      refine x_anyR (at1 _ _) ?_
      walk_at "go"
      refine take_call (BagOk.app (g.ok (by omega))) (by omega) (by omega) fun r st' r0 r1 g1 => ?_
      obtain ⟨s1, rfl, g2⟩ := g1.app (by omega)
      have l1 : s1.length = L := by rw [g2.len, l0]
      have bt1 : ∀ a b : Cell, (s1 ++ [a, b])[L]? = some a := fun a b => by rw [List.getElem?_append_right (by omega), l1]; simp
      have bt2 : ∀ a b : Cell, (s1 ++ [a, b])[L + 1]? = some b := fun a b => by rw [List.getElem?_append_right (by omega), l1]; simp
      walk_at "go"
      have lt : r.toNat < rest.length := by omega
      refine x_cell (bt1 _ _) ⟨⟨by omega, by omega⟩, ?_⟩
      rw [seqIx r0 r1]
      dsimp only
      rw [List.getElem?_eq_getElem lt]
      dsimp only
      have s1e : (s1 ++ [Cell.lst rest, .lst found]).set L (.lst (rest.eraseIdx r.toNat)) = s1 ++ [.lst (rest.eraseIdx r.toNat), .lst found] := by
        rw [List.set_append_right _ _ (by omega), l1, Nat.sub_self]
        rfl
      rw [s1e]
      walk_at "go"
      have my := sub _ (List.getElem_mem lt)
      refine x_cell (bt2 _ _) ⟨by show _ < 100000; omega, T.pure_in (hx _ my).pure _, ?_⟩
      have s2e : (s1 ++ [Cell.lst (rest.eraseIdx r.toNat), .lst found]).set (L + 1) (.lst (found ++ [rest[r.toNat]])) = s1 ++ [.lst (rest.eraseIdx r.toNat), .lst (found ++ [rest[r.toNat]])] := by
        rw [List.set_append_right _ _ (by omega), l1]
        have : L + 1 - L = 1 := by omega
        rw [this]
        rfl
      rw [s2e]
      refine mix_loop hx z hL hn e0 e2 e3 fin k _ _ _ (by rw [List.length_eraseIdx_of_lt lt]; omega) (g.trans g2) ?_
      refine List.Perm.trans ?_ p
      rw [List.append_assoc]
      refine List.Perm.append_left _ ?_
      exact perm_erase lt
    · have e : rest = [] := by
        apply en.mp
        simpa using z0
      subst e
      rw [List.append_nil] at p
      exact fin s0 found g p
theorem mix_spec {t : T} {xs : List T} (hx : ∀ t ∈ xs, Mx t) (z : xs.length ≤ 1000) (hb : BagOk st n) (hl : IsL st t xs) (k : ∀ ys st', ys.Perm xs → Bg st n st' → Q (.ref (st.length + 1)) (st' ++ [.lst [], .lst ys])) : m_law_mix c [.ref n, t] st Q := by
  refine ⟨rfl, ?_⟩
  unfold D_law_mix
  walk_at "go"
  refine hl.any ⟨pure_all (fun t m => (hx t m).pure) _, ?_⟩
  walk_at "go"
  refine ⟨Nat.zero_le _, rfl, ?_⟩
  walk_at "go"
  have e1 : st ++ [Cell.lst xs] ++ [Cell.lst []] = st ++ [.lst xs, .lst []] := by simp
  have e2 : (st ++ [Cell.lst xs]).length = st.length + 1 := by simp
  rw [e1, e2]
  refine ⟨xs.length + 1, mix_loop hx z rfl hb.lt rfl rfl rfl (fun st' ys g p => ?_) _ xs [] st (Nat.lt_succ_self _) hb.bg (List.Perm.refl _)⟩
  walk_at "go"
  exact k ys st' p g
theorem mix_call {t : T} {xs : List T} (hx : ∀ t ∈ xs, Mx t) (z : xs.length ≤ 1000) (hb : BagOk st n) (hl : IsL st t xs) (k : ∀ ys st', ys.Perm xs → Bg st n st' → Q (.lst ys) st') : callF (m_law_mix c) [.ref n, t] st Q := by
  refine mix_spec hx z hb hl fun ys st' p g => ?_
  have l := g.len
  have e : (st' ++ [Cell.lst [], .lst ys])[st.length + 1]? = some (.lst ys) := by rw [List.getElem?_append_right (by omega), l]; simp
  unfold exitF
  simp only [e, if_neg (show ¬ st.length + 1 < st.length by omega)]
  refine ⟨pure_all (fun t m => (hx t (p.mem_iff.mp m)).pure) _, ?_⟩
  rw [← l, List.take_left]
  exact k ys st' p g
theorem mix_callT {t : T} {xs : List T} (hx : ∀ t ∈ xs, Mx t) (z : xs.length ≤ 1000) (hb : BagOk st n) (hl : IsL st t xs) (k : ∀ ys st', ys.Perm xs → Bg st n st' → Q (.ref st'.length) (st' ++ [.lst ys])) : callT (m_law_mix c) [.ref n, t] st Q := by
  refine mix_spec hx z hb hl fun ys st' p g => ?_
  have l := g.len
  have e : (st' ++ [Cell.lst [], .lst ys])[st.length + 1]? = some (.lst ys) := by rw [List.getElem?_append_right (by omega), l]; simp
  unfold keepF
  simp only [e, if_neg (show ¬ st.length + 1 < st.length by omega)]
  refine ⟨trivial, pure_all (fun t m => (hx t (p.mem_iff.mp m)).pure) _, ?_⟩
  rw [← l, List.take_left]
  exact k ys st' p g
theorem exit_pure {n0 : Nat} {t : T} {K : T → Prop} (h : t.pure = true) (q : K t) : exitF n0 st t K := by
  have hu := T.pure_in h fun m => decide (m < n0)
  cases t with
  | ref m => simp [T.refsIn] at h
  | _ => exact ⟨hu, q⟩
theorem pick_call {xs : List T} (hx : ∀ t ∈ xs, t.pure = true) (ne : xs ≠ []) (z : xs.length ≤ 1000) (hb : BagOk st n) (k : ∀ x st', x ∈ xs → Bg st n st' → Q x st') : callF (m_law_pick c) [.ref n, .lst xs] st Q := by
  refine ⟨rfl, ?_⟩
  unfold D_law_pick
  walk_at "go"
  have lr : 0 < xs.length := List.length_pos_iff.mpr ne
  refine take_call hb (by omega) (by omega) fun r st' r0 r1 g => ?_
  have lt : r.toNat < xs.length := by omega
  have er : r = (r.toNat : Int) := by omega
  generalize r.toNat = j at er lt
  subst er
  refine x_ixL (atI_nat (List.getElem?_eq_getElem lt)) ?_
  have m := List.getElem_mem lt
  refine exit_pure (hx _ m) ?_
  rw [List.take_of_length_le (by rw [g.len]; exact Nat.le_refl _)]
  exact k _ st' m g
end
end LW

/-! names drawn -/
namespace LW
open PySem PySem.Spec PyProof.Rows L2 Gd Vw

def okC (c : Nat) : Bool := decide (97 ≤ c) && decide (c ≤ 122)
/-- small letters, so many -/
def okN (lo hi : Nat) (x : Str) : Bool := x.cps.toList.all okC && (decide (lo ≤ x.cps.toList.length) && decide (x.cps.toList.length ≤ hi))
structure OkN (lo hi : Nat) (x : Str) : Prop where
  cs : ∀ c ∈ x.cps.toList, 97 ≤ c ∧ c ≤ 122
  lo : lo ≤ x.cps.toList.length
  hi : x.cps.toList.length ≤ hi
theorem okN_iff {lo hi : Nat} {x : Str} (h : okN lo hi x = true) : OkN lo hi x := by
  simp only [okN, okC, Bool.and_eq_true, decide_eq_true_eq, List.all_eq_true] at h
  exact ⟨h.1, h.2.1, h.2.2⟩
structure Thg (n : Nat) (xs : List Str) : Prop where
  nd : xs.Nodup
  len : xs.length = n
  ok : ∀ x ∈ xs, OkN 1 8 x
theorem str_len (x : Str) : x.length = x.cps.toList.length := by simp; rfl
theorem app_toList (x y : Str) : (x ++ y).cps.toList = x.cps.toList ++ y.cps.toList := by
  show (x.cps ++ y.cps).toList = _
  simp
theorem OkN.app {x y : Str} {a b d e : Nat} (h : OkN a b x) (k : OkN d e y) : OkN (a + d) (b + e) (x ++ y) := by
  have := h.lo; have := h.hi; have := k.lo; have := k.hi
  refine ⟨fun c m => ?_, ?_, ?_⟩
  · rw [app_toList] at m
    exact (List.mem_append.mp m).elim (h.cs c) (k.cs c)
  · rw [app_toList, List.length_append]; omega
  · rw [app_toList, List.length_append]; omega
theorem OkN.wide {x : Str} {a b d e : Nat} (h : OkN a b x) (l : d ≤ a) (u : b ≤ e) : OkN d e x := ⟨h.cs, Nat.le_trans l h.lo, Nat.le_trans h.hi u⟩
theorem OkN.mx {x : Str} {a b : Nat} (h : OkN a b x) : Mx (.str x) := ⟨rfl, .str x, rfl, by
  simp only [PyData.canLay0]
  show x.cps.all (· < 1114112) = true
  rw [Array.all_eq_true']
  intro c mc
  have := h.cs c (by simpa using mc)
  exact decide_eq_true (by omega), Nat.zero_le _⟩
theorem cutT_to {xs : List T} {n : Nat} : cutT xs none (some (n : Int)) = xs.take n := by
  unfold cutT
  rw [HT.sIx_nat]
  show List.take (min n xs.length - 0) xs = _
  rw [Nat.sub_zero]
  rcases Nat.le_total n xs.length with h | h
  · rw [Nat.min_eq_left h]
  · rw [Nat.min_eq_right h, List.take_of_length_le (Nat.le_refl _), List.take_of_length_le h]
theorem cutT_from {xs : List T} {n : Nat} : cutT xs (some (n : Int)) none = xs.drop n := by
  unfold cutT
  rw [HT.sIx_nat]
  show List.take (xs.length - min n xs.length) (xs.drop (min n xs.length)) = _
  rcases Nat.le_total n xs.length with h | h
  · rw [Nat.min_eq_left h, List.take_of_length_le (by rw [List.length_drop]; exact Nat.le_refl _)]
  · rw [Nat.min_eq_right h, List.drop_eq_nil_of_le (Nat.le_refl _), List.drop_eq_nil_of_le h]
    simp
theorem perm_back {α β : Type} {f : α → β} {g : β → α} (gf : ∀ a, g (f a) = a) {ys : List β} {l : List α} (p : ys.Perm (l.map f)) : ∃ m : List α, ys = m.map f ∧ m.Perm l := by
  refine ⟨ys.map g, ?_, ?_⟩
  · rw [List.map_map]
    have : ∀ y ∈ ys, (f ∘ g) y = y := fun y my => by
      obtain ⟨a, _, rfl⟩ := List.mem_map.mp (p.mem_iff.mp my)
      exact congrArg f (gf a)
    rw [List.map_congr_left this]
    simp
  · have q := p.map g
    rw [List.map_map, show (g ∘ f) = id from funext gf, List.map_id] at q
    exact q
def unT : T → Str | .str x => x | _ => ""
theorem strs_perm {ys : List T} {xs : List Str} (p : ys.Perm (xs.map T.str)) : ∃ zs : List Str, ys = zs.map T.str ∧ zs.Perm xs := perm_back (g := unT) (fun _ => rfl) p
theorem Thg.perm {n : Nat} {xs ys : List Str} (h : Thg n xs) (p : ys.Perm xs) : Thg n ys := ⟨p.nodup_iff.mpr h.nd, p.length_eq.trans h.len, fun x m => h.ok x (p.mem_iff.mp m)⟩
theorem Thg.mx {n : Nat} {xs : List Str} (h : Thg n xs) : ∀ t ∈ xs.map T.str, Mx t := fun t m => by
  obtain ⟨x, mx, rfl⟩ := List.mem_map.mp m
  exact (h.ok x mx).mx
def six : List Str := ["a", "b", "c", "d", "e", "f"]
def wordsS : List Str := ["better", "not", "things", "step", "say", "a", "aa", "none", "reached", "open", "zzzzzzzz"]
theorem six_ok : (six.all (okN 1 8) && decide six.Nodup && decide (six.length = 6)) = true := by decide +kernel
theorem words_ok : (wordsS.all (okN 1 8) && decide (wordsS.length = 11)) = true := by decide +kernel
theorem words_nd : ∀ r : Fin 11, (((wordsS ++ wordsS).drop r.val).take 6).Nodup := by decide +kernel
theorem signs_six : signT "abcdef" = six.map T.str := by
  have e : (("abcdef" : Str).cps.toList.map fun c => (⟨#[c]⟩ : Str)) = six := by decide +kernel
  unfold signT
  rw [← e, List.map_map]
  rfl
theorem six_thg {n : Nat} (h : n ≤ 6) : Thg n (six.take n) := by
  have k := six_ok
  simp only [Bool.and_eq_true, decide_eq_true_eq, List.all_eq_true] at k
  refine ⟨(List.take_sublist _ _).nodup k.1.2, ?_, fun x m => okN_iff (k.1.1 x (List.mem_of_mem_take m))⟩
  rw [List.length_take, k.2]
  omega
theorem words_thg {n r : Nat} (h : n ≤ 6) (hr : r < 11) : Thg n (((wordsS ++ wordsS).drop r).take n) := by
  have k := words_ok
  simp only [Bool.and_eq_true, decide_eq_true_eq, List.all_eq_true] at k
  refine ⟨?_, ?_, fun x m => okN_iff (k.1 x ?_)⟩
  · have e : ((wordsS ++ wordsS).drop r).take n = (((wordsS ++ wordsS).drop r).take 6).take n := by
      rw [List.take_take, Nat.min_eq_left h]
    rw [e]
    exact (List.take_sublist _ _).nodup (words_nd ⟨r, hr⟩)
  · rw [List.length_take, List.length_drop, List.length_append, k.2]
    omega
  · have := List.mem_of_mem_drop (List.mem_of_mem_take m)
    rcases List.mem_append.mp this with z | z <;> exact z
def abc26 : Str := "abcdefghijklmnopqrstuvwxyz"
theorem abc_at : ∀ i : Fin 26, abc26.cps.toList[i.val]? = some (97 + i.val) := by decide +kernel
theorem letter {i : Int} (h0 : 0 ≤ i) (h1 : i < 26) : atI abc26.cps.toList i = some (97 + i.toNat) := by
  obtain ⟨k, rfl⟩ : ∃ k : Nat, i = k := ⟨i.toNat, by omega⟩
  have := abc_at ⟨k, by omega⟩
  rw [atI_nat this]
  simp
theorem sign_ok {k : Nat} (h : k < 26) : OkN 1 1 ⟨#[97 + k]⟩ := ⟨fun c' m => by
  have e : c' = 97 + k := by simpa using m
  omega, Nat.le_refl _, Nat.le_refl _⟩
def turnS (z : Str) (t : Int) (k : Nat) : Str := z ++ (⟨#[97 + ((t + 5 * (k : Int)) % 26).toNat]⟩ : Str)
theorem turn_inj {z : Str} {t : Int} {j k : Nat} (hj : j < 6) (hk : k < 6) (e : turnS z t j = turnS z t k) : j = k := by
  have e1 := congrArg (fun x : Str => x.cps.toList) e
  unfold turnS at e1
  rw [app_toList, app_toList] at e1
  have e2 := List.append_cancel_left e1
  have e3 : 97 + ((t + 5 * (j : Int)) % 26).toNat = 97 + ((t + 5 * (k : Int)) % 26).toNat := by simpa using e2
  omega
theorem turn_thg {z : Str} {t : Int} {n : Nat} (hz : OkN 0 7 z) (h : n ≤ 6) : Thg n ((List.range n).map (turnS z t)) := by
  refine ⟨?_, by simp, fun x m => ?_⟩
  · refine List.pairwise_map.mpr ((List.nodup_range).imp_of_mem fun {a b} ma mb ab e => ab (turn_inj ?_ ?_ e))
    · have := List.mem_range.mp ma
      omega
    · have := List.mem_range.mp mb
      omega
  · obtain ⟨k, _, rfl⟩ := List.mem_map.mp m
    exact (hz.app (sign_ok (by omega))).wide (by decide) (by decide)
end LW

/-! names drawn -/
namespace LW
open PySem PySem.Spec PyProof.Rows L2 Gd Vw

section
variable {c : Cf} {n : Nat} {st : Stt} {Q : T → Stt → Prop}
theorem ret_pure {st' : Stt} {t : T} (g : Bg st n st') (h : t.pure = true) (q : Q t st') : exitF st.length st' t fun t' => Q t' (st'.take st.length) := by
  refine exit_pure h ?_
  rw [List.take_of_length_le (by rw [g.len]; exact Nat.le_refl _)]
  exact q
theorem pure_lst {xs : List T} (h : ∀ t ∈ xs, t.pure = true) : (T.lst xs).pure = true := by
  show (T.lst xs).refsIn _ = true
  simp only [T.refsIn]
  exact pure_all h _
theorem pure_strs (xs : List Str) : (T.lst (xs.map T.str)).pure = true := pure_lst fun t m => by
  obtain ⟨x, _, rfl⟩ := List.mem_map.mp m
  rfl
theorem lst_not {xs : List T} {x : Str} : (T.lst xs).toD ≠ some (.str x) := fun e => by
  simp only [T.toD] at e
  cases h : toDL xs with
  | none => rw [h] at e; cases e
  | some d => rw [h] at e; cases e
theorem join_ok {ys : List Str} (h : ∀ y ∈ ys, OkN 1 1 y) : OkN 0 ys.length (Txt.join Str.empty ys) ∧ (ys.map (·.length)).sum ≤ ys.length := by
  have e := join0 ys
  refine ⟨⟨fun c m => ?_, Nat.zero_le _, ?_⟩, ?_⟩
  · rw [e] at m
    obtain ⟨z, mz, mc⟩ := List.mem_flatten.mp m
    obtain ⟨y, my, rfl⟩ := List.mem_map.mp mz
    exact (h y my).cs c mc
  · rw [e]
    clear e
    induction ys with
    | nil => exact Nat.le_refl _
    | cons y ys ih =>
      have h1 := (h y List.mem_cons_self).hi
      have h2 := ih fun z m => h z (List.mem_cons_of_mem _ m)
      rw [List.map_cons, List.flatten_cons, List.length_append, List.length_cons]
      omega
  · clear e
    induction ys with
    | nil => exact Nat.le_refl _
    | cons y ys ih =>
      have h1 := (h y List.mem_cons_self).hi
      rw [← str_len] at h1
      have h2 := ih fun z m => h z (List.mem_cons_of_mem _ m)
      rw [List.map_cons, List.sum_cons, List.length_cons]
      omega
theorem names_spec {m : Nat} (hm : m ≤ 6) (hb : BagOk st n) (k : ∀ xs st', Thg m xs → Bg st n st' → Q (.lst (xs.map .str)) st') : callF (m_law_names c) [.ref n, .int m] st Q := by
  refine ⟨rfl, ?_⟩
  have hn := hb.lt
  unfold D_law_names
  walk_at "go"
  refine take_call hb (by decide) (by decide) fun w st1 w0 w1 g1 => ?_
  walk_at "go"
  refine take_call (g1.ok hn) (by decide) (by decide) fun t st2 t0 t1 g2 => ?_
  have g12 := g1.trans g2
  have fin : ∀ {ys : List T} {xs : List Str} {st'}, ys.Perm (xs.map T.str) → Thg m xs → Bg st2 n st' → exitF st.length st' (.lst ys) fun t' => Q t' (st'.take st.length) := fun p h g => by
    obtain ⟨zs, rfl, q⟩ := strs_perm p
    exact ret_pure (g12.trans g) (pure_strs _) (k zs _ (h.perm q) (g12.trans g))
  walk_at "go"
  refine ⟨(by show 2 ≤ 100000; decide), ?_⟩
  walk_at "go"
  refine ⟨rfl, ?_⟩
  walk_at "go"
  refine ⟨rfl, ?_⟩
  walk_at "go"
  refine ⟨(by show 11 ≤ 100000; decide), ?_⟩
  walk_at "go"
  refine x_eq rfl rfl ⟨rfl, rfl⟩ ?_
  walk_at "go"
  refine ite2 (fun z0 => ?_) (fun z0 => ?_)
  · walk_at "go"
    refine ⟨by decide, ?_⟩
    walk_at "go"
    rw [signs_six, cutT_to, ← List.map_take]
    have h := six_thg hm
    refine mix_call h.mx (by rw [List.length_map, h.len]; omega) (g12.ok hn) (.inl rfl) fun ys st' p g => fin p h g
  · walk_at "go"
    refine x_eq rfl rfl ⟨rfl, rfl⟩ ?_
    walk_at "go"
    refine ite2 (fun z1 => ?_) (fun z1 => ?_)
    · walk_at "go"
      refine ⟨(by show 22 ≤ 100000; decide), ?_⟩
      walk_at "go"
      refine ⟨by decide, ?_⟩
      walk_at "go"
      have r0 : 0 ≤ t % 11 := Int.emod_nonneg _ (by decide)
      have r1 : t % 11 < 11 := Int.emod_lt_of_pos _ (by decide)
      have er : t % 11 = ((t % 11).toNat : Int) := by omega
      generalize (t % 11).toNat = r at er
      rw [er] at r1 ⊢
      have h := words_thg hm (show r < 11 by omega)
      refine mix_call h.mx (by rw [List.length_map, h.len]; omega) (g12.ok hn) (.inl ?_) fun ys st' p g => fin p h g
      rw [cutT_from, cutT_to, List.map_take, List.map_drop, List.map_append]
      rfl
    · walk_at "go"
      refine ⟨trivial, ?_⟩
      walk_at "go"
      refine take_call (g12.ok hn) (by decide) (by decide) fun q st3 q0 q1 g3 => ?_
      have g13 := g12.trans g3
      walk_at "go"
      refine ⟨by omega, by omega, ?_⟩
      have lq : (intT 0 q.toNat).length ≤ 7 := by
        have : (intT 0 q.toNat).length = q.toNat := by simp [intT]
        omega
      refine lc_ind (fun as out st' => Bg st n st' ∧ ∃ ys : List Str, out = ys.map T.str ∧ (∀ y ∈ ys, OkN 1 1 y) ∧ ys.length + as.length ≤ 7) ?_ ?_ _ _ _ ⟨g13, [], rfl, fun y m => (nomatch m), by simpa using lq⟩
      · rintro a as out st' ⟨g, ys, rfl, hy, ly⟩ C1 C0 k1 k0
        refine ⟨trivial, ?_⟩
        with_reducible apply y_gN
        with_reducible apply y_tY
        refine iteT ?_
        walk_at "go"
        refine take_call (g.ok hn) (by decide) (by decide) fun r st4 r0 r1 g4 => ?_
        walk_at "go"
        refine x_ixS (by decide) (letter r0 r1) ?_
        refine k1 _ _ ⟨g.trans g4, ys ++ [⟨#[97 + r.toNat]⟩], by simp, fun y m => ?_, by simp at ly ⊢; omega⟩
        rcases List.mem_append.mp m with m | m
        · exact hy y m
        · have e : y = ⟨#[97 + r.toNat]⟩ := by simpa using m
          rw [e]
          exact sign_ok (by omega)
      · rintro out st' ⟨g, ys, rfl, hy, ly⟩
        refine ⟨trivial, ?_⟩
        walk_at "go"
        obtain ⟨jo, js⟩ := join_ok hy
        have l7 : ys.length ≤ 7 := by simpa using ly
        rw [texts_str]
        refine ⟨lst_not, by show (ys.map (·.length)).sum + ys.length * 0 ≤ _; omega, ?_⟩
        have hz : OkN 0 7 (Txt.join Str.empty ys) := jo.wide (Nat.le_refl _) l7
        change (gN 4).w (.str (Txt.join Str.empty ys)) _ _
        generalize Txt.join Str.empty ys = z at hz
        walk_at "go"
        refine ⟨by omega, by omega, ?_⟩
        have h := turn_thg (t := t) hz hm
        have fx : ∀ j : Nat, T.str (turnS z t j) = T.str (z ++ (⟨#[97 + ((t + 5 * (j : Int)) % 26).toNat]⟩ : Str)) := fun _ => rfl
        refine lc_pure (fun _ => true) (fun a => match a with | .int i => .str (turnS z t i.toNat) | a => a) (fun a ma C1 C0 k1 k0 => ?_) trivial ?_
        · obtain ⟨j, mj, rfl⟩ := List.mem_map.mp ma
          have lj := List.mem_range.mp mj
          with_reducible apply y_gN
          with_reducible apply y_tY
          refine iteT ?_
          walk_at "go"
          refine ⟨.inl ⟨by decide, by decide⟩, ?_⟩
          walk_at "go"
          refine ⟨by decide, ?_⟩
          walk_at "go"
          have i0 := Int.emod_nonneg (t + 5 * (0 + (j : Int))) (b := 26) (by decide)
          have i1 := Int.emod_lt_of_pos (t + 5 * (0 + (j : Int))) (b := 26) (by decide)
          refine x_ixS (by decide) (letter i0 i1) ?_
          walk_at "go"
          refine ⟨by rw [str_len]; have := hz.hi; show _ + 1 ≤ 100000; omega, ?_⟩
          have q := k1 rfl
          simp only [Int.zero_add, Int.toNat_natCast] at q ⊢
          exact q
        · have e : (List.filter (fun _ => true) (intT 0 (m : Int).toNat)).map (fun a => match a with | .int i => .str (turnS z t i.toNat) | a => a) = ((List.range m).map (turnS z t)).map T.str := by
            rw [List.filter_eq_self.mpr fun _ _ => rfl]
            unfold intT
            rw [List.map_map, List.map_map]
            refine List.map_congr_left fun j _ => ?_
            simp
          rw [e]
          walk_at "go"
          refine mix_call h.mx (by rw [List.length_map, h.len]; omega) (g.ok hn) (.inl rfl) fun us st'' p g' => ?_
          obtain ⟨zs, rfl, q⟩ := strs_perm p
          exact ret_pure (g.trans g') (pure_strs _) (k zs _ (h.perm q) (g.trans g'))
end
end LW

/-! pairs of things -/
namespace LW
open PySem PySem.Spec PyProof.Rows L2 Gd Vw
open PySem.W (dataLe)

section
variable {c : Cf} {n : Nat} {st : Stt} {Q : T → Stt → Prop}
def sortS (xs : List Str) : List Str := xs.mergeSort (dataLe false PyData.str)
theorem sortS_perm (xs : List Str) : (sortS xs).Perm xs := List.mergeSort_perm xs _
theorem toDL_strs (xs : List Str) : toDL (xs.map T.str) = some (xs.map PyData.str) := toDL_map (fun _ => rfl) xs
theorem x_sortS {xs : List Str} (q : Q (.lst ((sortS xs).map .str)) st) : (oSort : ON c).w st [.lst (xs.map T.str)] Q := by
  rw [w_oSort]
  show (match toDL (xs.map T.str) with | some ds => _ | none => False)
  rw [toDL_strs]
  refine ⟨alike_strD xs, sortable_strD xs, fun d m => ?_, ?_⟩
  · obtain ⟨x, _, rfl⟩ := List.mem_map.mp m
    exact Nat.zero_le _
  · rw [sortT_map]
    exact q
/-- the pairs of unlike things, the first thing first -/
def pairsL (ys : List Str) : List Gd.SP := ys.flatMap fun x => (ys.filter fun y => decide (y ≠ x)).map fun y => (x, y)
theorem pairs_pure (zs : List Gd.SP) : ∀ t ∈ zs.map Vw.spT, t.pure = true := fun t m => by
  obtain ⟨z, _, rfl⟩ := List.mem_map.mp m
  rfl
theorem fm_len (ys : List Str) : ∀ zs : List Str, (zs.flatMap fun x => (ys.filter fun y => decide (y ≠ x)).map fun y => (x, y)).length ≤ zs.length * ys.length
  | [] => by simp
  | z :: zs => by
    rw [List.flatMap_cons, List.length_append, List.length_map, List.length_cons, Nat.add_mul, Nat.one_mul]
    have := List.length_filter_le (fun y => decide (y ≠ z)) ys
    have := fm_len ys zs
    omega
theorem pairsL_len (ys : List Str) : (pairsL ys).length ≤ ys.length * ys.length := fm_len ys ys
theorem eqv_str {x y : Str} : PyData.eqv (.str x) (.str y) = decide (x = y) := by
  simp [PyData.eqv]
  rfl
theorem exit_cell {n0 m : Nat} {st' : Stt} {xs : List T} {K : T → Prop} (l : n0 ≤ m) (e : st'[m]? = some (.lst xs)) (h : refsInL (fun m => decide (m < n0)) xs = true) (q : K (.lst xs)) : exitF n0 st' (.ref m) K := by
  unfold exitF
  dsimp only
  rw [if_neg (by omega)]
  simp only [e]
  exact ⟨h, q⟩
theorem pairs_call {xs : List Str} (hx : ∀ x ∈ xs, OkN 1 8 x) (z : xs.length ≤ 100) (k : Q (.lst ((pairsL (sortS xs)).map Vw.spT)) st) : callF (m_law_pairs c) [.lst (xs.map T.str)] st Q := by
  refine ⟨rfl, ?_⟩
  unfold D_law_pairs
  walk_at "go"
  refine ⟨Nat.zero_le _, rfl, ?_⟩
  walk_at "go"
  refine x_sortS ?_
  walk_at "go"
  have at1 : ∀ a : Cell, (st ++ [a])[st.length]? = some a := fun a => get_snoc
  have ls : (sortS xs).length = xs.length := (sortS_perm xs).length_eq
  have ok : ∀ x ∈ sortS xs, OkN 1 8 x := fun x m => hx x ((sortS_perm xs).mem_iff.mp m)
  have shp : ∀ x ∈ sortS xs, Shp (.str x) := fun x m => by
    obtain ⟨d, e, h1, h2⟩ := (ok x m).mx.dat
    cases e
    show (PyData.canLay0 (.str x) && decide (PyData.depth (.str x) ≤ 64)) = true
    rw [h1]
    rfl
  refine for_ind (fun as env st' => env.length = 4 ∧ env[0]? = some (some (.lst (xs.map T.str))) ∧ env[1]? = some (some (.ref st.length)) ∧ ∃ done rest : List Str, sortS xs = done ++ rest ∧ as = rest.map T.str ∧
    st' = st ++ [.lst ((done.flatMap fun x => ((sortS xs).filter fun y => decide (y ≠ x)).map fun y => (x, y)).map Vw.spT)]) ?_ ?_ _ _ _ ⟨rfl, rfl, rfl, [], sortS xs, rfl, rfl, rfl⟩
  · rintro a as env st' ⟨l4, e0, e1, done, rest, es, ea, rfl⟩ C kC
    cases rest with
    | nil => cases ea
    | cons x rest =>
      cases ea
      refine ⟨trivial, rfl, ?_⟩
      have mx : x ∈ sortS xs := by rw [es]; simp
      have l0 : 0 < env.length := (List.getElem?_eq_some_iff.mp e0).1
      have f0 : (env.set 2 (some (T.str x)))[0]? = some (some (.lst (xs.map T.str))) := by rw [List.getElem?_set_ne (by decide)]; exact e0
      have f1 : (env.set 2 (some (T.str x)))[1]? = some (some (.ref st.length)) := by rw [List.getElem?_set_ne (by decide)]; exact e1
      have f2 : (env.set 2 (some (T.str x)))[2]? = some (some (T.str x)) := List.getElem?_set_self (by omega)
      have fl : (env.set 2 (some (T.str x))).length = 4 := by rw [List.length_set]; exact l4
      have done' : sortS xs = (done ++ [x]) ++ rest := by rw [es]; simp
      replace kC := fun y => kC (env.set 2 (some (T.str x))) y
      walk_at "go"
      generalize env.set 2 (some (T.str x)) = env2 at f0 f1 f2 fl kC
      refine x_eV f1 ?_
      refine ⟨x_isLs (at1 _), ?_⟩
      walk_at "go"
      refine x_eV f0 ?_
      walk_at "go"
      refine x_sortS ?_
      walk_at "go"
      refine lc_pure (fun t => match t with | .str y => decide (y ≠ x) | _ => false) (fun t => match t with | .str y => Vw.spT (x, y) | t => t) (fun a ma C1 C0 k1 k0 => ?_) trivial ?_
      · obtain ⟨y, my, rfl⟩ := List.mem_map.mp ma
        have h3 : ((wipeE env2 (gN (c := c) 3).vs).set 3 (some (T.str y)))[3]? = some (some (.str y)) := by
          show ((env2.set 3 none).set 3 (some (T.str y)))[3]? = _
          exact List.getElem?_set_self (by rw [List.length_set]; omega)
        have h2 : ((wipeE env2 (gN (c := c) 3).vs).set 3 (some (T.str y)))[2]? = some (some (.str x)) := by
          show ((env2.set 3 none).set 3 (some (T.str y)))[2]? = _
          rw [List.getElem?_set_ne (by decide), List.getElem?_set_ne (by decide)]; exact f2
        with_reducible apply y_gN
        generalize (wipeE env2 (gN (c := c) 3).vs).set 3 (some (T.str y)) = env3 at h3 h2 ⊢
        walk_at "go"
        refine x_eV h3 ?_
        walk_at "go"
        refine x_eV h2 ?_
        refine x_ne rfl rfl ⟨shp y my, shp x mx⟩ ?_
        rw [eqv_str]
        dsimp only
        refine x_ite (fun h => ?_) (fun h => ?_)
        · walk_at "go"
          refine x_eV h2 ?_
          walk_at "go"
          refine x_eV h3 ?_
          walk_at "go"
          refine ⟨(by show 2 ≤ 100000; decide), k1 (by simpa using h)⟩
        · exact k0 (by simpa using h)
      · walk_at "go"
        have fe : ((sortS xs).map T.str).filter (fun t => match t with | .str y => decide (y ≠ x) | _ => false) = ((sortS xs).filter fun y => decide (y ≠ x)).map T.str := by
          rw [List.filter_map]
          rfl
        rw [fe, List.map_map]
        have me : (((sortS xs).filter fun y => decide (y ≠ x)).map ((fun t => match t with | .str y => Vw.spT (x, y) | t => t) ∘ T.str)) = (((sortS xs).filter fun y => decide (y ≠ x)).map fun y => (x, y)).map Vw.spT := by
          rw [List.map_map]
          rfl
        rw [me]
        have l1 := fm_len (sortS xs) done
        have l2 := List.length_filter_le (fun y => decide (y ≠ x)) (sortS xs)
        have l3 : done.length ≤ 100 := by
          have := congrArg List.length es
          rw [List.length_append] at this
          omega
        have l5 : done.length * (sortS xs).length ≤ 100 * 100 := Nat.mul_le_mul l3 (by omega)
        refine x_cell (at1 _) ⟨?_, pure_all (pairs_pure _) _, ?_⟩
        · rw [List.length_map, List.length_map, List.length_map]
          show _ ≤ 100000
          omega
        · rw [List.set_append_right _ _ (Nat.le_refl _), Nat.sub_self]
          refine kC _ ⟨fl, f0, f1, done ++ [x], rest, done', rfl, ?_⟩
          rw [List.flatMap_append, List.map_append]
          simp
  · rintro env st' ⟨l4, e0, e1, done, rest, es, ea, rfl⟩
    have er : rest = [] := List.map_eq_nil_iff.mp ea.symm
    subst er
    rw [List.append_nil] at es
    subst es
    refine ⟨trivial, ?_⟩
    walk_at "go"
    refine x_eV e1 ?_
    refine exit_cell (Nat.le_refl _) (at1 _) (pure_all (pairs_pure _) _) ?_
    rw [List.take_left]
    exact k
end
end LW

/-! answers drawn -/
namespace LW
open PySem PySem.Spec PyProof.Rows L2 Gd Vw
open PySem.W (dataLe)

section
variable {c : Cf} {n : Nat} {st : Stt} {Q : T → Stt → Prop}
abbrev SA := Gd.SP × Bool
def aT (a : SA) : T := .tup [.str a.1.1, .str a.1.2, .bl a.2]
theorem pairsL_mem {ys : List Str} {p : Gd.SP} (h : p ∈ pairsL ys) : p.1 ∈ ys ∧ p.2 ∈ ys ∧ p.2 ≠ p.1 := by
  obtain ⟨x, mx, m⟩ := List.mem_flatMap.mp h
  obtain ⟨y, my, rfl⟩ := List.mem_map.mp m
  obtain ⟨my, ne⟩ := List.mem_filter.mp my
  exact ⟨mx, my, by simpa using ne⟩
theorem pairsL_nodup {ys : List Str} (h : ys.Nodup) : (pairsL ys).Nodup := by
  unfold pairsL
  refine List.pairwise_flatMap.mpr ⟨fun x _ => ?_, ?_⟩
  · exact List.pairwise_map.mpr ((h.filter _).imp fun ne e => ne (congrArg Prod.snd e))
  · refine h.imp fun {a b} ne p m1 q m2 e => ?_
    subst e
    obtain ⟨y, _, rfl⟩ := List.mem_map.mp m1
    obtain ⟨z, _, e⟩ := List.mem_map.mp m2
    exact ne (congrArg Prod.fst e).symm
theorem str_can {lo hi : Nat} {x : Str} (h : OkN lo hi x) : (PyData.str x).canLay0 = true := by
  obtain ⟨d, e, h1, _⟩ := h.mx.dat
  cases e
  exact h1
theorem pair_mx {p : Gd.SP} (h1 : OkN 1 8 p.1) (h2 : OkN 1 8 p.2) : Mx (Vw.spT p) := by
  refine ⟨rfl, .tuple [.str p.1, .str p.2], rfl, ?_, ?_⟩
  · simp [PyData.canLay0, PyData.canLayAll0] at *
    have a := str_can h1
    have b := str_can h2
    simp [PyData.canLay0] at a b
    exact ⟨a, b⟩
  · simp [PyData.depth, PyData.depthAll]
def unP : T → Gd.SP | .tup [.str x, .str y] => (x, y) | _ => ("", "")
theorem pairs_perm {ys : List T} {zs : List Gd.SP} (p : ys.Perm (zs.map Vw.spT)) : ∃ ws : List Gd.SP, ys = ws.map Vw.spT ∧ ws.Perm zs := perm_back (g := unP) (fun _ => rfl) p
/-- answers about unlike pairs of these things -/
structure Ans (ys : List Str) (As : List SA) : Prop where
  nd : (As.map (·.1)).Nodup
  mem : ∀ a ∈ As, a.1 ∈ pairsL ys
  few : As.length ≤ 1000
theorem any_call {xs : List Str} {m : Nat} (nd : xs.Nodup) (hx : ∀ x ∈ xs, OkN 1 8 x) (z : xs.length ≤ 6) (hb : BagOk st n) (k : ∀ As st', Ans (sortS xs) As → Bg st n st' → Q (.lst (As.map aT)) st') : callF (m_law_any c) [.ref n, .lst (xs.map T.str), .int m] st Q := by
  refine ⟨rfl, ?_⟩
  have hn := hb.lt
  unfold D_law_any
  walk_at "go"
  refine pairs_call hx (by omega) ?_
  walk_at "go"
  have ok : ∀ x ∈ sortS xs, OkN 1 8 x := fun x m => hx x ((sortS_perm xs).mem_iff.mp m)
  have ls : (sortS xs).length = xs.length := (sortS_perm xs).length_eq
  have pl := pairsL_len (sortS xs)
  have pl2 : (sortS xs).length * (sortS xs).length ≤ 6 * 6 := Nat.mul_le_mul (by omega) (by omega)
  have pn : (pairsL (sortS xs)).Nodup := pairsL_nodup ((sortS_perm xs).nodup_iff.mpr nd)
  refine mix_call (xs := (pairsL (sortS xs)).map Vw.spT) (fun t mt => ?_) (by rw [List.length_map]; omega) hb (.inl rfl) fun us st1 p g1 => ?_
  · obtain ⟨q, mq, rfl⟩ := List.mem_map.mp mt
    obtain ⟨h1, h2, _⟩ := pairsL_mem mq
    exact pair_mx (ok _ h1) (ok _ h2)
  obtain ⟨ws, rfl, pw⟩ := pairs_perm p
  walk_at "go"
  rw [cutT_to, ← List.map_take]
  have sub : ∀ q ∈ ws.take m, q ∈ pairsL (sortS xs) := fun q mq => pw.mem_iff.mp (List.mem_of_mem_take mq)
  have nd2 : (ws.take m).Nodup := (List.take_sublist _ _).nodup (pw.nodup_iff.mpr pn)
  have lw : (ws.take m).length ≤ 36 := by
    have := pw.length_eq
    rw [List.length_take]
    omega
  generalize ws.take m = vs at sub nd2 lw
  refine lc_ind (fun as out st' => Bg st n st' ∧ ∃ As : List SA, ∃ rest : List Gd.SP, vs = As.map (·.1) ++ rest ∧ as = rest.map Vw.spT ∧ out = As.map aT) ?_ ?_ _ _ _ ⟨g1, [], vs, rfl, rfl, rfl⟩
  · rintro a as out st' ⟨g, As, rest, ev, ea, rfl⟩ C1 C0 k1 k0
    cases rest with
    | nil => cases ea
    | cons q rest =>
      cases ea
      refine ⟨trivial, ?_⟩
      walk_at "go"
      refine ⟨rfl, ?_⟩
      walk_at "go"
      refine ⟨rfl, ?_⟩
      walk_at "go"
      refine take_call (g.ok hn) (by decide) (by decide) fun r st2 r0 r1 g2 => ?_
      walk_at "go"
      refine ⟨(by show 3 ≤ 100000; decide), k1 _ _ ⟨g.trans g2, As ++ [(q, decide (r < 3))], rest, by rw [ev]; simp, rfl, by simp [aT]⟩⟩
  · rintro out st' ⟨g, As, rest, ev, ea, rfl⟩
    have er : rest = [] := List.map_eq_nil_iff.mp ea.symm
    subst er
    rw [List.append_nil] at ev
    refine ⟨trivial, ?_⟩
    refine ret_pure g (pure_lst fun t mt => ?_) (k As _ ⟨by rw [← ev]; exact nd2, fun a ma => sub _ (by rw [ev]; exact List.mem_map_of_mem ma), ?_⟩ g)
    · obtain ⟨a, _, rfl⟩ := List.mem_map.mp mt
      rfl
    · have := congrArg List.length ev
      rw [List.length_map] at this
      omega
end
end LW

/-! answers of betters -/
namespace LW
open PySem PySem.Spec PyProof.Rows L2 Gd Vw
open PySem.W (dataLe)

section
variable {c : Cf} {n : Nat} {st : Stt} {Q : T → Stt → Prop}
theorem x_in {a b : T} {d : PyData} {es : List PyData} (h1 : view st a = some d) (h2 : view st b = some (.list es)) (s : Shp d ∧ Shp (.list es)) (q : ∀ r : Bool, Q (.bl r) st) : (oIn : O2 c).w st a b Q := by
  rw [w_oIn, h1, h2]
  exact ⟨s, q _⟩
theorem mx_shp {t : T} (h : Mx t) : ∃ d, t.toD = some d ∧ Shp d := by
  obtain ⟨d, e, h1, h2⟩ := h.dat
  refine ⟨d, e, ?_⟩
  show (PyData.canLay0 d && decide (PyData.depth d ≤ 64)) = true
  rw [h1, Bool.true_and, decide_eq_true_eq]
  omega
/-! drawn worths -/
def wthT (zs : List (Str × Int)) : T := .dct (zs.map fun z => (.inr z.1, .int z.2))
theorem pairsT_map (zs : List (Str × Int)) : pairsT (zs.map fun z => T.tup [.str z.1, .int z.2]) = some (zs.map fun z => (.inr z.1, .int z.2)) := by
  induction zs with
  | nil => rfl
  | cons z zs ih =>
    show (match (T.str z.1).sk, pairsT (zs.map fun z => T.tup [.str z.1, .int z.2]) with | some q, some l => some ((q, T.int z.2) :: l) | _, _ => none) = _
    rw [ih]
    rfl
theorem putP_new {kvs : List (L2.Key × T)} {k : L2.Key} {t : T} (h : k ∉ kvs.map (·.1)) : Vw.putP kvs k t = kvs ++ [(k, t)] := by
  unfold Vw.putP
  rw [if_neg]
  intro e
  obtain ⟨kv, m, e2⟩ := List.any_eq_true.mp e
  exact h (List.mem_map.mpr ⟨kv, m, of_decide_eq_true e2⟩)
theorem mergeP_new : ∀ (more kvs : List (L2.Key × T)), ((kvs ++ more).map (·.1)).Nodup → mergeP kvs more = kvs ++ more
  | [], kvs, _ => by simp [mergeP]
  | kv :: more, kvs, h => by
    show mergeP (putP kvs kv.1 kv.2) more = _
    have hn : kv.1 ∉ kvs.map (·.1) := fun m => by
      rw [List.map_append, List.nodup_append] at h
      exact h.2.2 _ m _ (by simp) rfl
    rw [putP_new hn, mergeP_new more (kvs ++ [(kv.1, kv.2)]) (by simpa using h)]
    simp
theorem valP_some {zs : List (Str × Int)} {x : Str} (h : x ∈ zs.map (·.1)) : ∃ v : Int, Vw.valP (zs.map fun z => (Sum.inr z.1, T.int z.2)) (.inr x : L2.Key) = some (.int v) := by
  induction zs with
  | nil => cases h
  | cons z zs ih =>
    unfold Vw.valP
    rw [List.map_cons, List.find?_cons]
    by_cases e : z.1 = x
    · exact ⟨z.2, by simp [e]⟩
    · have : decide ((Sum.inr z.1 : L2.Key) = .inr x) = false := by simp [e]
      rw [this]
      exact ih (by
        rcases List.mem_cons.mp h with q | q
        · exact absurd q.symm e
        · exact q)
end
end LW

/-! sorted answers -/
namespace LW
open PySem PySem.Spec PyProof.Rows L2 Gd Vw
open PySem.W (dataLe AllAlike Sortable keyToks keyToksAll dataLt)

section
variable {c : Cf} {n : Nat} {st : Stt} {Q : T → Stt → Prop}
theorem dl_total {β : Type} (g : β → PyData) : PySem.W.TotalLe (dataLe false g) := PySem.W.sortLe_total _ _ _
theorem dl_anti {β : Type} {g : β → PyData} {a b : β} (h1 : dataLe false g a b = true) (h2 : dataLe false g b a = true) : keyToks (g a) = keyToks (g b) := by
  refine (listOrd itemOrd).total _ _ ?_ ?_
  · exact Bool.not_eq_true' _ |>.mp h2
  · exact Bool.not_eq_true' _ |>.mp h1
theorem sort_perm_eq {β : Type} {g : β → PyData} {l m : List β} (inj : ∀ a ∈ l, ∀ b ∈ m, keyToks (g a) = keyToks (g b) → a = b) (p : l.Perm m) : l.mergeSort (dataLe false g) = m.mergeSort (dataLe false g) := by
  refine List.Perm.eq_of_pairwise (le := fun a b => dataLe false g a b = true) (fun a b ma mb h1 h2 => inj a ((List.mergeSort_perm _ _).mem_iff.mp ma) b ((List.mergeSort_perm _ _).mem_iff.mp mb) (dl_anti h1 h2)) (PySem.W.sort_pairwise (dl_total g) l) (PySem.W.sort_pairwise (dl_total g) m) ?_
  exact ((List.mergeSort_perm _ _).trans p).trans (List.mergeSort_perm _ _).symm
theorem str_inj {x y : Str} (h : keyToks (PyData.str x) = keyToks (.str y)) : x = y := by
  simp only [keyToks, List.cons.injEq, Sum.inr.injEq, and_true] at h
  exact PySem.W.str_of_cps h
theorem sortS_eq {xs ys : List Str} (p : xs.Perm ys) : sortS xs = sortS ys := sort_perm_eq (fun a _ b _ h => str_inj h) p
theorem sortS_idem (xs : List Str) : sortS (sortS xs) = sortS xs := sortS_eq (sortS_perm xs)
def sortA (As : List SA) : List SA := As.mergeSort (dataLe false Gd.an)
theorem sortA_perm (As : List SA) : (sortA As).Perm As := List.mergeSort_perm As _
theorem an_inj {a b : SA} (h : keyToks (Gd.an a) = keyToks (Gd.an b)) : a = b := by
  obtain ⟨⟨x, y⟩, t⟩ := a
  obtain ⟨⟨x', y'⟩, t'⟩ := b
  simp only [Gd.an, keyToks, keyToksAll, List.cons_append, List.nil_append, List.cons.injEq, Sum.inr.injEq, Sum.inl.injEq, and_true, true_and] at h
  obtain ⟨h1, h2, h3⟩ := h
  rw [PySem.W.str_of_cps h1, PySem.W.str_of_cps h2]
  cases t <;> cases t' <;> simp at h3 ⊢
theorem sortA_eq {As Bs : List SA} (p : As.Perm Bs) : sortA As = sortA Bs := sort_perm_eq (fun a _ b _ h => an_inj h) p
theorem sortA_idem (As : List SA) : sortA (sortA As) = sortA As := sortA_eq (sortA_perm As)
theorem aT_toD (As : List SA) : toDL (As.map aT) = some (As.map Gd.an) := toDL_map (fun _ => rfl) As
theorem x_sortA {As : List SA} (q : Q (.lst ((sortA As).map aT)) st) : (oSort : ON c).w st [.lst (As.map aT)] Q := by
  rw [w_oSort]
  show (match toDL (As.map aT) with | some ds => _ | none => False)
  rw [aT_toD]
  refine ⟨AllAlike.of fun a b => ?_, Sortable.tuples fun a => ⟨_, _, rfl⟩, fun d m => ?_, ?_⟩
  · simp [Gd.an, PySem.W.alike, PySem.W.alikeAll]
  · obtain ⟨x, _, rfl⟩ := List.mem_map.mp m
    simp [Gd.an, PyData.depth, PyData.depthAll]
  · rw [sortT_map]
    exact q
/-- what is drawn: names in order, answers in order -/
structure Wf (m : Nat) (ys : List Str) (As : List SA) : Prop where
  srt : sortS ys = ys
  nd : ys.Nodup
  ok : ∀ x ∈ ys, OkN 1 8 x
  len : ys.length ≤ m
  and_ : (As.map (·.1)).Nodup
  amem : ∀ a ∈ As, a.1 ∈ pairsL ys
  asrt : sortA As = As
theorem nodup_len {α : Type} [DecidableEq α] : ∀ {xs ys : List α}, xs.Nodup → (∀ x ∈ xs, x ∈ ys) → xs.length ≤ ys.length
  | [], _, _, _ => Nat.zero_le _
  | x :: xs, ys, h, s => by
    have hx := List.nodup_cons.mp h
    have mx := s x List.mem_cons_self
    have := nodup_len (xs := xs) (ys := ys.erase x) hx.2 fun z mz => (List.mem_erase_of_ne (fun e => hx.1 (by rw [← e]; exact mz))).mpr (s z (List.mem_cons_of_mem _ mz))
    rw [List.length_erase_of_mem mx] at this
    have := List.length_pos_of_mem mx
    rw [List.length_cons]
    omega
theorem Wf.lenA {m : Nat} {ys : List Str} {As : List SA} (h : Wf m ys As) (l : m ≤ 7) : As.length ≤ 49 := by
  have h1 := nodup_len h.and_ fun p mp => by
    obtain ⟨a, ma, rfl⟩ := List.mem_map.mp mp
    exact h.amem a ma
  rw [List.length_map] at h1
  have h2 := pairsL_len ys
  have h3 : ys.length * ys.length ≤ 7 * 7 := Nat.mul_le_mul (Nat.le_trans h.len l) (Nat.le_trans h.len l)
  omega
theorem Wf.of {m : Nat} {xs : List Str} {As : List SA} (nd : xs.Nodup) (ok : ∀ x ∈ xs, OkN 1 8 x) (l : xs.length ≤ m) (a : Ans (sortS xs) As) : Wf m (sortS xs) (sortA As) := by
  have p := sortS_perm xs
  have q := sortA_perm As
  exact ⟨sortS_idem xs, p.nodup_iff.mpr nd, fun x mx => ok x (p.mem_iff.mp mx), by rw [p.length_eq]; exact l, (q.map _).nodup_iff.mpr a.nd, fun a' ma => a.mem a' (q.mem_iff.mp ma), sortA_idem As⟩
theorem ans_pure (As : List SA) : (T.lst (As.map aT)).pure = true := pure_lst fun t mt => by
  obtain ⟨a, _, rfl⟩ := List.mem_map.mp mt
  rfl
theorem two_pure {t u : T} (h : t.pure = true) (k : u.pure = true) : (T.tup [t, u]).pure = true := by
  show T.refsIn _ (.tup [t, u]) = true
  simp only [T.refsIn, refsInL, Bool.and_true, Bool.and_eq_true]
  exact ⟨h, k⟩
end
end LW

/-! steps of the walk -/
local macro_rules
  | `(tactic| walk_at "gi1") => `(tactic| first
  | rw [if_pos (rfl : true = true)]
  | rw [if_neg Bool.false_ne_true]
  | with_reducible apply Vw.y_eOp
  | with_reducible apply Vw.y_eCB
  | with_reducible apply Vw.y_aC
  | with_reducible apply Vw.y_aN
  | with_reducible apply Vw.y_eI
  | with_reducible apply Vw.y_eS
  | with_reducible apply Vw.y_eB
  | with_reducible apply Vw.y_eN
  | ((with_reducible apply Vw.x_eV); rfl)
  | with_reducible apply Vw.y_eTup
  | with_reducible apply Vw.y_eLst
  | with_reducible apply Vw.y_eLstC
  | with_reducible apply Vw.y_eDK
  | with_reducible apply Vw.y_eDKC
  | with_reducible apply Vw.y_eDTC
  | with_reducible apply Vw.y_eUn
  | with_reducible apply Vw.y_tE
  | with_reducible apply Vw.y_tTe
  | with_reducible apply Vw.y_tNo
  | with_reducible apply Vw.y_tAn
  | with_reducible apply Vw.y_tOrr
  | with_reducible apply Vw.y_tY
  | with_reducible apply Vw.y_eAnd
  | with_reducible apply Vw.y_eOr
  | with_reducible apply Vw.y_eNot
  | with_reducible apply Vw.y_eIf
  | with_reducible apply Vw.y_eChain
  | with_reducible apply Vw.y_sNx
  | with_reducible apply Vw.y_sSeq
  | with_reducible apply Vw.y_sNever
  | with_reducible apply Vw.y_sBrk
  | with_reducible apply Vw.y_sCnt
  | with_reducible apply Vw.y_sDrop
  | with_reducible apply Vw.y_sRet
  | with_reducible apply Vw.y_sRetN
  | with_reducible apply Vw.y_sIf
  | with_reducible apply Vw.y_gN
  | with_reducible apply Vw.y_gsN
  | with_reducible apply Vw.y_gsC
  | with_reducible apply Vw.y_gT
  | with_reducible apply Vw.y_sAsg
  | with_reducible apply Vw.y_sPar
  | with_reducible apply Vw.y_sWh
  | with_reducible apply Vw.y_sFor
  | with_reducible apply Vw.y_eLc
  | with_reducible apply Vw.y_iR1
  | with_reducible apply Vw.y_iR2
  | with_reducible apply Vw.y_iEn
  | with_reducible apply Vw.y_iZi
  | with_reducible apply Vw.y_pN
  | with_reducible apply Vw.y_pS
  | with_reducible apply Vw.y_eSl
  | with_reducible apply Vw.y_eBM
  | with_reducible apply Vw.y_eBM0
  | with_reducible apply Vw.y_mAppend
  | with_reducible apply Vw.y_mExtend
  | with_reducible apply Vw.y_mClear
  | with_reducible apply Vw.y_mReverse
  | with_reducible apply Vw.y_mPop
  | with_reducible apply Vw.y_mPopAt
  | with_reducible apply Vw.y_mS0
  | with_reducible apply Vw.y_mJoin
  | with_reducible apply Vw.y_hN
  | with_reducible apply Vw.y_hsN
  | with_reducible apply Vw.y_hsC
  | with_reducible apply Vw.y_hT
  | with_reducible apply Vw.y_sAsH
  | with_reducible apply Vw.y_eCl
  | with_reducible apply Vw.y_eClK
  | with_reducible apply Vw.y_eDGet
  | with_reducible apply Vw.y_eDGet1
  | with_reducible apply Vw.y_eDGet2
  | with_reducible apply Vw.y_eDIn
  | with_reducible apply Vw.y_eDNin
  | with_reducible apply Vw.y_sDPt
  | with_reducible apply Vw.y_eIsi
  | with_reducible apply Vw.y_eIsi2
  | with_reducible apply Vw.y_eLc2
  | with_reducible apply Vw.y_eDcT
  | with_reducible apply Vw.y_eFld
  | with_reducible apply Vw.y_sFldC
  | with_reducible apply Vw.y_eMk
  | with_reducible apply Vw.y_eMkK
  | with_reducible apply Vw.y_eMt
  | with_reducible apply Vw.y_eIsiO
  | with_reducible apply Vw.y_eLcC
  | with_reducible apply Vw.y_eClT
  | with_reducible apply Vw.y_eMtT
  | with_reducible apply Vw.y_iOwnX
  | with_reducible apply Vw.y_eDisp
  | with_reducible apply Vw.y_eSortV
  | with_reducible apply Vw.y_NoLen
  | with_reducible apply Vw.y_NoList
  | with_reducible apply Vw.y_NoListC
  | with_reducible apply Vw.y_NoTuple
  | with_reducible apply Vw.y_NoLenO
  | with_reducible apply Vw.y_NoListO
  | with_reducible apply Vw.y_NoListOC
  | with_reducible apply Vw.y_NoListD
  | rw [Vw.v_oII]
  | rw [Vw.v_oIB]
  | rw [Vw.v_oIC]
  | rw [Vw.v_oNeg]
  | rw [Vw.v_addI]
  | rw [Vw.v_addS]
  | rw [Vw.v_addT]
  | rw [Vw.v_addL]
  | rw [Vw.v_mulI]
  | rw [Vw.v_mulL]
  | rw [Vw.v_intI]
  | rw [Vw.v_intB]
  | rw [Vw.v_absI]
  | rw [Vw.v_repS]
  | rw [Vw.v_asL]
  | rw [Vw.v_anyL]
  | rw [Vw.v_anyT]
  | rw [Vw.v_anyE]
  | rw [Vw.v_anyS]
  | rw [Vw.v_isN]
  | rw [Vw.v_notN]
  | dsimp only)
local macro_rules
  | `(tactic| walk_at "gi") => `(tactic| repeat walk_at "gi1")
/-! names, pairs, answers told as such -/
namespace LW
open PySem PySem.Spec PyProof.Rows L2 Gd Vw


section
variable {c : Cf} {n : Nat} {st : Stt} {Q : T → Stt → Prop}
theorem abc_has {k : Nat} (h : 97 ≤ k ∧ k ≤ 122) : k ∈ abc.cps.toList := by
  have tab : ∀ i : Fin 26, 97 + i.val ∈ abc.cps.toList := by decide +kernel
  have := tab ⟨k - 97, by omega⟩
  rwa [show 97 + (k - 97) = k by omega] at this
theorem OkN.text {x : Str} (h : OkN 1 8 x) : Txt.isascii x = true ∧ Txt.isalpha x = true ∧ Txt.islower x = true := by
  have l : 1 ≤ x.length := by rw [str_len]; exact h.lo
  have e := text_abc l
  have a : (x.cps.toList.all fun c => decide (c ∈ abc.cps.toList)) = true := List.all_eq_true.mpr fun c m => decide_eq_true (abc_has (h.cs c m))
  rw [a] at e
  simpa using e
theorem x_iteF {b : Bool} {A B : Prop} (e : b = false) (h : B) : if b = true then A else B := by
  subst e
  rw [if_neg Bool.false_ne_true]
  exact h
theorem x_iteT {b : Bool} {A B : Prop} (e : b = true) (h : A) : if b = true then A else B := by
  subst e
  rw [if_pos rfl]
  exact h
theorem ret_here {t : T} (h : t.pure = true) (q : Q t st) : exitF st.length st t fun t' => Q t' (st.take st.length) := by
  refine exit_pure h ?_
  rw [List.take_of_length_le (Nat.le_refl _)]
  exact q
theorem name_call {x : Str} (h : OkN 1 8 x) (q : Q (.bl true) st) : callF (mis_name c) [.str x] st Q := by
  refine ⟨rfl, ?_⟩
  unfold Dis_name
  walk_at "go"
  refine ⟨(by show "str" ∈ _; decide), ?_⟩
  refine x_iteF rfl ?_
  walk_at "go"
  have l1 : 1 ≤ x.length := by rw [str_len]; exact h.lo
  have l8 : x.length ≤ 8 := by rw [str_len]; exact h.hi
  have ls : (signT x).length = x.length := by simp [signT, str_len]
  simp only [ls]
  refine ⟨by show _ ≤ 100000; omega, ?_⟩
  refine x_iteT (decide_eq_true (by omega)) ?_
  walk_at "go"
  refine x_iteF (by rw [decide_eq_true (by omega)]; rfl) ?_
  walk_at "go"
  obtain ⟨t1, t2, t3⟩ := h.text
  refine ⟨trivial, rfl, trivial, ?_⟩
  refine x_iteT t1 ?_
  walk_at "go"
  refine ⟨trivial, rfl, trivial, ?_⟩
  refine x_iteT t2 ?_
  walk_at "go"
  refine ⟨trivial, rfl, trivial, ?_⟩
  refine ret_here rfl ?_
  rw [t3]
  exact q
theorem OkN.shp {lo hi : Nat} {x : Str} (h : OkN lo hi x) : Shp (.str x) := by
  obtain ⟨d, e, s⟩ := mx_shp h.mx
  cases e
  exact s
theorem pair_call {x y : Str} (hx : OkN 1 8 x) (hy : OkN 1 8 y) (ne : x ≠ y) (q : Q (.bl true) st) : callF (mis_pair c) [.tup [.str x, .str y]] st Q := by
  refine ⟨rfl, ?_⟩
  unfold Dis_pair
  walk_at "go"
  refine ⟨(by show "tuple" ∈ _; decide), ?_⟩
  refine x_iteF rfl ?_
  walk_at "go"
  refine x_ne rfl rfl ⟨rfl, rfl⟩ ?_
  refine x_iteF rfl ?_
  walk_at "go"
  refine x_ixT rfl ?_
  walk_at "go"
  refine name_call hx ?_
  refine x_iteT rfl ?_
  walk_at "go"
  refine x_ixT rfl ?_
  walk_at "go"
  refine name_call hy ?_
  refine x_iteT rfl ?_
  walk_at "go"
  refine x_ixT rfl ?_
  walk_at "go"
  refine x_ixT rfl ?_
  walk_at "go"
  refine x_ne rfl rfl ⟨hx.shp, hy.shp⟩ ?_
  rw [eqv_str, decide_eq_false ne]
  exact ret_here rfl q
theorem answer_call {a : SA} (hx : OkN 1 8 a.1.1) (hy : OkN 1 8 a.1.2) (ne : a.1.1 ≠ a.1.2) (q : Q (.bl true) st) : callF (mis_answer c) [aT a] st Q := by
  refine ⟨rfl, ?_⟩
  unfold Dis_answer aT
  walk_at "go"
  refine ⟨(by show "tuple" ∈ _; decide), ?_⟩
  refine x_iteF rfl ?_
  walk_at "go"
  refine x_ne rfl rfl ⟨rfl, rfl⟩ ?_
  refine x_iteF rfl ?_
  walk_at "go"
  refine pair_call hx hy ne ?_
  refine x_iteT rfl ?_
  walk_at "go"
  refine x_ixT rfl ?_
  walk_at "go"
  refine ⟨(by show "bool" ∈ _; decide), ?_⟩
  exact ret_here rfl q
theorem pairOf_call {a : SA} (q : Q (Vw.spT a.1) st) : callF (mpair_of c) [aT a] st Q := by
  refine ⟨rfl, ?_⟩
  unfold Dpair_of aT
  walk_at "go"
  refine ⟨rfl, ?_⟩
  walk_at "go"
  refine ⟨rfl, ?_⟩
  walk_at "go"
  refine ⟨(by show 2 ≤ 100000; decide), ?_⟩
  exact ret_here rfl q
/-- a list, a tuple, the empty default: their items -/
inductive SeqV (st : Stt) : T → List T → Prop
  | tup (xs : List T) : SeqV st (.tup xs) xs
  | lst (xs : List T) : SeqV st (.lst xs) xs
  | emp : SeqV st .emp []
  | ref {n : Nat} {xs : List T} : st[n]? = some (.lst xs) → SeqV st (.ref n) xs
theorem SeqV.kind {t : T} {xs : List T} (h : SeqV st t xs) : kindS st t = "list" ∨ kindS st t = "tuple" := by
  cases h with
  | tup => exact .inr rfl
  | lst => exact .inl rfl
  | emp => exact .inr rfl
  | ref e => refine .inl ?_; simp only [kindS, e]
theorem SeqV.isi {t : T} {xs : List T} (h : SeqV st t xs) {A B : Prop} (k : A) : kindS st t ∈ ["NoneType", "bool", "int", "str", "list", "tuple", "dict"] ∧ if (!(isA (kindS st t) "list" || isA (kindS st t) "tuple")) = true then B else A := by
  rcases h.kind with e | e <;> rw [e] <;> exact ⟨by decide, by rw [if_neg (by decide)]; exact k⟩
theorem SeqV.any {t : T} {xs : List T} (h : SeqV st t xs) {K : List T → Prop} (k : K xs) : anyW st t K := by
  cases h with
  | tup => exact k
  | lst => exact k
  | emp => exact k
  | ref e => exact x_anyR e k
theorem SeqV.iA {t : T} {xs : List T} {i : Nat} {env : En} {K : List T → (Stt → Prop) → Stt → Prop} (h : SeqV st t xs) (hv : env[i]? = some (some t)) (q : ∀ pin : Stt → Prop, (∀ st' : Stt, (∀ m, m < st.length → st'[m]? = st[m]?) → pin st') → K xs pin st) : (iA (eV i : EX c)).w env st K := by
  rw [w_iA]
  refine x_eV hv ?_
  cases h with
  | tup => exact q _ fun _ _ => trivial
  | lst => exact q _ fun _ _ => trivial
  | emp => exact q _ fun _ _ => trivial
  | ref e => exact x_asR e (q _ fun st' hs => by rw [hs _ (List.getElem?_eq_some_iff.mp e).1]; exact e)
theorem x_allT {α : Type} {l : List α} (q : Q (.bl true) st) : (oAll : ON c).w st [.lst (l.map fun _ => T.bl true)] Q := by
  rw [w_oAll]
  show (match bools (l.map fun _ => T.bl true) with | some bs => Q (.bl (bs.all id)) st | none => False)
  rw [bools_map (fun _ => true)]
  have e : (l.map fun _ => true).all id = true := List.all_eq_true.mpr fun b m => by
    obtain ⟨_, _, rfl⟩ := List.mem_map.mp m
    rfl
  show Q (.bl ((l.map fun _ => true).all id)) st
  rw [e]
  exact q
theorem SeqV.set {t : T} {ys : List Str} (h : SeqV st t (ys.map T.str)) (l : ys.length ≤ 4000) (q : Q (.set ys) st) : (oSet : ON c).w st [t] Q := by
  rw [w_oSet]
  refine h.any ?_
  rw [texts_str]
  refine ⟨?_, l, q⟩
  generalize ys.map T.str = zs at h
  cases h <;> exact trivial
theorem SeqV.len {t : T} {xs : List T} (h : SeqV st t xs) (q : Q (.int xs.length) st) : (oLen : ON c).w st [t] Q := by
  rw [w_oLen]
  exact h.any q
theorem x_lenZ {ys : List Str} (nd : ys.Nodup) (q : Q (.int ys.length) st) : (oLenZ : ON c).w st [.set ys] Q := by
  rw [w_oLenZ]
  show Q (.int (kinds ys ys.length)) st
  rw [(kinds_eq (Nat.le_refl _)).mpr (by rw [List.take_length]; exact nd)]
  exact q
theorem SeqV.iA2 {st2 : Stt} {t : T} {xs : List T} {i : Nat} {env : En} {K : List T → (Stt → Prop) → Stt → Prop} (h : SeqV st t xs) (hs : ∀ m, m < st.length → st2[m]? = st[m]?) (hv : env[i]? = some (some t)) (q : ∀ pin : Stt → Prop, (∀ st' : Stt, (∀ m, m < st.length → st'[m]? = st[m]?) → pin st') → K xs pin st2) : (Vw.iA (eV i : EX c)).w env st2 K := by
  rw [w_iA]
  refine x_eV hv ?_
  cases h with
  | tup => exact q _ fun _ _ => trivial
  | lst => exact q _ fun _ _ => trivial
  | emp => exact q _ fun _ _ => trivial
  | ref e => exact x_asR ((hs _ (List.getElem?_eq_some_iff.mp e).1).trans e) (q _ fun st' hs => by rw [hs _ (List.getElem?_eq_some_iff.mp e).1]; exact e)
theorem SeqV.more {st2 : Stt} {t : T} {xs : List T} (h : SeqV st t xs) (hs : ∀ m, m < st.length → st2[m]? = st[m]?) : SeqV st2 t xs := by
  cases h with
  | tup => exact .tup _
  | lst => exact .lst _
  | emp => exact .emp
  | ref e => exact .ref ((hs _ (List.getElem?_eq_some_iff.mp e).1).trans e)
theorem SeqV.refs {t : T} {xs : List T} (h : SeqV st t xs) (hx : ∀ x ∈ xs, x.pure = true) {p : Nat → Bool} (hp : ∀ m, m < st.length → p m = true) : t.refsIn p = true := by
  cases h with
  | tup => simp only [T.refsIn]; exact pure_all hx p
  | lst => simp only [T.refsIn]; exact pure_all hx p
  | emp => simp only [T.refsIn]
  | ref e => simp only [T.refsIn]; exact hp _ (List.getElem?_eq_some_iff.mp e).1
theorem areNames_call {t : T} {ys : List Str} (h : SeqV st t (ys.map T.str)) (nd : ys.Nodup) (ok : ∀ y ∈ ys, OkN 1 8 y) (l : ys.length ≤ 100) (q : Q (.bl true) st) : callF (mare_names c) [t] st Q := by
  refine ⟨rfl, ?_⟩
  unfold Dare_names
  walk_at "go"
  refine h.isi ?_
  walk_at "gi"
  refine h.iA rfl fun pin hp => ?_
  refine lc_pure (fun _ => true) (fun _ => .bl true) (fun a ma C1 C0 k1 k0 => ?_) (hp _ fun _ _ => rfl) ?_
  · obtain ⟨y, my, rfl⟩ := List.mem_map.mp ma
    walk_at "go"
    refine name_call (ok y my) (k1 rfl)
  walk_at "go"
  refine x_allT ?_
  refine x_iteT rfl ?_
  walk_at "go"
  refine h.set (by omega) ?_
  walk_at "go"
  refine x_lenZ nd ?_
  walk_at "go"
  refine h.any ?_
  walk_at "go"
  rw [List.length_map]
  refine x_eq rfl rfl ⟨rfl, rfl⟩ ?_
  have e : PyData.eqv (.int (ys.length : Int)) (.int (ys.length : Int)) = true := by simp [PyData.eqv]
  rw [e]
  exact ret_here rfl q
/-- what is right of an answer -/
structure OkA (a : SA) : Prop where
  x : OkN 1 8 a.1.1
  y : OkN 1 8 a.1.2
  ne : a.1.1 ≠ a.1.2
theorem areAnswers_call {t : T} {As : List SA} (h : SeqV st t (As.map aT)) (ok : ∀ a ∈ As, OkA a) (q : Q (.bl true) st) : callF (mare_answers c) [t] st Q := by
  refine ⟨rfl, ?_⟩
  unfold Dare_answers
  walk_at "gi"
  have e : ∀ {A B : Prop}, A → (kindS st t ∈ ["NoneType", "bool", "int", "str", "list", "tuple", "dict"] ∧ if (isA (kindS st t) "list" || isA (kindS st t) "tuple") = true then A else B) := fun k => by
    rcases h.kind with e | e <;> rw [e] <;> exact ⟨by decide, by rw [if_pos (by decide)]; exact k⟩
  refine e ?_
  walk_at "gi"
  refine h.iA rfl fun pin hp => ?_
  refine lc_pure (fun _ => true) (fun _ => .bl true) (fun a ma C1 C0 k1 k0 => ?_) (hp _ fun _ _ => rfl) ?_
  · obtain ⟨y, my, rfl⟩ := List.mem_map.mp ma
    walk_at "go"
    exact answer_call (ok y my).x (ok y my).y (ok y my).ne (k1 rfl)
  walk_at "go"
  refine x_allT ?_
  exact ret_here rfl q
theorem stranger_call {t : T} {ys : List Str} {ps : List Gd.SP} (h : SeqV st t (ys.map T.str)) (l : ys.length ≤ 4000) (ok : ∀ p ∈ ps, p.1 ∈ ys ∧ p.2 ∈ ys) (q : Q .non st) : callF (mfirst_stranger c) [t, .lst (ps.map Vw.spT)] st Q := by
  refine ⟨rfl, ?_⟩
  unfold Dfirst_stranger
  walk_at "go"
  refine h.set l ?_
  walk_at "go"
  refine for_ind (fun as env st' => st' = st ∧ env.length = 5 ∧ env[2]? = some (some (.set ys)) ∧ ∃ rest : List Gd.SP, as = rest.map Vw.spT ∧ ∀ p ∈ rest, p ∈ ps) ?_ ?_ _ _ _ ⟨rfl, rfl, rfl, ps, rfl, fun _ m => m⟩
  · rintro a as env st' ⟨rfl, l5, e2, rest, ea, sub⟩ C kC
    cases rest with
    | nil => cases ea
    | cons p rest =>
      cases ea
      refine ⟨trivial, rfl, ?_⟩
      have okp := ok p (sub p List.mem_cons_self)
      have f2 : (env.set 3 (some (Vw.spT p)))[2]? = some (some (.set ys)) := by rw [List.getElem?_set_ne (by decide)]; exact e2
      have f3 : (env.set 3 (some (Vw.spT p)))[3]? = some (some (Vw.spT p)) := List.getElem?_set_self (by omega)
      have fl : (env.set 3 (some (Vw.spT p))).length = 5 := by rw [List.length_set]; exact l5
      with_reducible apply y_gN
      generalize env.set 3 (some (Vw.spT p)) = env2 at f2 f3 fl ⊢
      walk_at "gi"
      refine SeqV.iA (.tup [.str p.1, .str p.2]) f3 fun pin hp => ?_
      refine for_ind (fun as env st'' => st'' = st' ∧ env.length = 5 ∧ env[2]? = some (some (.set ys)) ∧ ∃ rest : List Str, as = rest.map T.str ∧ ∀ x ∈ rest, x ∈ ys) ?_ ?_ _ _ _ ⟨rfl, fl, f2, [p.1, p.2], rfl, fun x m => ?_⟩
      · rintro a as env st'' ⟨rfl, l5, e2, rest, ea, sub⟩ C' kC'
        cases rest with
        | nil => cases ea
        | cons x rest =>
          cases ea
          refine ⟨hp _ fun _ _ => rfl, rfl, ?_⟩
          have mx := sub x List.mem_cons_self
          have f2 : (env.set 4 (some (T.str x)))[2]? = some (some (.set ys)) := by rw [List.getElem?_set_ne (by decide)]; exact e2
          have f4 : (env.set 4 (some (T.str x)))[4]? = some (some (T.str x)) := List.getElem?_set_self (by omega)
          have fl : (env.set 4 (some (T.str x))).length = 5 := by rw [List.length_set]; exact l5
          with_reducible apply y_gN
          generalize env.set 4 (some (T.str x)) = env3 at f2 f4 fl ⊢
          walk_at "go"
          refine x_eV f4 ?_
          walk_at "go"
          refine x_eV f2 ?_
          refine x_iteF (by rw [decide_eq_true mx]; rfl) ?_
          walk_at "go"
          exact kC' _ _ ⟨rfl, fl, f2, rest, rfl, fun z mz => sub z (List.mem_cons_of_mem _ mz)⟩
      · rintro env st'' ⟨rfl, l5, e2, _⟩
        refine ⟨hp _ fun _ _ => rfl, ?_⟩
        exact kC _ _ ⟨rfl, l5, e2, rest, rfl, fun z mz => sub z (List.mem_cons_of_mem _ mz)⟩
      · rcases List.mem_cons.mp m with rfl | m
        · exact okp.1
        · rw [List.mem_singleton.mp m]
          exact okp.2
  · rintro env st' ⟨rfl, _⟩
    refine ⟨trivial, ?_⟩
    walk_at "go"
    exact ret_here rfl q
end
end LW

/-! a Book is made -/
namespace LW
open PySem PySem.Spec PyProof.Rows L2 Gd Vw
open PySem.W (dataLe AllAlike Sortable keyToks keyToksAll dataLt)


section
variable {c : Cf} {n : Nat} {st : Stt} {Q : T → Stt → Prop}
def kvT (L : List SA) : List (List L2.Key × T) := L.map fun a => (keyP a.1, T.bl a.2)
theorem tk_spT (p : Gd.SP) : (Vw.spT p).tk = some (keyP p) := rfl
theorem valP_kvT {p : Gd.SP} : ∀ {L : List SA}, Vw.valP (kvT L) (keyP p) = (L.find? fun a => decide (a.1 = p)).map fun a => T.bl a.2
  | [] => rfl
  | a :: L => by
    have ih := valP_kvT (p := p) (L := L)
    unfold Vw.valP at ih ⊢
    show (((keyP a.1, T.bl a.2) :: kvT L).find? fun kv => decide (kv.1 = keyP p)).map (·.2) = _
    rw [List.find?_cons, List.find?_cons]
    by_cases e : a.1 = p
    · subst e
      simp
    · have h1 : decide (keyP a.1 = keyP p) = false := decide_eq_false fun z => e (keyP_inj z)
      have h2 : decide (a.1 = p) = false := decide_eq_false e
      simp only [h1, h2]
      exact ih
theorem valP_has {p : Gd.SP} {L : List SA} : (Vw.valP (kvT L) (keyP p)).isSome = decide (p ∈ L.map (·.1)) := by
  rw [valP_kvT, Option.isSome_map]
  by_cases h : p ∈ L.map (·.1)
  · rw [decide_eq_true h]
    obtain ⟨a, m, e⟩ := List.mem_map.mp h
    rw [List.find?_isSome]
    exact ⟨a, m, by simpa using e⟩
  · rw [decide_eq_false h, Bool.eq_false_iff]
    intro z
    rw [List.find?_isSome] at z
    obtain ⟨a, m, e⟩ := z
    exact h (List.mem_map.mpr ⟨a, m, by simpa using e⟩)
theorem valP_get {a : SA} {L : List SA} (cc : ∀ b ∈ L, b.1 = a.1 → b.2 = a.2) : (Vw.valP (kvT L) (keyP a.1)).getD (.bl a.2) = .bl a.2 := by
  rw [valP_kvT]
  cases e : L.find? fun b => decide (b.1 = a.1) with
  | none => rfl
  | some b =>
    have k : b.1 = a.1 := by simpa using List.find?_some e
    show T.bl b.2 = _
    rw [cc b (List.mem_of_find?_eq_some e) k]
theorem put_kvT {a : SA} {L : List SA} (cc : ∀ b ∈ L, b.1 = a.1 → b.2 = a.2) : Vw.putP (kvT L) (keyP a.1) (T.bl a.2) = kvT (addA L a) := by
  unfold addA Vw.putP
  have ee : ((kvT L).any fun kv => decide (kv.1 = keyP a.1)) = decide (a.1 ∈ L.map (·.1)) := by
    unfold kvT
    rw [List.any_map]
    by_cases h : a.1 ∈ L.map (·.1)
    · rw [decide_eq_true h]
      obtain ⟨b, m, e⟩ := List.mem_map.mp h
      exact List.any_eq_true.mpr ⟨b, m, by simp [e]⟩
    · rw [decide_eq_false h, Bool.eq_false_iff]
      intro z
      obtain ⟨b, m, e⟩ := List.any_eq_true.mp z
      exact h (List.mem_map.mpr ⟨b, m, keyP_inj (of_decide_eq_true e)⟩)
  rw [ee]
  by_cases h : a.1 ∈ L.map (·.1)
  · rw [decide_eq_true h, if_pos rfl, if_pos h]
    unfold kvT
    rw [List.map_map]
    refine List.map_congr_left fun b m => ?_
    show (if keyP b.1 = keyP a.1 then (keyP b.1, T.bl a.2) else (keyP b.1, T.bl b.2)) = _
    split
    · rename_i e
      rw [cc b m (keyP_inj e)]
    · rfl
  · rw [decide_eq_false h, if_neg Bool.false_ne_true, if_neg h]
    unfold kvT
    rw [List.map_append]
    rfl
theorem valP_look {L : List SA} {z : Gd.SP} (h : z ∈ L.map (·.1)) : Vw.valP (kvT L) (keyP z) = some (T.bl (look L z)) := by
  obtain ⟨a, m, e⟩ := List.mem_map.mp h
  have t : (L.find? fun b => decide (b.1 = z)).isSome = true := List.find?_isSome.mpr ⟨a, m, by simpa using e⟩
  obtain ⟨b, eb⟩ := Option.isSome_iff_exists.mp t
  rw [valP_kvT, eb]
  unfold look
  rw [eb]
  rfl
/-- sorted by pairs -/
theorem look_of : ∀ {L : List SA}, (L.map (·.1)).Nodup → ∀ {a : SA}, a ∈ L → look L a.1 = a.2
  | [], _, _, h => nomatch h
  | b :: L, nd, a, h => by
    have nd' := List.nodup_cons.mp (show (b.1 :: L.map (·.1)).Nodup from nd)
    rcases List.mem_cons.mp h with rfl | h
    · simp [look]
    · have ne : b.1 ≠ a.1 := fun e => nd'.1 (e ▸ List.mem_map_of_mem h)
      have := look_of nd'.2 h
      unfold look at this ⊢
      rw [List.find?_cons, show decide (b.1 = a.1) = false from decide_eq_false ne]
      exact this
theorem pr_of_an {a b : SA} (h : dataLe false Gd.an a b = true) : dataLe false (fun z : SA => Gd.pr z.1) a b = true := by
  have h : (!dataLt (Gd.an b) (Gd.an a)) = true := h
  show (!dataLt (Gd.pr b.1) (Gd.pr a.1)) = true
  rw [Bool.not_eq_true'] at h ⊢
  unfold Gd.an at h
  unfold Gd.pr
  rw [PySem.W.dataLt_tuple, PySem.W.dataLt_cons (by simp [PySem.W.alike]), PySem.W.dataLt_cons (by simp [PySem.W.alike])] at h ⊢
  split at h
  · rename_i e1
    rw [if_pos e1]
    split at h
    · rename_i e2
      rw [if_pos e2]
      exact PyProof.Rows.lex_irrefl _
    · rename_i e2
      rw [if_neg e2]
      exact h
  · rename_i e1
    rw [if_neg e1]
    exact h
theorem pr_inj {p q : Gd.SP} (h : keyToks (Gd.pr p) = keyToks (Gd.pr q)) : p = q := by
  obtain ⟨x, y⟩ := p
  obtain ⟨x', y'⟩ := q
  simp only [Gd.pr, keyToks, keyToksAll, List.cons_append, List.nil_append, List.cons.injEq, Sum.inr.injEq, Sum.inl.injEq, and_true, true_and] at h
  rw [PySem.W.str_of_cps h.1, PySem.W.str_of_cps h.2]
theorem sortP_fst {L : List SA} (nd : (L.map (·.1)).Nodup) : sortP (L.map (·.1)) = (sortA L).map (·.1) := by
  refine List.Perm.eq_of_pairwise (le := fun a b => dataLe false (fun z : Gd.SP => Gd.pr z) a b = true) (fun a b ma mb h1 h2 => pr_inj (dl_anti h1 h2)) (PySem.W.sort_pairwise (dl_total _) _) ?_ ?_
  · refine List.pairwise_map.mpr ((PySem.W.sort_pairwise (dl_total Gd.an) L).imp fun {a b} h => ?_)
    exact pr_of_an h
  · exact (List.mergeSort_perm _ _).trans ((sortA_perm L).map _).symm
theorem sortP_sortA {L : List SA} (nd : (L.map (·.1)).Nodup) : (sortP (L.map (·.1))).map (fun z => (z, look L z)) = sortA L := by
  rw [sortP_fst nd, List.map_map]
  have : ∀ a ∈ sortA L, ((fun z => (z, look L z)) ∘ fun a : SA => a.1) a = a := fun a m => by
    show (a.1, look L a.1) = a
    rw [look_of nd ((sortA_perm L).mem_iff.mp m)]
  rw [List.map_congr_left this]
  simp
def bookF (ys : List Str) (L : List SA) : List (Str × T) := [("_things", .lst (ys.map .str)), ("_truths", .dtt (kvT L)), ("_answers", .lst ((sortA L).map aT)), ("kept", .dct [])]
/-- no cell refers to another -/
def Pst (st : Stt) : Prop := ∀ x ∈ st, x.refsIn (fun _ => false) = true
theorem x_dT {m : Nat} {ps : List (List L2.Key × T)} {t : T} {key : List L2.Key} {K : Option T → Prop} (h : st[m]? = some (.dtt ps)) (e : t.tk = some key) (q : K (Vw.valP ps key)) : dctW st (.ref m) t K := by
  simp only [dctW, h, e]
  exact q
theorem x_dcell {m : Nat} {ps : List (List L2.Key × T)} {t y : T} {key : List L2.Key} {K : Stt → Prop} (h : st[m]? = some (.dtt ps)) (lo : y.under m = true) (e : t.tk = some key) (l : ps.length < big) (q : K (st.set m (.dtt (Vw.putP ps key y)))) : dcellW st (.ref m) t y K := by
  simp only [dcellW, h, e]
  exact ⟨lo, l, q⟩
theorem SeqV.sort {t : T} {xs : List Str} (h : SeqV st t (xs.map T.str)) (ne : t ≠ .emp) (q : Q (.lst ((sortS xs).map .str)) st) : (oSort : ON c).w st [t] Q := by
  rw [w_oSort]
  have main : ∀ {zs : List T}, SeqV st t zs → ∀ K : List T → Prop, K zs → seqW st t K := fun h K k => by
    cases h with
    | tup => exact k
    | lst => exact k
    | emp => exact absurd rfl ne
    | ref e => exact x_asR (K := fun ts _ => K ts) e k
  refine main h _ ?_
  rw [toDL_strs]
  refine ⟨alike_strD xs, sortable_strD xs, fun d m => ?_, ?_⟩
  · obtain ⟨x, _, rfl⟩ := List.mem_map.mp m
    exact Nat.zero_le _
  · rw [sortT_map]
    exact q
theorem cell_pure {x : Cell} (h : x.refsIn (fun _ => false) = true) (p : Nat → Bool) : x.refsIn p = true := by
  cases x with
  | gone => rfl
  | lst xs => exact refsInL_mono (p := fun _ => false) (fun _ z => by cases z) xs h
  | dct xs => exact refsInK_mono (p := fun _ => false) (fun _ z => by cases z) xs h
  | dtt xs => exact refsInT_mono (p := fun _ => false) (fun _ z => by cases z) xs h
  | obj C xs => exact refsInF_mono (p := fun _ => false) (fun _ z => by cases z) xs h
theorem x_frzT {i m n0 : Nat} {s : SX c} {E : EN} {env : En} {xs : List (List L2.Key × T)} (hv : env[i]? = some (some (.ref m))) (l : n0 ≤ m) (h1 : ∀ j t, j ≠ i → env[j]? = some (some t) → t.refsIn (fun k => k != m) = true) (h2 : Pst st) (h : st[m]? = some (.dtt xs)) (q : s.w n0 E (env.set i (some (.dtt xs))) (st.set m .gone)) : (sFrz i s).w n0 E env st := by
  rw [w_sFrz]
  simp only [hv, h]
  refine ⟨l, ?_, ?_, q⟩
  · refine List.all_eq_true.mpr fun p mp => ?_
    have e := List.mem_zipIdx_iff_getElem?.mp mp
    by_cases ij : p.2 = i
    · rw [beq_iff_eq.mpr ij]
      rfl
    · rw [beq_eq_false_iff_ne.mpr ij, Bool.false_or]
      cases ep : p.1 with
      | none => rfl
      | some t => exact h1 p.2 t ij (by rw [← ep]; exact e)
  · refine List.all_eq_true.mpr fun x mx => ?_
    exact cell_pure (h2 x mx) _
theorem Pst.set {m : Nat} {x : Cell} (h : Pst st) (hx : x.refsIn (fun _ => false) = true) : Pst (st.set m x) := fun y my => by
  rcases List.mem_or_eq_of_mem_set my with m | rfl
  · exact h y m
  · exact hx
theorem Pst.snoc {x : Cell} (h : Pst st) (hx : x.refsIn (fun _ => false) = true) : Pst (st ++ [x]) := fun y my => by
  rcases List.mem_append.mp my with m | m
  · exact h y m
  · rw [List.mem_singleton.mp m]; exact hx
theorem putFT_new {f : Str} {v : T} : ∀ {ps : List (Str × T)}, f ∉ ps.map (·.1) → putFT f v ps = ps ++ [(f, v)]
  | [], _ => rfl
  | (g, x) :: r, h => by
    have h' : f ≠ g ∧ f ∉ r.map (·.1) := by simpa using h
    unfold putFT
    rw [if_neg fun e => h'.1 e.symm, putFT_new h'.2]
    rfl
theorem kvT_pure {L : List SA} (p : Nat → Bool) : refsInT p (kvT L) = true := by
  rw [refsInT_map, refsInL_all, List.all_eq_true]
  intro t mt
  obtain ⟨a, ma, rfl⟩ := List.mem_map.mp mt
  obtain ⟨b, _, rfl⟩ := List.mem_map.mp ma
  rfl
theorem x_sortDT {L : List SA} (few : L.length ≤ 1000) (q : Q (.lst ((sortP (L.map (·.1))).map Vw.spT)) st) : (oSortDT : ON c).w st [.dtt (kvT L)] Q := by
  rw [w_oSortDT]
  show (match pairsK ((kvT L).map (·.1)) with | some ks => _ | none => False)
  have e : (kvT L).map (·.1) = (L.map (·.1)).map fun z => [Sum.inr z.1, Sum.inr z.2] := by
    unfold kvT
    rw [List.map_map, List.map_map]
    rfl
  rw [e, pairsK_map]
  exact ⟨by rw [List.length_map]; exact few, q⟩
theorem x_dT2 {ps : List (List L2.Key × T)} {t : T} {key : List L2.Key} {K : Option T → Prop} (e : t.tk = some key) (q : K (Vw.valP ps key)) : dctW st (.dtt ps) t K := by
  simp only [dctW, e]
  exact q
def lookT (L : List SA) : T → T | .tup [.str x, .str y] => aT ((x, y), look L (x, y)) | t => t
def pairT : T → T | .tup [x, y, _] => .tup [x, y] | t => t
theorem init_spec {B : Bk c} {t u : T} {ys : List Str} {As : List SA} (ht : SeqV st t (ys.map T.str)) (nt : t ≠ .emp) (hu : SeqV st u (As.map aT)) (nd : ys.Nodup) (ok : ∀ y ∈ ys, OkN 1 8 y) (l : ys.length ≤ 100) (okA : ∀ a ∈ As, OkA a)
    (ends : ∀ a ∈ As, a.1.1 ∈ ys ∧ a.1.2 ∈ ys) (con : Gd.Cons As) (few : As.length ≤ 1000) (hn : st[n]? = some (.obj B.C [])) (ps : Pst st) (k : Q .non (st.set n (.obj B.C (bookF (sortS ys) (gather As))) ++ [.gone])) : mBook__init__ B [.ref n, t, u] st Q := by
  refine ⟨rfl, ?_⟩
  unfold DBook__init__
  walk_at "gi"
  refine areNames_call ht nd ok l ?_
  refine x_iteF rfl ?_
  walk_at "gi"
  refine areAnswers_call hu okA ?_
  refine x_iteF rfl ?_
  walk_at "gi"
  refine hu.iA rfl fun pin hp => ?_
  refine lc_pure (fun _ => true) pairT (fun a ma C1 C0 k1 k0 => ?_) (hp _ fun _ _ => rfl) ?_
  · obtain ⟨y, my, rfl⟩ := List.mem_map.mp ma
    walk_at "go"
    exact pairOf_call (k1 rfl)
  walk_at "gi"
  have e0 : List.map pairT (List.filter (fun _ => true) (List.map aT As)) = (As.map (·.1)).map Vw.spT := by
    rw [List.filter_eq_self.mpr (fun _ _ => rfl), List.map_map, List.map_map]
    rfl
  rw [e0]
  refine stranger_call ht (by omega) (fun p mp => ?_) ?_
  · obtain ⟨a, ma, rfl⟩ := List.mem_map.mp mp
    exact ends a ma
  walk_at "gi"
  refine x_iteF rfl ?_
  walk_at "gi"
  have ag : ∀ (x : Cell) (m : Nat), m < st.length → (st ++ [x])[m]? = st[m]? := fun x m h => List.getElem?_append_left h
  refine hu.iA2 (ag _) rfl fun pin hp => ?_
  refine for_ind (fun as env st' => ∃ (done rest : List SA) (o5 o6 o7 : Option T), As = done ++ rest ∧ as = rest.map aT ∧ st' = st ++ [.dtt (kvT (gather done))] ∧ env = [some (.ref n), some t, some u, some .non, some (.ref st.length), o5, o6, o7, none, none] ∧ (∀ t, o5 = some t → t.pure = true) ∧ (∀ t, o6 = some t → t.pure = true) ∧ (∀ t, o7 = some t → t.pure = true)) ?_ ?_ _ _ _ ⟨[], As, none, none, none, rfl, rfl, rfl, rfl, (fun _ z => nomatch z), (fun _ z => nomatch z), (fun _ z => nomatch z)⟩
  · rintro a as env st' ⟨done, rest, o5, o6, o7, es, ea, rfl, rfl, p5, p6, p7⟩ C kC
    cases rest with
    | nil => cases ea
    | cons a rest =>
      cases ea
      refine ⟨hp _ (ag _), rfl, ?_⟩
      have at1 : (st ++ [Cell.dtt (kvT (gather done))])[st.length]? = some (.dtt (kvT (gather done))) := get_snoc
      have cc : ∀ b ∈ gather done, b.1 = a.1 → b.2 = a.2 := fun b mb e => con b (by rw [es]; exact List.mem_append_left _ (gather_mem mb)) a (by rw [es]; simp) e
      walk_at "go"
      refine pairOf_call ?_
      walk_at "go"
      refine x_ixT (xs := [.str a.1.1, .str a.1.2, .bl a.2]) rfl ?_
      walk_at "go"
      refine ⟨⟨Vw.spT a.1, x_dT at1 (tk_spT _) trivial⟩, ?_⟩
      walk_at "go"
      refine x_dT at1 (tk_spT _) ?_
      rw [valP_get cc]
      walk_at "go"
      refine x_ne rfl rfl ⟨rfl, rfl⟩ ?_
      refine x_iteF (by cases a.2 <;> rfl) ?_
      walk_at "go"
      have lg : (gather done).length ≤ done.length := gather_len
      have ld : done.length ≤ As.length := by rw [es, List.length_append]; omega
      refine x_dcell at1 rfl (tk_spT _) (by unfold kvT; rw [List.length_map]; show _ < 100000; omega) ?_
      rw [put_kvT cc, List.set_append_right _ _ (Nat.le_refl _), Nat.sub_self]
      refine kC _ _ ⟨done ++ [a], rest, _, _, _, by rw [es]; simp, rfl, ?_, rfl, fun t e => ?_, fun t e => ?_, fun t e => ?_⟩
      · have eg : gather (done ++ [a]) = addA (gather done) a := by
          unfold gather
          rw [List.foldl_append]
          rfl
        rw [eg]
        rfl
      · cases e; rfl
      · cases e; rfl
      · cases e; rfl
  · rintro env st' ⟨done, rest, o5, o6, o7, es, ea, rfl, rfl, p5, p6, p7⟩
    have er : rest = [] := List.map_eq_nil_iff.mp ea.symm
    subst er
    rw [List.append_nil] at es
    subst es
    refine ⟨hp _ (ag _), ?_⟩
    walk_at "go"
    have nl : n < st.length := (List.getElem?_eq_some_iff.mp hn).1
    have hn1 : (st ++ [Cell.dtt (kvT (gather As))])[n]? = some (.obj B.C []) := by rw [List.getElem?_append_left nl]; exact hn
    refine (ht.more (ag _)).sort nt ?_
    walk_at "go"
    rw [hn1]
    refine ⟨rfl, (by show 0 < 1000; decide), T.pure_in (pure_strs _) _, ?_⟩
    rw [List.set_append_left _ _ nl]
    walk_at "go"
    have ln : (st.set n (.obj B.C (putFT "_things" (.lst ((sortS ys).map .str)) []))).length = st.length := List.length_set
    have at2 : (st.set n (.obj B.C (putFT "_things" (.lst ((sortS ys).map .str)) [])) ++ [Cell.dtt (kvT (gather As))])[st.length]? = some (.dtt (kvT (gather As))) := by
      have := get_snoc (xs := st.set n (.obj B.C (putFT "_things" (.lst ((sortS ys).map .str)) []))) (x := Cell.dtt (kvT (gather As)))
      rwa [ln] at this
    refine x_frzT rfl (Nat.le_refl _) (fun j t ne e => ?_) ((ps.set ?_).snoc (kvT_pure _)) at2 ?_
    · rcases j with _ | _ | _ | _ | _ | _ | _ | _ | _ | _ | j
      · cases e
        exact bne_iff_ne.mpr (by omega)
      · cases e
        exact ht.refs (fun t m => by
          obtain ⟨x, _, rfl⟩ := List.mem_map.mp m
          rfl) fun k lk => bne_iff_ne.mpr (by omega)
      · cases e
        exact hu.refs (fun t m => by
          obtain ⟨x, _, rfl⟩ := List.mem_map.mp m
          rfl) fun k lk => bne_iff_ne.mpr (by omega)
      · cases e; rfl
      · exact absurd rfl ne
      · exact T.pure_in (p5 t (Option.some.inj e)) _
      · exact T.pure_in (p6 t (Option.some.inj e)) _
      · exact T.pure_in (p7 t (Option.some.inj e)) _
      · cases e
      · cases e
      · cases e
    · show refsInF (fun _ => false) (putFT "_things" _ []) = true
      simp only [putFT, refsInF, Bool.and_true]
      exact T.pure_in (pure_strs _) _
    walk_at "go"
    have e1 : ∀ o x : Cell, ((st.set n o ++ [x]).set st.length .gone) = st.set n o ++ [.gone] := fun o x => by
      rw [List.set_append_right _ _ (by rw [List.length_set]; exact Nat.le_refl _), List.length_set, Nat.sub_self]
      rfl
    have atO : ∀ o y : Cell, (st.set n o ++ [y])[n]? = some o := fun o y => by
      rw [List.getElem?_append_left (by rw [List.length_set]; exact nl), List.getElem?_set_self nl]
    have setO : ∀ o o' y : Cell, (st.set n o ++ [y]).set n o' = st.set n o' ++ [y] := fun o o' y => by
      rw [List.set_append_left _ _ (by rw [List.length_set]; exact nl), List.set_set]
    rw [e1, atO]
    refine ⟨rfl, (by show 1 < 1000; decide), (by show T.refsIn _ (.dtt _) = true; simp only [T.refsIn]; exact kvT_pure _), ?_⟩
    rw [setO]
    have lg : (gather As).length ≤ As.length := gather_len
    walk_at "go"
    refine x_sortDT (by omega) ?_
    walk_at "go"
    refine lc_pure (fun _ => true) (lookT (gather As)) (fun a ma C1 C0 k1 k0 => ?_) trivial ?_
    · obtain ⟨z, mz, rfl⟩ := List.mem_map.mp ma
      have mz' : z ∈ (gather As).map (·.1) := (List.mergeSort_perm _ _).mem_iff.mp mz
      walk_at "go"
      refine ⟨rfl, ?_⟩
      walk_at "go"
      refine ⟨rfl, ?_⟩
      walk_at "go"
      refine ⟨(by show 2 ≤ 100000; decide), ?_⟩
      refine x_dT2 (tk_spT z) ?_
      rw [valP_look mz']
      walk_at "go"
      exact ⟨(by show 3 ≤ 100000; decide), k1 rfl⟩
    walk_at "go"
    have el : List.map (lookT (gather As)) (List.filter (fun _ => true) (List.map Vw.spT (sortP ((gather As).map (·.1))))) = (sortA (gather As)).map aT := by
      rw [List.filter_eq_self.mpr (fun _ _ => rfl), List.map_map, ← sortP_sortA gather_nodup, List.map_map]
      rfl
    rw [el, atO]
    refine ⟨rfl, (by show 2 < 1000; decide), T.pure_in (ans_pure _) _, ?_⟩
    rw [setO]
    walk_at "go"
    rw [atO]
    refine ⟨rfl, (by show 3 < 1000; decide), rfl, ?_⟩
    rw [setO]
    have ef : putFT "kept" (.dct []) (putFT "_answers" (.lst ((sortA (gather As)).map aT)) (putFT "_truths" (.dtt (kvT (gather As))) (putFT "_things" (.lst ((sortS ys).map .str)) []))) = bookF (sortS ys) (gather As) := by
      rw [putFT_new (f := "_things") (by simp), List.nil_append, putFT_new (f := "_truths") (by show _ ∉ [("_things" : Str)]; decide +kernel), putFT_new (f := "_answers") (by show _ ∉ [("_things" : Str), "_truths"]; decide +kernel), putFT_new (f := "kept") (by show _ ∉ [("_things" : Str), "_truths", "_answers"]; decide +kernel)]
      rfl
    show Q .non (st.set n (.obj B.C (putFT "kept" (.dct []) (putFT "_answers" (.lst ((sortA (gather As)).map aT)) (putFT "_truths" (.dtt (kvT (gather As))) (putFT "_things" (.lst ((sortS ys).map .str)) []))))) ++ [.gone])
    rw [ef]
    exact k
end
end LW

/-! steps of the walk -/
local macro_rules
  | `(tactic| walk_at "gf1") => `(tactic| first
  | rw [if_pos (rfl : true = true)]
  | rw [if_neg Bool.false_ne_true]
  | with_reducible apply Vw.y_eOp
  | with_reducible apply Vw.y_eCB
  | with_reducible apply Vw.y_aC
  | with_reducible apply Vw.y_aN
  | with_reducible apply Vw.y_eI
  | with_reducible apply Vw.y_eS
  | with_reducible apply Vw.y_eB
  | with_reducible apply Vw.y_eN
  | ((with_reducible apply Vw.x_eV); rfl)
  | with_reducible apply Vw.y_eTup
  | with_reducible apply Vw.y_eLst
  | with_reducible apply Vw.y_eLstC
  | with_reducible apply Vw.y_eDK
  | with_reducible apply Vw.y_eDKC
  | with_reducible apply Vw.y_eDTC
  | with_reducible apply Vw.y_eUn
  | with_reducible apply Vw.y_tE
  | with_reducible apply Vw.y_tTe
  | with_reducible apply Vw.y_tNo
  | with_reducible apply Vw.y_tAn
  | with_reducible apply Vw.y_tOrr
  | with_reducible apply Vw.y_tY
  | with_reducible apply Vw.y_eAnd
  | with_reducible apply Vw.y_eOr
  | with_reducible apply Vw.y_eNot
  | with_reducible apply Vw.y_eChain
  | with_reducible apply Vw.y_sNx
  | with_reducible apply Vw.y_sSeq
  | with_reducible apply Vw.y_sNever
  | with_reducible apply Vw.y_sBrk
  | with_reducible apply Vw.y_sCnt
  | with_reducible apply Vw.y_sDrop
  | with_reducible apply Vw.y_sRet
  | with_reducible apply Vw.y_sRetN
  | with_reducible apply Vw.y_sIf
  | with_reducible apply Vw.y_gN
  | with_reducible apply Vw.y_gsN
  | with_reducible apply Vw.y_gsC
  | with_reducible apply Vw.y_gT
  | with_reducible apply Vw.y_sAsg
  | with_reducible apply Vw.y_sPar
  | with_reducible apply Vw.y_sWh
  | with_reducible apply Vw.y_sFor
  | with_reducible apply Vw.y_eLc
  | with_reducible apply Vw.y_iR1
  | with_reducible apply Vw.y_iR2
  | with_reducible apply Vw.y_iEn
  | with_reducible apply Vw.y_iZi
  | with_reducible apply Vw.y_pN
  | with_reducible apply Vw.y_pS
  | with_reducible apply Vw.y_eSl
  | with_reducible apply Vw.y_eBM
  | with_reducible apply Vw.y_eBM0
  | with_reducible apply Vw.y_mAppend
  | with_reducible apply Vw.y_mExtend
  | with_reducible apply Vw.y_mClear
  | with_reducible apply Vw.y_mReverse
  | with_reducible apply Vw.y_mPop
  | with_reducible apply Vw.y_mPopAt
  | with_reducible apply Vw.y_mS0
  | with_reducible apply Vw.y_mJoin
  | with_reducible apply Vw.y_hN
  | with_reducible apply Vw.y_hsN
  | with_reducible apply Vw.y_hsC
  | with_reducible apply Vw.y_hT
  | with_reducible apply Vw.y_sAsH
  | with_reducible apply Vw.y_eCl
  | with_reducible apply Vw.y_eClK
  | with_reducible apply Vw.y_eDGet
  | with_reducible apply Vw.y_eDGet1
  | with_reducible apply Vw.y_eDGet2
  | with_reducible apply Vw.y_eDIn
  | with_reducible apply Vw.y_eDNin
  | with_reducible apply Vw.y_sDPt
  | with_reducible apply Vw.y_eIsi
  | with_reducible apply Vw.y_eIsi2
  | with_reducible apply Vw.y_eLc2
  | with_reducible apply Vw.y_eDcT
  | with_reducible apply Vw.y_eFld
  | with_reducible apply Vw.y_sFldC
  | with_reducible apply Vw.y_eMk
  | with_reducible apply Vw.y_eMkK
  | with_reducible apply Vw.y_eMt
  | with_reducible apply Vw.y_eIsiO
  | with_reducible apply Vw.y_eLcC
  | with_reducible apply Vw.y_eClT
  | with_reducible apply Vw.y_eMtT
  | with_reducible apply Vw.y_iOwnX
  | with_reducible apply Vw.y_eDisp
  | with_reducible apply Vw.y_eSortV
  | with_reducible apply Vw.y_NoLen
  | with_reducible apply Vw.y_NoList
  | with_reducible apply Vw.y_NoListC
  | with_reducible apply Vw.y_NoTuple
  | with_reducible apply Vw.y_NoLenO
  | with_reducible apply Vw.y_NoListO
  | with_reducible apply Vw.y_NoListOC
  | with_reducible apply Vw.y_NoListD
  | rw [Vw.v_oII]
  | rw [Vw.v_oIB]
  | rw [Vw.v_oIC]
  | rw [Vw.v_oNeg]
  | rw [Vw.v_addI]
  | rw [Vw.v_addS]
  | rw [Vw.v_addT]
  | rw [Vw.v_addL]
  | rw [Vw.v_mulI]
  | rw [Vw.v_mulL]
  | rw [Vw.v_intI]
  | rw [Vw.v_intB]
  | rw [Vw.v_absI]
  | rw [Vw.v_repS]
  | rw [Vw.v_asL]
  | rw [Vw.v_anyL]
  | rw [Vw.v_anyT]
  | rw [Vw.v_anyE]
  | rw [Vw.v_anyS]
  | rw [Vw.v_isN]
  | rw [Vw.v_notN]
  | dsimp only)
local macro_rules
  | `(tactic| walk_at "gf") => `(tactic| repeat walk_at "gf1")
local macro_rules
  | `(tactic| walk_at "gs1") => `(tactic| first
  | rw [if_pos (rfl : true = true)]
  | rw [if_neg Bool.false_ne_true]
  | with_reducible apply Vw.y_eOp
  | with_reducible apply Vw.y_eCB
  | with_reducible apply Vw.y_aC
  | with_reducible apply Vw.y_aN
  | with_reducible apply Vw.y_eI
  | with_reducible apply Vw.y_eS
  | with_reducible apply Vw.y_eB
  | with_reducible apply Vw.y_eN
  | ((with_reducible apply Vw.x_eV); rfl)
  | with_reducible apply Vw.y_eTup
  | with_reducible apply Vw.y_eLst
  | with_reducible apply Vw.y_eLstC
  | with_reducible apply Vw.y_eDK
  | with_reducible apply Vw.y_eDKC
  | with_reducible apply Vw.y_eDTC
  | with_reducible apply Vw.y_eUn
  | with_reducible apply Vw.y_tE
  | with_reducible apply Vw.y_tTe
  | with_reducible apply Vw.y_tNo
  | with_reducible apply Vw.y_tAn
  | with_reducible apply Vw.y_tY
  | with_reducible apply Vw.y_eAnd
  | with_reducible apply Vw.y_eOr
  | with_reducible apply Vw.y_eNot
  | with_reducible apply Vw.y_eChain
  | with_reducible apply Vw.y_sNx
  | with_reducible apply Vw.y_sNever
  | with_reducible apply Vw.y_sBrk
  | with_reducible apply Vw.y_sCnt
  | with_reducible apply Vw.y_sDrop
  | with_reducible apply Vw.y_sRet
  | with_reducible apply Vw.y_sRetN
  | with_reducible apply Vw.y_sIf
  | with_reducible apply Vw.y_gN
  | with_reducible apply Vw.y_gsN
  | with_reducible apply Vw.y_gsC
  | with_reducible apply Vw.y_gT
  | with_reducible apply Vw.y_sAsg
  | with_reducible apply Vw.y_sPar
  | with_reducible apply Vw.y_sWh
  | with_reducible apply Vw.y_sFor
  | with_reducible apply Vw.y_eLc
  | with_reducible apply Vw.y_iR1
  | with_reducible apply Vw.y_iR2
  | with_reducible apply Vw.y_iEn
  | with_reducible apply Vw.y_iZi
  | with_reducible apply Vw.y_pN
  | with_reducible apply Vw.y_pS
  | with_reducible apply Vw.y_eSl
  | with_reducible apply Vw.y_eBM
  | with_reducible apply Vw.y_eBM0
  | with_reducible apply Vw.y_mAppend
  | with_reducible apply Vw.y_mExtend
  | with_reducible apply Vw.y_mClear
  | with_reducible apply Vw.y_mReverse
  | with_reducible apply Vw.y_mPop
  | with_reducible apply Vw.y_mPopAt
  | with_reducible apply Vw.y_mS0
  | with_reducible apply Vw.y_mJoin
  | with_reducible apply Vw.y_hN
  | with_reducible apply Vw.y_hsN
  | with_reducible apply Vw.y_hsC
  | with_reducible apply Vw.y_hT
  | with_reducible apply Vw.y_sAsH
  | with_reducible apply Vw.y_eCl
  | with_reducible apply Vw.y_eClK
  | with_reducible apply Vw.y_eDGet
  | with_reducible apply Vw.y_eDGet1
  | with_reducible apply Vw.y_eDGet2
  | with_reducible apply Vw.y_eDIn
  | with_reducible apply Vw.y_eDNin
  | with_reducible apply Vw.y_sDPt
  | with_reducible apply Vw.y_eIsi
  | with_reducible apply Vw.y_eIsi2
  | with_reducible apply Vw.y_eLc2
  | with_reducible apply Vw.y_eDcT
  | with_reducible apply Vw.y_eFld
  | with_reducible apply Vw.y_sFldC
  | with_reducible apply Vw.y_eMk
  | with_reducible apply Vw.y_eMkK
  | with_reducible apply Vw.y_eMt
  | with_reducible apply Vw.y_eIsiO
  | with_reducible apply Vw.y_eLcC
  | with_reducible apply Vw.y_eClT
  | with_reducible apply Vw.y_eMtT
  | with_reducible apply Vw.y_iOwnX
  | with_reducible apply Vw.y_eDisp
  | with_reducible apply Vw.y_eSortV
  | with_reducible apply Vw.y_NoLen
  | with_reducible apply Vw.y_NoList
  | with_reducible apply Vw.y_NoListC
  | with_reducible apply Vw.y_NoTuple
  | with_reducible apply Vw.y_NoLenO
  | with_reducible apply Vw.y_NoListO
  | with_reducible apply Vw.y_NoListOC
  | with_reducible apply Vw.y_NoListD
  | rw [Vw.v_oII]
  | rw [Vw.v_oIB]
  | rw [Vw.v_oIC]
  | rw [Vw.v_oNeg]
  | rw [Vw.v_addI]
  | rw [Vw.v_addS]
  | rw [Vw.v_addT]
  | rw [Vw.v_addL]
  | rw [Vw.v_mulI]
  | rw [Vw.v_mulL]
  | rw [Vw.v_intI]
  | rw [Vw.v_intB]
  | rw [Vw.v_absI]
  | rw [Vw.v_repS]
  | rw [Vw.v_asL]
  | rw [Vw.v_anyL]
  | rw [Vw.v_anyT]
  | rw [Vw.v_anyE]
  | rw [Vw.v_anyS]
  | rw [Vw.v_isN]
  | rw [Vw.v_notN]
  | dsimp only)
local macro_rules
  | `(tactic| walk_at "gs") => `(tactic| repeat walk_at "gs1")
/-! Books made by the law -/
namespace LW
open PySem PySem.Spec PyProof.Rows L2 Gd Vw
open PySem.W (dataLe AllAlike Sortable keyToks keyToksAll dataLt)



section
variable {c : Cf} {n : Nat} {st : Stt} {Q : T → Stt → Prop}
theorem bookF_refs {ys : List Str} {L : List SA} (p : Nat → Bool) : refsInF p (bookF ys L) = true := by
  unfold bookF
  simp only [refsInF, Bool.and_true, Bool.and_eq_true]
  refine ⟨T.pure_in (pure_strs ys) p, ?_, T.pure_in (ans_pure _) p, ?_⟩
  · simp only [T.refsIn]; exact kvT_pure p
  · simp only [T.refsIn, refsInK]
theorem pureL {xs : List T} (h : (T.lst xs).pure = true) : (Cell.lst xs).refsIn (fun _ => false) = true := by
  have h : T.refsIn _ (.lst xs) = true := h
  simp only [T.refsIn] at h
  exact h
theorem objP {C : Addr} {ys : List Str} {L : List SA} : (T.obj C (bookF ys L)).pure = true := by
  show T.refsIn _ _ = true
  simp only [T.refsIn]
  exact bookF_refs _
/-- what is handed in to make a Book -/
structure Fit (ys : List Str) (As : List SA) : Prop where
  nd : ys.Nodup
  ok : ∀ y ∈ ys, OkN 1 8 y
  l : ys.length ≤ 100
  okA : ∀ a ∈ As, OkA a
  ends : ∀ a ∈ As, a.1.1 ∈ ys ∧ a.1.2 ∈ ys
  con : Gd.Cons As
  few : As.length ≤ 1000
theorem exit_obj {n0 m : Nat} {st' : Stt} {C : Addr} {fs : List (Str × T)} {K : T → Prop} (l : n0 ≤ m) (e : st'[m]? = some (.obj C fs)) (h : refsInF (fun m => decide (m < n0)) fs = true) (q : K (.obj C fs)) : exitF n0 st' (.ref m) K := by
  unfold exitF
  dsimp only
  rw [if_neg (by omega)]
  simp only [e]
  exact ⟨h, q⟩
theorem make_call {B : Bk c} {t u : T} {ys : List Str} {As : List SA} {K : Stt → Prop} (ht : SeqV st t (ys.map T.str)) (nt : t ≠ .emp) (hu : SeqV st u (As.map aT)) (f : Fit ys As) (ps : Pst st) (k : K (st ++ [.obj B.C (bookF (sortS ys) (gather As)), .gone])) :
    makeW B.C (mBook__init__ B) [t, u] st K := by
  unfold makeW
  have ag : ∀ (m : Nat), m < st.length → (st ++ [Cell.obj B.C []])[m]? = st[m]? := fun m h => List.getElem?_append_left h
  refine init_spec (n := st.length) (ht.more ag) nt (hu.more ag) f.nd f.ok f.l f.okA f.ends f.con f.few get_snoc (ps.snoc rfl) ?_
  refine ⟨trivial, ?_⟩
  rw [List.set_append_right _ _ (Nat.le_refl _), Nat.sub_self, List.append_assoc]
  exact k
theorem mk_at {o : Cell} {r : List Cell} : (st ++ (o :: r))[st.length]? = some o := by
  rw [List.getElem?_append_right (Nat.le_refl _), Nat.sub_self]
  rfl
/-- a Book of these things and answers -/
def IsB (B : Bk c) (t : T) (ys : List Str) (As : List SA) : Prop := ∃ L : List SA, L.Perm As ∧ t = .obj B.C (bookF ys L)
theorem x_ifTup {i m : Nat} {env : En} {xs : List T} {t : TX c} (hv : env[i]? = some (some (.ref m))) (h : st[m]? = some (.lst xs)) (ht : ∀ K : Bool → Stt → Prop, (∀ b, K b st) → t.w env st K) (q : ∀ u, SeqV st u xs → u ≠ .emp → Q u st) :
    (eIf t (eV i) (eCB oTuple (aC (eV i) aN))).w env st Q ∧ (eIf t (eCB oTuple (aC (eV i) aN)) (eV i)).w env st Q := by
  have a1 : (eV i : EX c).w env st Q := x_eV hv (q _ (.ref h) (fun z => nomatch z))
  have a2 : (eCB oTuple (aC (eV i) aN) : EX c).w env st Q := by
    rw [w_eCB, w_aC]
    refine x_eV hv ?_
    rw [w_aN, w_oTuple]
    exact ⟨⟨(fun z => nomatch z), fun z => nomatch z⟩, x_anyR h (q _ (.tup xs) fun z => nomatch z)⟩
  refine ⟨ht _ fun b => ?_, ht _ fun b => ?_⟩
  · exact x_ite (fun _ => a1) (fun _ => a2)
  · exact x_ite (fun _ => a2) (fun _ => a1)
theorem answer_mx {a : SA} (h : OkA a) : Mx (aT a) := by
  refine ⟨rfl, .tuple [.str a.1.1, .str a.1.2, .bool a.2], rfl, ?_, ?_⟩
  · have c1 := str_can h.x
    have c2 := str_can h.y
    simp [PyData.canLay0, PyData.canLayAll0]
    simp [PyData.canLay0] at c1 c2
    exact ⟨c1, c2⟩
  · simp [PyData.depth, PyData.depthAll]
theorem Wf.okA {m : Nat} {ys : List Str} {As : List SA} (h : Wf m ys As) : ∀ a ∈ As, OkA a := fun a ma => by
  obtain ⟨h1, h2, h3⟩ := pairsL_mem (h.amem a ma)
  exact ⟨h.ok _ h1, h.ok _ h2, fun e => h3 e.symm⟩
theorem Wf.fit {m : Nat} {ys ns : List Str} {As Ms : List SA} (h : Wf m ys As) (hm : m ≤ 7) (p : ns.Perm ys) (s : ∀ a ∈ Ms, a ∈ As) (l : Ms.length ≤ 1000) : Fit ns Ms where
  nd := p.nodup_iff.mpr h.nd
  ok := fun y my => h.ok y (p.mem_iff.mp my)
  l := by have := p.length_eq; have := h.len; omega
  okA := fun a ma => h.okA a (s a ma)
  ends := fun a ma => by
    obtain ⟨h1, h2, _⟩ := pairsL_mem (h.amem a (s a ma))
    exact ⟨p.mem_iff.mpr h1, p.mem_iff.mpr h2⟩
  con := fun a ma b mb e => by
    have := look_of h.and_ (s a ma)
    have k := look_of h.and_ (s b mb)
    rw [← this, ← k, e]
  few := l
theorem gather_perm {As Ms : List SA} (nd : (As.map (·.1)).Nodup) (con : Gd.Cons Ms) (s : ∀ a, a ∈ Ms ↔ a ∈ As) : (gather Ms).Perm As := by
  have of : ∀ {Xs : List SA}, (Xs.map (·.1)).Nodup → Xs.Nodup := fun h => (List.pairwise_map.mp h).imp fun ne e => ne (congrArg _ e)
  have n1 : (gather Ms).Nodup := of gather_nodup
  have n2 : As.Nodup := of nd
  exact (List.perm_ext_iff_of_nodup n1 n2).mpr fun a => (mem_gather con).trans (s a)
theorem x_inT {a b : T} {d e : PyData} {es : List PyData} (h1 : view st a = some d) (h2 : view st b = some e) (h3 : itemsD e = some es) (s : Shp d ∧ Shp e) (q : Q (.bl (es.any fun z => PyData.eqv z d)) st) : (oIn : O2 c).w st a b Q := by
  rw [w_oIn, h1, h2]
  dsimp only
  rw [h3]
  exact ⟨s, q⟩
theorem x_ninT {a b : T} {d e : PyData} {es : List PyData} (h1 : view st a = some d) (h2 : view st b = some e) (h3 : itemsD e = some es) (s : Shp d ∧ Shp e) (q : Q (.bl (!es.any fun z => PyData.eqv z d)) st) : (oNin : O2 c).w st a b Q := by
  rw [w_oNin, h1, h2]
  dsimp only
  rw [h3]
  exact ⟨s, q⟩
theorem take_set_ge {α : Type} {xs : List α} {i n : Nat} {x : α} (h : n ≤ i) : (xs.set i x).take n = xs.take n := by
  apply List.ext_getElem?
  intro j
  rw [List.getElem?_take, List.getElem?_take]
  split
  · rw [List.getElem?_set_ne (by omega)]
  · rfl
theorem ans_perm {ys : List T} {zs : List SA} (p : ys.Perm (zs.map aT)) : ∃ ws : List SA, ys = ws.map aT ∧ ws.Perm zs := perm_back (g := fun t => match t with | .tup [.str x, .str y, .bl b] => ((x, y), b) | _ => (("", ""), false)) (fun _ => rfl) p
theorem IsB.mk' {B : Bk c} {m : Nat} {ys ns : List Str} {As Ms : List SA} (h : Wf m ys As) (hm : m ≤ 7) (p : ns.Perm ys) (s : ∀ a, a ∈ Ms ↔ a ∈ As) (l : Ms.length ≤ 1000) : IsB B (.obj B.C (bookF (sortS ns) (gather Ms))) ys As := by
  refine ⟨gather Ms, gather_perm h.and_ (h.fit hm p (fun a ma => (s a).mp ma) l).con s, ?_⟩
  rw [sortS_eq p, h.srt]
theorem shp_ans {ms : List SA} (h : ∀ a ∈ ms, OkA a) : Shp (.list (ms.map Gd.an)) := by
  obtain ⟨ds, e1, e2, e3⟩ := toDL_all (xs := ms.map aT) fun t mt => by
    obtain ⟨a, ma, rfl⟩ := List.mem_map.mp mt
    exact (answer_mx (h a ma)).dat
  rw [aT_toD] at e1
  cases e1
  exact shp_list e2 e3
end
end LW

/-! what a Book tells -/
namespace LW
open PySem PySem.Spec PyProof.Rows L2 Gd Vw
open PySem.W (dataLe AllAlike Sortable keyToks keyToksAll dataLt)

section
variable {c : Cf} {n : Nat} {st : Stt} {Q : T → Stt → Prop}
/-! data of a size -/
structure Sz (w dp : Nat) (d : PyData) : Prop where
  ok : okd d = true
  nd : d.hasDict = false
  wt : Gd.wt d ≤ w
  dp : d.depth ≤ dp
theorem Sz.fine {w dp : Nat} {d : PyData} (h : Sz w dp d) (l : w ≤ 10000000) (k : dp ≤ 50) : Fine d := ⟨h.ok, Nat.le_trans h.wt l, Nat.le_trans h.dp k⟩
theorem Sz.up {w dp w' dp' : Nat} {d : PyData} (h : Sz w dp d) (l : w ≤ w') (k : dp ≤ dp') : Sz w' dp' d := ⟨h.ok, h.nd, Nat.le_trans h.wt l, Nat.le_trans h.dp k⟩
theorem sz_all {w dp : Nat} : ∀ {ds : List PyData}, (∀ d ∈ ds, Sz w dp d) → okdAll ds = true ∧ PyData.hasDictAll ds = false ∧ wtAll ds ≤ ds.length * (w + 2) ∧ PyData.depthAll ds ≤ dp
  | [], _ => ⟨rfl, rfl, Nat.zero_le _, Nat.zero_le _⟩
  | d :: ds, h => by
    obtain ⟨h1, h2, h3, h4⟩ := sz_all (ds := ds) fun d m => h d (List.mem_cons_of_mem _ m)
    have k := h d List.mem_cons_self
    refine ⟨?_, ?_, ?_, ?_⟩
    · simp only [okdAll, k.ok, h1, Bool.and_self]
    · simp only [PyData.hasDictAll, k.nd, h2, Bool.or_self]
    · simp only [wtAll, List.length_cons, Nat.add_mul, Nat.one_mul]
      have := k.wt
      omega
    · simp only [PyData.depthAll]
      exact Nat.max_le.mpr ⟨k.dp, h4⟩
theorem sz_lst {w dp n : Nat} {ds : List PyData} (h : ∀ d ∈ ds, Sz w dp d) (l : ds.length ≤ n) : Sz (2 + n * (w + 2)) (dp + 1) (.list ds) := by
  obtain ⟨h1, h2, h3, h4⟩ := sz_all h
  have : ds.length * (w + 2) ≤ n * (w + 2) := Nat.mul_le_mul_right _ l
  exact ⟨by simpa only [okd] using h1, by simpa only [PyData.hasDict] using h2, by simp only [Gd.wt]; omega, by simp only [PyData.depth]; omega⟩
theorem sz_tup {w dp n : Nat} {ds : List PyData} (h : ∀ d ∈ ds, Sz w dp d) (l : ds.length ≤ n) : Sz (3 + n * (w + 2)) (dp + 1) (.tuple ds) := by
  obtain ⟨h1, h2, h3, h4⟩ := sz_all h
  have : ds.length * (w + 2) ≤ n * (w + 2) := Nat.mul_le_mul_right _ l
  exact ⟨by simpa only [okd] using h1, by simpa only [PyData.hasDict] using h2, by simp only [Gd.wt]; omega, by simp only [PyData.depth]; omega⟩
theorem sz_str {lo hi : Nat} {x : Str} (h : OkN lo hi x) (k : hi ≤ 100) : Sz (10 * hi + 2) 0 (.str x) := by
  have l : x.length ≤ hi := by rw [str_len]; exact h.hi
  refine ⟨?_, by simp only [PyData.hasDict], by simp only [Gd.wt]; omega, by simp only [PyData.depth]; omega⟩
  simp only [okd, Bool.and_eq_true, decide_eq_true_eq]
  refine ⟨?_, by omega⟩
  rw [Array.all_eq_true']
  intro c' mc
  have := h.cs c' (by simpa using mc)
  exact decide_eq_true (by omega)
theorem sz_bool (b : Bool) : Sz 5 0 (.bool b) := ⟨by simp [okd], by simp [PyData.hasDict], by simp [Gd.wt], by simp [PyData.depth]⟩
theorem sz_none : Sz 4 0 .none := ⟨by simp [okd], by simp [PyData.hasDict], by simp [Gd.wt], by simp [PyData.depth]⟩
theorem sz_nat {n : Nat} (h : n < 1000) : Sz 1003 0 (.int n) := by
  have l : n.log2 < 1000 := Nat.lt_of_le_of_lt (Nat.log2_le_self n) h
  refine ⟨?_, by simp only [PyData.hasDict], ?_, by simp only [PyData.depth]; omega⟩
  · simp only [okd, Int.natAbs_natCast, decide_eq_true_eq]
    exact l
  · simp only [Gd.wt, Int.natAbs_natCast]
    omega
theorem sz_an {a : SA} (h : OkA a) : Sz 255 1 (Gd.an a) := by
  refine (sz_tup (w := 82) (dp := 0) (n := 3) (fun d m => ?_) (by show 3 ≤ 3; decide)).up (by decide) (Nat.le_refl _)
  rcases List.mem_cons.mp m with rfl | m
  · exact sz_str h.x (by decide)
  · rcases List.mem_cons.mp m with rfl | m
    · exact sz_str h.y (by decide)
    · rw [List.mem_singleton.mp m]
      exact (sz_bool _).up (by decide) (Nat.le_refl _)
theorem sz_pr {p : Gd.SP} (h1 : OkN 1 8 p.1) (h2 : OkN 1 8 p.2) : Sz 171 1 (Gd.pr p) := by
  refine (sz_tup (w := 82) (dp := 0) (n := 2) (fun d m => ?_) (by show 2 ≤ 2; decide)).up (by decide) (Nat.le_refl _)
  rcases List.mem_cons.mp m with rfl | m
  · exact sz_str h1 (by decide)
  · rw [List.mem_singleton.mp m]
    exact sz_str h2 (by decide)
theorem alike_call {t u : T} {d : PyData} (h1 : view st t = some d) (h2 : view st u = some d) (f : Fine d) (nd : d.hasDict = false) (q : Q (.bl true) st) : callF (m_law_alike c) [t, u] st Q := by
  refine ⟨rfl, ?_⟩
  unfold D_law_alike
  walk_at "go"
  refine x_eq h1 h2 ⟨f.shp nd, f.shp nd⟩ ?_
  refine x_iteT (SeqAt.eqv_refl d (canLay_okd d f.ok nd)) ?_
  walk_at "go"
  have k := f.shown fun z => by rw [nd] at z; cases z
  refine x_repr h1 k ?_
  walk_at "go"
  refine x_repr h2 k ?_
  walk_at "go"
  refine x_eqS rfl rfl trivial ?_
  rw [eqv_str, decide_eq_true rfl]
  exact ret_here rfl q
/-! comprehensions with two for -/
theorem lc2_ind {x : T → En → (En → Prop) → Prop} {t : WT} {i1 : WI} {x1 : T → En → (En → Prop) → Prop} {vs1 : List Nat} {t1 : WT} {e : WE} {env : En} {pin : Stt → Prop} {K : List T → Stt → Prop} (I : List T → List T → Stt → Prop)
    (step : ∀ a as out st, I (a :: as) out st → ∀ C : List T → Stt → Prop, (∀ out' st', I as out' st' → C out' st') → pin st ∧ x a env fun env' => t env' st fun b st1 => if b = true then i1 env' st1 fun ts1 pin1 st2 => out.length + ts1.length ≤ big ∧ lcW x1 t1 e (wipeE env' vs1) pin1 ts1 out st2 C else C out st1)
    (fin : ∀ out st, I [] out st → pin st ∧ K out st) : ∀ (ts out : List T) (st : Stt), I ts out st → lc2W x t i1 x1 vs1 t1 e env pin ts out st K
  | [], out, st, h => fin out st h
  | a :: as, out, st, h => step a as out st h _ fun out' st' h' => lc2_ind I step fin as out' st' h'
theorem lc_pureA {x : T → En → (En → Prop) → Prop} {t : WT} {e : WE} {env : En} {pin : Stt → Prop} {K : List T → Stt → Prop} (p : T → Bool) (f : T → T) {ts out0 : List T}
    (step : ∀ a ∈ ts, ∀ (C1 : T → Stt → Prop) (C0 : Stt → Prop), (p a = true → C1 (f a) st) → (p a = false → C0 st) → x a env fun env' => t env' st fun b st1 => if b = true then e env' st1 C1 else C0 st1)
    (pn : pin st) (k : K (out0 ++ (ts.filter p).map f) st) : lcW x t e env pin ts out0 st K := by
  refine lc_ind (fun as out st' => st' = st ∧ ∃ bs, ts = bs ++ as ∧ out = out0 ++ (bs.filter p).map f) ?_ ?_ ts out0 st ⟨rfl, [], rfl, by simp⟩
  · rintro a as out st' ⟨rfl, bs, e1, rfl⟩ C1 C0 k1 k0
    refine ⟨pn, step a (by rw [e1]; simp) C1 C0 (fun h => k1 _ _ ⟨rfl, bs ++ [a], by rw [e1]; simp, ?_⟩) fun h => k0 _ ⟨rfl, bs ++ [a], by rw [e1]; simp, ?_⟩⟩
    · simp [List.filter_append, h]
    · simp [List.filter_append, h]
  · rintro out st' ⟨rfl, bs, e1, rfl⟩
    rw [List.append_nil] at e1
    subst e1
    exact ⟨pn, k⟩
theorem eq_flip {x y : Str} : (!decide (x = y)) = decide (y ≠ x) := by
  by_cases e : x = y
  · subst e
    simp
  · rw [decide_eq_false e, decide_eq_true (p := y ≠ x) (fun z => e z.symm)]
    rfl
/-! a result that is a new list -/
theorem keep_cell {n0 m : Nat} {st' : Stt} {xs : List T} {K : T → Stt → Prop} (l : n0 ≤ m) (e : st'[m]? = some (.lst xs)) (h : (T.lst xs).pure = true) (q : K (.ref n0) (st'.take n0 ++ [.lst xs])) : keepF n0 st' (.ref m) K := by
  unfold keepF
  dsimp only
  rw [if_neg (by omega)]
  simp only [e]
  exact ⟨trivial, cell_pure (pureL h) _, q⟩
def NewL (m : Mn) (ts : List T) (st : Stt) (xs : List T) : Prop := ∀ Q : T → Stt → Prop, Q (.ref st.length) (st ++ [.lst xs]) → m ts st Q
theorem NewL.callF {m : Mn} {ts xs : List T} (h : NewL m ts st xs) (p : (T.lst xs).pure = true) (q : Q (.lst xs) st) : Vw.callF m ts st Q := by
  refine h _ (exit_cell (Nat.le_refl _) get_snoc ?_ ?_)
  · exact cell_pure (pureL p) _
  · rw [List.take_left]; exact q
theorem NewL.callT {m : Mn} {ts xs : List T} (h : NewL m ts st xs) (p : (T.lst xs).pure = true) (q : Q (.ref st.length) (st ++ [.lst xs])) : Vw.callT m ts st Q := by
  refine h _ (keep_cell (Nat.le_refl _) get_snoc p ?_)
  rw [List.take_left]
  exact q
/-! the fields of a Book -/
theorem lk_things {ys : List Str} {L : List SA} : (bookF ys L).lookup ("_things" : Str) = some (.lst (ys.map .str)) := by
  unfold bookF
  rw [List.lookup_cons, show (("_things" : Str) == "_things") = true by decide +kernel]
theorem lk_truths {ys : List Str} {L : List SA} : (bookF ys L).lookup ("_truths" : Str) = some (.dtt (kvT L)) := by
  unfold bookF
  rw [List.lookup_cons, show (("_truths" : Str) == "_things") = false by decide +kernel]
  dsimp only
  rw [List.lookup_cons, show (("_truths" : Str) == "_truths") = true by decide +kernel]
theorem lk_answers {ys : List Str} {L : List SA} : (bookF ys L).lookup ("_answers" : Str) = some (.lst ((sortA L).map aT)) := by
  unfold bookF
  rw [List.lookup_cons, show (("_answers" : Str) == "_things") = false by decide +kernel]
  dsimp only
  rw [List.lookup_cons, show (("_answers" : Str) == "_truths") = false by decide +kernel]
  dsimp only
  rw [List.lookup_cons, show (("_answers" : Str) == "_answers") = true by decide +kernel]
theorem lk_not {ys : List Str} {L : List SA} {f : Str} (h : f ∉ [("_things" : Str), "_truths", "_answers", "kept"]) : (bookF ys L).lookup f = none := by
  unfold bookF
  simp only [List.mem_cons, List.not_mem_nil, or_false, not_or] at h
  obtain ⟨h1, h2, h3, h4⟩ := h
  rw [List.lookup_cons, beq_eq_false_iff_ne.mpr h1]
  dsimp only
  rw [List.lookup_cons, beq_eq_false_iff_ne.mpr h2]
  dsimp only
  rw [List.lookup_cons, beq_eq_false_iff_ne.mpr h3]
  dsimp only
  rw [List.lookup_cons, beq_eq_false_iff_ne.mpr h4]
  rfl
theorem IsB.pure {B : Bk c} {t : T} {ys : List Str} {As : List SA} (h : IsB B t ys As) : t.pure = true := by
  obtain ⟨L, p, rfl⟩ := h
  exact objP
theorem IsB.isO {B : Bk c} {t : T} {ys : List Str} {As : List SA} (h : IsB B t ys As) : isO B.C st t := by
  obtain ⟨L, p, rfl⟩ := h
  exact ⟨rfl, trivial⟩
theorem IsB.no {B : Bk c} {t : T} {ys : List Str} {As : List SA} {f : Str} (h : IsB B t ys As) (k : f ∉ [("_things" : Str), "_truths", "_answers", "kept"]) : objW B.C st t fun fs => fs.lookup f = none := by
  obtain ⟨L, p, rfl⟩ := h
  exact ⟨rfl, lk_not k⟩
theorem IsB.obj {B : Bk c} {t : T} {ys : List Str} {As : List SA} (h : IsB B t ys As) {K : List (Str × T) → Prop} (k : ∀ L : List SA, L.Perm As → K (bookF ys L)) : objW B.C st t K := by
  obtain ⟨L, p, rfl⟩ := h
  exact ⟨rfl, k L p⟩
section
variable {B : Bk c} {t : T} {ys : List Str} {As : List SA}
/-- what is said of a pair -/
def saysT (As : List SA) (p : Gd.SP) : T := if p ∈ As.map (·.1) then .bl (look As p) else .non
theorem look_perm {L : List SA} (p : L.Perm As) (nd : (As.map (·.1)).Nodup) {z : Gd.SP} (h : z ∈ As.map (·.1)) : look L z = look As z := by
  obtain ⟨a, ma, rfl⟩ := List.mem_map.mp h
  rw [look_of nd ma, look_of ((p.map _).nodup_iff.mpr nd) (p.mem_iff.mpr ma)]
theorem says_val {L : List SA} (p : L.Perm As) (nd : (As.map (·.1)).Nodup) {z : Gd.SP} : (Vw.valP (kvT L) (keyP z)).getD .non = saysT As z := by
  unfold saysT
  by_cases h : z ∈ As.map (·.1)
  · rw [if_pos h, valP_look ((p.map _).mem_iff.mpr h), look_perm p nd h]
    rfl
  · rw [if_neg h]
    have e := valP_has (p := z) (L := L)
    rw [decide_eq_false fun m => h ((p.map _).mem_iff.mp m)] at e
    cases v : Vw.valP (kvT L) (keyP z) with
    | none => rfl
    | some x => rw [v] at e; cases e
theorem says_in (nd : (As.map (·.1)).Nodup) {z : Gd.SP} {b : Bool} : (saysT As z).toD = some .none ∧ (z, b) ∉ As ∨ ∃ x, (saysT As z).toD = some (.bool x) ∧ (x = b ↔ (z, b) ∈ As) := by
  unfold saysT
  by_cases h : z ∈ As.map (·.1)
  · rw [if_pos h]
    refine .inr ⟨look As z, rfl, ?_, fun m => look_of nd m⟩
    obtain ⟨a, ma, rfl⟩ := List.mem_map.mp h
    intro e
    rw [look_of nd ma] at e
    rw [← e]
    exact ma
  · rw [if_neg h]
    exact .inl ⟨rfl, fun m => h (List.mem_map_of_mem (f := (·.1)) m)⟩
theorem view_says {z : Gd.SP} : view st (saysT As z) = (saysT As z).toD := by
  unfold saysT
  split <;> rfl
theorem contains_call (h : IsB B t ys As) (nd : (As.map (·.1)).Nodup) {a : SA} (ok : OkA a) (q : Q (.bl (decide (a ∈ As))) st) : callF (mBook__contains__ B) [t, aT a] st Q := by
  refine ⟨rfl, ?_⟩
  unfold DBook__contains__
  walk_at "go"
  refine answer_call ok.x ok.y ok.ne ?_
  refine x_iteT rfl ?_
  walk_at "go"
  refine h.obj fun L p => ?_
  rw [lk_truths]
  walk_at "go"
  refine ⟨⟨Vw.spT a.1, x_dT2 (tk_spT _) trivial⟩, ?_⟩
  walk_at "go"
  refine pairOf_call ?_
  walk_at "go"
  refine x_dT2 (tk_spT _) ?_
  rw [says_val p nd]
  walk_at "go"
  refine x_ixT (xs := [.str a.1.1, .str a.1.2, .bl a.2]) rfl ?_
  have vs := view_says (st := st) (As := As) (z := a.1)
  rcases says_in nd (z := a.1) (b := a.2) with ⟨e, m⟩ | ⟨x, e, m⟩
  · refine x_eq (d := .none) (e := .bool a.2) (vs.trans e) rfl ⟨rfl, rfl⟩ ?_
    have m' : a ∉ As := m
    rw [show PyData.eqv .none (.bool a.2) = false from rfl]
    rw [decide_eq_false m'] at q
    exact ret_here rfl q
  · refine x_eq (d := .bool x) (e := .bool a.2) (vs.trans e) rfl ⟨rfl, rfl⟩ ?_
    have m' : x = a.2 ↔ a ∈ As := m
    have e2 : PyData.eqv (.bool x) (.bool a.2) = decide (a ∈ As) := by
      rw [← decide_eq_decide.mpr m']
      simp [PyData.eqv]
      rfl
    rw [e2]
    exact ret_here rfl q
theorem view_strs : view st (.lst (ys.map .str)) = some (.list (ys.map .str)) := by
  show (T.lst (ys.map .str)).toD = _
  simp only [T.toD]
  rw [toDL_strs]
  rfl
theorem shp_strs (ok : ∀ y ∈ ys, OkN 1 8 y) : Shp (.list (ys.map .str)) := by
  refine shp_list ?_ ?_
  · exact (toDL_all (xs := ys.map T.str) (fun t m => by
      obtain ⟨x, mx, rfl⟩ := List.mem_map.mp m
      exact (ok x mx).mx.dat)).elim fun ds h => by
        obtain ⟨e, c1, _⟩ := h
        rw [toDL_strs] at e
        cases e
        exact c1
  · exact (toDL_all (xs := ys.map T.str) (fun t m => by
      obtain ⟨x, mx, rfl⟩ := List.mem_map.mp m
      exact (ok x mx).mx.dat)).elim fun ds h => by
        obtain ⟨e, _, c1⟩ := h
        rw [toDL_strs] at e
        cases e
        exact c1
theorem any_str {x : Str} (h : x ∈ ys) : ((ys.map PyData.str).any fun z => PyData.eqv z (.str x)) = true := List.any_eq_true.mpr ⟨.str x, List.mem_map.mpr ⟨x, h, rfl⟩, by rw [eqv_str]; simp⟩
theorem eqv_strs : ∀ {xs zs : List Str}, PyData.eqv (.list (xs.map PyData.str)) (.list (zs.map PyData.str)) = decide (xs = zs) := by
  have main : ∀ {xs zs : List Str}, PyData.eqvAll (xs.map PyData.str) (zs.map PyData.str) = decide (xs = zs) := fun {xs} => by
    induction xs with
    | nil => intro zs; cases zs <;> simp [PyData.eqvAll]
    | cons x xs ih =>
      intro zs
      cases zs with
      | nil => simp [PyData.eqvAll]
      | cons z zs =>
        simp only [List.map_cons, PyData.eqvAll, ih, eqv_str, List.cons.injEq, Bool.decide_and]
  intro xs zs
  rw [PyData.eqv]
  exact main
theorem eqv_an {a b : SA} : PyData.eqv (Gd.an a) (Gd.an b) = decide (a = b) := by
  obtain ⟨⟨x, y⟩, t⟩ := a
  obtain ⟨⟨x', y'⟩, t'⟩ := b
  have e : PyData.eqv (.bool t) (.bool t') = decide (t = t') := by
    simp [PyData.eqv]
    rfl
  simp only [Gd.an, PyData.eqv, PyData.eqvAll, Bool.and_true, Prod.mk.injEq, Bool.decide_and] at *
  rw [e, Bool.and_assoc]
  congr 1
theorem eqv_ans : ∀ {xs zs : List SA}, PyData.eqv (.list (xs.map Gd.an)) (.list (zs.map Gd.an)) = decide (xs = zs) := by
  have main : ∀ {xs zs : List SA}, PyData.eqvAll (xs.map Gd.an) (zs.map Gd.an) = decide (xs = zs) := fun {xs} => by
    induction xs with
    | nil => intro zs; cases zs <;> simp [PyData.eqvAll]
    | cons x xs ih =>
      intro zs
      cases zs with
      | nil => simp [PyData.eqvAll]
      | cons z zs =>
        simp only [List.map_cons, PyData.eqvAll, ih, eqv_an, List.cons.injEq, Bool.decide_and]
  intro xs zs
  rw [PyData.eqv]
  exact main
theorem view_ans : view st (.lst (As.map aT)) = some (.list (As.map Gd.an)) := by
  show (T.lst (As.map aT)).toD = _
  simp only [T.toD]
  rw [aT_toD]
  rfl
end
end
end LW

/-! steps of the later operators -/
namespace Vw
open PySem PySem.Spec PyProof.Rows L2 Gd
section
variable {c : Cf} {st : Stt} {Q : T → Stt → Prop} {n m : Nat} {xs ys : List T}
theorem y_eRev (e : EX c) : ∀ env st Q, (e.w env st fun t st1 => asL st1 t fun xs _ => Q (.lst xs.reverse) st1) → (eRev e : EX c).w env st Q := fun _ _ _ h => h
theorem v_isB {p q : Bool} : (oIsB : O2 c).w st (.bl p) (.bl q) Q = Q (.bl (decide (p = q))) st := rfl
theorem y_eIsiB (C : Addr) (ic : C8.InsC c.K C) (e : EX c) (n : String) (hn : n ∈ ["int", "bool", "str", "list", "tuple", "dict"]) (ni : PySem.W.kitOne c.K (.ref C) (.type n) = some false) : ∀ env st Q, (e.w env st fun t st1 => (isO C st1 t ∧ Q (.bl false) st1) ∨ (kindS st1 t ∈ ["NoneType", "bool", "int", "str", "list", "tuple", "dict"] ∧ Q (.bl (isA (kindS st1 t) n)) st1)) → (eIsiB C ic e n hn ni : EX c).w env st Q := fun _ _ _ h => h
theorem v_addC : (oAddC : O2 c).w st (.lst xs) (.lst ys) Q = (xs.length + ys.length ≤ big ∧ refsInL (fun m => decide (m < st.length)) (xs ++ ys) = true ∧ Q (.ref st.length) (st ++ [.lst (xs ++ ys)])) := rfl
theorem x_addC (h : st[n]? = some (.lst xs)) (z : xs.length + ys.length ≤ big) (lo : refsInL (fun m => decide (m < st.length)) (xs ++ ys) = true) (q : Q (.ref st.length) (st ++ [.lst (xs ++ ys)])) : (oAddC : O2 c).w st (.ref n) (.lst ys) Q := by
  simp only [oAddC, asL, h]
  exact ⟨z, lo, q⟩
end
end Vw

/-! steps of the walk -/
local macro_rules
  | `(tactic| walk_at "ko1") => `(tactic| first
  | rw [if_pos (rfl : true = true)]
  | rw [if_neg Bool.false_ne_true]
  | with_reducible apply Vw.y_eOp
  | with_reducible apply Vw.y_eCB
  | with_reducible apply Vw.y_aC
  | with_reducible apply Vw.y_aN
  | with_reducible apply Vw.y_eI
  | with_reducible apply Vw.y_eS
  | with_reducible apply Vw.y_eB
  | with_reducible apply Vw.y_eN
  | ((with_reducible apply Vw.x_eV); rfl)
  | with_reducible apply Vw.y_eTup
  | with_reducible apply Vw.y_eLst
  | with_reducible apply Vw.y_eLstC
  | with_reducible apply Vw.y_eDK
  | with_reducible apply Vw.y_eDKC
  | with_reducible apply Vw.y_eDTC
  | with_reducible apply Vw.y_eUn
  | with_reducible apply Vw.y_tE
  | with_reducible apply Vw.y_tTe
  | with_reducible apply Vw.y_tNo
  | with_reducible apply Vw.y_tAn
  | with_reducible apply Vw.y_tOrr
  | with_reducible apply Vw.y_tY
  | with_reducible apply Vw.y_eAnd
  | with_reducible apply Vw.y_eOr
  | with_reducible apply Vw.y_eNot
  | with_reducible apply Vw.y_eIf
  | with_reducible apply Vw.y_eChain
  | with_reducible apply Vw.y_sNx
  | with_reducible apply Vw.y_sSeq
  | with_reducible apply Vw.y_sNever
  | with_reducible apply Vw.y_sBrk
  | with_reducible apply Vw.y_sCnt
  | with_reducible apply Vw.y_sDrop
  | with_reducible apply Vw.y_sRet
  | with_reducible apply Vw.y_sRetN
  | with_reducible apply Vw.y_sIf
  | with_reducible apply Vw.y_gN
  | with_reducible apply Vw.y_gsN
  | with_reducible apply Vw.y_gsC
  | with_reducible apply Vw.y_gT
  | with_reducible apply Vw.y_sAsg
  | with_reducible apply Vw.y_sPar
  | with_reducible apply Vw.y_sWh
  | with_reducible apply Vw.y_sFor
  | with_reducible apply Vw.y_eLc
  | with_reducible apply Vw.y_iA
  | with_reducible apply Vw.y_iR1
  | with_reducible apply Vw.y_iR2
  | with_reducible apply Vw.y_iEn
  | with_reducible apply Vw.y_iZi
  | with_reducible apply Vw.y_pN
  | with_reducible apply Vw.y_pS
  | with_reducible apply Vw.y_eSl
  | with_reducible apply Vw.y_eBM
  | with_reducible apply Vw.y_eBM0
  | with_reducible apply Vw.y_mAppend
  | with_reducible apply Vw.y_mExtend
  | with_reducible apply Vw.y_mClear
  | with_reducible apply Vw.y_mReverse
  | with_reducible apply Vw.y_mPop
  | with_reducible apply Vw.y_mPopAt
  | with_reducible apply Vw.y_mS0
  | with_reducible apply Vw.y_mJoin
  | with_reducible apply Vw.y_hN
  | with_reducible apply Vw.y_hsN
  | with_reducible apply Vw.y_hsC
  | with_reducible apply Vw.y_hT
  | with_reducible apply Vw.y_sAsH
  | with_reducible apply Vw.y_eCl
  | with_reducible apply Vw.y_eClK
  | with_reducible apply Vw.y_eDGet
  | with_reducible apply Vw.y_eDGet1
  | with_reducible apply Vw.y_eDGet2
  | with_reducible apply Vw.y_eDIn
  | with_reducible apply Vw.y_eDNin
  | with_reducible apply Vw.y_sDPt
  | with_reducible apply Vw.y_eIsi
  | with_reducible apply Vw.y_eIsi2
  | with_reducible apply Vw.y_eLc2
  | with_reducible apply Vw.y_eDcT
  | with_reducible apply Vw.y_eFld
  | with_reducible apply Vw.y_sFldC
  | with_reducible apply Vw.y_eMk
  | with_reducible apply Vw.y_eMkK
  | with_reducible apply Vw.y_eMt
  | with_reducible apply Vw.y_eIsiO
  | with_reducible apply Vw.y_eLcC
  | with_reducible apply Vw.y_eClT
  | with_reducible apply Vw.y_eMtT
  | with_reducible apply Vw.y_iOwnX
  | with_reducible apply Vw.y_eDisp
  | with_reducible apply Vw.y_eSortV
  | with_reducible apply Vw.y_NoLen
  | with_reducible apply Vw.y_NoList
  | with_reducible apply Vw.y_NoListC
  | with_reducible apply Vw.y_NoTuple
  | with_reducible apply Vw.y_NoLenO
  | with_reducible apply Vw.y_NoListO
  | with_reducible apply Vw.y_NoListOC
  | with_reducible apply Vw.y_NoListD
  | with_reducible apply Vw.y_eRev
  | with_reducible apply Vw.y_eIsiB
  | rw [Vw.v_isB]
  | rw [Vw.v_addC]
  | rw [Vw.v_oII]
  | rw [Vw.v_oIB]
  | rw [Vw.v_oIC]
  | rw [Vw.v_oNeg]
  | rw [Vw.v_addI]
  | rw [Vw.v_addS]
  | rw [Vw.v_addT]
  | rw [Vw.v_addL]
  | rw [Vw.v_mulI]
  | rw [Vw.v_mulL]
  | rw [Vw.v_intI]
  | rw [Vw.v_intB]
  | rw [Vw.v_absI]
  | rw [Vw.v_repS]
  | rw [Vw.v_asL]
  | rw [Vw.v_anyL]
  | rw [Vw.v_anyT]
  | rw [Vw.v_anyE]
  | rw [Vw.v_anyS]
  | rw [Vw.v_isN]
  | rw [Vw.v_notN]
  | dsimp only)
local macro_rules
  | `(tactic| walk_at "ko") => `(tactic| repeat walk_at "ko1")
/-! leads, ends_of, weight, told -/
namespace LW
open PySem PySem.Spec PyProof.Rows L2 Gd Vw
open PySem.W (dataLe AllAlike Sortable keyToks keyToksAll dataLt)

section
variable {c : Cf} {n : Nat} {st : Stt} {Q : T → Stt → Prop} {B : Bk c} {t : T} {ys : List Str} {As : List SA} {m : Nat}
theorem atI_nat {α : Type} {xs : List α} {j : Nat} {x : α} (h : xs[j]? = some x) : atI xs (j : Nat) = some x := by
  have l := (List.getElem?_eq_some_iff.mp h).1
  unfold atI ixN
  rw [if_pos (by omega : (0 : Int) ≤ (j : Nat))]
  simp [l]
  exact (List.getElem?_eq_some_iff.mp h).2
theorem atI_0 {α : Type} {x : α} {xs : List α} : atI (x :: xs) 0 = some x := atI_nat (j := 0) rfl
/-- whom an answer leads from and to -/
def leadP (a : SA) : Gd.SP := if a.2 = true then (a.1.1, a.1.2) else (a.1.2, a.1.1)
theorem leads_call {a : SA} (q : Q (Vw.spT (leadP a)) st) : callF (m_law_leads c) [aT a] st Q := by
  obtain ⟨⟨x, y⟩, b⟩ := a
  refine ⟨rfl, ?_⟩
  unfold D_law_leads aT
  walk_at "ko"
  refine x_ixT rfl ?_
  cases b
  · refine x_iteF rfl ?_
    walk_at "ko"
    refine x_ixT rfl ?_
    walk_at "ko"
    refine x_ixT rfl ?_
    walk_at "ko"
    refine ⟨(by show 2 ≤ 100000; decide), ?_⟩
    exact ret_here rfl q
  · refine x_iteT rfl ?_
    walk_at "ko"
    refine x_ixT rfl ?_
    walk_at "ko"
    refine x_ixT rfl ?_
    walk_at "ko"
    refine ⟨(by show 2 ≤ 100000; decide), ?_⟩
    exact ret_here rfl q
theorem ends_call {a : SA} (q : Q (Vw.spT (leadP a)) st) : callF (mends_of c) [aT a] st Q := by
  obtain ⟨⟨x, y⟩, b⟩ := a
  refine ⟨rfl, ?_⟩
  unfold Dends_of aT
  walk_at "ko"
  refine ⟨rfl, ?_⟩
  walk_at "ko"
  refine ⟨rfl, ?_⟩
  walk_at "ko"
  cases b
  · refine x_iteF rfl ?_
    walk_at "ko"
    refine ⟨(by show 2 ≤ 100000; decide), ?_⟩
    exact ret_here rfl q
  · refine x_iteT rfl ?_
    walk_at "ko"
    refine ⟨(by show 2 ≤ 100000; decide), ?_⟩
    exact ret_here rfl q
def pA : T → Bool | .tup [_, _, .bl b] => b | _ => false
def betN (W : List SA) : Nat := (((W.map aT).filter pA).map id).length
def wT (W : List SA) : T := .tup [.int ((betN W : Nat) - ((W.length : Nat) - (betN W : Nat))), .int (betN W : Nat)]
theorem weight_call {W : List SA} (q : Q (wT W) st) : callF (m_law_weight c) [.lst (W.map aT)] st Q := by
  refine ⟨rfl, ?_⟩
  unfold D_law_weight
  walk_at "ko"
  refine lc_pure pA id (fun a ma C1 C0 k1 k0 => ?_) trivial ?_
  · obtain ⟨x, mx, rfl⟩ := List.mem_map.mp ma
    walk_at "ko"
    refine x_ixT rfl ?_
    cases e : x.2
    · refine x_iteF rfl ?_
      exact k0 e
    · refine x_iteT rfl ?_
      walk_at "ko"
      exact k1 e
  walk_at "ko"
  refine ⟨(by show 2 ≤ 100000; decide), ?_⟩
  refine ret_here rfl ?_
  have e : ((List.map aT W).length : Int) = (W.length : Nat) := by rw [List.length_map]
  rw [e]
  exact q
theorem weightOf_call {W : List SA} (q : Q (wT W) st) : callF (mweight_of c) [.lst (W.map aT)] st Q := by
  refine ⟨rfl, ?_⟩
  unfold Dweight_of
  walk_at "ko"
  refine lc_pure pA id (fun a ma C1 C0 k1 k0 => ?_) trivial ?_
  · obtain ⟨x, mx, rfl⟩ := List.mem_map.mp ma
    walk_at "ko"
    refine x_ixT rfl ?_
    cases e : x.2
    · refine x_iteF rfl ?_
      exact k0 e
    · refine x_iteT rfl ?_
      walk_at "ko"
      exact k1 e
  walk_at "ko"
  refine ⟨(by show 2 ≤ 100000; decide), ?_⟩
  refine ret_here rfl ?_
  have e : ((List.map aT W).length : Int) = (W.length : Nat) := by rw [List.length_map]
  rw [e]
  exact q
def throughL (a : SA) (W : List SA) : List T := .str (leadP a).1 :: W.map fun b => T.str (leadP b).2
def thrT (a : SA) (W : List SA) : List T := [T.str (leadP a).1] ++ (((W.map aT).filter fun _ => true).map fun t => match t with | .tup [.str x, .str y, .bl b] => T.str (leadP ((x, y), b)).2 | t => t)
theorem thrT_eq (a : SA) (W : List SA) : thrT a W = throughL a W := by
  unfold thrT throughL
  rw [List.filter_eq_self.mpr (fun _ _ => rfl), List.map_map]
  rfl
theorem through_pure (a : SA) (W : List SA) : (T.lst (throughL a W)).pure = true := pure_lst fun t mt => by
  rcases List.mem_cons.mp mt with rfl | mt
  · rfl
  obtain ⟨b, _, rfl⟩ := List.mem_map.mp mt
  rfl
theorem told_call {a : SA} {W : List SA} (l : W.length ≤ 1000) (q : Q (.lst (throughL a (a :: W))) st) : callF (m_law_told c) [.lst ((a :: W).map aT)] st Q := by
  refine ⟨rfl, ?_⟩
  unfold D_law_told
  walk_at "ko"
  refine x_ixL (t := aT a) atI_0 ?_
  walk_at "ko"
  refine leads_call ?_
  walk_at "ko"
  refine x_ixT rfl ?_
  walk_at "ko"
  refine ⟨(by show 1 ≤ 100000; decide), ?_⟩
  walk_at "ko"
  refine lc_pure (fun _ => true) (fun t => match t with | .tup [.str x, .str y, .bl b] => T.str (leadP ((x, y), b)).2 | t => t) (fun a ma C1 C0 k1 k0 => ?_) trivial ?_
  · obtain ⟨x, mx, rfl⟩ := List.mem_map.mp ma
    walk_at "ko"
    refine leads_call ?_
    walk_at "ko"
    refine x_ixT (t := T.str (leadP x).2) rfl ?_
    exact k1 rfl
  walk_at "ko"
  have e := thrT_eq a (a :: W)
  unfold thrT at e
  refine ⟨?_, ?_⟩
  · have := congrArg List.length e
    rw [List.length_append] at this
    rw [this]
    show (throughL a (a :: W)).length ≤ 100000
    simp [throughL]
    omega
  · rw [e]
    exact ret_here (through_pure _ _) q
theorem through_call {a : SA} {W : List SA} (l : W.length ≤ 1000) (q : Q (.ref st.length) (st ++ [.lst (throughL a (a :: W))])) : callT (mthings_through c) [.lst ((a :: W).map aT)] st Q := by
  refine ⟨rfl, ?_⟩
  unfold Dthings_through
  walk_at "ko"
  refine x_ixL (t := aT a) atI_0 ?_
  walk_at "ko"
  refine ends_call ?_
  walk_at "ko"
  refine x_ixT rfl ?_
  walk_at "ko"
  refine ⟨(by show 1 ≤ 100000; decide), ?_⟩
  walk_at "ko"
  refine lc_pure (fun _ => true) (fun t => match t with | .tup [.str x, .str y, .bl b] => T.str (leadP ((x, y), b)).2 | t => t) (fun a ma C1 C0 k1 k0 => ?_) trivial ?_
  · obtain ⟨x, mx, rfl⟩ := List.mem_map.mp ma
    walk_at "ko"
    refine ends_call ?_
    walk_at "ko"
    refine x_ixT (t := T.str (leadP x).2) rfl ?_
    exact k1 rfl
  walk_at "ko"
  have e := thrT_eq a (a :: W)
  unfold thrT at e
  refine ⟨?_, ?_, ?_⟩
  · have := congrArg List.length e
    rw [List.length_append] at this
    rw [this]
    show (throughL a (a :: W)).length ≤ 100000
    simp [throughL]
    omega
  · rw [e]
    exact cell_pure (pureL (through_pure _ _)) _
  · rw [e]
    refine keep_cell (Nat.le_refl _) get_snoc (through_pure _ _) ?_
    rw [List.take_left]
    exact q
end
end LW

/-! which texts repr gives -/
namespace LW
open PySem PySem.Spec PyProof.Rows L2 Gd Vw
def ch (d : PyData) : List Nat := d.shown.cps.toList
theorem ch_none : ch .none = [78, 111, 110, 101] := by
  show (PyData.none).shown.cps.toList = _
  rw [PyData.shown.eq_1]
  rfl
theorem ch_true : ch (.bool true) = [84, 114, 117, 101] := by
  show (PyData.bool true).shown.cps.toList = _
  rw [PyData.shown.eq_2]
  rfl
theorem ch_false : ch (.bool false) = [70, 97, 108, 115, 101] := by
  show (PyData.bool false).shown.cps.toList = _
  rw [PyData.shown.eq_2]
  rfl
theorem fold_app (q : Nat) : ∀ (l : List Nat) (acc : Array Nat), (l.foldl (fun out c => out ++ (Builtin.Str.reprChar q c).toArray) acc).toList = acc.toList ++ l.flatMap (Builtin.Str.reprChar q)
  | [], acc => by simp
  | c :: r, acc => by
    rw [List.foldl_cons, fold_app q r]
    simp
theorem ch_str (x : Str) : ch (.str x) = reprQuote x :: x.cps.toList.flatMap (Builtin.Str.reprChar (reprQuote x)) ++ [reprQuote x] := by
  show (PyData.str x).shown.cps.toList = _
  rw [PyData.shown.eq_4]
  unfold reprText
  rw [Array.toList_push, ← Array.foldl_toList, fold_app]
  rfl
theorem quote_or (x : Str) : reprQuote x = 34 ∨ reprQuote x = 39 := by
  unfold reprQuote
  split
  · exact .inl rfl
  · exact .inr rfl
theorem plain_char : ∀ k : Fin 26, Builtin.Str.reprChar 39 (97 + k.val) = [97 + k.val] := by decide +kernel
theorem OkN.char {lo hi : Nat} {x : Str} (h : OkN lo hi x) {k : Nat} (m : k ∈ x.cps.toList) : 97 ≤ k ∧ k ≤ 122 := h.cs k m
theorem ch_name {lo hi : Nat} {x : Str} (h : OkN lo hi x) : ch (.str x) = 39 :: x.cps.toList ++ [39] := by
  have q : reprQuote x = 39 := by
    unfold reprQuote
    rw [if_neg]
    intro e
    rw [Bool.and_eq_true] at e
    have m : 39 ∈ x.cps.toList := by
      have := e.1
      rw [Array.contains_iff_mem] at this
      exact Array.mem_toList_iff.mpr this
    have := h.char m
    omega
  rw [ch_str, q]
  congr 2
  have : ∀ l : List Nat, (∀ k ∈ l, 97 ≤ k ∧ k ≤ 122) → l.flatMap (Builtin.Str.reprChar 39) = l := fun l => by
    induction l with
    | nil => intro _; rfl
    | cons k l ih =>
      intro hl
      obtain ⟨a, b⟩ := hl k List.mem_cons_self
      have e := plain_char ⟨k - 97, by omega⟩
      have e2 : 97 + (k - 97) = k := by omega
      simp only [e2] at e
      rw [List.flatMap_cons, e, ih fun j m => hl j (List.mem_cons_of_mem _ m)]
      rfl
  exact this _ fun k m => h.char m
theorem text_from : ∀ (ts : List Str) (k : Nat) (acc : Str), ∃ r, (textFrom k acc ts).cps.toList = acc.cps.toList ++ r
  | [], _, acc => ⟨[], by simp [textFrom]⟩
  | t :: ts, k, acc => by
    obtain ⟨r, e⟩ := text_from ts (k + 1) (acc ++ (if k > 0 then ", " else "" : String) ++ t)
    refine ⟨((if k > 0 then ", " else "" : String) : Str).cps.toList ++ t.cps.toList ++ r, ?_⟩
    unfold textFrom
    rw [e, app_toList, app_toList]
    simp
theorem ch_list (ds : List PyData) : ∃ r, ch (.list ds) = 91 :: r := by
  show ∃ r, (PyData.list ds).shown.cps.toList = _
  rw [PyData.shown.eq_5]
  unfold listText
  rw [app_toList]
  obtain ⟨r, e⟩ := text_from (PyData.shownAll ds) 0 "["
  rw [e]
  exact ⟨_, rfl⟩
theorem ch_dict (ds : List (PyData × PyData)) : ∃ r, ch (.dict ds) = 123 :: r := by
  show ∃ r, (PyData.dict ds).shown.cps.toList = _
  rw [PyData.shown.eq_7]
  unfold dictText
  rw [app_toList, app_toList]
  exact ⟨_, rfl⟩
/-- what follows the first comma of a tuple -/
def more : List PyData → List Nat
  | [] => [41]
  | [d] => ch d ++ [41]
  | d :: e :: r => ch d ++ 44 :: 32 :: more (e :: r)
theorem more1 (d : PyData) : more [d] = ch d ++ [41] := rfl
theorem more2 (d e : PyData) (r : List PyData) : more (d :: e :: r) = ch d ++ 44 :: 32 :: more (e :: r) := rfl
theorem join_more : ∀ (d : PyData) (r : List PyData), (Str.join ", " (PyData.shownAll (d :: r))).cps.toList ++ [41] = more (d :: r)
  | d, [] => by
    simp only [PyData.shownAll]
    rfl
  | d, e :: r => by
    have ih := join_more e r
    simp only [PyData.shownAll] at ih ⊢
    show (d.shown ++ ", " ++ Str.join ", " (e.shown :: PyData.shownAll r)).cps.toList ++ [41] = ch d ++ 44 :: 32 :: more (e :: r)
    rw [← ih, app_toList, app_toList]
    show (d.shown.cps.toList ++ [44, 32] ++ _) ++ [41] = _
    simp [ch]
theorem ch_tup0 : ch (.tuple []) = [40, 41] := by
  show (PyData.tuple []).shown.cps.toList = _
  rw [PyData.shown.eq_6]
  simp only [PyData.shownAll]
  rfl
theorem ch_tup1 (d : PyData) : ch (.tuple [d]) = 40 :: ch d ++ [44, 41] := by
  show (PyData.tuple [d]).shown.cps.toList = _
  rw [PyData.shown.eq_6]
  simp only [PyData.shownAll]
  unfold tupleText
  rw [app_toList, app_toList]
  rfl
theorem ch_tup (d e : PyData) (r : List PyData) : ch (.tuple (d :: e :: r)) = 40 :: ch d ++ 44 :: 32 :: more (e :: r) := by
  show (PyData.tuple (d :: e :: r)).shown.cps.toList = _
  rw [PyData.shown.eq_6]
  have h := join_more d (e :: r)
  unfold tupleText
  have l : ((PyData.shownAll (d :: e :: r)).length == 1) = false := by
    simp only [PyData.shownAll]
    rfl
  rw [l, app_toList, app_toList]
  show [40] ++ _ ++ [41] = _
  rw [List.append_assoc, h]
  show 40 :: (ch d ++ 44 :: 32 :: more (e :: r)) = _
  rfl
theorem int_repr_ne (i : Int) : i.repr ≠ "" := by
  cases i with
  | ofNat n =>
    intro h
    have : Nat.repr n = "" := h
    have h2 := Nat.toDigits_ne_nil (b := 10) (n := n)
    have h3 := congrArg String.toList this
    rw [Nat.toList_repr] at h3
    exact h2 h3
  | negSucc n =>
    intro h
    have h3 := congrArg String.toList h
    simp [Int.repr] at h3
theorem ch_ne (d : PyData) : ch d ≠ [] := by
  intro h
  cases d with
  | none => rw [ch_none] at h; cases h
  | bool b => cases b <;> simp [ch_true, ch_false] at h
  | int i =>
    have : (PyData.int i).shown.cps.toList = [] := h
    rw [PyData.shown.eq_3] at this
    have l := congrArg List.length this
    rw [signs_ofString] at l
    simp at l
    exact int_repr_ne i l
  | str x => rw [ch_str] at h; cases h
  | list ds => obtain ⟨r, e⟩ := ch_list ds; rw [e] at h; cases h
  | dict ds => obtain ⟨r, e⟩ := ch_dict ds; rw [e] at h; cases h
  | tuple ds =>
    match ds with
    | [] => rw [ch_tup0] at h; cases h
    | [d] => rw [ch_tup1] at h; cases h
    | d :: e :: r => rw [ch_tup] at h; cases h
theorem tup_head (ds : List PyData) : ∃ r, ch (.tuple ds) = 40 :: r := by
  match ds with
  | [] => exact ⟨_, ch_tup0⟩
  | [d] => exact ⟨_, ch_tup1 d⟩
  | d :: e :: r => exact ⟨_, ch_tup d e r⟩
theorem head39 {d : PyData} {r : List Nat} (h : ch d = 39 :: r) : ∃ x, d = .str x := by
  cases d with
  | str x => exact ⟨x, rfl⟩
  | none => rw [ch_none] at h; simp at h
  | bool b => cases b <;> simp [ch_true, ch_false] at h
  | int i => exact absurd (show 39 ∈ ch (.int i) by rw [h]; exact List.mem_cons_self) (shown_int_free' ⟨by decide, by decide⟩ i)
  | list ds => obtain ⟨s, e⟩ := ch_list ds; rw [e] at h; simp at h
  | dict ds => obtain ⟨s, e⟩ := ch_dict ds; rw [e] at h; simp at h
  | tuple ds => obtain ⟨s, e⟩ := tup_head ds; rw [e] at h; simp at h
theorem head40 {d : PyData} {r : List Nat} (h : ch d = 40 :: r) : ∃ ds, d = .tuple ds := by
  cases d with
  | tuple ds => exact ⟨ds, rfl⟩
  | none => rw [ch_none] at h; simp at h
  | bool b => cases b <;> simp [ch_true, ch_false] at h
  | int i => exact absurd (show 40 ∈ ch (.int i) by rw [h]; exact List.mem_cons_self) (shown_int_free' ⟨by decide, by decide⟩ i)
  | list ds => obtain ⟨s, e⟩ := ch_list ds; rw [e] at h; simp at h
  | dict ds => obtain ⟨s, e⟩ := ch_dict ds; rw [e] at h; simp at h
  | str x =>
    rw [ch_str] at h
    have := (List.cons.inj h).1
    rcases quote_or x with q | q <;> rw [q] at this <;> cases this
theorem headB {d : PyData} {b : Bool} {k : Nat} {r s : List Nat} (h : ch d ++ s = k :: r) (hk : k = if b = true then 84 else 70) : d = .bool b := by
  have hb : ch d ≠ [] := ch_ne d
  obtain ⟨j, u, e⟩ : ∃ j u, ch d = j :: u := by
    cases e : ch d with
    | nil => exact absurd e hb
    | cons j u => exact ⟨j, u, rfl⟩
  rw [e] at h
  obtain rfl : j = k := (List.cons.inj h).1
  cases d with
  | bool b' =>
    cases b'
    · rw [ch_false] at e
      have e2 := (List.cons.inj e).1.trans hk
      cases b
      · rfl
      · simp at e2
    · rw [ch_true] at e
      have e2 := (List.cons.inj e).1.trans hk
      cases b
      · simp at e2
      · rfl
  | none =>
    rw [ch_none] at e
    have e2 := (List.cons.inj e).1.trans hk
    cases b <;> simp at e2
  | int i =>
    refine absurd (show j ∈ ch (.int i) by rw [e]; exact List.mem_cons_self) (shown_int_free' ?_ i)
    cases b
    · rw [show j = 70 from hk]; decide
    · rw [show j = 84 from hk]; decide
  | str x =>
    rw [ch_str] at e
    have := (List.cons.inj e).1
    have this := this.trans hk
    rcases quote_or x with q | q <;> rw [q] at this <;> cases b <;> simp at this
  | list ds =>
    obtain ⟨s, e1⟩ := ch_list ds
    rw [e1] at e
    have e2 := (List.cons.inj e).1.trans hk
    cases b <;> simp at e2
  | dict ds =>
    obtain ⟨s, e1⟩ := ch_dict ds
    rw [e1] at e
    have e2 := (List.cons.inj e).1.trans hk
    cases b <;> simp at e2
  | tuple ds =>
    obtain ⟨s, e1⟩ := tup_head ds
    rw [e1] at e
    have e2 := (List.cons.inj e).1.trans hk
    cases b <;> simp at e2
theorem split39 : ∀ {x y r s : List Nat}, (∀ k ∈ x, k ≠ 39) → (∀ k ∈ y, k ≠ 39) → x ++ 39 :: r = y ++ 39 :: s → x = y ∧ r = s
  | [], [], _, _, _, _, h => ⟨rfl, (List.cons.inj h).2⟩
  | [], k :: y, _, _, _, hy, h => absurd (List.cons.inj h).1.symm (hy k List.mem_cons_self)
  | k :: x, [], _, _, hx, _, h => absurd (List.cons.inj h).1 (hx k List.mem_cons_self)
  | k :: x, j :: y, _, _, hx, hy, h => by
    obtain ⟨e1, e2⟩ := List.cons.inj h
    obtain ⟨e3, e4⟩ := split39 (fun i m => hx i (List.mem_cons_of_mem _ m)) (fun i m => hy i (List.mem_cons_of_mem _ m)) e2
    exact ⟨by rw [e1, e3], e4⟩
/-- a name, if a text -/
def NmD (d : PyData) : Prop := ∀ x, d = .str x → OkN 1 8 x
theorem str_of_cps {x y : Str} (h : x.cps.toList = y.cps.toList) : x = y := by
  obtain ⟨a⟩ := x
  obtain ⟨b⟩ := y
  have : a = b := Array.toList_inj.mp h
  rw [this]
theorem nm_head {d : PyData} {y : Str} {r s : List Nat} (hd : NmD d) (hy : OkN 1 8 y) (h : ch d ++ r = 39 :: (y.cps.toList ++ 39 :: s)) : d = .str y ∧ r = s := by
  obtain ⟨j, u, e⟩ : ∃ j u, ch d = j :: u := by
    cases e : ch d with
    | nil => exact absurd e (ch_ne d)
    | cons j u => exact ⟨j, u, rfl⟩
  have h2 := h
  rw [e] at h2
  obtain rfl : j = 39 := (List.cons.inj h2).1
  obtain ⟨x, rfl⟩ := head39 e
  have hx := hd x rfl
  rw [ch_name hx] at h
  have h3 := (List.cons.inj (show 39 :: (x.cps.toList ++ [39] ++ r) = 39 :: (y.cps.toList ++ 39 :: s) from h)).2
  rw [List.append_assoc] at h3
  obtain ⟨e1, e2⟩ := split39 (fun k m => by have := hx.char m; omega) (fun k m => by have := hy.char m; omega) h3
  exact ⟨by rw [str_of_cps e1], e2⟩
theorem ch_an {x y : Str} (hx : OkN 1 8 x) (hy : OkN 1 8 y) (b : Bool) : ch (.tuple [.str x, .str y, .bool b]) = 40 :: 39 :: (x.cps.toList ++ 39 :: 44 :: 32 :: 39 :: (y.cps.toList ++ 39 :: 44 :: 32 :: (ch (.bool b) ++ [41]))) := by
  rw [ch_tup, ch_name hx]
  show _ = _
  rw [more2, more1]
  rw [ch_name hy]
  simp
theorem repr_an {d : PyData} {x y : Str} {b : Bool} (hx : OkN 1 8 x) (hy : OkN 1 8 y) (hd : ∀ p q r, d = .tuple (p :: q :: r) → NmD p ∧ NmD q) (hd1 : ∀ p, d = .tuple [p] → NmD p) (h : d.shown = (PyData.tuple [.str x, .str y, .bool b]).shown) : d = .tuple [.str x, .str y, .bool b] := by
  have h : ch d = ch (.tuple [.str x, .str y, .bool b]) := by unfold ch; rw [h]
  rw [ch_an hx hy b] at h
  obtain ⟨ds, rfl⟩ := head40 h
  match ds with
  | [] => rw [ch_tup0] at h; simp at h
  | [p] =>
    rw [ch_tup1] at h
    obtain ⟨rfl, e⟩ := nm_head (hd1 p rfl) hx (List.cons.inj h).2
    simp at e
  | p :: q :: r =>
    obtain ⟨np, nq⟩ := hd p q r rfl
    rw [ch_tup] at h
    obtain ⟨rfl, e⟩ := nm_head np hx (List.cons.inj h).2
    have e := (List.cons.inj (List.cons.inj e).2).2
    match r with
    | [] =>
      rw [more1] at e
      obtain ⟨rfl, e5⟩ := nm_head nq hy e
      simp at e5
    | z :: r =>
      rw [more2] at e
      obtain ⟨rfl, e5⟩ := nm_head nq hy e
      have e6 := (List.cons.inj (List.cons.inj e5).2).2
      cases r with
      | nil =>
        rw [more1] at e6
        have ez : z = .bool b := by
          cases b
          · rw [ch_false] at e6
            exact headB e6 rfl
          · rw [ch_true] at e6
            exact headB e6 rfl
        rw [ez]
      | cons w r =>
        rw [more2] at e6
        have ez : z = .bool b := by
          cases b
          · rw [ch_false] at e6
            exact headB e6 rfl
          · rw [ch_true] at e6
            exact headB e6 rfl
        rw [ez] at e6
        have := List.append_cancel_left e6
        simp at this
end LW

/-! is_answer of any datum, a Book and any datum -/
namespace LW
open PySem PySem.Spec PyProof.Rows L2 Gd Vw
open PySem.W (dataLe AllAlike Sortable keyToks keyToksAll dataLt)

section
variable {c : Cf} {n : Nat} {st : Stt} {Q : T → Stt → Prop} {B : Bk c} {t : T} {ys : List Str} {As : List SA} {m : Nat}
/-- a name, if a text -/
def NmT (t : T) : Prop := ∀ x, t = .str x → OkN 1 8 x
theorem kind_data {d : PyData} (h : t.toD = some d) : kindS st t ∈ ["NoneType", "bool", "int", "str", "list", "tuple", "dict"] := by
  cases t with
  | non => show "NoneType" ∈ _; decide
  | bl b => show "bool" ∈ _; decide
  | int i => show "int" ∈ _; decide
  | str x => show "str" ∈ _; decide
  | lst xs => show "list" ∈ _; decide
  | tup xs => show "tuple" ∈ _; decide
  | dct xs => show "dict" ∈ _; decide
  | _ => simp [T.toD] at h
theorem kind_str {d : PyData} (h : t.toD = some d) (ns : ∀ x, t ≠ .str x) : isA (kindS st t) "str" = false := by
  cases t with
  | str x => exact absurd rfl (ns x)
  | non => show isA "NoneType" "str" = false; decide
  | bl b => show isA "bool" "str" = false; decide
  | int i => show isA "int" "str" = false; decide
  | lst xs => show isA "list" "str" = false; decide
  | tup xs => show isA "tuple" "str" = false; decide
  | dct xs => show isA "dict" "str" = false; decide
  | _ => simp [T.toD] at h
theorem kind_tup {d : PyData} (h : t.toD = some d) (ns : ∀ xs, t ≠ .tup xs) : isA (kindS st t) "tuple" = false := by
  cases t with
  | tup x => exact absurd rfl (ns x)
  | non => show isA "NoneType" "tuple" = false; decide
  | bl b => show isA "bool" "tuple" = false; decide
  | int i => show isA "int" "tuple" = false; decide
  | lst xs => show isA "list" "tuple" = false; decide
  | str xs => show isA "str" "tuple" = false; decide
  | dct xs => show isA "dict" "tuple" = false; decide
  | _ => simp [T.toD] at h
theorem kind_bool {d : PyData} (h : t.toD = some d) (ns : ∀ b, t ≠ .bl b) : isA (kindS st t) "bool" = false := by
  cases t with
  | bl x => exact absurd rfl (ns x)
  | non => show isA "NoneType" "bool" = false; decide
  | tup b => show isA "tuple" "bool" = false; decide
  | int i => show isA "int" "bool" = false; decide
  | lst xs => show isA "list" "bool" = false; decide
  | str xs => show isA "str" "bool" = false; decide
  | dct xs => show isA "dict" "bool" = false; decide
  | _ => simp [T.toD] at h
theorem name_no {d : PyData} (h : t.toD = some d) (ns : ∀ x, t ≠ .str x) (q : Q (.bl false) st) : callF (mis_name c) [t] st Q := by
  refine ⟨rfl, ?_⟩
  unfold Dis_name
  walk_at "ko"
  refine ⟨kind_data h, ?_⟩
  rw [kind_str h ns]
  walk_at "ko"
  exact ret_here rfl q
theorem pair_no {x y : T} {d e : PyData} (hx : x.toD = some d) (hy : y.toD = some e) (nx : NmT x) (ny : NmT y) (no : ∀ u v, x = .str u → y = .str v → u = v) (q : Q (.bl false) st) : callF (mis_pair c) [.tup [x, y]] st Q := by
  refine ⟨rfl, ?_⟩
  unfold Dis_pair
  walk_at "ko"
  refine ⟨(by show "tuple" ∈ _; decide), ?_⟩
  refine x_iteF rfl ?_
  walk_at "ko"
  refine x_ne rfl rfl ⟨rfl, rfl⟩ ?_
  refine x_iteF rfl ?_
  walk_at "ko"
  refine x_ixT rfl ?_
  walk_at "ko"
  by_cases sx : ∃ u, x = .str u
  · obtain ⟨u, rfl⟩ := sx
    refine name_call (nx u rfl) ?_
    refine x_iteT rfl ?_
    walk_at "ko"
    refine x_ixT rfl ?_
    walk_at "ko"
    by_cases sy : ∃ v, y = .str v
    · obtain ⟨v, rfl⟩ := sy
      refine name_call (ny v rfl) ?_
      refine x_iteT rfl ?_
      walk_at "ko"
      refine x_ixT rfl ?_
      walk_at "ko"
      refine x_ixT rfl ?_
      refine x_ne (d := .str u) (e := .str v) rfl rfl ⟨(nx u rfl).shp, (ny v rfl).shp⟩ ?_
      rw [eqv_str, decide_eq_true (no u v rfl rfl)]
      exact ret_here rfl q
    · refine name_no hy (fun z e => sy ⟨z, e⟩) ?_
      refine x_iteF rfl ?_
      exact ret_here rfl q
  · refine name_no hx (fun z e => sx ⟨z, e⟩) ?_
    refine x_iteF rfl ?_
    exact ret_here rfl q
/-- a datum that may stand in a walk that is handed in -/
structure Itm (t : T) : Prop where
  pure : t.pure = true
  dat : ∃ d, t.toD = some d ∧ Sz 10000 40 d
  nm : ∀ p q r, t = .tup (p :: q :: r) → NmT p ∧ NmT q
  nm1 : ∀ p, t = .tup [p] → NmT p
theorem toDL_mem {xs : List T} {ds : List PyData} (h : toDL xs = some ds) {x : T} (m : x ∈ xs) : ∃ d, x.toD = some d := by
  induction xs generalizing ds with
  | nil => cases m
  | cons y ys ih =>
    simp only [toDL] at h
    split at h
    · rename_i d ds' h1 h2
      rcases List.mem_cons.mp m with rfl | m
      · exact ⟨d, h1⟩
      · exact ih h2 m
    · cases h
theorem tup_mem {xs : List T} {d : PyData} (h : (T.tup xs).toD = some d) {x : T} (m : x ∈ xs) : ∃ d, x.toD = some d := by
  simp only [T.toD] at h
  cases e : toDL xs with
  | none => rw [e] at h; cases h
  | some ds => exact toDL_mem e m
theorem answer_no (it : Itm t) (no : ∀ a, OkA a → t ≠ aT a) (q : Q (.bl false) st) : callF (mis_answer c) [t] st Q := by
  obtain ⟨d, hd, sz⟩ := it.dat
  refine ⟨rfl, ?_⟩
  unfold Dis_answer
  walk_at "ko"
  refine ⟨kind_data hd, ?_⟩
  by_cases tt : ∃ xs, t = .tup xs
  · obtain ⟨xs, rfl⟩ := tt
    refine x_iteF rfl ?_
    walk_at "ko"
    refine x_ne (d := .int xs.length) (e := .int 3) rfl rfl ⟨rfl, rfl⟩ ?_
    have el : PyData.eqv (.int xs.length) (.int 3) = decide (xs.length = 3) := by
      simp only [PyData.eqv]
      exact decide_eq_decide.mpr (by omega)
    rw [el]
    by_cases l3 : xs.length = 3
    · refine x_iteF (by rw [decide_eq_true l3]; rfl) ?_
      match xs, l3, it, hd, no with
      | [x, y, z], _, it, hd, no =>
        obtain ⟨dx, ex⟩ := tup_mem hd (x := x) (by simp)
        obtain ⟨dy, ey⟩ := tup_mem hd (x := y) (by simp)
        obtain ⟨dz, ez⟩ := tup_mem hd (x := z) (by simp)
        obtain ⟨nx, ny⟩ := it.nm x y [z] rfl
        walk_at "ko"
        by_cases pr : ∃ u v, x = .str u ∧ y = .str v ∧ u ≠ v
        · obtain ⟨u, v, rfl, rfl, ne⟩ := pr
          refine pair_call (nx u rfl) (ny v rfl) ne ?_
          refine x_iteT rfl ?_
          walk_at "ko"
          refine x_ixT rfl ?_
          walk_at "ko"
          refine ⟨kind_data ez, ?_⟩
          rw [kind_bool ez fun b e => no ((u, v), b) ⟨nx u rfl, ny v rfl, ne⟩ (by rw [e]; rfl)]
          exact ret_here rfl q
        · refine pair_no ex ey nx ny (fun u v e1 e2 => Classical.byContradiction fun ne => pr ⟨u, v, e1, e2, ne⟩) ?_
          refine x_iteF rfl ?_
          exact ret_here rfl q
    · refine x_iteT (by rw [decide_eq_false l3]; rfl) ?_
      walk_at "ko"
      exact ret_here rfl q
  · refine x_iteT (by rw [kind_tup hd fun xs e => tt ⟨xs, e⟩]; rfl) ?_
    walk_at "ko"
    exact ret_here rfl q
noncomputable def isIn (As : List SA) (t : T) : Bool := @decide (∃ a ∈ As, t = aT a) (Classical.propDecidable _)
theorem isIn_t (h : ∃ a ∈ As, t = aT a) : isIn As t = true := @decide_eq_true _ (Classical.propDecidable _) h
theorem isIn_f (h : ¬ ∃ a ∈ As, t = aT a) : isIn As t = false := @decide_eq_false _ (Classical.propDecidable _) h
theorem aT_inj {a b : SA} (h : aT a = aT b) : a = b := by
  obtain ⟨⟨x, y⟩, k⟩ := a
  obtain ⟨⟨x', y'⟩, k'⟩ := b
  simp [aT] at h
  obtain ⟨rfl, rfl, rfl⟩ := h
  rfl
theorem contains_at {u : T} (h : IsB B u ys As) (nd : (As.map (·.1)).Nodup) (okA : ∀ a ∈ As, OkA a) (it : Itm t) (q : Q (.bl (isIn As t)) st) : callF (mBook__contains__ B) [u, t] st Q := by
  refine ⟨rfl, ?_⟩
  unfold DBook__contains__
  walk_at "ko"
  by_cases ia : ∃ a, OkA a ∧ t = aT a
  · obtain ⟨a, ok, rfl⟩ := ia
    have ei : isIn As (aT a) = decide (a ∈ As) := by
      by_cases ma : a ∈ As
      · rw [decide_eq_true ma]
        exact isIn_t ⟨a, ma, rfl⟩
      · rw [decide_eq_false ma]
        exact isIn_f fun ⟨b, mb, e⟩ => ma (by rw [aT_inj e]; exact mb)
    rw [ei] at q
    refine answer_call ok.x ok.y ok.ne ?_
    refine x_iteT rfl ?_
    walk_at "ko"
    refine h.obj fun L p => ?_
    rw [lk_truths]
    walk_at "ko"
    refine ⟨⟨Vw.spT a.1, x_dT2 (tk_spT _) trivial⟩, ?_⟩
    walk_at "ko"
    refine pairOf_call ?_
    walk_at "ko"
    refine x_dT2 (tk_spT _) ?_
    rw [says_val p nd]
    walk_at "ko"
    refine x_ixT (xs := [.str a.1.1, .str a.1.2, .bl a.2]) rfl ?_
    have vs := view_says (st := st) (As := As) (z := a.1)
    rcases says_in nd (z := a.1) (b := a.2) with ⟨e, m⟩ | ⟨x, e, m⟩
    · refine x_eq (d := .none) (e := .bool a.2) (vs.trans e) rfl ⟨rfl, rfl⟩ ?_
      have m' : a ∉ As := m
      rw [show PyData.eqv .none (.bool a.2) = false from rfl]
      rw [decide_eq_false m'] at q
      exact ret_here rfl q
    · refine x_eq (d := .bool x) (e := .bool a.2) (vs.trans e) rfl ⟨rfl, rfl⟩ ?_
      have m' : x = a.2 ↔ a ∈ As := m
      have e2 : PyData.eqv (.bool x) (.bool a.2) = decide (a ∈ As) := by
        rw [← decide_eq_decide.mpr m']
        simp [PyData.eqv]
        rfl
      rw [e2]
      exact ret_here rfl q
  · refine answer_no it (fun a oa e => ia ⟨a, oa, e⟩) ?_
    refine x_iteF rfl ?_
    have ei : isIn As t = false := isIn_f fun ⟨b, mb, e⟩ => ia ⟨b, okA b mb, e⟩
    rw [ei] at q
    exact ret_here rfl q
end
end LW

/-! what repr gives is a text -/
namespace LW
open PySem PySem.Spec PyProof.Rows L2 Gd Vw
def Sm (s : Str) : Prop := ∀ k ∈ s.cps.toList, k < 1114112
theorem Sm.app {x y : Str} (h : Sm x) (k : Sm y) : Sm (x ++ y) := fun j m => by
  rw [app_toList] at m
  rcases List.mem_append.mp m with m | m
  · exact h j m
  · exact k j m
theorem sm_string (s : String) : Sm (Str.ofString s) := fun k m => by
  rw [signs_ofString] at m
  obtain ⟨a, _, rfl⟩ := List.mem_map.mp m
  have := a.valid
  have l : a.toNat < 1114112 := by
    rcases this with h | h
    · exact Nat.lt_trans h (by decide)
    · exact h.2
  exact l
theorem char_lt (a : Char) : a.toNat < 1114112 := by
  rcases a.valid with h | h
  · exact Nat.lt_trans h (by decide)
  · exact h.2
theorem rc_ok {q k : Nat} (hq : q < 1114112) (hk : k < 1114112) : ∀ j ∈ Builtin.Str.reprChar q k, j < 1114112 := by
  have hx : ∀ w : Nat, ∀ j ∈ (List.replicate (w - ((Nat.toDigits 16 k).map Char.toNat).length) 48 ++ (Nat.toDigits 16 k).map Char.toNat), j < 1114112 := fun w j m => by
    rcases List.mem_append.mp m with m | m
    · rw [List.eq_of_mem_replicate m]; decide
    · obtain ⟨a, _, rfl⟩ := List.mem_map.mp m
      exact char_lt a
  intro j m
  unfold Builtin.Str.reprChar at m
  dsimp only at m
  split at m
  · simp at m; omega
  split at m
  · simp at m; omega
  split at m
  · simp at m; omega
  split at m
  · simp at m; omega
  split at m
  · simp at m; omega
  split at m
  · rcases List.mem_append.mp m with m | m
    · simp at m; omega
    · exact hx _ j m
  split at m
  · rcases List.mem_append.mp m with m | m
    · simp at m; omega
    · exact hx _ j m
  · rcases List.mem_append.mp m with m | m
    · simp at m; omega
    · exact hx _ j m
theorem sm_from : ∀ (ts : List Str) (k : Nat) (acc : Str), Sm acc → (∀ t ∈ ts, Sm t) → Sm (textFrom k acc ts)
  | [], _, acc, h, _ => h
  | t :: ts, k, acc, h, ht => by
    unfold textFrom
    refine sm_from ts (k + 1) _ ((h.app ?_).app (ht t List.mem_cons_self)) fun s m => ht s (List.mem_cons_of_mem _ m)
    split
    · exact sm_string _
    · exact sm_string _
theorem sm_join : ∀ ts : List Str, (∀ t ∈ ts, Sm t) → Sm (Str.join ", " ts)
  | [], _ => fun k m => by cases m
  | [t], h => h t List.mem_cons_self
  | t :: u :: r, h => by
    show Sm (t ++ ", " ++ Str.join ", " (u :: r))
    exact ((h t List.mem_cons_self).app (sm_string _)).app (sm_join (u :: r) fun s m => h s (List.mem_cons_of_mem _ m))
mutual
theorem sm_shown : ∀ d : PyData, okd d = true → Sm d.shown
  | .none, _ => by rw [PyData.shown.eq_1]; exact sm_string _
  | .bool b, _ => by
    rw [PyData.shown.eq_2]
    split
    · exact sm_string _
    · exact sm_string _
  | .int i, _ => by rw [PyData.shown.eq_3]; exact sm_string _
  | .str x, h => by
    intro k m
    have m : k ∈ ch (.str x) := m
    rw [ch_str] at m
    have hq : reprQuote x < 1114112 := by rcases quote_or x with q | q <;> rw [q] <;> decide
    simp only [okd, Bool.and_eq_true] at h
    have hx : ∀ j ∈ x.cps.toList, j < 1114112 := fun j mj => by
      have := Array.all_eq_true_iff_forall_mem.mp h.1 j (Array.mem_toList_iff.mp mj)
      simpa using this
    rcases List.mem_append.mp m with m | m
    · rcases List.mem_cons.mp m with rfl | m
      · exact hq
      · obtain ⟨j, mj, mk⟩ := List.mem_flatMap.mp m
        exact rc_ok hq (hx j mj) k mk
    · rw [List.mem_singleton.mp m]; exact hq
  | .list ds, h => by
    rw [PyData.shown.eq_5]
    simp only [okd] at h
    exact (sm_from _ _ _ (sm_string _) (sm_all ds h)).app (sm_string _)
  | .tuple ds, h => by
    rw [PyData.shown.eq_6]
    simp only [okd] at h
    unfold tupleText
    refine ((sm_string _).app (sm_join _ (sm_all ds h))).app ?_
    split
    · exact sm_string _
    · exact sm_string _
  | .dict ds, h => by
    rw [PyData.shown.eq_7]
    simp only [okd] at h
    exact ((sm_string _).app (sm_join _ (sm_kv ds h))).app (sm_string _)
theorem sm_all : ∀ ds : List PyData, okdAll ds = true → ∀ t ∈ PyData.shownAll ds, Sm t
  | [], _, t, m => by simp [PyData.shownAll] at m
  | d :: ds, h, t, m => by
    simp only [okdAll, Bool.and_eq_true] at h
    simp only [PyData.shownAll] at m
    rcases List.mem_cons.mp m with rfl | m
    · exact sm_shown d h.1
    · exact sm_all ds h.2 t m
theorem sm_kv : ∀ ds : List (PyData × PyData), okdKv ds = true → ∀ t ∈ PyData.shownKv ds, Sm t
  | [], _, t, m => by simp [PyData.shownKv] at m
  | (d, e) :: ds, h, t, m => by
    simp only [okdKv, Bool.and_eq_true] at h
    simp only [PyData.shownKv] at m
    rcases List.mem_cons.mp m with rfl | m
    · exact ((sm_shown d h.1.1).app (sm_string _)).app (sm_shown e h.1.2)
    · exact sm_kv ds h.2 t m
end
theorem sm_ok {s : Str} (h : Sm s) : PyData.strOk s = true := by
  unfold PyData.strOk
  rw [Array.all_eq_true_iff_forall_mem]
  intro k m
  exact decide_eq_true (h k (Array.mem_toList_iff.mpr m))
theorem shp_text {s : Str} (h : Sm s) : Shp (.str s) := by
  show SeqAt.shaped (.str s) = true
  unfold SeqAt.shaped
  simp [PyData.canLay0, PyData.depth, sm_ok h]
theorem shp_texts {ts : List Str} (h : ∀ t ∈ ts, Sm t) : Shp (.list (ts.map .str)) := by
  have c : ∀ l : List Str, (∀ t ∈ l, Sm t) → PyData.canLayAll0 (l.map .str) = true := fun l => by
    induction l with
    | nil => intro _; simp [PyData.canLayAll0]
    | cons t l ih =>
      intro hl
      simp [PyData.canLayAll0, PyData.canLay0, sm_ok (hl t List.mem_cons_self)]
      exact ih fun s m => hl s (List.mem_cons_of_mem _ m)
  have dp : ∀ l : List Str, PyData.depthAll (l.map PyData.str) ≤ 60 := fun l => by
    induction l with
    | nil => simp [PyData.depthAll]
    | cons t l ih => simp [PyData.depthAll, PyData.depth]; exact ih
  exact shp_list (c ts h) (dp ts)
end LW

/-! is_walk, as the program and as the law read it -/
namespace LW
open PySem PySem.Spec PyProof.Rows L2 Gd Vw
open PySem.W (dataLe AllAlike Sortable keyToks keyToksAll dataLt)

section
variable {c : Cf} {n : Nat} {st : Stt} {Q : T → Stt → Prop} {B : Bk c} {t : T} {ys : List Str} {As : List SA} {m : Nat}
theorem shp_ints (ns : List Int) : Shp (.list (ns.map .int)) := by
  have h := PySem.W.shaped_ints ns
  exact h
theorem x_allB {α : Type} {f : α → Bool} {l : List α} (q : Q (.bl (l.all f)) st) : (oAll : ON c).w st [.lst (l.map fun a => T.bl (f a))] Q := by
  rw [w_oAll]
  show (match bools (l.map fun a => T.bl (f a)) with | some bs => Q (.bl (bs.all id)) st | none => False)
  rw [bools_map f]
  show Q (.bl ((l.map f).all id)) st
  rw [List.all_map]
  exact q
theorem x_eqStr {x y : Str} (q : Q (.bl (decide (x = y))) st) : (oEq : O2 c).w st (.str x) (.str y) Q := by
  refine x_eqS (d := .str x) (e := .str y) rfl rfl trivial ?_
  rw [eqv_str]
  exact q
theorem x_neStr {x y : Str} (q : Q (.bl (!decide (x = y))) st) : (oNe : O2 c).w st (.str x) (.str y) Q := by
  refine x_neS (d := .str x) (e := .str y) rfl rfl trivial ?_
  rw [eqv_str]
  exact q
def leadT : T → Gd.SP | .tup [.str x, .str y, .bl b] => leadP ((x, y), b) | _ => ("", "")
theorem leadT_a (a : SA) : leadT (aT a) = leadP a := rfl
def nextB (p : T × T) : Bool := decide ((leadT p.1).2 = (leadT p.2).1)
def connT (xs : List T) : Bool := (xs.zip (xs.drop 1)).all nextB
noncomputable def walkB (As : List SA) : T → Bool | .lst xs => xs.all (isIn As) && connT xs | _ => false
theorem isIn_iff : isIn As t = true ↔ ∃ a ∈ As, t = aT a := by
  constructor
  · intro h
    exact Classical.byContradiction fun e => by rw [isIn_f e] at h; cases h
  · exact isIn_t
theorem all_in {xs : List T} (h : xs.all (isIn As) = true) : ∀ t ∈ xs, ∃ a ∈ As, t = aT a := fun t m => isIn_iff.mp (List.all_eq_true.mp h t m)
theorem filter_tt {α : Type} (xs : List α) : xs.filter (fun _ => true) = xs := List.filter_eq_self.mpr fun _ _ => rfl
theorem cutT1f (xs : List T) : cutT xs (some 1) none = xs.drop 1 := cutT_from (n := 1)
def nextT : T → T | .tup [.tup [_, .str u], .tup [.str v, _]] => .bl (decide (u = v)) | t => t
theorem kind_lst {d : PyData} (h : t.toD = some d) (ns : ∀ xs, t ≠ .lst xs) : isA (kindS st t) "list" = false := by
  cases t with
  | lst x => exact absurd rfl (ns x)
  | non => show isA "NoneType" "list" = false; decide
  | bl b => show isA "bool" "list" = false; decide
  | int i => show isA "int" "list" = false; decide
  | tup xs => show isA "tuple" "list" = false; decide
  | str xs => show isA "str" "list" = false; decide
  | dct xs => show isA "dict" "list" = false; decide
  | _ => simp [T.toD] at h
theorem isWalk_list {u : T} {xs : List T} (h : IsB B u ys As) (nd : (As.map (·.1)).Nodup) (okA : ∀ a ∈ As, OkA a) (it : ∀ t ∈ xs, Itm t) (l : xs.length ≤ 10000) (q : Q (.bl (walkB As (.lst xs))) st) : callF (mis_walk B) [u, .lst xs] st Q := by
  refine ⟨rfl, ?_⟩
  unfold Dis_walk
  walk_at "ko"
  refine .inr ⟨(by show "list" ∈ _; decide), ?_⟩
  refine x_iteF rfl ?_
  walk_at "ko"
  refine lc_pure (fun _ => true) (fun t => .bl (isIn As t)) (fun a ma C1 C0 k1 k0 => ?_) trivial ?_
  · walk_at "ko"
    rw [w_oInO]
    refine ⟨h.isO, contains_at h nd okA (it a ma) ?_⟩
    unfold blQ
    exact k1 rfl
  rw [filter_tt]
  walk_at "ko"
  refine x_allB ?_
  cases ea : xs.all (isIn As)
  · refine x_iteT rfl ?_
    walk_at "ko"
    have e : walkB As (.lst xs) = false := by
      show (xs.all (isIn As) && connT xs) = false
      rw [ea]; rfl
    rw [e] at q
    exact ret_here rfl q
  · have ia := all_in ea
    have e : walkB As (.lst xs) = connT xs := by
      show (xs.all (isIn As) && connT xs) = connT xs
      rw [ea]; rfl
    rw [e] at q
    refine x_iteF rfl ?_
    walk_at "ko"
    refine lc_pure (fun _ => true) (fun t => Vw.spT (leadT t)) (fun a ma C1 C0 k1 k0 => ?_) trivial ?_
    · obtain ⟨b, mb, rfl⟩ := ia a ma
      walk_at "ko"
      refine ends_call ?_
      exact k1 rfl
    rw [filter_tt]
    walk_at "ko"
    rw [cutT1f]
    refine lc_pure (fun _ => true) nextT (ts := _) (fun a ma C1 C0 k1 k0 => ?_) ⟨trivial, trivial⟩ ?_
    · obtain ⟨⟨p, r⟩, mp, rfl⟩ := List.mem_map.mp ma
      obtain ⟨x, _, rfl⟩ := List.mem_map.mp (List.of_mem_zip mp).1
      obtain ⟨y, _, rfl⟩ := List.mem_map.mp (List.mem_of_mem_drop (List.of_mem_zip mp).2)
      walk_at "ko"
      refine ⟨rfl, ?_⟩
      walk_at "ko"
      refine ⟨rfl, ?_⟩
      walk_at "ko"
      refine x_ixT (t := T.str (leadT x).2) rfl ?_
      walk_at "ko"
      refine x_ixT (t := T.str (leadT y).1) rfl ?_
      refine x_eqStr ?_
      have e1 : nextT (T.tup [Vw.spT (leadT x), Vw.spT (leadT y)]) = .bl (decide ((leadT x).2 = (leadT y).1)) := rfl
      rw [← e1]
      exact k1 rfl
    rw [filter_tt]
    walk_at "ko"
    have ez : List.map nextT (List.map (fun p => T.tup [p.1, p.2]) ((xs.map fun t => Vw.spT (leadT t)).zip ((xs.map fun t => Vw.spT (leadT t)).drop 1))) = (xs.zip (xs.drop 1)).map fun p => T.bl (nextB p) := by
      rw [← List.map_drop, List.zip_map, List.map_map, List.map_map]
      rfl
    rw [ez]
    refine x_allB ?_
    exact ret_here rfl q
theorem isWalk_no {u x : T} (hx : (isO B.C st x) ∨ (∃ d, x.toD = some d ∧ ∀ xs, x ≠ .lst xs)) (q : Q (.bl false) st) : callF (mis_walk B) [u, x] st Q := by
  refine ⟨rfl, ?_⟩
  unfold Dis_walk
  walk_at "ko"
  rcases hx with h | ⟨d, hd, no⟩
  · refine .inl ⟨h, ?_⟩
    refine x_iteT rfl ?_
    walk_at "ko"
    exact ret_here rfl q
  · refine .inr ⟨kind_data hd, ?_⟩
    rw [kind_lst hd no]
    refine x_iteT rfl ?_
    walk_at "ko"
    exact ret_here rfl q
theorem lawWalk_no {x : T} {bs : List T} (hx : (isO B.C st x) ∨ (∃ d, x.toD = some d ∧ ∀ xs, x ≠ .lst xs)) (q : Q (.bl false) st) : callF (m_law_is_walk B) [.lst bs, x] st Q := by
  refine ⟨rfl, ?_⟩
  unfold D_law_is_walk
  walk_at "ko"
  rcases hx with h | ⟨d, hd, no⟩
  · refine .inl ⟨h, ?_⟩
    refine x_iteT rfl ?_
    walk_at "ko"
    exact ret_here rfl q
  · refine .inr ⟨kind_data hd, ?_⟩
    rw [kind_lst hd no]
    refine x_iteT rfl ?_
    walk_at "ko"
    exact ret_here rfl q
/-- whether the law finds a step amiss at k -/
def gapT (xs : List T) : T → Bool
  | .int k => match xs[(k - 1).toNat]?, xs[k.toNat]? with | some a, some b => !decide ((leadT a).2 = (leadT b).1) | _, _ => false
  | _ => false
theorem gaps (xs : List T) : (decide (((intT 1 (xs.length - 1)).filter (gapT xs)) = [])) = connT xs := by
  have key : ((intT 1 (xs.length - 1)).filter (gapT xs)) = [] ↔ connT xs = true := by
    unfold connT
    rw [List.filter_eq_nil_iff, List.all_eq_true]
    constructor
    · rintro h ⟨a, b⟩ m
      obtain ⟨i, e⟩ := List.mem_iff_getElem?.mp m
      obtain ⟨ea, eb⟩ := List.getElem?_zip_eq_some.mp e
      rw [List.getElem?_drop] at eb
      have lb := (List.getElem?_eq_some_iff.mp eb).1
      have g := h (.int (1 + (i : Nat))) (List.mem_map.mpr ⟨i, List.mem_range.mpr (by omega), rfl⟩)
      have i1 : (1 + (i : Int) - 1).toNat = i := by omega
      have i2 : (1 + (i : Int)).toNat = 1 + i := by omega
      simp only [gapT, i1, i2, ea, eb] at g
      simpa [nextB] using g
    · rintro h t m
      obtain ⟨i, mi, rfl⟩ := List.mem_map.mp m
      have li := List.mem_range.mp mi
      have i1 : (1 + (i : Int) - 1).toNat = i := by omega
      have i2 : (1 + (i : Int)).toNat = 1 + i := by omega
      have ea : xs[i]? = some (xs[i]'(by omega)) := List.getElem?_eq_getElem _
      have eb : xs[1 + i]? = some (xs[1 + i]'(by omega)) := List.getElem?_eq_getElem _
      have mz : (xs[i]'(by omega), xs[1 + i]'(by omega)) ∈ xs.zip (xs.drop 1) := List.mem_iff_getElem?.mpr ⟨i, List.getElem?_zip_eq_some.mpr ⟨ea, by rw [List.getElem?_drop]; exact eb⟩⟩
      have g := h _ mz
      simp only [gapT, i1, i2, ea, eb]
      simpa [nextB] using g
  by_cases k : connT xs = true
  · rw [k]; exact decide_eq_true (key.mpr k)
  · have k2 : connT xs = false := by simpa using k
    rw [k2]
    exact decide_eq_false fun z => k (key.mp z)
theorem Itm.text (h : Itm t) : ∃ d, t.toD = some d ∧ Shown d ∧ Sm d.shown ∧ d.canLay0 = true ∧ d.depth ≤ 60 := by
  obtain ⟨d, e, z⟩ := h.dat
  have f := z.fine (by decide) (by decide)
  have s := f.shp z.nd
  exact ⟨d, e, f.shown (fun k => by rw [z.nd] at k; cases k), sm_shown d z.ok, SeqAt.canLay_of_shaped s, Nat.le_trans z.dp (by decide)⟩
theorem view_data {d : PyData} (h : t.toD = some d) : view st t = some d := by
  cases t with
  | ref k => simp [T.toD] at h
  | _ => exact h
theorem any_strs {x : Str} : ((ys.map PyData.str).any fun z => PyData.eqv z (.str x)) = decide (x ∈ ys) := by
  by_cases h : x ∈ ys
  · rw [decide_eq_true h]
    exact List.any_eq_true.mpr ⟨.str x, List.mem_map.mpr ⟨x, h, rfl⟩, by rw [eqv_str]; simp⟩
  · rw [decide_eq_false h]
    rw [List.any_eq_false]
    intro z mz
    obtain ⟨y, my, rfl⟩ := List.mem_map.mp mz
    rw [eqv_str]
    have : y ≠ x := fun e => h (e ▸ my)
    simp [this]
theorem toD_str {x : Str} (h : t.toD = some (.str x)) : t = .str x := by
  cases t with
  | str y => simp only [T.toD] at h; cases h; rfl
  | lst xs => simp only [T.toD] at h; cases e : toDL xs <;> rw [e] at h <;> cases h
  | tup xs => simp only [T.toD] at h; cases e : toDL xs <;> rw [e] at h <;> cases h
  | dct xs => simp only [T.toD] at h; cases e : toDK xs <;> rw [e] at h <;> cases h
  | _ => simp [T.toD] at h
theorem toD_bl {x : Bool} (h : t.toD = some (.bool x)) : t = .bl x := by
  cases t with
  | bl y => simp only [T.toD] at h; cases h; rfl
  | lst xs => simp only [T.toD] at h; cases e : toDL xs <;> rw [e] at h <;> cases h
  | tup xs => simp only [T.toD] at h; cases e : toDL xs <;> rw [e] at h <;> cases h
  | dct xs => simp only [T.toD] at h; cases e : toDK xs <;> rw [e] at h <;> cases h
  | _ => simp [T.toD] at h
theorem toD_tup {ds : List PyData} (h : t.toD = some (.tuple ds)) : ∃ xs, t = .tup xs ∧ toDL xs = some ds := by
  cases t with
  | tup xs =>
    simp only [T.toD] at h
    cases e : toDL xs with
    | none => rw [e] at h; cases h
    | some es =>
      rw [e] at h
      cases h
      exact ⟨xs, rfl, e⟩
  | lst xs => simp only [T.toD] at h; cases e : toDL xs <;> rw [e] at h <;> cases h
  | dct xs => simp only [T.toD] at h; cases e : toDK xs <;> rw [e] at h <;> cases h
  | _ => simp [T.toD] at h
theorem toDL_cons {xs : List T} {d : PyData} {ds : List PyData} (h : toDL xs = some (d :: ds)) : ∃ x zs, xs = x :: zs ∧ x.toD = some d ∧ toDL zs = some ds := by
  cases xs with
  | nil => simp [toDL] at h
  | cons x zs =>
    simp only [toDL] at h
    split at h
    · rename_i d' ds' h1 h2
      cases h
      exact ⟨x, zs, rfl, h1, h2⟩
    · cases h
theorem toDL_nil {xs : List T} (h : toDL xs = some []) : xs = [] := by
  cases xs with
  | nil => rfl
  | cons x zs =>
    simp only [toDL] at h
    split at h <;> cases h
def shownA (As : List SA) : List Str := As.map fun a => (Gd.an a).shown
theorem shown_in (it : Itm t) {d : PyData} (h : t.toD = some d) (okA : ∀ a ∈ As, OkA a) : decide (d.shown ∈ shownA As) = isIn As t := by
  by_cases i : ∃ a ∈ As, t = aT a
  · rw [isIn_t i]
    obtain ⟨a, ma, rfl⟩ := i
    have : d = Gd.an a := (Option.some.inj h).symm
    rw [this]
    exact decide_eq_true (List.mem_map.mpr ⟨a, ma, rfl⟩)
  · rw [isIn_f i]
    refine decide_eq_false fun m => ?_
    obtain ⟨a, ma, e⟩ := List.mem_map.mp m
    have oa := okA a ma
    refine i ⟨a, ma, ?_⟩
    have ed : d = .tuple [.str a.1.1, .str a.1.2, .bool a.2] := by
      refine repr_an oa.x oa.y ?_ ?_ e.symm
      · rintro p q r rfl
        obtain ⟨xs, rfl, h1⟩ := toD_tup h
        obtain ⟨x, zs, rfl, e1, h2⟩ := toDL_cons h1
        obtain ⟨y, us, rfl, e2, _⟩ := toDL_cons h2
        obtain ⟨n1, n2⟩ := it.nm x y us rfl
        exact ⟨fun s es => n1 s (toD_str (es ▸ e1)), fun s es => n2 s (toD_str (es ▸ e2))⟩
      · rintro p rfl
        obtain ⟨xs, rfl, h1⟩ := toD_tup h
        obtain ⟨x, zs, rfl, e1, h2⟩ := toDL_cons h1
        have := toDL_nil h2
        subst this
        have n1 := it.nm1 x rfl
        exact fun s es => n1 s (toD_str (es ▸ e1))
    rw [ed] at h
    obtain ⟨xs, rfl, h1⟩ := toD_tup h
    obtain ⟨x, zs, rfl, e1, h2⟩ := toDL_cons h1
    obtain ⟨y, us, rfl, e2, h3⟩ := toDL_cons h2
    obtain ⟨z, vs, rfl, e3, h4⟩ := toDL_cons h3
    have := toDL_nil h4
    subst this
    rw [toD_str e1, toD_str e2, toD_bl e3]
    rfl
def reprT (t : T) : T := match t.toD with | some d => .str d.shown | none => t
theorem ints_view {ns : List Int} : view st (.lst (ns.map .int)) = some (.list (ns.map .int)) := by
  show (T.lst (ns.map .int)).toD = _
  simp only [T.toD]
  rw [toDL_map (g := PyData.int) (fun _ => rfl)]
  rfl
theorem itm_view {xs : List T} (it : ∀ t ∈ xs, Itm t) : ∃ ds, view st (.lst xs) = some (.list ds) ∧ Shp (.list ds) ∧ (ds = [] ↔ xs = []) := by
  obtain ⟨ds, e, c1, d1⟩ := toDL_all (xs := xs) fun t m => by
    obtain ⟨d, h1, _, _, h2, h3⟩ := (it t m).text
    exact ⟨d, h1, h2, h3⟩
  refine ⟨ds, ?_, shp_list c1 d1, ?_⟩
  · show (T.lst xs).toD = _
    simp only [T.toD, e]
    rfl
  · constructor
    · rintro rfl
      exact toDL_nil e
    · rintro rfl
      simp [toDL] at e
      exact e
theorem lawWalk_list {xs : List T} (okA : ∀ a ∈ As, OkA a) (it : ∀ t ∈ xs, Itm t) (l : xs.length ≤ 10000) (q : Q (.bl (walkB As (.lst xs))) st) : callF (m_law_is_walk B) [.lst (As.map aT), .lst xs] st Q := by
  refine ⟨rfl, ?_⟩
  unfold D_law_is_walk
  walk_at "ko"
  refine .inr ⟨(by show "list" ∈ _; decide), ?_⟩
  refine x_iteF rfl ?_
  walk_at "ko"
  refine lc_pure (fun _ => true) reprT (fun a ma C1 C0 k1 k0 => ?_) trivial ?_
  · obtain ⟨b, mb, rfl⟩ := List.mem_map.mp ma
    walk_at "ko"
    refine x_repr (d := Gd.an b) rfl (((sz_an (okA b mb)).fine (by decide) (by decide)).shown fun k => by rw [(sz_an (okA b mb)).nd] at k; cases k) ?_
    exact k1 rfl
  rw [filter_tt]
  have et : List.map reprT (As.map aT) = (shownA As).map T.str := by
    unfold shownA
    rw [List.map_map, List.map_map]
    rfl
  rw [et]
  walk_at "ko"
  have ht : Shp (.list ((shownA As).map .str)) := shp_texts fun s ms => by
    obtain ⟨b, mb, rfl⟩ := List.mem_map.mp ms
    exact sm_shown _ (sz_an (okA b mb)).ok
  refine lc_pure (fun t => !isIn As t) id (fun a ma C1 C0 k1 k0 => ?_) trivial ?_
  · obtain ⟨d, h1, h2, h3, _, _⟩ := (it a ma).text
    walk_at "ko"
    refine x_repr (view_data h1) h2 ?_
    walk_at "ko"
    refine x_ninT (d := .str d.shown) rfl (view_strs (ys := shownA As)) rfl ⟨shp_text h3, ht⟩ ?_
    rw [any_strs, shown_in (it a ma) h1 okA]
    cases ei : isIn As a
    · refine x_iteT rfl ?_
      walk_at "ko"
      exact k1 (by rw [ei]; rfl)
    · refine x_iteF rfl ?_
      exact k0 (by rw [ei]; rfl)
  rw [List.map_id]
  have itf : ∀ t ∈ xs.filter (fun t => !isIn As t), Itm t := fun t m => it t (List.mem_filter.mp m).1
  obtain ⟨ds, v1, s1, e1⟩ := itm_view (st := st) itf
  walk_at "ko"
  refine ⟨(by show 0 ≤ 100000; decide), ?_⟩
  refine x_ne v1 (e := .list []) rfl ⟨s1, rfl⟩ ?_
  rw [eqv_nil]
  by_cases ea : xs.all (isIn As) = true
  · have ia := all_in ea
    have e0 : xs.filter (fun t => !isIn As t) = [] := List.filter_eq_nil_iff.mpr fun t m => by rw [List.all_eq_true.mp ea t m]; decide
    rw [decide_eq_true (e1.mpr e0)]
    have e : walkB As (.lst xs) = connT xs := by
      show (xs.all (isIn As) && connT xs) = connT xs
      rw [ea]; rfl
    rw [e] at q
    refine x_iteF rfl ?_
    walk_at "ko"
    refine ⟨by decide, by decide, by omega, by omega, by omega, ?_⟩
    rw [show ((xs.length : Int) - 1).toNat = xs.length - 1 by omega]
    refine lc_pure (gapT xs) id (fun a ma C1 C0 k1 k0 => ?_) trivial ?_
    · obtain ⟨i, mi, rfl⟩ := List.mem_map.mp ma
      have li := List.mem_range.mp mi
      have ea' : xs[i]? = some (xs[i]'(by omega)) := List.getElem?_eq_getElem _
      have eb' : xs[1 + i]? = some (xs[1 + i]'(by omega)) := List.getElem?_eq_getElem _
      obtain ⟨x, _, hx⟩ := ia (xs[i]'(by omega)) (List.getElem_mem _)
      obtain ⟨y, _, hy⟩ := ia (xs[1 + i]'(by omega)) (List.getElem_mem _)
      rw [hx] at ea'
      rw [hy] at eb'
      have i1 : (1 + (i : Int) - 1).toNat = i := by omega
      have i2 : (1 + (i : Int)).toNat = 1 + i := by omega
      have eg : gapT xs (.int (1 + (i : Int))) = !decide ((leadP x).2 = (leadP y).1) := by
        simp only [gapT, i1, i2, ea', eb', leadT_a]
        rfl
      walk_at "ko"
      refine x_ixL (t := aT x) (by rw [show (1 + (i : Int) - 1) = ((i : Nat) : Int) by omega]; exact atI_nat ea') ?_
      walk_at "ko"
      refine leads_call ?_
      walk_at "ko"
      refine x_ixT (t := T.str (leadP x).2) rfl ?_
      walk_at "ko"
      refine x_ixL (t := aT y) (by rw [show (1 + (i : Int)) = ((1 + i : Nat) : Int) by omega]; exact atI_nat eb') ?_
      walk_at "ko"
      refine leads_call ?_
      walk_at "ko"
      refine x_ixT (t := T.str (leadP y).1) rfl ?_
      refine x_neStr ?_
      cases eq : (!decide ((leadP x).2 = (leadP y).1))
      · refine x_iteF rfl ?_
        exact k0 (eg.trans eq)
      · refine x_iteT rfl ?_
        walk_at "ko"
        exact k1 (eg.trans eq)
    rw [List.map_id]
    walk_at "ko"
    refine ⟨(by show 0 ≤ 100000; decide), ?_⟩
    have ef : (intT 1 (xs.length - 1)).filter (gapT xs) = (((List.range (xs.length - 1)).filter (gapT xs ∘ fun i : Nat => T.int (1 + (i : Nat)))).map fun i : Nat => (1 + (i : Nat) : Int)).map T.int := by
      unfold intT
      rw [List.filter_map, List.map_map]
      rfl
    have g := gaps xs
    rw [ef] at g ⊢
    refine x_eq ints_view (e := .list []) rfl ⟨shp_ints _, rfl⟩ ?_
    rw [eqv_nil]
    have e3 : ∀ l : List Int, decide (l.map PyData.int = []) = decide (l.map T.int = []) := fun l => by cases l <;> rfl
    rw [e3, g]
    exact ret_here rfl q
  · have e0 : ds ≠ [] := fun z => by
      have := List.filter_eq_nil_iff.mp (e1.mp z)
      exact ea (List.all_eq_true.mpr fun t m => by simpa using this t m)
    rw [decide_eq_false e0]
    refine x_iteT rfl ?_
    walk_at "ko"
    have e : walkB As (.lst xs) = false := by
      show (xs.all (isIn As) && connT xs) = false
      rw [Bool.eq_false_iff.mpr ea]; rfl
    rw [e] at q
    exact ret_here rfl q
end
end LW

/-! a drawn walk -/
namespace LW
open PySem PySem.Spec PyProof.Rows L2 Gd Vw
open PySem.W (dataLe AllAlike Sortable keyToks keyToksAll dataLt)

section
variable {c : Cf} {n : Nat} {st : Stt} {Q : T → Stt → Prop} {B : Bk c} {t : T} {ys : List Str} {As : List SA} {m : Nat}
theorem eqv_nilA : PyData.eqv (.list (As.map Gd.an)) (.list []) = decide (As = []) := by
  rw [eqv_nil]
  exact decide_eq_decide.mpr List.map_eq_nil_iff
theorem x_neNilA (ok : ∀ a ∈ As, OkA a) (q : Q (.bl (!decide (As = []))) st) : (oNe : O2 c).w st (.lst (As.map aT)) (.lst []) Q := by
  refine x_ne (d := .list (As.map Gd.an)) (e := .list []) view_ans rfl ⟨shp_ans ok, rfl⟩ ?_
  rw [eqv_nilA]
  exact q
theorem x_eqNilR {k : Nat} (h : st[k]? = some (.lst (As.map aT))) (ok : ∀ a ∈ As, OkA a) (q : Q (.bl (decide (As = []))) st) : (oEq : O2 c).w st (.ref k) (.lst []) Q := by
  refine x_eq (d := .list (As.map Gd.an)) (e := .list []) (view_ref h (aT_toD As)) rfl ⟨shp_ans ok, rfl⟩ ?_
  rw [eqv_nilA]
  exact q
theorem atI_last {α : Type} {xs : List α} {x : α} (h : xs.getLast? = some x) : atI xs (-1) = some x := by
  have l : xs ≠ [] := by rintro rfl; cases h
  have lp := List.length_pos_iff.mpr l
  rw [List.getLast?_eq_getElem?] at h
  unfold atI ixN
  rw [if_neg (by omega), if_pos (by omega)]
  rw [show ((-1 : Int) + (xs.length : Nat)).toNat = xs.length - 1 by omega]
  exact h
def aftB (W : List SA) (t : T) : Bool := decide (W = []) || (match W.getLast? with | none => true | some w => decide ((leadT t).1 = (leadP w).2))
theorem walk_call (okA : ∀ a ∈ As, OkA a) (lA : As.length ≤ 100) (hb : BagOk st n) (k : ∀ (W : List SA) st', (∀ a ∈ W, a ∈ As) → W.length ≤ 9 → Bg st n st' → Q (.lst (W.map aT)) st') : callF (m_law_walk c) [.ref n, .lst (As.map aT), .int 9] st Q := by
  refine ⟨rfl, ?_⟩
  unfold D_law_walk
  walk_at "ko"
  refine ⟨Nat.zero_le _, rfl, ?_⟩
  walk_at "ko"
  have hn := hb.lt
  refine take_call hb.app (by decide) (by decide) fun r s1 r0 r1 g1 => ?_
  obtain ⟨s0, rfl, g0⟩ := g1.app hn
  walk_at "ko"
  refine ⟨by omega, by omega, ?_⟩
  have l0 : s0.length = st.length := g0.len
  refine for_ind (fun as env st' => ∃ (W : List SA) (s' : Stt), st' = s' ++ [.lst (W.map aT)] ∧ Bg st n s' ∧ (∀ a ∈ W, a ∈ As) ∧ W.length + as.length ≤ 9 ∧ (∀ a ∈ as, a.pure = true) ∧ ∃ o4 o5 o6, env = [some (.ref n), some (.lst (As.map aT)), some (.int 9), some (.ref st.length), o4, o5, o6]) ?_ ?_ _ _ _ ⟨[], s0, rfl, g0, fun a m => (nomatch m), ?_, fun a m => ?_, none, none, none, rfl⟩
  · rintro a as env st' ⟨W, s', rfl, g, sub, ln, pa, o4, o5, o6, rfl⟩ C kC
    have l1 : s'.length = st.length := g.len
    have at1 : ∀ x : Cell, (s' ++ [x])[st.length]? = some x := fun x => by rw [List.getElem?_append_right (by omega), l1, Nat.sub_self]; rfl
    have okW : ∀ a ∈ W, OkA a := fun a m => okA a (sub a m)
    refine ⟨trivial, T.pure_in (pa a List.mem_cons_self) _, ?_⟩
    walk_at "ko"
    refine lc_pure (aftB W) id (fun b mb C1 C0 k1 k0 => ?_) trivial ?_
    · obtain ⟨z, mz, rfl⟩ := List.mem_map.mp mb
      walk_at "ko"
      refine ⟨Nat.zero_le _, ?_⟩
      refine x_eqNilR (at1 _) okW ?_
      by_cases e : W = []
      · subst e
        refine x_iteT (decide_eq_true rfl) ?_
        refine x_iteT rfl ?_
        walk_at "ko"
        exact k1 rfl
      · refine x_iteF (decide_eq_false e) ?_
        obtain ⟨w, ew⟩ : ∃ w, W.getLast? = some w := ⟨W.getLast e, List.getLast?_eq_some_getLast e⟩
        have ea : aftB W (aT z) = decide ((leadP z).1 = (leadP w).2) := by
          unfold aftB
          rw [decide_eq_false e, ew]
          rfl
        walk_at "ko"
        refine leads_call ?_
        walk_at "ko"
        refine x_ixT (t := T.str (leadP z).1) rfl ?_
        walk_at "ko"
        refine x_ixR (at1 _) (t := aT w) (atI_last (by rw [List.getLast?_map, ew]; rfl)) ?_
        walk_at "ko"
        refine leads_call ?_
        walk_at "ko"
        refine x_ixT (t := T.str (leadP w).2) rfl ?_
        refine x_eqStr ?_
        cases eq : decide ((leadP z).1 = (leadP w).2)
        · refine x_iteF rfl ?_
          exact k0 (ea.trans eq)
        · refine x_iteT rfl ?_
          walk_at "ko"
          exact k1 (ea.trans eq)
    have ef : ((As.map aT).filter (aftB W)).map id = (As.filter (aftB W ∘ aT)).map aT := by
      rw [List.map_id, List.filter_map]
    rw [ef]
    have subF : ∀ a ∈ As.filter (aftB W ∘ aT), a ∈ As := fun a m => (List.mem_filter.mp m).1
    have lF : (As.filter (aftB W ∘ aT)).length ≤ 100 := Nat.le_trans (List.length_filter_le _ _) lA
    generalize As.filter (aftB W ∘ aT) = Af at subF lF
    walk_at "ko"
    refine ⟨Nat.zero_le _, ?_⟩
    refine x_neNilA (fun a m => okA a (subF a m)) ?_
    have pas : ∀ a ∈ as, a.pure = true := fun a m => pa a (List.mem_cons_of_mem _ m)
    have lns : W.length + as.length + 1 ≤ 9 := by simp at ln; omega
    by_cases ef : Af = []
    · refine x_iteF (by rw [decide_eq_true ef]; rfl) ?_
      walk_at "ko"
      exact kC _ _ ⟨W, s', rfl, g, sub, by omega, pas, _, _, _, rfl⟩
    · refine x_iteT (by rw [decide_eq_false ef]; rfl) ?_
      walk_at "ko"
      refine ⟨x_isLs (at1 _), ?_⟩
      walk_at "ko"
      refine pick_call (fun t m => ?_) (fun z => ef (List.map_eq_nil_iff.mp z)) (by rw [List.length_map]; omega) (g.ok hn).app fun x s2 mx g2 => ?_
      · obtain ⟨b, _, rfl⟩ := List.mem_map.mp m
        rfl
      obtain ⟨b, mb, rfl⟩ := List.mem_map.mp mx
      obtain ⟨s3, rfl, g3⟩ := g2.app (by rw [l1]; exact hn)
      have l3 : s3.length = st.length := g3.len.trans l1
      have at3 : ∀ x : Cell, (s3 ++ [x])[st.length]? = some x := fun x => by rw [List.getElem?_append_right (by omega), l3, Nat.sub_self]; rfl
      walk_at "ko"
      refine x_cell (at3 _) ⟨by show _ < 100000; rw [List.length_map]; omega, rfl, ?_⟩
      have es : (s3 ++ [Cell.lst (W.map aT)]).set st.length (.lst (W.map aT ++ [aT b])) = s3 ++ [.lst ((W ++ [b]).map aT)] := by
        rw [List.set_append_right _ _ (by omega), l3, Nat.sub_self, List.map_append]
        rfl
      rw [es]
      walk_at "ko"
      refine kC _ _ ⟨W ++ [b], s3, rfl, g.trans g3, fun a m => ?_, by rw [List.length_append]; simp; omega, pas, _, _, _, rfl⟩
      rcases List.mem_append.mp m with m | m
      · exact sub a m
      · rw [List.mem_singleton.mp m]; exact subF b mb
  · rintro env st' ⟨W, s', rfl, g, sub, ln, pa, o4, o5, o6, rfl⟩
    have l1 : s'.length = st.length := g.len
    have at1 : ∀ x : Cell, (s' ++ [x])[st.length]? = some x := fun x => by rw [List.getElem?_append_right (by omega), l1, Nat.sub_self]; rfl
    refine ⟨trivial, ?_⟩
    walk_at "ko"
    refine exit_cell (Nat.le_refl _) (at1 _) (T.pure_in (ans_pure W) _) ?_
    rw [← l1, List.take_left]
    exact k W s' sub (by simpa using ln) g
  · have : (intT 0 r.toNat).length = r.toNat := by simp [intT]
    rw [this]
    simp
    omega
  · obtain ⟨i, _, rfl⟩ := List.mem_map.mp m
    rfl
end
end LW

/-! walks that are none -/
namespace LW
open PySem PySem.Spec PyProof.Rows L2 Gd Vw
open PySem.W (dataLe AllAlike Sortable keyToks keyToksAll dataLt)

section
variable {c : Cf} {n : Nat} {st : Stt} {Q : T → Stt → Prop} {B : Bk c} {t : T} {ys : List Str} {As : List SA} {m : Nat}
/-- a datum of a size -/
structure Gt (w dp : Nat) (t : T) : Prop where
  pure : t.pure = true
  dat : ∃ d, t.toD = some d ∧ Sz w dp d
theorem Gt.up {w dp w' dp' : Nat} (h : Gt w dp t) (l : w ≤ w') (k : dp ≤ dp') : Gt w' dp' t := ⟨h.pure, h.dat.imp fun _ z => ⟨z.1, z.2.up l k⟩⟩
theorem gt_all {w dp : Nat} {ts : List T} (h : ∀ t ∈ ts, Gt w dp t) : ∃ ds, toDL ts = some ds ∧ (∀ d ∈ ds, Sz w dp d) ∧ ds.length = ts.length := by
  induction ts with
  | nil => exact ⟨[], by simp [toDL], fun d m => (nomatch m), rfl⟩
  | cons t ts ih =>
    obtain ⟨ds, e, z, l⟩ := ih fun u m => h u (List.mem_cons_of_mem _ m)
    obtain ⟨d, e1, z1⟩ := (h t List.mem_cons_self).dat
    refine ⟨d :: ds, by simp [toDL, e1, e], fun u m => ?_, by simp [l]⟩
    rcases List.mem_cons.mp m with rfl | m
    · exact z1
    · exact z u m
theorem gt_lst {w dp : Nat} (k : Nat) {ts : List T} (h : ∀ t ∈ ts, Gt w dp t) (l : ts.length ≤ k) : Gt (2 + k * (w + 2)) (dp + 1) (.lst ts) := by
  obtain ⟨ds, e, z, l2⟩ := gt_all h
  refine ⟨pure_lst fun t m => (h t m).pure, .list ds, by simp [T.toD, e], sz_lst z (by omega)⟩
theorem gt_tup {w dp : Nat} (k : Nat) {ts : List T} (h : ∀ t ∈ ts, Gt w dp t) (l : ts.length ≤ k) : Gt (3 + k * (w + 2)) (dp + 1) (.tup ts) := by
  obtain ⟨ds, e, z, l2⟩ := gt_all h
  refine ⟨pure_lst fun t m => (h t m).pure, .tuple ds, by simp [T.toD, e], sz_tup z (by omega)⟩
theorem gt_non : Gt 1100 1 .non := ⟨rfl, _, rfl, sz_none.up (by decide) (by decide)⟩
theorem gt_bl (b : Bool) : Gt 1100 1 (.bl b) := ⟨rfl, _, rfl, (sz_bool b).up (by decide) (by decide)⟩
theorem gt_nat {k : Nat} (h : k < 1000) : Gt 1100 1 (.int (k : Nat)) := ⟨rfl, _, rfl, (sz_nat h).up (by decide) (by decide)⟩
theorem gt_str {lo hi : Nat} {x : Str} (h : OkN lo hi x) (k : hi ≤ 100) : Gt 1100 1 (.str x) := ⟨rfl, _, rfl, (sz_str h k).up (by omega) (by decide)⟩
theorem gt_nil : Gt 1100 1 (.lst []) := (gt_lst (w := 0) (dp := 0) 0 (ts := []) (fun t m => by cases m) (Nat.le_refl _)).up (by decide) (by decide)
theorem gt_True : Gt 1100 1 (.str "True") := ⟨rfl, _, rfl, ⟨by decide +kernel, by simp [PyData.hasDict], by decide +kernel, by decide +kernel⟩⟩
theorem gt_one {x : Str} (h : OkN 1 8 x) : Gt 1100 1 (.lst [.str x]) := (gt_lst (w := 82) (dp := 0) 1 (fun t m => by
  rw [List.mem_singleton.mp m]
  exact ⟨rfl, _, rfl, sz_str h (by decide)⟩) (Nat.le_refl _)).up (by decide) (by decide)
theorem nm_str {x : Str} (h : OkN 1 8 x) : NmT (.str x) := fun y e => by cases e; exact h
theorem nm_not (h : ∀ x, t ≠ .str x) : NmT t := fun y e => absurd e (h y)
theorem itm_of {w dp : Nat} (h : Gt w dp t) (l : w ≤ 10000) (k : dp ≤ 40) (no : ∀ xs, t ≠ .tup xs) : Itm t := ⟨h.pure, (h.up l k).dat, fun p q r e => absurd e (no _), fun p e => absurd e (no _)⟩
theorem itm_tup2 {p q : T} {r : List T} (hp : NmT p) (hq : NmT q) (h : ∀ t ∈ p :: q :: r, Gt 1100 1 t) (l : r.length ≤ 2) : Itm (.tup (p :: q :: r)) := by
  have g := (gt_tup 4 h (by simp; omega)).up (w' := 10000) (dp' := 40) (by decide) (by decide)
  refine ⟨g.pure, g.dat, fun p' q' r' e => ?_, fun p' e => ?_⟩
  · have e1 := (T.tup.inj e)
    cases e1
    exact ⟨hp, hq⟩
  · have e1 := (T.tup.inj e)
    cases e1
theorem itm_tup0 : Itm (.tup []) := by
  have g := (gt_tup (w := 0) (dp := 0) 0 (ts := []) (fun t m => by cases m) (Nat.le_refl _)).up (w' := 10000) (dp' := 40) (by decide) (by decide)
  exact ⟨g.pure, g.dat, fun p q r e => (nomatch (T.tup.inj e)), fun p e => (nomatch (T.tup.inj e))⟩
theorem itm_a {a : SA} (h : OkA a) : Itm (aT a) := itm_tup2 (nm_str h.x) (nm_str h.y) (fun t m => by
  rcases List.mem_cons.mp m with rfl | m
  · exact gt_str h.x (by decide)
  rcases List.mem_cons.mp m with rfl | m
  · exact gt_str h.y (by decide)
  rw [List.mem_singleton.mp m]
  exact gt_bl _) (by show 1 ≤ 2; decide)
/-- an answer with a number for its truth -/
def iT (a : SA) : T := .tup [.str a.1.1, .str a.1.2, .int (if a.2 = true then 1 else 0)]
theorem itm_i {a : SA} (h : OkA a) : Itm (iT a) := itm_tup2 (nm_str h.x) (nm_str h.y) (fun t m => by
  rcases List.mem_cons.mp m with rfl | m
  · exact gt_str h.x (by decide)
  rcases List.mem_cons.mp m with rfl | m
  · exact gt_str h.y (by decide)
  rw [List.mem_singleton.mp m]
  cases a.2
  · exact gt_nat (k := 0) (by decide)
  · exact gt_nat (k := 1) (by decide)) (by show 1 ≤ 2; decide)
/-- what is handed in for a walk -/
structure Thing (t : T) : Prop where
  pure : t.pure = true
  dat : ∃ d, t.toD = some d ∧ Shown d
  items : ∀ xs, t = .lst xs → (∀ u ∈ xs, Itm u) ∧ xs.length ≤ 10000
theorem sz_shown {w dp : Nat} {d : PyData} (h : Sz w dp d) (l : w ≤ 10000000) (k : dp ≤ 50) : Shown d := (h.fine l k).shown fun z => by rw [h.nd] at z; cases z
theorem thing_of {w dp : Nat} (h : Gt w dp t) (l : w ≤ 10000000) (k : dp ≤ 50) (no : ∀ xs, t ≠ .lst xs) : Thing t := ⟨h.pure, h.dat.imp fun _ z => ⟨z.1, sz_shown z.2 l k⟩, fun xs e => absurd e (no xs)⟩
theorem Itm.gt (h : Itm t) : Gt 10000 40 t := ⟨h.pure, h.dat⟩
theorem thing_lst {xs : List T} (h : ∀ u ∈ xs, Itm u) (l : xs.length ≤ 100) : Thing (.lst xs) := by
  have g := gt_lst 100 (fun t m => (h t m).gt) l
  exact ⟨g.pure, g.dat.imp fun _ z => ⟨z.1, sz_shown z.2 (by decide) (by decide)⟩, fun ys e => by cases e; exact ⟨h, by omega⟩⟩
theorem thing_one (h : Itm t) : Thing (.lst [t]) := thing_lst (fun u m => by rw [List.mem_singleton.mp m]; exact h) (by show 1 ≤ 100; decide)
theorem thing_dct : Thing (.dct []) := ⟨rfl, ⟨.dict [], rfl, ⟨by decide +kernel, by decide +kernel, by decide +kernel, fun _ => by decide +kernel⟩⟩, fun xs e => (nomatch e)⟩
theorem thing_many : Thing (.lst (List.replicate 9000 [T.non]).flatten) := by
  have hm : ∀ u ∈ (List.replicate 9000 [T.non]).flatten, u = .non := fun u m => by
    obtain ⟨l, ml, mu⟩ := List.mem_flatten.mp m
    rw [List.eq_of_mem_replicate ml] at mu
    exact List.mem_singleton.mp mu
  have hl : (List.replicate 9000 [T.non]).flatten.length = 9000 := by simp
  have g := gt_lst (w := 4) (dp := 0) 9000 (ts := (List.replicate 9000 [T.non]).flatten) (fun u m => by rw [hm u m]; exact ⟨rfl, _, rfl, sz_none⟩) (by rw [hl]; exact Nat.le_refl _)
  refine ⟨g.pure, g.dat.imp fun _ z => ⟨z.1, sz_shown z.2 (by decide) (by decide)⟩, fun ys e => ?_⟩
  have e := T.lst.inj e
  rw [← e]
  exact ⟨fun u m => by rw [hm u m]; exact itm_of gt_non (by decide) (by decide) fun xs e => (nomatch e), by rw [hl]; decide⟩
end
end LW

/-! steps of the walk -/
local macro_rules
  | `(tactic| walk_at "ks1") => `(tactic| first
  | rw [if_pos (rfl : true = true)]
  | rw [if_neg Bool.false_ne_true]
  | with_reducible apply Vw.y_eOp
  | with_reducible apply Vw.y_eCB
  | with_reducible apply Vw.y_aC
  | with_reducible apply Vw.y_aN
  | with_reducible apply Vw.y_eI
  | with_reducible apply Vw.y_eS
  | with_reducible apply Vw.y_eB
  | with_reducible apply Vw.y_eN
  | ((with_reducible apply Vw.x_eV); rfl)
  | with_reducible apply Vw.y_eTup
  | with_reducible apply Vw.y_eLst
  | with_reducible apply Vw.y_eLstC
  | with_reducible apply Vw.y_eDK
  | with_reducible apply Vw.y_eDKC
  | with_reducible apply Vw.y_eDTC
  | with_reducible apply Vw.y_eUn
  | with_reducible apply Vw.y_tE
  | with_reducible apply Vw.y_tTe
  | with_reducible apply Vw.y_tNo
  | with_reducible apply Vw.y_tAn
  | with_reducible apply Vw.y_tY
  | with_reducible apply Vw.y_eAnd
  | with_reducible apply Vw.y_eOr
  | with_reducible apply Vw.y_eNot
  | with_reducible apply Vw.y_eChain
  | with_reducible apply Vw.y_sNx
  | with_reducible apply Vw.y_sNever
  | with_reducible apply Vw.y_sBrk
  | with_reducible apply Vw.y_sCnt
  | with_reducible apply Vw.y_sDrop
  | with_reducible apply Vw.y_sRet
  | with_reducible apply Vw.y_sRetN
  | with_reducible apply Vw.y_sIf
  | with_reducible apply Vw.y_gN
  | with_reducible apply Vw.y_gsN
  | with_reducible apply Vw.y_gsC
  | with_reducible apply Vw.y_gT
  | with_reducible apply Vw.y_sAsg
  | with_reducible apply Vw.y_sPar
  | with_reducible apply Vw.y_sWh
  | with_reducible apply Vw.y_sFor
  | with_reducible apply Vw.y_eLc
  | with_reducible apply Vw.y_iR1
  | with_reducible apply Vw.y_iR2
  | with_reducible apply Vw.y_iEn
  | with_reducible apply Vw.y_iZi
  | with_reducible apply Vw.y_pN
  | with_reducible apply Vw.y_pS
  | with_reducible apply Vw.y_eSl
  | with_reducible apply Vw.y_eBM
  | with_reducible apply Vw.y_eBM0
  | with_reducible apply Vw.y_mAppend
  | with_reducible apply Vw.y_mExtend
  | with_reducible apply Vw.y_mClear
  | with_reducible apply Vw.y_mReverse
  | with_reducible apply Vw.y_mPop
  | with_reducible apply Vw.y_mPopAt
  | with_reducible apply Vw.y_mS0
  | with_reducible apply Vw.y_mJoin
  | with_reducible apply Vw.y_hN
  | with_reducible apply Vw.y_hsN
  | with_reducible apply Vw.y_hsC
  | with_reducible apply Vw.y_hT
  | with_reducible apply Vw.y_sAsH
  | with_reducible apply Vw.y_eCl
  | with_reducible apply Vw.y_eClK
  | with_reducible apply Vw.y_eDGet
  | with_reducible apply Vw.y_eDGet1
  | with_reducible apply Vw.y_eDGet2
  | with_reducible apply Vw.y_eDIn
  | with_reducible apply Vw.y_eDNin
  | with_reducible apply Vw.y_sDPt
  | with_reducible apply Vw.y_eIsi
  | with_reducible apply Vw.y_eIsi2
  | with_reducible apply Vw.y_eLc2
  | with_reducible apply Vw.y_eDcT
  | with_reducible apply Vw.y_eFld
  | with_reducible apply Vw.y_sFldC
  | with_reducible apply Vw.y_eMk
  | with_reducible apply Vw.y_eMkK
  | with_reducible apply Vw.y_eMt
  | with_reducible apply Vw.y_eIsiO
  | with_reducible apply Vw.y_eLcC
  | with_reducible apply Vw.y_eClT
  | with_reducible apply Vw.y_eMtT
  | with_reducible apply Vw.y_iOwnX
  | with_reducible apply Vw.y_eDisp
  | with_reducible apply Vw.y_eSortV
  | with_reducible apply Vw.y_NoLen
  | with_reducible apply Vw.y_NoList
  | with_reducible apply Vw.y_NoListC
  | with_reducible apply Vw.y_NoTuple
  | with_reducible apply Vw.y_NoLenO
  | with_reducible apply Vw.y_NoListO
  | with_reducible apply Vw.y_NoListOC
  | with_reducible apply Vw.y_NoListD
  | with_reducible apply Vw.y_eRev
  | with_reducible apply Vw.y_eIsiB
  | rw [Vw.v_isB]
  | rw [Vw.v_addC]
  | rw [Vw.v_oII]
  | rw [Vw.v_oIB]
  | rw [Vw.v_oIC]
  | rw [Vw.v_oNeg]
  | rw [Vw.v_addI]
  | rw [Vw.v_addS]
  | rw [Vw.v_addT]
  | rw [Vw.v_addL]
  | rw [Vw.v_mulI]
  | rw [Vw.v_mulL]
  | rw [Vw.v_intI]
  | rw [Vw.v_intB]
  | rw [Vw.v_absI]
  | rw [Vw.v_repS]
  | rw [Vw.v_asL]
  | rw [Vw.v_anyL]
  | rw [Vw.v_anyT]
  | rw [Vw.v_anyE]
  | rw [Vw.v_anyS]
  | rw [Vw.v_isN]
  | rw [Vw.v_notN]
  | dsimp only)
local macro_rules
  | `(tactic| walk_at "ks") => `(tactic| repeat walk_at "ks1")
local macro_rules
  | `(tactic| walk_at "kd") => `(tactic| repeat first | walk_at "ko1" | refine ⟨Nat.le_of_ble_eq_true rfl, ?_⟩)
/-! walks that are none, drawn -/
namespace LW
open PySem PySem.Spec PyProof.Rows L2 Gd Vw
open PySem.W (dataLe AllAlike Sortable keyToks keyToksAll dataLt)


section
variable {c : Cf} {n : Nat} {st : Stt} {Q : T → Stt → Prop} {B : Bk c} {t : T} {ys : List Str} {As : List SA} {m : Nat}
theorem pairsL_iff {p : Gd.SP} : p ∈ pairsL ys ↔ p.1 ∈ ys ∧ p.2 ∈ ys ∧ p.2 ≠ p.1 := ⟨pairsL_mem, fun ⟨h1, h2, h3⟩ => List.mem_flatMap.mpr ⟨p.1, h1, List.mem_map.mpr ⟨p.2, List.mem_filter.mpr ⟨h2, by simpa using h3⟩, rfl⟩⟩⟩
theorem pairs_ne {xs : List Str} (nd : xs.Nodup) (l : 2 ≤ xs.length) : pairsL (sortS xs) ≠ [] := by
  have p := sortS_perm xs
  have l2 : 2 ≤ (sortS xs).length := by rw [p.length_eq]; exact l
  have nd2 : (sortS xs).Nodup := p.nodup_iff.mpr nd
  generalize sortS xs = zs at l2 nd2
  match zs, l2, nd2 with
  | a :: b :: r, _, nd2 =>
    intro e
    have m : (a, b) ∈ pairsL (a :: b :: r) := pairsL_iff.mpr ⟨by simp, by simp, fun z => by
      have z : b = a := z
      subst z
      simp at nd2⟩
    rw [e] at m
    cases m
theorem x_eqI {i j : Int} (q : Q (.bl (decide (i = j))) st) : (oEq : O2 c).w st (.int i) (.int j) Q := by
  refine x_eq (d := .int i) (e := .int j) rfl rfl ⟨rfl, rfl⟩ ?_
  rw [show PyData.eqv (.int i) (.int j) = decide (i = j) by simp [PyData.eqv]; rfl]
  exact q
structure Two (x y : Str) : Prop where
  hx : OkN 1 8 x
  hy : OkN 1 8 y
  ne : x ≠ y
theorem all_cons {α : Type} {P : α → Prop} {a : α} {l : List α} (h : P a) (k : ∀ x ∈ l, P x) : ∀ x ∈ a :: l, P x := fun x m => by
  rcases List.mem_cons.mp m with rfl | m
  · exact h
  · exact k x m
theorem all_nil {α : Type} {P : α → Prop} : ∀ x ∈ ([] : List α), P x := fun x m => (nomatch m)
def oddA (x y : Str) : List T := [.non, .int 5, .bl true, .str "walk", .tup [], .lst [.tup []], .dct [], .lst (List.replicate 9000 [T.non]).flatten, .lst [.tup [.str x, .str y]], .lst [.tup [.str x, .str y, .int 1]], .lst [.tup [.str x, .str y, .str "True"]]]
theorem okN_walk : OkN 1 8 "walk" := okN_iff (by decide +kernel)
theorem okN_nobody : OkN 1 8 "nobody" := okN_iff (by decide +kernel)
theorem itm3 {p q r : T} (hp : NmT p) (hq : NmT q) (g1 : Gt 1100 1 p) (g2 : Gt 1100 1 q) (g3 : Gt 1100 1 r) : Itm (.tup [p, q, r]) := itm_tup2 hp hq (all_cons g1 (all_cons g2 (all_cons g3 all_nil))) (by show 1 ≤ 2; decide)
theorem oddA_th {x y : Str} (tw : Two x y) : ∀ t ∈ oddA x y, Thing t := by
  have gx := gt_str tw.hx (by decide)
  have gy := gt_str tw.hy (by decide)
  have nx := nm_str tw.hx
  have ny := nm_str tw.hy
  refine all_cons (thing_of gt_non (by decide) (by decide) fun _ e => (nomatch e)) ?_
  refine all_cons (thing_of (gt_nat (k := 5) (by decide)) (by decide) (by decide) fun _ e => (nomatch e)) ?_
  refine all_cons (thing_of (gt_bl true) (by decide) (by decide) fun _ e => (nomatch e)) ?_
  refine all_cons (thing_of (gt_str okN_walk (by decide)) (by decide) (by decide) fun _ e => (nomatch e)) ?_
  refine all_cons (thing_of itm_tup0.gt (by decide) (by decide) fun _ e => (nomatch e)) ?_
  refine all_cons (thing_one itm_tup0) ?_
  refine all_cons thing_dct ?_
  refine all_cons thing_many ?_
  refine all_cons (thing_one (itm_tup2 nx ny (all_cons gx (all_cons gy all_nil)) (by show 0 ≤ 2; decide))) ?_
  refine all_cons (thing_one (itm3 nx ny gx gy (gt_nat (k := 1) (by decide)))) ?_
  exact all_cons (thing_one (itm3 nx ny gx gy gt_True)) all_nil
def oddB (x y : Str) : List T := [.lst [.lst [.str x, .str y, .bl true]], .lst [.tup [.str x, .str x, .bl true]], .lst [.tup [.str x, .str "nobody", .bl false]], .lst [.tup [.str x, .str y, .bl true, .str x]], .lst [.tup [.str x, .str y, .non]]]
theorem oddB_th {x y : Str} (tw : Two x y) : ∀ t ∈ oddB x y, Thing t := by
  have gx := gt_str tw.hx (by decide)
  have gy := gt_str tw.hy (by decide)
  have nx := nm_str tw.hx
  have ny := nm_str tw.hy
  refine all_cons (thing_one (itm_of (gt_lst 3 (all_cons gx (all_cons gy (all_cons (gt_bl true) all_nil))) (Nat.le_refl _)) (by decide) (by decide) fun _ e => (nomatch e))) ?_
  refine all_cons (thing_one (itm3 nx nx gx gx (gt_bl true))) ?_
  refine all_cons (thing_one (itm3 nx (nm_str okN_nobody) gx (gt_str okN_nobody (by decide)) (gt_bl false))) ?_
  refine all_cons (thing_one (itm_tup2 nx ny (all_cons gx (all_cons gy (all_cons (gt_bl true) (all_cons gx all_nil)))) (by show 2 ≤ 2; decide))) ?_
  exact all_cons (thing_one (itm3 nx ny gx gy gt_non)) all_nil
theorem itmL {W : List SA} (okW : ∀ a ∈ W, OkA a) : ∀ t ∈ W.map aT, Itm t := fun t m => by
  obtain ⟨a, ma, rfl⟩ := List.mem_map.mp m
  exact itm_a (okW a ma)
theorem gtW {W : List SA} (okW : ∀ a ∈ W, OkA a) : ∀ t ∈ W.map aT, Gt 255 1 t := fun t m => by
  obtain ⟨a, ma, rfl⟩ := List.mem_map.mp m
  exact ⟨rfl, Gd.an a, rfl, sz_an (okW a ma)⟩
theorem thing2 {A C : List T} (hA : ∀ t ∈ A, Itm t) (hC : ∀ t ∈ C, Itm t) (lA : A.length ≤ 9) (lC : C.length ≤ 9) : Thing (.lst (A ++ C)) :=
  thing_lst (fun u m => (List.mem_append.mp m).elim (hA u) (hC u)) (by rw [List.length_append]; omega)
theorem thing3 {A B C : List T} (hA : ∀ t ∈ A, Itm t) (hB : ∀ t ∈ B, Itm t) (hC : ∀ t ∈ C, Itm t) (lA : A.length ≤ 9) (lB : B.length ≤ 9) (lC : C.length ≤ 9) : Thing (.lst (A ++ B ++ C)) :=
  thing_lst (fun u m => (List.mem_append.mp m).elim (fun m => (List.mem_append.mp m).elim (hA u) (hB u)) (hC u)) (by rw [List.length_append, List.length_append]; omega)
def toI : T → T | .tup [p, q, .bl b] => .tup [p, q, .int (if b = true then 1 else 0)] | t => t
def toN : T → T | .tup [p, q, .bl b] => .tup [p, q, .bl (!b)] | t => t
theorem toI_a (a : SA) : toI (aT a) = iT a := rfl
def deepT (x y : Str) : Nat → T
  | 0 => .lst [.tup [.str x, .str y, .bl true]]
  | n + 1 => .lst [deepT x y n]
theorem gt_deep {x y : Str} (tw : Two x y) : ∀ n : Nat, Gt (300 + 4 * n) (2 + n) (deepT x y n)
  | 0 => (gt_lst (w := 255) (dp := 1) 1 (all_cons ⟨rfl, Gd.an ((x, y), true), rfl, sz_an ⟨tw.hx, tw.hy, tw.ne⟩⟩ all_nil) (Nat.le_refl _)).up (by decide) (by decide)
  | n + 1 => (gt_lst 1 (all_cons (gt_deep tw n) all_nil) (Nat.le_refl _)).up (by omega) (by omega)
def oddC (W : List SA) (x y : Str) : List T := [.tup (W.map aT), .lst [.lst (W.map aT)], .lst [.str x], deepT x y 30, .lst [.tup [.str x, .lst [], .bl true]], .lst [.tup [.lst [.str x], .str y, .bl true]], .lst [.tup [.str x, .str y, .lst []]]]
theorem oddC_th {W : List SA} {x y : Str} (okW : ∀ a ∈ W, OkA a) (lW : W.length ≤ 9) (tw : Two x y) : ∀ t ∈ oddC W x y, Thing t := by
  have gx := gt_str tw.hx (by decide)
  have gy := gt_str tw.hy (by decide)
  have nx := nm_str tw.hx
  have ny := nm_str tw.hy
  refine all_cons (thing_of (gt_tup 9 (gtW okW) (by rw [List.length_map]; exact lW)) (by decide) (by decide) fun _ e => (nomatch e)) ?_
  refine all_cons (thing_one (itm_of (gt_lst 9 (gtW okW) (by rw [List.length_map]; exact lW)) (by decide) (by decide) fun _ e => (nomatch e))) ?_
  refine all_cons (thing_one (itm_of gx (by decide) (by decide) fun _ e => (nomatch e))) ?_
  refine all_cons (thing_one (itm_of (gt_deep tw 29) (by decide) (by decide) fun _ e => (nomatch e))) ?_
  refine all_cons (thing_one (itm3 nx (nm_not fun _ e => (nomatch e)) gx gt_nil (gt_bl true))) ?_
  refine all_cons (thing_one (itm3 (nm_not fun _ e => (nomatch e)) ny (gt_one tw.hx) gy (gt_bl true))) ?_
  exact all_cons (thing_one (itm3 nx ny gx gy gt_nil)) all_nil
theorem odd_call {W : List SA} {xs : List Str} (okW : ∀ a ∈ W, OkA a) (lW : W.length ≤ 9) (nd : xs.Nodup) (ox : ∀ x ∈ xs, OkN 1 8 x) (l2 : 2 ≤ xs.length) (l6 : xs.length ≤ 6) (hb : BagOk st n) (k : ∀ x st', Thing x → Bg st n st' → Q x st') :
    callF (m_law_odd_walk c) [.ref n, .lst (W.map aT), .lst (xs.map .str)] st Q := by
  refine ⟨rfl, ?_⟩
  unfold D_law_odd_walk
  have hn := hb.lt
  walk_at "ks"
  refine seq_cut (fun env' s1 => ∃ x y, Two x y ∧ Bg st n s1 ∧ env' = [some (.ref n), some (.lst (W.map aT)), some (.lst (xs.map .str)), none, none, none, some (.str x), some (.str y), none, none, none, none, none]) (fun K hK => ?_) ?_
  · walk_at "ko"
    refine pairs_call ox (by omega) ?_
    walk_at "ko"
    have lp := pairsL_len (sortS xs)
    have ls : (sortS xs).length = xs.length := (sortS_perm xs).length_eq
    have l36 : (sortS xs).length * (sortS xs).length ≤ 6 * 6 := Nat.mul_le_mul (by omega) (by omega)
    refine pick_call (pairs_pure _) (fun z => pairs_ne nd l2 (List.map_eq_nil_iff.mp z)) (by rw [List.length_map]; omega) hb fun z s1 mz g1 => ?_
    obtain ⟨p, mp, rfl⟩ := List.mem_map.mp mz
    obtain ⟨m1, m2, ne⟩ := pairsL_mem mp
    have os : ∀ x ∈ sortS xs, OkN 1 8 x := fun x m => ox x ((sortS_perm xs).mem_iff.mp m)
    walk_at "ko"
    refine ⟨rfl, ?_⟩
    walk_at "ko"
    refine ⟨rfl, ?_⟩
    exact hK _ _ ⟨p.1, p.2, ⟨os _ m1, os _ m2, fun z => ne z.symm⟩, g1, rfl⟩
  rintro env' s1 ⟨x, y, tw, g1, rfl⟩
  have ls1 : s1.length = st.length := g1.len
  walk_at "ks"
  refine seq_cut (fun env' s2 => ∃ X : List T, (∀ t ∈ X, Thing t) ∧ X.length = 11 ∧ s2 = s1 ++ [.lst X] ∧ env' = [some (.ref n), some (.lst (W.map aT)), some (.lst (xs.map .str)), some (.ref st.length), none, none, some (.str x), some (.str y), none, none, none, none, none]) (fun K hK => ?_) ?_
  · walk_at "kd"
    refine ⟨by decide, by decide, by decide, ?_⟩
    walk_at "kd"
    have h := oddA_th tw
    refine ⟨pure_all (fun t m => (h t m).pure) _, ?_⟩
    rw [ls1]
    walk_at "ko"
    exact hK _ _ ⟨oddA x y, h, rfl, rfl, rfl⟩
  rintro env' s2 ⟨X, hX, lX, rfl, rfl⟩
  have at1 : ∀ (u : List Cell) (z : Cell), (s1 ++ z :: u)[st.length]? = some z := fun u z => by rw [List.getElem?_append_right (by omega), ls1, Nat.sub_self]; rfl
  walk_at "ks"
  refine seq_cut (fun env' s3 => ∃ Y : List T, (∀ t ∈ Y, Thing t) ∧ Y.length = 16 ∧ s3 = s1 ++ [.lst X, .lst Y] ∧ env' = [some (.ref n), some (.lst (W.map aT)), some (.lst (xs.map .str)), some (.ref (st.length + 1)), none, none, some (.str x), some (.str y), none, none, none, none, none]) (fun K hK => ?_) ?_
  · walk_at "kd"
    have h := oddB_th tw
    have hh : ∀ t ∈ X ++ oddB x y, Thing t := fun t m => (List.mem_append.mp m).elim (hX t) (h t)
    refine x_addC (xs := X) (ys := oddB x y) (at1 _ _) (by rw [lX]; exact Nat.le_of_ble_eq_true rfl) (pure_all (fun t m => (hh t m).pure) _) ?_
    rw [show (s1 ++ [Cell.lst X]).length = st.length + 1 by simp [ls1]]
    walk_at "ko"
    exact hK _ _ ⟨X ++ oddB x y, hh, by rw [List.length_append, lX]; rfl, by simp, rfl⟩
  rintro env' s3 ⟨Y, hY, lY, rfl, rfl⟩
  have at2 : ∀ (a z : Cell) (u : List Cell), (s1 ++ a :: z :: u)[st.length + 1]? = some z := fun a z u => by rw [List.getElem?_append_right (by omega), ls1, show st.length + 1 - st.length = 1 by omega]; rfl
  walk_at "ks"
  refine seq_cut (fun env' s4 => s4 = s1 ++ [.lst X, .lst Y] ∧ env' = [some (.ref n), some (.lst (W.map aT)), some (.lst (xs.map .str)), some (.ref (st.length + 1)), some (deepT x y 0), none, some (.str x), some (.str y), none, none, none, none, none]) (fun K hK => ?_) ?_
  · walk_at "kd"
    exact hK _ _ ⟨rfl, rfl⟩
  rintro env' s4 ⟨rfl, rfl⟩
  walk_at "ks"
  refine seq_cut (fun env' s5 => s5 = s1 ++ [.lst X, .lst Y] ∧ ∃ o5, env' = [some (.ref n), some (.lst (W.map aT)), some (.lst (xs.map .str)), some (.ref (st.length + 1)), some (deepT x y 30), o5, some (.str x), some (.str y), none, none, none, none, none]) (fun K hK => ?_) ?_
  · walk_at "ko"
    refine ⟨by decide, by decide, ?_⟩
    refine for_ind (fun as env st' => st' = s1 ++ [.lst X, .lst Y] ∧ (∀ a ∈ as, a.pure = true) ∧ ∃ (j : Nat) (o5 : Option T), j + as.length = 30 ∧ env = [some (.ref n), some (.lst (W.map aT)), some (.lst (xs.map .str)), some (.ref (st.length + 1)), some (deepT x y j), o5, some (.str x), some (.str y), none, none, none, none, none]) ?_ ?_ _ _ _ ⟨rfl, fun a m => ?_, 0, none, by decide, rfl⟩
    · rintro a as env st' ⟨rfl, pa, j, o5, e, rfl⟩ C kC
      refine ⟨trivial, T.pure_in (pa a List.mem_cons_self) _, ?_⟩
      walk_at "kd"
      exact kC _ _ ⟨rfl, fun a m => pa a (List.mem_cons_of_mem _ m), j + 1, _, by simp at e; omega, rfl⟩
    · rintro env st' ⟨rfl, pa, j, o5, e, rfl⟩
      have : j = 30 := by simpa using e
      subst this
      exact ⟨trivial, hK _ _ ⟨rfl, _, rfl⟩⟩
    · obtain ⟨i, _, rfl⟩ := List.mem_map.mp m
      rfl
  rintro env' s5 ⟨rfl, o5, rfl⟩
  walk_at "ks"
  refine seq_cut (fun env' s6 => ∃ Z : List T, (∀ t ∈ Z, Thing t) ∧ Z.length = 23 ∧ s6 = s1 ++ [.lst X, .lst Y, .lst Z] ∧ env' = [some (.ref n), some (.lst (W.map aT)), some (.lst (xs.map .str)), some (.ref (st.length + 2)), some (deepT x y 30), o5, some (.str x), some (.str y), none, none, none, none, none]) (fun K hK => ?_) ?_
  · walk_at "kd"
    refine ⟨⟨lst_not, fun z => (nomatch z)⟩, ?_⟩
    walk_at "kd"
    have h := oddC_th okW lW tw
    have hh : ∀ t ∈ Y ++ oddC W x y, Thing t := fun t m => (List.mem_append.mp m).elim (hY t) (h t)
    refine x_addC (xs := Y) (ys := oddC W x y) (at2 _ _ _) (by rw [lY]; exact Nat.le_of_ble_eq_true rfl) (pure_all (fun t m => (hh t m).pure) _) ?_
    rw [show (s1 ++ [Cell.lst X, Cell.lst Y]).length = st.length + 2 by simp [ls1]]
    walk_at "ko"
    exact hK _ _ ⟨Y ++ oddC W x y, hh, by rw [List.length_append, lY]; rfl, by simp, rfl⟩
  rintro env' s6 ⟨Z, hZ, lZ, rfl, rfl⟩
  have at3 : ∀ (a b z : Cell), (s1 ++ [a, b, z])[st.length + 2]? = some z := fun a b z => by rw [List.getElem?_append_right (by omega), ls1, show st.length + 2 - st.length = 2 by omega]; rfl
  have st3 : ∀ (a b z z' : Cell), (s1 ++ [a, b, z]).set (st.length + 2) z' = s1 ++ [a, b, z'] := fun a b z z' => by rw [List.set_append_right _ _ (by omega), ls1, show st.length + 2 - st.length = 2 by omega]; rfl
  have lc : ∀ lo hi, (cutT (W.map aT) lo hi).length ≤ 9 := fun lo hi => Nat.le_trans (cutT_le _ _ _) (by rw [List.length_map]; exact lW)
  have ic : ∀ lo hi, ∀ t ∈ cutT (W.map aT) lo hi, Itm t := fun lo hi t m => itmL okW t (List.mem_of_mem_drop (List.mem_of_mem_take m))
  have mc : ∀ lo hi, ∀ t ∈ cutT (W.map aT) lo hi, ∃ a ∈ W, aT a = t := fun lo hi t m => List.mem_map.mp (List.mem_of_mem_drop (List.mem_of_mem_take m))
  have lj : ∀ lo hi, ((cutT (W.map aT) lo hi).map toI).length ≤ 9 := fun lo hi => by rw [List.length_map]; exact lc lo hi
  have ij : ∀ lo hi, ∀ t ∈ (cutT (W.map aT) lo hi).map toI, Itm t := fun lo hi t m => by
    obtain ⟨u, mu, rfl⟩ := List.mem_map.mp m
    obtain ⟨a, ma, rfl⟩ := mc lo hi u mu
    exact itm_i (okW a ma)
  walk_at "ks"
  refine seq_cut (fun env' s7 => ∃ Z : List T, (∀ t ∈ Z, Thing t) ∧ Z.length = 24 ∧ s7 = s1 ++ [.lst X, .lst Y, .lst Z] ∧ env' = [some (.ref n), some (.lst (W.map aT)), some (.lst (xs.map .str)), some (.ref (st.length + 2)), some (deepT x y 30), o5, some (.str x), some (.str y), none, none, none, none, none]) (fun K hK => ?_) ?_
  · walk_at "kd"
    refine ⟨x_isLs (at3 _ _ _), ?_⟩
    walk_at "kd"
    refine lc_pure (fun _ => true) toI (fun a ma C1 C0 k1 k0 => ?_) trivial ?_
    · obtain ⟨b, mb, rfl⟩ := mc _ _ a ma
      walk_at "kd"
      refine ⟨rfl, ?_⟩
      walk_at "kd"
      refine ⟨rfl, ?_⟩
      walk_at "kd"
      exact k1 rfl
    rw [filter_tt]
    walk_at "kd"
    refine ⟨(by have h1 := lc none (some 1); have h2 := lj (some 1) (some 2); show _ ≤ 100000; omega), ?_⟩
    walk_at "kd"
    refine ⟨(by have h1 := lc none (some 1); have h2 := lj (some 1) (some 2); have h3 := lc (some 2) none; rw [List.length_append]; show _ ≤ 100000; omega), ?_⟩
    have th := thing3 (ic none (some 1)) (ij (some 1) (some 2)) (ic (some 2) none) (lc _ _) (lj _ _) (lc _ _)
    walk_at "kd"
    refine x_cell (at3 _ _ _) ⟨by show _ < 100000; omega, T.pure_in th.pure _, ?_⟩
    rw [st3]
    exact hK _ _ ⟨_, fun t m => (List.mem_append.mp m).elim (hZ t) fun m => by rw [List.mem_singleton.mp m]; exact th, by rw [List.length_append, lZ]; rfl, rfl, rfl⟩
  rintro env' s7 ⟨Z, hZ, lZ, rfl, rfl⟩
  walk_at "ks"
  refine seq_cut (fun env' s8 => ∃ Z : List T, (∀ t ∈ Z, Thing t) ∧ Z.length = 25 ∧ s8 = s1 ++ [.lst X, .lst Y, .lst Z] ∧ env' = [some (.ref n), some (.lst (W.map aT)), some (.lst (xs.map .str)), some (.ref (st.length + 2)), some (deepT x y 30), o5, some (.str x), some (.str y), none, none, none, none, none]) (fun K hK => ?_) ?_
  · walk_at "kd"
    refine ⟨x_isLs (at3 _ _ _), ?_⟩
    walk_at "kd"
    refine lc_pure (fun _ => true) toI (fun a ma C1 C0 k1 k0 => ?_) trivial ?_
    · obtain ⟨b, mb, rfl⟩ := mc _ _ a ma
      walk_at "kd"
      refine ⟨rfl, ?_⟩
      walk_at "kd"
      refine ⟨rfl, ?_⟩
      walk_at "kd"
      exact k1 rfl
    rw [filter_tt]
    walk_at "kd"
    refine ⟨(by have h1 := lj none (some 1); have h2 := lc (some 1) none; show _ ≤ 100000; omega), ?_⟩
    have th := thing2 (ij none (some 1)) (ic (some 1) none) (lj _ _) (lc _ _)
    walk_at "kd"
    refine x_cell (at3 _ _ _) ⟨by show _ < 100000; omega, T.pure_in th.pure _, ?_⟩
    rw [st3]
    exact hK _ _ ⟨_, fun t m => (List.mem_append.mp m).elim (hZ t) fun m => by rw [List.mem_singleton.mp m]; exact th, by rw [List.length_append, lZ]; rfl, rfl, rfl⟩
  rintro env' s8 ⟨Z, hZ, lZ, rfl, rfl⟩
  have bg0 : BagOk s1 n := g1.ok hn
  walk_at "ks"
  refine seq_cut (fun env' s9 => ∃ (way at_ : Nat) (s0 : Stt), at_ ≤ W.length ∧ Bg st n s0 ∧ s9 = s0 ++ [.lst X, .lst Y, .lst Z] ∧ env' = [some (.ref n), some (.lst (W.map aT)), some (.lst (xs.map .str)), some (.ref (st.length + 2)), some (deepT x y 30), o5, some (.str x), some (.str y), some (.int way), some (.int at_), none, none, none]) (fun K hK => ?_) ?_
  · walk_at "ko"
    refine take_call bg0.app (by decide) (by decide) fun r s2 r0 r1 g2 => ?_
    obtain ⟨s2', rfl, g2'⟩ := g2.app bg0.lt
    have bg2 := g2'.ok bg0.lt
    walk_at "ko"
    refine take_call bg2.app (by omega) (by rw [List.length_map]; omega) fun r' s3 r0' r1' g3 => ?_
    obtain ⟨s3', rfl, g3'⟩ := g3.app bg2.lt
    walk_at "ko"
    rw [List.length_map] at r1'
    exact hK _ _ ⟨r.toNat, r'.toNat, s3', by omega, (g1.trans g2').trans g3', rfl, by rw [show ((r.toNat : Nat) : Int) = r by omega, show ((r'.toNat : Nat) : Int) = r' by omega]; rfl⟩
  rintro env' s9 ⟨way, at_, s0, la, g9, rfl, rfl⟩
  have ls0 : s0.length = st.length := g9.len
  have fin : ∀ x : T, Thing x → exitF st.length (s0 ++ [Cell.lst X, .lst Y, .lst Z]) x fun t' => Q t' ((s0 ++ [Cell.lst X, .lst Y, .lst Z]).take st.length) := fun x th => by
    refine exit_pure th.pure ?_
    rw [← ls0, List.take_left]
    exact k x s0 th g9
  have bg9 : BagOk s0 n := g9.ok hn
  have big9 : ∀ {A C : List T}, A.length ≤ 18 → C.length ≤ 9 → A.length + C.length ≤ Vw.big := fun h k => by show _ ≤ 100000; omega
  walk_at "ko"
  refine x_ite (fun _ => ?_) fun _ => ?_
  · walk_at "ko"
    refine take_call bg9.app (by decide) (by decide) fun r s3 r0 r1 g3 => ?_
    obtain ⟨s3', rfl, g3'⟩ := g3.app bg9.lt
    have ls3 : s3'.length = st.length := g3'.len.trans ls0
    have at3' : (s3' ++ [Cell.lst X, .lst Y, .lst Z])[st.length + 2]? = some (.lst Z) := by rw [List.getElem?_append_right (by omega), ls3, show st.length + 2 - st.length = 2 by omega]; rfl
    have lt : r.toNat < Z.length := by omega
    refine x_ixR at3' (t := Z[r.toNat]) (by have e := atI_nat (List.getElem?_eq_getElem lt); rw [show ((r.toNat : Nat) : Int) = r by omega] at e; exact e) ?_
    have th := hZ _ (List.getElem_mem lt)
    refine exit_pure th.pure ?_
    rw [← ls3, List.take_left]
    exact k _ s3' th (g9.trans g3')
  walk_at "ko"
  refine x_eqI ?_
  refine x_ite (fun _ => ?_) fun _ => ?_
  · walk_at "ko"
    exact fin _ (thing_lst (fun u m => itmL okW u (List.mem_reverse.mp m)) (by rw [List.length_reverse, List.length_map]; omega))
  walk_at "ko"
  refine x_eqI ?_
  refine x_ite (fun _ => ?_) fun _ => ?_
  · walk_at "ko"
    refine take_call bg9.app (by decide) (by decide) fun r s3 r0 r1 g3 => ?_
    obtain ⟨s3', rfl, g3'⟩ := g3.app bg9.lt
    have ls3 : s3'.length = st.length := g3'.len.trans ls0
    walk_at "ko"
    refine x_eqI ?_
    walk_at "kd"
    refine ⟨big9 (Nat.le_trans (lc _ _) (by decide)) (by show 1 ≤ 9; decide), ?_⟩
    walk_at "kd"
    refine ⟨big9 (by rw [List.length_append]; have := lc none (some (at_ : Int)); show _ + 1 ≤ 18; omega) (lc _ _), ?_⟩
    have th := thing3 (ic none (some (at_ : Int))) (B := [.tup [.str x, .str y, .bl (decide (r = 0))]]) (all_cons (itm_a (a := ((x, y), decide (r = 0))) ⟨tw.hx, tw.hy, tw.ne⟩) all_nil) (ic (some (at_ : Int)) none) (lc _ _) (by show 1 ≤ 9; decide) (lc _ _)
    refine exit_pure th.pure ?_
    rw [← ls3, List.take_left]
    exact k _ s3' th (g9.trans g3')
  walk_at "ko"
  refine x_eqI ?_
  refine x_ite (fun _ => ?_) fun _ => ?_
  · walk_at "ko"
    refine ⟨big9 (Nat.le_trans (lc _ _) (by decide)) (lc _ _), ?_⟩
    exact fin _ (thing2 (ic _ _) (ic _ _) (lc _ _) (lc _ _))
  walk_at "ko"
  refine x_eqI ?_
  refine x_ite (fun _ => ?_) fun _ => ?_
  · walk_at "ko"
    refine ⟨big9 (by rw [List.length_map]; omega) (lc _ _), ?_⟩
    exact fin _ (thing2 (itmL okW) (ic _ _) (by rw [List.length_map]; exact lW) (lc _ _))
  walk_at "ko"
  refine x_eqI ?_
  refine x_ite (fun _ => ?_) fun _ => ?_
  · walk_at "ko"
    refine lc_pure (fun _ => true) toN (fun a ma C1 C0 k1 k0 => ?_) trivial ?_
    · obtain ⟨b, mb, rfl⟩ := mc _ _ a ma
      walk_at "kd"
      refine ⟨rfl, ?_⟩
      walk_at "kd"
      refine ⟨rfl, ?_⟩
      walk_at "kd"
      exact k1 rfl
    rw [filter_tt]
    walk_at "ko"
    have ln : ∀ lo hi, ((cutT (W.map aT) lo hi).map toN).length ≤ 9 := fun lo hi => by rw [List.length_map]; exact lc lo hi
    have iN : ∀ lo hi, ∀ t ∈ (cutT (W.map aT) lo hi).map toN, Itm t := fun lo hi t m => by
      obtain ⟨u, mu, rfl⟩ := List.mem_map.mp m
      obtain ⟨a, ma, rfl⟩ := mc lo hi u mu
      exact itm_a (a := (a.1, !a.2)) ⟨(okW a ma).x, (okW a ma).y, (okW a ma).ne⟩
    refine ⟨big9 (Nat.le_trans (lc _ _) (by decide)) (ln _ _), ?_⟩
    walk_at "ko"
    refine ⟨big9 (by rw [List.length_append]; have h1 := lc none (some (at_ : Int)); have h2 := ln (some (at_ : Int)) (some ((at_ : Int) + 1)); omega) (lc _ _), ?_⟩
    exact fin _ (thing3 (ic _ _) (iN _ _) (ic _ _) (lc _ _) (ln _ _) (lc _ _))
  walk_at "ko"
  refine ⟨big9 (Nat.le_trans (lc _ _) (by decide)) (lc _ _), ?_⟩
  exact fin _ (thing2 (ic _ _) (ic _ _) (lc _ _) (lc _ _))
end
end LW

/-! the law -/
namespace LW
open PySem PySem.Spec PyProof.Rows L2 Gd Vw
open PySem.W (dataLe AllAlike Sortable keyToks keyToksAll dataLt)


section
variable {c : Cf} {n : Nat} {st : Stt} {Q : T → Stt → Prop} {B : Bk c} {t : T} {ys : List Str} {As : List SA} {m : Nat}
theorem Pst.bg {st' : Stt} (ps : Pst st) (g : Bg st n st') : Pst st' := by
  obtain ⟨a, b, i, nn, rfl, z⟩ := g
  refine ps.set ?_
  show refsInL _ (bagT a b i nn) = true
  simp [bagT, refsInL, T.refsIn]
  exact pure_all (fun t mt => by obtain ⟨x, _, rfl⟩ := List.mem_map.mp mt; rfl) _
/-- the bag alone -/
structure Lst (n : Nat) (st : Stt) : Prop where
  bag : BagOk st n
  pst : Pst st
theorem Lst.go {st' : Stt} (h : Lst n st) (g : Bg st n st') : Lst n st' := ⟨g.ok h.bag.lt, h.pst.bg g⟩
theorem Lst.snoc {x : Cell} (h : Lst n st) (hx : x.refsIn (fun _ => false) = true) : Lst n (st ++ [x]) := ⟨h.bag.app, h.pst.snoc hx⟩
theorem bag_call {ns : List Int} (k : ∀ ms : List Int, ms.length ≤ 63 → Q (.ref st.length) (st ++ [.lst (bagT 0 1234567891 0 ms)])) : callT (m_law_bag c) [.scr ns] st Q := by
  refine ⟨rfl, ?_⟩
  unfold D_law_bag
  walk_at "ko"
  refine lc_pure (fun _ => true) (fun t => match t with | .int i => .int (if i < 0 then -i else i) | t => t) (fun a ma C1 C0 k1 k0 => ?_) trivial ?_
  · have ma : a ∈ cutT (ns.map T.int) none (some 63) := ma
    rw [show (some (63 : Int)) = some ((63 : Nat) : Int) from rfl, cutT_to, ← List.map_take] at ma
    obtain ⟨i, mi, rfl⟩ := List.mem_map.mp ma
    walk_at "ko"
    exact k1 rfl
  have fe : List.map (fun t => match t with | .int i => T.int (if i < 0 then -i else i) | t => t) (List.filter (fun _ => true) (cutT (ns.map T.int) none (some 63))) = ((ns.take 63).map fun i => if i < 0 then -i else i).map T.int := by
    rw [List.filter_eq_self.mpr (fun _ _ => rfl), show (some (63 : Int)) = some ((63 : Nat) : Int) from rfl, cutT_to, ← List.map_take, List.map_map, List.map_map]
    rfl
  rw [fe]
  walk_at "ko"
  have pb : (T.lst (bagT 0 1234567891 0 ((ns.take 63).map fun i => if i < 0 then -i else i))).pure = true := pure_lst fun t mt => by
    rcases List.mem_cons.mp mt with rfl | mt
    · rfl
    rcases List.mem_cons.mp mt with rfl | mt
    · rfl
    rcases List.mem_cons.mp mt with rfl | mt
    · rfl
    rw [List.mem_singleton.mp mt]
    exact pure_lst fun t mt => by
      obtain ⟨x, _, rfl⟩ := List.mem_map.mp mt
      rfl
  refine ⟨(by show 4 ≤ 100000; decide), cell_pure (pureL pb) _, ?_⟩
  refine keep_cell (Nat.le_refl _) get_snoc pb ?_
  rw [List.take_left]
  exact k _ (by rw [List.length_map, List.length_take]; omega)
/-- what a turn has drawn -/
structure Dr (xs : List Str) (As : List SA) : Prop where
  nd : xs.Nodup
  ok : ∀ x ∈ xs, OkN 1 8 x
  l2 : 2 ≤ xs.length
  l6 : xs.length ≤ 6
  and_ : (As.map (·.1)).Nodup
  okA : ∀ a ∈ As, OkA a
  lA : As.length ≤ 49
  fit : Fit xs As
theorem Dr.of {k : Nat} {xs : List Str} (h : Thg k xs) (l2 : 2 ≤ k) (l6 : k ≤ 6) (a : Ans (sortS xs) As) : Dr xs As := by
  have l := h.len
  have wf := Wf.of h.nd h.ok (show xs.length ≤ 6 by omega) a
  have q := sortA_perm As
  exact ⟨h.nd, h.ok, by omega, by omega, a.nd, fun b mb => wf.okA b (q.mem_iff.mpr mb), by rw [← q.length_eq]; exact wf.lenA (by decide), wf.fit (by decide) (sortS_perm xs).symm (fun b mb => q.mem_iff.mpr mb) a.few⟩
theorem walkB_no {x : T} (h : ∀ xs, x ≠ .lst xs) : walkB As x = false := by
  cases x with
  | lst xs => exact absurd rfl (h xs)
  | _ => rfl
theorem lawWalk_call {x : T} (okA : ∀ a ∈ As, OkA a) (h : Thing x ∨ IsB B x ys As) (q : Q (.bl (walkB As x)) st) : callF (m_law_is_walk B) [.lst (As.map aT), x] st Q := by
  rcases h with h | h
  · by_cases e : ∃ xs, x = .lst xs
    · obtain ⟨xs, rfl⟩ := e
      exact lawWalk_list okA (h.items xs rfl).1 (h.items xs rfl).2 q
    · have no : ∀ xs, x ≠ .lst xs := fun xs z => e ⟨xs, z⟩
      rw [walkB_no no] at q
      obtain ⟨d, hd, _⟩ := h.dat
      exact lawWalk_no (.inr ⟨d, hd, no⟩) q
  · have no : ∀ xs, x ≠ .lst xs := fun xs z => by
      obtain ⟨L, _, e⟩ := h
      rw [e] at z
      cases z
    rw [walkB_no no] at q
    exact lawWalk_no (.inl h.isO) q
theorem isWalk_call {u x : T} (hu : IsB B u ys As) (nd : (As.map (·.1)).Nodup) (okA : ∀ a ∈ As, OkA a) (h : Thing x ∨ IsB B x ys As) (q : Q (.bl (walkB As x)) st) : callF (mis_walk B) [u, x] st Q := by
  rcases h with h | h
  · by_cases e : ∃ xs, x = .lst xs
    · obtain ⟨xs, rfl⟩ := e
      exact isWalk_list hu nd okA (h.items xs rfl).1 (h.items xs rfl).2 q
    · have no : ∀ xs, x ≠ .lst xs := fun xs z => e ⟨xs, z⟩
      rw [walkB_no no] at q
      obtain ⟨d, hd, _⟩ := h.dat
      exact isWalk_no (.inr ⟨d, hd, no⟩) q
  · have no : ∀ xs, x ≠ .lst xs := fun xs z => by
      obtain ⟨L, _, e⟩ := h
      rw [e] at z
      cases z
    rw [walkB_no no] at q
    exact isWalk_no (.inl h.isO) q
theorem sz_int {i : Int} (h : i.natAbs < 1000) : Sz 1003 0 (.int i) := by
  have l : i.natAbs.log2 ≤ 999 := by
    by_cases z : i.natAbs = 0
    · rw [z]; decide
    · have := Nat.log2_self_le z
      have h2 := Nat.lt_two_pow_self (n := i.natAbs.log2)
      omega
  exact ⟨by simp [okd]; omega, by simp [PyData.hasDict], by simp [Gd.wt]; omega, by simp [PyData.depth]⟩
theorem betN_le (W : List SA) : betN W ≤ W.length := by
  unfold betN
  rw [List.length_map]
  exact Nat.le_trans (List.length_filter_le _ _) (by rw [List.length_map]; exact Nat.le_refl _)
def wD (W : List SA) : PyData := .tuple [.int ((betN W : Nat) - ((W.length : Nat) - (betN W : Nat))), .int (betN W : Nat)]
theorem wT_view (W : List SA) : view st (wT W) = some (wD W) := rfl
theorem wD_fine {W : List SA} (l : W.length ≤ 9) : Fine (wD W) ∧ (wD W).hasDict = false := by
  have hb := betN_le W
  have s := sz_tup (w := 1003) (dp := 0) (n := 2) (ds := [.int ((betN W : Nat) - ((W.length : Nat) - (betN W : Nat))), .int (betN W : Nat)]) (all_cons (sz_int (by omega)) (all_cons (sz_int (by omega)) all_nil)) (by show 2 ≤ 2; decide)
  exact ⟨s.fine (by decide) (by decide), s.nd⟩
theorem alikeB_call {b : Bool} (q : Q (.bl true) st) : callF (m_law_alike c) [.bl b, .bl b] st Q :=
  alike_call (d := .bool b) rfl rfl ((sz_bool b).fine (by decide) (by decide)) (sz_bool b).nd q
theorem OkA.lead {a : SA} (h : OkA a) : OkN 1 8 (leadP a).1 ∧ OkN 1 8 (leadP a).2 := by
  unfold leadP
  split
  · exact ⟨h.x, h.y⟩
  · exact ⟨h.y, h.x⟩
def thrS (a : SA) (W : List SA) : List Str := (leadP a).1 :: W.map fun b => (leadP b).2
theorem thrS_eq (a : SA) (W : List SA) : throughL a W = (thrS a W).map T.str := by
  unfold throughL thrS
  rw [List.map_cons, List.map_map]
  rfl
theorem thrS_ok {a : SA} {W : List SA} (ok : ∀ b ∈ a :: W, OkA b) : ∀ s ∈ thrS a (a :: W), OkN 1 8 s := fun s m => by
  rcases List.mem_cons.mp m with rfl | m
  · exact (ok a List.mem_cons_self).lead.1
  · obtain ⟨b, mb, rfl⟩ := List.mem_map.mp m
    exact (ok b mb).lead.2
theorem law_main {ns : List Int} : mlaw B [.scr ns] [] (fun t _ => t = .bl true) := by
  refine ⟨rfl, ?_⟩
  unfold Dlaw
  walk_at "ko"
  refine bag_call fun ms lm => ?_
  walk_at "ks"
  have L0 : Lst 0 ([] ++ [Cell.lst (bagT 0 1234567891 0 ms)]) := ⟨⟨0, 1234567891, 0, ms, rfl, lm⟩, fun x mx => by
    rw [List.mem_singleton.mp mx]
    show refsInL _ (bagT 0 1234567891 0 ms) = true
    simp [bagT, refsInL, T.refsIn]
    exact pure_all (fun t mt => by obtain ⟨x, _, rfl⟩ := List.mem_map.mp mt; rfl) _⟩
  refine seq_cut (fun env' st' => Lst 0 st') (fun K hK => ?_) ?_
  · walk_at "ks"
    refine ⟨by decide, by decide, ?_⟩
    refine for_ind (fun as env st' => Lst 0 st' ∧ (∀ a ∈ as, a.pure = true) ∧ ∃ o2 o3 o4 o5 o6 o7 o8 o9 o10 o11 o12 o13 o14, env = [some (.scr ns), some (.ref 0), o2, o3, o4, o5, o6, o7, o8, o9, o10, o11, o12, o13, o14]) ?_ ?_ _ _ _ ⟨L0, fun a ma => ?_, none, none, none, none, none, none, none, none, none, none, none, none, none, rfl⟩
    · rintro a as env st0 ⟨L, pa, o2, o3, o4, o5, o6, o7, o8, o9, o10, o11, o12, o13, o14, rfl⟩ C kC
      refine ⟨trivial, T.pure_in (pa a List.mem_cons_self) _, ?_⟩
      walk_at "ks"
      refine seq_cut (fun env' s1 => ∃ (k : Nat) (xs : List Str), 2 ≤ k ∧ k ≤ 6 ∧ Thg k xs ∧ Bg st0 0 s1 ∧ env' = [some (.scr ns), some (.ref 0), some a, some (.lst (xs.map .str)), o4, o5, o6, o7, o8, o9, o10, o11, o12, o13, o14]) (fun K hK => ?_) ?_
      · walk_at "ko"
        refine take_call L.bag (by decide) (by decide) fun r s1 r0 r1 g1 => ?_
        walk_at "ko"
        rw [show (2 + r : Int) = ((2 + r.toNat : Nat) : Int) by omega]
        refine names_spec (m := 2 + r.toNat) (by omega) (L.go g1).bag fun xs s2 hx g2 => ?_
        walk_at "ko"
        exact hK _ _ ⟨2 + r.toNat, xs, by omega, by omega, hx, g1.trans g2, rfl⟩
      rintro env' s1 ⟨k, xs, k2, k6, hx, g1, rfl⟩
      have L1 := L.go g1
      walk_at "ks"
      refine seq_cut (fun env' s2 => ∃ As : List SA, Dr xs As ∧ Bg s1 0 s2 ∧ env' = [some (.scr ns), some (.ref 0), some a, some (.lst (xs.map .str)), some (.lst (As.map aT)), o5, o6, o7, o8, o9, o10, o11, o12, o13, o14]) (fun K hK => ?_) ?_
      · walk_at "ko"
        refine take_call L1.bag (by decide) (by decide) fun r s2 r0 r1 g2 => ?_
        walk_at "ko"
        rw [show (2 + r : Int) = ((2 + r.toNat : Nat) : Int) by omega]
        refine any_call hx.nd hx.ok (by have := hx.len; omega) (L1.go g2).bag fun As s3 ha g3 => ?_
        walk_at "ko"
        exact hK _ _ ⟨As, Dr.of hx k2 k6 ha, g2.trans g3, rfl⟩
      rintro env' s2 ⟨As, dr, g2, rfl⟩
      have L2 := L1.go g2
      walk_at "ks"
      refine seq_cut (fun env' s3 => ∃ b : T, IsB B b (sortS xs) As ∧ s3 = s2 ∧ env' = [some (.scr ns), some (.ref 0), some a, some (.lst (xs.map .str)), some (.lst (As.map aT)), some b, o6, o7, o8, o9, o10, o11, o12, o13, o14]) (fun K hK => ?_) ?_
      · walk_at "ko"
        refine make_call (.lst _) (fun z => (nomatch z)) (.lst _) dr.fit L2.pst ?_
        refine exit_obj (Nat.le_refl _) mk_at (bookF_refs _) ?_
        rw [List.take_left]
        walk_at "ko"
        exact hK _ _ ⟨_, ⟨gather As, gather_perm dr.and_ dr.fit.con fun _ => Iff.rfl, rfl⟩, rfl, rfl⟩
      rintro env' s3 ⟨b, hb, rfl, rfl⟩
      walk_at "ks"
      refine ⟨by decide, by decide, ?_⟩
      refine for_ind (fun is env st' => Lst 0 st' ∧ (∀ a ∈ is, a.pure = true) ∧ ∃ o6 o7 o8 o9 o10 o11 o12 o13 o14, env = [some (.scr ns), some (.ref 0), some a, some (.lst (xs.map .str)), some (.lst (As.map aT)), some b, o6, o7, o8, o9, o10, o11, o12, o13, o14]) ?_ ?_ _ _ _ ⟨L2, fun a ma => ?_, o6, o7, o8, o9, o10, o11, o12, o13, o14, rfl⟩
      · rintro e es env t0 ⟨M, pe, o6, o7, o8, o9, o10, o11, o12, o13, o14, rfl⟩ C' kC'
        refine ⟨trivial, T.pure_in (pe e List.mem_cons_self) _, ?_⟩
        with_reducible apply y_gN
        walk_at "ks"
        refine seq_cut (fun env' t1 => ∃ W : List SA, (∀ a ∈ W, OkA a) ∧ W.length ≤ 9 ∧ Bg t0 0 t1 ∧ env' = [some (.scr ns), some (.ref 0), some a, some (.lst (xs.map .str)), some (.lst (As.map aT)), some b, some e, some (.lst (W.map aT)), o8, o9, o10, o11, o12, o13, o14]) (fun K hK => ?_) ?_
        · walk_at "ko"
          refine walk_call dr.okA (Nat.le_trans dr.lA (by decide)) M.bag fun W t1 sub lW g => ?_
          walk_at "ko"
          exact hK _ _ ⟨W, fun a m => dr.okA a (sub a m), lW, g, rfl⟩
        rintro env' t1 ⟨W, okW, lW, g, rfl⟩
        have M1 := M.go g
        obtain ⟨d, hd, sd⟩ := (thing_lst (itmL okW) (by rw [List.length_map]; omega)).dat
        have rep : ∀ {st : Stt} {Q : T → Stt → Prop}, Q (.str d.shown) st → (oRepr : ON c).w st [.lst (W.map aT)] Q := fun q => x_repr (view_data hd) sd q
        walk_at "ks"
        refine seq_cut (fun env' t2 => t2 = t1 ∧ env' = [some (.scr ns), some (.ref 0), some a, some (.lst (xs.map .str)), some (.lst (As.map aT)), some b, some e, some (.lst (W.map aT)), o8, o9, some (.str d.shown), some (wT W), o12, o13, o14]) (fun K hK => ?_) ?_
        · walk_at "ko"
          refine rep ?_
          walk_at "ko"
          refine weight_call ?_
          walk_at "ko"
          exact hK _ _ ⟨rfl, rfl⟩
        rintro env' t2 ⟨rfl, rfl⟩
        walk_at "ks"
        refine seq_cut (fun env' t3 => t3 = t2 ∧ env' = [some (.scr ns), some (.ref 0), some a, some (.lst (xs.map .str)), some (.lst (As.map aT)), some b, some e, some (.lst (W.map aT)), o8, o9, some (.str d.shown), some (wT W), o12, o13, o14]) (fun K hK => ?_) ?_
        · walk_at "ko"
          refine weightOf_call ?_
          walk_at "ko"
          refine alike_call (wT_view W) (wT_view W) (wD_fine lW).1 (wD_fine lW).2 ?_
          refine x_iteF rfl ?_
          walk_at "ko"
          refine rep ?_
          walk_at "ko"
          refine x_neStr ?_
          rw [decide_eq_true rfl]
          refine x_iteF rfl ?_
          walk_at "ko"
          exact hK _ _ ⟨rfl, rfl⟩
        rintro env' t3 ⟨rfl, rfl⟩
        walk_at "ks"
        refine seq_cut (fun env' t4 => Lst 0 t4 ∧ ∃ o8 o12, env' = [some (.scr ns), some (.ref 0), some a, some (.lst (xs.map .str)), some (.lst (As.map aT)), some b, some e, some (.lst (W.map aT)), o8, o9, some (.str d.shown), some (wT W), o12, o13, o14]) (fun K hK => ?_) ?_
        · walk_at "ko"
          refine ⟨Nat.zero_le _, ?_⟩
          refine x_neNilA okW ?_
          walk_at "ko"
          refine ⟨.inl ⟨by decide, by decide⟩, ?_⟩
          walk_at "ko"
          refine ⟨by split <;> decide, by split <;> decide, ?_⟩
          refine for_ind (fun is env st' => Lst 0 st' ∧ (∀ a ∈ is, a.pure = true) ∧ (is ≠ [] → W ≠ []) ∧ ∃ o8 o12, env = [some (.scr ns), some (.ref 0), some a, some (.lst (xs.map .str)), some (.lst (As.map aT)), some b, some e, some (.lst (W.map aT)), o8, o9, some (.str d.shown), some (wT W), o12, o13, o14]) ?_ ?_ _ _ _ ⟨M1, fun a ma => ?_, fun z e0 => ?_, o8, o12, rfl⟩
          · rintro r rs env u0 ⟨U, pr, nz, o8, o12, rfl⟩ C2 kC2
            refine ⟨trivial, T.pure_in (pr r List.mem_cons_self) _, ?_⟩
            obtain ⟨w, W', rfl⟩ : ∃ w W', W = w :: W' := by
              cases W with
              | nil => exact absurd rfl (nz (by simp))
              | cons w W' => exact ⟨w, W', rfl⟩
            walk_at "ko"
            refine through_call (Nat.le_trans (by simp at lW; omega) (show 9 ≤ 1000 by decide)) ?_
            walk_at "ko"
            refine told_call (Nat.le_trans (by simp at lW; omega) (show 9 ≤ 1000 by decide)) ?_
            walk_at "ko"
            have ok := thrS_ok okW
            have sz : Sz 3000 1 (.list ((thrS w (w :: W')).map .str)) := (sz_lst (w := 82) (dp := 0) (n := 11) (fun d md => by
              obtain ⟨y, my, rfl⟩ := List.mem_map.mp md
              exact sz_str (ok y my) (by decide)) (by rw [List.length_map]; simp [thrS]; simp at lW; omega)).up (by decide) (by decide)
            have v1 : view (u0 ++ [Cell.lst (throughL w (w :: W'))]) (.ref u0.length) = some (.list ((thrS w (w :: W')).map .str)) := view_ref get_snoc (by rw [thrS_eq]; exact toDL_strs _)
            have v2 : view (u0 ++ [Cell.lst (throughL w (w :: W'))]) (.lst (throughL w (w :: W'))) = some (.list ((thrS w (w :: W')).map .str)) := by rw [thrS_eq]; exact view_strs
            refine alike_call v1 v2 (sz.fine (by decide) (by decide)) sz.nd ?_
            refine x_iteF rfl ?_
            walk_at "ko"
            refine ⟨x_isLs get_snoc, ?_⟩
            walk_at "ko"
            refine x_cell get_snoc ⟨by show _ < 100000; simp [throughL]; simp at lW; omega, rfl, ?_⟩
            rw [List.set_append_right _ _ (Nat.le_refl _), Nat.sub_self]
            have pc : (Cell.lst (throughL w (w :: W') ++ [T.non])).refsIn (fun _ => false) = true := pure_all (fun t m => by
              rcases List.mem_append.mp m with m | m
              · rw [thrS_eq] at m
                obtain ⟨s, _, rfl⟩ := List.mem_map.mp m
                rfl
              · rw [List.mem_singleton.mp m]; rfl) _
            exact kC2 _ _ ⟨U.snoc pc, fun a m => pr a (List.mem_cons_of_mem _ m), fun _ => nz (by simp), _, _, rfl⟩
          · rintro env u0 ⟨U, _, _, o8, o12, rfl⟩
            exact ⟨trivial, hK _ _ ⟨U, o8, o12, rfl⟩⟩
          · obtain ⟨i, _, rfl⟩ := List.mem_map.mp ma
            rfl
          · refine z ?_
            rw [e0]
            rfl
        rintro env' t4 ⟨M4, o8, o12, rfl⟩
        walk_at "ks"
        refine seq_cut (fun env' t5 => t5 = t4 ∧ env' = [some (.scr ns), some (.ref 0), some a, some (.lst (xs.map .str)), some (.lst (As.map aT)), some b, some e, some (.lst (W.map aT)), o8, o9, some (.str d.shown), some (wT W), o12, o13, o14]) (fun K hK => ?_) ?_
        · walk_at "ko"
          refine rep ?_
          walk_at "ko"
          refine x_neStr ?_
          rw [decide_eq_true rfl]
          refine x_iteF rfl ?_
          walk_at "ko"
          exact hK _ _ ⟨rfl, rfl⟩
        rintro env' t5 ⟨rfl, rfl⟩
        walk_at "ko"
        refine odd_call okW lW dr.nd dr.ok dr.l2 dr.l6 M4.bag fun x1 t6 th1 g6 => ?_
        walk_at "ko"
        refine odd_call okW lW dr.nd dr.ok dr.l2 dr.l6 (M4.go g6).bag fun x2 t7 th2 g7 => ?_
        walk_at "ko"
        refine ⟨(by show 4 ≤ 100000; decide), ?_⟩
        have M7 := (M4.go g6).go g7
        have thW := thing_lst (itmL okW) (by rw [List.length_map]; omega)
        have all4 : ∀ u ∈ [T.lst (W.map aT), x1, x2, b], Thing u ∨ IsB B u (sortS xs) As := all_cons (.inl thW) (all_cons (.inl th1) (all_cons (.inl th2) (all_cons (.inr hb) all_nil)))
        walk_at "ks"
        generalize [T.lst (W.map aT), x1, x2, b] = us at all4
        refine for_ind (fun is env st' => Lst 0 st' ∧ (∀ u ∈ is, Thing u ∨ IsB B u (sortS xs) As) ∧ ∃ o8 o9 o13 o14, env = [some (.scr ns), some (.ref 0), some a, some (.lst (xs.map .str)), some (.lst (As.map aT)), some b, some e, some (.lst (W.map aT)), o8, o9, some (.str d.shown), some (wT W), o12, o13, o14]) ?_ ?_ _ _ _ ⟨M7, all4, o8, o9, o13, o14, rfl⟩
        · rintro u vs env t8 ⟨M8, hu, o8, o9, o13, o14, rfl⟩ C3 kC3
          have h1 := hu u List.mem_cons_self
          have pu : u.pure = true := h1.elim (fun h => h.pure) fun h => h.pure
          refine ⟨trivial, T.pure_in pu _, ?_⟩
          walk_at "ks"
          refine seq_cut (fun env' t9 => t9 = t8 ∧ env' = [some (.scr ns), some (.ref 0), some a, some (.lst (xs.map .str)), some (.lst (As.map aT)), some b, some e, some (.lst (W.map aT)), o8, some u, some (.str d.shown), some (wT W), o12, some (.bl (walkB As u)), some (.str "")]) (fun K hK => ?_) ?_
          · walk_at "ko"
            refine lawWalk_call dr.okA h1 ?_
            walk_at "ko"
            exact hK _ _ ⟨rfl, rfl⟩
          rintro env' t9 ⟨rfl, rfl⟩
          walk_at "ks"
          refine seq_cut (fun env' t10 => t10 = t9 ∧ ∃ s : Str, (s = "" ∨ ∃ d, u.toD = some d ∧ Shown d ∧ s = d.shown) ∧ env' = [some (.scr ns), some (.ref 0), some a, some (.lst (xs.map .str)), some (.lst (As.map aT)), some b, some e, some (.lst (W.map aT)), o8, some u, some (.str d.shown), some (wT W), o12, some (.bl (walkB As u)), some (.str s)]) (fun K hK => ?_) ?_
          · walk_at "ko"
            rcases h1 with th | hbu
            · obtain ⟨d', hd', sd'⟩ := th.dat
              refine .inr ⟨by rw [view_data hd']; rfl, ?_⟩
              refine x_iteT rfl ?_
              walk_at "ko"
              refine x_repr (view_data hd') sd' ?_
              walk_at "ko"
              exact hK _ _ ⟨rfl, d'.shown, .inr ⟨d', hd', sd', rfl⟩, rfl⟩
            · refine .inl ⟨hbu.isO, ?_⟩
              refine x_iteF rfl ?_
              walk_at "ko"
              exact hK _ _ ⟨rfl, "", .inl rfl, rfl⟩
          rintro env' t10 ⟨rfl, s, hs, rfl⟩
          walk_at "ks"
          refine seq_cut (fun env' t11 => t11 = t10 ∧ ∃ o8, env' = [some (.scr ns), some (.ref 0), some a, some (.lst (xs.map .str)), some (.lst (As.map aT)), some b, some e, some (.lst (W.map aT)), o8, some u, some (.str d.shown), some (wT W), o12, some (.bl (walkB As u)), some (.str s)]) (fun K hK => ?_) ?_
          · walk_at "ks"
            refine ⟨by decide, by decide, ?_⟩
            refine for_ind (fun is env st' => st' = t10 ∧ (∀ a ∈ is, a.pure = true) ∧ ∃ o8, env = [some (.scr ns), some (.ref 0), some a, some (.lst (xs.map .str)), some (.lst (As.map aT)), some b, some e, some (.lst (W.map aT)), o8, some u, some (.str d.shown), some (wT W), o12, some (.bl (walkB As u)), some (.str s)]) ?_ ?_ _ _ _ ⟨rfl, fun a ma => ?_, o8, rfl⟩
            · rintro r rs env w0 ⟨rfl, pr, o8, rfl⟩ C4 kC4
              refine ⟨trivial, T.pure_in (pr r List.mem_cons_self) _, ?_⟩
              walk_at "ko"
              refine isWalk_call hb dr.and_ dr.okA h1 ?_
              walk_at "ko"
              refine alikeB_call ?_
              refine x_iteF rfl ?_
              walk_at "ko"
              exact kC4 _ _ ⟨rfl, fun a m => pr a (List.mem_cons_of_mem _ m), _, rfl⟩
            · rintro env w0 ⟨rfl, _, o8, rfl⟩
              exact ⟨trivial, hK _ _ ⟨rfl, o8, rfl⟩⟩
            · obtain ⟨i, _, rfl⟩ := List.mem_map.mp ma
              rfl
          rintro env' t11 ⟨rfl, o8, rfl⟩
          walk_at "ko"
          refine x_neStr ?_
          rcases hs with rfl | ⟨d', hd', sd', rfl⟩
          · rw [decide_eq_true rfl]
            refine x_iteF rfl ?_
            walk_at "ko"
            exact kC3 _ _ ⟨M8, fun v m => hu v (List.mem_cons_of_mem _ m), _, _, _, _, rfl⟩
          · refine x_ite (fun _ => ?_) fun _ => ?_
            · walk_at "ko"
              refine x_repr (view_data hd') sd' ?_
              walk_at "ko"
              refine x_neStr ?_
              rw [decide_eq_true rfl]
              refine x_iteF rfl ?_
              walk_at "ko"
              exact kC3 _ _ ⟨M8, fun v m => hu v (List.mem_cons_of_mem _ m), _, _, _, _, rfl⟩
            · walk_at "ko"
              exact kC3 _ _ ⟨M8, fun v m => hu v (List.mem_cons_of_mem _ m), _, _, _, _, rfl⟩
        · rintro env t8 ⟨M8, _, o8, o9, o13, o14, rfl⟩
          exact ⟨trivial, kC' _ _ ⟨M8, fun a ma => pe a (List.mem_cons_of_mem _ ma), _, _, _, _, _, _, _, _, _, rfl⟩⟩
      · rintro env st' ⟨M, _, o6, o7, o8, o9, o10, o11, o12, o13, o14, rfl⟩
        exact ⟨trivial, kC _ _ ⟨M, fun a ma => pa a (List.mem_cons_of_mem _ ma), _, _, _, _, _, _, _, _, _, _, _, _, _, rfl⟩⟩
      · obtain ⟨i, _, rfl⟩ := List.mem_map.mp ma
        rfl
    · rintro env st' ⟨L, _, _⟩
      exact ⟨trivial, hK _ _ L⟩
    · obtain ⟨i, _, rfl⟩ := List.mem_map.mp ma
      rfl
  rintro env' st' L
  walk_at "ks"
  have f0 : Fit [] [] := ⟨List.nodup_nil, fun _ m => (nomatch m), Nat.zero_le _, fun _ m => (nomatch m), fun _ m => (nomatch m), fun _ m => (nomatch m), Nat.zero_le _⟩
  refine ⟨Nat.zero_le _, ?_⟩
  walk_at "ko"
  refine make_call (ys := []) (As := []) (.lst []) (fun z => (nomatch z)) .emp f0 L.pst ?_
  refine exit_obj (Nat.le_refl _) mk_at (bookF_refs _) ?_
  rw [List.take_left]
  walk_at "ko"
  refine ⟨Nat.zero_le _, ?_⟩
  walk_at "ko"
  have hb : IsB B (.obj B.C (bookF (sortS []) (gather []))) (sortS []) [] := ⟨gather [], gather_perm List.nodup_nil f0.con fun _ => Iff.rfl, rfl⟩
  refine isWalk_call hb List.nodup_nil (fun _ m => (nomatch m)) (.inl (thing_lst (xs := []) (fun _ m => (nomatch m)) (Nat.zero_le _))) ?_
  rw [show walkB [] (.lst []) = true from rfl]
  walk_at "ko"
  rw [decide_eq_true rfl]
  refine x_iteT rfl ?_
  walk_at "ko"
  refine ⟨Nat.zero_le _, ?_⟩
  walk_at "ko"
  refine make_call (ys := []) (As := []) (.lst []) (fun z => (nomatch z)) .emp f0 L.pst ?_
  refine exit_obj (Nat.le_refl _) mk_at (bookF_refs _) ?_
  rw [List.take_left]
  walk_at "kd"
  refine isWalk_call hb List.nodup_nil (fun _ m => (nomatch m)) (.inl (thing_one itm_tup0)) ?_
  have e0 : walkB [] (.lst [.tup []]) = false := by
    show ([T.tup []].all (isIn []) && _) = false
    simp only [List.all_cons]
    rw [isIn_f (by rintro ⟨a, m, _⟩; cases m)]
    rfl
  rw [e0]
  walk_at "ko"
  rfl
end
end LW

/-! the text does so -/
namespace LW
open PySem PySem.Spec PyProof.Rows L2 Gd Vw
def top (i : Nat) : Stmt := PySem.Challenge.pw_barelybetter_k20_walks_told.main.body.getD i (.Pass ⟨0, 0, 0, 0⟩)
structure Txt (mg : Str → Option Value) : Prop where
  b_abs : mg "abs" = none
  b_all : mg "all" = none
  b_bool : mg "bool" = none
  b_int : mg "int" = none
  b_isinstance : mg "isinstance" = none
  b_len : mg "len" = none
  b_list : mg "list" = none
  b_range : mg "range" = none
  b_repr : mg "repr" = none
  b_set : mg "set" = none
  b_sorted : mg "sorted" = none
  b_str : mg "str" = none
  b_tuple : mg "tuple" = none
  b_zip : mg "zip" = none
  c_LONGEST_NAME : ∃ u, mg "LONGEST_NAME" = some u ∧ RelV (.int 8) u
structure Own (P : Program) (w : World) (K : PySem.W.Frag) (mg : Str → Option Value) (B : Bk ⟨P, w, K⟩) : Prop where
  hm : mg "Book" = some (.ref B.C)
  fnk : ∀ f, PySem.W.findIn K (.ref B.C) "__getitem__" = some (some (.ref f)) → PySem.W.fnIn K f = true
  hne : PySem.W.findIn K (.ref B.C) "__ne__" = some (some (.builtin "object.__ne__"))
  hmo : PySem.W.mroIn K B.C (.type "object") = some true
  made : ∃ f fd, Mk K B.C f ∧ C8.Fun K "__init__" "Book.__init__" (inCls (top 23) 0) f fd ∧ Binds K fd ["self", "things", "answers"] [] ∧ Binds K fd ["self", "things", "answers"] [.ref B.df]
section
variable {P : Program} {w : World} {K : PySem.W.Frag} {mg : Str → Option Value} {base : Heap}
abbrev sis_name : Stmt := top 3
theorem scis_name : FnScope ["thing"] ["thing"] (defScope sis_name) := ⟨rfl, rfl, rfl, by decide +kernel, rfl, by decide +kernel, by decide +kernel⟩
theorem okis_name (X : K.In base) (G : base.Ns mainGlobals mg) (T : Txt mg) (A : DefAt K "is_name" sis_name) : CalR P w K mg base 1 "is_name" (SpT ⟨P, w, K⟩ (mis_name ⟨P, w, K⟩)) :=
  defR X G A scis_name rfl (fun _ _ _ _ _ _ us hl => match us, hl with | [_], _ => rfl) fun f cdv A outer s H E hr => by
    dsimp only [Dis_name, eV, eC, eI, eS, eB, eN, aN, aC, eTup, eLst, eLstC, eDK, eDKC, eDTC, eOp, eUn, eCB, tE, tTe, tNo, tAn, tOrr, tY, eAnd, eOr, eNot, eIf, eChain, sNx, sSeq, sNever, sBrk, sCnt, sDrop, sRet, sRetN, sIf, gN, gT, gsN, gsC, sAsg, sPar, sWh, sFor, eLc, eLcC, eLc2, eDcT, iA, iR1, iR2, iEn, iZi, iOwnX, oII, oIB, oIC, oSub, oMod, oDiv, oPow, oLt, oLe, oGt, oGe, oNeg, oAdd, oMul, oMulC, oRepS, oEq, oNe, oIsN, oNotN, oIn, oNin, oIx, pN, pS, eSl, on1, oLen, oAbs, oInt, oIntS, oList, oListC, oListD, oListO, oListOC, oTuple, oAll, oAny, oRepr, oSort, eSortV, oSortDT, oDict, oSet, oInS, oNinS, oLenZ, oLenO, oInO, oIxO, oEqO, oNeO, eDisp, eBM, eBM0, mAppend, mExtend, mClear, mReverse, mPop, mPopAt, mS0, mJoin, hN, hT, hsN, hsC, hSub, sAsH, sAugS, eCl, eClK, eClT, eC0, eC0K, eC0T, sFrz, eDGet, eDGet1, eDGet2, eDIn, eDNin, sDPt, eIsi, eIsi2, eIsiO, eFld, sFldC, eMk, eMkK, eMt, eMtT, eRev, oIsB, eIsiB, oAddC]
    exact (pss_cons (ps_if (PW.pt (pw_or (pt_not (pt_val (pe_callB call_isi (by rfl) T.b_isinstance (by decide +kernel) (pa_cons (pv 0) (pa_cons (pe_bltn (v := .ty "str") (by rfl) T.b_str (by decide +kernel) rfl) pa_nil))))) (pw_or1 (pt_not (pt_chain op_le op_le pe_int (pe_callB call_lenA (by rfl) T.b_len (by decide +kernel) (pa_cons (pv 0) pa_nil)) (C8.pe_gc (by rfl) T.c_LONGEST_NAME))))))
      (pss_one (ps_ret pe_bl))
      pss_nil)
    (pss_one (ps_ret (pe_and (pe_bm0 PySem.F.plainAttrs_str PySem.F.slot_str_isascii PySem.F.type_str_isascii mt_isascii (pv 0)) (pe_and (pe_bm0 PySem.F.plainAttrs_str PySem.F.slot_str_isalpha PySem.F.type_str_isalpha mt_isalpha (pv 0)) (pe_one (pe_bm0 PySem.F.plainAttrs_str PySem.F.slot_str_islower PySem.F.type_str_islower mt_islower (pv 0))))))))
abbrev sis_pair : Stmt := top 4
theorem scis_pair : FnScope ["thing"] ["thing"] (defScope sis_pair) := ⟨rfl, rfl, rfl, by decide +kernel, rfl, by decide +kernel, by decide +kernel⟩
theorem okis_pair (X : K.In base) (G : base.Ns mainGlobals mg) (T : Txt mg) (A : DefAt K "is_pair" sis_pair) (cis_name : CalR P w K mg base 1 "is_name" (SpT ⟨P, w, K⟩ (mis_name ⟨P, w, K⟩))) : CalR P w K mg base 2 "is_pair" (SpT ⟨P, w, K⟩ (mis_pair ⟨P, w, K⟩)) :=
  defR X G A scis_pair rfl (fun _ _ _ _ _ _ us hl => match us, hl with | [_], _ => rfl) fun f cdv A outer s H E hr => by
    dsimp only [Dis_pair, eV, eC, eI, eS, eB, eN, aN, aC, eTup, eLst, eLstC, eDK, eDKC, eDTC, eOp, eUn, eCB, tE, tTe, tNo, tAn, tOrr, tY, eAnd, eOr, eNot, eIf, eChain, sNx, sSeq, sNever, sBrk, sCnt, sDrop, sRet, sRetN, sIf, gN, gT, gsN, gsC, sAsg, sPar, sWh, sFor, eLc, eLcC, eLc2, eDcT, iA, iR1, iR2, iEn, iZi, iOwnX, oII, oIB, oIC, oSub, oMod, oDiv, oPow, oLt, oLe, oGt, oGe, oNeg, oAdd, oMul, oMulC, oRepS, oEq, oNe, oIsN, oNotN, oIn, oNin, oIx, pN, pS, eSl, on1, oLen, oAbs, oInt, oIntS, oList, oListC, oListD, oListO, oListOC, oTuple, oAll, oAny, oRepr, oSort, eSortV, oSortDT, oDict, oSet, oInS, oNinS, oLenZ, oLenO, oInO, oIxO, oEqO, oNeO, eDisp, eBM, eBM0, mAppend, mExtend, mClear, mReverse, mPop, mPopAt, mS0, mJoin, hN, hT, hsN, hsC, hSub, sAsH, sAugS, eCl, eClK, eClT, eC0, eC0K, eC0T, sFrz, eDGet, eDGet1, eDGet2, eDIn, eDNin, sDPt, eIsi, eIsi2, eIsiO, eFld, sFldC, eMk, eMkK, eMt, eMtT, eRev, oIsB, eIsiB, oAddC]
    exact (pss_cons (ps_if (PW.pt (pw_or (pt_not (pt_val (pe_callB call_isi (by rfl) T.b_isinstance (by decide +kernel) (pa_cons (pv 0) (pa_cons (pe_bltn (v := .ty "tuple") (by rfl) T.b_tuple (by decide +kernel) rfl) pa_nil))))) (pw_or1 (pt_cmpR (op_neA hr.units) (pe_callB call_lenA (by rfl) T.b_len (by decide +kernel) (pa_cons (pv 0) pa_nil)) pe_int (nomark _)))))
      (pss_one (ps_ret pe_bl))
      pss_nil)
    (pss_one (ps_ret (pe_and (pe_cr cis_name hr (by decide) (pa_cons (pe_ix ix_seq (pv 0) pe_int (fun _ _ => rfl)) pa_nil)) (pe_and (pe_cr cis_name hr (by decide) (pa_cons (pe_ix ix_seq (pv 0) pe_int (fun _ _ => rfl)) pa_nil)) (pe_one (pe_cmpR (op_neA hr.units) (pe_ix ix_seq (pv 0) pe_int (fun _ _ => rfl)) (pe_ix ix_seq (pv 0) pe_int (fun _ _ => rfl)) (nomark _))))))))
abbrev sis_answer : Stmt := top 5
theorem scis_answer : FnScope ["thing"] ["thing"] (defScope sis_answer) := ⟨rfl, rfl, rfl, by decide +kernel, rfl, by decide +kernel, by decide +kernel⟩
theorem okis_answer (X : K.In base) (G : base.Ns mainGlobals mg) (T : Txt mg) (A : DefAt K "is_answer" sis_answer) (cis_pair : CalR P w K mg base 2 "is_pair" (SpT ⟨P, w, K⟩ (mis_pair ⟨P, w, K⟩))) : CalR P w K mg base 3 "is_answer" (SpT ⟨P, w, K⟩ (mis_answer ⟨P, w, K⟩)) :=
  defR X G A scis_answer rfl (fun _ _ _ _ _ _ us hl => match us, hl with | [_], _ => rfl) fun f cdv A outer s H E hr => by
    dsimp only [Dis_answer, eV, eC, eI, eS, eB, eN, aN, aC, eTup, eLst, eLstC, eDK, eDKC, eDTC, eOp, eUn, eCB, tE, tTe, tNo, tAn, tOrr, tY, eAnd, eOr, eNot, eIf, eChain, sNx, sSeq, sNever, sBrk, sCnt, sDrop, sRet, sRetN, sIf, gN, gT, gsN, gsC, sAsg, sPar, sWh, sFor, eLc, eLcC, eLc2, eDcT, iA, iR1, iR2, iEn, iZi, iOwnX, oII, oIB, oIC, oSub, oMod, oDiv, oPow, oLt, oLe, oGt, oGe, oNeg, oAdd, oMul, oMulC, oRepS, oEq, oNe, oIsN, oNotN, oIn, oNin, oIx, pN, pS, eSl, on1, oLen, oAbs, oInt, oIntS, oList, oListC, oListD, oListO, oListOC, oTuple, oAll, oAny, oRepr, oSort, eSortV, oSortDT, oDict, oSet, oInS, oNinS, oLenZ, oLenO, oInO, oIxO, oEqO, oNeO, eDisp, eBM, eBM0, mAppend, mExtend, mClear, mReverse, mPop, mPopAt, mS0, mJoin, hN, hT, hsN, hsC, hSub, sAsH, sAugS, eCl, eClK, eClT, eC0, eC0K, eC0T, sFrz, eDGet, eDGet1, eDGet2, eDIn, eDNin, sDPt, eIsi, eIsi2, eIsiO, eFld, sFldC, eMk, eMkK, eMt, eMtT, eRev, oIsB, eIsiB, oAddC]
    exact (pss_cons (ps_if (PW.pt (pw_or (pt_not (pt_val (pe_callB call_isi (by rfl) T.b_isinstance (by decide +kernel) (pa_cons (pv 0) (pa_cons (pe_bltn (v := .ty "tuple") (by rfl) T.b_tuple (by decide +kernel) rfl) pa_nil))))) (pw_or1 (pt_cmpR (op_neA hr.units) (pe_callB call_lenA (by rfl) T.b_len (by decide +kernel) (pa_cons (pv 0) pa_nil)) pe_int (nomark _)))))
      (pss_one (ps_ret pe_bl))
      pss_nil)
    (pss_one (ps_ret (pe_and (pe_cr cis_pair hr (by decide) (pa_cons (pe_slice sl_V (pv 0) po_none (po_some pe_int)) pa_nil)) (pe_one (pe_callB call_isi (by rfl) T.b_isinstance (by decide +kernel) (pa_cons (pe_ix ix_seq (pv 0) pe_int (fun _ _ => rfl)) (pa_cons (pe_bltn (v := .ty "bool") (by rfl) T.b_bool (by decide +kernel) rfl) pa_nil))))))))
abbrev sare_names : Stmt := top 6
theorem scare_names : FnScope ["thing", "name"] ["thing"] (defScope sare_names) := ⟨rfl, rfl, rfl, by decide +kernel, rfl, by decide +kernel, by decide +kernel⟩
theorem okare_names (X : K.In base) (G : base.Ns mainGlobals mg) (T : Txt mg) (A : DefAt K "are_names" sare_names) (cis_name : CalR P w K mg base 1 "is_name" (SpT ⟨P, w, K⟩ (mis_name ⟨P, w, K⟩))) : CalR P w K mg base 2 "are_names" (SpT ⟨P, w, K⟩ (mare_names ⟨P, w, K⟩)) :=
  defR X G A scare_names rfl (fun _ _ _ _ _ _ us hl => match us, hl with | [_], _ => rfl) fun f cdv A outer s H E hr => by
    dsimp only [Dare_names, eV, eC, eI, eS, eB, eN, aN, aC, eTup, eLst, eLstC, eDK, eDKC, eDTC, eOp, eUn, eCB, tE, tTe, tNo, tAn, tOrr, tY, eAnd, eOr, eNot, eIf, eChain, sNx, sSeq, sNever, sBrk, sCnt, sDrop, sRet, sRetN, sIf, gN, gT, gsN, gsC, sAsg, sPar, sWh, sFor, eLc, eLcC, eLc2, eDcT, iA, iR1, iR2, iEn, iZi, iOwnX, oII, oIB, oIC, oSub, oMod, oDiv, oPow, oLt, oLe, oGt, oGe, oNeg, oAdd, oMul, oMulC, oRepS, oEq, oNe, oIsN, oNotN, oIn, oNin, oIx, pN, pS, eSl, on1, oLen, oAbs, oInt, oIntS, oList, oListC, oListD, oListO, oListOC, oTuple, oAll, oAny, oRepr, oSort, eSortV, oSortDT, oDict, oSet, oInS, oNinS, oLenZ, oLenO, oInO, oIxO, oEqO, oNeO, eDisp, eBM, eBM0, mAppend, mExtend, mClear, mReverse, mPop, mPopAt, mS0, mJoin, hN, hT, hsN, hsC, hSub, sAsH, sAugS, eCl, eClK, eClT, eC0, eC0K, eC0T, sFrz, eDGet, eDGet1, eDGet2, eDIn, eDNin, sDPt, eIsi, eIsi2, eIsiO, eFld, sFldC, eMk, eMkK, eMt, eMtT, eRev, oIsB, eIsiB, oAddC]
    exact (pss_cons (ps_if (pt_not (pt_val (pe_callB call_isiT (by rfl) T.b_isinstance (by decide +kernel) (pa_cons (pv 0) (pa_cons (pe_tup (pa_cons (pe_bltn (v := .ty "list") (by rfl) T.b_list (by decide +kernel) rfl) (pa_cons (pe_bltn (v := .ty "tuple") (by rfl) T.b_tuple (by decide +kernel) rfl) pa_nil))) pa_nil)))))
      (pss_one (ps_ret pe_bl))
      pss_nil)
    (pss_one (ps_ret (pe_and (pe_callB (cr_all rfl) (by rfl) T.b_all (by decide +kernel) (pa_cons (pe_lc (own := [("name", 1)]) rfl scare_names.nd (pi_any (pv 0)) (blkOk_by (by rfl)) (fun _ _ _ _ _ => (pg_name (i := 1) scare_names.nd rfl (Or.inl rfl))) (fun _ _ _ _ _ => pts_nil) (fun _ _ _ _ _ => (pe_cr cis_name hr (by decide) (pa_cons (pv 1) pa_nil)))) pa_nil)) (pe_one (pe_cmpR (op_eqA hr.units) (pe_callB call_lenZ (by rfl) T.b_len (by decide +kernel) (pa_cons (pe_callTy (call_setT rfl) (by rfl) T.b_set (by decide +kernel) (pa_cons (pv 0) pa_nil)) pa_nil)) (pe_callB call_lenA (by rfl) T.b_len (by decide +kernel) (pa_cons (pv 0) pa_nil)) (nomark _)))))))
abbrev sare_answers : Stmt := top 7
theorem scare_answers : FnScope ["thing", "answer"] ["thing"] (defScope sare_answers) := ⟨rfl, rfl, rfl, by decide +kernel, rfl, by decide +kernel, by decide +kernel⟩
theorem okare_answers (X : K.In base) (G : base.Ns mainGlobals mg) (T : Txt mg) (A : DefAt K "are_answers" sare_answers) (cis_answer : CalR P w K mg base 3 "is_answer" (SpT ⟨P, w, K⟩ (mis_answer ⟨P, w, K⟩))) : CalR P w K mg base 4 "are_answers" (SpT ⟨P, w, K⟩ (mare_answers ⟨P, w, K⟩)) :=
  defR X G A scare_answers rfl (fun _ _ _ _ _ _ us hl => match us, hl with | [_], _ => rfl) fun f cdv A outer s H E hr => by
    dsimp only [Dare_answers, eV, eC, eI, eS, eB, eN, aN, aC, eTup, eLst, eLstC, eDK, eDKC, eDTC, eOp, eUn, eCB, tE, tTe, tNo, tAn, tOrr, tY, eAnd, eOr, eNot, eIf, eChain, sNx, sSeq, sNever, sBrk, sCnt, sDrop, sRet, sRetN, sIf, gN, gT, gsN, gsC, sAsg, sPar, sWh, sFor, eLc, eLcC, eLc2, eDcT, iA, iR1, iR2, iEn, iZi, iOwnX, oII, oIB, oIC, oSub, oMod, oDiv, oPow, oLt, oLe, oGt, oGe, oNeg, oAdd, oMul, oMulC, oRepS, oEq, oNe, oIsN, oNotN, oIn, oNin, oIx, pN, pS, eSl, on1, oLen, oAbs, oInt, oIntS, oList, oListC, oListD, oListO, oListOC, oTuple, oAll, oAny, oRepr, oSort, eSortV, oSortDT, oDict, oSet, oInS, oNinS, oLenZ, oLenO, oInO, oIxO, oEqO, oNeO, eDisp, eBM, eBM0, mAppend, mExtend, mClear, mReverse, mPop, mPopAt, mS0, mJoin, hN, hT, hsN, hsC, hSub, sAsH, sAugS, eCl, eClK, eClT, eC0, eC0K, eC0T, sFrz, eDGet, eDGet1, eDGet2, eDIn, eDNin, sDPt, eIsi, eIsi2, eIsiO, eFld, sFldC, eMk, eMkK, eMt, eMtT, eRev, oIsB, eIsiB, oAddC]
    exact (pss_one (ps_ret (pe_and (pe_callB call_isiT (by rfl) T.b_isinstance (by decide +kernel) (pa_cons (pv 0) (pa_cons (pe_tup (pa_cons (pe_bltn (v := .ty "list") (by rfl) T.b_list (by decide +kernel) rfl) (pa_cons (pe_bltn (v := .ty "tuple") (by rfl) T.b_tuple (by decide +kernel) rfl) pa_nil))) pa_nil))) (pe_one (pe_callB (cr_all rfl) (by rfl) T.b_all (by decide +kernel) (pa_cons (pe_lc (own := [("answer", 1)]) rfl scare_answers.nd (pi_any (pv 0)) (blkOk_by (by rfl)) (fun _ _ _ _ _ => (pg_name (i := 1) scare_answers.nd rfl (Or.inl rfl))) (fun _ _ _ _ _ => pts_nil) (fun _ _ _ _ _ => (pe_cr cis_answer hr (by decide) (pa_cons (pv 1) pa_nil)))) pa_nil))))))
abbrev sfirst_stranger : Stmt := top 8
theorem scfirst_stranger : FnScope ["things", "pairs", "known", "pair", "name"] ["things", "pairs"] (defScope sfirst_stranger) := ⟨rfl, rfl, rfl, by decide +kernel, rfl, by decide +kernel, by decide +kernel⟩
theorem okfirst_stranger (X : K.In base) (G : base.Ns mainGlobals mg) (T : Txt mg) (A : DefAt K "first_stranger" sfirst_stranger) : CalR P w K mg base 1 "first_stranger" (SpT ⟨P, w, K⟩ (mfirst_stranger ⟨P, w, K⟩)) :=
  defR X G A scfirst_stranger rfl (fun _ _ _ _ _ _ us hl => match us, hl with | [_, _], _ => rfl) fun f cdv A outer s H E hr => by
    dsimp only [Dfirst_stranger, eV, eC, eI, eS, eB, eN, aN, aC, eTup, eLst, eLstC, eDK, eDKC, eDTC, eOp, eUn, eCB, tE, tTe, tNo, tAn, tOrr, tY, eAnd, eOr, eNot, eIf, eChain, sNx, sSeq, sNever, sBrk, sCnt, sDrop, sRet, sRetN, sIf, gN, gT, gsN, gsC, sAsg, sPar, sWh, sFor, eLc, eLcC, eLc2, eDcT, iA, iR1, iR2, iEn, iZi, iOwnX, oII, oIB, oIC, oSub, oMod, oDiv, oPow, oLt, oLe, oGt, oGe, oNeg, oAdd, oMul, oMulC, oRepS, oEq, oNe, oIsN, oNotN, oIn, oNin, oIx, pN, pS, eSl, on1, oLen, oAbs, oInt, oIntS, oList, oListC, oListD, oListO, oListOC, oTuple, oAll, oAny, oRepr, oSort, eSortV, oSortDT, oDict, oSet, oInS, oNinS, oLenZ, oLenO, oInO, oIxO, oEqO, oNeO, eDisp, eBM, eBM0, mAppend, mExtend, mClear, mReverse, mPop, mPopAt, mS0, mJoin, hN, hT, hsN, hsC, hSub, sAsH, sAugS, eCl, eClK, eClT, eC0, eC0K, eC0T, sFrz, eDGet, eDGet1, eDGet2, eDIn, eDNin, sDPt, eIsi, eIsi2, eIsiO, eFld, sFldC, eMk, eMkK, eMt, eMtT, eRev, oIsB, eIsiB, oAddC]
    exact (pss_cons (ps_set (i := 2) scfirst_stranger.nd rfl (Or.inl rfl) (pe_callTy (call_setT rfl) (by rfl) T.b_set (by decide +kernel) (pa_cons (pv 0) pa_nil)))
    (pss_cons (ps_for PassesOwn.never rfl (pi_any (pv 1)) (pg_name (i := 3) scfirst_stranger.nd rfl (Or.inl rfl))
      (pss_one (ps_for PassesOwn.never rfl (pi_any (pv 3)) (pg_name (i := 4) scfirst_stranger.nd rfl (Or.inl rfl))
        (pss_one (ps_if (pt_cmpR op_notInX (pv 4) (pv 2) rfl)
          (pss_one (ps_ret (pv 4)))
          pss_nil)))))
    (pss_one (ps_ret pe_non))))
abbrev spair_of : Stmt := top 9
theorem scpair_of : FnScope ["answer", "x", "y", "_"] ["answer"] (defScope spair_of) := ⟨rfl, rfl, rfl, by decide +kernel, rfl, by decide +kernel, by decide +kernel⟩
theorem okpair_of (X : K.In base) (G : base.Ns mainGlobals mg) (T : Txt mg) (A : DefAt K "pair_of" spair_of) : CalR P w K mg base 1 "pair_of" (SpT ⟨P, w, K⟩ (mpair_of ⟨P, w, K⟩)) :=
  defR X G A scpair_of rfl (fun _ _ _ _ _ _ us hl => match us, hl with | [_], _ => rfl) fun f cdv A outer s H E hr => by
    dsimp only [Dpair_of, eV, eC, eI, eS, eB, eN, aN, aC, eTup, eLst, eLstC, eDK, eDKC, eDTC, eOp, eUn, eCB, tE, tTe, tNo, tAn, tOrr, tY, eAnd, eOr, eNot, eIf, eChain, sNx, sSeq, sNever, sBrk, sCnt, sDrop, sRet, sRetN, sIf, gN, gT, gsN, gsC, sAsg, sPar, sWh, sFor, eLc, eLcC, eLc2, eDcT, iA, iR1, iR2, iEn, iZi, iOwnX, oII, oIB, oIC, oSub, oMod, oDiv, oPow, oLt, oLe, oGt, oGe, oNeg, oAdd, oMul, oMulC, oRepS, oEq, oNe, oIsN, oNotN, oIn, oNin, oIx, pN, pS, eSl, on1, oLen, oAbs, oInt, oIntS, oList, oListC, oListD, oListO, oListOC, oTuple, oAll, oAny, oRepr, oSort, eSortV, oSortDT, oDict, oSet, oInS, oNinS, oLenZ, oLenO, oInO, oIxO, oEqO, oNeO, eDisp, eBM, eBM0, mAppend, mExtend, mClear, mReverse, mPop, mPopAt, mS0, mJoin, hN, hT, hsN, hsC, hSub, sAsH, sAugS, eCl, eClK, eClT, eC0, eC0K, eC0T, sFrz, eDGet, eDGet1, eDGet2, eDIn, eDNin, sDPt, eIsi, eIsi2, eIsiO, eFld, sFldC, eMk, eMkK, eMt, eMtT, eRev, oIsB, eIsiB, oAddC]
    exact (pss_cons (ps_asg (pv 0) (pg_tup rfl (pgs_cons (pg_name (i := 1) scpair_of.nd rfl (Or.inl rfl)) (pgs_cons (pg_name (i := 2) scpair_of.nd rfl (Or.inl rfl)) (pgs_cons (pg_name (i := 3) scpair_of.nd rfl (Or.inl rfl)) pgs_nil)))))
    (pss_one (ps_ret (pe_tup (pa_cons (pv 1) (pa_cons (pv 2) pa_nil))))))
abbrev sends_of : Stmt := top 11
theorem scends_of : FnScope ["answer", "x", "y", "truth"] ["answer"] (defScope sends_of) := ⟨rfl, rfl, rfl, by decide +kernel, rfl, by decide +kernel, by decide +kernel⟩
theorem okends_of (X : K.In base) (G : base.Ns mainGlobals mg) (T : Txt mg) (A : DefAt K "ends_of" sends_of) : CalR P w K mg base 1 "ends_of" (SpT ⟨P, w, K⟩ (mends_of ⟨P, w, K⟩)) :=
  defR X G A scends_of rfl (fun _ _ _ _ _ _ us hl => match us, hl with | [_], _ => rfl) fun f cdv A outer s H E hr => by
    dsimp only [Dends_of, eV, eC, eI, eS, eB, eN, aN, aC, eTup, eLst, eLstC, eDK, eDKC, eDTC, eOp, eUn, eCB, tE, tTe, tNo, tAn, tOrr, tY, eAnd, eOr, eNot, eIf, eChain, sNx, sSeq, sNever, sBrk, sCnt, sDrop, sRet, sRetN, sIf, gN, gT, gsN, gsC, sAsg, sPar, sWh, sFor, eLc, eLcC, eLc2, eDcT, iA, iR1, iR2, iEn, iZi, iOwnX, oII, oIB, oIC, oSub, oMod, oDiv, oPow, oLt, oLe, oGt, oGe, oNeg, oAdd, oMul, oMulC, oRepS, oEq, oNe, oIsN, oNotN, oIn, oNin, oIx, pN, pS, eSl, on1, oLen, oAbs, oInt, oIntS, oList, oListC, oListD, oListO, oListOC, oTuple, oAll, oAny, oRepr, oSort, eSortV, oSortDT, oDict, oSet, oInS, oNinS, oLenZ, oLenO, oInO, oIxO, oEqO, oNeO, eDisp, eBM, eBM0, mAppend, mExtend, mClear, mReverse, mPop, mPopAt, mS0, mJoin, hN, hT, hsN, hsC, hSub, sAsH, sAugS, eCl, eClK, eClT, eC0, eC0K, eC0T, sFrz, eDGet, eDGet1, eDGet2, eDIn, eDNin, sDPt, eIsi, eIsi2, eIsiO, eFld, sFldC, eMk, eMkK, eMt, eMtT, eRev, oIsB, eIsiB, oAddC]
    exact (pss_cons (ps_asg (pv 0) (pg_tup rfl (pgs_cons (pg_name (i := 1) scends_of.nd rfl (Or.inl rfl)) (pgs_cons (pg_name (i := 2) scends_of.nd rfl (Or.inl rfl)) (pgs_cons (pg_name (i := 3) scends_of.nd rfl (Or.inl rfl)) pgs_nil)))))
    (pss_cons (ps_if (pt_val (pv 3))
      (pss_one (ps_ret (pe_tup (pa_cons (pv 1) (pa_cons (pv 2) pa_nil)))))
      pss_nil)
    (pss_one (ps_ret (pe_tup (pa_cons (pv 2) (pa_cons (pv 1) pa_nil)))))))
abbrev sBook__contains__ : Stmt := inCls (top 23) 10
theorem scBook__contains__ : FnScope ["self", "x"] ["self", "x"] (C8.fnScope sBook__contains__) := ⟨rfl, rfl, rfl, by decide +kernel, rfl, by decide +kernel, by decide +kernel⟩
theorem okBook__contains__ (T : Txt mg) (B : Bk ⟨P, w, K⟩) (O : Own P w K mg B) (cis_answer : CalR P w K mg base 3 "is_answer" (SpT ⟨P, w, K⟩ (mis_answer ⟨P, w, K⟩))) (cpair_of : CalR P w K mg base 1 "pair_of" (SpT ⟨P, w, K⟩ (mpair_of ⟨P, w, K⟩))) (A : MDef K B.C "__contains__" "Book.__contains__" sBook__contains__) : OwnF P w K mg base 4 B.C "__contains__" (SpT ⟨P, w, K⟩ (mBook__contains__ B)) :=
  (metR (D := DBook__contains__ B) A scBook__contains__ rfl (fun _ _ _ _ _ _ us hl => match us, hl with | [_, _], _ => rfl) fun cdv A outer s H E f hr => by
    dsimp only [DBook__contains__, eV, eC, eI, eS, eB, eN, aN, aC, eTup, eLst, eLstC, eDK, eDKC, eDTC, eOp, eUn, eCB, tE, tTe, tNo, tAn, tOrr, tY, eAnd, eOr, eNot, eIf, eChain, sNx, sSeq, sNever, sBrk, sCnt, sDrop, sRet, sRetN, sIf, gN, gT, gsN, gsC, sAsg, sPar, sWh, sFor, eLc, eLcC, eLc2, eDcT, iA, iR1, iR2, iEn, iZi, iOwnX, oII, oIB, oIC, oSub, oMod, oDiv, oPow, oLt, oLe, oGt, oGe, oNeg, oAdd, oMul, oMulC, oRepS, oEq, oNe, oIsN, oNotN, oIn, oNin, oIx, pN, pS, eSl, on1, oLen, oAbs, oInt, oIntS, oList, oListC, oListD, oListO, oListOC, oTuple, oAll, oAny, oRepr, oSort, eSortV, oSortDT, oDict, oSet, oInS, oNinS, oLenZ, oLenO, oInO, oIxO, oEqO, oNeO, eDisp, eBM, eBM0, mAppend, mExtend, mClear, mReverse, mPop, mPopAt, mS0, mJoin, hN, hT, hsN, hsC, hSub, sAsH, sAugS, eCl, eClK, eClT, eC0, eC0K, eC0T, sFrz, eDGet, eDGet1, eDGet2, eDIn, eDNin, sDPt, eIsi, eIsi2, eIsiO, eFld, sFldC, eMk, eMkK, eMt, eMtT, eRev, oIsB, eIsiB, oAddC]
    exact (pss_one (ps_ret (pe_and (pe_cr cis_answer hr (by decide) (pa_cons (pv 1) pa_nil)) (pe_one (pe_cmpR (op_eqA hr.units) (pe_dget1 (rm1 hr) (pe_fld (pv 0) rfl) (pe_cr cpair_of hr (by decide) (pa_cons (pv 1) pa_nil)) ⟨rfl, rfl, rfl, rfl⟩) (pe_ix ix_seq (pv 1) pe_int (fun _ _ => rfl)) (nomark _))))))).1
abbrev sis_walk : Stmt := top 13
theorem scis_walk : FnScope ["book", "thing", "ends", "answer", "ahead", "behind"] ["book", "thing"] (defScope sis_walk) := ⟨rfl, rfl, rfl, by decide +kernel, rfl, by decide +kernel, by decide +kernel⟩
theorem okis_walk (X : K.In base) (G : base.Ns mainGlobals mg) (T : Txt mg) (B : Bk ⟨P, w, K⟩) (O : Own P w K mg B) (A : DefAt K "is_walk" sis_walk) (o_contains : OwnF P w K mg base 4 B.C "__contains__" (SpT ⟨P, w, K⟩ (mBook__contains__ B))) (cends_of : CalR P w K mg base 1 "ends_of" (SpT ⟨P, w, K⟩ (mends_of ⟨P, w, K⟩))) : CalR P w K mg base 5 "is_walk" (SpT ⟨P, w, K⟩ (mis_walk B)) :=
  defR X G A scis_walk rfl (fun _ _ _ _ _ _ us hl => match us, hl with | [_, _], _ => rfl) fun f cdv A outer s H E hr => by
    dsimp only [Dis_walk, eV, eC, eI, eS, eB, eN, aN, aC, eTup, eLst, eLstC, eDK, eDKC, eDTC, eOp, eUn, eCB, tE, tTe, tNo, tAn, tOrr, tY, eAnd, eOr, eNot, eIf, eChain, sNx, sSeq, sNever, sBrk, sCnt, sDrop, sRet, sRetN, sIf, gN, gT, gsN, gsC, sAsg, sPar, sWh, sFor, eLc, eLcC, eLc2, eDcT, iA, iR1, iR2, iEn, iZi, iOwnX, oII, oIB, oIC, oSub, oMod, oDiv, oPow, oLt, oLe, oGt, oGe, oNeg, oAdd, oMul, oMulC, oRepS, oEq, oNe, oIsN, oNotN, oIn, oNin, oIx, pN, pS, eSl, on1, oLen, oAbs, oInt, oIntS, oList, oListC, oListD, oListO, oListOC, oTuple, oAll, oAny, oRepr, oSort, eSortV, oSortDT, oDict, oSet, oInS, oNinS, oLenZ, oLenO, oInO, oIxO, oEqO, oNeO, eDisp, eBM, eBM0, mAppend, mExtend, mClear, mReverse, mPop, mPopAt, mS0, mJoin, hN, hT, hsN, hsC, hSub, sAsH, sAugS, eCl, eClK, eClT, eC0, eC0K, eC0T, sFrz, eDGet, eDGet1, eDGet2, eDIn, eDNin, sDPt, eIsi, eIsi2, eIsiO, eFld, sFldC, eMk, eMkK, eMt, eMtT, eRev, oIsB, eIsiB, oAddC]
    exact (pss_cons (ps_if (PW.pt (pw_or (pt_not (pt_val (pe_callB call_isi (by rfl) T.b_isinstance (by decide +kernel) (pa_cons (pv 1) (pa_cons (pe_bltn (v := .ty "list") (by rfl) T.b_list (by decide +kernel) rfl) pa_nil))))) (pw_or1 (pt_not (pt_val (pe_callB (cr_all rfl) (by rfl) T.b_all (by decide +kernel) (pa_cons (pe_lc (own := [("answer", 3)]) rfl scis_walk.nd (pi_any (pv 1)) (blkOk_by (by rfl)) (fun _ _ _ _ _ => (pg_name (i := 3) scis_walk.nd rfl (Or.inl rfl))) (fun _ _ _ _ _ => pts_nil) (fun _ _ _ _ _ => (pe_cmpR (op_inO (o_contains.mono (by decide)) hr) (pv 3) (pv 0) rfl))) pa_nil)))))))
      (pss_one (ps_ret pe_bl))
      pss_nil)
    (pss_cons (ps_setLc (i := 2) (own := [("answer", 3)]) rfl scis_walk.nd rfl rfl (sw_true rfl rfl rfl (by rfl)) (pi_any (pv 1)) (blkOk_by (by rfl)) (fun _ _ _ _ _ => (pg_name (i := 3) scis_walk.nd rfl (Or.inl rfl))) (fun _ _ _ _ _ => pts_nil) (fun _ _ _ _ _ => (pe_cr cends_of hr (by decide) (pa_cons (pv 3) pa_nil))))
    (pss_one (ps_ret (pe_callB (cr_all rfl) (by rfl) T.b_all (by decide +kernel) (pa_cons (pe_lc (own := [("ahead", 4), ("behind", 5)]) rfl scis_walk.nd (pi_zip (by rfl) T.b_zip (pa_cons (pv 2) (pa_cons (pe_slice sl_V (pv 2) (po_some pe_int) po_none) pa_nil))) (blkOk_by (by rfl)) (fun _ _ _ _ _ => (pg_tup rfl (pgs_cons (pg_name (i := 4) scis_walk.nd rfl (Or.inl rfl)) (pgs_cons (pg_name (i := 5) scis_walk.nd rfl (Or.inl rfl)) pgs_nil)))) (fun _ _ _ _ _ => pts_nil) (fun _ _ _ _ _ => (pe_cmpR (op_eqA hr.units) (pe_ix ix_seq (pv 4) pe_int (fun _ _ => rfl)) (pe_ix ix_seq (pv 5) pe_int (fun _ _ => rfl)) (nomark _)))) pa_nil))))))
abbrev sweight_of : Stmt := top 14
theorem scweight_of : FnScope ["walk", "betters", "answer"] ["walk"] (defScope sweight_of) := ⟨rfl, rfl, rfl, by decide +kernel, rfl, by decide +kernel, by decide +kernel⟩
theorem okweight_of (X : K.In base) (G : base.Ns mainGlobals mg) (T : Txt mg) (A : DefAt K "weight_of" sweight_of) : CalR P w K mg base 1 "weight_of" (SpT ⟨P, w, K⟩ (mweight_of ⟨P, w, K⟩)) :=
  defR X G A scweight_of rfl (fun _ _ _ _ _ _ us hl => match us, hl with | [_], _ => rfl) fun f cdv A outer s H E hr => by
    dsimp only [Dweight_of, eV, eC, eI, eS, eB, eN, aN, aC, eTup, eLst, eLstC, eDK, eDKC, eDTC, eOp, eUn, eCB, tE, tTe, tNo, tAn, tOrr, tY, eAnd, eOr, eNot, eIf, eChain, sNx, sSeq, sNever, sBrk, sCnt, sDrop, sRet, sRetN, sIf, gN, gT, gsN, gsC, sAsg, sPar, sWh, sFor, eLc, eLcC, eLc2, eDcT, iA, iR1, iR2, iEn, iZi, iOwnX, oII, oIB, oIC, oSub, oMod, oDiv, oPow, oLt, oLe, oGt, oGe, oNeg, oAdd, oMul, oMulC, oRepS, oEq, oNe, oIsN, oNotN, oIn, oNin, oIx, pN, pS, eSl, on1, oLen, oAbs, oInt, oIntS, oList, oListC, oListD, oListO, oListOC, oTuple, oAll, oAny, oRepr, oSort, eSortV, oSortDT, oDict, oSet, oInS, oNinS, oLenZ, oLenO, oInO, oIxO, oEqO, oNeO, eDisp, eBM, eBM0, mAppend, mExtend, mClear, mReverse, mPop, mPopAt, mS0, mJoin, hN, hT, hsN, hsC, hSub, sAsH, sAugS, eCl, eClK, eClT, eC0, eC0K, eC0T, sFrz, eDGet, eDGet1, eDGet2, eDIn, eDNin, sDPt, eIsi, eIsi2, eIsiO, eFld, sFldC, eMk, eMkK, eMt, eMtT, eRev, oIsB, eIsiB, oAddC]
    exact (pss_cons (ps_set (i := 1) scweight_of.nd rfl (Or.inl rfl) (pe_callB call_lenA (by rfl) T.b_len (by decide +kernel) (pa_cons (pe_lc (own := [("answer", 2)]) rfl scweight_of.nd (pi_any (pv 0)) (blkOk_by (by rfl)) (fun _ _ _ _ _ => (pg_name (i := 2) scweight_of.nd rfl (Or.inl rfl))) (fun _ _ _ _ _ => (pts_one (pt_val (pe_ix ix_seq (pv 2) pe_int (fun _ _ => rfl))))) (fun _ _ _ _ _ => (pv 2))) pa_nil)))
    (pss_one (ps_ret (pe_tup (pa_cons (pe_op op_sub (pv 1) (pe_op op_sub (pe_callB call_lenA (by rfl) T.b_len (by decide +kernel) (pa_cons (pv 0) pa_nil)) (pv 1))) (pa_cons (pv 1) pa_nil))))))
abbrev sthings_through : Stmt := top 15
theorem scthings_through : FnScope ["walk", "answer"] ["walk"] (defScope sthings_through) := ⟨rfl, rfl, rfl, by decide +kernel, rfl, by decide +kernel, by decide +kernel⟩
theorem okthings_through (X : K.In base) (G : base.Ns mainGlobals mg) (T : Txt mg) (A : DefAt K "things_through" sthings_through) (cends_of : CalR P w K mg base 1 "ends_of" (SpT ⟨P, w, K⟩ (mends_of ⟨P, w, K⟩))) : CalR P w K mg base 2 "things_through" (SpT ⟨P, w, K⟩ (mthings_through ⟨P, w, K⟩)) :=
  defR X G A scthings_through rfl (fun _ _ _ _ _ _ us hl => match us, hl with | [_], _ => rfl) fun f cdv A outer s H E hr => by
    dsimp only [Dthings_through, eV, eC, eI, eS, eB, eN, aN, aC, eTup, eLst, eLstC, eDK, eDKC, eDTC, eOp, eUn, eCB, tE, tTe, tNo, tAn, tOrr, tY, eAnd, eOr, eNot, eIf, eChain, sNx, sSeq, sNever, sBrk, sCnt, sDrop, sRet, sRetN, sIf, gN, gT, gsN, gsC, sAsg, sPar, sWh, sFor, eLc, eLcC, eLc2, eDcT, iA, iR1, iR2, iEn, iZi, iOwnX, oII, oIB, oIC, oSub, oMod, oDiv, oPow, oLt, oLe, oGt, oGe, oNeg, oAdd, oMul, oMulC, oRepS, oEq, oNe, oIsN, oNotN, oIn, oNin, oIx, pN, pS, eSl, on1, oLen, oAbs, oInt, oIntS, oList, oListC, oListD, oListO, oListOC, oTuple, oAll, oAny, oRepr, oSort, eSortV, oSortDT, oDict, oSet, oInS, oNinS, oLenZ, oLenO, oInO, oIxO, oEqO, oNeO, eDisp, eBM, eBM0, mAppend, mExtend, mClear, mReverse, mPop, mPopAt, mS0, mJoin, hN, hT, hsN, hsC, hSub, sAsH, sAugS, eCl, eClK, eClT, eC0, eC0K, eC0T, sFrz, eDGet, eDGet1, eDGet2, eDIn, eDNin, sDPt, eIsi, eIsi2, eIsiO, eFld, sFldC, eMk, eMkK, eMt, eMtT, eRev, oIsB, eIsiB, oAddC]
    exact (pss_one (ps_ret (pe_op op_addV (pe_lst (pa_cons (pe_ix ix_seq (pe_cr cends_of hr (by decide) (pa_cons (pe_ix ix_seq (pv 0) pe_int (fun _ _ => rfl)) pa_nil)) pe_int (fun _ _ => rfl)) pa_nil)) (pe_lc (own := [("answer", 1)]) rfl scthings_through.nd (pi_any (pv 0)) (blkOk_by (by rfl)) (fun _ _ _ _ _ => (pg_name (i := 1) scthings_through.nd rfl (Or.inl rfl))) (fun _ _ _ _ _ => pts_nil) (fun _ _ _ _ _ => (pe_ix ix_seq (pe_cr cends_of hr (by decide) (pa_cons (pv 1) pa_nil)) pe_int (fun _ _ => rfl)))))))
abbrev sBook__init__ : Stmt := inCls (top 23) 0
theorem scBook__init__ : FnScope ["self", "things", "answers", "stranger", "truths", "answer", "pair", "truth", "x", "y"] ["self", "things", "answers"] (C8.fnScope sBook__init__) := ⟨rfl, rfl, rfl, by decide +kernel, rfl, by decide +kernel, by decide +kernel⟩
theorem okBook__init__ (T : Txt mg) (B : Bk ⟨P, w, K⟩) (O : Own P w K mg B) (care_answers : CalR P w K mg base 4 "are_answers" (SpT ⟨P, w, K⟩ (mare_answers ⟨P, w, K⟩))) (care_names : CalR P w K mg base 2 "are_names" (SpT ⟨P, w, K⟩ (mare_names ⟨P, w, K⟩))) (cfirst_stranger : CalR P w K mg base 1 "first_stranger" (SpT ⟨P, w, K⟩ (mfirst_stranger ⟨P, w, K⟩))) (cpair_of : CalR P w K mg base 1 "pair_of" (SpT ⟨P, w, K⟩ (mpair_of ⟨P, w, K⟩))) : C8.Mak P w K mg base 5 "Book" B.C (SpT ⟨P, w, K⟩ (mBook__init__ B)) [] := by
  obtain ⟨f, fd, h1, h2, h3, h4⟩ := O.made
  exact makR (D := DBook__init__ B) (dvs := []) h1 O.hm h2 h3 .nil scBook__init__ rfl fun cdv A outer s H E hr => by
    dsimp only [DBook__init__, eV, eC, eI, eS, eB, eN, aN, aC, eTup, eLst, eLstC, eDK, eDKC, eDTC, eOp, eUn, eCB, tE, tTe, tNo, tAn, tOrr, tY, eAnd, eOr, eNot, eIf, eChain, sNx, sSeq, sNever, sBrk, sCnt, sDrop, sRet, sRetN, sIf, gN, gT, gsN, gsC, sAsg, sPar, sWh, sFor, eLc, eLcC, eLc2, eDcT, iA, iR1, iR2, iEn, iZi, iOwnX, oII, oIB, oIC, oSub, oMod, oDiv, oPow, oLt, oLe, oGt, oGe, oNeg, oAdd, oMul, oMulC, oRepS, oEq, oNe, oIsN, oNotN, oIn, oNin, oIx, pN, pS, eSl, on1, oLen, oAbs, oInt, oIntS, oList, oListC, oListD, oListO, oListOC, oTuple, oAll, oAny, oRepr, oSort, eSortV, oSortDT, oDict, oSet, oInS, oNinS, oLenZ, oLenO, oInO, oIxO, oEqO, oNeO, eDisp, eBM, eBM0, mAppend, mExtend, mClear, mReverse, mPop, mPopAt, mS0, mJoin, hN, hT, hsN, hsC, hSub, sAsH, sAugS, eCl, eClK, eClT, eC0, eC0K, eC0T, sFrz, eDGet, eDGet1, eDGet2, eDIn, eDNin, sDPt, eIsi, eIsi2, eIsiO, eFld, sFldC, eMk, eMkK, eMt, eMtT, eRev, oIsB, eIsiB, oAddC]
    exact (pss_cons (ps_if (pt_not (pt_val (pe_cr care_names hr (by decide) (pa_cons (pv 1) pa_nil))))
      (pss_one ps_nev)
      pss_nil)
    (pss_cons (ps_if (pt_not (pt_val (pe_cr care_answers hr (by decide) (pa_cons (pv 2) pa_nil))))
      (pss_one ps_nev)
      pss_nil)
    (pss_cons (ps_set (i := 3) scBook__init__.nd rfl (Or.inl rfl) (pe_cr cfirst_stranger hr (by decide) (pa_cons (pv 1) (pa_cons (pe_lc (own := [("answer", 5)]) rfl scBook__init__.nd (pi_any (pv 2)) (blkOk_by (by rfl)) (fun _ _ _ _ _ => (pg_name (i := 5) scBook__init__.nd rfl (Or.inl rfl))) (fun _ _ _ _ _ => pts_nil) (fun _ _ _ _ _ => (pe_cr cpair_of hr (by decide) (pa_cons (pv 5) pa_nil)))) pa_nil))))
    (pss_cons (ps_if (pt_cmpR op_notN (pv 3) pe_non (nomark _))
      (pss_one ps_nev)
      pss_nil)
    (pss_cons (ps_set (i := 4) scBook__init__.nd rfl (Or.inr rfl) pe_dnewT)
    (pss_cons (ps_for PassesOwn.never rfl (pi_any (pv 2)) (pg_name (i := 5) scBook__init__.nd rfl (Or.inl rfl))
      (pss_cons (ps_par (i := 6) (j := 7) (by rfl) scBook__init__.nd rfl rfl (by decide) rfl rfl (pa_cons (pe_cr cpair_of hr (by decide) (pa_cons (pv 5) pa_nil)) (pa_cons (pe_ix ix_seq (pv 5) pe_int (fun _ _ => rfl)) pa_nil)) (by rfl))
      (pss_cons (ps_if (pt_cmpR (op_neA hr.units) (pe_dget2 (rm1 hr) (pv 4) (pv 6) (pv 7) ⟨rfl, rfl, rfl, rfl⟩) (pv 7) (nomark _))
        (pss_one ps_nev)
        pss_nil)
      (pss_one (ps_dput (rm1 hr) (pv 4) (pv 6) (pv 7) (by rfl))))))
    (pss_cons (ps_fld (pv 0) (pe_callB (cr_sortG hr.units) (by rfl) T.b_sorted (by decide +kernel) (pa_cons (pv 1) pa_nil)) rfl)
    (pss_cons (ps_fld (pv 0) (pv 4) rfl)
    (pss_cons (ps_fld (pv 0) (pe_lc (own := [("x", 8), ("y", 9)]) rfl scBook__init__.nd (pi_any (pe_callB (cr_sortT rfl hr.units) (by rfl) T.b_sorted (by decide +kernel) (pa_cons (pv 4) pa_nil))) (blkOk_by (by rfl)) (fun _ _ _ _ _ => (pg_tup rfl (pgs_cons (pg_name (i := 8) scBook__init__.nd rfl (Or.inl rfl)) (pgs_cons (pg_name (i := 9) scBook__init__.nd rfl (Or.inl rfl)) pgs_nil)))) (fun _ _ _ _ _ => pts_nil) (fun _ _ _ _ _ => (pe_tup (pa_cons (pv 8) (pa_cons (pv 9) (pa_cons (pe_dget (rm1 hr) (pv 4) (pe_tup (pa_cons (pv 8) (pa_cons (pv 9) pa_nil))) (fun _ _ => rfl)) pa_nil)))))) rfl)
    (pss_one (ps_fld (pv 0) pe_dnewK rfl)))))))))))
theorem okBook__init__D (T : Txt mg) (B : Bk ⟨P, w, K⟩) (O : Own P w K mg B) (care_answers : CalR P w K mg base 4 "are_answers" (SpT ⟨P, w, K⟩ (mare_answers ⟨P, w, K⟩))) (care_names : CalR P w K mg base 2 "are_names" (SpT ⟨P, w, K⟩ (mare_names ⟨P, w, K⟩))) (cfirst_stranger : CalR P w K mg base 1 "first_stranger" (SpT ⟨P, w, K⟩ (mfirst_stranger ⟨P, w, K⟩))) (cpair_of : CalR P w K mg base 1 "pair_of" (SpT ⟨P, w, K⟩ (mpair_of ⟨P, w, K⟩))) : C8.Mak P w K mg base 5 "Book" B.C (SpT ⟨P, w, K⟩ (mBook__init__ B)) [.ref B.df] := by
  obtain ⟨f, fd, h1, h2, h3, h4⟩ := O.made
  exact makR (D := DBook__init__ B) (dvs := [.ref B.df]) h1 O.hm h2 h4 (.cons rfl .nil) scBook__init__ rfl fun cdv A outer s H E hr => by
    dsimp only [DBook__init__, eV, eC, eI, eS, eB, eN, aN, aC, eTup, eLst, eLstC, eDK, eDKC, eDTC, eOp, eUn, eCB, tE, tTe, tNo, tAn, tOrr, tY, eAnd, eOr, eNot, eIf, eChain, sNx, sSeq, sNever, sBrk, sCnt, sDrop, sRet, sRetN, sIf, gN, gT, gsN, gsC, sAsg, sPar, sWh, sFor, eLc, eLcC, eLc2, eDcT, iA, iR1, iR2, iEn, iZi, iOwnX, oII, oIB, oIC, oSub, oMod, oDiv, oPow, oLt, oLe, oGt, oGe, oNeg, oAdd, oMul, oMulC, oRepS, oEq, oNe, oIsN, oNotN, oIn, oNin, oIx, pN, pS, eSl, on1, oLen, oAbs, oInt, oIntS, oList, oListC, oListD, oListO, oListOC, oTuple, oAll, oAny, oRepr, oSort, eSortV, oSortDT, oDict, oSet, oInS, oNinS, oLenZ, oLenO, oInO, oIxO, oEqO, oNeO, eDisp, eBM, eBM0, mAppend, mExtend, mClear, mReverse, mPop, mPopAt, mS0, mJoin, hN, hT, hsN, hsC, hSub, sAsH, sAugS, eCl, eClK, eClT, eC0, eC0K, eC0T, sFrz, eDGet, eDGet1, eDGet2, eDIn, eDNin, sDPt, eIsi, eIsi2, eIsiO, eFld, sFldC, eMk, eMkK, eMt, eMtT, eRev, oIsB, eIsiB, oAddC]
    exact (pss_cons (ps_if (pt_not (pt_val (pe_cr care_names hr (by decide) (pa_cons (pv 1) pa_nil))))
      (pss_one ps_nev)
      pss_nil)
    (pss_cons (ps_if (pt_not (pt_val (pe_cr care_answers hr (by decide) (pa_cons (pv 2) pa_nil))))
      (pss_one ps_nev)
      pss_nil)
    (pss_cons (ps_set (i := 3) scBook__init__.nd rfl (Or.inl rfl) (pe_cr cfirst_stranger hr (by decide) (pa_cons (pv 1) (pa_cons (pe_lc (own := [("answer", 5)]) rfl scBook__init__.nd (pi_any (pv 2)) (blkOk_by (by rfl)) (fun _ _ _ _ _ => (pg_name (i := 5) scBook__init__.nd rfl (Or.inl rfl))) (fun _ _ _ _ _ => pts_nil) (fun _ _ _ _ _ => (pe_cr cpair_of hr (by decide) (pa_cons (pv 5) pa_nil)))) pa_nil))))
    (pss_cons (ps_if (pt_cmpR op_notN (pv 3) pe_non (nomark _))
      (pss_one ps_nev)
      pss_nil)
    (pss_cons (ps_set (i := 4) scBook__init__.nd rfl (Or.inr rfl) pe_dnewT)
    (pss_cons (ps_for PassesOwn.never rfl (pi_any (pv 2)) (pg_name (i := 5) scBook__init__.nd rfl (Or.inl rfl))
      (pss_cons (ps_par (i := 6) (j := 7) (by rfl) scBook__init__.nd rfl rfl (by decide) rfl rfl (pa_cons (pe_cr cpair_of hr (by decide) (pa_cons (pv 5) pa_nil)) (pa_cons (pe_ix ix_seq (pv 5) pe_int (fun _ _ => rfl)) pa_nil)) (by rfl))
      (pss_cons (ps_if (pt_cmpR (op_neA hr.units) (pe_dget2 (rm1 hr) (pv 4) (pv 6) (pv 7) ⟨rfl, rfl, rfl, rfl⟩) (pv 7) (nomark _))
        (pss_one ps_nev)
        pss_nil)
      (pss_one (ps_dput (rm1 hr) (pv 4) (pv 6) (pv 7) (by rfl))))))
    (pss_cons (ps_fld (pv 0) (pe_callB (cr_sortG hr.units) (by rfl) T.b_sorted (by decide +kernel) (pa_cons (pv 1) pa_nil)) rfl)
    (pss_cons (ps_fld (pv 0) (pv 4) rfl)
    (pss_cons (ps_fld (pv 0) (pe_lc (own := [("x", 8), ("y", 9)]) rfl scBook__init__.nd (pi_any (pe_callB (cr_sortT rfl hr.units) (by rfl) T.b_sorted (by decide +kernel) (pa_cons (pv 4) pa_nil))) (blkOk_by (by rfl)) (fun _ _ _ _ _ => (pg_tup rfl (pgs_cons (pg_name (i := 8) scBook__init__.nd rfl (Or.inl rfl)) (pgs_cons (pg_name (i := 9) scBook__init__.nd rfl (Or.inl rfl)) pgs_nil)))) (fun _ _ _ _ _ => pts_nil) (fun _ _ _ _ _ => (pe_tup (pa_cons (pv 8) (pa_cons (pv 9) (pa_cons (pe_dget (rm1 hr) (pv 4) (pe_tup (pa_cons (pv 8) (pa_cons (pv 9) pa_nil))) (fun _ _ => rfl)) pa_nil)))))) rfl)
    (pss_one (ps_fld (pv 0) pe_dnewK rfl)))))))))))
abbrev s_law_bag : Stmt := top 25
theorem sc_law_bag : FnScope ["_law_script", "_law_cell"] ["_law_script"] (defScope s_law_bag) := ⟨rfl, rfl, rfl, by decide +kernel, rfl, by decide +kernel, by decide +kernel⟩
theorem ok_law_bag (X : K.In base) (G : base.Ns mainGlobals mg) (T : Txt mg) (A : DefAt K "_law_bag" s_law_bag) : CalR P w K mg base 1 "_law_bag" (SpT ⟨P, w, K⟩ (m_law_bag ⟨P, w, K⟩)) :=
  defR X G A sc_law_bag rfl (fun _ _ _ _ _ _ us hl => match us, hl with | [_], _ => rfl) fun f cdv A outer s H E hr => by
    dsimp only [D_law_bag, eV, eC, eI, eS, eB, eN, aN, aC, eTup, eLst, eLstC, eDK, eDKC, eDTC, eOp, eUn, eCB, tE, tTe, tNo, tAn, tOrr, tY, eAnd, eOr, eNot, eIf, eChain, sNx, sSeq, sNever, sBrk, sCnt, sDrop, sRet, sRetN, sIf, gN, gT, gsN, gsC, sAsg, sPar, sWh, sFor, eLc, eLcC, eLc2, eDcT, iA, iR1, iR2, iEn, iZi, iOwnX, oII, oIB, oIC, oSub, oMod, oDiv, oPow, oLt, oLe, oGt, oGe, oNeg, oAdd, oMul, oMulC, oRepS, oEq, oNe, oIsN, oNotN, oIn, oNin, oIx, pN, pS, eSl, on1, oLen, oAbs, oInt, oIntS, oList, oListC, oListD, oListO, oListOC, oTuple, oAll, oAny, oRepr, oSort, eSortV, oSortDT, oDict, oSet, oInS, oNinS, oLenZ, oLenO, oInO, oIxO, oEqO, oNeO, eDisp, eBM, eBM0, mAppend, mExtend, mClear, mReverse, mPop, mPopAt, mS0, mJoin, hN, hT, hsN, hsC, hSub, sAsH, sAugS, eCl, eClK, eClT, eC0, eC0K, eC0T, sFrz, eDGet, eDGet1, eDGet2, eDIn, eDNin, sDPt, eIsi, eIsi2, eIsiO, eFld, sFldC, eMk, eMkK, eMt, eMtT, eRev, oIsB, eIsiB, oAddC]
    exact (pss_one (ps_ret (pe_lst (pa_cons pe_int (pa_cons pe_int (pa_cons pe_int (pa_cons (pe_lc (own := [("_law_cell", 1)]) rfl sc_law_bag.nd (pi_any (pe_slice sl_V (pv 0) po_none (po_some pe_int))) (blkOk_by (by rfl)) (fun _ _ _ _ _ => (pg_name (i := 1) sc_law_bag.nd rfl (Or.inl rfl))) (fun _ _ _ _ _ => pts_nil) (fun _ _ _ _ _ => (pe_callB call_abs (by rfl) T.b_abs (by decide +kernel) (pa_cons (pv 1) pa_nil)))) pa_nil)))))))
abbrev s_law_take : Stmt := top 26
theorem sc_law_take : FnScope ["_law_bag_here", "_law_many", "_law_early", "_law_second", "_law_cell", "_law_mixed", "_law_drawn"] ["_law_bag_here", "_law_many"] (defScope s_law_take) := ⟨rfl, rfl, rfl, by decide +kernel, rfl, by decide +kernel, by decide +kernel⟩
theorem ok_law_take (X : K.In base) (G : base.Ns mainGlobals mg) (T : Txt mg) (A : DefAt K "_law_take" s_law_take) : CalR P w K mg base 1 "_law_take" (SpT ⟨P, w, K⟩ (m_law_take ⟨P, w, K⟩)) :=
  defR X G A sc_law_take rfl (fun _ _ _ _ _ _ us hl => match us, hl with | [_, _], _ => rfl) fun f cdv A outer s H E hr => by
    dsimp only [D_law_take, eV, eC, eI, eS, eB, eN, aN, aC, eTup, eLst, eLstC, eDK, eDKC, eDTC, eOp, eUn, eCB, tE, tTe, tNo, tAn, tOrr, tY, eAnd, eOr, eNot, eIf, eChain, sNx, sSeq, sNever, sBrk, sCnt, sDrop, sRet, sRetN, sIf, gN, gT, gsN, gsC, sAsg, sPar, sWh, sFor, eLc, eLcC, eLc2, eDcT, iA, iR1, iR2, iEn, iZi, iOwnX, oII, oIB, oIC, oSub, oMod, oDiv, oPow, oLt, oLe, oGt, oGe, oNeg, oAdd, oMul, oMulC, oRepS, oEq, oNe, oIsN, oNotN, oIn, oNin, oIx, pN, pS, eSl, on1, oLen, oAbs, oInt, oIntS, oList, oListC, oListD, oListO, oListOC, oTuple, oAll, oAny, oRepr, oSort, eSortV, oSortDT, oDict, oSet, oInS, oNinS, oLenZ, oLenO, oInO, oIxO, oEqO, oNeO, eDisp, eBM, eBM0, mAppend, mExtend, mClear, mReverse, mPop, mPopAt, mS0, mJoin, hN, hT, hsN, hsC, hSub, sAsH, sAugS, eCl, eClK, eClT, eC0, eC0K, eC0T, sFrz, eDGet, eDGet1, eDGet2, eDIn, eDNin, sDPt, eIsi, eIsi2, eIsiO, eFld, sFldC, eMk, eMkK, eMt, eMtT, eRev, oIsB, eIsiB, oAddC]
    exact (pss_cons (ps_if (pt_cmpR (op_eqA hr.units) (pe_ix ix_seq (pv 0) pe_int (fun _ _ => rfl)) pe_int (nomark _))
      (pss_cons (ps_set (i := 4) sc_law_take.nd rfl (Or.inl rfl) (pe_ix ix_seq (pe_op op_addV (pe_slice sl_V (pe_ix ix_seq (pv 0) pe_int (fun _ _ => rfl)) (po_some (pe_ix ix_seq (pv 0) pe_int (fun _ _ => rfl))) po_none) (pe_lst (pa_cons pe_int pa_nil))) pe_int (fun _ _ => rfl)))
      (pss_cons (ps_augS (pv 0) pe_int get_list pe_int ip_add set_list)
      (pss_cons (ps_asg (pe_op op_mulA (pv 4) (pe_callTy call_intA (by rfl) T.b_int (by decide +kernel) (pa_cons (pe_cmpR op_ge (pv 4) (pe_op op_pow pe_int pe_int) (nomark _)) pa_nil))) (pg_sub (pv 0) pe_int set_list))
      (pss_cons (ps_set (i := 5) sc_law_take.nd rfl (Or.inl rfl) (pe_op op_addV (pe_op op_addV (pe_op op_mulA (pe_ix ix_seq (pv 0) pe_int (fun _ _ => rfl)) pe_int) (pe_op op_mod (pe_callTy call_intA (by rfl) T.b_int (by decide +kernel) (pa_cons (pv 4) pa_nil)) pe_int)) (pe_op op_mulA pe_int (pe_ix ix_seq (pv 0) pe_int (fun _ _ => rfl)))))
      (pss_one (ps_asg (pe_op op_mod (pe_callTy call_intA (by rfl) T.b_int (by decide +kernel) (pa_cons (pv 5) pa_nil)) pe_int) (pg_sub (pv 0) pe_int set_list)))))))
      pss_nil)
    (pss_cons (ps_if (pt_cmpR op_gt (pe_ix ix_seq (pv 0) pe_int (fun _ _ => rfl)) pe_int (nomark _))
      (pss_cons (ps_asg (pe_tup (pa_cons (pe_op op_mod (pe_callTy call_intA (by rfl) T.b_int (by decide +kernel) (pa_cons (pe_ix ix_seq (pv 0) pe_int (fun _ _ => rfl)) pa_nil)) (pv 1)) (pa_cons (pe_op op_fdiv (pe_callTy call_intA (by rfl) T.b_int (by decide +kernel) (pa_cons (pe_ix ix_seq (pv 0) pe_int (fun _ _ => rfl)) pa_nil)) (pv 1)) pa_nil))) (pg_tup rfl (pgs_cons (pg_name (i := 6) sc_law_take.nd rfl (Or.inl rfl)) (pgs_cons (pg_sub (pv 0) pe_int set_list) pgs_nil))))
      (pss_one (ps_ret (pv 6))))
      pss_nil)
    (pss_cons (ps_set (i := 2) sc_law_take.nd rfl (Or.inl rfl) (pe_op op_mod (pe_callTy call_intA (by rfl) T.b_int (by decide +kernel) (pa_cons (pe_op op_mulA (pe_op op_addV (pe_ix ix_seq (pv 0) pe_int (fun _ _ => rfl)) pe_int) pe_int) pa_nil)) pe_int))
    (pss_cons (ps_set (i := 3) sc_law_take.nd rfl (Or.inl rfl) (pe_op op_mod (pe_callTy call_intA (by rfl) T.b_int (by decide +kernel) (pa_cons (pe_op op_mulA (pe_op op_mod (pe_callTy call_intA (by rfl) T.b_int (by decide +kernel) (pa_cons (pe_op op_mulA (pv 2) (pv 2)) pa_nil)) pe_int) pe_int) pa_nil)) pe_int))
    (pss_one (ps_ret (pe_op op_mod (pe_callTy call_intA (by rfl) T.b_int (by decide +kernel) (pa_cons (pe_op op_fdiv (pv 3) pe_int) pa_nil)) (pv 1))))))))
abbrev s_law_alike : Stmt := top 27
theorem sc_law_alike : FnScope ["_law_found", "_law_due"] ["_law_found", "_law_due"] (defScope s_law_alike) := ⟨rfl, rfl, rfl, by decide +kernel, rfl, by decide +kernel, by decide +kernel⟩
theorem ok_law_alike (X : K.In base) (G : base.Ns mainGlobals mg) (T : Txt mg) (A : DefAt K "_law_alike" s_law_alike) : CalG P w K mg base 1 "_law_alike" (SpT ⟨P, w, K⟩ (m_law_alike ⟨P, w, K⟩)) :=
  defG X G A sc_law_alike rfl (fun _ _ _ _ _ _ us hl => match us, hl with | [_, _], _ => rfl) fun f cdv A outer s H E ng hr => by
    dsimp only [D_law_alike, eV, eC, eI, eS, eB, eN, aN, aC, eTup, eLst, eLstC, eDK, eDKC, eDTC, eOp, eUn, eCB, tE, tTe, tNo, tAn, tOrr, tY, eAnd, eOr, eNot, eIf, eChain, sNx, sSeq, sNever, sBrk, sCnt, sDrop, sRet, sRetN, sIf, gN, gT, gsN, gsC, sAsg, sPar, sWh, sFor, eLc, eLcC, eLc2, eDcT, iA, iR1, iR2, iEn, iZi, iOwnX, oII, oIB, oIC, oSub, oMod, oDiv, oPow, oLt, oLe, oGt, oGe, oNeg, oAdd, oMul, oMulC, oRepS, oEq, oNe, oIsN, oNotN, oIn, oNin, oIx, pN, pS, eSl, on1, oLen, oAbs, oInt, oIntS, oList, oListC, oListD, oListO, oListOC, oTuple, oAll, oAny, oRepr, oSort, eSortV, oSortDT, oDict, oSet, oInS, oNinS, oLenZ, oLenO, oInO, oIxO, oEqO, oNeO, eDisp, eBM, eBM0, mAppend, mExtend, mClear, mReverse, mPop, mPopAt, mS0, mJoin, hN, hT, hsN, hsC, hSub, sAsH, sAugS, eCl, eClK, eClT, eC0, eC0K, eC0T, sFrz, eDGet, eDGet1, eDGet2, eDIn, eDNin, sDPt, eIsi, eIsi2, eIsiO, eFld, sFldC, eMk, eMkK, eMt, eMtT, eRev, oIsB, eIsiB, oAddC]
    exact (pss_one (ps_ret (pe_and (pe_cmpR (op_eqA hr.units) (pv 0) (pv 1) (nomark _)) (pe_one (pe_cmpR (op_eqA hr.units) (pe_callB (call_repr ng hr.units) (by rfl) T.b_repr (by decide +kernel) (pa_cons (pv 0) pa_nil)) (pe_callB (call_repr ng hr.units) (by rfl) T.b_repr (by decide +kernel) (pa_cons (pv 1) pa_nil)) (nomark _))))))
abbrev s_law_pick : Stmt := top 28
theorem sc_law_pick : FnScope ["_law_bag_here", "_law_some"] ["_law_bag_here", "_law_some"] (defScope s_law_pick) := ⟨rfl, rfl, rfl, by decide +kernel, rfl, by decide +kernel, by decide +kernel⟩
theorem ok_law_pick (X : K.In base) (G : base.Ns mainGlobals mg) (T : Txt mg) (A : DefAt K "_law_pick" s_law_pick) (c_law_take : CalR P w K mg base 1 "_law_take" (SpT ⟨P, w, K⟩ (m_law_take ⟨P, w, K⟩))) : CalR P w K mg base 2 "_law_pick" (SpT ⟨P, w, K⟩ (m_law_pick ⟨P, w, K⟩)) :=
  defR X G A sc_law_pick rfl (fun _ _ _ _ _ _ us hl => match us, hl with | [_, _], _ => rfl) fun f cdv A outer s H E hr => by
    dsimp only [D_law_pick, eV, eC, eI, eS, eB, eN, aN, aC, eTup, eLst, eLstC, eDK, eDKC, eDTC, eOp, eUn, eCB, tE, tTe, tNo, tAn, tOrr, tY, eAnd, eOr, eNot, eIf, eChain, sNx, sSeq, sNever, sBrk, sCnt, sDrop, sRet, sRetN, sIf, gN, gT, gsN, gsC, sAsg, sPar, sWh, sFor, eLc, eLcC, eLc2, eDcT, iA, iR1, iR2, iEn, iZi, iOwnX, oII, oIB, oIC, oSub, oMod, oDiv, oPow, oLt, oLe, oGt, oGe, oNeg, oAdd, oMul, oMulC, oRepS, oEq, oNe, oIsN, oNotN, oIn, oNin, oIx, pN, pS, eSl, on1, oLen, oAbs, oInt, oIntS, oList, oListC, oListD, oListO, oListOC, oTuple, oAll, oAny, oRepr, oSort, eSortV, oSortDT, oDict, oSet, oInS, oNinS, oLenZ, oLenO, oInO, oIxO, oEqO, oNeO, eDisp, eBM, eBM0, mAppend, mExtend, mClear, mReverse, mPop, mPopAt, mS0, mJoin, hN, hT, hsN, hsC, hSub, sAsH, sAugS, eCl, eClK, eClT, eC0, eC0K, eC0T, sFrz, eDGet, eDGet1, eDGet2, eDIn, eDNin, sDPt, eIsi, eIsi2, eIsiO, eFld, sFldC, eMk, eMkK, eMt, eMtT, eRev, oIsB, eIsiB, oAddC]
    exact (pss_one (ps_ret (pe_ix ix_seq (pv 1) (pe_cr c_law_take hr (by decide) (pa_cons (pv 0) (pa_cons (pe_callB call_lenA (by rfl) T.b_len (by decide +kernel) (pa_cons (pv 1) pa_nil)) pa_nil))) (fun _ _ => rfl))))
abbrev s_law_mix : Stmt := top 29
theorem sc_law_mix : FnScope ["_law_bag_here", "_law_some", "_law_rest", "_law_found"] ["_law_bag_here", "_law_some"] (defScope s_law_mix) := ⟨rfl, rfl, rfl, by decide +kernel, rfl, by decide +kernel, by decide +kernel⟩
theorem ok_law_mix (X : K.In base) (G : base.Ns mainGlobals mg) (T : Txt mg) (A : DefAt K "_law_mix" s_law_mix) (c_law_take : CalR P w K mg base 1 "_law_take" (SpT ⟨P, w, K⟩ (m_law_take ⟨P, w, K⟩))) : CalR P w K mg base 2 "_law_mix" (SpT ⟨P, w, K⟩ (m_law_mix ⟨P, w, K⟩)) :=
  defR X G A sc_law_mix rfl (fun _ _ _ _ _ _ us hl => match us, hl with | [_, _], _ => rfl) fun f cdv A outer s H E hr => by
    dsimp only [D_law_mix, eV, eC, eI, eS, eB, eN, aN, aC, eTup, eLst, eLstC, eDK, eDKC, eDTC, eOp, eUn, eCB, tE, tTe, tNo, tAn, tOrr, tY, eAnd, eOr, eNot, eIf, eChain, sNx, sSeq, sNever, sBrk, sCnt, sDrop, sRet, sRetN, sIf, gN, gT, gsN, gsC, sAsg, sPar, sWh, sFor, eLc, eLcC, eLc2, eDcT, iA, iR1, iR2, iEn, iZi, iOwnX, oII, oIB, oIC, oSub, oMod, oDiv, oPow, oLt, oLe, oGt, oGe, oNeg, oAdd, oMul, oMulC, oRepS, oEq, oNe, oIsN, oNotN, oIn, oNin, oIx, pN, pS, eSl, on1, oLen, oAbs, oInt, oIntS, oList, oListC, oListD, oListO, oListOC, oTuple, oAll, oAny, oRepr, oSort, eSortV, oSortDT, oDict, oSet, oInS, oNinS, oLenZ, oLenO, oInO, oIxO, oEqO, oNeO, eDisp, eBM, eBM0, mAppend, mExtend, mClear, mReverse, mPop, mPopAt, mS0, mJoin, hN, hT, hsN, hsC, hSub, sAsH, sAugS, eCl, eClK, eClT, eC0, eC0K, eC0T, sFrz, eDGet, eDGet1, eDGet2, eDIn, eDNin, sDPt, eIsi, eIsi2, eIsiO, eFld, sFldC, eMk, eMkK, eMt, eMtT, eRev, oIsB, eIsiB, oAddC]
    exact (pss_cons (ps_par (i := 2) (j := 3) (by rfl) sc_law_mix.nd rfl rfl (by decide) rfl rfl (pa_cons (pe_callTy (call_listA rfl) (by rfl) T.b_list (by decide +kernel) (pa_cons (pv 1) pa_nil)) (pa_cons (pe_lst pa_nil) pa_nil)) (by rfl))
    (pss_cons (ps_while PassesOwn.never (pt_cmpR (op_neA hr.units) (pv 2) (pe_lst pa_nil) (nomark _))
      (pss_one (ps_expr (pe_bm PySem.F.plainAttrs_list PySem.F.slot_list_append PySem.F.type_list_append mt_append (pv 3) (pa_cons (pe_bm PySem.F.plainAttrs_list PySem.F.slot_list_pop PySem.F.type_list_pop mt_popAt (pv 2) (pa_cons (pe_cr c_law_take hr (by decide) (pa_cons (pv 0) (pa_cons (pe_callB call_lenA (by rfl) T.b_len (by decide +kernel) (pa_cons (pv 2) pa_nil)) pa_nil))) pa_nil)) pa_nil)))))
    (pss_one (ps_ret (pv 3)))))
abbrev s_law_names : Stmt := top 30
theorem sc_law_names : FnScope ["_law_bag_here", "_law_many", "_law_letters", "_law_words", "_law_stem", "_law_way", "_law_turn", "_law_k"] ["_law_bag_here", "_law_many"] (defScope s_law_names) := ⟨rfl, rfl, rfl, by decide +kernel, rfl, by decide +kernel, by decide +kernel⟩
theorem ok_law_names (X : K.In base) (G : base.Ns mainGlobals mg) (T : Txt mg) (A : DefAt K "_law_names" s_law_names) (c_law_mix : CalR P w K mg base 2 "_law_mix" (SpT ⟨P, w, K⟩ (m_law_mix ⟨P, w, K⟩))) (c_law_take : CalR P w K mg base 1 "_law_take" (SpT ⟨P, w, K⟩ (m_law_take ⟨P, w, K⟩))) : CalR P w K mg base 3 "_law_names" (SpT ⟨P, w, K⟩ (m_law_names ⟨P, w, K⟩)) :=
  defR X G A sc_law_names rfl (fun _ _ _ _ _ _ us hl => match us, hl with | [_, _], _ => rfl) fun f cdv A outer s H E hr => by
    dsimp only [D_law_names, eV, eC, eI, eS, eB, eN, aN, aC, eTup, eLst, eLstC, eDK, eDKC, eDTC, eOp, eUn, eCB, tE, tTe, tNo, tAn, tOrr, tY, eAnd, eOr, eNot, eIf, eChain, sNx, sSeq, sNever, sBrk, sCnt, sDrop, sRet, sRetN, sIf, gN, gT, gsN, gsC, sAsg, sPar, sWh, sFor, eLc, eLcC, eLc2, eDcT, iA, iR1, iR2, iEn, iZi, iOwnX, oII, oIB, oIC, oSub, oMod, oDiv, oPow, oLt, oLe, oGt, oGe, oNeg, oAdd, oMul, oMulC, oRepS, oEq, oNe, oIsN, oNotN, oIn, oNin, oIx, pN, pS, eSl, on1, oLen, oAbs, oInt, oIntS, oList, oListC, oListD, oListO, oListOC, oTuple, oAll, oAny, oRepr, oSort, eSortV, oSortDT, oDict, oSet, oInS, oNinS, oLenZ, oLenO, oInO, oIxO, oEqO, oNeO, eDisp, eBM, eBM0, mAppend, mExtend, mClear, mReverse, mPop, mPopAt, mS0, mJoin, hN, hT, hsN, hsC, hSub, sAsH, sAugS, eCl, eClK, eClT, eC0, eC0K, eC0T, sFrz, eDGet, eDGet1, eDGet2, eDIn, eDNin, sDPt, eIsi, eIsi2, eIsiO, eFld, sFldC, eMk, eMkK, eMt, eMtT, eRev, oIsB, eIsiB, oAddC]
    exact (pss_cons (ps_asg (pe_tup (pa_cons (pe_cr c_law_take hr (by decide) (pa_cons (pv 0) (pa_cons pe_int pa_nil))) (pa_cons (pe_cr c_law_take hr (by decide) (pa_cons (pv 0) (pa_cons pe_int pa_nil))) pa_nil))) (pg_tup rfl (pgs_cons (pg_name (i := 5) sc_law_names.nd rfl (Or.inl rfl)) (pgs_cons (pg_name (i := 6) sc_law_names.nd rfl (Or.inr rfl)) pgs_nil))))
    (pss_cons (ps_set (i := 2) sc_law_names.nd rfl (Or.inr rfl) pe_str)
    (pss_cons (ps_set (i := 3) sc_law_names.nd rfl (Or.inl rfl) (pe_lst (pa_cons pe_str (pa_cons pe_str (pa_cons pe_str (pa_cons pe_str (pa_cons pe_str (pa_cons pe_str (pa_cons pe_str (pa_cons pe_str (pa_cons pe_str (pa_cons pe_str (pa_cons pe_str pa_nil)))))))))))))
    (pss_cons (ps_if (pt_cmpR (op_eqA hr.units) (pv 5) pe_int (nomark _))
      (pss_one (ps_ret (pe_cr c_law_mix hr (by decide) (pa_cons (pv 0) (pa_cons (pe_slice sl_V (pe_callTy (call_listA rfl) (by rfl) T.b_list (by decide +kernel) (pa_cons pe_str pa_nil)) po_none (po_some (pv 1))) pa_nil)))))
      pss_nil)
    (pss_cons (ps_if (pt_cmpR (op_eqA hr.units) (pv 5) pe_int (nomark _))
      (pss_one (ps_ret (pe_cr c_law_mix hr (by decide) (pa_cons (pv 0) (pa_cons (pe_slice sl_V (pe_slice sl_V (pe_op op_addV (pv 3) (pv 3)) (po_some (pe_op op_mod (pe_callTy call_intA (by rfl) T.b_int (by decide +kernel) (pa_cons (pv 6) pa_nil)) pe_int)) po_none) po_none (po_some (pv 1))) pa_nil)))))
      pss_nil)
    (pss_cons (ps_set (i := 4) sc_law_names.nd rfl (Or.inr rfl) (pe_bm PySem.F.plainAttrs_str PySem.F.slot_str_join PySem.F.type_str_join mt_join pe_str (pa_cons (pe_lc (own := [("_law_k", 7)]) rfl sc_law_names.nd (pi_range1 (by rfl) T.b_range (pa_cons (pe_cr c_law_take hr (by decide) (pa_cons (pv 0) (pa_cons pe_int pa_nil))) pa_nil)) (blkOk_by (by rfl)) (fun _ _ _ _ _ => (pg_name (i := 7) sc_law_names.nd rfl (Or.inl rfl))) (fun _ _ _ _ _ => pts_nil) (fun _ _ _ _ _ => (pe_ix ix_seq (pv 2) (pe_cr c_law_take hr (by decide) (pa_cons (pv 0) (pa_cons pe_int pa_nil))) (fun _ _ => rfl)))) pa_nil)))
    (pss_one (ps_ret (pe_cr c_law_mix hr (by decide) (pa_cons (pv 0) (pa_cons (pe_lc (own := [("_law_k", 7)]) rfl sc_law_names.nd (pi_range1 (by rfl) T.b_range (pa_cons (pv 1) pa_nil)) (blkOk_by (by rfl)) (fun _ _ _ _ _ => (pg_name (i := 7) sc_law_names.nd rfl (Or.inl rfl))) (fun _ _ _ _ _ => pts_nil) (fun _ _ _ _ _ => (pe_op op_addV (pv 4) (pe_ix ix_seq (pv 2) (pe_op op_mod (pe_callTy call_intA (by rfl) T.b_int (by decide +kernel) (pa_cons (pe_op op_addV (pv 6) (pe_op op_mulA pe_int (pv 7))) pa_nil)) pe_int) (fun _ _ => rfl))))) pa_nil)))))))))))
abbrev s_law_pairs : Stmt := top 31
theorem sc_law_pairs : FnScope ["_law_things", "_law_found", "_law_x", "_law_y"] ["_law_things"] (defScope s_law_pairs) := ⟨rfl, rfl, rfl, by decide +kernel, rfl, by decide +kernel, by decide +kernel⟩
theorem ok_law_pairs (X : K.In base) (G : base.Ns mainGlobals mg) (T : Txt mg) (A : DefAt K "_law_pairs" s_law_pairs) : CalR P w K mg base 1 "_law_pairs" (SpT ⟨P, w, K⟩ (m_law_pairs ⟨P, w, K⟩)) :=
  defR X G A sc_law_pairs rfl (fun _ _ _ _ _ _ us hl => match us, hl with | [_], _ => rfl) fun f cdv A outer s H E hr => by
    dsimp only [D_law_pairs, eV, eC, eI, eS, eB, eN, aN, aC, eTup, eLst, eLstC, eDK, eDKC, eDTC, eOp, eUn, eCB, tE, tTe, tNo, tAn, tOrr, tY, eAnd, eOr, eNot, eIf, eChain, sNx, sSeq, sNever, sBrk, sCnt, sDrop, sRet, sRetN, sIf, gN, gT, gsN, gsC, sAsg, sPar, sWh, sFor, eLc, eLcC, eLc2, eDcT, iA, iR1, iR2, iEn, iZi, iOwnX, oII, oIB, oIC, oSub, oMod, oDiv, oPow, oLt, oLe, oGt, oGe, oNeg, oAdd, oMul, oMulC, oRepS, oEq, oNe, oIsN, oNotN, oIn, oNin, oIx, pN, pS, eSl, on1, oLen, oAbs, oInt, oIntS, oList, oListC, oListD, oListO, oListOC, oTuple, oAll, oAny, oRepr, oSort, eSortV, oSortDT, oDict, oSet, oInS, oNinS, oLenZ, oLenO, oInO, oIxO, oEqO, oNeO, eDisp, eBM, eBM0, mAppend, mExtend, mClear, mReverse, mPop, mPopAt, mS0, mJoin, hN, hT, hsN, hsC, hSub, sAsH, sAugS, eCl, eClK, eClT, eC0, eC0K, eC0T, sFrz, eDGet, eDGet1, eDGet2, eDIn, eDNin, sDPt, eIsi, eIsi2, eIsiO, eFld, sFldC, eMk, eMkK, eMt, eMtT, eRev, oIsB, eIsiB, oAddC]
    exact (pss_cons (ps_set (i := 1) sc_law_pairs.nd rfl (Or.inl rfl) (pe_lst pa_nil))
    (pss_cons (ps_for PassesOwn.never rfl (pi_any (pe_callB (cr_sortG hr.units) (by rfl) T.b_sorted (by decide +kernel) (pa_cons (pv 0) pa_nil))) (pg_name (i := 2) sc_law_pairs.nd rfl (Or.inr rfl))
      (pss_one (ps_expr (pe_bm PySem.F.plainAttrs_list PySem.F.slot_list_extend PySem.F.type_list_extend mt_extend (pv 1) (pa_cons (pe_lc (own := [("_law_y", 3)]) rfl sc_law_pairs.nd (pi_any (pe_callB (cr_sortG hr.units) (by rfl) T.b_sorted (by decide +kernel) (pa_cons (pv 0) pa_nil))) (blkOk_by (by rfl)) (fun _ _ _ _ _ => (pg_name (i := 3) sc_law_pairs.nd rfl (Or.inl rfl))) (fun _ _ _ _ _ => (pts_one (pt_cmpR (op_neA hr.units) (pv 3) (pv 2) (nomark _)))) (fun _ _ _ _ _ => (pe_tup (pa_cons (pv 2) (pa_cons (pv 3) pa_nil))))) pa_nil)))))
    (pss_one (ps_ret (pv 1)))))
abbrev s_law_any : Stmt := top 32
theorem sc_law_any : FnScope ["_law_bag_here", "_law_things", "_law_many", "_law_told_here", "_law_x", "_law_y"] ["_law_bag_here", "_law_things", "_law_many"] (defScope s_law_any) := ⟨rfl, rfl, rfl, by decide +kernel, rfl, by decide +kernel, by decide +kernel⟩
theorem ok_law_any (X : K.In base) (G : base.Ns mainGlobals mg) (T : Txt mg) (A : DefAt K "_law_any" s_law_any) (c_law_mix : CalR P w K mg base 2 "_law_mix" (SpT ⟨P, w, K⟩ (m_law_mix ⟨P, w, K⟩))) (c_law_pairs : CalR P w K mg base 1 "_law_pairs" (SpT ⟨P, w, K⟩ (m_law_pairs ⟨P, w, K⟩))) (c_law_take : CalR P w K mg base 1 "_law_take" (SpT ⟨P, w, K⟩ (m_law_take ⟨P, w, K⟩))) : CalR P w K mg base 3 "_law_any" (SpT ⟨P, w, K⟩ (m_law_any ⟨P, w, K⟩)) :=
  defR X G A sc_law_any rfl (fun _ _ _ _ _ _ us hl => match us, hl with | [_, _, _], _ => rfl) fun f cdv A outer s H E hr => by
    dsimp only [D_law_any, eV, eC, eI, eS, eB, eN, aN, aC, eTup, eLst, eLstC, eDK, eDKC, eDTC, eOp, eUn, eCB, tE, tTe, tNo, tAn, tOrr, tY, eAnd, eOr, eNot, eIf, eChain, sNx, sSeq, sNever, sBrk, sCnt, sDrop, sRet, sRetN, sIf, gN, gT, gsN, gsC, sAsg, sPar, sWh, sFor, eLc, eLcC, eLc2, eDcT, iA, iR1, iR2, iEn, iZi, iOwnX, oII, oIB, oIC, oSub, oMod, oDiv, oPow, oLt, oLe, oGt, oGe, oNeg, oAdd, oMul, oMulC, oRepS, oEq, oNe, oIsN, oNotN, oIn, oNin, oIx, pN, pS, eSl, on1, oLen, oAbs, oInt, oIntS, oList, oListC, oListD, oListO, oListOC, oTuple, oAll, oAny, oRepr, oSort, eSortV, oSortDT, oDict, oSet, oInS, oNinS, oLenZ, oLenO, oInO, oIxO, oEqO, oNeO, eDisp, eBM, eBM0, mAppend, mExtend, mClear, mReverse, mPop, mPopAt, mS0, mJoin, hN, hT, hsN, hsC, hSub, sAsH, sAugS, eCl, eClK, eClT, eC0, eC0K, eC0T, sFrz, eDGet, eDGet1, eDGet2, eDIn, eDNin, sDPt, eIsi, eIsi2, eIsiO, eFld, sFldC, eMk, eMkK, eMt, eMtT, eRev, oIsB, eIsiB, oAddC]
    exact (pss_cons (ps_set (i := 3) sc_law_any.nd rfl (Or.inl rfl) (pe_slice sl_V (pe_cr c_law_mix hr (by decide) (pa_cons (pv 0) (pa_cons (pe_cr c_law_pairs hr (by decide) (pa_cons (pv 1) pa_nil)) pa_nil))) po_none (po_some (pv 2))))
    (pss_one (ps_ret (pe_lc (own := [("_law_x", 4), ("_law_y", 5)]) rfl sc_law_any.nd (pi_any (pv 3)) (blkOk_by (by rfl)) (fun _ _ _ _ _ => (pg_tup rfl (pgs_cons (pg_name (i := 4) sc_law_any.nd rfl (Or.inl rfl)) (pgs_cons (pg_name (i := 5) sc_law_any.nd rfl (Or.inl rfl)) pgs_nil)))) (fun _ _ _ _ _ => pts_nil) (fun _ _ _ _ _ => (pe_tup (pa_cons (pv 4) (pa_cons (pv 5) (pa_cons (pe_cmpR op_lt (pe_cr c_law_take hr (by decide) (pa_cons (pv 0) (pa_cons pe_int pa_nil))) pe_int (nomark _)) pa_nil)))))))))
abbrev s_law_leads : Stmt := top 33
theorem sc_law_leads : FnScope ["_law_answer"] ["_law_answer"] (defScope s_law_leads) := ⟨rfl, rfl, rfl, by decide +kernel, rfl, by decide +kernel, by decide +kernel⟩
theorem ok_law_leads (X : K.In base) (G : base.Ns mainGlobals mg) (T : Txt mg) (A : DefAt K "_law_leads" s_law_leads) : CalR P w K mg base 1 "_law_leads" (SpT ⟨P, w, K⟩ (m_law_leads ⟨P, w, K⟩)) :=
  defR X G A sc_law_leads rfl (fun _ _ _ _ _ _ us hl => match us, hl with | [_], _ => rfl) fun f cdv A outer s H E hr => by
    dsimp only [D_law_leads, eV, eC, eI, eS, eB, eN, aN, aC, eTup, eLst, eLstC, eDK, eDKC, eDTC, eOp, eUn, eCB, tE, tTe, tNo, tAn, tOrr, tY, eAnd, eOr, eNot, eIf, eChain, sNx, sSeq, sNever, sBrk, sCnt, sDrop, sRet, sRetN, sIf, gN, gT, gsN, gsC, sAsg, sPar, sWh, sFor, eLc, eLcC, eLc2, eDcT, iA, iR1, iR2, iEn, iZi, iOwnX, oII, oIB, oIC, oSub, oMod, oDiv, oPow, oLt, oLe, oGt, oGe, oNeg, oAdd, oMul, oMulC, oRepS, oEq, oNe, oIsN, oNotN, oIn, oNin, oIx, pN, pS, eSl, on1, oLen, oAbs, oInt, oIntS, oList, oListC, oListD, oListO, oListOC, oTuple, oAll, oAny, oRepr, oSort, eSortV, oSortDT, oDict, oSet, oInS, oNinS, oLenZ, oLenO, oInO, oIxO, oEqO, oNeO, eDisp, eBM, eBM0, mAppend, mExtend, mClear, mReverse, mPop, mPopAt, mS0, mJoin, hN, hT, hsN, hsC, hSub, sAsH, sAugS, eCl, eClK, eClT, eC0, eC0K, eC0T, sFrz, eDGet, eDGet1, eDGet2, eDIn, eDNin, sDPt, eIsi, eIsi2, eIsiO, eFld, sFldC, eMk, eMkK, eMt, eMtT, eRev, oIsB, eIsiB, oAddC]
    exact (pss_one (ps_ret (pe_ifExp (pt_val (pe_ix ix_seq (pv 0) pe_int (fun _ _ => rfl))) (pe_tup (pa_cons (pe_ix ix_seq (pv 0) pe_int (fun _ _ => rfl)) (pa_cons (pe_ix ix_seq (pv 0) pe_int (fun _ _ => rfl)) pa_nil))) (pe_tup (pa_cons (pe_ix ix_seq (pv 0) pe_int (fun _ _ => rfl)) (pa_cons (pe_ix ix_seq (pv 0) pe_int (fun _ _ => rfl)) pa_nil))))))
abbrev s_law_weight : Stmt := top 34
theorem sc_law_weight : FnScope ["_law_walk_here", "_law_betters", "_law_answer"] ["_law_walk_here"] (defScope s_law_weight) := ⟨rfl, rfl, rfl, by decide +kernel, rfl, by decide +kernel, by decide +kernel⟩
theorem ok_law_weight (X : K.In base) (G : base.Ns mainGlobals mg) (T : Txt mg) (A : DefAt K "_law_weight" s_law_weight) : CalR P w K mg base 1 "_law_weight" (SpT ⟨P, w, K⟩ (m_law_weight ⟨P, w, K⟩)) :=
  defR X G A sc_law_weight rfl (fun _ _ _ _ _ _ us hl => match us, hl with | [_], _ => rfl) fun f cdv A outer s H E hr => by
    dsimp only [D_law_weight, eV, eC, eI, eS, eB, eN, aN, aC, eTup, eLst, eLstC, eDK, eDKC, eDTC, eOp, eUn, eCB, tE, tTe, tNo, tAn, tOrr, tY, eAnd, eOr, eNot, eIf, eChain, sNx, sSeq, sNever, sBrk, sCnt, sDrop, sRet, sRetN, sIf, gN, gT, gsN, gsC, sAsg, sPar, sWh, sFor, eLc, eLcC, eLc2, eDcT, iA, iR1, iR2, iEn, iZi, iOwnX, oII, oIB, oIC, oSub, oMod, oDiv, oPow, oLt, oLe, oGt, oGe, oNeg, oAdd, oMul, oMulC, oRepS, oEq, oNe, oIsN, oNotN, oIn, oNin, oIx, pN, pS, eSl, on1, oLen, oAbs, oInt, oIntS, oList, oListC, oListD, oListO, oListOC, oTuple, oAll, oAny, oRepr, oSort, eSortV, oSortDT, oDict, oSet, oInS, oNinS, oLenZ, oLenO, oInO, oIxO, oEqO, oNeO, eDisp, eBM, eBM0, mAppend, mExtend, mClear, mReverse, mPop, mPopAt, mS0, mJoin, hN, hT, hsN, hsC, hSub, sAsH, sAugS, eCl, eClK, eClT, eC0, eC0K, eC0T, sFrz, eDGet, eDGet1, eDGet2, eDIn, eDNin, sDPt, eIsi, eIsi2, eIsiO, eFld, sFldC, eMk, eMkK, eMt, eMtT, eRev, oIsB, eIsiB, oAddC]
    exact (pss_cons (ps_set (i := 1) sc_law_weight.nd rfl (Or.inl rfl) (pe_callB call_lenA (by rfl) T.b_len (by decide +kernel) (pa_cons (pe_lc (own := [("_law_answer", 2)]) rfl sc_law_weight.nd (pi_any (pv 0)) (blkOk_by (by rfl)) (fun _ _ _ _ _ => (pg_name (i := 2) sc_law_weight.nd rfl (Or.inl rfl))) (fun _ _ _ _ _ => (pts_one (pt_val (pe_ix ix_seq (pv 2) pe_int (fun _ _ => rfl))))) (fun _ _ _ _ _ => (pv 2))) pa_nil)))
    (pss_one (ps_ret (pe_tup (pa_cons (pe_op op_sub (pv 1) (pe_op op_sub (pe_callB call_lenA (by rfl) T.b_len (by decide +kernel) (pa_cons (pv 0) pa_nil)) (pv 1))) (pa_cons (pv 1) pa_nil))))))
abbrev s_law_walk : Stmt := top 35
theorem sc_law_walk : FnScope ["_law_bag_here", "_law_answers", "_law_many", "_law_walk_here", "_law_k", "_law_after", "_law_one"] ["_law_bag_here", "_law_answers", "_law_many"] (defScope s_law_walk) := ⟨rfl, rfl, rfl, by decide +kernel, rfl, by decide +kernel, by decide +kernel⟩
theorem ok_law_walk (X : K.In base) (G : base.Ns mainGlobals mg) (T : Txt mg) (A : DefAt K "_law_walk" s_law_walk) (c_law_leads : CalR P w K mg base 1 "_law_leads" (SpT ⟨P, w, K⟩ (m_law_leads ⟨P, w, K⟩))) (c_law_pick : CalR P w K mg base 2 "_law_pick" (SpT ⟨P, w, K⟩ (m_law_pick ⟨P, w, K⟩))) (c_law_take : CalR P w K mg base 1 "_law_take" (SpT ⟨P, w, K⟩ (m_law_take ⟨P, w, K⟩))) : CalR P w K mg base 3 "_law_walk" (SpT ⟨P, w, K⟩ (m_law_walk ⟨P, w, K⟩)) :=
  defR X G A sc_law_walk rfl (fun _ _ _ _ _ _ us hl => match us, hl with | [_, _, _], _ => rfl) fun f cdv A outer s H E hr => by
    dsimp only [D_law_walk, eV, eC, eI, eS, eB, eN, aN, aC, eTup, eLst, eLstC, eDK, eDKC, eDTC, eOp, eUn, eCB, tE, tTe, tNo, tAn, tOrr, tY, eAnd, eOr, eNot, eIf, eChain, sNx, sSeq, sNever, sBrk, sCnt, sDrop, sRet, sRetN, sIf, gN, gT, gsN, gsC, sAsg, sPar, sWh, sFor, eLc, eLcC, eLc2, eDcT, iA, iR1, iR2, iEn, iZi, iOwnX, oII, oIB, oIC, oSub, oMod, oDiv, oPow, oLt, oLe, oGt, oGe, oNeg, oAdd, oMul, oMulC, oRepS, oEq, oNe, oIsN, oNotN, oIn, oNin, oIx, pN, pS, eSl, on1, oLen, oAbs, oInt, oIntS, oList, oListC, oListD, oListO, oListOC, oTuple, oAll, oAny, oRepr, oSort, eSortV, oSortDT, oDict, oSet, oInS, oNinS, oLenZ, oLenO, oInO, oIxO, oEqO, oNeO, eDisp, eBM, eBM0, mAppend, mExtend, mClear, mReverse, mPop, mPopAt, mS0, mJoin, hN, hT, hsN, hsC, hSub, sAsH, sAugS, eCl, eClK, eClT, eC0, eC0K, eC0T, sFrz, eDGet, eDGet1, eDGet2, eDIn, eDNin, sDPt, eIsi, eIsi2, eIsiO, eFld, sFldC, eMk, eMkK, eMt, eMtT, eRev, oIsB, eIsiB, oAddC]
    exact (pss_cons (ps_set (i := 3) sc_law_walk.nd rfl (Or.inr rfl) (pe_lst pa_nil))
    (pss_cons (ps_for PassesOwn.never rfl (pi_range1 (by rfl) T.b_range (pa_cons (pe_cr c_law_take hr (by decide) (pa_cons (pv 0) (pa_cons (pe_op op_addV (pv 2) pe_int) pa_nil))) pa_nil)) (pg_name (i := 4) sc_law_walk.nd rfl (Or.inl rfl))
      (pss_cons (ps_setLc (i := 5) (own := [("_law_one", 6)]) rfl sc_law_walk.nd rfl rfl (sw_true rfl rfl rfl (by rfl)) (pi_any (pv 1)) (blkOk_by (by rfl)) (fun _ _ _ _ _ => (pg_name (i := 6) sc_law_walk.nd rfl (Or.inl rfl))) (fun _ _ _ _ _ => (pts_one (PW.pt (pw_or (pt_cmpR (op_eqA hr.units) (pv 3) (pe_lst pa_nil) (nomark _)) (pw_or1 (pt_cmpR (op_eqA hr.units) (pe_ix ix_seq (pe_cr c_law_leads hr (by decide) (pa_cons (pv 6) pa_nil)) pe_int (fun _ _ => rfl)) (pe_ix ix_seq (pe_cr c_law_leads hr (by decide) (pa_cons (pe_ix ix_seq (pv 3) (pe_un un_neg pe_int) (fun _ _ => rfl)) pa_nil)) pe_int (fun _ _ => rfl)) (nomark _))))))) (fun _ _ _ _ _ => (pv 6)))
      (pss_one (ps_if (pt_cmpR (op_neA hr.units) (pv 5) (pe_lst pa_nil) (nomark _))
        (pss_one (ps_expr (pe_bm PySem.F.plainAttrs_list PySem.F.slot_list_append PySem.F.type_list_append mt_append (pv 3) (pa_cons (pe_cr c_law_pick hr (by decide) (pa_cons (pv 0) (pa_cons (pv 5) pa_nil))) pa_nil))))
        pss_nil))))
    (pss_one (ps_ret (pv 3)))))
abbrev s_law_is_walk : Stmt := top 36
theorem sc_law_is_walk : FnScope ["_law_answers", "_law_thing", "_law_texts", "_law_answer", "_law_item", "_law_k"] ["_law_answers", "_law_thing"] (defScope s_law_is_walk) := ⟨rfl, rfl, rfl, by decide +kernel, rfl, by decide +kernel, by decide +kernel⟩
theorem ok_law_is_walk (X : K.In base) (G : base.Ns mainGlobals mg) (T : Txt mg) (B : Bk ⟨P, w, K⟩) (O : Own P w K mg B) (A : DefAt K "_law_is_walk" s_law_is_walk) (c_law_leads : CalR P w K mg base 1 "_law_leads" (SpT ⟨P, w, K⟩ (m_law_leads ⟨P, w, K⟩))) : CalG P w K mg base 2 "_law_is_walk" (SpT ⟨P, w, K⟩ (m_law_is_walk B)) :=
  defG X G A sc_law_is_walk rfl (fun _ _ _ _ _ _ us hl => match us, hl with | [_, _], _ => rfl) fun f cdv A outer s H E ng hr => by
    dsimp only [D_law_is_walk, eV, eC, eI, eS, eB, eN, aN, aC, eTup, eLst, eLstC, eDK, eDKC, eDTC, eOp, eUn, eCB, tE, tTe, tNo, tAn, tOrr, tY, eAnd, eOr, eNot, eIf, eChain, sNx, sSeq, sNever, sBrk, sCnt, sDrop, sRet, sRetN, sIf, gN, gT, gsN, gsC, sAsg, sPar, sWh, sFor, eLc, eLcC, eLc2, eDcT, iA, iR1, iR2, iEn, iZi, iOwnX, oII, oIB, oIC, oSub, oMod, oDiv, oPow, oLt, oLe, oGt, oGe, oNeg, oAdd, oMul, oMulC, oRepS, oEq, oNe, oIsN, oNotN, oIn, oNin, oIx, pN, pS, eSl, on1, oLen, oAbs, oInt, oIntS, oList, oListC, oListD, oListO, oListOC, oTuple, oAll, oAny, oRepr, oSort, eSortV, oSortDT, oDict, oSet, oInS, oNinS, oLenZ, oLenO, oInO, oIxO, oEqO, oNeO, eDisp, eBM, eBM0, mAppend, mExtend, mClear, mReverse, mPop, mPopAt, mS0, mJoin, hN, hT, hsN, hsC, hSub, sAsH, sAugS, eCl, eClK, eClT, eC0, eC0K, eC0T, sFrz, eDGet, eDGet1, eDGet2, eDIn, eDNin, sDPt, eIsi, eIsi2, eIsiO, eFld, sFldC, eMk, eMkK, eMt, eMtT, eRev, oIsB, eIsiB, oAddC]
    exact (pss_cons (ps_if (pt_not (pt_val (pe_callB call_isi (by rfl) T.b_isinstance (by decide +kernel) (pa_cons (pv 1) (pa_cons (pe_bltn (v := .ty "list") (by rfl) T.b_list (by decide +kernel) rfl) pa_nil)))))
      (pss_one (ps_ret pe_bl))
      pss_nil)
    (pss_cons (ps_set (i := 2) sc_law_is_walk.nd rfl (Or.inr rfl) (pe_lc (own := [("_law_answer", 3)]) rfl sc_law_is_walk.nd (pi_any (pv 0)) (blkOk_by (by rfl)) (fun _ _ _ _ _ => (pg_name (i := 3) sc_law_is_walk.nd rfl (Or.inl rfl))) (fun _ _ _ _ _ => pts_nil) (fun _ _ _ _ _ => (pe_callB (call_repr ng hr.units) (by rfl) T.b_repr (by decide +kernel) (pa_cons (pv 3) pa_nil)))))
    (pss_cons (ps_if (pt_cmpR (op_neA hr.units) (pe_lc (own := [("_law_item", 4)]) rfl sc_law_is_walk.nd (pi_any (pv 1)) (blkOk_by (by rfl)) (fun _ _ _ _ _ => (pg_name (i := 4) sc_law_is_walk.nd rfl (Or.inl rfl))) (fun _ _ _ _ _ => (pts_one (pt_cmpR (op_notInL (rm65 hr)) (pe_callB (call_repr ng hr.units) (by rfl) T.b_repr (by decide +kernel) (pa_cons (pv 4) pa_nil)) (pv 2) rfl))) (fun _ _ _ _ _ => (pv 4))) (pe_lst pa_nil) (nomark _))
      (pss_one (ps_ret pe_bl))
      pss_nil)
    (pss_one (ps_ret (pe_cmpR (op_eqA hr.units) (pe_lc (own := [("_law_k", 5)]) rfl sc_law_is_walk.nd (pi_range2 (by rfl) T.b_range (pa_cons pe_int (pa_cons (pe_callB call_lenA (by rfl) T.b_len (by decide +kernel) (pa_cons (pv 1) pa_nil)) pa_nil))) (blkOk_by (by rfl)) (fun _ _ _ _ _ => (pg_name (i := 5) sc_law_is_walk.nd rfl (Or.inl rfl))) (fun _ _ _ _ _ => (pts_one (pt_cmpR (op_neA hr.units) (pe_ix ix_seq (pe_cr c_law_leads hr (by decide) (pa_cons (pe_ix ix_seq (pv 1) (pe_op op_sub (pv 5) pe_int) (fun _ _ => rfl)) pa_nil)) pe_int (fun _ _ => rfl)) (pe_ix ix_seq (pe_cr c_law_leads hr (by decide) (pa_cons (pe_ix ix_seq (pv 1) (pv 5) (fun _ _ => rfl)) pa_nil)) pe_int (fun _ _ => rfl)) (nomark _)))) (fun _ _ _ _ _ => (pv 5))) (pe_lst pa_nil) (nomark _)))))))
abbrev s_law_odd_walk : Stmt := top 37
theorem sc_law_odd_walk : FnScope ["_law_bag_here", "_law_walk_here", "_law_things", "_law_odd", "_law_deep", "_law_k", "_law_x", "_law_y", "_law_way", "_law_at", "_law_one", "_law_other", "_law_truth"] ["_law_bag_here", "_law_walk_here", "_law_things"] (defScope s_law_odd_walk) := ⟨rfl, rfl, rfl, by decide +kernel, rfl, by decide +kernel, by decide +kernel⟩
theorem ok_law_odd_walk (X : K.In base) (G : base.Ns mainGlobals mg) (T : Txt mg) (A : DefAt K "_law_odd_walk" s_law_odd_walk) (c_law_pairs : CalR P w K mg base 1 "_law_pairs" (SpT ⟨P, w, K⟩ (m_law_pairs ⟨P, w, K⟩))) (c_law_pick : CalR P w K mg base 2 "_law_pick" (SpT ⟨P, w, K⟩ (m_law_pick ⟨P, w, K⟩))) (c_law_take : CalR P w K mg base 1 "_law_take" (SpT ⟨P, w, K⟩ (m_law_take ⟨P, w, K⟩))) : CalR P w K mg base 3 "_law_odd_walk" (SpT ⟨P, w, K⟩ (m_law_odd_walk ⟨P, w, K⟩)) :=
  defR X G A sc_law_odd_walk rfl (fun _ _ _ _ _ _ us hl => match us, hl with | [_, _, _], _ => rfl) fun f cdv A outer s H E hr => by
    dsimp only [D_law_odd_walk, eV, eC, eI, eS, eB, eN, aN, aC, eTup, eLst, eLstC, eDK, eDKC, eDTC, eOp, eUn, eCB, tE, tTe, tNo, tAn, tOrr, tY, eAnd, eOr, eNot, eIf, eChain, sNx, sSeq, sNever, sBrk, sCnt, sDrop, sRet, sRetN, sIf, gN, gT, gsN, gsC, sAsg, sPar, sWh, sFor, eLc, eLcC, eLc2, eDcT, iA, iR1, iR2, iEn, iZi, iOwnX, oII, oIB, oIC, oSub, oMod, oDiv, oPow, oLt, oLe, oGt, oGe, oNeg, oAdd, oMul, oMulC, oRepS, oEq, oNe, oIsN, oNotN, oIn, oNin, oIx, pN, pS, eSl, on1, oLen, oAbs, oInt, oIntS, oList, oListC, oListD, oListO, oListOC, oTuple, oAll, oAny, oRepr, oSort, eSortV, oSortDT, oDict, oSet, oInS, oNinS, oLenZ, oLenO, oInO, oIxO, oEqO, oNeO, eDisp, eBM, eBM0, mAppend, mExtend, mClear, mReverse, mPop, mPopAt, mS0, mJoin, hN, hT, hsN, hsC, hSub, sAsH, sAugS, eCl, eClK, eClT, eC0, eC0K, eC0T, sFrz, eDGet, eDGet1, eDGet2, eDIn, eDNin, sDPt, eIsi, eIsi2, eIsiO, eFld, sFldC, eMk, eMkK, eMt, eMtT, eRev, oIsB, eIsiB, oAddC]
    exact (pss_cons (ps_asg (pe_cr c_law_pick hr (by decide) (pa_cons (pv 0) (pa_cons (pe_cr c_law_pairs hr (by decide) (pa_cons (pv 2) pa_nil)) pa_nil))) (pg_tup rfl (pgs_cons (pg_name (i := 6) sc_law_odd_walk.nd rfl (Or.inl rfl)) (pgs_cons (pg_name (i := 7) sc_law_odd_walk.nd rfl (Or.inl rfl)) pgs_nil))))
    (pss_cons (ps_set (i := 3) sc_law_odd_walk.nd rfl (Or.inl rfl) (pe_lst (pa_cons pe_non (pa_cons pe_int (pa_cons pe_bl (pa_cons pe_str (pa_cons (pe_tup pa_nil) (pa_cons (pe_lst (pa_cons (pe_tup pa_nil) pa_nil)) (pa_cons pe_dnewK (pa_cons (pe_op op_mulA (pe_lst (pa_cons pe_non pa_nil)) pe_int) (pa_cons (pe_lst (pa_cons (pe_tup (pa_cons (pv 6) (pa_cons (pv 7) pa_nil))) pa_nil)) (pa_cons (pe_lst (pa_cons (pe_tup (pa_cons (pv 6) (pa_cons (pv 7) (pa_cons pe_int pa_nil)))) pa_nil)) (pa_cons (pe_lst (pa_cons (pe_tup (pa_cons (pv 6) (pa_cons (pv 7) (pa_cons pe_str pa_nil)))) pa_nil)) pa_nil)))))))))))))
    (pss_cons (ps_set (i := 3) sc_law_odd_walk.nd rfl (Or.inl rfl) (pe_op op_addV (pv 3) (pe_lst (pa_cons (pe_lst (pa_cons (pe_lst (pa_cons (pv 6) (pa_cons (pv 7) (pa_cons pe_bl pa_nil)))) pa_nil)) (pa_cons (pe_lst (pa_cons (pe_tup (pa_cons (pv 6) (pa_cons (pv 6) (pa_cons pe_bl pa_nil)))) pa_nil)) (pa_cons (pe_lst (pa_cons (pe_tup (pa_cons (pv 6) (pa_cons pe_str (pa_cons pe_bl pa_nil)))) pa_nil)) (pa_cons (pe_lst (pa_cons (pe_tup (pa_cons (pv 6) (pa_cons (pv 7) (pa_cons pe_bl (pa_cons (pv 6) pa_nil))))) pa_nil)) (pa_cons (pe_lst (pa_cons (pe_tup (pa_cons (pv 6) (pa_cons (pv 7) (pa_cons pe_non pa_nil)))) pa_nil)) pa_nil))))))))
    (pss_cons (ps_set (i := 4) sc_law_odd_walk.nd rfl (Or.inl rfl) (pe_lst (pa_cons (pe_tup (pa_cons (pv 6) (pa_cons (pv 7) (pa_cons pe_bl pa_nil)))) pa_nil)))
    (pss_cons (ps_for PassesOwn.never rfl (pi_range1 (by rfl) T.b_range (pa_cons pe_int pa_nil)) (pg_name (i := 5) sc_law_odd_walk.nd rfl (Or.inl rfl))
      (pss_one (ps_set (i := 4) sc_law_odd_walk.nd rfl (Or.inl rfl) (pe_lst (pa_cons (pv 4) pa_nil)))))
    (pss_cons (ps_set (i := 3) sc_law_odd_walk.nd rfl (Or.inl rfl) (pe_op op_addV (pv 3) (pe_lst (pa_cons (pe_callTy call_tuple_of (by rfl) T.b_tuple (by decide +kernel) (pa_cons (pv 1) pa_nil)) (pa_cons (pe_lst (pa_cons (pv 1) pa_nil)) (pa_cons (pe_lst (pa_cons (pv 6) pa_nil)) (pa_cons (pv 4) (pa_cons (pe_lst (pa_cons (pe_tup (pa_cons (pv 6) (pa_cons (pe_lst pa_nil) (pa_cons pe_bl pa_nil)))) pa_nil)) (pa_cons (pe_lst (pa_cons (pe_tup (pa_cons (pe_lst (pa_cons (pv 6) pa_nil)) (pa_cons (pv 7) (pa_cons pe_bl pa_nil)))) pa_nil)) (pa_cons (pe_lst (pa_cons (pe_tup (pa_cons (pv 6) (pa_cons (pv 7) (pa_cons (pe_lst pa_nil) pa_nil)))) pa_nil)) pa_nil))))))))))
    (pss_cons (ps_expr (pe_bm PySem.F.plainAttrs_list PySem.F.slot_list_append PySem.F.type_list_append mt_append (pv 3) (pa_cons (pe_op op_addV (pe_op op_addV (pe_slice sl_V (pv 1) po_none (po_some pe_int)) (pe_lc (own := [("_law_one", 10), ("_law_other", 11), ("_law_truth", 12)]) rfl sc_law_odd_walk.nd (pi_any (pe_slice sl_V (pv 1) (po_some pe_int) (po_some pe_int))) (blkOk_by (by rfl)) (fun _ _ _ _ _ => (pg_tup rfl (pgs_cons (pg_name (i := 10) sc_law_odd_walk.nd rfl (Or.inl rfl)) (pgs_cons (pg_name (i := 11) sc_law_odd_walk.nd rfl (Or.inl rfl)) (pgs_cons (pg_name (i := 12) sc_law_odd_walk.nd rfl (Or.inl rfl)) pgs_nil))))) (fun _ _ _ _ _ => pts_nil) (fun _ _ _ _ _ => (pe_tup (pa_cons (pv 10) (pa_cons (pv 11) (pa_cons (pe_callTy call_intA (by rfl) T.b_int (by decide +kernel) (pa_cons (pv 12) pa_nil)) pa_nil))))))) (pe_slice sl_V (pv 1) (po_some pe_int) po_none)) pa_nil)))
    (pss_cons (ps_expr (pe_bm PySem.F.plainAttrs_list PySem.F.slot_list_append PySem.F.type_list_append mt_append (pv 3) (pa_cons (pe_op op_addV (pe_lc (own := [("_law_one", 10), ("_law_other", 11), ("_law_truth", 12)]) rfl sc_law_odd_walk.nd (pi_any (pe_slice sl_V (pv 1) po_none (po_some pe_int))) (blkOk_by (by rfl)) (fun _ _ _ _ _ => (pg_tup rfl (pgs_cons (pg_name (i := 10) sc_law_odd_walk.nd rfl (Or.inl rfl)) (pgs_cons (pg_name (i := 11) sc_law_odd_walk.nd rfl (Or.inl rfl)) (pgs_cons (pg_name (i := 12) sc_law_odd_walk.nd rfl (Or.inl rfl)) pgs_nil))))) (fun _ _ _ _ _ => pts_nil) (fun _ _ _ _ _ => (pe_tup (pa_cons (pv 10) (pa_cons (pv 11) (pa_cons (pe_callTy call_intA (by rfl) T.b_int (by decide +kernel) (pa_cons (pv 12) pa_nil)) pa_nil)))))) (pe_slice sl_V (pv 1) (po_some pe_int) po_none)) pa_nil)))
    (pss_cons (ps_par (i := 8) (j := 9) (by rfl) sc_law_odd_walk.nd rfl rfl (by decide) rfl rfl (pa_cons (pe_cr c_law_take hr (by decide) (pa_cons (pv 0) (pa_cons pe_int pa_nil))) (pa_cons (pe_cr c_law_take hr (by decide) (pa_cons (pv 0) (pa_cons (pe_op op_addV (pe_callB call_lenA (by rfl) T.b_len (by decide +kernel) (pa_cons (pv 1) pa_nil)) pe_int) pa_nil))) pa_nil)) (by rfl))
    (pss_cons (ps_if (pt_cmpR op_lt (pv 8) pe_int (nomark _))
      (pss_one (ps_ret (pe_ix ix_seq (pv 3) (pe_cr c_law_take hr (by decide) (pa_cons (pv 0) (pa_cons pe_int pa_nil))) (fun _ _ => rfl))))
      pss_nil)
    (pss_cons (ps_if (pt_cmpR (op_eqA hr.units) (pv 8) pe_int (nomark _))
      (pss_one (ps_ret (pe_revL (pv 1))))
      pss_nil)
    (pss_cons (ps_if (pt_cmpR (op_eqA hr.units) (pv 8) pe_int (nomark _))
      (pss_one (ps_ret (pe_op op_addV (pe_op op_addV (pe_slice sl_V (pv 1) po_none (po_some (pv 9))) (pe_lst (pa_cons (pe_tup (pa_cons (pv 6) (pa_cons (pv 7) (pa_cons (pe_cmpR (op_eqA hr.units) (pe_cr c_law_take hr (by decide) (pa_cons (pv 0) (pa_cons pe_int pa_nil))) pe_int (nomark _)) pa_nil)))) pa_nil))) (pe_slice sl_V (pv 1) (po_some (pv 9)) po_none))))
      pss_nil)
    (pss_cons (ps_if (pt_cmpR (op_eqA hr.units) (pv 8) pe_int (nomark _))
      (pss_one (ps_ret (pe_op op_addV (pe_slice sl_V (pv 1) po_none (po_some (pv 9))) (pe_slice sl_V (pv 1) (po_some (pe_op op_addV (pv 9) pe_int)) po_none))))
      pss_nil)
    (pss_cons (ps_if (pt_cmpR (op_eqA hr.units) (pv 8) pe_int (nomark _))
      (pss_one (ps_ret (pe_op op_addV (pv 1) (pe_slice sl_V (pv 1) po_none (po_some (pv 9))))))
      pss_nil)
    (pss_cons (ps_if (pt_cmpR (op_eqA hr.units) (pv 8) pe_int (nomark _))
      (pss_one (ps_ret (pe_op op_addV (pe_op op_addV (pe_slice sl_V (pv 1) po_none (po_some (pv 9))) (pe_lc (own := [("_law_one", 10), ("_law_other", 11), ("_law_truth", 12)]) rfl sc_law_odd_walk.nd (pi_any (pe_slice sl_V (pv 1) (po_some (pv 9)) (po_some (pe_op op_addV (pv 9) pe_int)))) (blkOk_by (by rfl)) (fun _ _ _ _ _ => (pg_tup rfl (pgs_cons (pg_name (i := 10) sc_law_odd_walk.nd rfl (Or.inl rfl)) (pgs_cons (pg_name (i := 11) sc_law_odd_walk.nd rfl (Or.inl rfl)) (pgs_cons (pg_name (i := 12) sc_law_odd_walk.nd rfl (Or.inl rfl)) pgs_nil))))) (fun _ _ _ _ _ => pts_nil) (fun _ _ _ _ _ => (pe_tup (pa_cons (pv 10) (pa_cons (pv 11) (pa_cons (pe_not (pv 12)) pa_nil))))))) (pe_slice sl_V (pv 1) (po_some (pe_op op_addV (pv 9) pe_int)) po_none))))
      pss_nil)
    (pss_one (ps_ret (pe_op op_addV (pe_slice sl_V (pv 1) (po_some (pv 9)) po_none) (pe_slice sl_V (pv 1) po_none (po_some (pv 9)))))))))))))))))))))
abbrev s_law_told : Stmt := top 38
theorem sc_law_told : FnScope ["_law_walk_here", "_law_answer"] ["_law_walk_here"] (defScope s_law_told) := ⟨rfl, rfl, rfl, by decide +kernel, rfl, by decide +kernel, by decide +kernel⟩
theorem ok_law_told (X : K.In base) (G : base.Ns mainGlobals mg) (T : Txt mg) (A : DefAt K "_law_told" s_law_told) (c_law_leads : CalR P w K mg base 1 "_law_leads" (SpT ⟨P, w, K⟩ (m_law_leads ⟨P, w, K⟩))) : CalR P w K mg base 2 "_law_told" (SpT ⟨P, w, K⟩ (m_law_told ⟨P, w, K⟩)) :=
  defR X G A sc_law_told rfl (fun _ _ _ _ _ _ us hl => match us, hl with | [_], _ => rfl) fun f cdv A outer s H E hr => by
    dsimp only [D_law_told, eV, eC, eI, eS, eB, eN, aN, aC, eTup, eLst, eLstC, eDK, eDKC, eDTC, eOp, eUn, eCB, tE, tTe, tNo, tAn, tOrr, tY, eAnd, eOr, eNot, eIf, eChain, sNx, sSeq, sNever, sBrk, sCnt, sDrop, sRet, sRetN, sIf, gN, gT, gsN, gsC, sAsg, sPar, sWh, sFor, eLc, eLcC, eLc2, eDcT, iA, iR1, iR2, iEn, iZi, iOwnX, oII, oIB, oIC, oSub, oMod, oDiv, oPow, oLt, oLe, oGt, oGe, oNeg, oAdd, oMul, oMulC, oRepS, oEq, oNe, oIsN, oNotN, oIn, oNin, oIx, pN, pS, eSl, on1, oLen, oAbs, oInt, oIntS, oList, oListC, oListD, oListO, oListOC, oTuple, oAll, oAny, oRepr, oSort, eSortV, oSortDT, oDict, oSet, oInS, oNinS, oLenZ, oLenO, oInO, oIxO, oEqO, oNeO, eDisp, eBM, eBM0, mAppend, mExtend, mClear, mReverse, mPop, mPopAt, mS0, mJoin, hN, hT, hsN, hsC, hSub, sAsH, sAugS, eCl, eClK, eClT, eC0, eC0K, eC0T, sFrz, eDGet, eDGet1, eDGet2, eDIn, eDNin, sDPt, eIsi, eIsi2, eIsiO, eFld, sFldC, eMk, eMkK, eMt, eMtT, eRev, oIsB, eIsiB, oAddC]
    exact (pss_one (ps_ret (pe_op op_addV (pe_lst (pa_cons (pe_ix ix_seq (pe_cr c_law_leads hr (by decide) (pa_cons (pe_ix ix_seq (pv 0) pe_int (fun _ _ => rfl)) pa_nil)) pe_int (fun _ _ => rfl)) pa_nil)) (pe_lc (own := [("_law_answer", 1)]) rfl sc_law_told.nd (pi_any (pv 0)) (blkOk_by (by rfl)) (fun _ _ _ _ _ => (pg_name (i := 1) sc_law_told.nd rfl (Or.inl rfl))) (fun _ _ _ _ _ => pts_nil) (fun _ _ _ _ _ => (pe_ix ix_seq (pe_cr c_law_leads hr (by decide) (pa_cons (pv 1) pa_nil)) pe_int (fun _ _ => rfl)))))))
abbrev slaw : Stmt := top 39
theorem sclaw : FnScope ["_law_script", "_law_bag_here", "_law_turn", "_law_things", "_law_answers", "_law_book", "_law_k", "_law_walk_here", "_law_again", "_law_thing", "_law_looked", "_law_weight_here", "_law_told_here", "_law_due", "_law_shown"] ["_law_script"] (defScope slaw) := ⟨rfl, rfl, rfl, by decide +kernel, rfl, by decide +kernel, by decide +kernel⟩
theorem oklaw {f : Addr} {fd : FuncData} (F : L2.Fun K "law" "law" slaw f fd) (T : Txt mg) (B : Bk ⟨P, w, K⟩) (O : Own P w K mg B) (c_Book : C8.Mak P w K mg base 5 "Book" B.C (SpT ⟨P, w, K⟩ (mBook__init__ B)) []) (c_BookD : C8.Mak P w K mg base 5 "Book" B.C (SpT ⟨P, w, K⟩ (mBook__init__ B)) [.ref B.df]) (c_law_alike : CalG P w K mg base 1 "_law_alike" (SpT ⟨P, w, K⟩ (m_law_alike ⟨P, w, K⟩))) (c_law_any : CalR P w K mg base 3 "_law_any" (SpT ⟨P, w, K⟩ (m_law_any ⟨P, w, K⟩))) (c_law_bag : CalR P w K mg base 1 "_law_bag" (SpT ⟨P, w, K⟩ (m_law_bag ⟨P, w, K⟩))) (c_law_is_walk : CalG P w K mg base 2 "_law_is_walk" (SpT ⟨P, w, K⟩ (m_law_is_walk B))) (c_law_names : CalR P w K mg base 3 "_law_names" (SpT ⟨P, w, K⟩ (m_law_names ⟨P, w, K⟩))) (c_law_odd_walk : CalR P w K mg base 3 "_law_odd_walk" (SpT ⟨P, w, K⟩ (m_law_odd_walk ⟨P, w, K⟩))) (c_law_take : CalR P w K mg base 1 "_law_take" (SpT ⟨P, w, K⟩ (m_law_take ⟨P, w, K⟩))) (c_law_told : CalR P w K mg base 2 "_law_told" (SpT ⟨P, w, K⟩ (m_law_told ⟨P, w, K⟩))) (c_law_walk : CalR P w K mg base 3 "_law_walk" (SpT ⟨P, w, K⟩ (m_law_walk ⟨P, w, K⟩))) (c_law_weight : CalR P w K mg base 1 "_law_weight" (SpT ⟨P, w, K⟩ (m_law_weight ⟨P, w, K⟩))) (cis_walk : CalR P w K mg base 5 "is_walk" (SpT ⟨P, w, K⟩ (mis_walk B))) (cthings_through : CalR P w K mg base 2 "things_through" (SpT ⟨P, w, K⟩ (mthings_through ⟨P, w, K⟩))) (cweight_of : CalR P w K mg base 1 "weight_of" (SpT ⟨P, w, K⟩ (mweight_of ⟨P, w, K⟩))) : FnG P w K mg base CX0 7 f fd ["_law_script"] (SpT ⟨P, w, K⟩ (mlaw B)) :=
  defF F sclaw rfl fun cdv A outer s H E ng hr => by
    dsimp only [Dlaw, eV, eC, eI, eS, eB, eN, aN, aC, eTup, eLst, eLstC, eDK, eDKC, eDTC, eOp, eUn, eCB, tE, tTe, tNo, tAn, tOrr, tY, eAnd, eOr, eNot, eIf, eChain, sNx, sSeq, sNever, sBrk, sCnt, sDrop, sRet, sRetN, sIf, gN, gT, gsN, gsC, sAsg, sPar, sWh, sFor, eLc, eLcC, eLc2, eDcT, iA, iR1, iR2, iEn, iZi, iOwnX, oII, oIB, oIC, oSub, oMod, oDiv, oPow, oLt, oLe, oGt, oGe, oNeg, oAdd, oMul, oMulC, oRepS, oEq, oNe, oIsN, oNotN, oIn, oNin, oIx, pN, pS, eSl, on1, oLen, oAbs, oInt, oIntS, oList, oListC, oListD, oListO, oListOC, oTuple, oAll, oAny, oRepr, oSort, eSortV, oSortDT, oDict, oSet, oInS, oNinS, oLenZ, oLenO, oInO, oIxO, oEqO, oNeO, eDisp, eBM, eBM0, mAppend, mExtend, mClear, mReverse, mPop, mPopAt, mS0, mJoin, hN, hT, hsN, hsC, hSub, sAsH, sAugS, eCl, eClK, eClT, eC0, eC0K, eC0T, sFrz, eDGet, eDGet1, eDGet2, eDIn, eDNin, sDPt, eIsi, eIsi2, eIsiO, eFld, sFldC, eMk, eMkK, eMt, eMtT, eRev, oIsB, eIsiB, oAddC]
    exact (pss_cons (ps_set (i := 1) sclaw.nd rfl (Or.inl rfl) (pe_cr c_law_bag hr (by decide) (pa_cons (pv 0) pa_nil)))
    (pss_cons (ps_for PassesOwn.never rfl (pi_range1 (by rfl) T.b_range (pa_cons pe_int pa_nil)) (pg_name (i := 2) sclaw.nd rfl (Or.inl rfl))
      (pss_cons (ps_set (i := 3) sclaw.nd rfl (Or.inl rfl) (pe_cr c_law_names hr (by decide) (pa_cons (pv 1) (pa_cons (pe_op op_addV pe_int (pe_cr c_law_take hr (by decide) (pa_cons (pv 1) (pa_cons pe_int pa_nil)))) pa_nil))))
      (pss_cons (ps_set (i := 4) sclaw.nd rfl (Or.inl rfl) (pe_cr c_law_any hr (by decide) (pa_cons (pv 1) (pa_cons (pv 3) (pa_cons (pe_op op_addV pe_int (pe_cr c_law_take hr (by decide) (pa_cons (pv 1) (pa_cons pe_int pa_nil)))) pa_nil)))))
      (pss_cons (ps_set (i := 5) sclaw.nd rfl (Or.inl rfl) (C8.pe_mk c_Book hr (by decide) rfl (pa_cons (pv 3) (pa_cons (pv 4) pa_nil))))
      (pss_one (ps_for PassesOwn.never rfl (pi_range1 (by rfl) T.b_range (pa_cons pe_int pa_nil)) (pg_name (i := 6) sclaw.nd rfl (Or.inl rfl))
        (pss_cons (ps_set (i := 7) sclaw.nd rfl (Or.inl rfl) (pe_cr c_law_walk hr (by decide) (pa_cons (pv 1) (pa_cons (pv 4) (pa_cons pe_int pa_nil)))))
        (pss_cons (ps_par (i := 10) (j := 11) (by rfl) sclaw.nd rfl rfl (by decide) rfl rfl (pa_cons (pe_callB (call_repr ng hr.units) (by rfl) T.b_repr (by decide +kernel) (pa_cons (pv 7) pa_nil)) (pa_cons (pe_cr c_law_weight hr (by decide) (pa_cons (pv 7) pa_nil)) pa_nil)) (by rfl))
        (pss_cons (ps_if (PW.pt (pw_or (pt_not (pt_val (pe_cg c_law_alike ng hr (by decide) (pa_cons (pe_cr cweight_of hr (by decide) (pa_cons (pv 7) pa_nil)) (pa_cons (pv 11) pa_nil))))) (pw_or1 (pt_cmpR (op_neA hr.units) (pe_callB (call_repr ng hr.units) (by rfl) T.b_repr (by decide +kernel) (pa_cons (pv 7) pa_nil)) (pv 10) (nomark _)))))
          (pss_one (ps_ret pe_bl))
          pss_nil)
        (pss_cons (ps_for PassesOwn.never rfl (pi_range1 (by rfl) T.b_range (pa_cons (pe_op op_mulA pe_int (pe_callTy call_intA (by rfl) T.b_int (by decide +kernel) (pa_cons (pe_cmpR (op_neA hr.units) (pv 7) (pe_lst pa_nil) (nomark _)) pa_nil))) pa_nil)) (pg_name (i := 8) sclaw.nd rfl (Or.inl rfl))
          (pss_cons (ps_set (i := 12) sclaw.nd rfl (Or.inl rfl) (pe_cr cthings_through hr (by decide) (pa_cons (pv 7) pa_nil)))
          (pss_cons (ps_if (pt_not (pt_val (pe_cg c_law_alike ng hr (by decide) (pa_cons (pv 12) (pa_cons (pe_cr c_law_told hr (by decide) (pa_cons (pv 7) pa_nil)) pa_nil)))))
            (pss_one (ps_ret pe_bl))
            pss_nil)
          (pss_one (ps_expr (pe_bm PySem.F.plainAttrs_list PySem.F.slot_list_append PySem.F.type_list_append mt_append (pv 12) (pa_cons pe_non pa_nil)))))))
        (pss_cons (ps_if (pt_cmpR (op_neA hr.units) (pe_callB (call_repr ng hr.units) (by rfl) T.b_repr (by decide +kernel) (pa_cons (pv 7) pa_nil)) (pv 10) (nomark _))
          (pss_one (ps_ret pe_bl))
          pss_nil)
        (pss_one (ps_for PassesOwn.never rfl (pi_any (pe_lst (pa_cons (pv 7) (pa_cons (pe_cr c_law_odd_walk hr (by decide) (pa_cons (pv 1) (pa_cons (pv 7) (pa_cons (pv 3) pa_nil)))) (pa_cons (pe_cr c_law_odd_walk hr (by decide) (pa_cons (pv 1) (pa_cons (pv 7) (pa_cons (pv 3) pa_nil)))) (pa_cons (pv 5) pa_nil)))))) (pg_name (i := 9) sclaw.nd rfl (Or.inl rfl))
          (pss_cons (ps_par (i := 13) (j := 14) (by rfl) sclaw.nd rfl rfl (by decide) rfl rfl (pa_cons (pe_cg c_law_is_walk ng hr (by decide) (pa_cons (pv 4) (pa_cons (pv 9) pa_nil))) (pa_cons pe_str pa_nil)) (by rfl))
          (pss_cons (ps_if (pt_not (pt_val (pe_callB call_isi (by rfl) T.b_isinstance (by decide +kernel) (pa_cons (pv 9) (pa_cons (pe_glob (v := .ref B.C) (by rfl) O.hm rfl) pa_nil)))))
            (pss_one (ps_set (i := 14) sclaw.nd rfl (Or.inl rfl) (pe_callB (call_repr ng hr.units) (by rfl) T.b_repr (by decide +kernel) (pa_cons (pv 9) pa_nil))))
            pss_nil)
          (pss_cons (ps_for PassesOwn.never rfl (pi_range1 (by rfl) T.b_range (pa_cons pe_int pa_nil)) (pg_name (i := 8) sclaw.nd rfl (Or.inl rfl))
            (pss_one (ps_if (pt_not (pt_val (pe_cg c_law_alike ng hr (by decide) (pa_cons (pe_cr cis_walk hr (by decide) (pa_cons (pv 5) (pa_cons (pv 9) pa_nil))) (pa_cons (pv 13) pa_nil)))))
              (pss_one (ps_ret pe_bl))
              pss_nil)))
          (pss_one (ps_if (PW.pt (pw_and (pt_cmpR (op_neA hr.units) (pv 14) pe_str (nomark _)) (pw_and1 (pt_cmpR (op_neA hr.units) (pe_callB (call_repr ng hr.units) (by rfl) T.b_repr (by decide +kernel) (pa_cons (pv 9) pa_nil)) (pv 14) (nomark _)))))
            (pss_one (ps_ret pe_bl))
            pss_nil))))))))))))))))))
    (pss_one (ps_ret (pe_and (pe_cmpR op_isBl (pe_cr cis_walk hr (by decide) (pa_cons (C8.pe_mk c_BookD hr (by decide) rfl (pa_cons (pe_lst pa_nil) pa_nil)) (pa_cons (pe_lst pa_nil) pa_nil))) pe_bl (nomark _)) (pe_one (pe_cmpR op_isBl (pe_cr cis_walk hr (by decide) (pa_cons (C8.pe_mk c_BookD hr (by decide) rfl (pa_cons (pe_lst pa_nil) pa_nil)) (pa_cons (pe_lst (pa_cons (pe_tup pa_nil) pa_nil)) pa_nil))) pe_bl (nomark _))))))))
end
end LW

/-! the top: what the written part gives, the law's promise -/
namespace LW
open PySem PySem.Spec PyProof.Rows L2 Gd Vw
theorem at_mk {K : PySem.W.Frag} {x : Str} {st : Stmt} {f : Addr} {oc : Value} {od an : Option Addr} {sl : Array (Option Value)} {kV dc pm cd ct : Value} (h1 : PySem.W.nsIn K mainGlobals x = some (some (.ref f)))
    (h2 : K.lookup f = some ⟨oc, od, .func (PySem.W.fnOf x x (defArgs st) (defBody st) (defScope st) .none kV dc pm an cd ct), sl⟩) (h3 : PySem.W.codeIn K cd x = true) (h4 : PySem.W.keepIn K (.ref f) = true) : DefAt K x st := ⟨f, oc, od, an, sl, kV, dc, pm, cd, ct, h1, h2, h3, h4⟩
theorem met_mk {K : PySem.W.Frag} {C f : Addr} {m qual : Str} {st : Stmt} {oc : Value} {od an : Option Addr} {sl : Array (Option Value)} {kV dc pm cd ct : Value} (h1 : PySem.W.findIn K (.ref C) m = some (some (.ref f))) (h2 : PySem.W.isFn K (.ref f) = true) (h3 : PySem.W.keepIn K (.ref f) = true)
    (h4 : K.lookup f = some ⟨oc, od, .func (PySem.W.fnOf m qual (C8.fnArgs st) (C8.fnBody st) (C8.fnScope st) .none kV dc pm an cd ct), sl⟩) (h5 : PySem.W.codeIn K cd qual = true) : MDef K C m qual st := ⟨f, _, h1, h2, h3, ⟨⟨oc, od, .none, kV, dc, pm, an, cd, ct, sl, rfl, h4, h5⟩⟩, rfl⟩
/-- the law's promise: True, whatever the script -/
def SpLaw (K : PySem.W.Frag) : Sp := fun vs H Q _ => ∃ (a : Addr) (ns : List Int), vs = [.ref a] ∧ SqL K H a (ns.map V.int) ∧ Only H ∧ ns.length ≤ 63 ∧ ∀ H', Q (.bl true) H'
theorem spLaw_of {P : Program} {w : World} {K : PySem.W.Frag} {m : Mn} (hm : ∀ ns : List Int, m [.scr ns] [] (fun t _ => t = .bl true)) {vs : List V} {H : Hp} {Q : VK} {E : XK} (h : SpLaw K vs H Q E) : SpT ⟨P, w, K⟩ m vs H Q E := by
  obtain ⟨a, ns, rfl, sq, on, l, q⟩ := h
  have z : ns.length ≤ Vw.big := by show _ ≤ 100000; omega
  have nb : ¬ Bar [] [] a := fun b => b.elim (fun m => nomatch m) fun m => nomatch m
  have ta : Ta ⟨P, w, K⟩ [] [] H (.ref a) (.scr ns) := by
    rcases sq with (h | ⟨ob, h⟩) | h
    · rcases on a with e | ⟨ob, xs, e⟩
      · rw [e] at h; cases h
      · rw [e] at h; cases h
    · exact .scrF nb h z
    · exact .scrK h z
  refine ⟨[], [], [], [.scr ns], _, ⟨rfl, fun n b x e => by simp at e, fun n x e => by simp at e, fun n e => by simp at e, fun i j b e => by simp at e, fun p m => (nomatch m), fun p m => (nomatch m)⟩, .cons ta .nil, hm ns, ?_⟩
  intro v t st' H' L' g r a' e
  subst e
  cases a'
  exact q H'
theorem fn_weak {P : Program} {w : World} {K : PySem.W.Frag} {mg : Str → Option Value} {base : Heap} {CX : CXT} {k : Nat} {f : Addr} {fd : FuncData} {ps : List Str} {sp sp' : Sp} (F : FnG P w K mg base CX k f fd ps sp) (h : ∀ vs H Q E, sp' vs H Q E → sp vs H Q E) : FnG P w K mg base CX k f fd ps sp' :=
  ⟨fun vs H Q E q => F.lenG vs H Q E (h vs H Q E q), fun A outer s H args us vs Q E ng hr e0 hb r q => F.runG A outer s H args us vs Q E ng hr e0 hb r (h vs H Q E q)⟩
theorem all_mk {l : PySem.W.OpenLaw} {w : World} {K : PySem.W.Frag} {h : Heap} {mg : Str → Option Value} {fa f1 : Addr} (X : K.In h) (G : h.Ns mainGlobals mg) (hfa : mg "law" = some (.ref fa))
    {od1 an1 : Option Addr} {sl1 : Array (Option Value)} {oc1 kV1 dc1 pm1 cd1 ct1 : Value}
    {tk0 : Tok}
    (a1 : PySem.W.nsIn K mainGlobals "law" = some (some (.ref f1))) (l1 : K.lookup f1 = some ⟨oc1, od1, .func (PySem.W.fnOf "law" "law" (defArgs slaw) (defBody slaw) (defScope slaw) .none kV1 dc1 pm1 an1 cd1 ct1), sl1⟩) (c1 : PySem.W.codeIn K cd1 "law" = true) (k1 : PySem.W.keepIn K (.ref f1) = true)
    (d_is_name : DefAt K "is_name" sis_name)
    (d_is_pair : DefAt K "is_pair" sis_pair)
    (d_is_answer : DefAt K "is_answer" sis_answer)
    (d_are_names : DefAt K "are_names" sare_names)
    (d_are_answers : DefAt K "are_answers" sare_answers)
    (d_first_stranger : DefAt K "first_stranger" sfirst_stranger)
    (d_pair_of : DefAt K "pair_of" spair_of)
    (d_ends_of : DefAt K "ends_of" sends_of)
    (d_is_walk : DefAt K "is_walk" sis_walk)
    (d_weight_of : DefAt K "weight_of" sweight_of)
    (d_things_through : DefAt K "things_through" sthings_through)
    (d__law_bag : DefAt K "_law_bag" s_law_bag)
    (d__law_take : DefAt K "_law_take" s_law_take)
    (d__law_alike : DefAt K "_law_alike" s_law_alike)
    (d__law_pick : DefAt K "_law_pick" s_law_pick)
    (d__law_mix : DefAt K "_law_mix" s_law_mix)
    (d__law_names : DefAt K "_law_names" s_law_names)
    (d__law_pairs : DefAt K "_law_pairs" s_law_pairs)
    (d__law_any : DefAt K "_law_any" s_law_any)
    (d__law_leads : DefAt K "_law_leads" s_law_leads)
    (d__law_weight : DefAt K "_law_weight" s_law_weight)
    (d__law_walk : DefAt K "_law_walk" s_law_walk)
    (d__law_is_walk : DefAt K "_law_is_walk" s_law_is_walk)
    (d__law_odd_walk : DefAt K "_law_odd_walk" s_law_odd_walk)
    (d__law_told : DefAt K "_law_told" s_law_told)
    {C fI T0 a0 fG : Addr} {ocI kVI dcI pmI cdI ctI : Value} {odI anI odT odA : Option Addr} {slI slT slA : Array (Option Value)} {nT nA : Nat}
    (aC : PySem.W.nsIn K mainGlobals "Book" = some (some (.ref C))) (mk : PySem.W.makesIn K C = true) (ai : PySem.W.findIn K (.ref C) "__init__" = some (some (.ref fI))) (ii : PySem.W.isFn K (.ref fI) = true) (kc : PySem.W.keepIn K (.ref C) = true)
    (lI : K.lookup fI = some ⟨ocI, odI, .func (PySem.W.fnOf "__init__" "Book.__init__" (C8.fnArgs sBook__init__) (C8.fnBody sBook__init__) (C8.fnScope sBook__init__) (.ref T0) kVI dcI pmI anI cdI ctI), slI⟩) (cI : PySem.W.codeIn K cdI "Book.__init__" = true) (kI : PySem.W.keepIn K (.ref fI) = true)
    (lT : K.lookup T0 = some ⟨.type "tuple", odT, .seq #[.ref a0] nT, slT⟩) (lA : K.lookup a0 = some ⟨.type "tuple", odA, .seq #[] nA, slA⟩)
    (pg : PySem.W.plainGet K C Str.empty = true) (hd : PySem.W.hasDictIn K C = true) (po : PySem.W.plainOver K C = true) (sa : PySem.W.findIn K (.ref C) "__setattr__" = some (some (.builtin "object.__setattr__")))
    (n0 : PySem.W.findIn K (.ref C) "_things" = some none)
    (n1 : PySem.W.findIn K (.ref C) "_truths" = some none)
    (n2 : PySem.W.findIn K (.ref C) "_answers" = some none)
    (n3 : PySem.W.findIn K (.ref C) "kept" = some none)
    (b1 : PySem.W.findIn K (.ref C) "__class__" = some (some (.builtin "object.__class__"))) (b2 : PySem.W.specialIn K (.builtin "object.__class__") "__get__" = some (some (.builtin "getset_descriptor.__get__"))) (b3 : PySem.W.takesIn K (.builtin "object.__class__") = some true) (b4 : PySem.W.mroIn K C (.type "object") = some true) (b5 : PySem.W.kitOne K (.ref C) (.ref C) = some true)
    (e0 : PySem.W.kitOne K (.type "NoneType") (.ref C) = some false)
    (e1 : PySem.W.kitOne K (.type "bool") (.ref C) = some false)
    (e2 : PySem.W.kitOne K (.type "int") (.ref C) = some false)
    (e3 : PySem.W.kitOne K (.type "str") (.ref C) = some false)
    (e4 : PySem.W.kitOne K (.type "list") (.ref C) = some false)
    (e5 : PySem.W.kitOne K (.type "tuple") (.ref C) = some false)
    (e6 : PySem.W.kitOne K (.type "dict") (.ref C) = some false)
    (u0 : PySem.W.subIn K (.type "NoneType") (.ref C) = some false)
    (u1 : PySem.W.subIn K (.type "bool") (.ref C) = some false)
    (u2 : PySem.W.subIn K (.type "int") (.ref C) = some false)
    (u3 : PySem.W.subIn K (.type "str") (.ref C) = some false)
    (u4 : PySem.W.subIn K (.type "list") (.ref C) = some false)
    (u5 : PySem.W.subIn K (.type "tuple") (.ref C) = some false)
    (u6 : PySem.W.subIn K (.type "dict") (.ref C) = some false)
    (hne : PySem.W.findIn K (.ref C) "__ne__" = some (some (.builtin "object.__ne__")))
    (g1 : PySem.W.findIn K (.ref C) "__getitem__" = some (some (.ref fG))) (g2 : PySem.W.fnIn K fG = true)
    (ni_list : PySem.W.kitOne K (.ref C) (.type "list") = some false)
    (m___contains__ : MDef K C "__contains__" "Book.__contains__" sBook__contains__)
    (z_abs : PySem.W.nsIn K mainGlobals "abs" = some none)
    (z_all : PySem.W.nsIn K mainGlobals "all" = some none)
    (z_bool : PySem.W.nsIn K mainGlobals "bool" = some none)
    (z_int : PySem.W.nsIn K mainGlobals "int" = some none)
    (z_isinstance : PySem.W.nsIn K mainGlobals "isinstance" = some none)
    (z_len : PySem.W.nsIn K mainGlobals "len" = some none)
    (z_list : PySem.W.nsIn K mainGlobals "list" = some none)
    (z_range : PySem.W.nsIn K mainGlobals "range" = some none)
    (z_repr : PySem.W.nsIn K mainGlobals "repr" = some none)
    (z_set : PySem.W.nsIn K mainGlobals "set" = some none)
    (z_sorted : PySem.W.nsIn K mainGlobals "sorted" = some none)
    (z_str : PySem.W.nsIn K mainGlobals "str" = some none)
    (z_tuple : PySem.W.nsIn K mainGlobals "tuple" = some none)
    (z_zip : PySem.W.nsIn K mainGlobals "zip" = some none)
    (y0 : PySem.W.nsIn K mainGlobals "LONGEST_NAME" = some (some (.int 8 tk0))) :
    ∃ fd : FuncData, (∀ (s : Shared) (v : Value), BindsTo s fd ⟨[v], []⟩ [("_law_script", v)]) ∧ ∀ base : Heap, K.In base → base.Ns mainGlobals mg → FnG l.prog w K mg base CX0 7 fa fd ["_law_script"] (SpLaw K) := by
  have e := hfa.symm.trans (PySem.W.mg_of X G a1)
  cases e
  have F1 : L2.Fun K "law" "law" slaw fa _ := fun_mk l1 c1 k1
  have N : ∀ {x : Str}, PySem.W.nsIn K mainGlobals x = some none → mg x = none := fun z => PySem.W.mg_none_of X G z
  have T : Txt mg := ⟨N z_abs, N z_all, N z_bool, N z_int, N z_isinstance, N z_len, N z_list, N z_range, N z_repr, N z_set, N z_sorted, N z_str, N z_tuple, N z_zip, ⟨_, PySem.W.mg_of X G y0, _, rfl⟩⟩
  have cl : Cls K C := ⟨pg, hd, po, sa⟩
  have dd : Vw.Dft K a0 := ⟨_, nA, lA, rfl, rfl⟩
  have nk : NoKin K C := ⟨fun d => by cases d with | none => exact e0 | bool _ => exact e1 | int _ => exact e2 | str _ => exact e3 | list _ => exact e4 | tuple _ => exact e5 | dict _ => exact e6, fun d => by cases d with | none => exact u0 | bool _ => exact u1 | int _ => exact u2 | str _ => exact u3 | list _ => exact u4 | tuple _ => exact u5 | dict _ => exact u6⟩
  let B : Bk ⟨l.prog, w, K⟩ := { C := C, cl := cl, ic := ⟨cl, b1, b2, b3, b4, b5⟩, nk := nk, n__things := n0, n__truths := n1, n__answers := n2, n_kept := n3, df := a0, dft := dd, ni_list := ni_list }
  have FD : FunD K "__init__" "Book.__init__" (C8.fnArgs sBook__init__) (C8.fnBody sBook__init__) (C8.fnScope sBook__init__) [V.ref a0] [] fI (PySem.W.fnOf "__init__" "Book.__init__" (C8.fnArgs sBook__init__) (C8.fnBody sBook__init__) (C8.fnScope sBook__init__) (.ref T0) kVI dcI pmI anI cdI ctI) :=
    ⟨⟨ocI, odI, .ref T0, kVI, dcI, pmI, anI, cdI, ctI, slI, rfl, lI, cI, .inr ⟨by simp, T0, _, [.ref a0], nT, rfl, lT, rfl, .cons rfl .nil⟩, .inl rfl⟩, kI⟩
  have bI : Binds K (PySem.W.fnOf "__init__" "Book.__init__" (C8.fnArgs sBook__init__) (C8.fnBody sBook__init__) (C8.fnScope sBook__init__) (.ref T0) kVI dcI pmI anI cdI ctI) ["self", "things", "answers"] [.ref a0] := by
    obtain ⟨ds, rv, hb⟩ := FD.binds1 (ps := ["self", "things", "answers"]) 2 0 (by simp) rfl fun T kV doc pm an cdv ct us its hu hi => match us, its, hu, hi with | [_, _], [_], _, _ => ⟨_, rfl, rfl⟩
    have rv' : Vals [V.ref a0] ds := rv
    cases rv' with
    | @cons _ u _ _ r1 r2 =>
      cases r2
      obtain rfl : u = Value.ref a0 := r1
      exact hb
  have bI0 : Binds K (PySem.W.fnOf "__init__" "Book.__init__" (C8.fnArgs sBook__init__) (C8.fnBody sBook__init__) (C8.fnScope sBook__init__) (.ref T0) kVI dcI pmI anI cdI ctI) ["self", "things", "answers"] [] := by
    obtain ⟨ds, rv, hb⟩ := FD.binds1 (ps := ["self", "things", "answers"]) 3 1 (by simp) rfl fun T kV doc pm an cdv ct us its hu hi => match us, its, hu, hi with | [_, _, _], [_], _, _ => ⟨_, rfl, rfl⟩
    have rv' : Vals [] ds := rv
    cases rv'
    exact hb
  have O : Own l.prog w K mg B := { hm := PySem.W.mg_of X G aC, fnk := fun f e => by rw [g1] at e; cases e; exact g2, hne := hne, hmo := b4, made := ⟨fI, _, ⟨mk, ai, ii, kc⟩, ⟨⟨ocI, odI, .ref T0, kVI, dcI, pmI, anI, cdI, ctI, slI, rfl, lI, cI⟩⟩, bI0, bI⟩ }
  refine ⟨PySem.W.fnOf "law" "law" (defArgs slaw) (defBody slaw) (defScope slaw) .none kV1 dc1 pm1 an1 cd1 ct1, fun s v => .of_eq rfl, fun base Xb Gb => ?_⟩
  have cis_name := okis_name (P := l.prog) (w := w) Xb Gb T d_is_name 
  have cis_pair := okis_pair (P := l.prog) (w := w) Xb Gb T d_is_pair cis_name
  have cis_answer := okis_answer (P := l.prog) (w := w) Xb Gb T d_is_answer cis_pair
  have care_names := okare_names (P := l.prog) (w := w) Xb Gb T d_are_names cis_name
  have care_answers := okare_answers (P := l.prog) (w := w) Xb Gb T d_are_answers cis_answer
  have cfirst_stranger := okfirst_stranger (P := l.prog) (w := w) Xb Gb T d_first_stranger 
  have cpair_of := okpair_of (P := l.prog) (w := w) Xb Gb T d_pair_of 
  have cends_of := okends_of (P := l.prog) (w := w) Xb Gb T d_ends_of 
  have o_contains := okBook__contains__ (P := l.prog) (w := w) (base := base) T B O cis_answer cpair_of m___contains__
  have cis_walk := okis_walk (P := l.prog) (w := w) Xb Gb T B O d_is_walk o_contains cends_of
  have cweight_of := okweight_of (P := l.prog) (w := w) Xb Gb T d_weight_of 
  have cthings_through := okthings_through (P := l.prog) (w := w) Xb Gb T d_things_through cends_of
  have c_Book := okBook__init__ (P := l.prog) (w := w) (base := base) T B O care_answers care_names cfirst_stranger cpair_of
  have c_BookD := okBook__init__D (P := l.prog) (w := w) (base := base) T B O care_answers care_names cfirst_stranger cpair_of
  have c_law_bag := ok_law_bag (P := l.prog) (w := w) Xb Gb T d__law_bag 
  have c_law_take := ok_law_take (P := l.prog) (w := w) Xb Gb T d__law_take 
  have c_law_alike := ok_law_alike (P := l.prog) (w := w) Xb Gb T d__law_alike 
  have c_law_pick := ok_law_pick (P := l.prog) (w := w) Xb Gb T d__law_pick c_law_take
  have c_law_mix := ok_law_mix (P := l.prog) (w := w) Xb Gb T d__law_mix c_law_take
  have c_law_names := ok_law_names (P := l.prog) (w := w) Xb Gb T d__law_names c_law_mix c_law_take
  have c_law_pairs := ok_law_pairs (P := l.prog) (w := w) Xb Gb T d__law_pairs 
  have c_law_any := ok_law_any (P := l.prog) (w := w) Xb Gb T d__law_any c_law_mix c_law_pairs c_law_take
  have c_law_leads := ok_law_leads (P := l.prog) (w := w) Xb Gb T d__law_leads 
  have c_law_weight := ok_law_weight (P := l.prog) (w := w) Xb Gb T d__law_weight 
  have c_law_walk := ok_law_walk (P := l.prog) (w := w) Xb Gb T d__law_walk c_law_leads c_law_pick c_law_take
  have c_law_is_walk := ok_law_is_walk (P := l.prog) (w := w) Xb Gb T B O d__law_is_walk c_law_leads
  have c_law_odd_walk := ok_law_odd_walk (P := l.prog) (w := w) Xb Gb T d__law_odd_walk c_law_pairs c_law_pick c_law_take
  have c_law_told := ok_law_told (P := l.prog) (w := w) Xb Gb T d__law_told c_law_leads
  exact fn_weak (oklaw F1 T B O c_Book c_BookD c_law_alike c_law_any c_law_bag c_law_is_walk c_law_names c_law_odd_walk c_law_take c_law_told c_law_walk c_law_weight cis_walk cthings_through cweight_of) fun vs H Q E q => spLaw_of (fun ns => law_main) q
theorem walk {l : PySem.W.OpenLaw} {q : Program} {loose : List Str} {XP : (Str → Option Value) → Heap → Prop} {YP : World → Heap → Prop} {d : DefRec} {K : Params → PySem.W.Frag} (hn : l.most = some 63) (hdf : d.params.defaults = [])
    (hY : ∀ (w : World) (h : Heap), YP w h → (K w.params).In h)
    (F : ∀ (w : World) (mg : Str → Option Value) (fa : Addr) (h : Heap), (K w.params).In h → h.Ns mainGlobals mg → mg d.name = some (.ref fa) →
      ∃ fd : FuncData, (∀ (s : Shared) (u : Value), BindsTo s fd ⟨[u], []⟩ [("_law_script", u)]) ∧ ∀ base : Heap, (K w.params).In base → base.Ns mainGlobals mg → FnG l.prog w (K w.params) mg base CX0 7 fa fd ["_law_script"] (SpLaw (K w.params))) :
    PySem.W.WalkO q loose XP YP l.row.toRowW d [] (fun f vs => PySem.call f vs) :=
  Gd.walk_ofG (n := 63) (k := 7) (x := "_law_script") (CX := fun _ => CX0) (sp := fun w => SpLaw (K w.params)) hn (by decide) hdf ⟨rfl, by decide, by decide⟩ hY F (fun _ _ a ns hl hO hS => ⟨a, ns, rfl, hS, hO, hl, fun _ => rfl⟩) fun _ _ _ _ _ z => z
end LW

open PySem PySem.W PyProof.Rows
set_option Elab.async false
set_option maxRecDepth 100000 in
set_option maxHeartbeats 0 in
theorem PySem.Challenge.cw_barelybetter_k20_walks_told_holds : PySem.Challenge.rw_barelybetter_k20_walks_told.Holds := by
  w_on; o_law; k_head; (case hw => w_witness2)
  k_fill
  refine LW.walk (l := PySem.Challenge.rw_barelybetter_k20_walks_told) rfl rfl (fun w h Y => PySem.W.kIn_of Y) ?F
  case F =>
    intro w mg fa h KX G hmg
    refine' LW.all_mk KX G hmg ?a1 ?l1 ?c1 ?k1 (LW.at_mk ?p0 ?q0 ?r0 ?s0) (LW.at_mk ?p1 ?q1 ?r1 ?s1) (LW.at_mk ?p2 ?q2 ?r2 ?s2) (LW.at_mk ?p3 ?q3 ?r3 ?s3) (LW.at_mk ?p4 ?q4 ?r4 ?s4) (LW.at_mk ?p5 ?q5 ?r5 ?s5) (LW.at_mk ?p6 ?q6 ?r6 ?s6) (LW.at_mk ?p7 ?q7 ?r7 ?s7) (LW.at_mk ?p8 ?q8 ?r8 ?s8) (LW.at_mk ?p9 ?q9 ?r9 ?s9) (LW.at_mk ?p10 ?q10 ?r10 ?s10) (LW.at_mk ?p11 ?q11 ?r11 ?s11) (LW.at_mk ?p12 ?q12 ?r12 ?s12) (LW.at_mk ?p13 ?q13 ?r13 ?s13) (LW.at_mk ?p14 ?q14 ?r14 ?s14) (LW.at_mk ?p15 ?q15 ?r15 ?s15) (LW.at_mk ?p16 ?q16 ?r16 ?s16) (LW.at_mk ?p17 ?q17 ?r17 ?s17) (LW.at_mk ?p18 ?q18 ?r18 ?s18) (LW.at_mk ?p19 ?q19 ?r19 ?s19) (LW.at_mk ?p20 ?q20 ?r20 ?s20) (LW.at_mk ?p21 ?q21 ?r21 ?s21) (LW.at_mk ?p22 ?q22 ?r22 ?s22) (LW.at_mk ?p23 ?q23 ?r23 ?s23) (LW.at_mk ?p24 ?q24 ?r24 ?s24) ?aC ?mk ?ai ?ii ?kc ?lI ?cI ?kI ?lT ?lA ?pg ?hd ?po ?sa ?n0 ?n1 ?n2 ?n3 ?b1 ?b2 ?b3 ?b4 ?b5 ?e0 ?e1 ?e2 ?e3 ?e4 ?e5 ?e6 ?u0 ?u1 ?u2 ?u3 ?u4 ?u5 ?u6 ?hne ?g1 ?g2 ?ni_list (LW.met_mk ?mp0 ?mq0 ?mr0 ?ms0 ?mt0) ?z_abs ?z_all ?z_bool ?z_int ?z_isinstance ?z_len ?z_list ?z_range ?z_repr ?z_set ?z_sorted ?z_str ?z_tuple ?z_zip ?y0
    (case a1 => k_is)
    (case l1 => k_is)
    (case c1 => k_is)
    (case k1 => k_is)
    (case p0 => k_is)
    (case q0 => k_is)
    (case r0 => k_is)
    (case s0 => k_is)
    (case p1 => k_is)
    (case q1 => k_is)
    (case r1 => k_is)
    (case s1 => k_is)
    (case p2 => k_is)
    (case q2 => k_is)
    (case r2 => k_is)
    (case s2 => k_is)
    (case p3 => k_is)
    (case q3 => k_is)
    (case r3 => k_is)
    (case s3 => k_is)
    (case p4 => k_is)
    (case q4 => k_is)
    (case r4 => k_is)
    (case s4 => k_is)
    (case p5 => k_is)
    (case q5 => k_is)
    (case r5 => k_is)
    (case s5 => k_is)
    (case p6 => k_is)
    (case q6 => k_is)
    (case r6 => k_is)
    (case s6 => k_is)
    (case p7 => k_is)
    (case q7 => k_is)
    (case r7 => k_is)
    (case s7 => k_is)
    (case p8 => k_is)
    (case q8 => k_is)
    (case r8 => k_is)
    (case s8 => k_is)
    (case p9 => k_is)
    (case q9 => k_is)
    (case r9 => k_is)
    (case s9 => k_is)
    (case p10 => k_is)
    (case q10 => k_is)
    (case r10 => k_is)
    (case s10 => k_is)
    (case p11 => k_is)
    (case q11 => k_is)
    (case r11 => k_is)
    (case s11 => k_is)
    (case p12 => k_is)
    (case q12 => k_is)
    (case r12 => k_is)
    (case s12 => k_is)
    (case p13 => k_is)
    (case q13 => k_is)
    (case r13 => k_is)
    (case s13 => k_is)
    (case p14 => k_is)
    (case q14 => k_is)
    (case r14 => k_is)
    (case s14 => k_is)
    (case p15 => k_is)
    (case q15 => k_is)
    (case r15 => k_is)
    (case s15 => k_is)
    (case p16 => k_is)
    (case q16 => k_is)
    (case r16 => k_is)
    (case s16 => k_is)
    (case p17 => k_is)
    (case q17 => k_is)
    (case r17 => k_is)
    (case s17 => k_is)
    (case p18 => k_is)
    (case q18 => k_is)
    (case r18 => k_is)
    (case s18 => k_is)
    (case p19 => k_is)
    (case q19 => k_is)
    (case r19 => k_is)
    (case s19 => k_is)
    (case p20 => k_is)
    (case q20 => k_is)
    (case r20 => k_is)
    (case s20 => k_is)
    (case p21 => k_is)
    (case q21 => k_is)
    (case r21 => k_is)
    (case s21 => k_is)
    (case p22 => k_is)
    (case q22 => k_is)
    (case r22 => k_is)
    (case s22 => k_is)
    (case p23 => k_is)
    (case q23 => k_is)
    (case r23 => k_is)
    (case s23 => k_is)
    (case p24 => k_is)
    (case q24 => k_is)
    (case r24 => k_is)
    (case s24 => k_is)
    (case aC => k_is)
    (case mk => k_is)
    (case ai => k_is)
    (case ii => k_is)
    (case kc => k_is)
    (case lI => k_is)
    (case cI => k_is)
    (case kI => k_is)
    (case lT => k_is)
    (case lA => k_is)
    (case pg => k_is)
    (case hd => k_is)
    (case po => k_is)
    (case sa => k_is)
    (case n0 => k_is)
    (case n1 => k_is)
    (case n2 => k_is)
    (case n3 => k_is)
    (case b1 => k_is)
    (case b2 => k_is)
    (case b3 => k_is)
    (case b4 => k_is)
    (case b5 => kit_is)
    (case e0 => kit_is)
    (case e1 => kit_is)
    (case e2 => kit_is)
    (case e3 => kit_is)
    (case e4 => kit_is)
    (case e5 => kit_is)
    (case e6 => kit_is)
    (case u0 => k_is)
    (case u1 => k_is)
    (case u2 => k_is)
    (case u3 => k_is)
    (case u4 => k_is)
    (case u5 => k_is)
    (case u6 => k_is)
    (case hne => k_is)
    (case g1 => k_is)
    (case g2 => k_is)
    (case ni_list => kit_is)
    (case mp0 => k_is)
    (case mq0 => k_is)
    (case mr0 => k_is)
    (case ms0 => k_is)
    (case mt0 => k_is)
    (case z_abs => k_is)
    (case z_all => k_is)
    (case z_bool => k_is)
    (case z_int => k_is)
    (case z_isinstance => k_is)
    (case z_len => k_is)
    (case z_list => k_is)
    (case z_range => k_is)
    (case z_repr => k_is)
    (case z_set => k_is)
    (case z_sorted => k_is)
    (case z_str => k_is)
    (case z_tuple => k_is)
    (case z_zip => k_is)
    (case y0 => k_is)
